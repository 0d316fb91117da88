import PyProof.Rows.All
import Wide.All
import OpenK.AllK
import Wide.FinOn
import PyProof.EqAt
import PyProof.EqKinds
import PyProof.TupleCall
import OpenK.KCls
import PyProof.ExcClass2
import PyProof.ExcBaseAll.ValueError
import PyProof.ExcArgs
import PyProof.Rows.Exc
import KE.KIsAll
import PyProof.StationsW
import PyProof.EnumFor
import PyProof.EnumStmt
import PyProof.EnumMake
import PyProof.NeKinds
import PyProof.Rows.SumAny
import KE.KDictSum
import PyProof.Rows.SortWalk
import PyProof.Rows.Range3
import PyProof.Rows.SetFrom
import KE.KEqDict
import PyProof.Rows.DictUnroll
import KE.KRevSl
import PyProof.AutoListH
import PyProof.AttrMiss
import KE.KRevIter
import PyProof.SeqI3
import Wide.Seal
import PySem.Challenge.RW_stillheap_k14_whole_an_endless_heap
set_option Elab.async false
set_option linter.all false
set_option maxRecDepth 100000
set_option maxHeartbeats 4000000
set_option exponentiation.threshold 4000
section
namespace L2
open PySem PySem.Spec PyProof.Rows
abbrev Key:=Sum Int Str
def pB:Key→Value→Bool
  | .inl k,v=>Value.isInt k v
  | .inr x,v=>Value.isStrOf x v
def Zk (w:World):Key→Int
  | .inl k=>hashInt k
  | .inr x=>hashStr w x
theorem bV:∀ {k:Key} {v:Value},pB k v=true→(∃ i t,k=Sum.inl i∧v=Value.int i t)∨(∃ x t,k=Sum.inr x∧v=Value.str x t)
  | .inl i,v,h=>by
    obtain ⟨t,e⟩:=Value.isInt_shape (k:=i) (v:=v) h
    exact .inl ⟨i,t,rfl,e⟩
  | .inr x,v,h=>by
    obtain ⟨t,e⟩:=Value.isStrOf_shape (x:=x) (v:=v) h
    exact .inr ⟨x,t,rfl,e⟩
theorem Kv (i:Int) (t:Tok):pB (.inl i) (.int i t)=true:=by simp [pB,Value.isInt]
theorem Kw (x:Str) (t:Tok):pB (.inr x) (.str x t)=true:=by simp [pB,Value.isStrOf]
theorem V0 (a b:Int):decide ((Sum.inl a:Key)=Sum.inl b)=(a == b):=by
  by_cases e:a=b
  · subst e;simp
  · have h:¬(Sum.inl a:Key)=Sum.inl b:=fun q=>e (Sum.inl.inj q)
    rw [decide_eq_false h]
    exact (beq_eq_false_iff_ne.mpr e).symm
theorem V1 (a b:Str):decide ((Sum.inr a:Key)=Sum.inr b)=decide (a=b):=by
  by_cases e:a=b
  · subst e;simp
  · have h:¬(Sum.inr a:Key)=Sum.inr b:=fun q=>e (Sum.inr.inj q)
    rw [decide_eq_false h,decide_eq_false e]
theorem V2 (a:Int) (b:Str):decide ((Sum.inl a:Key)=Sum.inr b)=false:=decide_eq_false (fun q=>nomatch q)
theorem V3 (a:Str) (b:Int):decide ((Sum.inr a:Key)=Sum.inl b)=false:=decide_eq_false (fun q=>nomatch q)
def di (prog:Program) (w:World):PySem.KeyKind prog w Key where
  is:=pB
  hash:=Zk w
  inj:=fun v a b ha hb=>by
    rcases bV ha with ⟨i,t,rfl,rfl⟩|⟨x,t,rfl,rfl⟩
    · rcases bV hb with ⟨j,u,rfl,e⟩|⟨y,u,rfl,e⟩
      · injection e with e1 _;rw [e1]
      · exact nomatch e
    · rcases bV hb with ⟨j,u,rfl,e⟩|⟨y,u,rfl,e⟩
      · exact nomatch e
      · injection e with e1 _;rw [e1]
  byValue:=fun k v h=>by
    rcases bV h with ⟨i,t,rfl,rfl⟩|⟨x,t,rfl,rfl⟩<;>rfl
  pyHash:=fun hv h=>by
    rcases bV hv with ⟨i,t,rfl,rfl⟩|⟨x,t,rfl,rfl⟩
    · exact wpAny_pyHash_int h
    · exact wpAny_pyHash_str h
  eqBool:=fun hu hv h=>by
    rcases bV hu with ⟨i,t,rfl,rfl⟩|⟨x,t,rfl,rfl⟩
    · rcases bV hv with ⟨j,u,rfl,rfl⟩|⟨y,u,rfl,rfl⟩
      · rw [V0] at h;exact wpAny_eqBool_int h
      · rw [V2] at h;exact SeqAt.EqAt.int_str i t y u _ _ _ _ h
    · rcases bV hv with ⟨j,u,rfl,rfl⟩|⟨y,u,rfl,rfl⟩
      · rw [V3] at h;exact SeqAt.EqAt.str_int x t j u _ _ _ _ h
      · rw [V1] at h;exact wpAny_eqBool_str h
  «strs» := fun k x t v h=>by
    rcases bV h with ⟨i,u,rfl,e⟩|⟨y,u,rfl,e⟩
    · exact nomatch e
    · injection e with e1 _
      subst e1
      cases v<;>rfl
theorem FO (prog:Program) (w:World) (i:Int) (t:Tok):(di prog w).is (.inl i) (.int i t)=true:=Kv i t
theorem FP (prog:Program) (w:World) (x:Str) (t:Tok):(di prog w).is (.inr x) (.str x t)=true:=Kw x t
end L2
namespace L2
open PySem PySem.Spec PyProof.Rows
inductive V where
  | non|bl (b:Bool)|int (i:Int)|str (x:Str)|byt (b:Array UInt8)|flt (b:UInt64)|ref (a:Addr)|ty (n:String)
  deriving DecidableEq
def RelV:V→Value→Prop
  | .non,u=>u=Value.none
  | .bl b,u=>u=Value.bool b
  | .int i,u=>∃ t,u=Value.int i t
  | .str x,u=>∃ t,u=Value.str x t
  | .byt b,u=>∃ t,u=Value.bytes b t
  | .flt b,u=>∃ t,u=Value.float b t
  | .ref a,u=>u=Value.ref a
  | .ty n,u=>u=Value.type n
abbrev Vals:List V→List Value→Prop:=Paired RelV
theorem Vals.length {xs:List V} {us:List Value} (r:Vals xs us):xs.length=us.length:=Paired.length r
theorem Vals.get:∀ {xs:List V} {us:List Value} {i:Nat} {x:V},Vals xs us→xs[i]?=some x→∃ u,us[i]?=some u∧RelV x u
  | _,_,_,_,.nil,e=>by simp at e
  | _,_,0,_,.cons r _,e=>by simp at e;subst e;exact ⟨_,rfl,r⟩
  | _,_,i+1,x,.cons _ t,e=>by
    obtain ⟨u,h1,h2⟩:=Vals.get (i:=i) (x:=x) t (by simpa using e)
    exact ⟨u,by simpa using h1,h2⟩
theorem Vals.set {x:V} {u:Value} (r:RelV x u):∀ {xs:List V} {us:List Value} (i:Nat),Vals xs us→Vals (xs.set i x) (us.set i u)
  | _,_,_,.nil=>.nil
  | _,_,0,.cons _ t=>.cons r t
  | _,_,i+1,.cons q t=>.cons q (Vals.set r i t)
theorem Vals.append:∀ {xs ys:List V} {us ws:List Value},Vals xs us→Vals ys ws→Vals (xs++ys) (us++ws)
  | _,_,_,_,.nil,s=>s
  | _,_,_,_,.cons r t,s=>.cons r (Vals.append t s)
theorem Vals.take:∀ {xs:List V} {us:List Value} (n:Nat),Vals xs us→Vals (xs.take n) (us.take n)
  | _,_,0,_=>.nil
  | _,_,_+1,.nil=>.nil
  | _,_,n+1,.cons r t=>.cons r (Vals.take n t)
theorem Vals.drop:∀ {xs:List V} {us:List Value} (n:Nat),Vals xs us→Vals (xs.drop n) (us.drop n)
  | _,_,0,r=>r
  | _,_,_+1,.nil=>.nil
  | _,_,n+1,.cons _ t=>Vals.drop n t
def xD:Option V→Option Value→Prop
  | some v,some u=>RelV v u
  | none,none=>True
  | _,_=>False
def KV {κ:Type}:List (κ×V)→List (κ×Value)→Prop:=Paired fun (p:κ×V) (q:κ×Value)=>p.1=q.1∧RelV p.2 q.2
def kV:Key→V
  | .inl i=>.int i
  | .inr x=>.str x
inductive HO where
  | lst (xs:List V)
  | tup (xs:List V)
  | dK (kvs:List (Key×V))|dT (kvs:List (List Key×V))
  | set (S:Int→Bool) (n:Nat)
  | ins (C dx:Addr) (fs:List (Str×V))
  | own (x:Addr)
  | xd (fs:List (Str×V))
  | met (f x:Addr)
  | rng (lo hi:Int)
  | frz (o:Obj) (u:HO)
  | tbl (ps:Array Value)
  | ext (φ:Heap→Prop)
abbrev Hp:=Addr→Option HO
def upd (H:Hp) (a:Addr) (o:HO):Hp:=fun b=>if b=a then some o else H b
theorem ag {H:Hp} {a:Addr} {o:HO}:upd H a o a=some o:=by unfold upd;rw [if_pos rfl]
theorem ae {H:Hp} {a b:Addr} {o:HO} (h:b≠a):upd H a o b=H b:=by unfold upd;rw [if_neg h]
theorem aw {H:Hp} {a b:Addr} {o u:HO} (h:H a=some o) (h':H b=some u) (d:o≠u):a≠b:=by
  intro e;subst e;rw [h] at h';exact d (Option.some.inj h')
theorem ar {H:Hp} {a b:Addr} {o:HO} (h:H a=some o) (h':H b=none):a≠b:=by
  intro e;subst e;rw [h] at h';cases h'
section
variable (P:Program) (w:World)
def en (H:Hp) (h:Heap) (a:Addr):HO→Prop
  | .lst xs=>xs.length≤sizeLine∧∃ (its:List Value) (n:Nat),Vals xs its∧h.get? a=some {cls:=.type "list",data:=.seq its.toArray n}
  | .tup xs=>xs.length≤sizeLine∧∃ its:List Value,Vals xs its∧IsTup h a its.toArray
  | .dK kvs=>kvs.length≤sizeLine∧(a == sysModules)=false∧∃ vs,KV kvs vs∧h.DictOf (di P w) a vs
  | .dT kvs=>kvs.length≤sizeLine∧(a == sysModules)=false∧∃ xs:List (List Key×Addr×Value),
      Paired (fun (p:List Key×V) (q:List Key×Addr×Value)=>p.1=q.1∧H q.2.1=some (.tup (p.1.map kV))∧RelV p.2 q.2.2) kvs xs ∧
      ∃ o es ep,h.get? a=some o∧o.ExactDict∧o.data=.dict es ep∧es.toList=xs.map (entryOfKey (tupleKind (di P w)))∧(xs.map (·.1)).Nodup
  | .set S n=>h.SetOf (intKind P w) a S n
  | .ins C dx fs=>H dx=some (.own a)∧fs.length≤1000∧dx≠a∧h.get? a=some (PySem.W.instObj C dx) ∧
      ∃ mA,h.Ns1 dx mA∧(∀ f,xD (fs.lookup f) (mA f))∧PySem.Within mA (fs.map (·.1))
  | .own _=>∃ o,h.get? a=some o
  | .xd fs=>∃ mA,h.Ns1 a mA∧∀ f,xD (fs.lookup f) (mA f)
  | .rng lo hi=>∃ t u v,h.get? a=some {cls:=.type "range",data:=.fields #[.int lo t,.int hi u,.int 1 v]}
  | .frz o u=>h.get? a=some o∧en H h a u
  | .tbl ps=>h.get? a=some {cls:=.none,data:=.fields ps}
  | .met f x=>h.get? a=some (PySem.W.methodObj (.ref f) (.ref x))
  | .ext φ=>φ h∧(∃ o,h.get? a=some o)∧∀ h1 h2:Heap,φ h1→(∀ o,h1.get? a=some o→h2.get? a=some o)→φ h2
def HOk (H:Hp) (h:Heap):Prop:=∀ a o,H a=some o→en P w H h a o
end
section
variable {P:Program} {w:World} {H H':Hp} {h h':Heap} {a:Addr} {o:HO}
theorem en.lt (x:en P w H h a o):a<h.objs.size:=by
  cases o with
  | lst xs=>obtain ⟨_,_,_,_,e⟩:=x;exact Heap.lt_size e
  | tup xs=>obtain ⟨_,_,_,p⟩:=x;exact p.lt
  | dK kvs=>obtain ⟨_,_,_,_,o,_,_,e,_⟩:=x;exact Heap.lt_size e
  | dT kvs=>obtain ⟨_,_,_,_,o,_,_,e,_⟩:=x;exact Heap.lt_size e
  | set S n=>obtain ⟨o,_,_,_,e,_⟩:=x;exact Heap.lt_size e
  | ins C dx fs=>obtain ⟨_,_,_,e,_⟩:=x;exact Heap.lt_size e
  | own y=>obtain ⟨_,e⟩:=x;exact Heap.lt_size e
  | xd fs=>obtain ⟨_,⟨_,_,_,e,_⟩,_⟩:=x;exact Heap.lt_size e
  | rng lo hi=>obtain ⟨_,_,_,e⟩:=x;exact Heap.lt_size e
  | frz ob u=>obtain ⟨e,_⟩:=x;exact Heap.lt_size e
  | tbl ps=>exact Heap.lt_size (show h.get? a=some _ from x)
  | met f y=>exact Heap.lt_size (show h.get? a=some _ from x)
  | ext φ=>obtain ⟨_,⟨_,e⟩,_⟩:=x;exact Heap.lt_size e
theorem Paired.WQ {α β:Type} {F G:α→β→Prop}:∀ {l₁:List α} {l₂:List β},Paired F l₁ l₂→(∀ a b,F a b→G a b)→Paired G l₁ l₂
  | _,_,.nil,_=>.nil
  | _,_,.cons r t,f=>.cons (f _ _ r) (Paired.WQ t f)
theorem en.Fq (x:en P w H h a o) (k:∀ b u,(b=a∨H b=some (.own a))→h.get? b=some u→h'.get? b=some u)
    (ho:∀ b,H b=some (.own a)→H' b=some (.own a)) (ht:∀ b xs,H b=some (.tup xs)→H' b=some (.tup xs)):en P w H' h' a o:=by
  induction o with
  | lst xs=>obtain ⟨z,its,n,r,e⟩:=x;exact ⟨z,its,n,r,k _ _ (.inl rfl) e⟩
  | tup xs=>obtain ⟨z,its,r,ob,e,c⟩:=x;exact ⟨z,its,r,ob,k _ _ (.inl rfl) e,c⟩
  | dK kvs=>obtain ⟨z,y,vs,r,ob,es,ep,e,c⟩:=x;exact ⟨z,y,vs,r,ob,es,ep,k _ _ (.inl rfl) e,c⟩
  | dT kvs =>
    obtain ⟨z,y,xs,r,ob,es,ep,e,c⟩:=x
    exact ⟨z,y,xs,Paired.WQ r fun p q z=>⟨z.1,ht _ _ z.2.1,z.2.2⟩,ob,es,ep,k _ _ (.inl rfl) e,c⟩
  | set S n=>obtain ⟨ob,es,ep,t,e,c⟩:=x;exact ⟨ob,es,ep,t,k _ _ (.inl rfl) e,c⟩
  | ins C dx fs =>
    obtain ⟨d,z,ne,e,mA,⟨od,es,ep,e2,c⟩,r⟩:=x
    exact ⟨ho _ d,z,ne,k _ _ (.inl rfl) e,mA,⟨od,es,ep,k _ _ (.inr d) e2,c⟩,r⟩
  | own y=>obtain ⟨ob,e⟩:=x;exact ⟨ob,k _ _ (.inl rfl) e⟩
  | xd fs=>obtain ⟨mA,⟨od,es,ep,e,c⟩,r⟩:=x;exact ⟨mA,⟨od,es,ep,k _ _ (.inl rfl) e,c⟩,r⟩
  | rng lo hi=>obtain ⟨t,u,v,e⟩:=x;exact ⟨t,u,v,k _ _ (.inl rfl) e⟩
  | frz ob u ih=>obtain ⟨e,q⟩:=x;exact ⟨k _ _ (.inl rfl) e,ih q⟩
  | tbl ps =>
    have e:h.get? a=some {cls:=.none,data:=.fields ps}:=x
    show h'.get? a=some {cls:=.none,data:=.fields ps}
    exact k a _ (.inl rfl) e
  | met f y =>
    have e:h.get? a=some (PySem.W.methodObj (.ref f) (.ref y)):=x
    show h'.get? a=some (PySem.W.methodObj (.ref f) (.ref y))
    exact k a _ (.inl rfl) e
  | ext φ=>obtain ⟨p,⟨o,e⟩,st⟩:=x;exact ⟨st _ _ p fun o q=>k _ _ (.inl rfl) q,⟨o,k _ _ (.inl rfl) e⟩,st⟩
theorem HOk.lt (x:HOk P w H h) (e:H a=some o):a<h.objs.size:=(x a o e).lt
theorem HOk.fresh (x:HOk P w H h) (e:h.objs.size≤a):H a=none:=by
  cases q:H a with
  | none=>rfl
  | some u=>exact absurd (Nat.lt_of_lt_of_le (x.lt q) e) (Nat.lt_irrefl _)
theorem HOk.kept (x:HOk P w H h) (k:∀ b u,h.get? b=some u→h'.get? b=some u):HOk P w H h':=fun a o e =>
  (x a o e).Fq (fun b u _ q=>k b u q) (fun _ q=>q) fun _ _ q=>q
theorem HOk.laid (x:HOk P w H h) (k:∀ b u,h.get? b=some u→h'.get? b=some u) (hp:h.objs.size≤a) (new:en P w (upd H a o) h' a o):HOk P w (upd H a o) h':=fun b u e=>by
  have hn:=x.fresh hp
  by_cases hb:b=a
  · subst hb;rw [ag] at e;cases e;exact new
  · rw [ae hb] at e
    exact (x b u e).Fq (fun c v _ q=>k c v q) (fun c q=>by rw [ae (ar q hn)];exact q) fun c xs q=>by rw [ae (ar q hn)];exact q
end
def Rd (H:Hp) (a:Addr) (u:HO):Prop:=H a=some u∨∃ o,H a=some (.frz o u)
theorem Rd.ok {P:Program} {w:World} {H:Hp} {h:Heap} {a:Addr} {u:HO} (r:Rd H a u) (x:HOk P w H h):en P w H h a u:=by
  rcases r with r|⟨o,r⟩
  · exact x a u r
  · obtain ⟨_,q⟩:=x a _ r
    exact q
def Mut:Option HO→Prop
  | some (.lst _)=>True
  | some (.dK _)=>True
  | some (.dT _)=>True
  | some (.set _ _)=>True
  | some (.ins _ _ _)=>True
  | some (.ext _)=>True
  | _=>False
section
variable {P:Program} {w:World} {H:Hp} {h h':Heap} {x e:Addr} {o':HO}
theorem HOk.write (ok:HOk P w H h) (mu:Mut (H x)) (he:e=x∨H e=some (.own x)) (k:∀ b u,b≠e→h.get? b=some u→h'.get? b=some u) (heo:∃ u,h'.get? e=some u)
    (new:en P w (upd H x o') h' x o'):HOk P w (upd H x o') h':=fun b u q=>by
  have Zl:∀ c y,H c=some (.own y)→c≠x:=fun c y r z=>by subst z;rw [r] at mu;exact mu
  have ZJ:∀ c xs,H c=some (.tup xs)→c≠x:=fun c xs r z=>by subst z;rw [r] at mu;exact mu
  by_cases hb:b=x
  · subst hb;rw [ag] at q;cases q;exact new
  · rw [ae hb] at q
    by_cases hbe:b=e
    · have q':H b=some (.own x):=by
        rcases he with z|z
        · exact absurd (hbe.trans z) hb
        · rw [hbe];exact z
      rw [q] at q';cases q'
      obtain ⟨v,hv⟩:=heo
      exact ⟨v,by rw [hbe];exact hv⟩
    · refine (ok b u q).Fq (fun c v hc r=>k c v ?_ r) (fun c r=>by rw [ae (Zl c b r)];exact r) fun c xs r=>by rw [ae (ZJ c xs r)];exact r
      rcases hc with rfl|hc
      · exact hbe
      · rintro rfl
        rcases he with z|z
        · exact Zl c b hc z
        · rw [hc] at z;cases z;exact hb rfl
end
structure Un (fs ex:List Addr) (H H':Hp) (h h':Heap):Prop where
  keep:∀ b o,h.get? b=some o→H b=none→b∉fs→b∉ex→h'.get? b=some o
  slot:∀ b o,h.get? b=some o→H b=none→b∈fs→b∉ex→∃ sl,h'.get? b=some {o with slots:=sl}
  free:∀ b o,h.get? b=some o→H b=none→b∉ex→H' b=none
  there:∀ b o,h.get? b=some o→b∉ex→∃ o',h'.get? b=some o'
  B9:∀ b xs,H b=some (.tup xs)→H' b=some (.tup xs)
  Bl:∀ b o u,H b=some (.frz o u)→H' b=some (.frz o u)
  Ca:∀ b ps,H b=some (.tbl ps)→∃ more,H' b=some (.tbl (ps++more))
section
variable {fs fs' ex ex':List Addr} {H H1 H2:Hp} {h h1 h2 h':Heap} {a x e:Addr} {o:HO}
theorem Un.any (u:Un fs ex H H1 h h1) {b:Addr} {ob:Obj} (q:h.get? b=some ob) (n:H b=none) (hx:b∉ex):∃ sl,h1.get? b=some {ob with slots:=sl}:=by
  by_cases hb:b∈fs
  · exact u.slot b ob q n hb hx
  · exact ⟨ob.slots,u.keep b ob q n hb hx⟩
theorem Un.kept (k:∀ b u,h.get? b=some u→h'.get? b=some u):Un fs ex H H h h' :=
  ⟨fun b ob q _ _ _=>k b ob q,fun b ob q _ _ _=>⟨ob.slots,k b ob q⟩,fun _ _ _ n _=>n,fun b ob q _=>⟨ob,k b ob q⟩,fun _ _ q=>q,fun _ _ _ q=>q,fun _ ps q=>⟨#[],by rw [q];simp⟩⟩
theorem Un.refl:Un fs ex H H h h:=Un.kept fun _ _ q=>q
theorem Un.laid (k:∀ b u,h.get? b=some u→h'.get? b=some u) (hp:h.objs.size≤a) (hn:H a=none):Un fs ex H (upd H a o) h h' where
  keep:=fun b u q _ _ _=>k b u q
  slot:=fun b u q _ _ _=>⟨u.slots,k b u q⟩
  free:=fun b u q n _=>by rw [ae (Nat.ne_of_lt (Nat.lt_of_lt_of_le (Heap.lt_size q) hp))];exact n
  there:=fun b u q _=>⟨u,k b u q⟩
  B9:=fun b xs q=>by rw [ae (ar q hn)];exact q
  Bl:=fun b u xs q=>by rw [ae (ar q hn)];exact q
  Ca:=fun b ps q=>⟨#[],by rw [ae (ar q hn),q];simp⟩
theorem Un.write (mu:Mut (H x)) (he:e=x∨H e=some (.own x)) (k:∀ b u,b≠e→h.get? b=some u→h'.get? b=some u) (heo:∃ u,h'.get? e=some u):Un fs ex H (upd H x o) h h':=by
  have hx:∀ b,H b=none→b≠x:=fun b n z=>by subst z;rw [n] at mu;exact mu
  have hb:∀ b,H b=none→b≠e:=fun b n z=>by
    subst z
    rcases he with r|r
    · exact hx b n r
    · rw [n] at r;cases r
  have hm:∀ b u,H b=some u→¬Mut (some u)→b≠x:=fun b u q nm z=>by subst z;rw [q] at mu;exact nm mu
  refine ⟨fun b u q n _ _=>k b u (hb b n) q,fun b u q n _ _=>⟨u.slots,k b u (hb b n) q⟩,fun b u q n _=>by rw [ae (hx b n)];exact n,fun b u q _=>?_,
    fun b xs q=>by rw [ae (hm b _ q fun z=>z)];exact q,fun b u xs q=>by rw [ae (hm b _ q fun z=>z)];exact q,fun b ps q=>⟨#[],by rw [ae (hm b _ q fun z=>z),q];simp⟩⟩
  by_cases hbe:b=e
  · subst hbe;exact heo
  · exact ⟨u,k b u hbe q⟩
end
def trk (h:Heap) (H:Hp):List Addr:=(List.range h.objs.size).filter fun a=>(H a).isSome
def HX (h:Heap) (H:Hp):Heap:=PySem.W.hideAll h (trk h H)
theorem Kx (h:Heap) (H:Hp):(HX h H).objs.size=h.objs.size:=PySem.W.hideAll_size _ _
theorem LR {h:Heap} {H:Hp} {b:Addr} {o:Obj} (e:h.get? b=some o) (n:H b=none):(HX h H).get? b=some o :=
  PySem.W.hideAll_get _ e fun hm=>by
    have q:(H b).isSome=true:=(List.mem_filter.mp hm).2
    rw [n] at q;simp at q
theorem NN {h:Heap} {H:Hp} {b:Addr} {o:Obj} (e:(HX h H).get? b=some o):h.get? b=some o∧H b=none:=by
  have e':h.get? b=some o:=PySem.W.of_hideAll (trk h H) e
  refine ⟨e',?_⟩
  cases q:H b with
  | none=>rfl
  | some x =>
    have hm:b∈trk h H:=List.mem_filter.mpr ⟨List.mem_range.mpr (Heap.lt_size e'),by simp [q]⟩
    have z:(HX h H).get? b=none:=PySem.W.hideAll_none (trk h H) hm
    rw [z] at e;cases e
end L2
namespace L2
open PySem PySem.Spec PyProof.Rows
structure Mod (K:W.Frag) (mg:Str→Option Value) (base:Heap):Prop where
  kin:K.In base
  glob:base.Ns mainGlobals mg
  blt:∃ mb,base.Ns builtinsNs mb∧∀ x:Str,x ≠ "__name__" → mb x=bootBuiltins x
  nolimit:base.NoLimit
structure Cx where
  prog:Program
  w:World
  K:W.Frag
  mg:Str→Option Value
  base:Heap
  A:Around
  N:List Str
  s₀:Shared
  H₀:Hp
  env:Env
  outer:List Env
  stack:List Env
  ex:List Addr
  fn:Str→Bool
  calm:Bool
  pn:List (Addr×Obj)
  xe:Value→Shared→Prop
def frs (l:List Env):List Addr:=l.filterMap (·.frame)
abbrev Cx.fs (X:Cx):List Addr:=frs X.outer
def Vis (sc:Scope) (x:Str):Prop:=sc.names.lookup x=some .local∨sc.names.lookup x=some .cell∨sc.names.lookup x=some .free
def Loc (sc:Scope) (x:Str):Prop:=sc.names.lookup x=some .local∨sc.names.lookup x=some .cell
def Look (env:Env) (h:Heap) (m:Str→Option Value) (x:Str) (u:Value):Prop :=
  (env.kindOf x=some .local∧m x=some u)∨((env.kindOf x=some .cell∨env.kindOf x=some .free)∧∃ c,env.cells.lookup x=some c∧h.IsCell c (some u))
structure Cx.Ok (X:Cx):Prop where
  mod:Mod X.K X.mg X.base
  kind:X.env.scope.kind=.function
  glob:X.env.globals=mainGlobals
  blt:X.env.builtins=builtinsNs
  above:X.s₀.heap.objs.size≤X.env.locals
  inj:∀ x y c,X.env.cells.lookup x=some c→X.env.cells.lookup y=some c→x=y
  has:∀ x,(X.env.kindOf x=some .cell∨X.env.kindOf x=some .free)→∃ c,X.env.cells.lookup x=some c
  cab:∀ x c,X.fn x=true→X.env.cells.lookup x=some c→X.s₀.heap.objs.size≤c
  hd:X.calm=true→X.A.handled=none
  frames:X.A.frames=some X.stack
  stk:X.stack=X.outer∨(X.stack=X.env::X.outer∧X.env.frame=some X.env.locals)
  exf:∀ b∈X.ex,b≠X.env.locals∧∀ x c,X.env.cells.lookup x=some c→c≠b
  bs:∀ b o,X.base.get? b=some o→X.s₀.heap.get? b=some o∧X.H₀ b=none
  bsz:X.base.objs.size≤X.s₀.heap.objs.size
  HY:∀ b o,X.base.get? b=some o→b∉X.ex
  JB:∀ b∈X.ex,b∉X.fs
  xE:X.s₀.heap.FunFrames X.base X.outer
  frf:∀ b∈X.fs,X.H₀ b=none
structure Inv (X:Cx) (pins:List (Addr×Obj)) (σ:List (Option V)) (H:Hp) (s:Shared):Prop where
  ok:X.Ok
  os:s.os=X.s₀.os
  bare:AllBare s.gens
  base:Un X.fs X.ex X.H₀ H X.s₀.heap s.heap
  loc:∃ m,s.heap.Ns X.env.locals m∧∀ (i:Nat) (x:Str) (v:V),X.N[i]?=some x→σ[i]?=some (some v)→Vis X.env.scope x→∃ u,RelV v u∧Look X.env s.heap m x u
  cell:∀ x c,X.env.cells.lookup x=some c→∃ v,s.heap.IsCell c v
  free:H X.env.locals=none
  kA:∀ x c,X.env.cells.lookup x=some c→H c=none
  pin:∀ p∈X.pn++pins,s.heap.get? p.1=some p.2∧H p.1=none∧p.1≠X.env.locals∧p.1∉X.fs∧∀ v,p.2.data≠.cell v
  hok:HOk X.prog X.w H s.heap
  len:σ.length=X.N.length
section
variable {X:Cx} {pins:List (Addr×Obj)} {σ:List (Option V)} {H H':Hp} {s:Shared} {h':Heap}
theorem Cx.Ok.ZK (ok:X.Ok) {b:Addr} {o:Obj} (e:X.base.get? b=some o):b∉X.fs:=fun hb=>by
  have:=(ok.xE.mem hb).1
  rw [e] at this;cases this
theorem Inv.bs (I:Inv X pins σ H s):∀ b o,X.base.get? b=some o→s.heap.get? b=some o∧H b=none:=fun b o e =>
  ⟨I.base.keep b o (I.ok.bs b o e).1 (I.ok.bs b o e).2 (I.ok.ZK e) (I.ok.HY b o e),I.base.free b o (I.ok.bs b o e).1 (I.ok.bs b o e).2 (I.ok.HY b o e)⟩
theorem Inv.bk (I:Inv X pins σ H s):∀ b o,X.base.get? b=some o→s.heap.get? b=some o:=fun b o e=>(I.bs b o e).1
theorem Inv.mod (I:Inv X pins σ H s):Mod X.K X.mg X.base:=I.ok.mod
theorem Inv.kIn (I:Inv X pins σ H s):X.K.In s.heap:=I.ok.mod.kin.keeps I.bk
theorem Inv.lt (I:Inv X pins σ H s):X.env.locals<s.heap.objs.size:=let ⟨_,hn,_⟩:=I.loc;hn.lt
theorem Inv.sz (I:Inv X pins σ H s):X.s₀.heap.objs.size≤s.heap.objs.size:=Nat.le_trans I.ok.above (Nat.le_of_lt I.lt)
theorem Inv.ZL (I:Inv X pins σ H s) {a:Addr} (h:s.heap.objs.size≤a):a∉X.fs:=fun hb=>by
  obtain ⟨_,o,ho,_⟩:=I.ok.xE.mem hb
  exact absurd (Nat.lt_of_lt_of_le (Heap.lt_size ho) (Nat.le_trans I.sz h)) (Nat.lt_irrefl _)
theorem Inv.cne (I:Inv X pins σ H s):∀ x c,X.env.cells.lookup x=some c→c≠X.env.locals:=fun x c e z=>by
  obtain ⟨v,o,ho,hd⟩:=I.cell x c e
  obtain ⟨m,⟨o',es,ep,ho',hd',_⟩,_⟩:=I.loc
  rw [z,ho'] at ho;cases ho;rw [hd'] at hd;cases hd
theorem Inv.xE (I:Inv X pins σ H s):s.heap.FunFrames X.base X.outer:=by
  have all:∀ (l:List Env),(∀ b∈frs l,b∈X.fs)→X.s₀.heap.FunFrames X.base l→s.heap.FunFrames X.base l:=by
    intro l
    induction l with
    | nil=>intro _ _;trivial
    | cons env r ih =>
      intro hs hl
      obtain ⟨hk,⟨L,o,hf,hn,ho,hd⟩,hr⟩:=hl
      have hL:L∈X.fs:=hs L (by unfold frs;rw [List.filterMap_cons,hf];exact List.mem_cons_self)
      obtain ⟨sl,e⟩:=I.base.slot L o ho (I.ok.frf L hL) hL fun z=>I.ok.JB L z hL
      exact ⟨hk,⟨L,_,hf,hn,e,hd⟩,ih (fun b hb=>hs b (by unfold frs;rw [List.filterMap_cons,hf];exact List.mem_cons_of_mem _ hb)) hr⟩
  exact all X.outer (fun _ hb=>hb) I.ok.xE
theorem Inv.stack (I:Inv X pins σ H s):s.heap.FunFrames X.base X.stack:=by
  rcases I.ok.stk with e|⟨e,hf⟩
  · rw [e];exact I.xE
  · rw [e]
    obtain ⟨m,hn,_⟩:=I.loc
    refine .cons (by rw [I.ok.kind];decide) hf hn ?_ I.xE
    exact Heap.get?_none_of_le (Nat.le_trans I.ok.bsz I.ok.above)
theorem Inv.Bh (I:Inv X pins σ H s):∀ b∈frs X.stack,b∈X.env.locals::X.fs:=fun b hb=>by
  rcases I.ok.stk with e|⟨e,hf⟩
  · rw [e] at hb;exact List.mem_cons_of_mem _ hb
  · rw [e] at hb
    unfold frs at hb
    rw [List.filterMap_cons,hf] at hb
    exact hb
theorem Inv.xF (I:Inv X pins σ H s):∀ b∈frs X.stack,H b=none:=fun b hb=>by
  rcases List.mem_cons.mp (I.Bh b hb) with e|hb
  · rw [e];exact I.free
  · obtain ⟨_,o,ho,_⟩:=I.ok.xE.mem hb
    exact I.base.free b o ho (I.ok.frf b hb) fun z=>I.ok.JB b z hb
theorem Inv.step {g':Array GenState} {t':Nat} {d':Drawn} {ch:List Addr} (I:Inv X pins σ H s)
    (hch:∀ b∈ch,(b∈X.ex∨X.s₀.heap.objs.size≤b)∧b≠X.env.locals∧(∀ x c,X.env.cells.lookup x=some c→c≠b)∧∀ p∈X.pn++pins,p.1≠b)
    (keep:∀ b o,b≠X.env.locals→b∉X.fs→b∉ch→s.heap.get? b=some o→H b=none→h'.get? b=some o)
    (slot:∀ b o,b≠X.env.locals→b∈X.fs→b∉ch→s.heap.get? b=some o→H b=none→∃ sl,h'.get? b=some {o with slots:=sl}) (free:∀ b o,b∉ch→s.heap.get? b=some o→H b=none→H' b=none)
    (there:∀ b o,b∉ch→s.heap.get? b=some o→∃ o',h'.get? b=some o')
    (B9:∀ b xs,H b=some (.tup xs)→H' b=some (.tup xs)) (Bl:∀ b o u,H b=some (.frz o u)→H' b=some (.frz o u)) (Ca:∀ b ps,H b=some (.tbl ps)→∃ more,H' b=some (.tbl (ps++more)))
    (ns:∀ m,s.heap.Ns X.env.locals m→h'.Ns X.env.locals m) (hok:HOk X.prog X.w H' h') (hg:AllBare g') :
    Inv X pins σ H' {s with heap:=h',gens:=g',drawn:=d',toks:=t'}:=by
  have neL:∀ b o,X.s₀.heap.get? b=some o→b≠X.env.locals:=fun b o e=>Nat.ne_of_lt (Nat.lt_of_lt_of_le (Heap.lt_size e) I.ok.above)
  have neC:∀ b o,X.s₀.heap.get? b=some o→b∉X.ex→b∉ch:=fun b o e hx hb=>by
    rcases (hch b hb).1 with z|z
    · exact hx z
    · exact absurd (Nat.lt_of_lt_of_le (Heap.lt_size e) z) (Nat.lt_irrefl _)
  have cellK:∀ x c,X.env.cells.lookup x=some c→∀ v,s.heap.IsCell c v→h'.IsCell c v:=fun x c e v ⟨o,ho,hd⟩=>by
    have nch:c∉ch:=fun z=>(hch c z).2.2.1 x c e rfl
    by_cases hc:c∈X.fs
    · obtain ⟨sl,q⟩:=slot c o (I.cne x c e) hc nch ho (I.kA x c e)
      exact ⟨_,q,hd⟩
    · exact ⟨o,keep c o (I.cne x c e) hc nch ho (I.kA x c e),hd⟩
  refine ⟨I.ok,I.os,hg,⟨fun b o e n hb hx=>?_,fun b o e n hb hx=>?_,fun b o e n hx=>?_,fun b o e hx=>?_,fun b xs e=>B9 b xs (I.base.B9 b xs e),fun b o xs e=>Bl b o xs (I.base.Bl b o xs e),fun b ps e=>?_⟩,?_,fun x c e=>?_,?_,fun x c e=>?_,fun p hp=>?_,hok,I.len⟩
  · exact keep b o (neL b o e) hb (neC b o e hx) (I.base.keep b o e n hb hx) (I.base.free b o e n hx)
  · obtain ⟨sl,e1⟩:=I.base.slot b o e n hb hx
    obtain ⟨sl',e2⟩:=slot b _ (neL b o e) hb (neC b o e hx) e1 (I.base.free b o e n hx)
    exact ⟨sl',e2⟩
  · obtain ⟨o',e1⟩:=I.base.there b o e hx
    exact free b o' (neC b o e hx) e1 (I.base.free b o e n hx)
  · obtain ⟨o',e1⟩:=I.base.there b o e hx
    exact there b o' (neC b o e hx) e1
  · obtain ⟨m1,e1⟩:=I.base.Ca b ps e
    obtain ⟨m2,e2⟩:=Ca b _ e1
    exact ⟨m1++m2,by rw [e2,Array.append_assoc]⟩
  · obtain ⟨m,hn,hl⟩:=I.loc
    refine ⟨m,ns m hn,fun i x v e1 e2 e3=>?_⟩
    obtain ⟨u,r,l⟩:=hl i x v e1 e2 e3
    refine ⟨u,r,?_⟩
    rcases l with l|⟨k,c,e,z⟩
    · exact .inl l
    · exact .inr ⟨k,c,e,cellK x c e _ z⟩
  · obtain ⟨v,z⟩:=I.cell x c e
    exact ⟨v,cellK x c e v z⟩
  · obtain ⟨m,⟨o,_,_,ho,_⟩,_⟩:=I.loc
    exact free _ o (fun z=>(hch _ z).2.1 rfl) ho I.free
  · obtain ⟨v,o,ho,hd⟩:=I.cell x c e
    exact free c o (fun z=>(hch c z).2.2.1 x c e rfl) ho (I.kA x c e)
  · obtain ⟨e,n,ne,nf,d⟩:=I.pin p hp
    have nch:p.1∉ch:=fun z=>(hch p.1 z).2.2.2 p hp rfl
    exact ⟨keep p.1 p.2 ne nf nch e n,free p.1 p.2 nch e n,ne,nf,d⟩
theorem Inv.un {t':Nat} (I:Inv X pins σ H s) (u:Un X.fs [] H H' s.heap h') (hok:HOk X.prog X.w H' h'):Inv X pins σ H' {s with heap:=h',toks:=t'}:=by
  obtain ⟨m,⟨o,es,ep,ho,r⟩,_⟩:=id I.loc
  obtain ⟨sl,hL⟩:=u.any ho I.free (by simp)
  exact I.step (g':=s.gens) (d':=s.drawn) (ch:=[]) (fun _ z=>nomatch z) (fun b o _ hb _ e n=>u.keep b o e n hb (by simp)) (fun b o _ hb _ e n=>u.slot b o e n hb (by simp)) (fun b o _ e n=>u.free b o e n (by simp)) (fun b o _ e=>u.there b o e (by simp)) u.B9 u.Bl u.Ca (fun m' hm=>by
    obtain ⟨o',es',ep',ho',r'⟩:=hm
    rw [ho] at ho';cases ho'
    exact ⟨_,es',ep',hL,r'⟩) hok I.bare
theorem Inv.call {g':Array GenState} {t':Nat} {d':Drawn} {ch:List Addr} (I:Inv X pins σ H s) (u:Un (frs X.stack) ch H H' s.heap h') (hok:HOk X.prog X.w H' h') (hg:AllBare g')
    (hch:∀ b∈ch,(b∈X.ex∨X.s₀.heap.objs.size≤b)∧b≠X.env.locals∧(∀ x c,X.env.cells.lookup x=some c→c≠b)∧∀ p∈X.pn++pins,p.1≠b) :
    Inv X pins σ H' {s with heap:=h',gens:=g',drawn:=d',toks:=t'}:=by
  obtain ⟨m,⟨o,es,ep,ho,r⟩,_⟩:=id I.loc
  obtain ⟨sl,hL⟩:=u.any ho I.free fun z=>(hch _ z).2.1 rfl
  exact I.step (ch:=ch) hch (fun b o hL hb hc e n=>u.keep b o e n (fun z=>(List.mem_cons.mp (I.Bh b z)).elim hL hb) hc) (fun b o _ _ hc e n=>u.any e n hc) (fun b o hc e n=>u.free b o e n hc) (fun b o hc e=>u.there b o e hc) u.B9 u.Bl u.Ca (fun m' hm=>by
    obtain ⟨o',es',ep',ho',r'⟩:=hm
    rw [ho] at ho';cases ho'
    exact ⟨_,es',ep',hL,r'⟩) hok hg
theorem Inv.turned {t':Nat} {it:Addr} (I:Inv X pins σ H s) (k:∀ b o,b≠it→s.heap.get? b=some o→h'.get? b=some o) (hn:H it=none) (hL:it≠X.env.locals)
    (h1:it∈X.ex∨X.s₀.heap.objs.size≤it) (h2:∀ x c,X.env.cells.lookup x=some c→c≠it) (h3:∀ p∈X.pn++pins,p.1≠it):Inv X pins σ H {s with heap:=h',toks:=t'}:=by
  have nit:∀ b u,H b=some u→b≠it:=fun b u e z=>by rw [z,hn] at e;cases e
  refine I.step (g':=s.gens) (d':=s.drawn) (ch:=[it]) (fun b hb=>?_) (fun b o _ _ hc e _=>k b o (fun z=>hc (by simp [z])) e) (fun b o _ _ hc e _=>⟨o.slots,k b o (fun z=>hc (by simp [z])) e⟩) (fun _ _ _ _ n=>n)
    (fun b o hc e=>⟨o,k b o (fun z=>hc (by simp [z])) e⟩) (fun _ _ e=>e) (fun _ _ _ e=>e) (fun b ps e=>⟨#[],by rw [e];simp⟩) (fun m hm=>?_) (fun b u e=>?_) I.bare
  · have e:b=it:=by simpa using hb
    subst e
    exact ⟨h1,hL,h2,h3⟩
  · obtain ⟨o,es,ep,ho,r⟩:=hm
    exact ⟨o,es,ep,k _ o (Ne.symm hL) ho,r⟩
  · refine (I.hok b u e).Fq (fun c v hc q=>k c v ?_ q) (fun _ q=>q) fun _ _ q=>q
    rcases hc with z|z
    · rw [z];exact nit b u e
    · exact nit c _ z
theorem Inv.tok (I:Inv X pins σ H s) (t:Nat):Inv X pins σ H {s with toks:=t}:=I.un (h':=s.heap) (t':=t) Un.refl I.hok
theorem Inv.kept {t':Nat} (I:Inv X pins σ H s) (k:∀ b u,s.heap.get? b=some u→h'.get? b=some u):Inv X pins σ H {s with heap:=h',toks:=t'}:=I.un (Un.kept k) (I.hok.kept k)
theorem Inv.laid {a:Addr} {o:HO} {t':Nat} (I:Inv X pins σ H s) (k:∀ b u,s.heap.get? b=some u→h'.get? b=some u) (hp:s.heap.objs.size≤a) (new:en X.prog X.w (upd H a o) h' a o) :
    Inv X pins σ (upd H a o) {s with heap:=h',toks:=t'}:=I.un (Un.laid k hp (I.hok.fresh hp)) (I.hok.laid k hp new)
theorem Inv.write {x e:Addr} {o:HO} {t':Nat} (I:Inv X pins σ H s) (mu:Mut (H x)) (he:e=x∨H e=some (.own x)) (k:∀ b u,b≠e→s.heap.get? b=some u→h'.get? b=some u) (heo:∃ u,h'.get? e=some u)
    (new:en X.prog X.w (upd H x o) h' x o):Inv X pins σ (upd H x o) {s with heap:=h',toks:=t'}:=I.un (Un.write mu he k heo) (I.hok.write mu he k heo new)
theorem Inv.JC {HZ:List (Addr×Obj)} (I:Inv X pins σ H s) (h:∀ p∈HZ,s.heap.get? p.1=some p.2∧H p.1=none∧p.1≠X.env.locals∧p.1∉X.fs∧∀ v,p.2.data≠.cell v):Inv X HZ σ H s :=
  ⟨I.ok,I.os,I.bare,I.base,I.loc,I.cell,I.free,I.kA,fun p hp=>(List.mem_append.mp hp).elim (fun z=>I.pin p (List.mem_append_left _ z)) (h p),I.hok,I.len⟩
theorem CC {N:List Str} (hN:N.Nodup) {i j:Nat} {x:Str} (a:N[i]?=some x) (b:N[j]?=some x):i=j:=by
  obtain ⟨h1,e1⟩:=List.getElem?_eq_some_iff.mp a
  obtain ⟨h2,e2⟩:=List.getElem?_eq_some_iff.mp b
  exact (List.getElem_inj hN).mp (e1.trans e2.symm)
theorem Ky {M:Model} {A:Around} {E:Value→Shared→Prop} {i:Nat} {x:Str} {v:V} {u:Value} {Q:Unit→Shared→Prop} (I:Inv X pins σ H s) (hN:X.N.Nodup) (hi:X.N[i]?=some x) (hx:Loc X.env.scope x) (r:RelV v u)
    (h:∀ s',Inv X pins (σ.set i (some v)) H s'→(∃ a,Heap.SameBut a s.heap s'.heap∧(a=X.env.locals∨X.env.cells.lookup x=some a))→Q () s') (hf:X.fn x=true∨X.env.scope.names.lookup x=some .local:=by first|exact .inl rfl|exact .inr rfl|assumption):wpAny M A (storeName X.env x u) Q E s:=by
  obtain ⟨m,hn,hl⟩:=id I.loc
  have WR:(X.env.scope.kind == .class||(X.env.scope.kind == .module&&X.env.locals != X.env.globals))=false:=by rw [I.ok.kind];rfl
  have hiσ:i<σ.length:=by rw [I.len];exact (List.getElem?_eq_some_iff.mp hi).1
  have cne:=I.cne
  have tracked:∀ {a:Addr} {h':Heap},(∃ o,s.heap.get? a=some o∧H a=none)→Heap.SameBut a s.heap h'→HOk X.prog X.w H h':=fun {a h'} ha hs b ob e=>by
    obtain ⟨_,_,Rm⟩:=ha
    refine (I.hok b ob e).Fq (fun c w' hc q=>(hs.2 c ?_).trans q) (fun _ q=>q) fun _ _ q=>q
    rintro rfl
    rcases hc with rfl|hc
    · rw [Rm] at e;cases e
    · rw [Rm] at hc;cases hc
  rcases hx with hk|hk
  · refine wpAny_storeName_local hk hn (fun h' hn' hs=>?_) WR
    obtain ⟨oL,_,_,hoL,_⟩:=id hn
    refine h _ ⟨I.ok,I.os,I.bare,⟨fun b o e n hb hx=>?_,fun b o e n hb hx=>?_,I.base.free,fun b o e hx=>?_,I.base.B9,I.base.Bl,I.base.Ca⟩,⟨_,hn',fun j y v' e1 e2 e3=>?_⟩,fun y c e=>?_,I.free,I.kA,fun p hp=>?_,tracked ⟨oL,hoL,I.free⟩ hs,by simpa using I.len⟩ ⟨_,hs,.inl rfl⟩
    · exact (hs.2 b (Nat.ne_of_lt (Nat.lt_of_lt_of_le (Heap.lt_size e) I.ok.above))).trans (I.base.keep b o e n hb hx)
    · obtain ⟨sl,e1⟩:=I.base.slot b o e n hb hx
      exact ⟨sl,(hs.2 b (Nat.ne_of_lt (Nat.lt_of_lt_of_le (Heap.lt_size e) I.ok.above))).trans e1⟩
    · obtain ⟨o',e1⟩:=I.base.there b o e hx
      exact ⟨o',(hs.2 b (Nat.ne_of_lt (Nat.lt_of_lt_of_le (Heap.lt_size e) I.ok.above))).trans e1⟩
    · by_cases hj:j=i
      · subst hj
        rw [hi] at e1;cases e1
        rw [List.getElem?_set_self hiσ] at e2
        cases e2
        exact ⟨u,r,.inl ⟨hk,by simp⟩⟩
      · rw [List.getElem?_set_ne (Ne.symm hj)] at e2
        obtain ⟨u',r',q⟩:=hl j y v' e1 e2 e3
        refine ⟨u',r',?_⟩
        rcases q with ⟨k,e⟩|⟨k,c,e,z⟩
        · refine .inl ⟨k,?_⟩
          have:y≠x:=fun e=>hj (CC hN e1 (e ▸ hi))
          simp [this,e]
        · exact .inr ⟨k,c,e,z.sameBut hs (cne y c e)⟩
    · obtain ⟨w',z⟩:=I.cell y c e
      exact ⟨w',z.sameBut hs (cne y c e)⟩
    · obtain ⟨e,n,ne,nf,d⟩:=I.pin p hp
      exact ⟨(hs.2 p.1 ne).trans e,n,ne,nf,d⟩
  · have hfn:X.fn x=true:=by
      rcases hf with z|z
      · exact z
      · rw [z] at hk;cases hk
    obtain ⟨c,hc⟩:=I.ok.has x (.inl hk)
    obtain ⟨w',z⟩:=I.cell x c hc
    refine wpAny_storeName_cell I.ok.kind hk hc z (fun h' hc' hs=>?_)
    obtain ⟨oc,hoc,ZM⟩:=id z
    refine h {s with heap:=h'} ⟨I.ok,I.os,I.bare,⟨fun b o e n hb hx=>?_,fun b o e n hb hx=>?_,I.base.free,fun b o e hx=>?_,I.base.B9,I.base.Bl,I.base.Ca⟩,⟨m,hn.sameBut hs (Ne.symm (cne x c hc)),fun j y v' e1 e2 e3=>?_⟩,fun y c' e=>?_,I.free,I.kA,fun p hp=>?_,tracked ⟨oc,hoc,I.kA x c hc⟩ hs,by simpa using I.len⟩ ⟨c,hs,.inr hc⟩
    · exact (hs.2 b (Nat.ne_of_lt (Nat.lt_of_lt_of_le (Heap.lt_size e) (I.ok.cab x c hfn hc)))).trans (I.base.keep b o e n hb hx)
    · obtain ⟨sl,e1⟩:=I.base.slot b o e n hb hx
      exact ⟨sl,(hs.2 b (Nat.ne_of_lt (Nat.lt_of_lt_of_le (Heap.lt_size e) (I.ok.cab x c hfn hc)))).trans e1⟩
    · obtain ⟨o',e1⟩:=I.base.there b o e hx
      exact ⟨o',(hs.2 b (Nat.ne_of_lt (Nat.lt_of_lt_of_le (Heap.lt_size e) (I.ok.cab x c hfn hc)))).trans e1⟩
    · by_cases hj:j=i
      · subst hj
        rw [hi] at e1;cases e1
        rw [List.getElem?_set_self hiσ] at e2
        cases e2
        exact ⟨u,r,.inr ⟨.inl hk,c,hc,hc'⟩⟩
      · rw [List.getElem?_set_ne (Ne.symm hj)] at e2
        obtain ⟨u',r',q⟩:=hl j y v' e1 e2 e3
        refine ⟨u',r',?_⟩
        rcases q with q|⟨k,c',e,z'⟩
        · exact .inl q
        · refine .inr ⟨k,c',e,z'.sameBut hs ?_⟩
          rintro rfl
          exact hj (CC hN e1 (I.ok.inj _ _ _ e hc ▸ hi))
    · by_cases hcc:c'=c
      · subst hcc;exact ⟨_,hc'⟩
      · obtain ⟨w2,z2⟩:=I.cell y c' e
        exact ⟨w2,z2.sameBut hs hcc⟩
    · obtain ⟨e,n,ne,nf,d⟩:=I.pin p hp
      refine ⟨(hs.2 p.1 ?_).trans e,n,ne,nf,d⟩
      intro q
      rw [q,hoc] at e
      have q':oc=p.2:=Option.some.inj e
      exact d w' (by rw [←q'];exact ZM)
theorem xo {M:Model} {A:Around} {E:Value→Shared→Prop} {i:Nat} {x:Str} {v:V} {u:Value} {Q:Unit→Shared→Prop} (I:Inv X pins σ H s) (hN:X.N.Nodup) (hi:X.N[i]?=some x) (hx:Loc X.env.scope x) (r:RelV v u)
    (h:∀ s',Inv X pins (σ.set i (some v)) H s'→Q () s') (hf:X.fn x=true∨X.env.scope.names.lookup x=some .local:=by first|exact .inl rfl|exact .inr rfl|assumption):wpAny M A (storeName X.env x u) Q E s :=
  Ky I hN hi hx r (fun s' I' _=>h s' I') hf
theorem Inv.Lr {s':Shared} {ch:List Addr} (I:Inv X pins σ H s) (ho:s'.os=s.os) (u:Un (frs X.stack) ch H H' s.heap s'.heap) (hok:HOk X.prog X.w H' s'.heap) (hg:AllBare s'.gens)
    (hch:∀ b∈ch,(b∈X.ex∨X.s₀.heap.objs.size≤b)∧b≠X.env.locals∧(∀ x c,X.env.cells.lookup x=some c→c≠b)∧∀ p∈X.pn++pins,p.1≠b):Inv X pins σ H' s':=by
  obtain ⟨h',g',d',t',o'⟩:=s'
  have e:o'=s.os:=ho
  subst e
  exact I.call (g':=g') (t':=t') (d':=d') u hok hg hch
end
abbrev XK:=Value→Option Addr→Hp→Prop
abbrev St:=List (Option V)
abbrev VK:=V→Hp→Prop
abbrev TE:=St→Hp→VK→Prop
abbrev TT:=St→Hp→(Bool→Hp→Prop)→Prop
abbrev TA:=St→Hp→(List V→Hp→Prop)→Prop
structure Ends where
  nx:St→Hp→Prop
  rt:VK
  bk:St→Hp→Prop:=fun _ _=>False
  ct:St→Hp→Prop:=fun _ _=>False
abbrev TS:=Ends→St→Hp→Prop
def EP (X:Cx) (pins:List (Addr×Obj)) (σ:St) (Q:VK) (u:Value) (s':Shared):Prop:=∃ v H',Inv X pins σ H' s'∧RelV v u∧Q v H'
def TP (X:Cx) (pins:List (Addr×Obj)) (σ:St) (Q:Bool→Hp→Prop) (b:Bool) (s':Shared):Prop:=∃ H',Inv X pins σ H' s'∧Q b H'
def AP (X:Cx) (pins:List (Addr×Obj)) (σ:St) (Q:List V→Hp→Prop) (us:List Value) (s':Shared):Prop:=∃ vs H',Inv X pins σ H' s'∧Vals vs us∧Q vs H'
def SP (X:Cx) (pins:List (Addr×Obj)) (D:Ends) (f:Flow) (s':Shared):Prop :=
  match f with
  | .next=>∃ σ' H',Inv X pins σ' H' s'∧D.nx σ' H'
  | .brk=>∃ σ' H',Inv X pins σ' H' s'∧D.bk σ' H'
  | .cont=>∃ σ' H',Inv X pins σ' H' s'∧D.ct σ' H'
  | .ret u=>∃ v σ' H',Inv X pins σ' H' s'∧RelV v u∧D.rt v H'
def PE (X:Cx) (e:Expr) (t:TE):Prop :=
  ∀ (pins:List (Addr×Obj)) (s:Shared) (σ:St) (H:Hp) (Q:VK),Inv X pins σ H s→t σ H Q→wpAny (model X.prog X.w) X.A (eval e X.env) (EP X pins σ Q) X.xe s
def PT (X:Cx) (e:Expr) (t:TT):Prop :=
  ∀ (pins:List (Addr×Obj)) (s:Shared) (σ:St) (H:Hp) (Q:Bool→Hp→Prop),Inv X pins σ H s→t σ H Q→wpAny (model X.prog X.w) X.A (isTrue e X.env (eval e X.env)) (TP X pins σ Q) X.xe s
def PW (X:Cx) (e:Expr) (t:TT):Prop :=
  ∀ (whole:Sem Value) (pins:List (Addr×Obj)) (s:Shared) (σ:St) (H:Hp) (Q:Bool→Hp→Prop),Inv X pins σ H s→t σ H Q→wpAny (model X.prog X.w) X.A (isTrue e X.env whole) (TP X pins σ Q) X.xe s
theorem PW.pt {X:Cx} {e:Expr} {t:TT} (h:PW X e t):PT X e t:=h _
def PA (X:Cx) (es:List Expr) (t:TA):Prop :=
  ∀ (pos:Pos) (pins:List (Addr×Obj)) (s:Shared) (σ:St) (H:Hp) (Q:List V→Hp→Prop),Inv X pins σ H s→t σ H Q→wpAny (model X.prog X.w) X.A (spliced (backTo pos (starEach es X.env))) (AP X pins σ Q) X.xe s
def PS (X:Cx) (st:Stmt) (t:TS):Prop :=
  ∀ (pins:List (Addr×Obj)) (s:Shared) (σ:St) (H:Hp) (D:Ends),Inv X pins σ H s→t D σ H→wpAny (model X.prog X.w) X.A (exec st X.env) (SP X pins D) X.xe s
def PSs (X:Cx) (st:List Stmt) (t:TS):Prop :=
  ∀ (pins:List (Addr×Obj)) (s:Shared) (σ:St) (H:Hp) (D:Ends),Inv X pins σ H s→t D σ H→wpAny (model X.prog X.w) X.A (execs st X.env) (SP X pins D) X.xe s
theorem thn {α:Type} {t:Sem α} {Q Q':α→Shared→Prop} {M:Model} {A:Around} {E:Value→Shared→Prop} {s:Shared} (h:wpAny M A t Q E s) (hQ:∀ a s,Q a s→Q' a s):wpAny M A t Q' E s:=wpAny_mono h hQ fun _ _ x=>x
end L2
namespace L2
open PySem PySem.Spec PyProof.Rows
section
variable {X:Cx}
def Rn (i:Nat):TE:=fun σ H Q=>∃ v,σ[i]?=some (some v)∧Q v H
def tC (v:V):TE:=fun _ H Q=>Q v H
theorem V4 {i:Nat} {x:Str} {pos:Pos} (hN:X.N[i]?=some x) (hv:Vis X.env.scope x) (hd:(x == ("__debug__" : Str))=false:=by decide) (hcd:(x == ("__classdict__" : Str))=false:=by decide):PE X (.Name x pos) (Rn i):=by
  intro pins s σ H Q I h
  obtain ⟨v,e,h⟩:=h
  obtain ⟨m,hn,hl⟩:=I.loc
  obtain ⟨u,r,l⟩:=hl i x v hN e hv
  have fin:EP X pins σ Q u s:=⟨v,H,I,r,h⟩
  rcases l with ⟨hk,hm⟩|⟨hk,c,hc,Ls⟩
  · exact wpAny_Name (wpAny_loadName_local I.ok.kind hk hn hm fin) hd
  · rcases hk with hk|hk
    · exact wpAny_Name (wpAny_loadName_cell I.ok.kind hk hc Ls fin) hd
    · exact wpAny_Name (wpAny_loadName_free I.ok.kind hk hc Ls fin hcd) hd
theorem aq {i j pos}:PE X (.Constant (.int i) j pos) (tC (.int i)):=fun _ _ _ H _ I h=>wpAny_Constant_int ⟨.int i,H,I.tok _,⟨_,rfl⟩,h⟩
theorem pD {b j pos}:PE X (.Constant (.bool b) j pos) (tC (.bl b)):=fun _ _ _ H _ I h=>Constant_bool ⟨.bl b,H,I,rfl,h⟩
theorem gS {j pos}:PE X (.Constant .none j pos) (tC .non):=fun _ _ _ H _ I h=>Constant_none ⟨.non,H,I,rfl,h⟩
theorem aK {x j pos}:PE X (.Constant (.str x) j pos) (tC (.str x)):=fun _ _ _ H _ I h=>Calls.Constant_str ⟨.str x,H,I.tok _,⟨_,rfl⟩,h⟩
def Gl (X:Cx) (x:Str):Prop:=X.env.kindOf x=some .globalImplicit
theorem qc {E:Value→Shared→Prop} {pins:List (Addr×Obj)} {s:Shared} {σ:St} {H:Hp} {x:Str} {u:Value} {pos:Pos} {Q:Value→Shared→Prop} (I:Inv X pins σ H s) (hg:Gl X x) (hm:X.mg x=some u) (h:Q u s)
    (hd:(x == ("__debug__" : Str))=false:=by decide):wpAny (model X.prog X.w) X.A (eval (.Name x pos) X.env) Q E s :=
  Calls.Name_function_global I.ok.kind hg (Calls.loadGlobal_global (by rw [I.ok.glob];exact I.mod.glob.keeps I.bk) hm h) hd
theorem xk {E:Value→Shared→Prop} {pins:List (Addr×Obj)} {s:Shared} {σ:St} {H:Hp} {x:Str} {u:Value} {pos:Pos} {Q:Value→Shared→Prop} (I:Inv X pins σ H s) (hg:Gl X x) (hm:X.mg x=none) (hv:bootBuiltins x=some u) (h:Q u s)
    (hn:x ≠ "__name__" := by decide) (hd:(x == ("__debug__" : Str))=false:=by decide):wpAny (model X.prog X.w) X.A (eval (.Name x pos) X.env) Q E s:=by
  obtain ⟨mb,h1,h2⟩:=I.mod.blt
  exact Calls.Name_function_global I.ok.kind hg (Calls.loadGlobal_builtin (by rw [I.ok.glob];exact I.mod.glob.keeps I.bk) hm (by rw [I.ok.blt];exact h1.keeps I.bk) ((h2 x hn).trans hv) h) hd
theorem jP {x:Str} {v:V} {u:Value} {pos:Pos} (hg:Gl X x) (hm:X.mg x=some u) (r:RelV v u) (hd:(x == ("__debug__" : Str))=false:=by decide):PE X (.Name x pos) (tC v) :=
  fun _ _ _ H _ I h=>qc I hg hm ⟨v,H,I,r,h⟩ hd
variable {a b:Expr} {ta tb:TE} {pos:Pos}
def PC (X:Cx) (op:CmpOp) (a b:Expr) (t:TE):Prop :=
  ∀ (pins:List (Addr×Obj)) (s:Shared) (σ:St) (H:Hp) (Q:VK),Inv X pins σ H s→t σ H Q →
    wpAny (model X.prog X.w) X.A (eval a X.env) (fun v s₁=>wpAny (model X.prog X.w) X.A (eval b X.env) (fun u s₂=>wpAny (model X.prog X.w) X.A (compareOp op v u) (EP X pins σ Q) X.xe s₂) X.xe s₁) X.xe s
def tB (t:TE):TT:=fun σ H Q=>t σ H fun x H1=>∃ c,x=.bl c∧Q c H1
theorem qh {op:CmpOp} {t:TE} (h:PC X op a b t) (h1:behindInMarks op b=false:=by first|exact nobehind _ (by decide) (by decide)|rfl):PT X (.Compare a [op] [b] pos) (tB t):=by
  intro pins s σ H Q I hw
  refine wpAny_isTrue_Compare1 (thn (h pins s σ H _ I hw) fun v s1 h1=>thn h1 fun u s2 h2=>thn h2 fun c s3 ⟨x,H1,I1,r1,q1⟩=>?_) h1
  obtain ⟨d,rfl,q⟩:=q1
  cases r1
  exact wpAny_truthy_bool ⟨H1,I1,q⟩
theorem oB {e:Expr} {t:TE} (h:PE X e t) (he:∀ whole,isTrue e X.env whole=(do let v ←whole;standAt e.pos;holding [v] (truthy v)):=by intro _;rfl):PT X e (tB t):=by
  intro pins s σ H Q I hw
  refine isTrue_plain (thn (h pins s σ H _ I hw) fun v s1 ⟨x,H1,I1,r1,q1⟩=>?_) (he _)
  obtain ⟨d,rfl,q⟩:=q1
  cases r1
  exact wpAny_truthy_bool ⟨H1,I1,q⟩
variable {tA tB':TT} {rest:List Expr}
def ZN (t u:TT):TT:=fun σ H Q=>t σ H fun c H1=>if c=true then u σ H1 Q else Q false H1
def tOr (t u:TT):TT:=fun σ H Q=>t σ H fun c H1=>if c=true then Q true H1 else u σ H1 Q
def ZO (t:TT):TT:=fun σ H Q=>t σ H fun c H1=>Q (!c) H1
theorem pw_and1 (ha:PT X a tA):PW X (.BoolOp .And [a] pos) tA:=by
  intro wh pins s σ H Q I h
  refine isTrue_and (thn (ha pins s σ H Q I h) fun c s1 e=>?_)
  cases c with
  | true=>exact isTrue_and_nil e
  | false=>exact e
theorem pw_or1 (ha:PT X a tA):PW X (.BoolOp .Or [a] pos) tA:=by
  intro wh pins s σ H Q I h
  refine isTrue_or (thn (ha pins s σ H Q I h) fun c s1 e=>?_)
  cases c with
  | false=>exact isTrue_or_nil e
  | true=>exact e
theorem pw_and (ha:PT X a tA) (hb:PW X (.BoolOp .And (b::rest) pos) tB'):PW X (.BoolOp .And (a::b::rest) pos) (ZN tA tB'):=by
  intro wh pins s σ H Q I h
  refine isTrue_and (thn (ha pins s σ H _ I h) fun c s1 ⟨H1,I1,q1⟩=>?_)
  cases c with
  | true=>exact hb wh pins s1 σ H1 Q I1 q1
  | false=>exact ⟨H1,I1,q1⟩
theorem pw_or (ha:PT X a tA) (hb:PW X (.BoolOp .Or (b::rest) pos) tB'):PW X (.BoolOp .Or (a::b::rest) pos) (tOr tA tB'):=by
  intro wh pins s σ H Q I h
  refine isTrue_or (thn (ha pins s σ H _ I h) fun c s1 ⟨H1,I1,q1⟩=>?_)
  cases c with
  | true=>exact ⟨H1,I1,q1⟩
  | false=>exact hb wh pins s1 σ H1 Q I1 q1
theorem lV (ha:PT X a tA):PT X (.UnaryOp .Not a pos) (ZO tA):=by
  intro pins s σ H Q I h
  exact isTrue_not (ha pins s σ H (fun c H1=>Q (!c) H1) I h)
def Yt (ta tb:TE):TE:=fun σ H Q=>ta σ H fun x H1=>∃ c,x=.bl c∧if c=true then tb σ H1 Q else Q (.bl false) H1
theorem V5 {op} {t:TE} (h:PE X a t):PE X (.BoolOp op [a] pos) t:=fun pins s σ H Q I hw=>BoolOp_one (h pins s σ H Q I hw)
theorem V6 (ha:PE X a ta) (hb:PE X (.BoolOp .And (b::rest) pos) tb):PE X (.BoolOp .And (a::b::rest) pos) (Yt ta tb):=by
  intro pins s σ H Q I h
  refine BoolOp_and (thn (ha pins s σ H _ I h) fun v s1 ⟨x,H1,I1,r1,q1⟩=>?_)
  obtain ⟨c,rfl,q1⟩:=q1
  cases r1
  refine wpAny_truthy_bool ?_
  cases c with
  | true=>exact hb pins s1 σ H1 Q I1 q1
  | false=>exact ⟨.bl false,H1,I1,rfl,q1⟩
def tIf (t:TT) (ta tb:TE):TE:=fun σ H Q=>t σ H fun c H1=>if c=true then ta σ H1 Q else tb σ H1 Q
theorem xq {c:Expr} (hc:PT X c tA) (ha:PE X a ta) (hb:PE X b tb):PE X (.IfExp c a b pos) (tIf tA ta tb):=by
  intro pins s σ H Q I h
  refine wpAny_IfExp (thn (hc pins s σ H _ I h) fun d s1 ⟨H1,I1,q1⟩=>?_)
  cases d with
  | true=>exact ha pins s1 σ H1 Q I1 q1
  | false=>exact hb pins s1 σ H1 Q I1 q1
end
end L2
namespace L2
open PySem PySem.Spec PyProof.Rows
def SqL (K:W.Frag) (H:Hp) (a:Addr) (xs:List V):Prop :=
  Rd H a (.lst xs) ∨
    ∃ (o:Obj) (its:Array Value) (n:Nat),K.lookup a=some o∧o.cls=.type "list" ∧ o.dict=none∧o.data=.seq its n∧its.size≤sizeLine∧Vals xs its.toList
def SqT (K:W.Frag) (H:Hp) (a:Addr) (xs:List V):Prop :=
  Rd H a (.tup xs) ∨
    ∃ (o:Obj) (its:Array Value) (n:Nat),K.lookup a=some o∧o.cls=.type "tuple" ∧ o.data=.seq its n∧its.size≤sizeLine∧Vals xs its.toList
def ZP:Value→Option V
  | .none=>some .non
  | .bool b=>some (.bl b)
  | .int i _=>some (.int i)
  | .str x _=>some (.str x)
  | .bytes b _=>some (.byt b)
  | .float b _=>some (.flt b)
  | .ref a=>some (.ref a)
  | .type n=>some (.ty n)
  | _=>none
theorem RelV.abs {x:V} {u:Value} (r:RelV x u):ZP u=some x:=by
  cases x with
  | non=>cases r;rfl
  | bl _=>cases r;rfl
  | int _=>obtain ⟨t,rfl⟩:=r;rfl
  | str _=>obtain ⟨t,rfl⟩:=r;rfl
  | byt _=>obtain ⟨t,rfl⟩:=r;rfl
  | flt _=>obtain ⟨t,rfl⟩:=r;rfl
  | ref _=>cases r;rfl
  | ty _=>cases r;rfl
theorem RelV.inj {x y:V} {u:Value} (r:RelV x u) (q:RelV y u):x=y:=Option.some.inj (r.abs.symm.trans q.abs)
theorem Vals.inj:∀ {xs ys:List V} {us:List Value},Vals xs us→Vals ys us→xs=ys
  | _,_,_,.nil,.nil=>rfl
  | _,_,_,.cons r t,.cons r' t'=>by rw [r.inj r',Vals.inj t t']
section
variable {X:Cx} {pins:List (Addr×Obj)} {σ:St} {H:Hp} {s:Shared} {a:Addr} {xs ys:List V}
theorem SqL.of {K:W.Frag} (h:H a=some (.lst xs)):SqL K H a xs:=.inl (.inl h)
theorem SqT.of {K:W.Frag} (h:H a=some (.tup xs)):SqT K H a xs:=.inl (.inl h)
theorem Inv.list (I:Inv X pins σ H s) (h:SqL X.K H a xs):∃ its:List Value,Vals xs its∧PlainL s.heap a its.toArray∧xs.length≤sizeLine:=by
  rcases h with h|⟨o,its,n,hk,hc,hd,hs,hz,r⟩
  · obtain ⟨z,its,n,r,e⟩:=h.ok I.hok
    exact ⟨its,r,⟨_,n,e,rfl,rfl,rfl⟩,z⟩
  · refine ⟨its.toList,r,⟨o,n,I.kIn a o hk,hc,hd,by simpa using hs⟩,?_⟩
    have e:=r.length
    simp only [Array.length_toList] at e
    omega
theorem Inv.tuple (I:Inv X pins σ H s) (h:SqT X.K H a xs):∃ its:List Value,Vals xs its∧IsTup s.heap a its.toArray∧xs.length≤sizeLine:=by
  rcases h with h|⟨o,its,n,hk,hc,hs,hz,r⟩
  · obtain ⟨z,its,r,p⟩:=h.ok I.hok
    exact ⟨its,r,p,z⟩
  · refine ⟨its.toList,r,⟨o,I.kIn a o hk,hc,n,by simpa using hs⟩,?_⟩
    have e:=r.length
    simp only [Array.length_toList] at e
    omega
theorem Inv.G0 (I:Inv X pins σ H s) (h:SqL X.K H a xs) (h':SqL X.K H a ys):xs=ys:=by
  obtain ⟨its,r,⟨o,n,e,_,_,d⟩,_⟩:=I.list h
  obtain ⟨DK,r',⟨o',n',e',_,_,d'⟩,_⟩:=I.list h'
  rw [e] at e';cases e'
  rw [d] at d'
  injection d' with d1 _
  have:its=DK:=by simpa using congrArg Array.toList d1
  subst this
  exact r.inj r'
end
abbrev Cx.Fs (X:Cx) (E:Value→Shared→Prop):Cx:={X with xe:=E}
abbrev Cx.nox (X:Cx):Cx:=X.Fs fun _ _=>False
theorem Cx.Ok.Fs {X:Cx} (ok:X.Ok) (E:Value→Shared→Prop):(X.Fs E).Ok :=
  ⟨ok.mod,ok.kind,ok.glob,ok.blt,ok.above,ok.inj,ok.has,ok.cab,ok.hd,ok.frames,ok.stk,ok.exf,ok.bs,ok.bsz,ok.HY,ok.JB,ok.xE,ok.frf⟩
theorem Cx.Ok.qi {X:Cx} {E:Value→Shared→Prop} (ok:(X.Fs E).Ok):X.Ok :=
  ⟨ok.mod,ok.kind,ok.glob,ok.blt,ok.above,ok.inj,ok.has,ok.cab,ok.hd,ok.frames,ok.stk,ok.exf,ok.bs,ok.bsz,ok.HY,ok.JB,ok.xE,ok.frf⟩
section
variable {X:Cx} {pins:List (Addr×Obj)} {σ:St} {H:Hp} {s:Shared} {E:Value→Shared→Prop}
theorem Inv.Fs (I:Inv X pins σ H s) (E:Value→Shared→Prop):Inv (X.Fs E) pins σ H s:=⟨I.ok.Fs E,I.os,I.bare,I.base,I.loc,I.cell,I.free,I.kA,I.pin,I.hok,I.len⟩
theorem Inv.qi (I:Inv (X.Fs E) pins σ H s):Inv X pins σ H s:=⟨I.ok.qi,I.os,I.bare,I.base,I.loc,I.cell,I.free,I.kA,I.pin,I.hok,I.len⟩
theorem SP.qi {D:Ends} {f:Flow} {s':Shared} (h:SP (X.Fs E) pins D f s'):SP X pins D f s':=by
  cases f with
  | next=>obtain ⟨σ',H',I,q⟩:=h;exact ⟨σ',H',I.qi,q⟩
  | brk=>obtain ⟨σ',H',I,q⟩:=h;exact ⟨σ',H',I.qi,q⟩
  | cont=>obtain ⟨σ',H',I,q⟩:=h;exact ⟨σ',H',I.qi,q⟩
  | ret u=>obtain ⟨v,σ',H',I,r,q⟩:=h;exact ⟨v,σ',H',I.qi,r,q⟩
theorem PSs.nox {st:List Stmt} {t:TS} (h:PSs X.nox st t):PSs X st t:=fun pins s σ H D I hw =>
  wpAny_mono (h pins s σ H D (I.Fs _) hw) (fun _ _ q=>q.qi) fun _ _ z=>False.elim z
end
section
variable {X:Cx} {st:Stmt} {rest:List Stmt} {t u:TS} {e:Expr} {te:TE} {pos:Pos}
def Nk:TS:=fun D σ H=>D.nx σ H
def Ft (t u:TS):TS:=fun D σ H=>t {D with nx:=u D} σ H
theorem aP:PSs X [] Nk:=fun _ _ σ H _ I h=>wpAny_execs_nil ⟨σ,H,I,h⟩
theorem aj (h1:PS X st t) (h2:PSs X rest u):PSs X (st::rest) (Ft t u):=by
  intro pins s σ H D I h
  refine wpAny_execs_cons (thn (h1 pins s σ H {D with nx:=u D} I h) fun f s1 q=>?_)
  cases f with
  | next =>
    obtain ⟨σ',H',I',q⟩:=q
    exact h2 pins s1 σ' H' D I' q
  | ret v=>exact q
  | brk=>exact q
  | cont=>exact q
theorem ai (h1:PS X st t):PSs X [st] t:=by
  intro pins s σ H D I h
  refine wpAny_execs_cons (thn (h1 pins s σ H D I h) fun f s1 q=>?_)
  cases f with
  | next=>exact wpAny_execs_nil q
  | ret v=>exact q
  | brk=>exact q
  | cont=>exact q
theorem Inv.quiet {pins:List (Addr×Obj)} {σ:St} {H:Hp} {s:Shared} (I:Inv X pins σ H s):interactive X.env=false:=by simp [interactive,I.ok.kind]
def Yu (te:TE):TS:=fun D σ H=>te σ H fun _ H1=>D.nx σ H1
theorem aM (he:PE X e te) (hs:swapsWith e none pos.line X.env=pure false:=by rfl):PS X (.Expr e pos) (Yu te):=by
  intro pins s σ H D I h
  exact wpAny_Expr_any (thn (he pins s σ H _ I h) fun v s1 ⟨x,H1,I1,r1,q1⟩=>⟨σ,H1,I1,q1⟩) I.quiet hs
def ZQ (te:TE):TS:=fun D σ H=>te σ H D.rt
theorem aX (he:PE X e te):PS X (.Return (some e) pos) (ZQ te):=by
  intro pins s σ H D I h
  exact wpAny_Return_some (thn (he pins s σ H _ I h) fun v s1 ⟨x,H1,I1,r1,q1⟩=>⟨x,σ,H1,I1,r1,q1⟩)
def Zm (c:TT) (t u:TS):TS:=fun D σ H=>c σ H fun b H1=>if b=true then t D σ H1 else u D σ H1
theorem bB {c:Expr} {a b:List Stmt} {tc:TT} (hc:PT X c tc) (ha:PSs X a t) (hb:PSs X b u):PS X (.If c a b pos) (Zm tc t u):=by
  intro pins s σ H D I h
  refine wpAny_If (thn (hc pins s σ H _ I h) fun d s1 ⟨H1,I1,q1⟩=>?_)
  cases d with
  | true=>exact ha pins s1 σ H1 D I1 q1
  | false=>exact hb pins s1 σ H1 D I1 q1
end
abbrev TG:=V→St→Hp→(St→Hp→Prop)→Prop
abbrev TGs:=List V→St→Hp→(St→Hp→Prop)→Prop
def PG (X:Cx) (target:Expr) (t:TG):Prop :=
  ∀ (pins:List (Addr×Obj)) (s:Shared) (σ:St) (H:Hp) (v:V) (u:Value) (Q:St→Hp→Prop),Inv X pins σ H s→RelV v u→t v σ H Q →
    wpAny (model X.prog X.w) X.A (assign target X.env u) (fun _ s'=>∃ σ' H',Inv X pins σ' H' s'∧Q σ' H') X.xe s
def PGs (X:Cx) (ts:List Expr) (t:TGs):Prop :=
  ∀ (pins:List (Addr×Obj)) (s:Shared) (σ:St) (H:Hp) (vs:List V) (us:List Value) (Q:St→Hp→Prop),Inv X pins σ H s→Vals vs us→t vs σ H Q →
    wpAny (model X.prog X.w) X.A (assignInOrder ((assignEach ts X.env).map (·.2)) us) (fun _ s'=>∃ σ' H',Inv X pins σ' H' s'∧Q σ' H') X.xe s
abbrev WS:=V→V→V→Hp→(Hp→Prop)→Prop
def Zn (X:Cx) (t:WS):Prop :=
  ∀ (pins:List (Addr×Obj)) (s:Shared) (σ:St) (H:Hp) (o i v:V) (ov iv u:Value) (Q:Hp→Prop),Inv X pins σ H s→RelV o ov→RelV i iv→RelV v u→t o i v H Q →
    wpAny (model X.prog X.w) X.A (setItem ov iv u) (fun _ s'=>∃ H',Inv X pins σ H' s'∧Q H') X.xe s
abbrev TIp:=V→V→Hp→VK→Prop
def PIp (X:Cx) (op:Operator) (t:TIp):Prop :=
  ∀ (pins:List (Addr×Obj)) (s:Shared) (σ:St) (H:Hp) (x y:V) (v u:Value) (Q:VK),Inv X pins σ H s→RelV x v→RelV y u→t x y H Q →
    wpAny (model X.prog X.w) X.A (inplaceOp op v u) (EP X pins σ Q) X.xe s
section
variable {X:Cx} {pos:Pos}
def kS (i:Nat):TG:=fun v σ H Q=>Q (σ.set i (some v)) H
theorem fK {i:Nat} {x:Str} (hN:X.N.Nodup) (hi:X.N[i]?=some x) (hx:Loc X.env.scope x) (hf:X.fn x=true∨X.env.scope.names.lookup x=some .local:=by first|exact .inl rfl|exact .inr rfl|assumption):PG X (.Name x pos) (kS i):=by
  intro pins s σ H v u Q I r h
  exact wpAny_assign_Name (xo I hN hi hx r (fun s' I'=>⟨_,H,I',h⟩) hf)
def ZR:TGs:=fun vs σ H Q=>vs=[]∧Q σ H
def Yv (t:TG) (u:TGs):TGs:=fun vs σ H Q=>∃ v r,vs=v::r∧t v σ H fun σ' H'=>u r σ' H' Q
theorem JD:PGs X [] ZR:=by
  intro pins s σ H vs us Q I r h
  obtain ⟨e,h⟩:=h
  subst e
  cases r
  exact assignInOrder_nil ⟨σ,H,I,h⟩
theorem xr {e:Expr} {es:List Expr} {t:TG} {u:TGs} (h1:PG X e t) (h2:PGs X es u)
    (hs:(assignEach (e::es) X.env).map (·.2)=assign e X.env::(assignEach es X.env).map (·.2):=by rfl):PGs X (e::es) (Yv t u):=by
  intro pins s σ H vs us Q I r h
  obtain ⟨v,vr,e1,h⟩:=h
  subst e1
  cases r with
  | cons r rr =>
    rw [hs]
    refine assignInOrder_cons (thn (h1 pins s σ H _ _ _ I r h) fun _ s1 ⟨σ1,H1,I1,q1⟩=>?_)
    exact h2 pins s1 σ1 H1 _ _ Q I1 rr q1
def ZS (K:W.Frag) (n:Nat) (t:TGs):TG:=fun v σ H Q=>∃ a xs,v=.ref a∧SqT K H a xs∧xs.length=n∧t xs σ H Q
theorem Mv {es:List Expr} {k:Nat} {t:TGs} {n:Nat} (hc:X.calm=true) (h:PGs X es t)
    (hn:(assignEach es X.env).length=n:=by rfl) (hst:(assignEach es X.env).findIdx? (·.1)=none:=by rfl):PG X (.Tuple es k pos) (ZS X.K n t):=by
  intro pins s σ H v u Q I r hw
  obtain ⟨a,xs,e1,hq,hl,hw⟩:=hw
  subst e1
  cases r
  obtain ⟨its,rv,ht,hz⟩:=I.tuple hq
  refine assign_Tuple_tuple (I.ok.hd hc) ht (by simp [hn,←hl,rv.length]) hst fun h' hx=>?_
  have I1:Inv X pins σ H {s with heap:=h'}:=I.kept (t':=s.toks) fun b o e=>hx b o (Nat.ne_of_lt (Heap.lt_size e)) e
  exact h pins _ σ H xs _ Q I1 (by simpa using rv) hw
def ZT (to ti:TE) (t:WS):TG:=fun v σ H Q=>to σ H fun o H1=>ti σ H1 fun i H2=>t o i v H2 fun H3=>Q σ H3
theorem ny {o i:Expr} {to ti:TE} {t:WS} (ho:PE X o to) (hi:PE X i ti) (hs:Zn X t)
    (ha:∀ v,assign (.Subscript o i pos) X.env v=(do
      let ov ←holding [v] (eval o X.env)
      let iv ←holding [v,ov] (eval i X.env)
      standAt pos
      holding [v,ov,iv] (setItem ov iv v)
      release [v,ov,iv] []):=by intro _;rfl):PG X (.Subscript o i pos) (ZT to ti t):=by
  intro pins s σ H v u Q I r h
  rw [ha]
  refine wpAny_bind (wpAny_holding (thn (ho pins s σ H _ I h) fun ov s1 ⟨x,H1,I1,r1,q1⟩=>?_))
  refine wpAny_bind (wpAny_holding (thn (hi pins s1 σ H1 _ I1 q1) fun iv s2 ⟨y,H2,I2,r2,q2⟩=>?_))
  refine wpAny_bind (wpAny_standAt (wpAny_bind (wpAny_holding (thn (hs pins s2 σ H2 x y v ov iv u _ I2 r1 r2 r q2) fun _ s3 ⟨H3,I3,q3⟩=>?_))))
  exact wpAny_release ⟨σ,H3,I3,q3⟩
def Mw (te:TE) (g:TG):TS:=fun D σ H=>te σ H fun x H1=>g x σ H1 D.nx
theorem nA {tg e:Expr} {te:TE} {g:TG} (he:PE X e te) (hg:PG X tg g) (hs:swapsWithSole [tg] e pos.line X.env=pure false:=by rfl) (hw:swappedStores [tg] e X.env=pure none:=by rfl)
    (h1:(assignEach [tg] X.env).map (·.2)=[assign tg X.env]:=by rfl):PS X (.Assign [tg] e pos) (Mw te g):=by
  intro pins s σ H D I h
  refine wpAny_Assign_stores (thn (he pins s σ H _ I h) fun v s1 ⟨x,H1,I1,r1,q1⟩=>?_) hs hw
  rw [h1]
  exact thn (hg pins s1 σ H1 x v _ I1 r1 q1) fun _ s2 q=>q
theorem bp {i:Nat} {x:Str} {e:Expr} {te:TE} {pos':Pos} (hN:X.N.Nodup) (hi:X.N[i]?=some x) (hx:Loc X.env.scope x) (he:PE X e te) (hs:swapsWith e (some (.Name x pos')) pos.line X.env=pure false:=by rfl) (hf:X.fn x=true∨X.env.scope.names.lookup x=some .local:=by first|exact .inl rfl|exact .inr rfl|assumption) :
    PS X (.Assign [.Name x pos'] e pos) (Mw te (kS i)):=by
  intro pins s σ H D I h
  refine wpAny_Assign_Name (thn (he pins s σ H _ I h) fun v s1 ⟨y,H1,I1,r1,q1⟩=>?_) hs
  exact xo I1 hN hi hx r1 (fun s2 I2=>⟨_,H1,I2,q1⟩) hf
def ZU (i:Nat) (te:TE) (ti:TIp):TS:=fun D σ H=>∃ x,σ[i]?=some (some x)∧te σ H fun y H1=>ti x y H1 fun z H2=>D.nx (σ.set i (some z)) H2
theorem V7 {i:Nat} {x:Str} {e:Expr} {te:TE} {op:Operator} {ti:TIp} {pos':Pos} (hN:X.N.Nodup) (hi:X.N[i]?=some x) (hx:Loc X.env.scope x) (he:PE X e te) (ho:PIp X op ti) (hf:X.fn x=true∨X.env.scope.names.lookup x=some .local:=by first|exact .inl rfl|exact .inr rfl|assumption) :
    PS X (.AugAssign (.Name x pos') op e pos) (ZU i te ti):=by
  intro pins s σ H D I h
  obtain ⟨v,e1,h⟩:=h
  obtain ⟨m,hn,hl⟩:=I.loc
  have vis:Vis X.env.scope x:=by rcases hx with k|k;exact .inl k;exact .inr (.inl k)
  obtain ⟨u,r,l⟩:=hl i x v hi e1 vis
  refine wpAny_AugAssign_Name ?_
  have go:wpAny (model X.prog X.w) X.A (eval e X.env) (fun w s₂=>wpAny (model X.prog X.w) X.A (inplaceOp op u w) (fun r s₃=>wpAny (model X.prog X.w) X.A (storeName X.env x r) (fun _=>SP X pins D .next) X.xe s₃) X.xe s₂) X.xe s:=by
    refine thn (he pins s σ H _ I h) fun w s1 ⟨y,H1,I1,r1,q1⟩=>?_
    refine thn (ho pins s1 σ H1 v y u w _ I1 r r1 q1) fun z s2 ⟨zv,H2,I2,r2,q2⟩=>?_
    exact xo I2 hN hi hx r2 (fun s3 I3=>⟨_,H2,I3,q2⟩) hf
  rcases l with ⟨hk,hm⟩|⟨hk,c,hc,Ls⟩
  · exact wpAny_loadName_local I.ok.kind hk hn hm go
  · rcases hk with hk|hk
    · exact wpAny_loadName_cell I.ok.kind hk hc Ls go
    · rcases hx with k|k
      · have:X.env.scope.names.lookup x=some .free:=hk
        rw [k] at this;cases this
      · have:X.env.scope.names.lookup x=some .free:=hk
        rw [k] at this;cases this
def ipI (f:Int→Int→Int):TIp:=fun x y H Q=>∃ i j,x=.int i∧y=.int j∧Q (.int (f i j)) H
theorem V8:PIp X .Add (ipI fun i j=>i+j):=by
  intro pins s σ H x y v u Q I r1 r2 h
  obtain ⟨i,j,e1,e2,q⟩:=h
  subst e1;subst e2
  obtain ⟨t,rfl⟩:=r1
  obtain ⟨t',rfl⟩:=r2
  exact iadd_int ⟨.int _,H,I.tok _,⟨_,rfl⟩,q⟩
end
section
variable {X:Cx} {pos:Pos}
def V9 (c:TT) (tb:TS):TS:=fun D σ H=>∃ W:Nat→St→Hp→Prop,(∃ m,W m σ H)∧∀ m σ H,W m σ H →
  c σ H fun b H1=>if b=true then ∃ N:St→Hp→Prop,(∀ σ' H',N σ' H'→∃ m',m'<m∧W m' σ' H')∧tb {D with nx:=N,ct:=N,bk:=D.nx} σ H1 else D.nx σ H1
theorem LS {c:Expr} {body:List Stmt} {tc:TT} {tb:TS} (hp:PassesOwn (model X.prog X.w) X.A X.env X.xe) (hc:PT X c tc) (hb:PSs X body tb):PS X (.While c body [] pos) (V9 tc tb):=by
  intro pins s σ H D I h
  obtain ⟨W,⟨m0,w0⟩,turn⟩:=h
  refine wpAny_While (codeAny_whileLoop (fun n s'=>∃ σ' H',Inv X pins σ' H' s'∧W n σ' H') ?_ m0 ⟨σ,H,I,w0⟩)
  rintro n s1 ⟨σ1,H1,I1,w1⟩
  refine wpAny_passesOwn hp (thn (hc pins s1 σ1 H1 _ I1 (turn n σ1 H1 w1)) fun b s2 ⟨H2,I2,q2⟩=>?_)
  cases b with
  | true =>
    obtain ⟨N,hN,q2⟩:=q2
    rw [if_pos rfl]
    refine wpAny_passesOwn hp (thn (hb pins s2 σ1 H2 _ I2 q2) fun f s3 q3=>?_)
    cases f with
    | next =>
      obtain ⟨σ3,H3,I3,n3⟩:=q3
      obtain ⟨m',hm,w3⟩:=hN σ3 H3 n3
      exact ⟨m',hm,σ3,H3,I3,w3⟩
    | cont =>
      obtain ⟨σ3,H3,I3,n3⟩:=q3
      obtain ⟨m',hm,w3⟩:=hN σ3 H3 n3
      exact ⟨m',hm,σ3,H3,I3,w3⟩
    | brk=>exact q3
    | ret v=>exact q3
  | false =>
    rw [if_neg Bool.false_ne_true]
    exact wpAny_execs_nil ⟨σ1,H2,I2,q2⟩
end
structure It where
  go:Nat→Hp→Prop
  yld:Nat→Hp→V→Hp→Prop
  stop:Nat→Hp→Prop
def DL (X:Cx) (pins:List (Addr×Obj)) (H:Hp) (b:Addr):Prop :=
  H b=none∧b≠X.env.locals∧b∉X.fs∧(b∈X.ex∨X.s₀.heap.objs.size≤b)∧(∀ x c,X.env.cells.lookup x=some c→c≠b)∧∀ p∈X.pn++pins,p.1≠b
theorem Inv.NO {X:Cx} {pins:List (Addr×Obj)} {σ:St} {H H':Hp} {s:Shared} {b:Addr} (I:Inv X pins σ H s) (hb:s.heap.objs.size≤b) (hn:H' b=none):DL X pins H' b:=by
  refine ⟨hn,Nat.ne_of_gt (Nat.lt_of_lt_of_le I.lt hb),I.ZL hb,.inr (Nat.le_trans I.sz hb),fun x c e z=>?_,fun p hp z=>?_⟩
  · obtain ⟨v,q⟩:=I.cell x c e
    exact absurd (Nat.lt_of_lt_of_le q.lt (by rw [z];exact hb)) (Nat.lt_irrefl _)
  · exact absurd (Nat.lt_of_lt_of_le (Heap.lt_size (I.pin p hp).1) (by rw [z];exact hb)) (Nat.lt_irrefl _)
structure Turn (P:Program) (w:World) (K:W.Frag) (tg:Expr) (J:It) (fp:List Addr) (it:Addr) (tn:Nat→Heap→Prop):Prop where
  mem:it∈fp
  obj:∀ i h,tn i h→∀ b∈fp,∃ o,h.get? b=some o∧∀ v,o.data≠.cell v
  keep:∀ i h h',tn i h→(∀ b∈fp,∀ o,h.get? b=some o→h'.get? b=some o)→tn i h'
  item:∀ (X:Cx),X.prog=P→X.w=w→X.K=K→X.calm=true→∀ (i:Nat) (pins:List (Addr×Obj)) (s:Shared) (σ:St) (H:Hp) (E:Value→Shared→Prop),Inv X pins σ H s→(∀ b∈fp,DL X pins H b)→tn i s.heap→J.go i H →
    wpAny (model P w) X.A (pyNext (.ref it)) (fun r s1=>∃ u,r=some u ∧
      wpAny (model P w) X.A (letOwnedTupleGo tg (.ref it) u) (fun _ s2=>∃ x H',Inv X pins σ H' s2∧RelV x u∧J.yld i H x H'∧tn (i+1) s2.heap∧∀ b∈fp,H' b=none) E s1) E s
  done:∀ (X:Cx),X.prog=P→X.w=w→X.K=K→X.calm=true→∀ (i:Nat) (pins:List (Addr×Obj)) (s:Shared) (σ:St) (H:Hp) (E:Value→Shared→Prop),Inv X pins σ H s→(∀ b∈fp,DL X pins H b)→tn i s.heap→J.stop i H →
    wpAny (model P w) X.A (pyNext (.ref it)) (fun r s1=>r=none∧Inv X pins σ H s1) E s
  self:∀ (A:Around) (i:Nat) (s:Shared) (Q:Value→Shared→Prop) (E:Value→Shared→Prop),tn i s.heap→Q (.ref it) s→wpAny (model P w) A (pyIter (.ref it)) Q E s
abbrev TI:=St→Hp→(It→Hp→Prop)→Prop
def PIE (X:Cx) (pins:List (Addr×Obj)) (σ:St) (tg:Expr) (R:It→Hp→Prop) (itv:Value) (s2:Shared):Prop :=
  ∃ (it:Addr) (fp:List Addr) (tn:Nat→Heap→Prop) (J:It) (H':Hp),itv=.ref it∧Inv X pins σ H' s2∧Turn X.prog X.w X.K tg J fp it tn∧tn 0 s2.heap∧(∀ b∈fp,DL X pins H' b)∧R J H'
def PI (X:Cx) (tg iter:Expr) (wi:TI):Prop :=
  ∀ (pins:List (Addr×Obj)) (s:Shared) (σ:St) (H:Hp) (R:It→Hp→Prop),Inv X pins σ H s→wi σ H R →
    wpAny (model X.prog X.w) X.A (eval iter X.env) (fun v s1=>wpAny (model X.prog X.w) X.A (pyIter v) (PIE X pins σ tg R) X.xe s1) X.xe s
theorem Ro {M:Model} {A:Around} {E:Value→Shared→Prop} {s:Shared} {tg:Expr} {it:Addr} {u:Value} {o:Obj} {n:String} {vs:Array Value} {Q:Unit→Shared→Prop} (ho:s.heap.get? it=some o) (hc:o.cls=.type n) (hd:o.data=.fields vs)
    (hn:["enumerate", "zip", "dict_itemiterator", "dict_reverseitemiterator", "odict_iterator", "itertools.zip_longest", "itertools.pairwise"].contains n=false) (hQ:Q () s):wpAny M A (letOwnedTupleGo tg (.ref it) u) Q E s:=by
  unfold letOwnedTupleGo
  cases tg<;>first
    | exact wpAny_pure hQ
    | (cases u<;>first
        | exact wpAny_pure hQ
        | (refine wpAny_bind (wpAny_load ho ?_)
           rw [hc,hd]
           show wpAny M A (if (["enumerate", "zip", "dict_itemiterator", "dict_reverseitemiterator", "odict_iterator", "itertools.zip_longest", "itertools.pairwise"].contains n&&vs[0]? == some (rawInt _))=true then _ else _) Q E s
           rw [if_neg (by intro h;rw [hn,Bool.false_and] at h;cases h)]
           exact wpAny_pure hQ))
def Itl (K:W.Frag) (a:Addr):It :=
  ⟨fun i H=>∃ xs x,SqL K H a xs∧xs[i]?=some x,fun i H x H'=>H'=H∧∀ xs,SqL K H a xs→xs[i]?=some x,fun i H=>∃ xs,SqL K H a xs∧xs.length≤i⟩
def Itr (lo:Int) (n:Nat):It:=⟨fun i _=>i<n,fun i H x H'=>H'=H∧x=.int (lo+i),fun i _=>n≤i⟩
theorem Kz {P:Program} {w:World} {K:W.Frag} {tg:Expr} (a it:Addr):Turn P w K tg (Itl K a) [it] it (fun i h=>h.IsListIter it a i) where
  mem:=by simp
  obj:=fun i h st b hb=>by
    have e:b=it:=by simpa using hb
    subst e
    obtain ⟨o,e,c,d⟩:=st
    exact ⟨o,e,fun v z=>by rw [d] at z;cases z⟩
  keep:=fun i h h' st k=>st.at fun o e=>k it (by simp) o e
  item:=by
    intro X hP hw hK hc i pins s σ H E I hf st hg
    subst hP hw hK
    obtain ⟨xs,x,hq,hx⟩:=hg
    obtain ⟨its,rv,p,hz⟩:=I.list hq
    obtain ⟨u,hu,ru⟩:=rv.get hx
    obtain ⟨f0,f1,f2,f3,f4,f5⟩:=hf it (by simp)
    refine wpAny_pyNext_list_item st p.isList (x:=u) (by simpa using hu) fun h' st' sb=>?_
    have I1:Inv X pins σ H {s with heap:=h'}:=I.turned (t':=s.toks) (fun b o hb e=>(sb.2 b hb).trans e) f0 f1 f3 f4 f5
    obtain ⟨o,e,c,d⟩:=id st'
    exact ⟨u,rfl,Ro (s:={s with heap:=h'}) e c d (by decide) ⟨x,H,I1,ru,⟨rfl,fun ys hy=>by rw [I.G0 hy hq];exact hx⟩,st',fun b hb=>(hf b hb).1⟩⟩
  done:=by
    intro X hP hw hK hc i pins s σ H E I hf st hg
    subst hP hw hK
    obtain ⟨xs,hq,hx⟩:=hg
    obtain ⟨its,rv,p,hz⟩:=I.list hq
    obtain ⟨f0,f1,f2,f3,f4,f5⟩:=hf it (by simp)
    have hl:=rv.length
    exact wpAny_pyNext_list_end (I.ok.hd hc) st p.isList (by simp;omega) fun h' eb=>⟨rfl,I.turned (t':=s.toks) (fun b o hb e=>eb b o hb e) f0 f1 f3 f4 f5⟩
  self:=fun _ _ _ _ _ st h=>wpAny_pyIter_listiter st h
theorem Ia {P:Program} {w:World} {K:W.Frag} {tg:Expr} (it:Addr) (lo:Int) (n:Nat):Turn P w K tg (Itr lo n) [it] it (fun i h=>IsRangeIter h it (lo+(i:Nat)*1) ((n:Int)-(i:Nat)) 1) where
  mem:=by simp
  obj:=fun i h st b hb=>by
    have e:b=it:=by simpa using hb
    subst e
    exact ⟨_,st,fun v z=>by
      have z':Data.fields _=Data.cell v:=z
      cases z'⟩
  keep:=fun i h h' st k=>k it (by simp) _ st
  item:=by
    intro X hP hw hK hc i pins s σ H E I hf st hg
    subst hP hw hK
    obtain ⟨f0,f1,f2,f3,f4,f5⟩:=hf it (by simp)
    have W:=Walks.range (prog:=X.prog) (w:=X.w) (I.ok.hd hc) it lo 1 n
    refine W.item i s _ _ hg st fun v h' tk hv st' kk=>?_
    obtain ⟨t,rfl⟩:=hv
    have I1:Inv X pins σ H {s with heap:=h',toks:=tk}:=I.turned (fun b o hb e=>kk b o (by simpa using hb) e) f0 f1 f3 f4 f5
    refine ⟨_,rfl,Ro (s:={s with heap:=h',toks:=tk}) (n := "range_iterator") st' rfl rfl (by decide) ⟨.int (lo+i),H,I1,⟨t,?_⟩,⟨rfl,rfl⟩,st',fun b hb=>(hf b hb).1⟩⟩
    rw [Int.mul_one]
  done:=by
    intro X hP hw hK hc i pins s σ H E I hf st hg
    subst hP hw hK
    obtain ⟨f0,f1,f2,f3,f4,f5⟩:=hf it (by simp)
    exact wpAny_pyNext_range_end (I.ok.hd hc) st (by have:n≤i:=hg;omega) fun h' eb=>⟨rfl,I.turned (t':=s.toks) (fun b o hb e=>eb b o hb e) f0 f1 f3 f4 f5⟩
  self:=fun _ _ _ _ _ st h=>wpAny_pyIter_rangeiter st h
end L2
namespace L2
open PySem PySem.Spec PyProof.Rows
section
variable {X:Cx} {tg:Expr}
def Yw (K:W.Frag) (tl:TE):TI:=fun σ H R=>tl σ H fun x H1=>∃ a,x=.ref a∧(∃ xs,SqL K H1 a xs)∧R (Itl K a) H1
theorem qd {l:Expr} {tl:TE} (hl:PE X l tl):PI X tg l (Yw X.K tl):=by
  intro pins s σ H R I h
  refine thn (hl pins s σ H _ I h) fun v s1 ⟨x,H1,I1,r1,q1⟩=>?_
  obtain ⟨a,e,⟨xs,hq⟩,q⟩:=q1
  subst e
  cases r1
  obtain ⟨its,rv,p,hz⟩:=I1.list hq
  refine wpAny_pyIter_list p.isList ?_
  refine ⟨s1.heap.objs.size,[s1.heap.objs.size],_,_,H1,rfl,I1.kept (t':=s1.toks) fun b o e=>Heap.get?_push_of_some _ e,Kz a _,⟨_,Heap.get?_push_size _ rfl,rfl,rfl⟩,fun b hb=>?_,q⟩
  have e:b=s1.heap.objs.size:=by simpa using hb
  subst e
  exact I1.NO (Nat.le_refl _) (I1.hok.fresh (Nat.le_refl _))
theorem G4 {pins:List (Addr×Obj)} {σ:St} {H:Hp} {s:Shared} {R:It→Hp→Prop} {E:Value→Shared→Prop} {lo hi:Int} {t u v:Tok} {tk:Nat} (I:Inv X pins σ H s) (h1:-(2 ^ 62)≤lo) (h2:lo<2 ^ 62) (h3:-(2 ^ 62)≤hi) (h4:hi<2 ^ 62)
    (q:R (Itr lo (hi-lo).toNat) H):wpAny (model X.prog X.w) X.A (pyIter (.ref s.heap.objs.size)) (PIE X pins σ tg R) E {s with heap:=s.heap.push {cls:=.type "range",data:=.fields #[.int lo t,.int hi u,.int 1 v]},toks:=tk}:=by
  refine wpAny_pyIter_range (IsRange.new ..) (small_one h1 h2 h3 h4) ?_
  have I1:Inv X pins σ H {s with heap:=s.heap.push {cls:=.type "range",data:=.fields #[.int lo t,.int hi u,.int 1 v]},toks:=tk}:=I.kept fun b o e=>Heap.get?_push_of_some _ e
  refine ⟨(s.heap.push {cls:=.type "range",data:=.fields #[.int lo t,.int hi u,.int 1 v]}).objs.size,[(s.heap.push {cls:=.type "range",data:=.fields #[.int lo t,.int hi u,.int 1 v]}).objs.size],_,_,H,rfl,
    I1.kept (t':=tk) fun b o e=>Heap.get?_push_of_some _ e,Ia _ lo (hi-lo).toNat,?_,fun b hb=>?_,q⟩
  · have e1:lo+((0:Nat):Int)*1=lo:=by simp
    have e2:(((hi-lo).toNat:Nat):Int)-((0:Nat):Int)=Builtin.Range.rangeSize lo hi 1:=by rw [rangeSize_one];split<;>omega
    show IsRangeIter _ _ (lo+((0:Nat):Int)*1) ((((hi-lo).toNat:Nat):Int)-((0:Nat):Int)) 1
    rw [e1,e2]
    exact Heap.get?_push_size _ rfl
  · have e:b=(s.heap.push {cls:=.type "range",data:=.fields #[.int lo t,.int hi u,.int 1 v]}).objs.size:=by simpa using hb
    subst e
    exact I1.NO (Nat.le_refl _) (I1.hok.fresh (Nat.le_refl _))
def Yx (ta:TA):TI:=fun σ H R=>ta σ H fun vs H1=>∃ j:Int,vs=[.int j]∧-(2 ^ 62)≤j∧j<2 ^ 62∧R (Itr 0 j.toNat) H1
def Yy (ta:TA):TI:=fun σ H R=>ta σ H fun vs H1=>∃ i j:Int,vs=[.int i,.int j]∧(-(2 ^ 62)≤i∧i<2 ^ 62∧-(2 ^ 62)≤j∧j<2 ^ 62)∧R (Itr i (j-i).toNat) H1
theorem zH {a:Expr} {ta:TA} {p pos:Pos} (hg:Gl X "range") (hm:X.mg "range" = none) (ha:PA X [a] ta) (hs:starEach [a] X.env=[(false,eval a X.env)]:=by rfl):PI X tg (.Call (.Name "range" p) [a] [] pos) (Yx ta):=by
  intro pins s σ H R I h
  refine Call_ (xk I hg hm boot_range (PyProof.Rows.callWith_type1 (thn (ha pos pins s σ H _ I h) fun us s1 ⟨vs,H1,I1,r1,q1⟩=>?_) hs rfl))
  obtain ⟨j,e,q1,q2,q⟩:=q1
  subst e
  cases r1 with
  | cons r rr =>
    cases rr
    obtain ⟨t,rfl⟩:=r
    exact call_range_1 (G4 I1 (by omega) (by omega) q1 q2 (by simpa using q))
theorem KA {a b:Expr} {ta:TA} {p pos:Pos} (hg:Gl X "range") (hm:X.mg "range" = none) (ha:PA X [a,b] ta) (hs:starEach [a,b] X.env=[(false,eval a X.env),(false,eval b X.env)]:=by rfl) (hs2:starEach [b] X.env=[(false,eval b X.env)]:=by rfl) :
    PI X tg (.Call (.Name "range" p) [a,b] [] pos) (Yy ta):=by
  intro pins s σ H R I h
  refine Call_ (xk I hg hm boot_range (PyProof.Rows.callWith_type1 (thn (ha pos pins s σ H _ I h) fun us s1 ⟨vs,H1,I1,r1,q1⟩=>?_) (by rw [hs,hs2]) (by rw [hs2];rfl)))
  obtain ⟨i,j,e,⟨q1,q2,q3,q4⟩,q⟩:=q1
  subst e
  cases r1 with
  | cons r rr =>
    cases rr with
    | cons r' rr =>
      cases rr
      obtain ⟨t,rfl⟩:=r
      obtain ⟨t',rfl⟩:=r'
      exact call_range_2 (G4 I1 q1 q2 q3 q4 q)
def ZV (wi:TI) (g:TG) (tb:TS):TS:=fun D σ H=>wi σ H fun J H1=>∃ W:Nat→Nat→St→Hp→Prop,(∃ m,W 0 m σ H1)∧∀ i m σ H,W i m σ H →
  (J.stop i H∧D.nx σ H)∨(J.go i H∧∃ N:St→Hp→Prop,(∀ σ' H',N σ' H'→∃ m',m'<m∧W (i+1) m' σ' H')∧∀ x H',J.yld i H x H'→g x σ H' fun σ2 H2=>tb {D with nx:=N,ct:=N,bk:=D.nx} σ2 H2)
def CO (fp:List Addr) (h:Heap):List (Addr×Obj):=fp.filterMap fun b=>(h.get? b).map fun o=>(b,o)
theorem i8 {fp:List Addr} {h:Heap} {b:Addr} {o:Obj} (hb:b∈fp) (e:h.get? b=some o):(b,o)∈CO fp h:=List.mem_filterMap.mpr ⟨b,hb,by rw [e];rfl⟩
theorem KC {fp:List Addr} {h:Heap} {p:Addr×Obj} (hp:p∈CO fp h):p.1∈fp∧h.get? p.1=some p.2:=by
  obtain ⟨b,hb,e⟩:=List.mem_filterMap.mp hp
  cases q:h.get? b with
  | none=>rw [q] at e;cases e
  | some o =>
    rw [q] at e
    have e':(b,o)=p:=Option.some.inj e
    subst e'
    exact ⟨hb,q⟩
theorem Inv.pinned {pins:List (Addr×Obj)} {σ:St} {H:Hp} {s:Shared} {fp:List Addr} (I:Inv X pins σ H s) (hf:∀ b∈fp,DL X pins H b) (ho:∀ b∈fp,∃ o,s.heap.get? b=some o∧∀ v,o.data≠.cell v):Inv X (pins++CO fp s.heap) σ H s :=
  I.JC fun p hp=>(List.mem_append.mp hp).elim (fun z=>I.pin p (List.mem_append_right _ z)) fun z=>by
    obtain ⟨hb,e⟩:=KC z
    obtain ⟨f0,f1,f2,_⟩:=hf p.1 hb
    obtain ⟨o,e',d⟩:=ho p.1 hb
    rw [e] at e';cases e'
    exact ⟨e,f0,f1,f2,d⟩
theorem Inv.oE {pins pl:List (Addr×Obj)} {σ:St} {H:Hp} {s:Shared} (I:Inv X (pins++pl) σ H s):Inv X pins σ H s:=I.JC fun p hp=>I.pin p (List.mem_append_right _ (List.mem_append_left _ hp))
theorem kO {iter:Expr} {body:List Stmt} {wi:TI} {g:TG} {tb:TS} {pos:Pos} (hp:PassesOwn (model X.prog X.w) X.A X.env X.xe) (hc:X.calm=true) (hi:PI X tg iter wi) (hg:PG X tg g) (hb:PSs X body tb)
    (hs:∀ x,foldedSetIterable iter X.env x=pure x:=by intro _;rfl):PS X (.For tg iter body [] pos) (ZV wi g tb):=by
  intro pins s σ H D I h
  refine wpAny_For (thn (hi pins s σ H _ I h) fun v s1 h1=>thn h1 fun itv s2 h2=>?_) hs
  obtain ⟨it,fp,tn,J,H2,e,I2,T,st2,f2,W,⟨m0,w0⟩,turn⟩:=h2
  subst e
  have Fu:∀ {H':Hp},(∀ b∈fp,H' b=none)→∀ b∈fp,DL X pins H' b:=fun hn b hb=>⟨hn b hb,(f2 b hb).2⟩
  refine codeAny_forLoop_any (fun n s'=>∃ i σ' H',Inv X pins σ' H' s'∧tn i s'.heap∧(∀ b∈fp,H' b=none)∧W i n σ' H') ?_ m0 ⟨0,σ,H2,I2,st2,fun b hb=>(f2 b hb).1,w0⟩
  rintro n s3 ⟨i,σ3,H3,I3,st3,fr3,w3⟩
  rcases turn i n σ3 H3 w3 with ⟨stop,qn⟩|⟨go,N,hN,step⟩
  · refine wpAny_passesOwn hp (thn (T.done X rfl rfl rfl hc i pins s3 σ3 H3 X.xe I3 (Fu fr3) st3 stop) fun r s4 ⟨hr,I4⟩=>?_)
    subst hr
    exact wpAny_execs_nil ⟨σ3,H3,I4,qn⟩
  · refine wpAny_passesOwn hp (thn (T.item X rfl rfl rfl hc i pins s3 σ3 H3 X.xe I3 (Fu fr3) st3 go) fun r s4 ⟨u,hr,h4⟩=>?_)
    subst hr
    refine wpAny_passesOwn hp (thn h4 fun _ s5 ⟨x,H5,I5,r5,y5,st5,fr5⟩=>?_)
    have I5':=I5.pinned (Fu fr5) (T.obj _ _ st5)
    refine wpAny_passesOwn hp (thn (hg _ s5 σ3 H5 x u _ I5' r5 (step x H5 y5)) fun _ s6 ⟨σ6,H6,I6,q6⟩=>?_)
    refine wpAny_passesOwn hp (thn (hb _ s6 σ6 H6 _ I6 q6) fun f s7 q7=>?_)
    have again:∀ {σ7:St} {H7:Hp},Inv X (pins++CO fp s5.heap) σ7 H7 s7→N σ7 H7→∃ m,m<n∧∃ i σ' H',Inv X pins σ' H' s7∧tn i s7.heap∧(∀ b∈fp,H' b=none)∧W i m σ' H':=fun {σ7 H7} I7 n7=>by
      obtain ⟨m',hm,w7⟩:=hN σ7 H7 n7
      refine ⟨m',hm,i+1,σ7,H7,I7.oE,T.keep _ _ _ st5 fun b hb o e=>(I7.pin (b,o) (List.mem_append_right _ (List.mem_append_right _ (i8 hb e)))).1,fun b hb=>?_,w7⟩
      obtain ⟨o,e,d⟩:=T.obj _ _ st5 b hb
      exact (I7.pin (b,o) (List.mem_append_right _ (List.mem_append_right _ (i8 hb e)))).2.1
    cases f with
    | next=>obtain ⟨σ7,H7,I7,n7⟩:=q7;exact again I7 n7
    | cont=>obtain ⟨σ7,H7,I7,n7⟩:=q7;exact again I7 n7
    | brk=>obtain ⟨σ7,H7,I7,q7⟩:=q7;exact ⟨σ7,H7,I7.oE,q7⟩
    | ret v=>obtain ⟨x7,σ7,H7,I7,r7,q7⟩:=q7;exact ⟨x7,σ7,H7,I7.oE,r7,q7⟩
end
theorem CD {K:W.Frag} {a:Addr} {xs:List V} {g:TG} {tb:TS} {D:Ends} {σ:St} {H:Hp} (Pv:Nat→St→Hp→Prop) (h0:Pv 0 σ H) (hl:∀ i σ H,i≤xs.length→Pv i σ H→SqL K H a xs)
    (hs:∀ i x σ H,xs[i]?=some x→Pv i σ H→g x σ H fun σ2 H2=>tb {D with nx:=Pv (i+1),ct:=Pv (i+1),bk:=D.nx} σ2 H2) (hd:∀ σ H,Pv xs.length σ H→D.nx σ H) :
    ∃ W:Nat→Nat→St→Hp→Prop,(∃ m,W 0 m σ H)∧∀ i m σ H,W i m σ H →
      ((Itl K a).stop i H∧D.nx σ H)∨((Itl K a).go i H∧∃ N:St→Hp→Prop,(∀ σ' H',N σ' H'→∃ m',m'<m∧W (i+1) m' σ' H')∧∀ x H',(Itl K a).yld i H x H'→g x σ H' fun σ2 H2=>tb {D with nx:=N,ct:=N,bk:=D.nx} σ2 H2):=by
  refine ⟨fun i m σ H=>m=xs.length-i∧i≤xs.length∧Pv i σ H,⟨xs.length,by simp,Nat.zero_le _,h0⟩,?_⟩
  rintro i m σ H ⟨rfl,hi,p⟩
  have q:=hl i σ H hi p
  by_cases hlt:i<xs.length
  · refine .inr ⟨⟨xs,xs[i],q,by simp [hlt]⟩,Pv (i+1),fun σ' H' p'=>⟨xs.length-(i+1),by omega,rfl,hlt,p'⟩,fun x H' y=>?_⟩
    obtain ⟨e,y⟩:=y
    subst e
    exact hs i x σ _ (y xs q) p
  · have e:i=xs.length:=by omega
    subst e
    exact .inl ⟨⟨xs,q,Nat.le_refl _⟩,hd σ H p⟩
theorem rW {lo:Int} {n:Nat} {g:TG} {tb:TS} {D:Ends} {σ:St} {H:Hp} (Pv:Nat→St→Hp→Prop) (h0:Pv 0 σ H)
    (hs:∀ i σ H,i<n→Pv i σ H→g (.int (lo+i)) σ H fun σ2 H2=>tb {D with nx:=Pv (i+1),ct:=Pv (i+1),bk:=D.nx} σ2 H2) (hd:∀ σ H,Pv n σ H→D.nx σ H) :
    ∃ W:Nat→Nat→St→Hp→Prop,(∃ m,W 0 m σ H)∧∀ i m σ H,W i m σ H →
      ((Itr lo n).stop i H∧D.nx σ H)∨((Itr lo n).go i H∧∃ N:St→Hp→Prop,(∀ σ' H',N σ' H'→∃ m',m'<m∧W (i+1) m' σ' H')∧∀ x H',(Itr lo n).yld i H x H'→g x σ H' fun σ2 H2=>tb {D with nx:=N,ct:=N,bk:=D.nx} σ2 H2):=by
  refine ⟨fun i m σ H=>m=n-i∧i≤n∧Pv i σ H,⟨n,by simp,Nat.zero_le _,h0⟩,?_⟩
  rintro i m σ H ⟨rfl,hi,p⟩
  by_cases hlt:i<n
  · refine .inr ⟨hlt,Pv (i+1),fun σ' H' p'=>⟨n-(i+1),by omega,rfl,hlt,p'⟩,fun x H' y=>?_⟩
    obtain ⟨e,y⟩:=y
    subst e y
    exact hs i σ _ hlt p
  · have e:i=n:=by omega
    subst e
    exact .inl ⟨Nat.le_refl _,hd σ H p⟩
end L2
namespace L2
open PySem PySem.Spec PyProof.Rows
abbrev R2:=V→V→Hp→VK→Prop
def OpR (X:Cx) (f:Value→Value→Sem Value) (r:R2):Prop :=
  ∀ (pins:List (Addr×Obj)) (s:Shared) (σ:St) (H:Hp) (x y:V) (v u:Value) (Q:VK),Inv X pins σ H s→RelV x v→RelV y u→r x y H Q →
    wpAny (model X.prog X.w) X.A (f v u) (EP X pins σ Q) X.xe s
def ux (X:Cx) (f:Value) (r:List V→Hp→VK→Prop):Prop :=
  ∀ (pins:List (Addr×Obj)) (s:Shared) (σ:St) (H:Hp) (xs:List V) (us:List Value) (Q:VK),Inv X pins σ H s→Vals xs us→r xs H Q →
    wpAny (model X.prog X.w) X.A (call f us) (EP X pins σ Q) X.xe s
def tOp (r:R2) (ta tb:TE):TE:=fun σ H Q=>ta σ H fun x H1=>tb σ H1 fun y H2=>r x y H2 Q
def rI (C:Int→Int→Prop) (g:Int→Int→V):R2:=fun x y H Q=>∃ i j,x=.int i∧y=.int j∧C i j∧Q (g i j) H
def rI0 (g:Int→Int→V):R2:=fun x y H Q=>∃ i j,x=.int i∧y=.int j∧Q (g i j) H
section
variable {X:Cx} {a b c:Expr} {ta tb tc:TE} {pos:Pos}
theorem WT (ha:PE X a ta) (hb:PE X b tb) {pins:List (Addr×Obj)} {s:Shared} {σ:St} {H:Hp} {R:V→V→Hp→Prop} (I:Inv X pins σ H s)
    (h:ta σ H fun x H1=>tb σ H1 fun y H2=>R x y H2) {Q:Value→Shared→Prop} {f:Value→Value→Sem Value}
    (hf:∀ v u s2 x y H2,Inv X pins σ H2 s2→RelV x v→RelV y u→R x y H2→wpAny (model X.prog X.w) X.A (f v u) Q X.xe s2) :
    wpAny (model X.prog X.w) X.A (eval a X.env) (fun v s₁=>wpAny (model X.prog X.w) X.A (eval b X.env) (fun u s₂=>wpAny (model X.prog X.w) X.A (f v u) Q X.xe s₂) X.xe s₁) X.xe s:=by
  refine thn (ha pins s σ H _ I h) fun v s1 ⟨x,H1,I1,r1,q1⟩=>?_
  refine thn (hb pins s1 σ H1 _ I1 q1) fun u s2 ⟨y,H2,I2,r2,q2⟩=>?_
  exact hf v u s2 x y H2 I2 r1 r2 q2
theorem dD {op:Operator} {r:R2} (ho:OpR X (binaryOp op) r) (ha:PE X a ta) (hb:PE X b tb):PE X (.BinOp a op b pos) (tOp r ta tb):=by
  intro pins s σ H Q I h
  exact wpAny_BinOp (WT ha hb I h fun v u s2 x y H2 I2 rx ry q=>ho pins s2 σ H2 x y v u Q I2 rx ry q)
theorem opI {f:Value→Value→Sem Value} {C:Int→Int→Prop} {g:Int→Int→Int}
    (rule:∀ (i j:Int) (t u:Tok) (s:Shared) (Q:Value→Shared→Prop) (E:Value→Shared→Prop),C i j→Q (.int (g i j) s.toks) {s with toks:=s.toks+1}→wpAny (model X.prog X.w) X.A (f (.int i t) (.int j u)) Q E s) :
    OpR X f (rI C fun i j=>.int (g i j)):=by
  intro pins s σ H x y v u Q I rx ry h
  obtain ⟨i,j,rfl,rfl,hc,q⟩:=h
  obtain ⟨t,rfl⟩:=rx
  obtain ⟨t',rfl⟩:=ry
  exact rule i j t t' s _ _ hc ⟨.int (g i j),H,I.tok _,⟨_,rfl⟩,q⟩
theorem Zo {f:Value→Value→Sem Value} {g:Int→Int→Int}
    (rule:∀ (i j:Int) (t u:Tok) (s:Shared) (Q:Value→Shared→Prop) (E:Value→Shared→Prop),Q (.int (g i j) s.toks) {s with toks:=s.toks+1}→wpAny (model X.prog X.w) X.A (f (.int i t) (.int j u)) Q E s) :
    OpR X f (rI0 fun i j=>.int (g i j)):=by
  intro pins s σ H x y v u Q I rx ry h
  obtain ⟨i,j,rfl,rfl,q⟩:=h
  obtain ⟨t,rfl⟩:=rx
  obtain ⟨t',rfl⟩:=ry
  exact rule i j t t' s _ _ ⟨.int (g i j),H,I.tok _,⟨_,rfl⟩,q⟩
theorem Rq {f:Value→Value→Sem Value} {g:Int→Int→Bool}
    (rule:∀ (i j:Int) (t u:Tok) (s:Shared) (Q:Value→Shared→Prop) (E:Value→Shared→Prop),Q (.bool (g i j)) s→wpAny (model X.prog X.w) X.A (f (.int i t) (.int j u)) Q E s) :
    OpR X f (rI0 fun i j=>.bl (g i j)):=by
  intro pins s σ H x y v u Q I rx ry h
  obtain ⟨i,j,rfl,rfl,q⟩:=h
  obtain ⟨t,rfl⟩:=rx
  obtain ⟨t',rfl⟩:=ry
  exact rule i j t t' s _ _ ⟨.bl (g i j),H,I,rfl,q⟩
def ZW (i j:Int):Prop:=0<j∧j<1073741824
def ZX (i j:Int):Prop:=0≤j∧j≤1000000∧i.natAbs<2 ^ 64
def WU (i j:Int):Prop:=(-(2 ^ 64)<i∧i<2 ^ 64)∨(-(2 ^ 64)<j∧j<2 ^ 64)
theorem WU.ok {i j:Int} (h:WU i j):IntMulOk i j:=by
  rcases h with ⟨h1,h2⟩|⟨h1,h2⟩
  · exact .of_left (intBits_le_64 h1 h2)
  · exact .of_right (intBits_le_64 h1 h2)
theorem Bi:OpR X (binaryOp .Add) (rI0 fun i j=>.int (i+j)):=Zo fun _ _ _ _ _ _ _ q=>add_int q
theorem Jo:OpR X (binaryOp .Sub) (rI0 fun i j=>.int (i-j)):=Zo fun _ _ _ _ _ _ _ q=>sub_int q
theorem Fx:OpR X (binaryOp .Mult) (rI WU fun i j=>.int (i*j)):=opI fun _ _ _ _ _ _ _ hc q=>mul_int q hc.ok
theorem sj:OpR X (binaryOp .FloorDiv) (rI ZW fun i j=>.int (i/j)):=opI fun i j _ _ _ _ _ hc q=>by
  have h1:(0:Int)<j:=hc.1
  have h2:j<1073741824:=hc.2
  exact floordiv_int (by omega) (by rw [Int.fdiv_eq_ediv_of_nonneg i (by omega)];exact q) (.inl (PyProof.noPylong_small (by omega)))
theorem j4:OpR X (binaryOp .Mod) (rI (fun _ j=>0<j) fun i j=>.int (i%j)):=opI fun i j _ _ _ _ _ hc q=>by
  have h1:(0:Int)<j:=hc
  exact mod_int' (by omega) (by rw [Int.fmod_eq_emod_of_nonneg i (by omega)];exact q)
theorem Wa:OpR X (binaryOp .Pow) (rI ZX fun i j=>.int (i ^ j.toNat)):=opI fun _ _ _ _ _ _ _ hc q=>pow_int_small hc.1 hc.2.1 hc.2.2 q
end
def WW:V→V→Bool
  | .non,.non=>true|.non,.int _=>true|.int _,.non=>true|.non,.bl _=>true|.bl _,.non=>true|.non,.str _=>true|.str _,.non=>true
  | .int _,.int _=>true|.bl _,.bl _=>true|.str _,.str _=>true|.byt _,.byt _=>true
  | .int _,.str _=>true|.str _,.int _=>true|.bl _,.str _=>true|.str _,.bl _=>true
  | _,_=>false
def rEq:R2:=fun x y H Q=>WW x y=true∧Q (.bl (decide (x=y))) H
def rNe:R2:=fun x y H Q=>WW x y=true∧Q (.bl (!decide (x=y))) H
theorem JE {i j:Int}:decide (V.int i=V.int j)=(i == j):=by
  rw [Bool.eq_iff_iff]
  simp
theorem Mz {i j:Bool}:decide (V.bl i=V.bl j)=(i == j):=by
  rw [Bool.eq_iff_iff]
  simp
theorem JF {i j:Str}:decide (V.str i=V.str j)=(i == j):=by
  rw [Bool.eq_iff_iff]
  simp
theorem JG {i j:Array UInt8}:decide (V.byt i=V.byt j)=(i.toList == j.toList):=by
  rw [Bool.eq_iff_iff]
  cases i
  cases j
  simp
section
variable {X:Cx} {a b c:Expr} {ta tb tc:TE} {pos:Pos}
theorem cY {pins:List (Addr×Obj)} {σ:St} {H:Hp} {s:Shared} {Q:VK} {k k':Bool} (I:Inv X pins σ H s) (q:Q (.bl k) H) (e:k=k'):EP X pins σ Q (.bool k') s:=by
  subst e
  exact ⟨.bl k,H,I,rfl,q⟩
theorem gK:OpR X (compareOp .Eq) rEq:=by
  intro pins s σ H x y v u Q I rx ry h
  obtain ⟨hs,q⟩:=h
  cases x with
  | non =>
    cases rx
    cases y with
    | non=>cases ry;exact PySem.EqNone.eq_none_none (cY I q (by simp))
    | bl j=>cases ry;exact PySem.EqNone.eq_none_bool (cY I q (by simp))
    | int j=>obtain ⟨t',rfl⟩:=ry;exact PySem.EqNone.eq_none_int (cY I q (by simp))
    | str j=>obtain ⟨t',rfl⟩:=ry;exact PySem.EqNone.eq_none_str (cY I q (by simp))
    | _=>exact absurd (show false=true from hs) Bool.false_ne_true
  | bl i =>
    cases rx
    cases y with
    | non=>cases ry;exact PySem.EqNone.eq_bool_none (cY I q (by simp))
    | bl j=>cases ry;exact eq_bool (cY I q Mz)
    | str j=>obtain ⟨t',rfl⟩:=ry;exact PySem.EqMixed.eq_bool_str (cY I q (by simp))
    | _=>exact absurd (show false=true from hs) Bool.false_ne_true
  | int i =>
    obtain ⟨t,rfl⟩:=rx
    cases y with
    | non=>cases ry;exact PySem.EqNone.eq_int_none (cY I q (by simp))
    | int j=>obtain ⟨t',rfl⟩:=ry;exact eq_int (cY I q JE)
    | str j=>obtain ⟨t',rfl⟩:=ry;exact PySem.EqMixed.eq_int_str (cY I q (by simp))
    | _=>exact absurd (show false=true from hs) Bool.false_ne_true
  | str i =>
    obtain ⟨t,rfl⟩:=rx
    cases y with
    | non=>cases ry;exact PySem.EqNone.eq_str_none (cY I q (by simp))
    | bl j=>cases ry;exact PySem.EqMixed.eq_str_bool (cY I q (by simp))
    | int j=>obtain ⟨t',rfl⟩:=ry;exact PySem.EqMixed.eq_str_int (cY I q (by simp))
    | str j=>obtain ⟨t',rfl⟩:=ry;exact eq_str (cY I q JF)
    | _=>exact absurd (show false=true from hs) Bool.false_ne_true
  | byt i =>
    obtain ⟨t,rfl⟩:=rx
    cases y with
    | byt j=>obtain ⟨t',rfl⟩:=ry;exact PySem.W.eq_bytes (cY I q JG)
    | _=>exact absurd (show false=true from hs) Bool.false_ne_true
  | _=>cases y<;>exact absurd (show false=true from hs) Bool.false_ne_true
theorem Ag:OpR X (compareOp .NotEq) rNe:=by
  intro pins s σ H x y v u Q I rx ry h
  obtain ⟨hs,q⟩:=h
  cases x with
  | non =>
    cases rx
    cases y with
    | non=>cases ry;exact PySem.EqNone.ne_none_none (cY I q (by simp))
    | bl j=>cases ry;exact PySem.EqNone.ne_none_bool (cY I q (by simp))
    | int j=>obtain ⟨t',rfl⟩:=ry;exact PySem.EqNone.ne_none_int (cY I q (by simp))
    | str j=>obtain ⟨t',rfl⟩:=ry;exact PySem.EqNone.ne_none_str (cY I q (by simp))
    | _=>exact absurd (show false=true from hs) Bool.false_ne_true
  | bl i =>
    cases rx
    cases y with
    | non=>cases ry;exact PySem.EqNone.ne_bool_none (cY I q (by simp))
    | bl j=>cases ry;exact ne_bool (cY I q (congrArg not Mz))
    | str j=>obtain ⟨t',rfl⟩:=ry;exact PySem.EqMixed.ne_bool_str (cY I q (by simp))
    | _=>exact absurd (show false=true from hs) Bool.false_ne_true
  | int i =>
    obtain ⟨t,rfl⟩:=rx
    cases y with
    | non=>cases ry;exact PySem.EqNone.ne_int_none (cY I q (by simp))
    | int j=>obtain ⟨t',rfl⟩:=ry;exact ne_int (cY I q (congrArg not JE))
    | str j=>obtain ⟨t',rfl⟩:=ry;exact PySem.EqMixed.ne_int_str (cY I q (by simp))
    | _=>exact absurd (show false=true from hs) Bool.false_ne_true
  | str i =>
    obtain ⟨t,rfl⟩:=rx
    cases y with
    | non=>cases ry;exact PySem.EqNone.ne_str_none (cY I q (by simp))
    | bl j=>cases ry;exact PySem.EqMixed.ne_str_bool (cY I q (by simp))
    | int j=>obtain ⟨t',rfl⟩:=ry;exact PySem.EqMixed.ne_str_int (cY I q (by simp))
    | str j=>obtain ⟨t',rfl⟩:=ry;exact ne_str (cY I q (congrArg not JF))
    | _=>exact absurd (show false=true from hs) Bool.false_ne_true
  | byt i =>
    obtain ⟨t,rfl⟩:=rx
    cases y with
    | byt j=>obtain ⟨t',rfl⟩:=ry;exact PySem.W.ne_bytes (cY I q (congrArg not JG))
    | _=>exact absurd (show false=true from hs) Bool.false_ne_true
  | _=>cases y<;>exact absurd (show false=true from hs) Bool.false_ne_true
theorem Cb:OpR X (compareOp .Lt) (rI0 fun i j=>.bl (decide (i<j))):=Rq fun _ _ _ _ _ _ _ q=>lt_int q
theorem Ah:OpR X (compareOp .LtE) (rI0 fun i j=>.bl (decide (i≤j))):=Rq fun _ _ _ _ _ _ _ q=>le_int q
theorem Fy:OpR X (compareOp .Gt) (rI0 fun i j=>.bl (decide (j<i))):=Rq fun _ _ _ _ _ _ _ q=>gt_int q
theorem Rr:OpR X (compareOp .GtE) (rI0 fun i j=>.bl (decide (j≤i))):=Rq fun _ _ _ _ _ _ _ q=>ge_int q
theorem Fz:OpR X (compareOp .Is) (fun x y H Q=>y=.non∧Q (.bl (decide (x=.non))) H):=by
  intro pins s σ H x y v u Q I rx ry h
  obtain ⟨rfl,q⟩:=h
  cases ry
  refine is_none_gen (cY I q ?_)
  cases x<;>first
    | (cases rx;rfl)
    | (obtain ⟨t,rfl⟩:=rx;rfl)
theorem Fv:OpR X (compareOp .IsNot) (fun x y H Q=>y=.non∧Q (.bl (!decide (x=.non))) H):=by
  intro pins s σ H x y v u Q I rx ry h
  obtain ⟨rfl,q⟩:=h
  cases ry
  refine isnot_none_gen (cY I q ?_)
  cases x<;>first
    | (cases rx;rfl)
    | (obtain ⟨t,rfl⟩:=rx;rfl)
theorem aU (b:Expr) {op:CmpOp} (h:op≠.In:=by decide) (h2:op≠.NotIn:=by decide):behindInMarks op b=false:=by
  have e1:(op == CmpOp.In)=false:=by cases op<;>first|rfl|exact absurd rfl h
  have e2:(op == CmpOp.NotIn)=false:=by cases op<;>first|rfl|exact absurd rfl h2
  cases b<;>simp [behindInMarks,e1,e2]
theorem xG {op:CmpOp} {r:R2} (ho:OpR X (compareOp op) r) (ha:PE X a ta) (hb:PE X b tb) (hm:behindInMarks op b=false):PE X (.Compare a [op] [b] pos) (tOp r ta tb):=by
  intro pins s σ H Q I h
  exact wpAny_Compare1 (WT ha hb I h fun v u s2 x y H2 I2 rx ry q=>ho pins s2 σ H2 x y v u Q I2 rx ry q) hm
def Rt (t:TE):TT:=fun σ H Q=>t σ H fun x H'=>∃ k,x=.bl k∧Q k H'
theorem aI {op:CmpOp} {r:R2} (ho:OpR X (compareOp op) r) (ha:PE X a ta) (hb:PE X b tb) (hm:behindInMarks op b=false):PT X (.Compare a [op] [b] pos) (Rt (tOp r ta tb)):=by
  intro pins s σ H Q I h
  refine wpAny_isTrue_Compare1 (thn (ha pins s σ H _ I h) fun v s1 ⟨x,H1,I1,r1,q1⟩=>thn (hb pins s1 σ H1 _ I1 q1) fun u s2 ⟨y,H2,I2,r2,q2⟩ =>
    thn (ho pins s2 σ H2 x y v u _ I2 r1 r2 q2) fun c s3 ⟨z,H3,I3,r3,k,e,q3⟩=>?_) hm
  subst e
  cases r3
  exact wpAny_truthy_bool ⟨H3,I3,q3⟩
def Wb (r r':R2) (ta tb tc:TE):TE:=fun σ H Q=>ta σ H fun x H1=>tb σ H1 fun y H2=>r x y H2 fun z H3=>∃ k,z=.bl k ∧
  (if k=true then tc σ H3 fun w' H4=>r' y w' H4 Q else Q (.bl false) H3)
theorem oH {op op':CmpOp} {r r':R2} (ho:OpR X (compareOp op) r) (ho':OpR X (compareOp op') r') (ha:PE X a ta) (hb:PE X b tb) (hc:PE X c tc)
    (hm:lastMarks [op,op'] [b,c]=false:=by with_unfolding_all rfl):PT X (.Compare a [op,op'] [b,c] pos) (Rt (Wb r r' ta tb tc)):=by
  intro pins s σ H Q I h
  refine isTrue_chain (thn (ha pins s σ H _ I h) fun v s1 ⟨x,H1,I1,r1,q1⟩=>test_link (thn (hb pins s1 σ H1 _ I1 q1) fun u s2 ⟨y,H2,I2,r2,q2⟩ =>
    thn (ho pins s2 σ H2 x y v u _ I2 r1 r2 q2) fun d s3 ⟨z,H3,I3,r3,k,e,q3⟩=>?_)) hm
  subst e
  cases r3
  refine wpAny_truthy_bool ?_
  cases k with
  | false =>
    obtain ⟨k',e',q'⟩:=q3
    cases e'
    exact ite_ff ⟨H3,I3,q'⟩
  | true =>
    refine ite_tt (test_last (thn (hc pins s3 σ H3 _ I3 q3) fun w' s4 ⟨z',H4,I4,r4,q4⟩=>thn (ho' pins s4 σ H4 y z' u w' _ I4 r2 r4 q4) fun d' s5 ⟨z2,H5,I5,r5,k2,e2,q5⟩=>?_))
    subst e2
    cases r5
    exact wpAny_truthy_bool ⟨H5,I5,q5⟩
theorem FA:(sizeLine:Nat)<2 ^ 63:=by rw [sizeLine_eq];decide
theorem vals1 {x:V} {us:List Value} (r:Vals [x] us):∃ u,us=[u]∧RelV x u:=by
  cases r with
  | cons r1 r2=>cases r2;exact ⟨_,rfl,r1⟩
theorem vals2 {x y:V} {us:List Value} (r:Vals [x,y] us):∃ u w',us=[u,w']∧RelV x u∧RelV y w':=by
  cases r with
  | cons r1 r2 =>
    cases r2 with
    | cons r3 r4=>cases r4;exact ⟨_,_,rfl,r1,r3⟩
theorem LU:ux X (.builtin "abs") (fun xs H Q=>∃ i,xs=[.int i]∧Q (.int (if i<0 then -i else i)) H):=by
  intro pins s σ H xs us Q I r h
  obtain ⟨i,rfl,q⟩:=h
  obtain ⟨u,rfl,t,rfl⟩:=vals1 r
  exact call_abs_int fun u tk=>⟨.int (if i<0 then -i else i),H,I.tok _,⟨_,rfl⟩,q⟩
end
end L2
namespace L2
open PySem PySem.Spec PyProof.Rows
structure LC (h:Heap) (x dx C:Addr) (mA:Str→Option Value):Prop where
  obj:h.get? x=some (PySem.W.instObj C dx)
  ns:h.Ns1 dx mA
  ne:dx≠x
theorem KD {h:Heap} {dx:Addr} {mA:Str→Option Value} (n:h.Ns1 dx mA):∃ od,h.get? dx=some od∧∀ name,PySem.W.lookIn name od=some (mA name):=by
  obtain ⟨o,es,ep,ho,hd,hk,_,hm⟩:=n
  refine ⟨o,ho,fun name=>?_⟩
  have e:=hm name
  unfold nsFind findBy at e
  rw [←Array.find?_toList] at e
  unfold PySem.W.lookIn
  rw [hd]
  dsimp only
  split
  · rename_i y q
    rw [q] at e
    exact congrArg some e
  · rename_i q
    rw [q] at e
    have a:es.toList.any (·.refKey)=false:=by
      rw [List.any_eq_false]
      intro y hy
      obtain ⟨z,t,ZY⟩:=hk y (Array.mem_toList_iff.mp hy)
      simp [DictEntry.refKey,ZY]
    have a':¬es.toList.any (·.refKey)=true:=by rw [a];exact Bool.false_ne_true
    rw [if_neg a']
    exact congrArg some e
theorem LC.look {h:Heap} {x dx C:Addr} {mA:Str→Option Value} (I:LC h x dx C mA):∃ od,PySem.W.InstAt h x (PySem.W.instObj C dx) C (some od)∧∀ name,PySem.W.lookIn name od=some (mA name) :=
  let ⟨od,ho,hl⟩:=KD I.ns
  ⟨od,⟨I.obj,rfl,rfl,ho⟩,hl⟩
section
variable {prog:Program} {w:World} {A:Around} {E:Value→Shared→Prop} {s:Shared} {K:W.Frag} {x dx C f:Addr} {mA:Str→Option Value} {name:Str} {v:Value}
theorem get_map {expr:Bool} {Q:Value→Shared→Prop} (X:K.In s.heap) (I:LC s.heap x dx C mA) (hg:PySem.W.plainGet K C name=true) (hh:PySem.W.hasDictIn K C=true)
    (ha:PySem.W.findIn K (.ref C) name=some none) (hv:mA name=some v) (hv':PySem.W.handedIn v=true) (h:Q v {s with toks:=s.toks+1}) :
    wpAny (model prog w) A (getAttr (.ref x) name expr) Q E s:=by
  obtain ⟨od,J,hl⟩:=I.look
  exact PySem.W.get_value X J (PySem.W.plainGet_of hg).1 (PySem.W.findObj_own hh ha rfl (by rw [hl,hv])) hv' h
theorem LV {pl:Sem Bool} {Q:Value×List Value→Shared→Prop} (X:K.In s.heap) (I:LC s.heap x dx C mA) (hg:PySem.W.plainGet K C name=true)
    (hf:PySem.W.findIn K (.ref C) name=some (some (.ref f))) (ht:PySem.W.isFn K (.ref f)=true) (hv:mA name=none) (h:Q (.ref f,[.ref x]) s) :
    wpAny (model prog w) A (getMethod (.ref x) name pl) Q E s:=by
  obtain ⟨od,J,hl⟩:=I.look
  exact PySem.W.method_fn X J (PySem.W.plainGet_of hg).1 (PySem.W.plainGet_of hg).2 hf (beq_iff_eq.mp ht) (by show (PySem.W.lookIn name od).map (·.isSome)=some false;rw [hl,hv];rfl) h
theorem NP {ns:List Str} {Q:Unit→Shared→Prop} (X:K.In s.heap) (I:LC s.heap x dx C mA)
    (hs:PySem.W.findIn K (.ref C) "__setattr__" = some (some (.builtin "object.__setattr__"))) (hp:PySem.W.plainOver K C=true) (ht:PySem.W.takerIn K C name=some none) (hh:PySem.W.hasDictIn K C=true)
    (hw:PySem.Within mA ns) (hsz:ns.length≤sizeLine)
    (h:∀ h',LC h' x dx C (fun y=>if y=name then some v else mA y)→Heap.SameBut dx s.heap h'→Q () {s with heap:=h',toks:=s.toks+2}) :
    wpAny (model prog w) A (setAttr (.ref x) name v) Q E s:=by
  obtain ⟨od,J,hl⟩:=I.look
  refine PySem.W.set_plain X J hs (PySem.W.osa_open (s:={s with toks:=s.toks+1}) (r:=none) X J hp ht fun b=>?_)
  obtain ⟨cd,hc,hd'⟩:=PySem.W.any_some hh
  have hx:s.heap.get? x=some ⟨.ref C,some dx,.plain,#[]⟩:=I.obj
  refine wpAny_bind (wpAny_pure (wpAny_bind (wpAny_bind (wpAny_loadPart hx (wpAny_bind (PySem.W.Looks.here (s:={s with toks:=s.toks+1}) (PySem.W.looks_clsIn X hc) ?_))))))
  rw [hd']
  refine wpAny_pure (a:=some dx) (wpAny_bind (wpAny_pure (wpAny_bind ?_)))
  refine wpAny_nsSet1 (s:={s with toks:=s.toks+1}) I.ns fun h' hn2 hs2=>?_
  obtain ⟨oD,esD,epD,hoD,hdD,hcD⟩:=hn2.count (PySem.Within.cons name v hw)
  refine wpAny_bind (wpAny_lookBehind hoD (by rw [hdD];exact pastItsLine_dict (Nat.le_trans hcD (by rw [List.length_cons];omega))) ?_)
  exact wpAny_pure (h _ ⟨(hs2.2 _ (Ne.symm I.ne)).trans I.obj,hn2,I.ne⟩ hs2)
theorem LW {R:Result→Shared→Prop} {vs:List Value} {kw:List (Str×Value)} (X:K.In s.heap) (hm:PySem.W.makesIn K C=true)
    (hi:PySem.W.findIn K (.ref C) "__init__" = some (some (.ref f))) (hf:PySem.W.typeIn K (.ref f)=some (.type "function"))
    (h:codeAny (model prog w) (A.under (.builtin "type.__call__" ⟨.ref C::vs,kw⟩)) (.call (.ref f) ⟨.ref (s.heap.objs.size+1)::vs,kw⟩) (PySem.W.InitBack (s.heap.objs.size+1) R)
      {s with heap:=(s.heap.push PySem.W.emptyDict).push (PySem.W.instObj C s.heap.objs.size)}) :
    codeAny (model prog w) A (.call (.ref C) ⟨vs,kw⟩) R s:=by
  obtain ⟨hh,g,d,t,os⟩:=s
  exact PySem.W.make_core (PySem.W.makes_of X hm) (PySem.W.looks_findIn X hi) (fun self=>PySem.W.bind_fn X self hf) (.inl rfl) h
end
def gu (f:Str) (v:V):List (Str×V)→List (Str×V)
  | []=>[(f,v)]
  | (g,x)::r=>if g=f then (g,v)::r else (g,x)::gu f v r
theorem zS (f g:Str) (v:V):∀ fs:List (Str×V),(gu f v fs).lookup g=if g=f then some v else fs.lookup g
  | []=>by
    show List.lookup g [(f,v)]=_
    by_cases h:g=f
    · have hb:(g == f)=true:=beq_iff_eq.mpr h
      simp only [List.lookup,hb,if_pos h]
    · have hb:(g == f)=false:=beq_eq_false_iff_ne.mpr h
      simp only [List.lookup,hb,if_neg h]
  | (k,x)::r=>by
    have ih:=zS f g v r
    rw [show gu f v ((k,x)::r)=(if k=f then (k,v)::r else (k,x)::gu f v r) from rfl]
    by_cases hk:k=f
    · rw [if_pos hk]
      by_cases h:g=k
      · have hb:(g == k)=true:=beq_iff_eq.mpr h
        simp only [List.lookup,hb,if_pos (h.trans hk)]
      · have hb:(g == k)=false:=beq_eq_false_iff_ne.mpr h
        simp only [List.lookup,hb,if_neg (fun e:g=f=>h (e.trans hk.symm))]
    · rw [if_neg hk]
      by_cases h:g=k
      · have hb:(g == k)=true:=beq_iff_eq.mpr h
        simp only [List.lookup,hb,if_neg (fun e:g=f=>hk (h.symm.trans e))]
      · have hb:(g == k)=false:=beq_eq_false_iff_ne.mpr h
        simp only [List.lookup,hb]
        exact ih
theorem zI (f:Str) (v:V):∀ fs:List (Str×V),f∈(gu f v fs).map (·.1)∧∀ g,g∈fs.map (·.1)→g∈(gu f v fs).map (·.1)
  | []=>⟨by simp [gu],fun g h=>by simp at h⟩
  | (k,x)::r=>by
    obtain ⟨i1,i2⟩:=zI f v r
    rw [show gu f v ((k,x)::r)=(if k=f then (k,v)::r else (k,x)::gu f v r) from rfl]
    by_cases hk:k=f
    · rw [if_pos hk]
      subst hk
      exact ⟨by simp,fun g h=>by simpa using h⟩
    · rw [if_neg hk]
      refine ⟨?_,fun g h=>?_⟩
      · rw [List.map_cons]
        exact List.mem_cons_of_mem _ i1
      · rw [List.map_cons] at h ⊢
        rcases List.mem_cons.mp h with e|e
        · exact List.mem_cons.mpr (.inl e)
        · exact List.mem_cons_of_mem _ (i2 g e)
theorem zT (f:Str) (v:V):∀ fs:List (Str×V),(gu f v fs).length≤fs.length+1
  | []=>by simp [gu]
  | (k,x)::r=>by
    have ih:=zT f v r
    rw [show gu f v ((k,x)::r)=(if k=f then (k,v)::r else (k,x)::gu f v r) from rfl]
    by_cases hk:k=f
    · rw [if_pos hk,List.length_cons,List.length_cons];omega
    · rw [if_neg hk,List.length_cons,List.length_cons];omega
theorem xD.some_of {v:V} {o:Option Value} (r:xD (some v) o):∃ u,o=some u∧RelV v u:=by
  cases o with
  | none=>exact (show False from r).elim
  | some u=>exact ⟨u,rfl,r⟩
theorem xD.none_of {o:Option Value} (r:xD none o):o=none:=by
  cases o with
  | none=>rfl
  | some u=>exact (show False from r).elim
theorem KG {v:V} {u:Value} (r:RelV v u):PySem.W.handedIn u=true:=by
  cases v with
  | non=>cases (show u=Value.none from r);rfl
  | bl b=>cases (show u=Value.bool b from r);rfl
  | int i=>obtain ⟨t,e⟩:=(show ∃ t,u=Value.int i t from r);cases e;rfl
  | str x=>obtain ⟨t,e⟩:=(show ∃ t,u=Value.str x t from r);cases e;rfl
  | byt b=>obtain ⟨t,e⟩:=(show ∃ t,u=Value.bytes b t from r);cases e;rfl
  | flt b=>obtain ⟨t,e⟩:=(show ∃ t,u=Value.float b t from r);cases e;rfl
  | ref a=>cases (show u=Value.ref a from r);rfl
  | ty n=>cases (show u=Value.type n from r);rfl
section
variable {P:Program} {w:World} {H H':Hp} {h h':Heap} {a C dx:Addr} {fs fs':List (Str×V)}
theorem Cc (hok:HOk P w H h) (e:H a=some (.ins C dx fs)):∃ mA,LC h a dx C mA∧(∀ f,xD (fs.lookup f) (mA f))∧PySem.Within mA (fs.map (·.1))∧fs.length≤1000∧H dx=some (.own a):=by
  obtain ⟨d,z,ne,ob,mA,n,r,q⟩:=(show en P w H h a (.ins C dx fs) from hok a _ e)
  exact ⟨mA,⟨ob,n,ne⟩,r,q,z,d⟩
end
structure Cls (K:W.Frag) (C:Addr):Prop where
  pg:PySem.W.plainGet K C Str.empty=true
  hd:PySem.W.hasDictIn K C=true
  po:PySem.W.plainOver K C=true
  sa:PySem.W.findIn K (.ref C) "__setattr__" = some (some (.builtin "object.__setattr__"))
theorem Cls.get {K:W.Frag} {C:Addr} (c:Cls K C) (f:Str):PySem.W.plainGet K C f=true:=c.pg
def dU (K:W.Frag) (C:Addr) (f:Str):Prop:=PySem.W.findIn K (.ref C) f=some none
theorem dU.Yz {K:W.Frag} {C:Addr} {f:Str} (n:dU K C f):PySem.W.takerIn K C f=some none:=by
  unfold PySem.W.takerIn
  rw [show PySem.W.findIn K (.ref C) f=some none from n]
  rfl
structure Meth (K:W.Frag) (C:Addr) (m:Str) (f:Addr):Prop where
  at_:PySem.W.findIn K (.ref C) m=some (some (.ref f))
  fn:PySem.W.isFn K (.ref f)=true
  kp:PySem.W.keepIn K (.ref f)=true
section
variable {X:Cx} {pins:List (Addr×Obj)} {σ:St} {H:Hp} {s:Shared} {a C dx:Addr} {fs:List (Str×V)} {f:Str} {v:V} {A:Around} {E:Value→Shared→Prop}
theorem Ib {b:Bool} {Q:Value→Shared→Prop} (I:Inv X pins σ H s) (e:H a=some (.ins C dx fs)) (c:Cls X.K C) (n:dU X.K C f) (l:fs.lookup f=some v)
    (h:∀ u s',Inv X pins σ H s'→RelV v u→Q u s'):wpAny (model X.prog X.w) A (getAttr (.ref a) f b) Q E s:=by
  obtain ⟨mA,O,r,_,_,_⟩:=Cc I.hok e
  obtain ⟨u,hu,ru⟩:=xD.some_of (v:=v) (o:=mA f) (by rw [←l];exact r f)
  exact get_map I.kIn O (c.get f) c.hd n hu (KG ru) (h u _ (I.tok _) ru)
theorem Cd {m:Str} {g:Addr} {pl:Sem Bool} {Q:Value×List Value→Shared→Prop} (I:Inv X pins σ H s) (e:H a=some (.ins C dx fs)) (c:Cls X.K C) (k:Meth X.K C m g) (l:fs.lookup m=none)
    (h:Q (.ref g,[.ref a]) s):wpAny (model X.prog X.w) A (getMethod (.ref a) m pl) Q E s:=by
  obtain ⟨mA,O,r,_,_,_⟩:=Cc I.hok e
  have hn:mA m=none:=xD.none_of (by rw [←l];exact r m)
  exact LV I.kIn O (c.get m) k.at_ k.fn hn h
theorem Ic {y:V} {u:Value} {Q:Unit→Shared→Prop} (I:Inv X pins σ H s) (e:H a=some (.ins C dx fs)) (c:Cls X.K C) (n:dU X.K C f) (hl:fs.length<1000) (ry:RelV y u)
    (h:∀ s',Inv X pins σ (upd H a (.ins C dx (gu f y fs))) s'→Q () s'):wpAny (model X.prog X.w) A (setAttr (.ref a) f u) Q E s:=by
  obtain ⟨mA,O,r,wi,_,ho⟩:=Cc I.hok e
  have hz:(fs.map (·.1)).length≤sizeLine:=by rw [List.length_map,sizeLine_eq];omega
  refine NP I.kIn O c.sa c.po n.Yz c.hd wi hz fun h' O' sb=>h _ ?_
  have hd:∃ o,h'.get? dx=some o:=let ⟨o,_,_,e',_⟩:=O'.ns;⟨o,e'⟩
  refine I.write (x:=a) (e:=dx) (by rw [e];exact True.intro) (.inr ho) (fun b q hb z=>(sb.2 b hb).trans z) hd ?_
  refine ⟨by rw [ae O.ne];exact ho,?_,O.ne,O'.obj,_,O'.ns,fun g=>?_,fun g hg=>?_⟩
  · have:=zT f y fs;omega
  · show xD ((gu f y fs).lookup g) (if g=f then some u else mA g)
    rw [zS]
    by_cases q:g=f
    · rw [if_pos q,if_pos q];exact ry
    · rw [if_neg q,if_neg q];exact r g
  · by_cases q:g=f
    · rw [q];exact (zI f y fs).1
    · refine (zI f y fs).2 g (wi g fun z=>hg ?_)
      show (if g=f then some u else mA g)=none
      rw [if_neg q];exact z
theorem Inv.made (I:Inv X pins σ H s):Inv X pins σ (upd (upd H s.heap.objs.size (.own (s.heap.objs.size+1))) (s.heap.objs.size+1) (.ins C s.heap.objs.size []))
    {s with heap:=(s.heap.push PySem.W.emptyDict).push (PySem.W.instObj C s.heap.objs.size)}:=by
  have e1:(s.heap.push PySem.W.emptyDict).get? s.heap.objs.size=some PySem.W.emptyDict:=Heap.get?_push_size s.heap rfl
  have e2:((s.heap.push PySem.W.emptyDict).push (PySem.W.instObj C s.heap.objs.size)).get? (s.heap.objs.size+1)=some (PySem.W.instObj C s.heap.objs.size):=by
    have:=Heap.get?_push_size (s.heap.push PySem.W.emptyDict) (o:=PySem.W.instObj C s.heap.objs.size) rfl
    rwa [Heap.size_push] at this
  have e3:(s.heap.push PySem.W.emptyDict).Ns s.heap.objs.size (fun _=>none):=⟨PySem.W.emptyDict,#[],_,e1,rfl,(fun e he=>absurd he (by simp)),fun _=>rfl⟩
  have I1:=I.laid (a:=s.heap.objs.size) (o:=.own (s.heap.objs.size+1)) (h':=s.heap.push PySem.W.emptyDict) (t':=s.toks) (fun b u q=>Heap.get?_push_of_some _ q) (Nat.le_refl _) ⟨_,e1⟩
  refine I1.laid (a:=s.heap.objs.size+1) (o:=.ins C s.heap.objs.size []) (t':=s.toks) (fun b u q=>Heap.get?_push_of_some _ q) (Nat.le_of_eq (Heap.size_push _ _)) ?_
  have ne:s.heap.objs.size≠s.heap.objs.size+1:=Nat.ne_of_lt (Nat.lt_succ_self _)
  refine ⟨by rw [ae ne,ag],Nat.zero_le _,ne,e2,fun _=>none,(Heap.Ns1.of_empty e3).at fun o q=>Heap.get?_push_of_some _ q,fun _=>True.intro,fun y hy=>absurd rfl hy⟩
theorem NQ {prog:Program} {w:World} {env:Env} {e:Expr} {f:Str} {pos:Pos} {s:Shared} {Q:Value→Shared→Prop} (hb:attributeBase e f env (eval e env)=eval e env)
    (h:wpAny (model prog w) A (eval e env) (fun o s₁=>wpAny (model prog w) A (getAttr o f true) Q E s₁) E s):wpAny (model prog w) A (eval (.Attribute e f pos) env) Q E s :=
  Attribute_any_ h (by rw [arm_eval_Attribute,hb])
end
def Zp (K:W.Frag) (ta:TE) (f:Str):TE:=fun σ H Q=>ta σ H fun x H1=>∃ a C dx fs v,x=.ref a∧H1 a=some (.ins C dx fs)∧Cls K C∧dU K C f∧fs.lookup f=some v∧Q v H1
def ZZ (K:W.Frag) (ta tv:TE) (f:Str):TS:=fun D σ H=>tv σ H fun y H1=>ta σ H1 fun x H2=>∃ a C dx fs,x=.ref a∧H2 a=some (.ins C dx fs)∧Cls K C∧dU K C f∧fs.length<1000 ∧
  D.nx σ (upd H2 a (.ins C dx (gu f y fs)))
section
variable {X:Cx} {o e value:Expr} {f:Str} {pos pos' Z2:Pos} {ta tv:TE}
theorem aN (he:PE X e ta) (hb:attributeBase e f X.env (eval e X.env)=eval e X.env):PE X (.Attribute e f pos) (Zp X.K ta f):=by
  intro pins s σ H Q I h
  refine NQ hb (thn (he pins s σ H _ I h) fun u s1 ⟨x,H1,I1,rx,a,C,dx,fs,v,ex,ea,c,n,l,q⟩=>?_)
  subst ex
  obtain rfl:u=Value.ref a:=rx
  exact Ib I1 ea c n l fun u' s2 I2 ru=>⟨v,H1,I2,ru,q⟩
theorem gF (ha:PE X o ta) (hv:PE X value tv) (hs:swapsWith value (some (.Attribute o f pos')) pos.line X.env=pure false):PS X (.Assign [.Attribute o f pos'] value pos) (ZZ X.K ta tv f):=by
  intro pins s σ H D I h
  refine plainObj_wpAny_Assign_Attribute (thn (hv pins s σ H _ I h) fun u s1 ⟨y,H1,I1,ry,q⟩=>thn (ha pins s1 σ H1 _ I1 q) fun ov s2 ⟨x,H2,I2,rx,a,C,dx,fs,ex,ea,c,n,l,q2⟩=>?_) hs
  subst ex
  obtain rfl:ov=Value.ref a:=rx
  exact Ic I2 ea c n l ry fun s3 I3=>⟨σ,_,I3,q2⟩
end
section
variable {X:Cx} {pins:List (Addr×Obj)} {σ:St} {H:Hp} {s:Shared} {A:Around} {E:Value→Shared→Prop} {Q:Value→Shared→Prop} {c:Value} {b:Bool}
inductive CP (K:W.Frag) (H:Hp):V→Value→Prop where
  | non:CP K H .non (.type "NoneType")
  | bl (x:Bool):CP K H (.bl x) (.type "bool")
  | int (i:Int):CP K H (.int i) (.type "int")
  | str (x:Str):CP K H (.str x) (.type "str")
  | flt (x:UInt64):CP K H (.flt x) (.type "float")
  | lst {a:Addr} {xs:List V} (e:H a=some (.lst xs)):CP K H (.ref a) (.type "list")
  | frz {a:Addr} {o:Obj} {xs:List V} (e:H a=some (.frz o (.lst xs))):CP K H (.ref a) (.type "list")
  | tup {a:Addr} {xs:List V} (e:H a=some (.tup xs)):CP K H (.ref a) (.type "tuple")
  | dK {a:Addr} {kvs:List (Key×V)} (e:H a=some (.dK kvs)):CP K H (.ref a) (.type "dict")
  | dT {a:Addr} {kvs:List (List Key×V)} (e:H a=some (.dT kvs)):CP K H (.ref a) (.type "dict")
  | ins {a C dx:Addr} {fs:List (Str×V)} (e:H a=some (.ins C dx fs)) (cl:Cls K C) (ha:PySem.W.findIn K (.ref C) "__class__" = some (some (.builtin "object.__class__")))
      (hn:PySem.W.specialIn K (.builtin "object.__class__") "__get__" = some (some (.builtin "getset_descriptor.__get__"))) (htk:PySem.W.takesIn K (.builtin "object.__class__")=some true)
      (hm:PySem.W.mroIn K C (.type "object")=some true):CP K H (.ref a) (.ref C)
theorem KH {x:V} {u t:Value} (I:Inv X pins σ H s) (rx:RelV x u) (ty:CP X.K H x t) (e:PySem.W.kitOne X.K t c=some b) (h:∀ tk,Q (.bool b) {s with toks:=tk}) :
    wpAny (model X.prog X.w) A (call (.builtin "isinstance") [u,c]) Q E s:=by
  cases ty with
  | non=>cases (show u=Value.none from rx);exact PySem.W.kia_one PySem.W.kitx_none I.kIn True.intro e (fun z=>nomatch z) h
  | bl y=>cases (show u=Value.bool y from rx);exact PySem.W.kia_one PySem.W.kitx_bool I.kIn True.intro e (fun z=>nomatch z) h
  | int i=>obtain ⟨t,q⟩:=(show ∃ t,u=Value.int i t from rx);cases q;exact PySem.W.kia_one PySem.W.kitx_int I.kIn True.intro e (fun z=>nomatch z) h
  | str y=>obtain ⟨t,q⟩:=(show ∃ t,u=Value.str y t from rx);cases q;exact PySem.W.kia_one PySem.W.kitx_str I.kIn True.intro e (fun z=>nomatch z) h
  | flt y=>obtain ⟨t,q⟩:=(show ∃ t,u=Value.float y t from rx);cases q;exact PySem.W.kia_one PySem.W.kitx_float I.kIn True.intro e (fun z=>nomatch z) h
  | @lst a xs ea =>
    cases (show u=Value.ref a from rx)
    obtain ⟨_,_,n,_,h1⟩:=(show en X.prog X.w H s.heap a (.lst xs) from I.hok a _ ea)
    exact PySem.W.kia_one PySem.W.kitx_list I.kIn ⟨_,h1,rfl⟩ e (fun z=>nomatch z) h
  | @frz a ob xs ea =>
    cases (show u=Value.ref a from rx)
    obtain ⟨_,_,_,n,_,h1⟩:=(show en X.prog X.w H s.heap a (.frz ob (.lst xs)) from I.hok a _ ea)
    exact PySem.W.kia_one PySem.W.kitx_list I.kIn ⟨_,h1,rfl⟩ e (fun z=>nomatch z) h
  | @tup a xs ea =>
    cases (show u=Value.ref a from rx)
    obtain ⟨_,_,_,p⟩:=(show en X.prog X.w H s.heap a (.tup xs) from I.hok a _ ea)
    obtain ⟨o,h1,h2,_⟩:=p
    exact PySem.W.kia_one PySem.W.kitx_tuple I.kIn ⟨o,h1,h2⟩ e (fun z=>nomatch z) h
  | @dK a kvs ea =>
    cases (show u=Value.ref a from rx)
    obtain ⟨_,_,vs,_,p⟩:=(show en X.prog X.w H s.heap a (.dK kvs) from I.hok a _ ea)
    obtain ⟨o,es,ep,h1,h2,_⟩:=p
    exact PySem.W.kia_one PySem.W.kitx_dict I.kIn ⟨o,h1,h2.1⟩ e (fun z=>nomatch z) h
  | @dT a kvs ea =>
    cases (show u=Value.ref a from rx)
    obtain ⟨_,_,xs,_,o,es,ep,h1,h2,_⟩:=(show en X.prog X.w H s.heap a (.dT kvs) from I.hok a _ ea)
    exact PySem.W.kia_one PySem.W.kitx_dict I.kIn ⟨o,h1,h2.1⟩ e (fun z=>nomatch z) h
  | @ins a C dx fs ea cl ha hn htk hm =>
    cases (show u=Value.ref a from rx)
    obtain ⟨mA,O,_⟩:=Cc I.hok ea
    obtain ⟨od,J,_⟩:=O.look
    exact PySem.W.kia_one (PySem.W.kitx_own (cl.get _) cl.hd ha hn htk hm) I.kIn J e (fun z=>nomatch z) h
end
end L2
namespace L2
open PySem PySem.Spec PyProof.Rows
structure kR (k:Nat) (A:Around):Prop where
  hd:A.handled=none
  dp:A.depth+3*k+5<recursionLimit
  un:A.units+16*k+200<cLine
theorem kR.mono {j k:Nat} {A:Around} (r:kR k A) (h:j≤k):kR j A:=⟨r.hd,by have:=r.dp;omega,by have:=r.un;omega⟩
theorem kR.deeper {k:Nat} {A:Around} (r:kR (k+1) A) (env:Env):kR k (A.deeper env) :=
  ⟨r.hd,by have:=r.dp;show A.depth+1+3*k+5<_;omega,by have:=r.un;show A.units+3+16*k+200<_;omega⟩
theorem Ie {A:Around} {C:Addr} {us:List Value} {kw:List (Str×Value)}:(A.under (.builtin "type.__call__" ⟨.ref C::us,kw⟩)).depth=A.depth+1:=by
  first|rfl|simp [Around.under,Code.weight,Code.isCreation,Code.isGuard,Code.isCaller,Code.frames,Code.isFrame,guardIds]
theorem Ig {A:Around} {C:Addr} {us:List Value} {kw:List (Str×Value)}:(A.under (.builtin "type.__call__" ⟨.ref C::us,kw⟩)).units=A.units+1:=by
  first|rfl|simp [Around.under,Code.cUnits,Code.frames,Code.isFrame]
theorem kR.make {k:Nat} {A:Around} (r:kR (k+1) A) (C:Addr) (us:List Value) (kw:List (Str×Value)):kR k (A.under (.builtin "type.__call__" ⟨.ref C::us,kw⟩)) :=
  ⟨r.hd,by have:=r.dp;rw [Ie];omega,by have:=r.un;rw [Ig];omega⟩
theorem kR.depth {k:Nat} {A:Around} (r:kR k A):A.depth<recursionLimit:=by have:=r.dp;omega
theorem kR.units {k:Nat} {A:Around} (r:kR k A):A.units+64<cLine:=by have:=r.un;omega
def JH:TA:=fun _ H Q=>Q [] H
def mW (ta:TE) (tr:TA):TA:=fun σ H Q=>ta σ H fun x H1=>tr σ H1 fun xs H2=>Q (x::xs) H2
section
variable {X:Cx} {e:Expr} {es:List Expr} {te:TE} {t:TA} {pos:Pos}
theorem ao:PA X [] JH:=fun _ _ _ _ H Q I h=>Calls.spliced_nil ⟨[],H,I,.nil,h⟩
theorem ab (ha:PE X e te) (hr:PA X es t) (hs:starEach (e::es) X.env=(false,eval e X.env)::starEach es X.env:=by rfl):PA X (e::es) (mW te t):=by
  intro pos pins s σ H Q I h
  rw [hs]
  show wpAny _ _ (spliced ((false,eval e X.env)::backTo pos (starEach es X.env))) _ _ s
  refine Calls.spliced_cons (thn (ha pins s σ H _ I h) fun u s1 ⟨x,H1,I1,r1,q1⟩=>?_)
  exact thn (hr pos pins s1 σ H1 _ I1 q1) fun us s2 ⟨xs,H2,I2,r2,q2⟩=>⟨x::xs,H2,I2,.cons r1 r2,q2⟩
def Ru (t:TA):TE:=fun σ H Q=>t σ H fun xs H1=>xs.length≤sizeLine∧∀ p,H1 p=none→Q (.ref p) (upd H1 p (.tup xs))
def Zq (t:TA):TE:=fun σ H Q=>t σ H fun xs H1=>xs.length≤sizeLine∧∀ p,H1 p=none→Q (.ref p) (upd H1 p (.lst xs))
theorem fg {x1} (h:PA X es t):PE X (.Tuple es x1 pos) (Ru t):=by
  intro pins s σ H Q I hq
  refine wpAny_Tuple_spliced (thn (h pos pins s σ H _ I hq) fun us s1 ⟨xs,H1,I1,r,z,q⟩=>⟨by rw [←r.length];exact z,?_⟩)
  have hf:H1 s1.heap.objs.size=none:=I1.hok.fresh (Nat.le_refl _)
  refine ⟨.ref s1.heap.objs.size,upd H1 s1.heap.objs.size (.tup xs),I1.laid (t':=s1.toks) (fun b u e=>Heap.get?_push_of_some _ e) (Nat.le_refl _) ?_,rfl,q _ hf⟩
  exact ⟨z,us,r,⟨_,Heap.get?_push_size _ rfl,rfl,_,rfl⟩⟩
theorem jM (h:PA X es t):PE X (.List es pos) (Zq t):=by
  intro pins s σ H Q I hq
  refine wpAny_List_spliced (thn (h pos pins s σ H _ I hq) fun us s1 ⟨xs,H1,I1,r,z,q⟩=>⟨by rw [←r.length];exact z,?_⟩)
  have hf:H1 s1.heap.objs.size=none:=I1.hok.fresh (Nat.le_refl _)
  refine ⟨.ref s1.heap.objs.size,upd H1 s1.heap.objs.size (.lst xs),I1.laid (t':=s1.toks) (fun b u e=>Heap.get?_push_of_some _ e) (Nat.le_refl _) ?_,rfl,q _ hf⟩
  exact ⟨z,us,0,r,Heap.get?_push_size _ rfl⟩
end
abbrev Sp:=List V→Hp→VK→XK→Prop
abbrev CXT:=List Env→Hp→Shared→XK→Value→Shared→Prop
structure Ih (P:Program) (w:World) (K:W.Frag) (mg:Str→Option Value) (base:Heap) (A:Around) (outer:List Env) (s:Shared) (H:Hp):Prop where
  frames:A.frames=some outer
  mod:Mod K mg base
  bs:∀ b o,base.get? b=some o→s.heap.get? b=some o∧H b=none
  bsz:base.objs.size≤s.heap.objs.size
  xE:s.heap.FunFrames base outer
  frf:∀ b∈frs outer,H b=none
  hok:HOk P w H s.heap
  bare:AllBare s.gens
def CE (outer:List Env) (P:Program) (w:World) (H:Hp) (s:Shared) (Q:VK) (u:Value) (s':Shared):Prop :=
  ∃ v H',s'.os=s.os∧AllBare s'.gens∧Un (frs outer) [] H H' s.heap s'.heap∧HOk P w H' s'.heap∧RelV v u∧Q v H'
def CR (CX:CXT) (outer:List Env) (P:Program) (w:World) (H:Hp) (s:Shared) (Q:VK) (E:XK) (r:Result) (s':Shared):Prop :=
  match r with
  | .ok (.ret u)=>CE outer P w H s Q u s'
  | .ok _=>False
  | .error e=>CX outer H s E e s'
structure xI (P:Program) (w:World) (K:W.Frag) (mg:Str→Option Value) (base:Heap) (CX:CXT) (k:Nat) (f:Addr) (fd:FuncData) (ps:List Str) (sp:Sp):Prop where
  len:∀ vs H Q E,sp vs H Q E→vs.length=ps.length
  run:∀ (A:Around) (outer:List Env) (s:Shared) (H:Hp) (args:Args) (us:List Value) (vs:List V) (Q:VK) (E:XK),kR k A→Ih P w K mg base A outer s H→BindsTo s fd args (ps.zip us)→Vals vs us→sp vs H Q E →
    codeAny (model P w) A (.call (.ref f) args) (CR CX outer P w H s Q E) s
theorem Ih.make {P:Program} {w:World} {K:W.Frag} {mg:Str→Option Value} {base:Heap} {A:Around} {outer:List Env} {s:Shared} {H:Hp} (e:Ih P w K mg base A outer s H) (C:Addr) (us:List Value) (kw:List (Str×Value)) :
    Ih P w K mg base (A.under (.builtin "type.__call__" ⟨.ref C::us,kw⟩)) outer s H:=⟨by first|exact e.frames|(simpa [Around.under,Code.envs,Code.isFrame,pushEnvs] using e.frames),e.mod,e.bs,e.bsz,e.xE,e.frf,e.hok,e.bare⟩
section
variable {X:Cx} {pins:List (Addr×Obj)} {σ:St} {H:Hp} {s s':Shared}
theorem Inv.Rv (I:Inv X pins σ H s):Ih X.prog X.w X.K X.mg X.base X.A X.stack s H :=
  ⟨I.ok.frames,I.ok.mod,I.bs,Nat.le_trans I.ok.bsz I.sz,I.stack,I.xF,I.hok,I.bare⟩
theorem Inv.after {Q:VK} {u:Value} (I:Inv X pins σ H s) (h:CE X.stack X.prog X.w H s Q u s'):EP X pins σ Q u s':=by
  obtain ⟨v,H',os,bare,un,hok,r,q⟩:=h
  obtain ⟨hh,g,d,t,os'⟩:=s'
  obtain rfl:os'=s.os:=os
  exact ⟨v,H',I.call (h':=hh) (g':=g) (d':=d) (t':=t) (ch:=[]) un hok bare (fun b z=>absurd z (by simp)),r,q⟩
end
def Rw (C:Addr) (sp:Sp) (dvs:List V) (E:XK) (t:TA):TE:=fun σ H Q=>t σ H fun vs H1=>∀ x dx,H1 x=none→H1 dx=none→dx≠x →
  sp (.ref x::(vs++dvs)) (upd (upd H1 dx (.own x)) x (.ins C dx [])) (fun v H2=>v=.non∧Q (.ref x) H2) E
def Binds (K:W.Frag) (fd:FuncData) (ps:List Str) (ds:List Value):Prop :=
  ∀ (s:Shared) (us:List Value),K.In s.heap→(us++ds).length=ps.length→BindsTo s fd ⟨us,[]⟩ (ps.zip (us++ds))
theorem Binds.all {K:W.Frag} {fd:FuncData} {ps:List Str} (h:∀ us:List Value,us.length=ps.length→bindArgs fd ⟨us,[]⟩=pure (ps.zip us)):Binds K fd ps []:=fun s us _ hl=>by
  rw [List.append_nil] at hl ⊢
  exact .of_eq (h us hl)
def Passes (CX:CXT) (X:Cx) (E:XK):Prop:=∀ (pins:List (Addr×Obj)) (σ:St) (H:Hp) (s:Shared) (e:Value) (s':Shared),Inv X pins σ H s→CX X.stack H s E e s'→X.xe e s'
section
variable {X:Cx} {CX:CXT} {k:Nat} {f C:Addr} {fd:FuncData} {ps:List Str} {sp:Sp} {dvs:List V} {ds:List Value} {E:XK} {x m:Str} {p pos apos:Pos} {e o:Expr} {es:List Expr} {ta:TE} {t:TA}
structure Mk (K:W.Frag) (C f:Addr):Prop where
  makes:PySem.W.makesIn K C=true
  init:PySem.W.findIn K (.ref C) "__init__" = some (some (.ref f))
  fn:PySem.W.isFn K (.ref f)=true
  kp:PySem.W.keepIn K (.ref C)=true
theorem G5 {pins:List (Addr×Obj)} {σ:St} {H:Hp} {s:Shared} {Q:VK} {us:List Value} {vs:List V} (M:Mk X.K C f) (F:xI X.prog X.w X.K X.mg X.base CX k f fd ps sp) (hr:kR (k+1) X.A) (hb:Binds X.K fd ps ds) (hd:Vals dvs ds)
    (hx:Passes CX X E) (I:Inv X pins σ H s) (r:Vals vs us)
    (h:∀ x dx,H x=none→H dx=none→dx≠x→sp (.ref x::(vs++dvs)) (upd (upd H dx (.own x)) x (.ins C dx [])) (fun v H2=>v=.non∧Q (.ref x) H2) E) :
    wpAny (model X.prog X.w) X.A (call (.ref C) us) (EP X pins σ Q) X.xe s:=by
  have hq:=h (s.heap.objs.size+1) s.heap.objs.size (I.hok.fresh (Nat.le_succ _)) (I.hok.fresh (Nat.le_refl _)) (Nat.ne_of_lt (Nat.lt_succ_self _))
  have I2:=Inv.made (C:=C) I
  have r2:Vals (V.ref (s.heap.objs.size+1)::(vs++dvs)) (Value.ref (s.heap.objs.size+1)::(us++ds)):=.cons rfl (r.append hd)
  have hl:(Value.ref (s.heap.objs.size+1)::us++ds).length=ps.length:=by
    have e:=r2.length
    rw [F.len _ _ _ _ hq] at e
    exact e.symm
  refine wpAny_call (LW (f:=f) I.kIn M.makes M.init (beq_iff_eq.mp M.fn) (codeAny_mono (F.run _ X.stack _ _ ⟨Value.ref (s.heap.objs.size+1)::us,[]⟩ (Value.ref (s.heap.objs.size+1)::(us++ds)) _ _ E (hr.make C us [])
    (I2.Rv.make C us []) (hb _ (Value.ref (s.heap.objs.size+1)::us) I2.kIn hl) r2 hq) fun r s' hq'=>?_))
  cases r with
  | error e=>exact hx pins σ _ _ e s' I2 hq'
  | ok fl =>
    cases fl with
    | ret u =>
      obtain ⟨v,H',I3,rv,ev,q3⟩:=I2.after hq'
      subst ev
      exact ⟨rv,⟨V.ref (s.heap.objs.size+1),H',I3,rfl,q3⟩⟩
    | next=>exact False.elim hq'
    | brk=>exact False.elim hq'
    | cont=>exact False.elim hq'
theorem NR (M:Mk X.K C f) (F:xI X.prog X.w X.K X.mg X.base CX k f fd ps sp) (hr:kR (k+1) X.A) (hg:Gl X x) (hm:X.mg x=some (.ref C)) (hb:Binds X.K fd ps ds) (hd:Vals dvs ds) (hx:Passes CX X E)
    (ha:PA X (e::es) t) (hdb:(x == ("__debug__" : Str))=false:=by decide) (he:starEach (e::es) X.env=(false,eval e X.env)::starEach es X.env:=by rfl) (hpl:(backTo pos (starEach es X.env)).any (·.1)=false:=by rfl) :
    PE X (.Call (.Name x p) (e::es) [] pos) (Rw C sp dvs E t):=by
  intro pins s σ H Q I h
  refine wpAny_Call_Name_kw (qc I hg hm ?_ hdb)
  refine PySem.W.callWith_K (h₀:=X.base) I.ok.mod.kin M.kp (thn (ha pos pins s σ H _ I h) fun us s1 ⟨vs,H1,I1,r,q⟩=>⟨I1.kIn,?_⟩) he hpl
  exact G5 M F hr hb hd hx I1 r q
theorem CF (M:Mk X.K C f) (F:xI X.prog X.w X.K X.mg X.base CX k f fd ps sp) (hr:kR (k+1) X.A) (hg:Gl X x) (hm:X.mg x=some (.ref C)) (hb:Binds X.K fd ps ds) (hd:Vals dvs ds) (hx:Passes CX X E)
    (hdb:(x == ("__debug__" : Str))=false:=by decide):PE X (.Call (.Name x p) [] [] pos) (Rw C sp dvs E JH):=by
  intro pins s σ H Q I h
  refine wpAny_Call_Name_kw (qc I hg hm ?_ hdb)
  exact PySem.W.callWith_K0 I.kIn M.kp (G5 (us:=[]) M F hr hb hd hx I .nil h)
end
section
variable {X:Cx} {CX:CXT} {k:Nat} {f C:Addr} {fd:FuncData} {ps ks:List Str} {sp:Sp} {E:XK} {x m:Str} {p pos apos aaZ:Pos} {e o:Expr} {es:List Expr} {kws:List Keyword} {te ta:TE} {t tk:TA} {nm:Option Str}
variable {g:List Value→List Value→List Value} {gV:List V→List V→List V}
end
structure aA (N P:List Str) (sc:Scope):Prop where
  kind:sc.kind=.function
  co:sc.isCoroutine=false
  gen:sc.isGenerator=false
  nd:N.Nodup
  pre:N.take P.length=P
  par:∀ x∈P,sc.names.lookup x=some .local∨sc.names.lookup x=some .cell
  Wc:∀ y∈sc.names,y.2≠.free
theorem DM {kindOf:Str→Option NameKind} {x:Str}:∀ {binds:List (Str×Value)} {m:Str→Option Value},(∀ v,(x,v)∉binds)→bindL kindOf binds m x=m x
  | [],_,_=>rfl
  | (n,v)::r,m,h=>by
    unfold bindL
    rw [DM fun w hw=>h w (List.mem_cons_of_mem _ hw)]
    split
    · have:x≠n:=by rintro rfl;exact h v List.mem_cons_self
      simp [this]
    · rfl
theorem DN {kindOf:Str→Option NameKind} {x:Str}:∀ {binds:List (Str×Value)} {m:Str→Option Value},(∀ v,(x,v)∉binds)→bindC kindOf binds m x=m x
  | [],_,_=>rfl
  | (n,v)::r,m,h=>by
    unfold bindC
    rw [DN fun w hw=>h w (List.mem_cons_of_mem _ hw)]
    split
    · rfl
    · have:x≠n:=by rintro rfl;exact h v List.mem_cons_self
      simp [this]
theorem DO {kindOf:Str→Option NameKind} {x:Str} {v:Value}:∀ {P:List Str} {vs:List Value} {i:Nat} {m:Str→Option Value},P.Nodup→P[i]?=some x→vs[i]?=some v→kindOf x=some .local →
    bindL kindOf (P.zip vs) m x=some v
  | [],_,_,_,_,h,_,_=>by simp at h
  | _::_,[],_,_,_,_,h,_=>by simp at h
  | p::P,w::vs,0,m,nd,h1,h2,hk=>by
    simp at h1 h2;subst h1;subst h2
    show bindL kindOf ((p,w)::P.zip vs) m p=_
    unfold bindL
    rw [DM fun v hv=>(List.nodup_cons.mp nd).1 (List.of_mem_zip hv).1,if_pos hk]
    simp
  | p::P,w::vs,i+1,m,nd,h1,h2,hk=>by
    show bindL kindOf ((p,w)::P.zip vs) m x=_
    unfold bindL
    exact DO (i:=i) (List.nodup_cons.mp nd).2 (by simpa using h1) (by simpa using h2) hk
theorem DP {kindOf:Str→Option NameKind} {x:Str} {v:Value}:∀ {P:List Str} {vs:List Value} {i:Nat} {m:Str→Option Value},P.Nodup→P[i]?=some x→vs[i]?=some v→kindOf x≠some .local →
    bindC kindOf (P.zip vs) m x=some v
  | [],_,_,_,_,h,_,_=>by simp at h
  | _::_,[],_,_,_,_,h,_=>by simp at h
  | p::P,w::vs,0,m,nd,h1,h2,hk=>by
    simp at h1 h2;subst h1;subst h2
    show bindC kindOf ((p,w)::P.zip vs) m p=_
    unfold bindC
    rw [DN fun v hv=>(List.nodup_cons.mp nd).1 (List.of_mem_zip hv).1,if_neg hk]
    simp
  | p::P,w::vs,i+1,m,nd,h1,h2,hk=>by
    show bindC kindOf ((p,w)::P.zip vs) m x=_
    unfold bindC
    exact DP (i:=i) (List.nodup_cons.mp nd).2 (by simpa using h1) (by simpa using h2) hk
def start (N:List Str) (vs:List V):St:=vs.map some++List.replicate (N.length-vs.length) none
def LD (CX:CXT) (P:Program) (w:World) (K:W.Frag) (mg:Str→Option Value) (base:Heap) (N:List Str) (qual:Str) (scope:Scope) (f:Addr) (cd:Value) (A:Around) (outer:List Env) (s:Shared) (H:Hp) (E:XK):Cx where
  prog:=P
  w:=w
  K:=K
  mg:=mg
  base:=base
  A:=A.deeper (envOfC qual scope s.heap.objs.size f cd)
  N:=N
  s₀:=s
  H₀:=H
  env:=envOfC qual scope s.heap.objs.size f cd
  outer:=outer
  stack:=envOfC qual scope s.heap.objs.size f cd::outer
  ex:=[]
  calm:=true
  fn:=fun _=>true
  pn:=[]
  xe:=fun e s'=>wpAny (model P w) (A.deeper (envOfC qual scope s.heap.objs.size f cd)) (leaving (envOfC qual scope s.heap.objs.size f cd) e) (fun _ s''=>CX outer H s E e s'') (fun e' s''=>CX outer H s E e' s'') s'
theorem G6 {sc:Scope} {n:Nat} {x:Str} (h:sc.names.lookup x=some .cell):∃ c,(cellsFrom n sc.names []).lookup x=some c:=by
  have q:=PySem.W.cellsFrom_some sc.names n [] (.inl h)
  exact Option.isSome_iff_exists.mp q
theorem DQ {CX:CXT} {P:Program} {w:World} {K:W.Frag} {mg:Str→Option Value} {base:Heap} {N ps:List Str} {qual:Str} {scope:Scope} {f:Addr} {cd:Value} {A:Around} {outer:List Env} {s s1:Shared} {H:Hp} {E:XK} {us:List Value} {vs:List V}
    (S:aA N ps scope) (hd:A.handled=none) (e0:Ih P w K mg base A outer s H) (hl:vs.length=ps.length) (r:Vals vs us)
    (x:InCallC s s.heap.objs.size (bindL (envOfC qual scope s.heap.objs.size f cd).kindOf (ps.zip us) fun _=>none) (cellsFrom (s.heap.objs.size+1) scope.names []) (bindC (envOfC qual scope s.heap.objs.size f cd).kindOf (ps.zip us) fun _=>none) s1) :
    Inv (LD CX P w K mg base N qual scope f cd A outer s H E) [] (start N vs) H s1:=by
  have hpl:ps.length≤N.length:=by have:=congrArg List.length S.pre;rw [List.length_take] at this;omega
  obtain ⟨h1,tk,rfl,hk⟩:=x.done
  have noA:∀ b:Addr,b∉(LD CX P w K mg base N qual scope f cd A outer s H E).ex:=fun b z=>absurd (show b∈([]:List Addr) from z) (by simp)
  refine ⟨⟨e0.mod,S.kind,rfl,rfl,Nat.le_refl _,fun y z c h1 h2=>?_,fun y hy=>?_,fun y c _ h=>?_,fun _=>hd,Around.frames_deeper e0.frames,.inr ⟨rfl,rfl⟩,fun b z=>absurd z (noA b),e0.bs,e0.bsz,fun b _ _=>noA b,fun b z=>absurd z (noA b),e0.xE,e0.frf⟩,
    rfl,e0.bare,Un.kept hk,⟨_,x.toInCall.ns,fun i y v h1 h2 h3=>?_⟩,fun y c h=>⟨_,x.cell y c h⟩,e0.hok.fresh (Nat.le_refl _),fun y c h=>?_,fun p hp=>absurd (show p∈([]:List (Addr×Obj)) from hp) (by simp),e0.hok.kept hk,?_⟩
  · exact name_of_addr x.apart (PySem.mem_of_lookup h1) (PySem.mem_of_lookup h2)
  · have hy:scope.names.lookup y=some .cell∨scope.names.lookup y=some .free:=hy
    rcases hy with hy|hy
    · exact G6 hy
    · exact absurd rfl (S.Wc _ (PySem.mem_of_lookup hy))
  · exact Nat.le_of_lt (x.above y c (PySem.mem_of_lookup h))
  · have hi:i<vs.length:=by
      unfold start at h2
      by_cases hi:i<vs.length
      · exact hi
      · rw [List.getElem?_append_right (by simpa using hi)] at h2
        rw [List.getElem?_replicate] at h2
        split at h2<;>cases h2
    have ha:vs[i]?=some v:=by
      unfold start at h2
      rw [List.getElem?_append_left (by simpa using hi),List.getElem?_map] at h2
      cases e:vs[i]? with
      | none=>rw [e] at h2;cases h2
      | some a=>rw [e] at h2;cases h2;rfl
    obtain ⟨u,hu,rv⟩:=r.get ha
    have hp:ps[i]?=some y:=by
      rw [←S.pre,List.getElem?_take_of_lt (by omega)];exact h1
    have ndP:ps.Nodup:=by rw [←S.pre];exact S.nd.sublist (List.take_sublist _ _)
    refine ⟨u,rv,?_⟩
    rcases S.par y (List.mem_of_getElem? hp) with k|k
    · exact .inl ⟨k,DO ndP hp hu k⟩
    · obtain ⟨c,e⟩:=G6 (n:=s.heap.objs.size+1) k
      refine .inr ⟨.inl k,c,e,?_⟩
      have q:=x.cell y c e
      rw [DP ndP hp hu (by show scope.names.lookup y≠_;rw [k];decide)] at q
      exact q
  · exact e0.hok.fresh (Nat.le_of_lt (x.above y c (PySem.mem_of_lookup h)))
  · unfold start
    show _=N.length
    rw [List.length_append,List.length_map,List.length_replicate]
    omega
theorem YA {CX:CXT} {P:Program} {w:World} {K:W.Frag} {mg:Str→Option Value} {base:Heap} {k:Nat} {f:Addr} {name qual:Str} {params:Arguments} {body:List Stmt} {scope:Scope} {dV kV doc pm cdv ct oc:Value} {an od:Option Addr}
    {osl:Array (Option Value)} {N ps:List Str} {sp:Sp} (lk:K.lookup f=some ⟨oc,od,.func (PySem.W.fnOf name qual params body scope dV kV doc pm an cdv ct),osl⟩) (hcd:PySem.W.codeIn K cdv qual=true) (S:aA N ps scope)
    (len:∀ vs H Q E,sp vs H Q E→vs.length=ps.length)
    (DF:∀ (A:Around) (outer:List Env) (s:Shared) (H:Hp) (vs:List V) (Q:VK) (E:XK),kR k (A.deeper (envOfC qual scope s.heap.objs.size f cdv))→sp vs H Q E →
      ∃ t,PSs (LD CX P w K mg base N qual scope f cdv A outer s H E) body t∧t {nx:=fun _ H'=>Q .non H',rt:=Q} (start N vs) H) :
    xI P w K mg base CX (k+1) f (PySem.W.fnOf name qual params body scope dV kV doc pm an cdv ct) ps sp:=by
  refine ⟨len,fun A outer s H args us vs Q E hr e0 hb r hsp=>?_⟩
  have hl:=len _ _ _ _ hsp
  have KX:K.In s.heap:=e0.mod.kin.keeps fun b o e=>(e0.bs b o e).1
  have lim:s.heap.NoLimit:=e0.mod.nolimit.keeps fun b o e=>(e0.bs b o e).1
  have Nl:∀ y∈ps.zip us,scope.names.lookup y.1=some .local∨(scope.names.lookup y.1=some .cell∧((cellsFrom (s.heap.objs.size+1) scope.names []).lookup y.1).isSome=true):=fun ⟨n,v⟩ hy=>by
    rcases S.par n (List.of_mem_zip hy).1 with q|q
    · exact .inl q
    · exact .inr ⟨q,PySem.W.cellsFrom_some _ _ _ (.inl q)⟩
  refine codeAny_call_function hr.depth (KX _ _ lk) rfl S.co S.gen rfl (PySem.W.codeRec_of KX hcd) (hb _ _ _ _ ?_)
  refine wpAny_newFunctionEnv_cells S.kind Nl fun env he s1 x=>?_
  subst he
  refine ⟨lim.keeps x.toInCall.keep,codeAny_func ?_⟩
  obtain ⟨t,ht,hq⟩:=DF A outer s H vs Q E (hr.deeper _) hsp
  have I:Inv (LD CX P w K mg base N qual scope f cdv A outer s H E) [] (start N vs) H s1:=DQ S hr.hd e0 hl r x
  refine wpAny_mono (ht [] s1 (start N vs) H _ I hq) (fun fl s' hs=>?_) fun e s' hs=>hs
  have fin:∀ {σ':St} {H':Hp} {v:V} {u:Value},Inv (LD CX P w K mg base N qual scope f cdv A outer s H E) [] σ' H' s'→RelV v u→Q v H'→CE outer P w H s Q u s' :=
    fun {σ' H' v u} J rv q=>⟨v,H',J.os,J.bare,J.base,J.hok,rv,q⟩
  cases fl with
  | ret u =>
    obtain ⟨v,σ',H',J,rv,q⟩:=hs
    exact fin J rv q
  | next =>
    obtain ⟨σ',H',J,q⟩:=hs
    exact fin (v:=V.non) (u:=Value.none) J rfl q
  | brk =>
    obtain ⟨_,_,_,q⟩:=hs
    exact False.elim q
  | cont =>
    obtain ⟨_,_,_,q⟩:=hs
    exact False.elim q
end L2
namespace L2
open PySem PySem.Spec PyProof.Rows
section
variable {X:Cx} {x:Str} {p pos:Pos} {e:Expr} {es:List Expr} {t:TA} {id T:String} {r:List V→Hp→VK→Prop}
def tCB (r:List V→Hp→VK→Prop) (t:TA):TE:=fun σ H Q=>t σ H fun vs H1=>r vs H1 Q
theorem fi (hc:ux X (.builtin id) r) (hg:Gl X x) (hm:X.mg x=none) (hv:bootBuiltins x=some (.builtin id)) (ha:PA X (e::es) t) (hn:x ≠ "__name__" := by decide) (hdb:(x == ("__debug__" : Str))=false:=by decide)
    (he:starEach (e::es) X.env=(false,eval e X.env)::starEach es X.env:=by rfl) (hpl:(backTo pos (starEach es X.env)).any (·.1)=false:=by rfl):PE X (.Call (.Name x p) (e::es) [] pos) (tCB r t):=by
  intro pins s σ H Q I h
  refine wpAny_Call_Name_kw (xk I hg hm hv ?_ hn hdb)
  exact PyProof.Rows.callWith_builtin1 (thn (ha pos pins s σ H _ I h) fun us s1 ⟨vs,H1,I1,r1,q1⟩=>hc pins s1 σ H1 vs us Q I1 r1 q1) he hpl
theorem zJ (hc:ux X (.type T) r) (hg:Gl X x) (hm:X.mg x=none) (hv:bootBuiltins x=some (.type T)) (ha:PA X (e::es) t) (hn:x ≠ "__name__" := by decide) (hdb:(x == ("__debug__" : Str))=false:=by decide)
    (he:starEach (e::es) X.env=(false,eval e X.env)::starEach es X.env:=by rfl) (hpl:(backTo pos (starEach es X.env)).any (·.1)=false:=by rfl):PE X (.Call (.Name x p) (e::es) [] pos) (tCB r t):=by
  intro pins s σ H Q I h
  refine wpAny_Call_Name_kw (xk I hg hm hv ?_ hn hdb)
  exact PyProof.Rows.callWith_type1 (thn (ha pos pins s σ H _ I h) fun us s1 ⟨vs,H1,I1,r1,q1⟩=>hc pins s1 σ H1 vs us Q I1 r1 q1) he hpl
end
end L2
namespace HT
open PySem PyProof.Rows
section
open PySem.SeqAt
open PySem.AutoSeq1 (wpAny_loadPart')
open PySem.MeetsSeq PySem.MeetsSeq2 PySem.MeetsSeq3
end
section
variable {prog:Program} {w:World} {A:Around} {E:Value→Shared→Prop} {s:Shared}
def sIx (n d:Nat):Option Int→Nat
  | none=>d
  | some v=>if v<0 then (v+(n:Int)).toNat else min v.toNat n
end
end HT
namespace L2
open PySem PySem.Spec PyProof.Rows
abbrev TO:=St→Hp→(Option Int→Hp→Prop)→Prop
def PO (X:Cx) (e:Option Expr) (t:TO):Prop :=
  ∀ (pins:List (Addr×Obj)) (s:Shared) (σ:St) (H:Hp) (Q:Option Int→Hp→Prop),Inv X pins σ H s→t σ H Q →
    wpAny (model X.prog X.w) X.A (evalPart e X.env) (fun u s'=>∃ o H',Inv X pins σ H' s'∧IsPart u o∧Q o H') X.xe s
def NS:TO:=fun _ H Q=>Q none H
def YB (t:TE):TO:=fun σ H Q=>t σ H fun x H1=>∃ i,x=.int i∧Q (some i) H1
theorem intsAre_of {ns:List Int}:∀ {us:List Value},Vals (ns.map V.int) us→IntsAre us ns:=by
  induction ns with
  | nil=>intro us r;rw [List.map_nil] at r;cases r;exact .nil
  | cons n ns ih =>
    intro us r
    rw [List.map_cons] at r
    cases r with
    | cons r1 r2 =>
      obtain ⟨t,e⟩:=r1
      subst e
      exact .cons n t (ih r2)
section
variable {X:Cx} {e:Expr} {te:TE} {lo hi:Option Expr} {tl th:TO} {pos p2:Pos}
theorem NT:PO X none NS:=by
  intro pins s σ H Q I h
  rw [evalPart_none]
  exact wpAny_pure ⟨none,H,I,.none,h⟩
theorem NU (h:PE X e te):PO X (some e) (YB te):=by
  intro pins s σ H Q I hw
  rw [evalPart_some]
  refine thn (h pins s σ H _ I hw) fun u s1 ⟨x,H1,I1,r1,q1⟩=>?_
  obtain ⟨i,rfl,q⟩:=q1
  obtain ⟨t,rfl⟩:=r1
  exact ⟨some i,H1,I1,.int i t,q⟩
def SlR (X:Cx) (r:V→Option Int→Option Int→Hp→VK→Prop):Prop :=
  ∀ (pins:List (Addr×Obj)) (s:Shared) (σ:St) (H:Hp) (x:V) (v vl vu:Value) (lo hi:Option Int) (sl:Addr) (Q:VK),Inv X pins σ H s→RelV x v→s.heap.IsSliceOf sl vl vu .none→IsPart vl lo→IsPart vu hi→r x lo hi H Q →
    ∃ T id,typeLookup (.type T) "__getitem__" = pure (some (.builtin id))∧s.TypeIs v T∧wpAny (model X.prog X.w) X.A (getItem v (.ref sl)) (EP X pins σ Q) X.xe s
def tSl (r:V→Option Int→Option Int→Hp→VK→Prop) (te:TE) (tl th:TO):TE:=fun σ H Q=>te σ H fun x H1=>tl σ H1 fun l H2=>th σ H2 fun u H3=>r x l u H3 Q
theorem LY {r:V→Option Int→Option Int→Hp→VK→Prop} (hr:SlR X r) (he:PE X e te) (hl:PO X lo tl) (hu:PO X hi th):PE X (.Subscript e (.Slice lo hi none p2) pos) (tSl r te tl th):=by
  intro pins s σ H Q I h
  refine Subscript_ (thn (he pins s σ H _ I h) fun v s1 ⟨x,H1,I1,r1,q1⟩=>?_)
  refine wpAny_Slice (thn (hl pins s1 σ H1 _ I1 q1) fun vl s2 ⟨l,H2,I2,pl,q2⟩=>thn (hu pins s2 σ H2 _ I2 q2) fun vu s3 ⟨u,H3,I3,pu,q3⟩=>?_)
  rw [evalPart_none]
  refine wpAny_pure ?_
  have I4:Inv X pins σ H3 {s3 with heap:=s3.heap.push {cls:=.type "slice",data:=.fields #[vl,vu,.none]}}:=I3.kept (t':=s3.toks) fun b ob q=>Heap.get?_push_of_some _ q
  obtain ⟨T,id,hT,ht,hg⟩:=hr pins {s3 with heap:=s3.heap.push {cls:=.type "slice",data:=.fields #[vl,vu,.none]}} σ H3 x v vl vu l u s3.heap.objs.size Q I4 r1 (Heap.IsSliceOf.new ..) pl pu q3
  show wpAny (model X.prog X.w) X.A (subscriptTail e (.Slice lo hi none p2) v (.ref s3.heap.objs.size)) (EP X pins σ Q) X.xe {s3 with heap:=s3.heap.push {cls:=.type "slice",data:=.fields #[vl,vu,.none]}}
  exact tail_any (ops:=[.ref s3.heap.objs.size,v]) ht hT hg (by with_unfolding_all rfl)
def MA (xs:List V) (lo hi:Option Int):List V:=(xs.drop (HT.sIx xs.length 0 lo)).take (HT.sIx xs.length xs.length hi-HT.sIx xs.length 0 lo)
theorem FQ (xs:List V) (lo hi:Option Int):(MA xs lo hi).length≤xs.length:=by
  unfold MA
  rw [List.length_take,List.length_drop]
  omega
end
end L2
namespace L2
open PySem PySem.Spec PyProof.Rows
def ixN (n:Nat) (i:Int):Option Nat:=if 0≤i then (if i<n then some i.toNat else none) else if -(n:Int)≤i then some (i+n).toNat else none
def atI {α:Type} (xs:List α) (i:Int):Option α:=(ixN xs.length i).bind fun j=>xs[j]?
theorem JI {n:Nat} {i:Int} {j:Nat} (h:ixN n i=some j):seqIndex? i n=some j∧j<n∧-(n:Int)≤i∧i<n:=by
  unfold ixN at h
  by_cases h0:0≤i
  · rw [if_pos h0] at h
    by_cases h1:i<n
    · rw [if_pos h1] at h
      have e:i.toNat=j:=Option.some.inj h
      exact ⟨by rw [seqIndex_of h0 h1,e],by omega,by omega,h1⟩
    · rw [if_neg h1] at h;cases h
  · rw [if_neg h0] at h
    by_cases h1:-(n:Int)≤i
    · rw [if_pos h1] at h
      have e:(i+n).toNat=j:=Option.some.inj h
      exact ⟨by rw [seqIndex_neg (by omega) h1,e],by omega,h1,by omega⟩
    · rw [if_neg h1] at h;cases h
theorem JJ {α:Type} {xs:List α} {i:Int} {v:α} (h:atI xs i=some v):∃ j,seqIndex? i xs.length=some j∧xs[j]?=some v∧j<xs.length∧-(xs.length:Int)≤i∧i<xs.length:=by
  unfold atI at h
  cases e:ixN xs.length i with
  | none=>rw [e] at h;cases h
  | some j =>
    rw [e] at h
    obtain ⟨h1,h2,h3,h4⟩:=JI e
    exact ⟨j,h1,h,h2,h3,h4⟩
theorem xJ {α:Type} {xs:List α} {j:Nat} {v:α} (h:xs[j]?=some v):atI xs (j:Int)=some v:=by
  have hj:j<xs.length:=(List.getElem?_eq_some_iff.mp h).1
  have e:ixN xs.length (j:Int)=some j:=by
    unfold ixN
    rw [if_pos (by omega),if_pos (by omega)];simp
  unfold atI;rw [e];exact h
def NV (b:Expr):Prop:=∀ o i,subscripted b false o i=operate [o,i] (getItem o i)
def IxR (X:Cx) (r:R2):Prop :=
  ∀ (value slice:Expr) (pins:List (Addr×Obj)) (s:Shared) (σ:St) (H:Hp) (x y:V) (v u:Value) (Q:VK),Inv X pins σ H s→RelV x v→RelV y u→r x y H Q →
    subscripted slice false v u=operate [v,u] (getItem v u)→wpAny (model X.prog X.w) X.A (subscriptTail value slice v u) (EP X pins σ Q) X.xe s
def MtR (X:Cx) (id:String) (r:V→List V→Hp→VK→Prop):Prop :=
  ∀ (pins:List (Addr×Obj)) (s:Shared) (σ:St) (H:Hp) (x:V) (xs:List V) (v:Value) (us:List Value) (Q:VK),Inv X pins σ H s→RelV x v→Vals xs us→r x xs H Q →
    wpAny (model X.prog X.w) X.A (call (.builtin id) (v::us)) (EP X pins σ Q) X.xe s
section
variable {X:Cx} {a b:Expr} {ta tb:TE} {pos:Pos}
theorem aJ {r:R2} (hr:IxR X r) (ha:PE X a ta) (hb:PE X b tb) (hs:NV b):PE X (.Subscript a b pos) (tOp r ta tb):=by
  intro pins s σ H Q I h
  exact Subscript_ (WT ha hb I h fun v u s2 x y H2 I2 rx ry q=>hr a b pins s2 σ H2 x y v u Q I2 rx ry q (hs _ _))
def Z6 (K:W.Frag):R2:=fun x y H Q=>∃ p xs i v,x=.ref p∧y=.int i∧SqL K H p xs∧atI xs i=some v∧Q v H
def Z7 (K:W.Frag):R2:=fun x y H Q=>∃ p xs i v,x=.ref p∧y=.int i∧SqT K H p xs∧atI xs i=some v∧Q v H
theorem cD:IxR X (Z6 X.K):=by
  intro value slice pins s σ H x y v u Q I rx ry h hs
  obtain ⟨p,xs,i,z,rfl,rfl,hq,he,q⟩:=h
  cases rx
  obtain ⟨t,rfl⟩:=ry
  obtain ⟨its,r,pl,hz⟩:=I.list hq
  obtain ⟨j,h1,h2,h3,h4,h5⟩:=JJ he
  obtain ⟨w,ew,rw'⟩:=r.get h2
  have hl:=r.length
  have hn:=FA
  have fin:EP X pins σ Q w s:=⟨z,H,I,rw',q⟩
  by_cases h0:0≤i
  · have hj:i.toNat=j:=by
      rw [seqIndex_of h0 h5] at h1
      exact Option.some.inj h1
    exact item_listR pl.isList h0 (by omega) (by rw [hj];simpa using ew) fin hs
  · have hj:(i+(its.toArray.size:Int)).toNat=j:=by
      rw [seqIndex_neg (by omega) h4] at h1
      rw [List.size_toArray,←hl]
      exact Option.some.inj h1
    exact subscriptTail_builtinR (x:=w) pl.isList.typeIs slot_list_getitem.lookup
      (wpAny_getItem_list_neg (Q:=fun r s'=>r=w∧EP X pins σ Q r s') pl.isList (by omega) (by rw [List.size_toArray]<;>omega) (by omega) (by rw [hj];simpa using ew) ⟨rfl,fin⟩) hs
theorem aF:IxR X (Z7 X.K):=by
  intro value slice pins s σ H x y v u Q I rx ry h hs
  obtain ⟨p,xs,i,z,rfl,rfl,hq,he,q⟩:=h
  cases rx
  obtain ⟨t,rfl⟩:=ry
  obtain ⟨its,r,pl,hz⟩:=I.tuple hq
  obtain ⟨j,h1,h2,h3,h4,h5⟩:=JJ he
  obtain ⟨w,ew,rw'⟩:=r.get h2
  have hl:=r.length
  have hn:=FA
  have fin:EP X pins σ Q w s:=⟨z,H,I,rw',q⟩
  exact subscriptTail_builtinR (x:=w) pl.typeIs slot_tuple_getitem.lookup
    (getItem_tuple (j:=j) (Q:=fun r s'=>r=w∧EP X pins σ Q r s') pl (by omega) (by omega) (by rw [List.size_toArray,←hl];exact h1) (by simpa using ew) ⟨rfl,fin⟩) hs
theorem Ii (its:List Value) (n j:Nat) (u:Value):Obj.mapSeq (·.setIfInBounds j u) {cls:=.type "list",data:=.seq its.toArray n}={cls:=.type "list",data:=.seq (its.set j u).toArray n}:=by
  simp [Obj.mapSeq]
theorem Inv.lst {pins:List (Addr×Obj)} {σ:St} {H:Hp} {s:Shared} {p:Addr} {xs:List V} (I:Inv X pins σ H s) (h:H p=some (.lst xs)) :
    ∃ (its:List Value) (n:Nat),Vals xs its∧s.heap.get? p=some {cls:=.type "list",data:=.seq its.toArray n}∧xs.length≤sizeLine:=by
  obtain ⟨z,its,n,r,e⟩:=I.hok p _ h
  exact ⟨its,n,r,e,z⟩
theorem Inv.We {pins:List (Addr×Obj)} {σ:St} {H:Hp} {s:Shared} {p:Addr} {xs ys:List V} {its DK:List Value} {n n':Nat} {f:Obj→Obj} (I:Inv X pins σ H s) (h:H p=some (.lst xs))
    (ho:s.heap.get? p=some {cls:=.type "list",data:=.seq its.toArray n}) (hf:f {cls:=.type "list",data:=.seq its.toArray n}={cls:=.type "list",data:=.seq DK.toArray n'}) (r:Vals ys DK) (hz:ys.length≤sizeLine) (t:Nat) :
    Inv X pins σ (upd H p (.lst ys)) {s with heap:=s.heap.update p f,toks:=t}:=by
  have e:(s.heap.update p f).get? p=some {cls:=.type "list",data:=.seq DK.toArray n'}:=by
    rw [Heap.get?_update_self f ho (by rw [hf]<;>rfl),hf]
  refine I.write (x:=p) (e:=p) (by rw [h];trivial) (.inl rfl) (fun b u hb q=>(Heap.get?_update_other _ _ (Ne.symm hb)).trans q) ⟨_,e⟩ ?_
  exact ⟨hz,DK,n',r,e⟩
def YC:V→V→V→Hp→(Hp→Prop)→Prop:=fun o i v H Q=>∃ p xs k j,o=.ref p∧i=.int k∧H p=some (.lst xs)∧ixN xs.length k=some j∧Q (upd H p (.lst (xs.set j v)))
theorem set_list:Zn X YC:=by
  intro pins s σ H o i v ov iv u Q I ro ri rv h
  obtain ⟨p,xs,k,j,rfl,rfl,hp,hj,q⟩:=h
  cases ro
  obtain ⟨t,rfl⟩:=ri
  obtain ⟨its,n,r,ho,hz⟩:=I.lst hp
  obtain ⟨h1,h2,h3,h4⟩:=JI hj
  have hl:=r.length
  have hn:=FA
  have I':Inv X pins σ (upd H p (.lst (xs.set j v))) {s with heap:=s.heap.update p (Obj.mapSeq (·.setIfInBounds j u))} :=
    I.We hp ho (Ii its n j u) (r.set rv j) (by rw [List.length_set];exact hz) s.toks
  by_cases h0:0≤k
  · have hk:k.toNat=j:=by
      rw [seqIndex_of h0 h4] at h1
      exact Option.some.inj h1
    exact PySem.W.ki_setAt ho h0 (by omega) (by rw [List.size_toArray,←hl];exact h4) (by rw [hk];exact ⟨_,I',q⟩)
  · have hk:(k+(its.toArray.size:Int)).toNat=j:=by
      rw [seqIndex_neg (by omega) h3] at h1
      rw [List.size_toArray,←hl]
      exact Option.some.inj h1
    exact PySem.W.ki_setBack ho (by omega) (by rw [List.size_toArray,←hl];exact h3) (by omega) (by rw [hk];exact ⟨_,I',q⟩)
theorem D9 (lo hi:Option Int) (n:Nat):(sliceBounds lo hi none n).1=((HT.sIx n 0 lo:Nat):Int)∧(sliceBounds lo hi none n).2.1=((HT.sIx n n hi:Nat):Int)∧(sliceBounds lo hi none n).2.2=1:=by
  refine ⟨?_,?_,rfl⟩
  · cases lo with
    | none=>simp [sliceBounds,HT.sIx]
    | some i =>
      simp only [sliceBounds,HT.sIx,Option.getD_none,show (1:Int)>0 by decide,if_true]
      by_cases h:i<0
      · simp only [h,if_true]<;>omega
      · simp only [h,if_false]<;>omega
  · cases hi with
    | none=>simp [sliceBounds,HT.sIx]
    | some i =>
      simp only [sliceBounds,HT.sIx,Option.getD_none,show (1:Int)>0 by decide,if_true]
      by_cases h:i<0
      · simp only [h,if_true]<;>omega
      · simp only [h,if_false]<;>omega
theorem CQ (its:List Value) (lo hi:Option Int):slicePick its.toArray lo hi none=((its.drop (HT.sIx its.length 0 lo)).take (HT.sIx its.length its.length hi-HT.sIx its.length 0 lo)).toArray:=by
  obtain ⟨h1,h2,h3⟩:=D9 lo hi its.toArray.size
  unfold slicePick
  rw [h1,h2,h3]
  simp only [sliceRange_one,pick_run,List.size_toArray]<;>rfl
def Z8 (K:W.Frag):V→Option Int→Option Int→Hp→VK→Prop:=fun x lo hi H Q=>∃ a xs,x=.ref a∧SqL K H a xs∧∀ p,H p=none→Q (.ref p) (upd H p (.lst (MA xs lo hi)))
theorem NW:SlR X (Z8 X.K):=by
  intro pins s σ H x v vl vu lo hi sl Q I rx hs pl pu h
  obtain ⟨a,xs,rfl,hx,q⟩:=h
  cases rx
  obtain ⟨its,r,ht,hz⟩:=I.list hx
  have hlen:=r.length
  refine ⟨"list",_,slot_list_getitem.lookup,ht.isList.typeIs,?_⟩
  refine wpAny_getItem_list_slice ht.isList hs pl pu .none (by simp) ?_ (by rw [List.size_toArray]<;>omega)
  rw [CQ,←hlen]
  refine ⟨.ref s.heap.objs.size,_,I.laid (t':=s.toks) (o:=.lst (MA xs lo hi)) (fun b ob q=>Heap.get?_push_of_some _ q) (Nat.le_refl _) ?_,rfl,q _ (I.hok.fresh (Nat.le_refl _))⟩
  exact ⟨Nat.le_trans (FQ xs lo hi) hz,_,0,(r.drop (HT.sIx xs.length 0 lo)).take (HT.sIx xs.length xs.length hi-HT.sIx xs.length 0 lo),Heap.get?_push_size _ rfl⟩
def j5:V→Bool
  | .non=>true
  | .bl _=>true
  | .int _=>true
  | .str _=>true
  | _=>false
def eqV:V→V→Bool
  | .non,.non=>true
  | .bl a,.bl b=>a == b
  | .bl a,.int b=>(if a then 1 else 0) == b
  | .int a,.bl b=>a == (if b then 1 else 0)
  | .int a,.int b=>a == b
  | .str a,.str b=>a == b
  | _,_=>false
theorem Jp {A:Around} {s:Shared} {y x:V} {u v:Value} (ry:RelV y u) (rx:RelV x v) (fy:j5 y=true) (fx:j5 x=true):SeqAt.EqAt A s u v (eqV y x):=by
  cases y with
  | non =>
    cases ry
    cases x with
    | non=>cases rx;exact SeqAt.EqAt.same _
    | bl b=>cases rx;exact SeqAt.EqAt.none_bool b
    | int b=>obtain ⟨t,rfl⟩:=rx;exact SeqAt.EqAt.none_int b t
    | str b=>obtain ⟨t,rfl⟩:=rx;exact SeqAt.EqAt.none_str b t
    | _=>exact absurd (show false=true from fx) Bool.false_ne_true
  | bl a =>
    cases ry
    cases x with
    | non=>cases rx;exact SeqAt.EqAt.bool_none a
    | bl b=>cases rx;exact SeqAt.EqAt.bool_bool a b
    | int b=>obtain ⟨t,rfl⟩:=rx;exact SeqAt.EqAt.bool_int a b t
    | str b=>obtain ⟨t,rfl⟩:=rx;exact SeqAt.EqAt.bool_str a b t
    | _=>exact absurd (show false=true from fx) Bool.false_ne_true
  | int a =>
    obtain ⟨t',rfl⟩:=ry
    cases x with
    | non=>cases rx;exact SeqAt.EqAt.int_none a t'
    | bl b=>cases rx;exact SeqAt.EqAt.int_bool a t' b
    | int b=>obtain ⟨t,rfl⟩:=rx;exact SeqAt.EqAt.int_int a t' b t
    | str b=>obtain ⟨t,rfl⟩:=rx;exact SeqAt.EqAt.int_str a t' b t
    | _=>exact absurd (show false=true from fx) Bool.false_ne_true
  | str a =>
    obtain ⟨t',rfl⟩:=ry
    cases x with
    | non=>cases rx;exact SeqAt.EqAt.str_none a t'
    | bl b=>cases rx;exact SeqAt.EqAt.str_bool a t' b
    | int b=>obtain ⟨t,rfl⟩:=rx;exact SeqAt.EqAt.str_int a t' b t
    | str b=>obtain ⟨t,rfl⟩:=rx;exact SeqAt.EqAt.str_str a t' b t
    | _=>exact absurd (show false=true from fx) Bool.false_ne_true
  | _=>exact absurd (show false=true from fy) Bool.false_ne_true
def eqU (x:V) (u:Value):Bool:=match u with
  | .none=>eqV .non x
  | .bool b=>eqV (.bl b) x
  | .int i _=>eqV (.int i) x
  | .str z _=>eqV (.str z) x
  | _=>false
theorem MB {x y:V} {u:Value} (r:RelV y u) (f:j5 y=true):eqU x u=eqV y x:=by
  cases y with
  | non=>cases r;rfl
  | bl b=>cases r;rfl
  | int i=>obtain ⟨t,rfl⟩:=r;rfl
  | str z=>obtain ⟨t,rfl⟩:=r;rfl
  | _=>exact absurd (show false=true from f) Bool.false_ne_true
theorem xK {x:V}:∀ {xs:List V} {us:List Value},Vals xs us→xs.all j5=true→us.any (eqU x)=xs.any fun y=>eqV y x
  | _,_,.nil,_=>rfl
  | y::xs,u::us,.cons r t,f=>by
    rw [List.all_cons,Bool.and_eq_true] at f
    rw [List.any_cons,List.any_cons,MB r f.1,xK t f.2]
theorem rj {A:Around} {s:Shared} {x:V} {v:Value} (rx:RelV x v) (fx:j5 x=true):∀ {xs:List V} {us:List Value},Vals xs us→xs.all j5=true→∀ u∈us,SeqAt.EqAt A s u v (eqU x u)
  | _,_,.nil,_=>fun u hu=>by cases hu
  | y::xs,u::us,.cons r t,f=>fun u' hu=>by
    rw [List.all_cons,Bool.and_eq_true] at f
    rcases List.mem_cons.mp hu with rfl|hu
    · rw [MB r f.1];exact Jp r rx f.1 fx
    · exact rj rx fx t f.2 u' hu
def inV (x:V) (xs:List V):Bool:=xs.any fun y=>eqV y x
def rIn (K:W.Frag) (neg:Bool):R2:=fun x y H Q=>∃ p xs,y=.ref p∧(SqL K H p xs∨SqT K H p xs)∧j5 x=true∧xs.all j5=true∧Q (.bl (if neg then !inV x xs else inV x xs)) H
theorem zK:OpR X (compareOp .In) (rIn X.K false):=by
  intro pins s σ H x y v u Q I rx ry h
  obtain ⟨p,xs,rfl,hq,fx,fs,q⟩:=h
  cases ry
  rcases hq with hq|hq
  · obtain ⟨its,r,pl,hz⟩:=I.list hq
    refine SeqAt.in_listAt (eqU x) pl.isList (fun w hw=>rj rx fx r fs w (by simpa using hw)) ⟨.bl _,H,I,rfl,?_⟩
    rw [show its.toArray.any (eqU x)=its.any (eqU x) by simp,xK r fs]
    exact q
  · obtain ⟨its,r,pl,hz⟩:=I.tuple hq
    refine SeqAt.in_tupleAt (eqU x) pl (fun w hw=>rj rx fx r fs w (by simpa using hw)) ⟨.bl _,H,I,rfl,?_⟩
    rw [show its.toArray.any (eqU x)=its.any (eqU x) by simp,xK r fs]
    exact q
theorem Ea:OpR X (compareOp .NotIn) (rIn X.K true):=by
  intro pins s σ H x y v u Q I rx ry h
  obtain ⟨p,xs,rfl,hq,fx,fs,q⟩:=h
  cases ry
  rcases hq with hq|hq
  · obtain ⟨its,r,pl,hz⟩:=I.list hq
    refine SeqAt.notIn_listAt (eqU x) pl.isList (fun w hw=>rj rx fx r fs w (by simpa using hw)) ⟨.bl _,H,I,rfl,?_⟩
    rw [show its.toArray.any (eqU x)=its.any (eqU x) by simp,xK r fs]
    exact q
  · obtain ⟨its,r,pl,hz⟩:=I.tuple hq
    refine SeqAt.notIn_tupleAt (eqU x) pl (fun w hw=>rj rx fx r fs w (by simpa using hw)) ⟨.bl _,H,I,rfl,?_⟩
    rw [show its.toArray.any (eqU x)=its.any (eqU x) by simp,xK r fs]
    exact q
theorem dN:ux X (.builtin "len") (fun xs H Q=>∃ p ys,xs=[.ref p]∧(SqL X.K H p ys∨SqT X.K H p ys)∧Q (.int ys.length) H):=by
  intro pins s σ H xs us Q I r h
  obtain ⟨p,ys,rfl,hq,q⟩:=h
  obtain ⟨u,rfl,rx⟩:=vals1 r
  cases rx
  have hn:=FA
  rcases hq with hq|hq
  · obtain ⟨its,r',pl,hz⟩:=I.list hq
    have hlen:=r'.length
    exact Calls.call_len_list pl.isList (by simp only [List.size_toArray]<;>omega) ⟨.int ys.length,H,I.tok _,⟨s.toks+1,by rw [List.size_toArray,hlen]⟩,q⟩
  · obtain ⟨its,r',pl,hz⟩:=I.tuple hq
    have hlen:=r'.length
    exact len_tuple pl (by simp only [List.size_toArray]<;>omega) ⟨.int ys.length,H,I.tok _,⟨s.toks+1,by rw [List.size_toArray,hlen]⟩,q⟩
theorem Eb:ux X (.type "list") (fun xs H Q=>∃ p ys,xs=[.ref p]∧(SqL X.K H p ys∨SqT X.K H p ys)∧∀ l,H l=none→Q (.ref l) (upd H l (.lst ys))):=by
  intro pins s σ H xs us Q I r h
  obtain ⟨p,ys,rfl,hq,q⟩:=h
  obtain ⟨u,rfl,rx⟩:=vals1 r
  cases rx
  have fin:∀ (its:List Value),Vals ys its→ys.length≤sizeLine→∀ (h':Heap) (c':Nat),(∀ b o',s.heap.get? b=some o'→h'.get? b=some o') →
      h'.get? s.heap.objs.size=some {cls:=.type "list",dict:=none,data:=.seq its.toArray c',slots:=#[]}→EP X pins σ Q (.ref s.heap.objs.size) {s with heap:=h'}:=fun its r' hz h' c' kp e =>
    ⟨.ref s.heap.objs.size,_,I.laid (t':=s.toks) kp (Nat.le_refl _) (show en X.prog X.w _ h' _ (.lst ys) from ⟨hz,its,c',r',e⟩),rfl,q _ (I.hok.fresh (Nat.le_refl _))⟩
  rcases hq with hq|hq
  · obtain ⟨its,r',pl,hz⟩:=I.list hq
    have hlen:=r'.length
    obtain ⟨o,ho,hc,n,hd⟩:=pl.isList
    exact call_list_seq p (.inl rfl) ho hc hd (fun h' c' kp e=>fin its r' hz h' c' kp e) (by simp only [List.size_toArray]<;>omega)
  · obtain ⟨its,r',pl,hz⟩:=I.tuple hq
    have hlen:=r'.length
    obtain ⟨o,ho,hc,n,hd⟩:=pl
    exact call_list_seq p (.inr rfl) ho hc hd (fun h' c' kp e=>fin its r' hz h' c' kp e) (by simp only [List.size_toArray]<;>omega)
def tyV (K:W.Frag) (T:String) (x:V) (H:Hp):Prop:=match x with
  | .str _=>T = "str"
  | .int _=>T = "int"
  | .ref p=>(T = "list" ∧ ∃ xs,SqL K H p xs)∨(T = "tuple" ∧ ∃ o,K.lookup p=some o∧o.cls=.type "tuple" ∧ o.dict=none) ∨
      (T = "dict" ∧ ((∃ kvs,H p=some (.dK kvs))∨∃ kvs,H p=some (.dT kvs)))∨(T = "set" ∧ ∃ S n,H p=some (.set S n))
  | _=>False
theorem Wf {pins:List (Addr×Obj)} {σ:St} {H:Hp} {s:Shared} {T:String} {x:V} {v:Value} (I:Inv X pins σ H s) (r:RelV x v) (ty:tyV X.K T x H) :
    s.TypeIs v T∧∀ a,v=.ref a→∃ ob,s.heap.get? a=some ob∧ob.dict=none:=by
  cases x with
  | str z =>
    obtain ⟨t,rfl⟩:=r
    cases (show T = "str" from ty)
    exact ⟨typeIs_str s z t,fun _ e=>nomatch e⟩
  | int i =>
    obtain ⟨t,rfl⟩:=r
    cases (show T = "int" from ty)
    exact ⟨typeIs_int s i t,fun _ e=>nomatch e⟩
  | ref p =>
    cases r
    rcases ty with ⟨rfl,xs,hq⟩|⟨rfl,o,hk,hc,hd⟩|⟨rfl,hk⟩|⟨rfl,S,n,hk⟩
    · obtain ⟨its,_,pl,_⟩:=I.list hq
      refine ⟨pl.isList.typeIs,fun a e=>?_⟩
      cases e
      obtain ⟨o,n,e,c,hd,_⟩:=pl
      exact ⟨o,e,hd⟩
    · refine ⟨⟨o,I.kIn p o hk,hc⟩,fun a e=>?_⟩
      cases e
      exact ⟨o,I.kIn _ o hk,hd⟩
    · have z:∃ o,s.heap.get? p=some o∧o.ExactDict:=by
        rcases hk with ⟨kvs,hk⟩|⟨kvs,hk⟩
        · obtain ⟨_,_,_,_,o,_,_,e,ex,_⟩:=I.hok p _ hk
          exact ⟨o,e,ex⟩
        · obtain ⟨_,_,_,_,o,_,_,e,ex,_⟩:=I.hok p _ hk
          exact ⟨o,e,ex⟩
      obtain ⟨o,e,ex⟩:=z
      refine ⟨⟨o,e,ex.1⟩,fun a e2=>?_⟩
      cases e2
      exact ⟨o,e,ex.2.1⟩
    · obtain ⟨o,_,_,_,e,ex,_⟩:=I.hok p _ hk
      refine ⟨⟨o,e,ex.1⟩,fun a e2=>?_⟩
      cases e2
      exact ⟨o,e,ex.2.1⟩
  | _=>exact False.elim ty
def tBM (K:W.Frag) (T:String) (r:V→List V→Hp→VK→Prop) (to:TE) (t:TA):TE:=fun σ H Q=>to σ H fun x H1=>tyV K T x H1∧t σ H1 fun xs H2=>r x xs H2 Q
variable {o e:Expr} {es:List Expr} {to:TE} {t:TA} {name:Str} {apos Bm:Pos} {T id:String} {r:V→List V→Hp→VK→Prop}
theorem Ij (pa:PlainAttrs T) (slot:Slot T name id) (hty:typeOf (.builtin id)=pure (.type "method_descriptor")) (hm:MtR X id r) (ho:PE X o to) (ha:PA X (e::es) t)
    (YD:attributeBase o name X.env (eval o X.env)=eval o X.env:=by rfl)
    (LF:((backTo Bm (starEach (e::es) X.env)).all (fun x=>!x.1)&&(backToKw Bm (keywordEach [] X.env)).all (fun x=>x.1.isSome)
      && decide ((e::es).length+([]:List Keyword).length+(if ([]:List Keyword).isEmpty then 0 else 1)<30))=true:=by rfl)
    (YE:(apos.endLine == Bm.line)=true:=by rfl) (hs:starEach (e::es) X.env=(false,eval e X.env)::starEach es X.env:=by rfl) (Wg:(backTo Bm (starEach es X.env)).any (·.1)=false:=by rfl) :
    PE X (.Call (.Attribute o name apos) (e::es) [] Bm) (tBM X.K T r to t):=by
  intro pins s σ H Q I h
  refine wpAny_Call_method_late YD LF YE rfl (thn (ho pins s σ H _ I h) fun v s1 ⟨x,H1,I1,r1,ty,q1⟩=>?_)
  obtain ⟨h1,h2⟩:=Wf I1 r1 ty
  refine ⟨T,id,pa,slot,hty,h1,h2,?_⟩
  have hA:=ha Bm pins s1 σ H1 _ I1 q1
  rw [hs] at hA ⊢
  refine Calls.callWith_builtin (by show (false||(backTo Bm (starEach es X.env)).any (·.1))=false;rw [Wg]<;>rfl) (Calls.evalArgs_plain ?_)
  exact thn hA fun us s2 ⟨vs,H2,I2,r2,q2⟩=>hm pins s2 σ H2 x vs v us Q I2 r1 r2 q2
end
end L2
namespace L2
open PySem PySem.Spec PyProof.Rows
def MtM (X:Cx) (id:String) (r:V→List V→Hp→VK→Prop):Prop :=
  ∀ (pins:List (Addr×Obj)) (s:Shared) (σ:St) (H:Hp) (x:V) (xs:List V) (v:Value) (us:List Value) (Q:VK),Inv X pins σ H s→RelV x v→Vals xs us→r x xs H Q →
    wpAny (model X.prog X.w) X.A (call (.builtin id) (v::us)) (EP X pins σ Q) X.xe s
theorem Vals.one:∀ {x:V} {us:List Value},Vals [x] us→∃ u,us=[u]∧RelV x u
  | _,_,.cons r .nil=>⟨_,rfl,r⟩
theorem Vals.rep {xs:List V} {us:List Value} (h:Vals xs us):∀ k:Nat,Vals (List.replicate k xs).flatten (List.replicate k us).flatten
  | 0=>.nil
  | k+1=>by
    rw [List.replicate_succ,List.replicate_succ,List.flatten_cons,List.flatten_cons]
    exact Vals.append h (Vals.rep h k)
theorem foldl_rep (its:List Value):∀ (k:Nat) (acc:List Value),
    List.foldl (fun x1 x2=>x1++x2) acc.toArray (List.replicate k its.toArray)=(acc++(List.replicate k its).flatten).toArray
  | 0,acc=>by simp
  | k+1,acc=>by
    have e:acc.toArray++its.toArray=(acc++its).toArray:=by simp
    have e2:(acc++its)++(List.replicate k its).flatten=acc++(List.replicate (k+1) its).flatten:=by
      rw [List.replicate_succ,List.flatten_cons,List.append_assoc]
    rw [←e2,←foldl_rep its k (acc++its),←e,List.replicate_succ,List.foldl_cons]
section
variable {X:Cx} {pins:List (Addr×Obj)} {σ:St} {H:Hp} {s:Shared} {l b:Addr} {xs ys zs:List V}
theorem Inv.Zr {its DK:List Value} {n:Nat} {f:Array Value→Array Value} {t':Nat} (I:Inv X pins σ H s) (hH:H l=some (.lst xs))
    (e:s.heap.get? l=some {cls:=.type "list",data:=.seq its.toArray n}) (hf:f its.toArray=DK.toArray) (hv:Vals ys DK) (hz:ys.length≤sizeLine) :
    Inv X pins σ (upd H l (.lst ys)) {s with heap:=s.heap.update l (Obj.mapSeq f),toks:=t'}:=by
  have q:=PySem.IsL.update e f
  rw [hf] at q
  refine I.write (x:=l) (e:=l) (by rw [hH];exact trivial) (.inl rfl) (fun b' u hb hu=>(Heap.get?_update_other s.heap (Obj.mapSeq f) (Ne.symm hb)).trans hu) ⟨_,q⟩ ?_
  exact ⟨hz,DK,_,hv,q⟩
theorem Inv.Rx {its:List Value} {t':Nat} (I:Inv X pins σ H s) (hv:Vals ys its) (hz:ys.length≤sizeLine) :
    Inv X pins σ (upd H s.heap.objs.size (.lst ys)) {s with heap:=s.heap.push {cls:=.type "list",data:=.seq its.toArray},toks:=t'} :=
  I.laid (fun _ _ q=>Heap.get?_push_of_some _ q) (Nat.le_refl _) ⟨hz,its,0,hv,Heap.get?_push_size _ rfl⟩
theorem Inv.fresh (I:Inv X pins σ H s):H s.heap.objs.size=none:=I.hok.fresh (Nat.le_refl _)
theorem Inv.Ry (I:Inv X pins σ H s) (hH:H l=some (.lst xs)):xs.length≤sizeLine∧∃ (its:List Value) (n:Nat),Vals xs its∧xs.length=its.length∧s.heap.get? l=some {cls:=.type "list",data:=.seq its.toArray n}:=by
  obtain ⟨z,its,n,r,e⟩:=I.hok l _ hH
  exact ⟨z,its,n,r,r.length,e⟩
theorem G7 {n:Nat} (h:n≤sizeLine):Builtin.List.listTooLong n=false:=by
  unfold Builtin.List.listTooLong
  exact decide_eq_false (by omega)
end
section
variable {X:Cx}
def NX:V→List V→Hp→VK→Prop:=fun x vs H Q=>∃ l xs y,x=.ref l∧vs=[y]∧H l=some (.lst xs)∧xs.length<sizeLine∧Q .non (upd H l (.lst (xs++[y])))
theorem oj:MtM X "list.append" NX:=by
  intro pins s σ H x vs v us Q I rx rv h
  obtain ⟨l,xs,y,rfl,rfl,hH,hz,q⟩:=h
  cases rx
  obtain ⟨u,rfl,ru⟩:=rv.one
  obtain ⟨z,its,n,r,hl,e⟩:=I.Ry hH
  refine call_meets F.slot_list_append ⟨_,e,rfl⟩ F.entry_list_append (F.args_list_append_2 _ _) (PySem.list_append l its.toArray n u (by rw [List.size_toArray];omega)) ⟨e,?_⟩
  refine ⟨.non,_,I.Zr (DK:=its++[u]) hH e (by simp) (r.append (.cons ru .nil)) ?_,rfl,q⟩
  rw [List.length_append,List.length_singleton]
  omega
def NY:V→List V→Hp→VK→Prop:=fun x vs H Q=>∃ l b xs zs,x=.ref l∧vs=[.ref b]∧H l=some (.lst xs)∧H b=some (.lst zs)∧xs.length+zs.length≤sizeLine∧Q .non (upd H l (.lst (xs++zs)))
theorem KI:MtM X "list.extend" NY:=by
  intro pins s σ H x vs v us Q I rx rv h
  obtain ⟨l,b,xs,zs,rfl,rfl,hH,hB,hz,q⟩:=h
  cases rx
  obtain ⟨u,rfl,ru⟩:=rv.one
  cases ru
  obtain ⟨z,its,n,r,hl,e⟩:=I.Ry hH
  obtain ⟨z2,Rz,n2,r2,hl2,e2⟩:=I.Ry hB
  have hsz:its.toArray.size+Rz.toArray.size≤sizeLine:=by rw [List.size_toArray,List.size_toArray];omega
  have Nm:¬(!its.toArray.isEmpty&&Builtin.List.listTooLong (its.toArray.size+Rz.toArray.size))=true:=by
    rw [G7 hsz,Bool.and_false]
    exact Bool.false_ne_true
  refine call_meets F.slot_list_extend ⟨_,e,rfl⟩ F.entry_list_extend (F.args_list_extend_2 _ _)
    (AutoSeq1.list_extend_list_list_0 l its.toArray n b Rz.toArray n2 Nm (by rw [List.size_toArray];omega) (by omega)) ⟨e,e2,?_⟩
  refine ⟨.non,_,I.Zr (DK:=its++Rz) hH e (by simp) (r.append r2) ?_,rfl,q⟩
  rw [List.length_append]
  omega
def Z9:R2:=fun x y H Q=>∃ l k xs,x=.ref l∧y=.int k∧H l=some (.lst xs)∧-(2 ^ 63)≤k∧k<2 ^ 63∧xs.length*k.toNat≤sizeLine ∧
  ∀ p,H p=none→Q (.ref p) (upd H p (.lst (List.replicate k.toNat xs).flatten))
theorem len_rep {α:Type} (xs:List α) (k:Nat):(List.replicate k xs).flatten.length=k*xs.length:=by
  induction k with
  | zero=>simp
  | succ k ih=>rw [List.replicate_succ,List.flatten_cons,List.length_append,ih,Nat.succ_mul,Nat.add_comm]
theorem CS:OpR X (binaryOp .Mult) Z9:=by
  intro pins s σ H x y v u Q I rx ry h
  obtain ⟨l,k,xs,rfl,rfl,hH,h1,h2,hz,q⟩:=h
  cases rx
  obtain ⟨t,rfl⟩:=ry
  obtain ⟨z,its,n,r,hl,e⟩:=I.Ry hH
  have hlen:its.toArray.size*k.toNat≤sizeLine:=by rw [List.size_toArray,←hl];exact hz
  have aaa:¬its.toArray.size*k.toNat>(2 ^ 63-1)/8:=by
    have:(sizeLine:Nat)≤(2 ^ 63-1)/8:=by decide
    omega
  have aab:¬(!Builtin.List.listFitsIndex k)=true:=by
    rw [fitsIndex_both h1 h2]
    exact Bool.false_ne_true
  have Nm:¬Builtin.List.listTooLong (its.toArray.size*k.toNat)=true:=by
    rw [G7 hlen]
    exact Bool.false_ne_true
  have aac:List.foldl (fun x1 x2=>x1++x2) #[] (List.replicate (if its.toArray.isEmpty=true then 0 else k.toNat) its.toArray)=(List.replicate k.toNat its).flatten.toArray:=by
    have f0:∀ m:Nat,List.foldl (fun x1 x2=>x1++x2) #[] (List.replicate m its.toArray)=(List.replicate m its).flatten.toArray:=fun m=>by
      have:=foldl_rep its m []
      rw [List.nil_append] at this
      exact this
    rw [f0]
    cases its with
    | nil=>simp
    | cons a r'=>rw [if_neg (by simp)]
  refine wpAny_binaryOp_repeat_ref (T := "list") (U := "int") (by decide) ⟨_,e,rfl⟩ (fun s'=>typeIs_int s' k t) noFill_list_mul F.fills_int_mul F.slot_int_rmul repeat_list F.slot_int_index.lookup
    (call_meets F.slot_int_rmul (typeIs_int s k t) F.entry_int_rmul (F.args_int_rmul_2 _ _) (int___rmul___int_list k t l its.toArray n)
      ⟨e,rfl,⟨_,e,rfl⟩,call_meets F.slot_list_mul ⟨_,e,rfl⟩ F.entry_list_mul (F.args_list_mul_2 _ _) (AutoListH.list___mul___list_int_3 l its.toArray n k t aab aaa Nm) ⟨e,?_⟩⟩)
  rw [aac]
  exact ⟨.ref _,_,I.Rx (t':=s.toks) (r.rep k.toNat) (by rw [len_rep,Nat.mul_comm];exact hz),rfl,q _ I.fresh⟩
end
section
variable {prog:Program} {w:World} {A:Around} {E:Value→Shared→Prop} {s:Shared}
end
section
variable {X:Cx}
end
end L2
namespace Att
open PySem PySem.W PySem.Calls PyProof.Rows
theorem Ai {P:Params} {h:Heap}:∀ (ns:List Int) (vs:List Value),WellAll P h vs (ns.map WData.int)→IntsAre vs ns:=by
  intro ns
  induction ns with
  | nil =>
    intro vs w
    rw [List.map_nil] at w
    cases w
    exact .nil
  | cons n ns ih =>
    intro vs w
    rw [List.map_cons] at w
    cases w with
    | cons a b =>
      cases a
      exact .cons _ _ (ih _ b)
theorem KJ {l:OpenLaw} {n:Nat} (hn:l.most=some n) {P:Params} {h:Heap} {args:List WData} {vals:List Value}
    (RA:l.row.toRowW.claim.pre args=true) (hwl:WellAll P h vals args) :
    ∃ a vs ns,vals=[Value.ref a]∧args=[WData.list (ns.map WData.int)]∧h.get? a=some {cls:=.type "list",data:=.seq vs.toArray}∧IntsAre vs ns∧ns.length≤n:=by
  have hsh:WShape.hasAll [] args [.list .int]=true:=(pre_splitW RA).1
  have hc:l.pre.holds [] {args:=args}=true:=(pre_splitW RA).2
  obtain ⟨d,r,rfl,h1,h2⟩:=hasAllW_cons hsh
  obtain rfl:=hasAllW_nil h2
  obtain ⟨xs,rfl,h3⟩:=hasW_list h1
  obtain ⟨ns,rfl⟩:=items_int h3
  have hlen:ns.length≤n:=by
    unfold OpenLaw.pre at hc
    have h4:(WTm.not (.lt (.lit (.int (n:Int))) (.len (.arg 0)))).holds [] {args:=[.list (ns.map .int)]}=true:=by
      have h4:=(holds_andW hc).1
      rw [hn] at h4
      exact h4
    have h5:=condW_of h4 (w_not (w_lt w_lit (w_len_list (w_arg rfl))))
    rw [List.length_map] at h5
    refine Nat.le_of_not_lt fun q=>?_
    have q':(n:Int)<((ns.length:Nat):Int):=by omega
    first
      | (rw [decide_eq_true q'] at h5;exact absurd h5 (by decide))
      | (simp at h5;omega)
  cases hwl with
  | cons w1 w2 =>
    cases w2
    cases w1 with
    | list ho Bn=>exact ⟨_,_,ns,rfl,rfl,ho,Ai ns _ Bn,hlen⟩
theorem KL (l:OpenLaw) (args:List WData):l.row.toRowW.claim.post args (.bool true) args=true :=
  postW_of (r:=l.row.toRowW) (X:=(true == true))
    (show WShape.has [] (.bool true) .bool=true by first|rfl|decide|simp [WShape.has,WShape.arms,WShape.armsAll])
    (show (WTm.eq .res (.lit (.bool true))).value [] {args:=args,res:=some (.bool true),after:=args}=some (.bool (true == true)) from w_eq_bool (w_res rfl) w_lit) rfl
theorem FR {l:OpenLaw} {n:Nat} {q:Program} {loose:List Str} {XP:(Str→Option Value)→Heap→Prop} {YP:World→Heap→Prop} {d:DefRec}
    (hn:l.most=some n) (hdf:d.params.defaults=[])
    (call:∀ (w:World) (s₀ s₁:Shared) (mg mb:Str→Option Value) (fa:Addr) (o:Obj) (pm cd doc:Value) (a:Addr) (vs:List Value) (ns:List Int),
      Ground q loose [] XP w s₀ mg mb s₁.heap→YP w s₁.heap →
      s₁.heap.get? fa=some o→o.data=.func (docDef d.name d.params d.body d.scope pm cd doc)→s₁.heap.CodeRec cd d.name→mg d.name=some (.ref fa) →
      s₁.heap.get? a=some {cls:=.type "list",data:=.seq vs.toArray}→IntsAre vs ns→ns.length≤n→s₁.gens=#[] →
      codeAny (model l.prog w) callerA (.call (.ref fa) ⟨[.ref a],[]⟩) (fun r s'=>r=.ok (.ret (.bool true))∧OldK s₁.heap s'.heap∧s'.os=s₁.os∧AllBare s'.gens) s₁) :
    WalkO q loose XP YP l.row.toRowW d [] (fun f vs=>PySem.call f vs):=by
  intro w s₀ s₁ mg mb G Y fa o pm cd doc dV kV ho hd hcd hD hmg hg args vals as RA hlay hrd hwl hlo
  obtain rfl:dV=.none:=Dflts.none hD hdf
  obtain rfl:kV=.none:=Dflts.noKw hD
  obtain ⟨a,vs,ns,rfl,rfl,WX,hints,hlen⟩:=KJ hn RA hwl
  refine enter_call (codeAny_mono (call w s₀ s₁ mg mb fa o pm cd doc a vs ns G Y ho (fd_plain hd) hcd hmg WX hints hlen hg) fun r s' hq=>?_)
  obtain ⟨rfl,h2,h3,h4⟩:=hq
  exact ⟨.inl ⟨.bool true,.bool true,[],rfl,fun _=>rfl,.bool true,KL l _,fun _=>⟨List.Pairwise.nil,fun _ hm=>(nomatch hm)⟩⟩,h2,h3,h4⟩
section
variable {prog:Program} {w:World} {A:Around} {E:Value→Shared→Prop} {s:Shared} {K:Frag}
end
end Att
namespace L2
open PySem PySem.Spec PyProof.Rows
theorem rX:∀ {vs:List Value} {ns:List Int},IntsAre vs ns→Vals (ns.map V.int) vs
  | _,_,.nil=>.nil
  | _,_,.cons n t h=>.cons ⟨t,rfl⟩ (rX h)
def WY (H:Hp):Prop:=∀ b,H b=none∨∃ o xs,H b=some (.frz o (.lst xs))
theorem LZ {P:Program} {w:World} {K:W.Frag} {mg mb:Str→Option Value} {CX:CXT} {k:Nat} {fa a:Addr} {fd:FuncData} {x:Str} {sp:Sp} {s₁:Shared} {vs:List Value} {ns:List Int}
    (KX:K.In s₁.heap) (hns:s₁.heap.Ns mainGlobals mg) (hb:s₁.heap.Ns builtinsNs mb) (hbb:∀ x:Str,x ≠ "__name__" → mb x=bootBuiltins x) (aad:s₁.heap.NoLimit) (hg:s₁.gens=#[])
    (ha:s₁.heap.get? a=some {cls:=.type "list",data:=.seq vs.toArray}) (hi:IntsAre vs ns) (hl:ns.length≤sizeLine) (hr:kR k callerA)
    (F:∀ base:Heap,K.In base→base.Ns mainGlobals mg→xI P w K mg base CX k fa fd [x] sp) (YF:∀ (s:Shared) (u:Value),BindsTo s fd ⟨[u],[]⟩ [(x,u)])
    (hsp:∀ H:Hp,WY H→SqL K H a (ns.map V.int)→sp [.ref a] H (fun v _=>v=.bl true) fun _ _ _=>False)
    (hCX:∀ H e s',CX [] H s₁ (fun _ _ _=>False) e s'→False) :
    codeAny (model P w) callerA (.call (.ref fa) ⟨[.ref a],[]⟩) (fun r s'=>r=.ok (.ret (.bool true))∧OldK s₁.heap s'.heap∧s'.os=s₁.os∧AllBare s'.gens) s₁:=by
  have rv:=rX hi
  have aae:=hi.length
  have core:∀ H:Hp,WY H→SqL K H a (ns.map V.int)→HOk P w H s₁.heap→(∀ b,H b≠none→b=a)→(H a≠none→K.lookup a=none) →
      codeAny (model P w) callerA (.call (.ref fa) ⟨[.ref a],[]⟩) (fun r s'=>r=.ok (.ret (.bool true))∧OldK s₁.heap s'.heap∧s'.os=s₁.os∧AllBare s'.gens) s₁:=by
    intro H hO hS hok hA hK
    have JK:∀ {b:Addr} {o:Obj},s₁.heap.get? b=some o→H b=none→(HX s₁.heap H).get? b=some o:=fun e n=>LR e n
    have noA:∀ {b:Addr} {o:Obj} {es:Array DictEntry} {ep:Nat},s₁.heap.get? b=some o→o.data=.dict es ep→H b=none:=fun {b o es ep} e d=>by
      cases q:H b with
      | none=>rfl
      | some u =>
        have e':b=a:=hA b (by rw [q];simp)
        subst e'
        rw [ha] at e;cases e
        have d':Data.seq vs.toArray _=Data.dict es ep:=d
        cases d'
    have nsK:∀ {b:Addr} {m:Str→Option Value},s₁.heap.Ns b m→(HX s₁.heap H).Ns b m:=fun {b m} ⟨o,es,ep,e,d,r⟩=>⟨o,es,ep,JK e (noA e d),d,r⟩
    have hKb:K.In (HX s₁.heap H):=fun b o e=>JK (KX b o e) (by
      cases q:H b with
      | none=>rfl
      | some u =>
        have e':b=a:=hA b (by rw [q];simp)
        subst e'
        rw [hK (by rw [q];simp)] at e;cases e)
    have hM:Mod K mg (HX s₁.heap H):=⟨hKb,nsK hns,⟨mb,nsK hb,hbb⟩,let ⟨mc,h1,h2⟩:=aad;⟨mc,nsK h1,h2⟩⟩
    have e0:Ih P w K mg (HX s₁.heap H) callerA [] s₁ H:=⟨rfl,hM,fun b o e=>NN e,Nat.le_of_eq (Kx _ _),trivial,fun b hb=>absurd (show b∈([]:List Addr) from hb) (by simp),hok,.of_eq hg⟩
    refine codeAny_mono ((F _ hKb (nsK hns)).run callerA [] s₁ H ⟨[.ref a],[]⟩ [.ref a] [.ref a] _ _ hr e0 (YF s₁ (.ref a)) (.cons rfl .nil) (hsp H hO hS)) fun r s' h=>?_
    cases r with
    | error e=>exact (hCX H e s' h).elim
    | ok fl =>
      cases fl with
      | next=>exact False.elim h
      | brk=>exact False.elim h
      | cont=>exact False.elim h
      | ret u =>
        obtain ⟨v,H',os,bare,un,aaf,r',q⟩:=h
        have q':v=.bl true:=q
        subst q'
        obtain rfl:u=Value.bool true:=r'
        refine ⟨rfl,OldK.of_keep fun b o e=>?_,os,bare⟩
        cases q:H b with
        | none=>exact un.keep b o e q (by intro z;exact absurd (show b∈([]:List Addr) from z) (by simp)) (by simp)
        | some u =>
          rcases hO b with z|⟨ob,xs,z⟩
          · rw [q] at z;cases z
          · have z2:=un.Bl b ob _ z
            obtain ⟨e1,_⟩:=hok b _ z
            obtain ⟨e2,_⟩:=aaf b _ z2
            rw [e] at e1;cases e1
            exact e2
  cases hk:K.lookup a with
  | some o =>
    have e:=KX a o hk
    rw [ha] at e
    cases e
    refine core (fun _=>none) (fun _=>.inl rfl) (.inr ⟨_,vs.toArray,_,hk,rfl,rfl,rfl,by rw [List.size_toArray,aae];exact hl,by simpa using rv⟩) (fun b u z=>by have z':(none:Option HO)=some u:=z;cases z') (fun b z=>absurd rfl z) fun z=>absurd rfl z
  | none =>
    refine core (fun b=>if b=a then some (.frz {cls:=.type "list",data:=.seq vs.toArray} (.lst (ns.map V.int))) else none) (fun b=>?_) (.inl (.inr ⟨{cls:=.type "list",data:=.seq vs.toArray},if_pos rfl⟩)) (fun b u z=>?_) (fun b z=>?_) fun _=>hk
    · by_cases hb:b=a
      · exact .inr ⟨_,_,if_pos hb⟩
      · exact .inl (if_neg hb)
    · by_cases hb:b=a
      · have z':=(if_pos hb).symm.trans z
        cases z'
        subst hb
        exact ⟨ha,by rw [List.length_map];exact hl,vs,_,rv,ha⟩
      · have z':=(if_neg hb).symm.trans z
        cases z'
    · by_cases hb:b=a
      · exact hb
      · exact absurd (if_neg hb) z
end L2
namespace L2
open PySem PySem.Spec PyProof.Rows
theorem NZ {l:PySem.W.OpenLaw} {n k:Nat} {q:Program} {loose:List Str} {XP:(Str→Option Value)→Heap→Prop} {YP:World→Heap→Prop} {d:DefRec} {K:Params→W.Frag} {CX:World→CXT} {sp:World→Sp} {x:Str}
    (hn:l.most=some n) (hn2:n≤sizeLine) (hdf:d.params.defaults=[]) (hr:kR k callerA)
    (hY:∀ (w:World) (h:Heap),YP w h→(K w.params).In h)
    (F:∀ (w:World) (mg:Str→Option Value) (fa:Addr) (h:Heap),(K w.params).In h→h.Ns mainGlobals mg→mg d.name=some (.ref fa) →
      ∃ fd:FuncData,(∀ (s:Shared) (u:Value),BindsTo s fd ⟨[u],[]⟩ [(x,u)]) ∧
        ∀ base:Heap,(K w.params).In base→base.Ns mainGlobals mg→xI l.prog w (K w.params) mg base (CX w) k fa fd [x] (sp w))
    (hsp:∀ (w:World) (H:Hp) (a:Addr) (ns:List Int),ns.length≤n→WY H→SqL (K w.params) H a (ns.map V.int)→sp w [.ref a] H (fun v _=>v=.bl true) fun _ _ _=>False)
    (hCX:∀ (w:World) (H:Hp) (s:Shared) (e:Value) (s':Shared),CX w [] H s (fun _ _ _=>False) e s'→False) :
    PySem.W.WalkO q loose XP YP l.row.toRowW d [] (fun f vs=>PySem.call f vs):=by
  refine Att.FR hn hdf fun w s₀ s₁ mg mb fa o pm cd doc a vs ns G Y ho hd hcd hmg WX hints hlen hg=>?_
  have KX:=hY w _ Y
  obtain ⟨fd,hb,hF⟩:=F w mg fa _ KX G.T.g hmg
  exact LZ KX G.T.g G.T.b G.T.builtins G.T.nolimit hg WX hints (Nat.le_trans hlen hn2) hr hF hb (fun H hO hS=>hsp w H a ns hlen hO hS) fun H e s'=>hCX w H s₁ e s'
end L2
namespace L2
open PySem PySem.Spec PyProof.Rows
def inClass (s:Stmt) (j:Nat):Stmt:=match s with
  | .ClassDef _ _ _ body _ _ _ _ _ _ _=>body.getD j (.Pass ⟨0,0,0,0⟩)
  | _=>.Pass ⟨0,0,0,0⟩
def qe (s:Stmt):Arguments:=match s with
  | .FunctionDef _ a _ _ _ _ _ _ _ _=>a
  | _=>{posonlyargs:=[],args:=[],vararg:=none,kwonlyargs:=[],kw_defaults:=[],kwarg:=none,defaults:=[]}
def bF (s:Stmt):List Stmt:=match s with
  | .FunctionDef _ _ b _ _ _ _ _ _ _=>b
  | _=>[]
def au (s:Stmt):Scope:=match s with
  | .FunctionDef _ _ _ _ _ _ sc _ _ _=>sc
  | _=>{kind:=.function,names:=[],isGenerator:=false,isCoroutine:=false}
structure Fun (K:W.Frag) (x qual:Str) (st:Stmt) (f:Addr) (fd:FuncData):Prop where
  ex:∃ (oc:Value) (od:Option Addr) (kV doc pm:Value) (an:Option Addr) (cdv ct:Value) (osl:Array (Option Value)),
    fd=PySem.W.fnOf x qual (qe st) (bF st) (au st) .none kV doc pm an cdv ct∧K.lookup f=some ⟨oc,od,.func fd,osl⟩∧PySem.W.codeIn K cdv qual=true
  kp:PySem.W.keepIn K (.ref f)=true
section
variable {P:Program} {w:World} {K:W.Frag} {mg:Str→Option Value} {base:Heap}
theorem Fun.binds {x qual:Str} {st:Stmt} {f:Addr} {fd:FuncData} {ps:List Str} (F:Fun K x qual st f fd)
    (h:∀ (kV doc pm:Value) (an:Option Addr) (cdv ct:Value) (us:List Value),us.length=ps.length→bindArgs (PySem.W.fnOf x qual (qe st) (bF st) (au st) .none kV doc pm an cdv ct) ⟨us,[]⟩=pure (ps.zip us)):Binds K fd ps []:=by
  obtain ⟨oc,od,kV,doc,pm,an,cdv,ct,osl,rfl,lk,hcd⟩:=F.ex
  exact .all (h kV doc pm an cdv ct)
theorem Wh {x qual:Str} {st:Stmt} {f:Addr} {oc:Value} {od an:Option Addr} {osl:Array (Option Value)} {kV doc pm cdv ct:Value} (l:K.lookup f=some ⟨oc,od,.func (PySem.W.fnOf x qual (qe st) (bF st) (au st) .none kV doc pm an cdv ct),osl⟩)
    (c:PySem.W.codeIn K cdv qual=true) (k:PySem.W.keepIn K (.ref f)=true):Fun K x qual st f (PySem.W.fnOf x qual (qe st) (bF st) (au st) .none kV doc pm an cdv ct):=⟨⟨oc,od,kV,doc,pm,an,cdv,ct,osl,rfl,l,c⟩,k⟩
end
theorem kT {A:Around} {k:Nat} (hr:kR k A):A.units+1<cLine:=Nat.lt_of_le_of_lt (Nat.add_le_add_left (by decide:1≤64) _) hr.units
section
variable {X:Cx}
theorem pv (i:Nat) {x:Str} {pos:Pos} (hN:X.N[i]?=some x:=by rfl) (hv:Vis X.env.scope x:=by first|exact Or.inl rfl|exact Or.inr (Or.inl rfl)|exact Or.inr (Or.inr rfl)) (hd:(x == ("__debug__" : Str))=false:=by decide)
    (hcd:(x == ("__classdict__" : Str))=false:=by decide):PE X (.Name x pos) (Rn i):=V4 hN hv hd hcd
end
theorem fY {A B:Prop} (h:B):if false=true then A else B:=by
  rw [if_neg Bool.false_ne_true]
  exact h
theorem om {A B:Prop} (h:A):if true=true then A else B:=by
  rw [if_pos rfl]
  exact h
theorem av {c A B:Prop} [Decidable c] (h1:c→A) (h2:¬c→B):if c then A else B:=by
  by_cases h:c
  · rw [if_pos h]
    exact h1 h
  · rw [if_neg h]
    exact h2 h
def aG (H H':Hp):Prop:=∀ b o,H b=some o→H' b=some o
theorem aG.trans {H H1 H2:Hp} (a:aG H H1) (b:aG H1 H2):aG H H2:=fun c o h=>b c o (a c o h)
theorem aG.seq {K:W.Frag} {H H':Hp} {a:Addr} {xs:List V} (e:aG H H') (h:SqL K H a xs):SqL K H' a xs:=by
  rcases h with (h|⟨o,h⟩)|h
  · exact .inl (.inl (e _ _ h))
  · exact .inl (.inr ⟨o,e _ _ h⟩)
  · exact .inr h
end L2
end
section
namespace L2
open PySem PySem.Spec PyProof.Rows
section
variable {κ:Type} [DecidableEq κ]
def j6 (kvs:List (κ×V)) (k:κ):Option V:=(kvs.find? fun kv=>decide (kv.1=k)).map (·.2)
def putK (kvs:List (κ×V)) (k:κ) (v:V):List (κ×V) :=
  if (kvs.any fun kv=>decide (kv.1=k))=true then kvs.map (fun kv=>if kv.1=k then (kv.1,v) else kv) else kvs++[(k,v)]
def qj (kvs:List (κ×V)) (k:κ):List (κ×V):=kvs.filter fun kv=>decide (kv.1≠k)
theorem mx {p:κ×V} {r:List (κ×V)} {k:κ} (e:p.1=k):j6 (p::r) k=some p.2:=by simp [j6,List.find?_cons,e]
theorem mz {p:κ×V} {r:List (κ×V)} {k:κ} (e:¬p.1=k):j6 (p::r) k=j6 r k:=by simp [j6,List.find?_cons,e]
theorem xt (k:κ):∀ kvs:List (κ×V),(kvs.any fun kv=>decide (kv.1=k))=(j6 kvs k).isSome
  | []=>rfl
  | p::r=>by
    rw [List.any_cons]
    by_cases e:p.1=k
    · simp only [mx e,decide_eq_true e,Bool.true_or,Option.isSome_some]
    · rw [mz e,decide_eq_false e,Bool.false_or];exact xt k r
theorem zU (kvs:List (κ×V)) (k:κ) (v:V):(putK kvs k v).length≤kvs.length+1:=by
  unfold putK
  split
  · rw [List.length_map];omega
  · rw [List.length_append,List.length_cons,List.length_nil];omega
theorem xu {kvs:List (κ×V)} {k:κ} (v:V) (h:j6 kvs k=none):putK kvs k v=kvs++[(k,v)]:=by
  unfold putK
  rw [xt,h]
  exact if_neg (by decide)
theorem xD.lW {o:Option V} {u:Option Value} (r:xD o u):o.isSome=u.isSome:=by
  cases o with
  | none=>cases u with
    | none=>rfl
    | some _=>exact (show False from r).elim
  | some _=>cases u with
    | none=>exact (show False from r).elim
    | some _=>rfl
theorem KV.val {kvs:List (κ×V)} {vs:List (κ×Value)} (r:KV kvs vs) (k:κ):xD (j6 kvs k) (valueAt vs k):=by
  unfold KV at r
  induction r with
  | nil=>exact True.intro
  | @cons p q ps qs h t ih =>
    obtain ⟨h1,h2⟩:=h
    by_cases e:p.1=k
    · have e':q.1=k:=h1.symm.trans e
      have b:valueAt (q::qs) k=some q.2:=by simp [valueAt,List.find?_cons,e']
      rw [mx e,b];exact h2
    · have e':¬q.1=k:=fun z=>e (h1.trans z)
      have b:valueAt (q::qs) k=valueAt qs k:=by simp [valueAt,List.find?_cons,e']
      rw [mz e,b];exact ih
theorem KV.any {kvs:List (κ×V)} {vs:List (κ×Value)} (r:KV kvs vs) (k:κ):(kvs.any fun kv=>decide (kv.1=k))=vs.any fun kv=>decide (kv.1=k):=by
  unfold KV at r
  induction r with
  | nil=>rfl
  | cons h t ih=>rw [List.any_cons,List.any_cons,ih,h.1]
theorem KV.WZ {kvs:List (κ×V)} {vs:List (κ×Value)} (r:KV kvs vs) (k:κ) {y:V} {u:Value} (ry:RelV y u) :
    KV (kvs.map fun kv=>if kv.1=k then (kv.1,y) else kv) (vs.map fun kv=>if kv.1=k then (kv.1,u) else kv):=by
  unfold KV at r ⊢
  induction r with
  | nil=>exact .nil
  | @cons p q ps qs h t ih =>
    rw [List.map_cons,List.map_cons]
    refine .cons ?_ ih
    obtain ⟨h1,h2⟩:=h
    by_cases e:p.1=k
    · rw [if_pos e,if_pos (h1.symm.trans e)];exact ⟨h1,ry⟩
    · rw [if_neg e,if_neg (fun z=>e (h1.trans z))];exact ⟨h1,h2⟩
theorem KV.put {kvs:List (κ×V)} {vs:List (κ×Value)} (r:KV kvs vs) (k:κ) {y:V} {u:Value} (ry:RelV y u):KV (putK kvs k y) (stored vs k u):=by
  unfold putK stored
  rw [r.any k]
  by_cases e:(vs.any fun kv=>decide (kv.1=k))=true
  · rw [if_pos e,if_pos e];exact r.WZ k ry
  · rw [if_neg e,if_neg e];exact Paired.snoc r ⟨rfl,ry⟩
theorem KV.drop {kvs:List (κ×V)} {vs:List (κ×Value)} (r:KV kvs vs) (k:κ):KV (qj kvs k) (without vs k):=by
  unfold KV at r ⊢
  unfold qj without
  induction r with
  | nil=>exact .nil
  | @cons p q ps qs h t ih =>
    obtain ⟨h1,h2⟩:=h
    rw [List.filter_cons,List.filter_cons]
    by_cases e:p.1=k
    · have a:¬decide (p.1≠k)=true:=by simp [e]
      have b:¬decide (q.1≠k)=true:=by simp [h1.symm.trans e]
      rw [if_neg a,if_neg b];exact ih
    · have e':¬q.1=k:=fun z=>e (h1.trans z)
      have a:decide (p.1≠k)=true:=by simp [e]
      have b:decide (q.1≠k)=true:=by simp [e']
      rw [if_pos a,if_pos b];exact .cons ⟨h1,h2⟩ ih
theorem KV.keys {kvs:List (κ×V)} {vs:List (κ×Value)} (r:KV kvs vs):kvs.map (·.1)=vs.map (·.1):=by
  unfold KV at r
  induction r with
  | nil=>rfl
  | cons h t ih=>rw [List.map_cons,List.map_cons,ih,h.1]
theorem KV.length {kvs:List (κ×V)} {vs:List (κ×Value)} (r:KV kvs vs):kvs.length=vs.length:=Paired.length r
theorem L0 (kvs:List (κ×V)) (k:κ):(qj kvs k).length≤kvs.length:=List.length_filter_le _ _
end
theorem DG {P:Program} {w:World} {k:Key} {u:Value} (r:RelV (kV k) u):(di P w).is k u=true:=by
  cases k with
  | inl i=>obtain ⟨t,e⟩:=(show ∃ t,u=Value.int i t from r);subst e;exact FO P w i t
  | inr x=>obtain ⟨t,e⟩:=(show ∃ t,u=Value.str x t from r);subst e;exact FP P w x t
theorem DR {P:Program} {w:World}:∀ {ks:List Key} {us:List Value},Vals (ks.map kV) us→ItemsAre (di P w) ks us
  | [],_,r=>by rw [List.map_nil] at r;cases r;exact .nil
  | k::ks,_,r=>by
    rw [List.map_cons] at r
    cases r with
    | cons h t=>exact .cons (DG h) (DR t)
abbrev KT (H:Hp):List (List Key×V)→List (List Key×Addr×Value)→Prop:=Paired fun p q=>p.1=q.1∧H q.2.1=some (.tup (p.1.map kV))∧RelV p.2 q.2.2
theorem KT.val {H:Hp} {kvs:List (List Key×V)} {xs:List (List Key×Addr×Value)} (r:KT H kvs xs) (k:List Key):xD (j6 kvs k) ((atKey xs k).map (·.2)):=by
  induction r with
  | nil=>exact True.intro
  | @cons p q ps qs h t ih =>
    obtain ⟨h1,_,h2⟩:=h
    by_cases e:p.1=k
    · have e':q.1=k:=h1.symm.trans e
      have b:atKey (q::qs) k=some q.2:=by simp [atKey,List.find?_cons,e']
      rw [mx e,b];exact h2
    · have e':¬q.1=k:=fun z=>e (h1.trans z)
      have b:atKey (q::qs) k=atKey qs k:=by simp [atKey,List.find?_cons,e']
      rw [mz e,b];exact ih
theorem KT.WZ {H:Hp} {kvs:List (List Key×V)} {xs:List (List Key×Addr×Value)} (r:KT H kvs xs) (k:List Key) {y:V} {u:Value} (ry:RelV y u) :
    KT H (kvs.map fun kv=>if kv.1=k then (kv.1,y) else kv) (xs.map (putAt k u)):=by
  induction r with
  | nil=>exact .nil
  | @cons p q ps qs h t ih =>
    rw [List.map_cons,List.map_cons]
    refine .cons ?_ ih
    obtain ⟨h1,h2,h3⟩:=h
    unfold putAt
    by_cases e:p.1=k
    · rw [if_pos e,if_pos (h1.symm.trans e)];exact ⟨h1,h2,ry⟩
    · rw [if_neg e,if_neg (fun z=>e (h1.trans z))];exact ⟨h1,h2,h3⟩
theorem KT.put {H:Hp} {kvs:List (List Key×V)} {xs:List (List Key×Addr×Value)} (r:KT H kvs xs) (k:List Key) {b:Addr} {y:V} {u:Value} (hb:H b=some (.tup (k.map kV))) (ry:RelV y u) :
    KT H (putK kvs k y) (storedH xs k b u):=by
  have e:(kvs.any fun kv=>decide (kv.1=k))=(atKey xs k).isSome:=by
    rw [xt,(r.val k).lW,Option.isSome_map]
  unfold putK storedH
  rw [e]
  by_cases q:(atKey xs k).isSome=true
  · rw [if_pos q,if_pos q];exact r.WZ k ry
  · rw [if_neg q,if_neg q];exact Paired.snoc r ⟨rfl,hb,ry⟩
theorem KT.keeps {H H':Hp} {kvs:List (List Key×V)} {xs:List (List Key×Addr×Value)} (r:KT H kvs xs) (ht:∀ b ys,H b=some (.tup ys)→H' b=some (.tup ys)):KT H' kvs xs :=
  Paired.WQ r fun _ _ z=>⟨z.1,ht _ _ z.2.1,z.2.2⟩
section
variable {P:Program} {w:World} {H:Hp} {h:Heap} {a:Addr}
theorem RB {u:HO} (ok:HOk P w H h) (e:Rd H a u):en P w H h a u:=e.ok ok
theorem Aj {kvs:List (Key×V)} (ok:HOk P w H h) (e:Rd H a (.dK kvs)):kvs.length≤sizeLine∧(a == sysModules)=false∧∃ vs,KV kvs vs∧h.DictOf (di P w) a vs :=
  show en P w H h a (.dK kvs) from RB ok e
theorem Nn {kvs:List (Key×V)} (ok:HOk P w H h) (e:H a=some (.dK kvs)):kvs.length≤sizeLine∧(a == sysModules)=false∧∃ vs,KV kvs vs∧h.DictOf (di P w) a vs:=Aj ok (.inl e)
theorem CT {ks:List Key} (ok:HOk P w H h) (e:H a=some (.tup (ks.map kV))):(tupleKind (di P w)).is h ks a:=by
  obtain ⟨_,its,r,o,h1,h2,n,h3⟩:=(show en P w H h a (.tup (ks.map kV)) from ok a _ e)
  exact ⟨o,its.toArray,n,h1,h2,h3,by simpa using DR r⟩
theorem FC {kvs:List (List Key×V)} (ok:HOk P w H h) (e:Rd H a (.dT kvs)):kvs.length≤sizeLine∧(a == sysModules)=false ∧
    ∃ xs,KT H kvs xs∧h.DictOfH (tupleKind (di P w)) a xs:=by
  obtain ⟨z,y,xs,r,o,es,ep,h1,h2,h3,h4,h5⟩:=(show en P w H h a (.dT kvs) from RB ok e)
  refine ⟨z,y,xs,r,o,es,ep,h1,h2,h3,h4,fun x hx=>?_,h5⟩
  have all:∀ {l:List (List Key×V)} {m:List (List Key×Addr×Value)},KT H l m→∀ x∈m,(tupleKind (di P w)).is h x.1 x.2.1:=by
    intro l m q
    induction q with
    | nil=>intro x hx;exact nomatch hx
    | @cons p q ps qs hq t ih =>
      intro x hx
      rcases List.mem_cons.mp hx with e|hx
      · subst e
        exact CT ok (by rw [←hq.1];exact hq.2.1)
      · exact ih x hx
  exact all r x hx
theorem YG {kvs:List (List Key×V)} (ok:HOk P w H h) (e:H a=some (.dT kvs)):kvs.length≤sizeLine∧(a == sysModules)=false ∧
    ∃ xs,KT H kvs xs∧h.DictOfH (tupleKind (di P w)) a xs:=FC ok (.inl e)
end
def rk (H:Hp) (a:Addr) (y:V) (r:Option V):Prop :=
  (∃ kvs k,Rd H a (.dK kvs)∧y=kV k∧r=j6 kvs k)∨∃ kvs k b,Rd H a (.dT kvs)∧y=.ref b∧H b=some (.tup (k.map kV))∧r=j6 kvs k
def DS (H:Hp) (a:Addr) (y v:V) (H':Hp):Prop :=
  (∃ kvs k,H a=some (.dK kvs)∧y=kV k∧kvs.length<sizeLine∧H'=upd H a (.dK (putK kvs k v))) ∨
  ∃ kvs k b,H a=some (.dT kvs)∧y=.ref b∧H b=some (.tup (k.map kV))∧kvs.length<sizeLine∧H'=upd H a (.dT (putK kvs k v))
theorem rk.k {H:Hp} {a:Addr} {kvs:List (Key×V)} {k:Key} (e:H a=some (.dK kvs)):rk H a (kV k) (j6 kvs k):=.inl ⟨kvs,k,.inl e,rfl,rfl⟩
theorem DS.k {H:Hp} {a:Addr} {kvs:List (Key×V)} {k:Key} {v:V} (e:H a=some (.dK kvs)) (hl:kvs.length<sizeLine):DS H a (kV k) v (upd H a (.dK (putK kvs k v))):=.inl ⟨kvs,k,e,rfl,hl,rfl⟩
section
variable {X:Cx} {pins:List (Addr×Obj)} {σ:St} {H:Hp} {s:Shared} {a:Addr} {y v:V} {u r:Value} {o:Option V} {A:Around} {E:Value→Shared→Prop}
theorem Inv.big (I:Inv X pins σ H s):sysModules<s.heap.objs.size:=by
  have h:mainGlobals<s.heap.objs.size:=(I.mod.glob.keeps I.bk).lt
  exact Nat.lt_trans (by decide) h
theorem KN {Q:Value→Shared→Prop} (hu:A.units+1<cLine) (I:Inv X pins σ H s) (g:rk H a y (some v)) (ry:RelV y u) (h:∀ w' s',Inv X pins σ H s'→RelV v w'→Q w' s') :
    wpAny (model X.prog X.w) A (getItem (.ref a) u) Q E s:=by
  rcases g with ⟨kvs,k,e,ey,l⟩|⟨kvs,k,b,e,ey,eb,l⟩
  · subst ey
    obtain ⟨z,hd,vs,rel,dd⟩:=Aj I.hok e
    obtain ⟨w',hw,rw'⟩:=xD.some_of (v:=v) (o:=valueAt vs k) (by rw [l];exact rel.val k)
    exact wpAny_getItem_of (DG ry) dd.mapOf hw (h w' _ (I.tok _) rw')
  · subst ey
    cases (show u=Value.ref b from ry)
    obtain ⟨z,hd,xs,rel,dd⟩:=FC I.hok e
    obtain ⟨w',hw,rw'⟩:=xD.some_of (v:=v) (o:=(atKey xs k).map (·.2)) (by rw [l];exact rel.val k)
    obtain ⟨p,hp,hp2⟩:=Option.map_eq_some_iff.mp hw
    refine wpAny_getItem_heap (tupleKind_room_in1 hu) (CT I.hok eb) dd hp ?_
    rw [hp2]
    exact h w' _ (I.tok _) rw'
theorem aag {Q:Value→Shared→Prop} (hu:A.units+1<cLine) (I:Inv X pins σ H s) (g:rk H a y o) (ry:RelV y u) (h:∀ s',Inv X pins σ H s'→Q (.bool o.isSome) s') :
    wpAny (model X.prog X.w) A (compareOp .In u (.ref a)) Q E s:=by
  rcases g with ⟨kvs,k,e,ey,l⟩|⟨kvs,k,b,e,ey,eb,l⟩
  · subst ey
    obtain ⟨z,hd,vs,rel,dd⟩:=Aj I.hok e
    refine wpAny_in_of (DG ry) hd dd.mapOf ?_
    rw [←(rel.val k).lW,←l]
    exact h _ (I.tok _)
  · subst ey
    cases (show u=Value.ref b from ry)
    obtain ⟨z,hd,xs,rel,dd⟩:=FC I.hok e
    refine wpAny_in_heap (tupleKind_room_in1 hu) (CT I.hok eb) hd dd ?_
    have q:=(rel.val k).lW
    rw [Option.isSome_map] at q
    rw [←q,←l]
    exact h _ (I.tok _)
theorem N4 {Q:Value→Shared→Prop} (hu:A.units+1<cLine) (I:Inv X pins σ H s) (g:rk H a y o) (ry:RelV y u) (h:∀ s',Inv X pins σ H s'→Q (.bool (!o.isSome)) s') :
    wpAny (model X.prog X.w) A (compareOp .NotIn u (.ref a)) Q E s:=by
  rcases g with ⟨kvs,k,e,ey,l⟩|⟨kvs,k,b,e,ey,eb,l⟩
  · subst ey
    obtain ⟨z,hd,vs,rel,dd⟩:=Aj I.hok e
    refine wpAny_notIn_of (DG ry) hd dd.mapOf ?_
    rw [←(rel.val k).lW,←l]
    exact h _ (I.tok _)
  · subst ey
    cases (show u=Value.ref b from ry)
    obtain ⟨z,hd,xs,rel,dd⟩:=FC I.hok e
    refine wpAny_notIn_heap (tupleKind_room_in1 hu) (CT I.hok eb) hd dd ?_
    have q:=(rel.val k).lW
    rw [Option.isSome_map] at q
    rw [←q,←l]
    exact h _ (I.tok _)
theorem Fw {h':Heap} {t':Nat} {ob:HO} (I:Inv X pins σ H s) (mu:Mut (H a)) (hs:Heap.SameBut a s.heap h') (he:∃ q,h'.get? a=some q) (new:en X.prog X.w (upd H a ob) h' a ob) :
    Inv X pins σ (upd H a ob) {s with heap:=h',toks:=t'} :=
  I.write (x:=a) (e:=a) mu (.inl rfl) (fun b q hb z=>(hs.2 b hb).trans z) he new
theorem MC {P:Program} {w:World} {H':Hp} {h':Heap} {kvs:List (Key×V)} {vs:List (Key×Value)} (z:kvs.length≤sizeLine) (hd:(a == sysModules)=false) (rel:KV kvs vs) (dd:h'.DictOf (di P w) a vs) :
    en P w H' h' a (.dK kvs):=⟨z,hd,vs,rel,dd⟩
theorem KO {H':Hp} {Q:Unit→Shared→Prop} (hu:A.units+1<cLine) (I:Inv X pins σ H s) (g:DS H a y v H') (ry:RelV y u) (rv:RelV v r) (h:∀ s',Inv X pins σ H' s'→Q () s') :
    wpAny (model X.prog X.w) A (setItem (.ref a) u r) Q E s:=by
  rcases g with ⟨kvs,k,e,ey,l,eH⟩|⟨kvs,k,b,e,ey,eb,l,eH⟩
  · subst ey eH
    obtain ⟨z,hd,vs,rel,dd⟩:=Nn I.hok e
    have hz:vs.length≤sizeLine:=by rw [←rel.length];exact z
    have hl:(putK kvs k v).length≤sizeLine:=by have:=zU kvs k v;omega
    refine wpAny_setItem_pairs (hsz:=hz) (DG ry) dd fun h' dd' hs=>h _ ?_
    have he:∃ q,h'.get? a=some q:=let ⟨q,_,_,hq,_⟩:=dd';⟨q,hq⟩
    exact Fw I (by rw [e];exact True.intro) hs he (MC hl hd (rel.put k rv) dd')
  · subst ey eH
    cases (show u=Value.ref b from ry)
    obtain ⟨z,hd,xs,rel,dd⟩:=YG I.hok e
    have hz:xs.length≤sizeLine:=by rw [←Paired.length rel];exact z
    have hl:(putK kvs k v).length≤sizeLine:=by have:=zU kvs k v;omega
    refine wpAny_setItem_heap (hsz:=hz) (tupleKind_room_in1 hu) (CT I.hok eb) dd fun h' dd' hs=>h _ ?_
    obtain ⟨q,es,ep,hq,h2,h3,h4,_,h5⟩:=dd'
    refine Fw I (by rw [e];exact True.intro) hs ⟨q,hq⟩ ⟨hl,hd,_,(rel.put k eb rv).keeps fun c ys ec=>?_,q,es,ep,hq,h2,h3,h4,h5⟩
    rw [ae (aw ec e (fun z=>nomatch z))]
    exact ec
end
section
variable {X:Cx} {pins:List (Addr×Obj)} {σ:St} {H:Hp} {s:Shared} {a:Addr} {kvs:List (Key×V)} {k:Key} {u:Value} {A:Around} {E:Value→Shared→Prop}
theorem YH {v:V} {more:List Value} {Q:Value→Shared→Prop} (I:Inv X pins σ H s) (e:H a=some (.dK kvs)) (ry:RelV (kV k) u) (l:j6 kvs k=some v) (hm:more=[]∨∃ x,more=[x])
    (h:∀ w' s',Inv X pins σ (upd H a (.dK (qj kvs k))) s'→RelV v w'→Q w' s'):wpAny (model X.prog X.w) A (call (.builtin "dict.pop") (.ref a::u::more)) Q E s:=by
  obtain ⟨z,hd,vs,rel,dd⟩:=Nn I.hok e
  obtain ⟨w',hw,rw'⟩:=xD.some_of (v:=v) (o:=valueAt vs k) (by rw [←l];exact rel.val k)
  have hp:(keyPart u).isSome=true:=by
    cases k with
    | inl i=>obtain ⟨t,q⟩:=(show ∃ t,u=Value.int i t from ry);subst q;rfl
    | inr x=>obtain ⟨t,q⟩:=(show ∃ t,u=Value.str x t from ry);subst q;rfl
  have ha:argsOk "dict.pop" ⟨.ref a::u::more,[]⟩:=by
    rcases hm with q|⟨x,q⟩
    · subst q;exact PySem.F.args_dict_pop_2 _ _
    · subst q;exact PySem.F.args_dict_pop_3 _ _ _
  refine call_meetsIn PySem.F.slot_dict_pop dd.typeIs PySem.F.entry_dict_pop ha (meets_dict_pop_there (di X.prog X.w) a (DG ry) more hm hp)
    ⟨vs,w',dd,by rw [←rel.length];exact z,hw,fun h' dd' hs=>h w' _ ?_ rw'⟩
  have he:∃ q,h'.get? a=some q:=let ⟨q,_,_,hq,_⟩:=dd';⟨q,hq⟩
  exact Fw I (by rw [e];exact True.intro) hs he (MC (Nat.le_trans (L0 kvs k) z) hd (rel.drop k) dd')
theorem YI {Q:Value→Shared→Prop} (I:Inv X pins σ H s) (e:Rd H a (.dK kvs)) (h:∀ t s',Inv X pins σ H s'→Q (.int kvs.length t) s'):wpAny (model X.prog X.w) A (call (.builtin "len") [.ref a]) Q E s:=by
  obtain ⟨z,hd,vs,rel,dd⟩:=Aj I.hok e
  refine call_len_dict hd dd (by rw [←rel.length];rw [sizeLine_eq] at z;omega) ?_
  rw [←rel.length]
  exact h _ _ (I.tok _)
end
def Zs (i:Expr):Prop:=∀ ov iv,subscripted i false ov iv=operate [ov,iv] (getItem ov iv)
theorem N5 {prog:Program} {w:World} {A:Around} {E:Value→Shared→Prop} {s:Shared} {env:Env} {value slice:Expr} {pos:Pos} {T id:String} {Q:Value→Shared→Prop}
    (hl:typeLookup (.type T) "__getitem__" = pure (some (.builtin id))) (hs:Zs slice)
    (h:wpAny (model prog w) A (eval value env) (fun o s₁=>wpAny (model prog w) A (eval slice env) (fun i s₂=>s₂.TypeIs o T∧wpAny (model prog w) A (getItem o i) Q E s₂) E s₁) E s) :
    wpAny (model prog w) A (eval (.Subscript value slice pos) env) Q E s:=by
  refine Subscript_ (wpAny_mono h (fun o s₁ h₁=>wpAny_mono h₁ (fun i s₂ h₂=>?_) fun _ _ x=>x) fun _ _ x=>x)
  obtain ⟨hT,h₂⟩:=h₂
  unfold subscriptTail
  refine wpAny_bind ?_
  rw [getitemInPython_of_ne hT.not_modules]
  refine wpAny_bind (wpAny_specialOf hT hl ?_)
  have fin:wpAny (model prog w) A (subscripted slice false o i) (fun r s₃=>wpAny (model prog w) A (letTemporaryGo value o r >>= fun _=>pure r) Q E s₃) E s₂:=by
    rw [hs o i]
    exact wpAny_operating (wpAny_mono h₂ (fun r s₃ h₃=>wpAny_bind (wpAny_letTemporaryGo (wpAny_pure h₃))) fun _ _ x=>x)
  first
    | exact wpAny_pure (wpAny_bind fin)
    | exact wpAny_bind (wpAny_pure (wpAny_bind fin))
    | exact wpAny_bind fin
theorem FT {X:Cx} {pins:List (Addr×Obj)} {σ:St} {H:Hp} {s:Shared} {a:Addr} {y:V} {o:Option V} (I:Inv X pins σ H s) (g:rk H a y o):s.TypeIs (.ref a) "dict" := by
  rcases g with ⟨kvs,k,e,_,_⟩|⟨kvs,k,b,e,_,_,_⟩
  · obtain ⟨_,_,vs,_,dd⟩:=Aj I.hok e
    exact dd.typeIs
  · obtain ⟨_,_,xs,_,dd⟩:=FC I.hok e
    exact dd.typeIs
def YJ (td ty:TE):TE:=fun σ H Q=>td σ H fun x H1=>ty σ H1 fun y H2=>∃ a v,x=.ref a∧rk H2 a y (some v)∧Q v H2
def aah (ty td:TE):TE:=fun σ H Q=>ty σ H fun y H1=>td σ H1 fun x H2=>∃ a o,x=.ref a∧rk H2 a y o∧Q (.bl o.isSome) H2
def N6 (ty td:TE):TE:=fun σ H Q=>ty σ H fun y H1=>td σ H1 fun x H2=>∃ a o,x=.ref a∧rk H2 a y o∧Q (.bl (!o.isSome)) H2
def YK (td ty tv:TE):TS:=fun D σ H=>tv σ H fun v H1=>td σ H1 fun x H2=>ty σ H2 fun y H3=>∃ a H4,x=.ref a∧DS H3 a y v H4∧D.nx σ H4
section
variable {X:Cx} {o i e value:Expr} {pos pos' Z2:Pos} {td ty tv:TE}
theorem qf (hu:X.A.units+1<cLine) (ho:PE X o td) (hi:PE X i ty) (hs:Zs i):PE X (.Subscript o i pos) (YJ td ty):=by
  intro pins s σ H Q I h
  refine N5 PySem.F.slot_dict_getitem.lookup hs (thn (ho pins s σ H _ I h) fun u s1 ⟨x,H1,I1,rx,q1⟩=>thn (hi pins s1 σ H1 _ I1 q1) fun iv s2 ⟨y,H2,I2,ry,a,v,ex,g,q2⟩=>?_)
  subst ex
  obtain rfl:u=Value.ref a:=rx
  exact ⟨FT I2 g,KN hu I2 g ry fun w' s3 I3 rw'=>⟨v,H2,I3,rw',q2⟩⟩
theorem MD (hu:X.A.units+1<cLine) (hi:PE X i ty) (ho:PE X o td):PC X .In i o (aah ty td):=by
  intro pins s σ H Q I h
  refine thn (hi pins s σ H _ I h) fun iv s1 ⟨y,H1,I1,ry,q1⟩=>thn (ho pins s1 σ H1 _ I1 q1) fun u s2 ⟨x,H2,I2,rx,a,ov,ex,g,q2⟩=>?_
  subst ex
  obtain rfl:u=Value.ref a:=rx
  exact aag hu I2 g ry fun s3 I3=>⟨.bl ov.isSome,H2,I3,rfl,q2⟩
theorem lX (hu:X.A.units+1<cLine) (hi:PE X i ty) (ho:PE X o td):PC X .NotIn i o (N6 ty td):=by
  intro pins s σ H Q I h
  refine thn (hi pins s σ H _ I h) fun iv s1 ⟨y,H1,I1,ry,q1⟩=>thn (ho pins s1 σ H1 _ I1 q1) fun u s2 ⟨x,H2,I2,rx,a,ov,ex,g,q2⟩=>?_
  subst ex
  obtain rfl:u=Value.ref a:=rx
  exact N4 hu I2 g ry fun s3 I3=>⟨.bl (!ov.isSome),H2,I3,rfl,q2⟩
theorem qg (hu:X.A.units+1<cLine) (ho:PE X o td) (hi:PE X i ty) (hv:PE X value tv) (hs:swapsWith value (some (.Subscript o i pos')) pos.line X.env=pure false) :
    PS X (.Assign [.Subscript o i pos'] value pos) (YK td ty tv):=by
  intro pins s σ H D I h
  refine wpAny_Assign_Subscript (thn (hv pins s σ H _ I h) fun r s1 ⟨v,H1,I1,rv,q1⟩=>thn (ho pins s1 σ H1 _ I1 q1) fun u s2 ⟨x,H2,I2,rx,q2⟩=>thn (hi pins s2 σ H2 _ I2 q2) fun iv s3 ⟨y,H3,I3,ry,a,H4,ex,g,q3⟩=>?_) hs
  subst ex
  obtain rfl:u=Value.ref a:=rx
  exact KO hu I3 g ry rv fun s4 I4=>⟨σ,H4,I4,q3⟩
end
theorem L1 {P:Program} {w:World} {H:Hp} (h:Heap) (hb:sysModules<h.objs.size):en P w H (h.push {cls:=.type "dict",data:=.dict #[]}) h.objs.size (.dK []) :=
  ⟨Nat.zero_le _,beq_eq_false_iff_ne.mpr (Ne.symm (Nat.ne_of_lt hb)),[],.nil,Heap.DictOf.new h⟩
def Wi:TE:=fun _ H Q=>∀ p,H p=none→Q (.ref p) (upd H p (.dK []))
section
variable {X:Cx} {pos:Pos}
theorem kL:PE X (.Dict [] [] pos) Wi:=fun pins s σ H Q I h =>
  wpAny_Dict_empty ⟨.ref s.heap.objs.size,_,I.laid (a:=s.heap.objs.size) (o:=.dK []) (t':=s.toks) (fun _ _ q=>Heap.get?_push_of_some _ q) (Nat.le_refl _) (L1 s.heap I.big),rfl,h _ (I.hok.fresh (Nat.le_refl _))⟩
end
structure M1 (X:Cx) (o:Expr) (m:Str) (apos:Pos) (e:Expr) (Bm:Pos):Prop where
  base:attributeBase o m X.env (eval o X.env)=eval o X.env
  few:((backTo Bm (starEach [e] X.env)).all (fun x=>!x.1)&&(backToKw Bm (keywordEach [] X.env)).all (fun x=>x.1.isSome)
    && decide (([e]:List Expr).length+([]:List Keyword).length+(if ([]:List Keyword).isEmpty then 0 else 1)<30))=true
  line:(apos.endLine == Bm.line)=true
  trees:backTo Bm (starEach [e] X.env)=[(false,eval e X.env)]
def IsD (H:Hp) (a:Addr):Prop:=(∃ kvs,Rd H a (.dK kvs))∨∃ kvs,Rd H a (.dT kvs)
theorem Wj {X:Cx} {pins:List (Addr×Obj)} {σ:St} {H:Hp} {s:Shared} {a:Addr} (I:Inv X pins σ H s) (d:IsD H a) :
    s.TypeIs (.ref a) "dict" ∧ (∀ b,Value.ref a=.ref b→∃ ob,s.heap.get? b=some ob∧ob.dict=none)∧(a == sysModules)=false:=by
  rcases d with ⟨kvs,e⟩|⟨kvs,e⟩
  · obtain ⟨_,hd,vs,_,dd⟩:=Aj I.hok e
    refine ⟨dd.typeIs,fun b q=>?_,hd⟩
    cases q
    obtain ⟨ob,_,_,h1,h2,_⟩:=dd
    exact ⟨ob,h1,h2.2.1⟩
  · obtain ⟨_,hd,xs,_,dd⟩:=FC I.hok e
    refine ⟨dd.typeIs,fun b q=>?_,hd⟩
    cases q
    obtain ⟨ob,_,_,h1,h2,_⟩:=dd
    exact ⟨ob,h1,h2.2.1⟩
section
variable {X:Cx} {pins:List (Addr×Obj)} {σ:St} {H:Hp} {s:Shared} {a:Addr} {y d:V} {u r:Value} {o:Option V} {A:Around} {E:Value→Shared→Prop}
end
def Wl (td ty:TE):TE:=fun σ H Q=>td σ H fun x H1=>∃ a,x=.ref a∧IsD H1 a∧ty σ H1 fun y H2=>∃ kvs k v,H2 a=some (.dK kvs)∧y=kV k∧j6 kvs k=some v∧Q v (upd H2 a (.dK (qj kvs k)))
section
variable {X:Cx} {o e f:Expr} {apos Bm:Pos} {td ty tx:TE}
theorem CG (ho:PE X o td) (he:PE X e ty) (m:M1 X o "pop" apos e Bm):PE X (.Call (.Attribute o "pop" apos) [e] [] Bm) (Wl td ty):=by
  intro pins s σ H Q I h
  refine wpAny_Call_method m.base m.few m.line PySem.F.plainAttrs_dict PySem.F.slot_dict_pop PySem.F.type_dict_pop (thn (ho pins s σ H _ I h) fun u s1 ⟨x,H1,I1,rx,a,ex,d,q1⟩=>?_)
  subst ex
  obtain rfl:u=Value.ref a:=rx
  obtain ⟨t1,t2,_⟩:=Wj I1 d
  refine ⟨t1,t2,?_⟩
  rw [m.trees]
  refine Calls.callWith_builtin rfl (Calls.evalArgs_plain (Calls.spliced_cons (thn (he pins s1 σ H1 _ I1 q1) fun iv s2 ⟨y,H2,I2,ry,kvs,k,v,ea,ey,l,q2⟩=>Calls.spliced_nil ?_)))
  subst ey
  exact YH I2 ea ry l (.inl rfl) fun w' s3 I3 rw'=>⟨v,_,I3,rw',q2⟩
end
section
variable {X:Cx} {pins:List (Addr×Obj)} {σ:St} {H:Hp} {s:Shared} {a:Addr} {kvs:List (Key×V)} {A:Around} {E:Value→Shared→Prop}
end
section
variable {X:Cx} {pins:List (Addr×Obj)} {σ:St} {H:Hp} {s:Shared} {a:Addr} {y:V} {u:Value} {A:Around} {E:Value→Shared→Prop}
end
end L2
namespace L2
open PySem PySem.Spec PyProof.Rows
section
variable {X:Cx}
theorem KP:ux X (.builtin "len") (fun xs H Q=>∃ a kvs,xs=[V.ref a]∧H a=some (.dK kvs)∧Q (.int kvs.length) H):=by
  intro pins s σ H xs us Q I r h
  obtain ⟨a,kvs,rfl,ha,q⟩:=h
  obtain ⟨u,rfl,ru⟩:=vals1 r
  cases ru
  exact YI I (.inl ha) fun t s' I'=>⟨.int kvs.length,H,I',⟨t,rfl⟩,q⟩
end
end L2
end
section
namespace LX
open PySem PySem.W
def dW (c:Value) (od:Option Addr) (fs:Array Value) (sl:Array (Option Value)):Obj:={cls:=c,dict:=od,data:=.fields fs,slots:=sl}
def ME (dd:Option Addr) (cd:ClassData) (k0 k1 k2 k3 k5:Option Value):Obj:={cls:=.type "type",dict:=dd,data:=.cls cd,slots:=#[k0,k1,k2,k3,some (.builtin "ValueError.__new__"),k5]}
structure gL (K:Frag) (C:Addr) (cd:ClassData):Prop where
 ob:∃ dd k0 k1 k2 k3 k5,K.lookup C=some (ME dd cd k0 k1 k2 k3 k5)
 del:cd.hasDel=false
 line:∃ r,cd.mro=.ref C::r
 val:cd.mro.contains (.type "ValueError")=true
 bas:cd.mro.contains (.type "BaseException")=true
 obj:cd.mro.contains (.type "object")=true
 atr:cd.mro.contains (.type "AttributeError")=false
 nam:cd.mro.contains (.type "NameError")=false
def FD (K:Frag) (C:Addr):Bool:=match K.lookup C with
 | some ⟨.type "type",_,.cls cd,sl⟩=>(match cd.mro,sl.toList with
  | .ref D::_,[_,_,_,_,some (.builtin n),_]=>D == C&&n == "ValueError.__new__" && !cd.hasDel&&cd.mro.contains (.type "ValueError")&&cd.mro.contains (.type "BaseException") &&
    cd.mro.contains (.type "object")&&!cd.mro.contains (.type "AttributeError")&&!cd.mro.contains (.type "NameError")
  | _,_=>false)
 | _=>false
theorem l8 {K:Frag} {C:Addr} (e:FD K C=true):∃ cd,clsIn K C=some cd∧gL K C cd:=by
 unfold FD at e
 split at e
 ·rename_i dd cd sl ho
  split at e
  ·rename_i D r k0 k1 k2 k3 n k5 hm hs
   simp only [Bool.and_eq_true,beq_iff_eq,Bool.not_eq_true'] at e
   obtain ⟨⟨⟨⟨⟨⟨⟨rfl,rfl⟩,e1⟩,e2⟩,e3⟩,e4⟩,e5⟩,e6⟩:=e
   obtain ⟨sl⟩:=sl
   simp only at hs
   subst hs
   exact ⟨cd,by unfold clsIn;rw [ho],⟨dd,k0,k1,k2,k3,k5,ho⟩,e1,⟨r,hm⟩,e2,e3,e4,e5,e6⟩
  ·cases e
 ·cases e
section
variable {K:Frag} {C:Addr} {cd:ClassData} {M:Model} {h:Heap}
theorem gL.cls (x:gL K C cd):clsIn K C=some cd:=by
 obtain ⟨dd,k0,k1,k2,k3,k5,e⟩:=x.ob
 unfold clsIn
 rw [e]
 rfl
theorem gL.xv (x:gL K C cd):cd.mro.isEmpty=false:=by
 obtain ⟨r,e⟩:=x.line
 rw [e]
 rfl
theorem gL.sub (x:gL K C cd) (X:K.In h) (v:Value):Looks M h (isSubtype (.ref C) v) (cd.mro.contains v) :=
 looks_mroIn X (by unfold mroIn;rw [x.cls,Option.bind_some,if_neg (by rw [x.xv];decide)])
theorem gL.mro (x:gL K C cd) (X:K.In h):Looks M h (mroOf (.ref C)) cd.mro:=(looks_clsIn X x.cls).andThen .now
theorem gL.typ (x:gL K C cd) (X:K.In h):Looks M h (typeOf (.ref C)) (.type "type"):=by
 obtain ⟨dd,k0,k1,k2,k3,k5,e⟩:=x.ob
 exact (Looks.ld (X _ _ e)).andThen .now
theorem gL.W0 (x:gL K C cd) (X:K.In h):Looks M h (isType (.ref C)) true:=by
 obtain ⟨dd,k0,k1,k2,k3,k5,e⟩:=x.ob
 intro A Q E s k q
 unfold isType loadHead
 exact wpAny_bind (wpAny_loadPart (k _ _ (X _ _ e)) (wpAny_pure q))
theorem gL.madeBy (x:gL K C cd) (X:K.In h):Looks M h (Bind.madeBy (.ref C)) (some "ValueError.__new__"):=by
 obtain ⟨dd,k0,k1,k2,k3,k5,e⟩:=x.ob
 obtain ⟨r,hr⟩:=x.line
 intro A Q E s k q
 unfold Bind.madeBy
 refine wpAny_bind (x.mro X A _ E s k ?_)
 rw [hr,List.forIn_cons]
 refine wpAny_bind (wpAny_bind (wpAny_bind (wpAny_bind (wpAny_loadPart (k _ _ (X _ _ e)) (wpAny_pure ?_)))))
 exact wpAny_pure (wpAny_pure (wpAny_pure q))
theorem gL.static (x:gL K C cd) (X:K.In h):Looks M h (Bind.staticBase (.ref C)) (.ref C):=by
 obtain ⟨r,hr⟩:=x.line
 intro A Q E s k q
 unfold Bind.staticBase
 refine wpAny_bind (x.mro X A _ E s k ?_)
 rw [hr,List.forIn_cons]
 exact wpAny_bind (wpAny_bind (wpAny_bind (x.madeBy X A _ E s k (wpAny_pure (wpAny_pure (wpAny_pure q))))))
theorem N7:Manifest.canonical "ValueError.__new__" = Manifest.canonical "BaseException.__new__" := PySem.F.excBase_ValueError.canon
theorem gL.here (x:gL K C cd) (X:K.In h):Looks M h (Bind.madeHere "BaseException.__new__" (.ref C)) () :=
 (x.static X).andThen ((x.madeBy X).andThen (Looks.of_pure (by simp only [Option.map_some,N7,bne_self_eq_false,Bool.false_eq_true,if_false])))
end
def Back (x:Addr) (R:Result→Shared→Prop) (r:Result) (s':Shared):Prop:=match r with
 | .ok (.ret v)=>v=.none∧R (.ok (.ret (.ref x))) s'
 | .ok _=>False
 | .error e=>R (.error e) s'
abbrev Jq (C t:Addr):Obj:=dW (.ref C) none #[.ref t,.none,.none,.none,.bool false,.none] #[]
abbrev sk (vs:List Value):Obj:={cls:=.type "tuple",data:=.seq vs.toArray}
abbrev nS (h:Heap) (C:Addr) (vs:List Value):Heap:=(h.push (sk vs)).push (Jq C h.objs.size)
section
variable {prog:Program} {w:World} {A:Around} {R:Result→Shared→Prop} {h:Heap} {g:Array GenState} {d:Drawn} {t:Nat} {os:OsState} {K:Frag} {C:Addr} {cd:ClassData} {vs:List Value}
theorem L3 (x:gL K C cd) (X:K.In h) (hv:vs.length≤sizeLine) (k:R (.ok (.ret (.ref (h.objs.size+1)))) ⟨nS h C vs,g,d,t,os⟩) :
  codeAny (model prog w) A (.call (.builtin "ValueError.__new__") ⟨.ref C::vs,[]⟩) R ⟨h,g,d,t,os⟩:=by
 have F:=PySem.F.excBase_ValueError
 have st:=x.static (M:=model prog w) X
 have ty:=x.W0 (M:=model prog w) X
 have mb:=x.madeBy (M:=model prog w) X
 have hh:=x.here (M:=model prog w) X
 have s1:=x.sub (M:=model prog w) X (.type "ValueError")
 rw [x.val] at s1
 have s2:=x.sub (M:=model prog w) X (.type "AttributeError")
 rw [x.atr] at s2
 have s3:=x.sub (M:=model prog w) X (.type "NameError")
 rw [x.nam] at s3
 refine codeAny_call_builtin_code (Code.quiet_builtin _ F.quiet) ?_
 have star:=F.noStar
 simp only [checkBuiltinCall,F.newKind,F.newSplit,F.newRow]
 repeat (first|simp only [bne_self_eq_false,Bool.false_eq_true,if_false,Bool.not_true]|lk)
 refine codeAny_builtinAt F.entry ?_
 unfold Builtin.«BaseException.__new__»
 refine wpAt_bind ?_
 show wpAt _ _ _ (stack >>= _) _ _ _
 refine wpAt_bind (wpAt_stack fun p below=>wpAt_of_wpAny ?_)
 have aaW:=F.ends
 wp_walk
 refine wpAt_of_wpAny ?_
 rw [F.owner]
 repeat (first|simp only [bne_self_eq_false,Bool.false_eq_true,if_false,Bool.not_true]|lk)
 rw [if_neg (by rw [List.size_toArray];omega)]
 obtain ⟨dd,k0,k1,k2,k3,k5,ho⟩:=x.ob
 repeat lk
 refine nd_load (Heap.get?_push_of_some _ (Heap.get?_push_of_some _ (X _ _ ho))) (wpAny_pure (wpAny_pure ?_))
 rw [x.del,if_neg Bool.false_ne_true]
 refine wpAny_pure (wpAny_pure ?_)
 show R _ _
 rw [Heap.size_push]
 exact k
theorem L4 {f:Addr} (x:gL K C cd) (X:K.In h) (hi:findIn K (.ref C) "__init__" = some (some (.ref f))) (hf:typeIn K (.ref f)=some (.type "function")) (hv:vs.length≤sizeLine)
  (k:codeAny (model prog w) (A.under (.builtin "type.__call__" ⟨.ref C::vs,[]⟩)) (.call (.ref f) ⟨.ref (h.objs.size+1)::vs,[]⟩) (Back (h.objs.size+1) R) ⟨nS h C vs,g,d,t,os⟩) :
  codeAny (model prog w) A (.call (.ref C) ⟨vs,[]⟩) R ⟨h,g,d,t,os⟩:=by
 obtain ⟨dd,k0,k1,k2,k3,k5,ho⟩:=x.ob
 have hC:=X _ _ ho
 have ht:=x.typ (M:=model prog w) X
 refine codeAny_of_tree ?_
 show wpAny _ _ (callAny (.ref C) _) _ _ _
 refine nd_load hC ?_
 show wpAny _ _ (callAny.viaDunder (.ref C) _) _ _ _
 unfold callAny.viaDunder
 have sp:Looks (model prog w) h (specialOf (.ref C) "__call__") (some (.builtin "type.__call__")):=ht.andThen (Looks.of_pure tc_lookup)
 refine wpAny_bind (sp.at ?_)
 dsimp only
 rw [tc_bind]
 refine wpAny_bind (wpAny_pure (wpAny_bind (wpAny_pure ?_)))
 refine wpAny_pure (a:=Fin.again (.call (.builtin "type.__call__") ⟨.ref C::vs,[]⟩)) (And.intro rfl ?_)
 refine codeAny_call_builtin_at (Code.quiet_builtin _ (by decide +kernel)) entry_typeCall (check_slot tc_kind tc_split (ht.andThen (Looks.of_pure tc_sub)) (tc_args _ _ _) ?_)
 unfold Builtin.«type.__call__»
 have hm:=x.mro (M:=model prog w) X
 have em:=x.xv
 have mb:=x.madeBy (M:=model prog w) X
 repeat (first|simp only [em,Bool.false_eq_true,if_false]|with_reducible refine wpAny_call ?_|lk)
 refine L3 x X hv ?_
 have kp:∀ b o,h.get? b=some o→(nS h C vs).get? b=some o:=fun b o e=>Heap.get?_push_of_some _ (Heap.get?_push_of_some _ e)
 have X1:K.In (nS h C vs):=X.keeps kp
 have hx:(nS h C vs).get? (h.objs.size+1)=some (Jq C h.objs.size):=by heap_get
 have t1:Looks (model prog w) (nS h C vs) (typeOf (.ref (h.objs.size+1))) (.ref C):=(Looks.ld hx).andThen .now
 have s1:=x.sub (M:=model prog w) X1 (.ref C)
 obtain ⟨r,hr⟩:=x.line
 rw [show cd.mro.contains (.ref C)=true by rw [hr];simp] at s1
 have i1:=looks_findIn (M:=model prog w) X1 hi
 have b1:=bind_fn (M:=model prog w) X1 (.ref (h.objs.size+1)) hf
 unfold isInstance callSpecial? specialOf
 repeat (first|with_reducible refine wpAny_call ?_|lk)
 refine codeAny_mono k fun r s' z=>?_
 rcases r with e|(v|_|_|_)<;>first|exact z|exact z.elim|skip
 obtain ⟨rfl,z⟩:=z
 exact wpAny_pure (wpAny_pure z)
end
end LX
end
section
namespace LX
open PySem PySem.W
section
variable {prog:Program} {w:World} {A:Around} {E:Value→Shared→Prop} {h:Heap} {g:Array GenState} {d:Drawn} {t:Nat} {os:OsState} {K:Frag} {C e t0:Addr} {cd:ClassData} {vs:List Value} {od:Option Addr} {fs:Array Value} {sl:Array (Option Value)}
theorem CI {M:Model} (he:h.get? e=some (dW (.ref C) od fs sl)):Looks M h (typeOf (.ref e)) (.ref C):=(Looks.ld he).andThen .now
theorem FU {Q:Value→Shared→Prop} (x:gL K C cd) (X:K.In h) (he:h.get? e=some (dW (.ref C) od fs sl)) (h0:fs[0]?=some (.ref t0)) (hv:vs.length≤sizeLine)
  (k:Q .none ⟨(h.push (sk vs)).update e (Obj.mapFields (·.setIfInBounds 0 (.ref h.objs.size))),g,d,t,os⟩) :
  wpAny (model prog w) A (call (.builtin "ValueError.__init__") (.ref e::vs)) Q E ⟨h,g,d,t,os⟩:=by
 have F:=PySem.F.excBase_ValueError
 have ty:=CI (M:=model prog w) he
 have s1:=x.sub (M:=model prog w) X (.type "ValueError")
 rw [x.val] at s1
 obtain ⟨dd,k0,k1,k2,k3,k5,ho⟩:=x.ob
 have hC:h.get? C=some ⟨.type "type",dd,.cls cd,#[k0,k1,k2,k3,some (.builtin "ValueError.__new__"),k5]⟩:=X _ _ ho
 have star:=F.noStar
 refine wpAny_call (codeAny_call_builtin F.init.plain F.initEntry ?_)
 simp only [checkBuiltinCall,F.initKind,F.initSplit,F.initRow]
 unfold isInstance Bind.checkArgs
 refine wpAny_bind (wpAny_bind (ty.at (s1.at ?_)))
 simp only [Bool.false_eq_true,if_false,Bool.not_true]
 refine wpAny_bind (m:=Bind.printed "*" true _ _) ?_
 unfold Bind.printed Bind.receiverType typeNameWhole
 rw [if_neg (by decide)]
 dsimp only
 rw [if_neg (by decide)]
 refine wpAny_bind (ty.at ?_)
 refine wpAny_bind (wpAny_bind ((looks_clsIn X x.cls).at (wpAny_pure (wpAny_pure ?_))))
 refine wpAny_bind (m:=if ("ValueError" != "*")=true then pure "ValueError" else _) ?_
 rw [if_pos star]
 refine wpAny_pure (wpAny_onRaise ?_)
 show wpAny _ _ (Bind.check _ _ _ _ []) _ _ _
 rw [PyProof.Rows.check_varPos]
 refine wpAny_pure ?_
 unfold Builtin.«BaseException.__init__»
 dsimp only
 rw [if_neg (by simp)]
 unfold newTuple Builtin.BaseException.bexcPut
 have hsz:0<fs.size:=(Array.getElem?_eq_some_iff.mp h0).1
 have e1:=Heap.get?_push_of_some (h:=h) (sk vs) he
 refine wpAny_bind (wpAny_newObj_type ?_ (by show vs.toArray.size≤sizeLine;rw [List.size_toArray];exact hv))
 refine wpAny_bind (wpAny_bind (wpAny_field (s:=⟨h.push (sk vs),g,d,t,os⟩) e1 rfl h0 ?_))
 refine wpAny_bind (wpAny_setField (s:=⟨h.push (sk vs),g,d,t,os⟩) e1 rfl hsz ?_)
 exact wpAny_letGo (wpAny_pure k)
end
end LX
end
section
namespace LX
open PySem PySem.W
section
variable {prog:Program} {w:World} {A:Around} {E:Value→Shared→Prop} {s:Shared} {K:Frag}
theorem N8:findCls K (.type "ValueError") (.type "type") "__init__" = some (.val (.builtin "ValueError.__init__")):=by kernel_rfl
theorem RC:findIn K (.type "type") "__getattribute__" = some (some (.builtin "type.__getattribute__")):=by kernel_rfl
theorem MF {M:Model} {h:Heap}:Looks M h (typeOf (.type "ValueError")) (.type "type"):=Looks.of_pure (by kernel_rfl)
theorem Wm:subIn K (.type "type") (.type "type")=some true:=by kernel_rfl
theorem Wn {M:Model} {h:Heap}:Looks M h (opaqueClassAbove (.type "ValueError")) none:=Looks.of_pure (by kernel_rfl)
theorem N9 {pl:Sem Bool} {Q:Value×List Value→Shared→Prop} (X:K.In s.heap) (k:Q (.builtin "ValueError.__init__",[]) {s with toks:=s.toks+1}) :
  wpAny (model prog w) A (getMethod (.type "ValueError") "__init__" pl) Q E s:=by
 have sp:Looks (model prog w) s.heap (specialOf (.type "ValueError") "__getattribute__") (some (.builtin "type.__getattribute__")):=MF.andThen (looks_findIn X RC)
 unfold getMethod
 refine wpAny_bind (sp.here ?_)
 dsimp only
 rw [if_pos canon_tga]
 refine wpAny_bind (cls_open (hook:=none) X Wn MF RC (Looks.of_pure (by kernel_rfl)) Wm N8 ?_)
 refine wpAny_pure ?_
 show wpAny _ _ (handedOut _) _ _ _
 rw [handedOut_of (by kernel_rfl)]
 exact wpAny_pure (wpAny_pure k)
end
end LX
end
section
namespace LX
open PySem PySem.W
section
variable {prog:Program} {w:World} {A:Around} {E:Value→Shared→Prop} {s:Shared} {K:Frag} {env:Env}
def KQ (K:Frag) (E:Value→Shared→Prop) (v:Value) (s1:Shared):Prop :=
 ∃ (ea C:Addr) (cd:ClassData) (od:Option Addr) (fs:Array Value) (sl:Array (Option Value)),v=.ref ea∧s1.heap.get? ea=some (dW (.ref C) od fs sl)∧fs[1]?=some .none∧gL K C cd∧K.In s1.heap∧E (.ref ea) s1
theorem KR {e:Expr} {pos:Pos} {Q:Flow→Shared→Prop} (hh:A.handled=none) (k:wpAny (model prog w) A (eval e env) (KQ K E) E s) :
  wpAny (model prog w) A (exec (.Raise (some e) none pos) env) Q E s:=by
 show wpAny (model prog w) A (do standAt pos;raiseStmt env (some (do let v ←eval e env;standAt pos;pure v)) none) Q E s
 refine wpAny_bind (wpAny_standAt ?_)
 unfold raiseStmt
 dsimp only
 refine wpAny_bind (wpAny_bind (wpAny_mono k (fun v s1 q=>wpAny_bind (wpAny_standAt (wpAny_pure ?_))) fun _ _ z=>z))
 obtain ⟨ea,C,cd,od,fs,sl,rfl,he,h1,x,X,hE⟩:=q
 obtain ⟨hp,g,d,tk,os⟩:=s1
 have ty:=CI (M:=model prog w) he
 have nt:Looks (model prog w) hp (isType (.ref ea)) false:=by
  intro A' Q' E' s' kk q
  unfold isType loadHead
  exact wpAny_bind (wpAny_loadPart (kk _ _ he) (wpAny_pure q))
 have sb:=x.sub (M:=model prog w) X (.type "BaseException")
 rw [x.bas] at sb
 have ct:=x.typ (M:=model prog w) X
 have f1:Looks (model prog w) hp (field (.ref ea) 1) .none:=looks_field he 1 h1
 refine wpAny_bind (wpAny_pure ?_)
 dsimp only
 refine wpAny_bind (wpAny_holding ?_)
 unfold excFromValue isExcClass isInstance
 repeat (first|simp only [Bool.false_eq_true,if_false,if_true]|lk)
 show wpAny _ _ handled _ _ _
 refine wpAny_handled ?_
 rw [hh]
 exact wpAny_throw hE
theorem FV {ea C D:Addr} {cd cd':ClassData} {od:Option Addr} {fs:Array Value} {sl:Array (Option Value)} {h:Heap} {g:Array GenState} {d:Drawn} {t:Nat} {os:OsState} {Q:Bool→Shared→Prop} {M:Model} (x:gL K C cd) (y:gL K D cd') (X:K.In h)
  (he:h.get? ea=some (dW (.ref C) od fs sl)) (q:Q (cd.mro.contains (.ref D)) ⟨h,g,d,t,os⟩):wpAny M A (excMatches (.ref ea) (.ref D)) Q E ⟨h,g,d,t,os⟩:=by
 have ty:=CI (M:=M) he
 have td:=y.typ (M:=M) X
 have ti:=y.W0 (M:=M) X
 have tn:Looks M h (isSubtype (.type "type") (.type "tuple")) false:=Looks.of_pure tc_notTuple
 have yb:=y.sub (M:=M) X (.type "BaseException")
 rw [y.bas] at yb
 have xs:=x.sub (M:=M) X (.ref D)
 unfold excMatches isInstance isExcClass
 repeat (first|simp only [Bool.false_eq_true,if_false,if_true,Bool.not_true]|lk)
 cases hb:cd.mro.contains (.ref D) with
 | true =>
  rw [hb] at q
  simp only [if_true]
  repeat lk
  exact q
 | false =>
  rw [hb] at q
  simp only [Bool.false_eq_true,if_false]
  repeat lk
  exact q
theorem DT {ea C:Addr} {fs:Array Value} {sl:Array (Option Value)} {h:Heap} (he:h.get? ea=some (dW (.ref C) none fs sl)):InstAt h ea (dW (.ref C) none fs sl) C none:=⟨he,rfl,rfl,True.intro⟩
theorem KS {ea C dx:Addr} {o:Obj} {fs:Array Value} {sl:Array (Option Value)} {h:Heap} (he:h.get? ea=some (dW (.ref C) (some dx) fs sl)) (hd:h.get? dx=some o):InstAt h ea (dW (.ref C) (some dx) fs sl) C (some o):=⟨he,rfl,rfl,hd⟩
theorem Oa:(Manifest.canonical "BaseException.__getattribute__" != "object.__getattribute__")=false:=by decide +kernel
theorem L5 {ea C f:Addr} {ox:Obj} {od:Option Obj} {name:Str} {pl:Sem Bool} {Q:Value×List Value→Shared→Prop} (X:K.In s.heap) (I:InstAt s.heap ea ox C od)
  (hg:findIn K (.ref C) "__getattribute__" = some (some (.builtin "BaseException.__getattribute__"))) (hk:findIn K (.ref C) "__getattr__" = some none)
  (hf:findIn K (.ref C) name=some (some (.ref f))) (ht:typeIn K (.ref f)=some (.type "function")) (hs:shadowIn od name=some false) (k:Q (.ref f,[.ref ea]) s) :
  wpAny (model prog w) A (getMethod (.ref ea) name pl) Q E s:=by
 unfold getMethod specialOf
 refine wpAny_bind (wpAny_bind (I.type.here ((looks_findIn X hg).here ?_)))
 dsimp only
 rw [Oa,if_neg Bool.false_ne_true]
 refine wpAny_bind (wpAny_bind (I.type.here ((looks_findIn X hk).here ?_)))
 refine wpAny_bind (wpAny_bind (I.type.here ((looks_findIn X hf).here (wpAny_bind ((looks_typeIn X ht).here ?_)))))
 rw [if_neg (by decide +kernel)]
 refine wpAny_bind (wpAny_loadPart I.at_ ?_)
 have hd:=I.dict
 cases e:ox.dict with
 | none=>exact wpAny_bind (wpAny_rule (wpAny_pure k))
 | some dx =>
  cases od with
  | none=>rw [e] at hd;exact hd.elim
  | some o =>
   rw [e] at hd
   obtain ⟨r,a,b⟩:=Option.map_eq_some_iff.mp hs
   refine wpAny_bind (wpAny_bind (wpAny_loadPart hd ?_))
   rw [nsLook_of a]
   refine wpAny_pure ?_
   rw [b]
   exact wpAny_bind (wpAny_rule (wpAny_pure k))
end
end LX
end
section
namespace LX
open PySem PySem.W
structure LG (K:Frag) (C:Addr):Prop where
 ga:findIn K (.ref C) "__getattribute__" = some (some (.builtin "BaseException.__getattribute__"))
 gt:findIn K (.ref C) "__getattr__" = some none
section
variable {prog:Program} {w:World} {A:Around} {E:Value→Shared→Prop} {h:Heap} {g:Array GenState} {d:Drawn} {t:Nat} {os:OsState} {K:Frag} {C ea:Addr} {cd:ClassData} {ox:Obj} {od:Option Obj} {name:Str}
theorem KU {tk:Tok} {fill expr:Bool} {r:Builtin.ObjectAttr.Found} {Q:Value→Shared→Prop} (x:gL K C cd) (G:LG K C) (X:K.In h) (I:InstAt h ea ox C od) (hf:findObj K C od name=some r)
  (k:match r with
   | .value v=>handedIn v=true∧Q v ⟨h,g,d,t,os⟩
   | .bind gg a=>wpAny (model prog w) A.in1 (call gg [a,.ref ea,.ref C]) (fun v s'=>handedIn v=true∧Q v s') (fun _ _=>False) ⟨h,g,d,t,os⟩
   | .missing=>False) :
  wpAny (model prog w) A (getAttrBy (.ref ea) (.str name tk) fill expr) Q E ⟨h,g,d,t,os⟩:=by
 have ty:=I.type (M:=model prog w)
 have l1:=looks_findIn (M:=model prog w) X G.ga
 have l2:=looks_findIn (M:=model prog w) X G.gt
 have l3:=looks_find (M:=model prog w) X I hf
 have sb:=x.sub (M:=model prog w) X (.type "BaseException")
 rw [x.bas] at sb
 have S:=PySem.F.excAttr_ValueError.ga
 unfold getAttrBy
 refine wpAny_holding (wpAny_bind (ty.at (wpAny_bind (l1.at ?_))))
 dsimp only
 rw [show (onTheHeap (Value.ref C)&&Value.builtin "BaseException.__getattribute__" == Value.builtin "object.__getattribute__")=false by rw [show (Value.builtin "BaseException.__getattribute__" == Value.builtin "object.__getattribute__")=false by decide +kernel,Bool.and_false],if_neg Bool.false_ne_true]
 unfold getAttrByItsOwn
 have hb:Looks (model prog w) h (hookBefore (.ref C)) none:=looks_hook X (by rw [if_pos (by rfl)];exact G.gt)
 refine wpAny_bind (hb.at (wpAny_bind (wpAny_attempt (wpAny_holding ?_))))
 unfold callGetattribute
 rw [show (expr&&onTheHeap (Value.builtin "BaseException.__getattribute__"))=false from Bool.and_false _,if_neg Bool.false_ne_true]
 unfold boundAndCalled
 rw [S.bind]
 refine wpAny_bind (wpAny_pure ?_)
 show wpAny _ _ (call (.builtin "BaseException.__getattribute__") [.ref ea,.str name tk]) _ _ _
 refine wpAny_call (codeAny_call_builtin S.plain PySem.F.entry_bexc_ga ?_)
 refine @check_slot (model prog w) _ _ ⟨h,g,d,t,os⟩ "BaseException.__getattribute__" "BaseException" "__getattribute__" (.ref ea) [.str name tk] [] _ (by decide +kernel) (by decide +kernel) (ty.andThen sb) (PySem.F.args_bexc_ga (.ref ea) (.str name tk)) ?_
 unfold Builtin.«object.__getattribute__»
 refine wpAny_bind (wpAny_pure (wpAny_bind (wpAny_pure (wpAny_bind (ty.at (wpAny_bind (l3.at ?_)))))))
 cases r with
 | value v =>
  refine wpAny_pure ?_
  show wpAny _ _ (handedOut v) _ _ _
  rw [handedOut_of k.1]
  exact wpAny_pure k.2
 | bind gg a =>
  refine wpAny_bind (wpAny_holding (wpAny_mono k (fun v s' z=>wpAny_pure ?_) fun _ _ z=>z.elim))
  show wpAny _ _ (handedOut v) _ _ _
  rw [handedOut_of z.1]
  exact wpAny_pure z.2
 | missing=>exact k.elim
theorem KW {Q:Option Value→Shared→Prop} (x:gL K C cd) (G:LG K C) (X:K.In h) (I:InstAt h ea ox C od) (hc:findIn K (.ref C) "__class__" = some (some (.builtin "object.__class__")))
  (k:Q (some (.ref C)) ⟨h,g,d,t+1,os⟩):wpAny (model prog w) A (getAttr? (.ref ea) "__class__") Q E ⟨h,g,d,t,os⟩:=by
 have hn:specialIn K (.builtin "object.__class__") "__get__" = some (some (.builtin "getset_descriptor.__get__")):=by kernel_rfl
 have ht:takesIn K (.builtin "object.__class__")=some true:=by kernel_rfl
 have hf:findObj K C od "__class__" = some (.bind (.builtin "getset_descriptor.__get__") (.builtin "object.__class__")):=by
  unfold findObj
  rw [x.cls,Option.bind_some,hc,Option.bind_some]
  dsimp only
  rw [hn,Option.bind_some]
  dsimp only
  rw [ht]
  rfl
 have mo:mroIn K C (.type "object")=some true:=by
  unfold mroIn
  rw [x.cls,Option.bind_some,if_neg (by rw [x.xv];decide),x.obj]
 unfold getAttr? getAttrBy?
 refine wpAny_bind (wpAny_mkText (wpAny_bind (wpAny_attempt ?_)))
 refine KU (t:=t+1) x G X I hf ?_
 refine wpAny_call ?_
 refine class_get (s:=⟨h,g,d,t+1,os⟩) (ox:=ox) (od:=od) X I mo ⟨rfl,?_⟩
 exact wpAny_pure k
theorem Ob (x:gL K C cd) (G:LG K C) (hc:findIn K (.ref C) "__class__" = some (some (.builtin "object.__class__"))):KitX K (.ref ea) (.ref C) (fun h=>∃ ox od,InstAt h ea ox C od) where
 ty:=fun _ _ _ ⟨_,_,I⟩=>I.type
 it:=fun _ _ X _=>x.W0 X
 ne:=fun h tp dd its n sl X htp=>by
  obtain ⟨d2,k0,k1,k2,k3,k5,e⟩:=x.ob
  refine Bool.eq_false_iff.mpr fun q=>?_
  have e2:C=tp:=Value.ref.inj (beq_iff_eq.mp q)
  subst e2
  have z:=congrArg (fun o:Option Obj=>o.map (·.data)) ((X _ _ e).symm.trans htp)
  simp [ME] at z
 ca:=fun {_ _ _ _ _ s} X ⟨_,_,I⟩ k=>by
  obtain ⟨hh,gg,dd,tt,oo⟩:=s
  exact KW x G X I hc k
end
end LX
end
section
namespace LX
open PySem PySem.W
section
variable {prog:Program} {w:World} {A:Around} {E:Value→Shared→Prop} {h:Heap} {g:Array GenState} {d:Drawn} {t:Nat} {os:OsState} {K:Frag} {C CH ea:Addr} {cd:ClassData} {fs:Array Value} {sl:Array (Option Value)} {name:Str} {v:Value}
end
end LX
end
section
namespace LX
open PySem
structure Kept (fr xs:List Addr) (h k:Heap):Prop where
 plain:∀ b o,h.get? b=some o→b∉fr→b∉xs→k.get? b=some o
 frame:∀ b o,h.get? b=some o→b∈fr→b∉xs→∃ sl,k.get? b=some {o with slots:=sl}
theorem Kept.trans {fr xs ys:List Addr} {h k m:Heap} (x:Kept fr xs h k) (y:Kept fr ys k m):Kept fr (xs++ys) h m where
 plain:=fun b o e hb hx=>y.plain b o (x.plain b o e hb fun z=>hx (List.mem_append_left _ z)) hb fun z=>hx (List.mem_append_right _ z)
 frame:=fun b o e hb hx=>by
  obtain ⟨sl,e1⟩:=x.frame b o e hb fun z=>hx (List.mem_append_left _ z)
  obtain ⟨sm,e2⟩:=y.frame b _ e1 hb fun z=>hx (List.mem_append_right _ z)
  exact ⟨sm,e2⟩
theorem Kept.weak {fr xs ys:List Addr} {h k:Heap} (x:Kept fr xs h k) (s:∀ b o,h.get? b=some o→b∈xs→b∈ys):Kept fr ys h k :=
 ⟨fun b o e hb hy=>x.plain b o e hb fun z=>hy (s b o e z),fun b o e hb hy=>x.frame b o e hb fun z=>hy (s b o e z)⟩
abbrev fU (l:List Env):List Addr:=l.filterMap (·.frame)
section
variable {M:Model} {A:Around} {E:Value→Shared→Prop} {s:Shared} {base:Heap} {env:Env} {outer:List Env} {L e:Addr} {c:Value} {od:Option Addr} {fs:Array Value} {sl:Array (Option Value)}
theorem G8 {l:List Env} (F:s.heap.FunFrames base l) (he:s.heap.get? e=some (dW c od fs sl)):e∉fU l:=fun z=>by
 obtain ⟨_,o,ho,hn⟩:=F.mem z
 rw [he] at ho
 cases ho
 exact hn fs rfl
theorem Ce {h:Heap} {a:Addr} {i:Nat} {x:Value} (ha:h.get? a=some (dW c od fs sl)) :
  (h.update a (Obj.mapFields (·.setIfInBounds i x))).get? a=some (dW c od (fs.setIfInBounds i x) sl):=Heap.get?_update_self _ ha rfl
theorem Cf {head:Value} {had:Bool} {Q:Unit→Shared→Prop} (hA:A.frames=some (env::outer)) (F:s.heap.FunFrames base (env::outer)) (hL:env.frame=some L)
  (he:s.heap.get? e=some (dW c od fs sl)) (h1:1<fs.size)
  (k:∀ m T oc ts,s.heap.objs.size≤T→Kept (fU (env::outer)) [e] s.heap m→m.get? e=some (dW c od (fs.setIfInBounds 1 (.ref T)) sl)→m.get? T=some (dW oc none ts #[])→ts[3]?=some (rawInt L)→Q () {s with heap:=m}) :
  wpAny M A (do let a ←frameOf env;let pl ←entryPlaceOf L had;let b ←EntryCells.newEntry head a .none (rawInt L) .none pl;setField (.ref e) 1 b) Q E s:=by
 have ne:=G8 F he
 refine wpAny_bind (wpAny_frameOf_fun hA F hL fun g hg=>?_)
 obtain ⟨g0,g1,g2⟩:=hg
 refine wpAny_bind (wpAny_entryPlaceOf fun pl hp=>?_)
 unfold EntryCells.newEntry newFields
 refine wpAny_bind (wpAny_newObj_type ?_ (hp.sizeOk5 _ _ _ _ _))
 have e1:g.get? e=some (dW c od fs sl):=(g1 e ne).trans he
 have e2:=Heap.get?_push_of_some (h:=g) {cls:=.type "traceback",dict:=none,data:=.fields ([head,.ref L,.none,rawInt L,.none]++(if pl.isEmpty then List.replicate 6 Value.none else pl)).toArray} e1
 refine wpAny_setField e2 rfl h1 ?_
 have Te:g.objs.size≠e:=Nat.ne_of_gt (Heap.lt_size e1)
 refine k _ g.objs.size (.type "traceback") ([head,.ref L,.none,rawInt L,.none]++(if pl.isEmpty then List.replicate 6 Value.none else pl)).toArray (Nat.le_of_eq g0.symm) ⟨fun b o q hb hx=>?_,fun b o q hb hx=>?_⟩ (Ce e2) ?_ ?_
 ·have be:b≠e:=fun z=>hx (by rw [z];exact List.mem_singleton.mpr rfl)
  rw [Heap.get?_update_other _ _ (Ne.symm be)]
  exact Heap.get?_push_of_some _ ((g1 b hb).trans q)
 ·have be:b≠e:=fun z=>hx (by rw [z];exact List.mem_singleton.mpr rfl)
  obtain ⟨sm,q2⟩:=g2 b o q
  refine ⟨sm,?_⟩
  rw [Heap.get?_update_other _ _ (Ne.symm be)]
  exact Heap.get?_push_of_some _ q2
 ·rw [Heap.get?_update_other _ _ (Ne.symm Te)]
  exact Heap.get?_push_size g rfl
 ·first|(simp;done)|(rcases hp with rfl|⟨_,_,_,_,_,_,_,rfl⟩<;>simp)
inductive Ak (h:Heap) (e:Addr) (fs:Array Value):Option Addr→Prop where
 | none (h1:fs[1]?=some .none):Ak h e fs none
 | some {T:Addr} {oc:Value} {ts:Array Value} {d:Option Addr} {sl:Array (Option Value)} (h1:fs[1]?=some (.ref T)) (ne:T≠e) (hT:h.get? T=some (dW oc d ts sl)) (h3:ts[3]?=some .none):Ak h e fs (some T)
theorem Ak.size {h:Heap} {fs:Array Value} {T:Option Addr} (t:Ak h e fs T):1<fs.size:=by
 cases t with
 | none h1=>exact (Array.getElem?_eq_some_iff.mp h1).1
 | some h1=>exact (Array.getElem?_eq_some_iff.mp h1).1
theorem JL {T0:Option Addr} {Q:Unit→Shared→Prop} (hA:A.frames=some (env::outer)) (F:s.heap.FunFrames base (env::outer)) (hL:env.frame=some L) (he:s.heap.get? e=some (dW c od fs sl)) (t:Ak s.heap e fs T0)
  (k:∀ m T oc ts,s.heap.objs.size≤T→Kept (fU (env::outer)) (e::T0.toList) s.heap m→m.get? e=some (dW c od (fs.setIfInBounds 1 (.ref T)) sl)→m.get? T=some (dW oc none ts #[])→ts[3]?=some (rawInt L)→Q () {s with heap:=m}) :
  wpAny M A (noteFrame (.ref e) env) Q E s:=by
 unfold noteFrame
 simp only [hL]
 have h1s:=t.size
 cases t with
 | none h1 =>
  refine wpAny_bind (wpAny_field he rfl h1 ?_)
  rw [if_neg (by decide)]
  exact Cf hA F hL he h1s k
 | @some T oc ts d sm h1 ne hT h3 =>
  refine wpAny_bind (wpAny_field he rfl h1 ?_)
  rw [if_pos (show (Value.ref T != Value.none)=true by simp)]
  refine wpAny_bind (wpAny_field hT rfl h3 ?_)
  rw [if_neg (show ¬((Value.none == rawInt L)=true) by simp [rawInt])]
  have h3s:3<ts.size:=(Array.getElem?_eq_some_iff.mp h3).1
  refine wpAny_bind (wpAny_setField hT rfl h3s ?_)
  have oth:∀ b,b≠T→(s.heap.update T (Obj.mapFields (·.setIfInBounds 3 Value.none))).get? b=s.heap.get? b:=fun b hb=>Heap.get?_update_other _ _ (Ne.symm hb)
  have nT:=G8 F hT
  have F1:(s.heap.update T (Obj.mapFields (·.setIfInBounds 3 Value.none))).FunFrames base (env::outer):=F.of_keeps fun b o hb hn=>⟨o,(oth b fun z=>by rw [z,hT] at hb;cases hb;exact hn ts rfl).trans hb,rfl⟩
  refine Cf (s:={s with heap:=s.heap.update T (Obj.mapFields (·.setIfInBounds 3 Value.none))}) hA F1 hL ((oth e (Ne.symm ne)).trans he) h1s fun m T' oc' ts' z1 z2 z3 z4 z5=>k m T' oc' ts' ?_ ?_ z3 z4 z5
  ·have zz:(s.heap.update T (Obj.mapFields (·.setIfInBounds 3 Value.none))).objs.size=s.heap.objs.size:=(Heap.SameBut.update (h:=s.heap) (a:=T) (f:=Obj.mapFields (·.setIfInBounds 3 Value.none))).1
   rw [←zz];exact z1
  ·have kk:Kept (fU (env::outer)) [T] s.heap (s.heap.update T (Obj.mapFields (·.setIfInBounds 3 Value.none))) :=
    ⟨fun b o q _ hx=>(oth b fun z=>hx (by rw [z];exact List.mem_singleton.mpr rfl)).trans q,fun b o q _ hx=>⟨o.slots,(oth b fun z=>hx (by rw [z];exact List.mem_singleton.mpr rfl)).trans q⟩⟩
   refine (kk.trans z2).weak fun b o _ q=>?_
   simp only [List.mem_append,List.mem_singleton] at q
   simp only [Option.toList_some,List.mem_cons,List.not_mem_nil,or_false]
   exact q.symm
theorem uy {T:Addr} {oc:Value} {ts:Array Value} {d:Option Addr} {sm:Array (Option Value)} {Q:Unit→Shared→Prop} (he:s.heap.get? e=some (dW c od fs sl)) (h1:fs[1]?=some (.ref T)) (ne:T≠e)
  (hT:s.heap.get? T=some (dW oc d ts sm)) (h3:3<ts.size)
  (k:∀ m,(∀ b o,b≠T→s.heap.get? b=some o→m.get? b=some o)→Ak m e fs (some T)→m.get? e=some (dW c od fs sl)→Q () {s with heap:=m}):wpAny M A (setFlight (.ref e) none) Q E s:=by
 unfold setFlight
 refine wpAny_bind (wpAny_field he rfl h1 ?_)
 rw [if_pos (show (Value.ref T != Value.none)=true by simp)]
 have oth:∀ b o,b≠T→s.heap.get? b=some o→(s.heap.update T (Obj.mapFields (·.setIfInBounds 3 Value.none))).get? b=some o:=fun b o hb q=>(Heap.get?_update_other _ _ (Ne.symm hb)).trans q
 exact wpAny_setField hT rfl h3 (k _ oth (.some h1 ne (Ce hT) (by simp [h3])) (oth e _ (Ne.symm ne) he))
theorem MG {T0:Option Addr} {Q:Unit→Shared→Prop} (hA:A.frames=some (env::outer)) (F:s.heap.FunFrames base (env::outer)) (hL:env.frame=some L) (he:s.heap.get? e=some (dW c od fs sl)) (t:Ak s.heap e fs T0)
  (k:∀ m T fs',s.heap.objs.size≤T→Kept (fU (env::outer)) (e::T0.toList) s.heap m→m.get? e=some (dW c od fs' sl)→fs'[0]?=fs[0]?→Ak m e fs' (some T)→Q () {s with heap:=m}) :
  wpAny M A (leaving env (.ref e)) Q E s:=by
 unfold leaving
 refine wpAny_bind (JL hA F hL he t fun m T oc ts z1 z2 z3 z4 z5=>?_)
 have Te:T≠e:=Nat.ne_of_gt (Nat.lt_of_lt_of_le (Heap.lt_size he) z1)
 have f1:(fs.setIfInBounds 1 (Value.ref T))[1]?=some (.ref T):=by
  have:=t.size
  simp [this]
 refine uy (s:={s with heap:=m}) z3 f1 Te z4 (Array.getElem?_eq_some_iff.mp z5).1 fun m' q1 q2 q3=>k m' T _ z1 ⟨fun b o q hb hx=>?_,fun b o q hb hx=>?_⟩ q3 (by simp) q2
 ·exact q1 b o (Nat.ne_of_lt (Nat.lt_of_lt_of_le (Heap.lt_size q) z1)) (z2.plain b o q hb hx)
 ·obtain ⟨sm,r⟩:=z2.frame b o q hb hx
  exact ⟨sm,q1 b _ (Nat.ne_of_lt (Nat.lt_of_lt_of_le (Heap.lt_size q) z1)) r⟩
end
end LX
end
section
namespace L2
open PySem PySem.Spec PyProof.Rows LX
def ExP (fresh:Bool) (C e:Addr) (od:Option Addr) (h:Heap):Prop:=∃ fs sl t0,h.get? e=some (dW (.ref C) od fs sl)∧fs[0]?=some (.ref t0)∧(fresh=true→fs[1]?=some .none)
def exo (fresh:Bool) (C e:Addr) (od:Option Addr):HO:=.ext (ExP fresh C e od)
section
variable {P:Program} {w:World} {H:Hp} {h:Heap} {b:Bool} {C e:Addr} {od:Option Addr}
theorem Jr (x:ExP b C e od h):en P w H h e (exo b C e od):=by
 refine ⟨x,?_,fun h1 h2 p k=>?_⟩
 ·obtain ⟨fs,sl,t0,z,_⟩:=x
  exact ⟨_,z⟩
 ·obtain ⟨fs,sl,t0,z,r⟩:=p
  exact ⟨fs,sl,t0,k _ z,r⟩
theorem xM (ok:HOk P w H h) (z:H e=some (exo b C e od)):ExP b C e od h:=(show en P w H h e (exo b C e od) from ok e _ z).1
end
def del (H:Hp) (a:Addr):Hp:=fun b=>if b=a then none else H b
theorem G9 {H:Hp} {a:Addr}:del H a a=none:=by unfold del;rw [if_pos rfl]
theorem so {H:Hp} {a b:Addr} (h:b≠a):del H a b=H b:=by unfold del;rw [if_neg h]
theorem Ha {H:Hp} {a b:Addr} {o:HO} (h:del H a b=some o):H b=some o∧b≠a:=by
 unfold del at h
 by_cases q:b=a
 ·rw [if_pos q] at h;cases h
 ·rw [if_neg q] at h;exact ⟨h,q⟩
section
variable {P:Program} {w:World} {H H':Hp} {h h':Heap} {a:Addr}
theorem HOk.keeps (ok:HOk P w H h) (k:∀ b u o,H b=some u→h.get? b=some o→h'.get? b=some o):HOk P w H h':=fun b u q =>
 (ok b u q).Fq (fun c v hc r=>by
  rcases hc with rfl|hc
  ·exact k c u v q r
  ·exact k c _ v hc r) (fun _ z=>z) fun _ _ z=>z
theorem HOk.del (ok:HOk P w H h) (ha:∀ y,H a≠some (.own y)) (hb:∀ xs,H a≠some (.tup xs)):HOk P w (del H a) h:=fun b u q=>by
 obtain ⟨q1,q2⟩:=Ha q
 refine (ok b u q1).Fq (fun _ _ _ r=>r) (fun c z=>?_) fun c xs z=>?_
 ·rw [so fun e=>ha b (by rw [←e];exact z)];exact z
 ·rw [so fun e=>hb xs (by rw [←e];exact z)];exact z
theorem HOk.add (ok:HOk P w H h) {o:HO} (ha:H a=none) (new:en P w (upd H a o) h a o):HOk P w (upd H a o) h:=fun b u q=>by
 by_cases e:b=a
 ·subst e
  rw [ag] at q
  cases q
  exact new
 ·rw [ae e] at q
  refine (ok b u q).Fq (fun _ _ _ r=>r) (fun c z=>?_) fun c xs z=>?_
  ·rw [ae fun e=>by rw [e,ha] at z;cases z];exact z
  ·rw [ae fun e=>by rw [e,ha] at z;cases z];exact z
end
theorem qN {h k base:Heap}:∀ {l:List Env},h.FunFrames base l→(∀ b∈frs l,∀ o,h.get? b=some o→∃ sl,k.get? b=some {o with slots:=sl})→k.FunFrames base l
 | [],_,_=>True.intro
 | env::r,⟨h1,⟨L,o,e1,e2,e3,e4⟩,h2⟩,q=>by
  have hm:L∈frs (env::r):=List.mem_filterMap.mpr ⟨env,List.mem_cons_self,e1⟩
  obtain ⟨sl,z⟩:=q L hm o e3
  refine ⟨h1,⟨L,_,e1,e2,z,e4⟩,qN h2 fun b hb o' z'=>q b ?_ o' z'⟩
  obtain ⟨x,hx,hy⟩:=List.mem_filterMap.mp hb
  exact List.mem_filterMap.mpr ⟨x,List.mem_cons_of_mem _ hx,hy⟩
structure Lies (P:Program) (w:World) (outer:List Env) (H H':Hp) (s:Shared) (ea C T:Addr) (od:Option Addr) (fs:Array Value) (sl:Array (Option Value)) (s':Shared):Prop where
 os:s'.os=s.os
 bare:AllBare s'.gens
 un:Un (frs outer) [] H H' s.heap s'.heap
 hok:HOk P w H' s'.heap
 RD:s.heap.get? ea=none
 aai:s.heap.get? T=none
 Lu:H' ea=none
 YL:H' T=none
 at_:s'.heap.get? ea=some (dW (.ref C) od fs sl)
 args:∃ t0,fs[0]?=some (.ref t0)
 trail:Ak s'.heap ea fs (some T)
def CXE (P:Program) (w:World):CXT:=fun outer H s E e s'=>∃ ea C T od fs sl H',e=.ref ea∧Lies P w outer H H' s ea C T od fs sl s'∧E (.ref C) od H'
section
variable {X:Cx} {pins:List (Addr×Obj)} {σ:St} {H H':Hp} {s s':Shared} {ea C T:Addr} {od:Option Addr} {fs:Array Value} {sl:Array (Option Value)}
theorem Lies.frames (I:Inv X pins σ H s) (l:Lies X.prog X.w X.stack H H' s ea C T od fs sl s'):s'.heap.FunFrames X.base X.stack :=
 qN I.stack fun b hb o z=>l.un.any z (I.xF b hb) (by simp)
theorem Lies.on {m:Heap} {t':Nat} (I:Inv X pins σ H s) (l:Lies X.prog X.w X.stack H H' s ea C T od fs sl s') (k:Kept (fU X.stack) [ea,T] s'.heap m) :
  Un (frs X.stack) [] H H' s.heap m∧HOk X.prog X.w H' m:=by
 have fr:∀ b,b∈frs X.stack→H' b=none:=fun b hb=>by
  obtain ⟨_,o,z,_⟩:=I.stack.mem hb
  exact l.un.free b o z (I.xF b hb) (by simp)
 have ne:∀ b o,s.heap.get? b=some o→b∉[ea,T]:=fun b o z q=>by
  rcases List.mem_cons.mp q with e|q
  ·rw [e,l.RD] at z;cases z
  ·rw [List.mem_singleton.mp q,l.aai] at z;cases z
 refine ⟨⟨fun b o z n hb hx=>?_,fun b o z n hb hx=>?_,l.un.free,fun b o z hx=>?_,l.un.B9,l.un.Bl,l.un.Ca⟩,?_⟩
 ·exact k.plain b o (l.un.keep b o z n hb hx) hb (ne b o z)
 ·obtain ⟨s1,z1⟩:=l.un.slot b o z n hb hx
  obtain ⟨s2,z2⟩:=k.frame b _ z1 hb (ne b o z)
  exact ⟨s2,z2⟩
 ·obtain ⟨o1,z1⟩:=l.un.there b o z hx
  by_cases hb:b∈fU X.stack
  ·obtain ⟨s2,z2⟩:=k.frame b _ z1 hb (ne b o z)
   exact ⟨_,z2⟩
  ·exact ⟨_,k.plain b _ z1 hb (ne b o z)⟩
 ·refine l.hok.keeps fun b u o z q=>k.plain b o q (fun hb=>?_) fun hx=>?_
  ·rw [fr b hb] at z;cases z
  ·rcases List.mem_cons.mp hx with e|hx
   ·rw [e,l.Lu] at z;cases z
   ·rw [List.mem_singleton.mp hx,l.YL] at z;cases z
end
end L2
end
section
namespace L2
open PySem PySem.Spec PyProof.Rows LX
section
variable {P:Program} {w:World} {K:W.Frag} {mg:Str→Option Value} {base:Heap} {N:List Str} {qual:Str} {scope:Scope} {f:Addr} {cdv:Value} {A:Around} {outer:List Env} {s₀:Shared} {H₀:Hp} {E₀:XK}
abbrev cxE (P:Program) (w:World) (K:W.Frag) (mg:Str→Option Value) (base:Heap) (N:List Str) (qual:Str) (scope:Scope) (f:Addr) (cdv:Value) (A:Around) (outer:List Env) (s₀:Shared) (H₀:Hp) (E₀:XK):Cx :=
 LD (CXE P w) P w K mg base N qual scope f cdv A outer s₀ H₀ E₀
theorem Ik {pins:List (Addr×Obj)} {σ:St} {H H':Hp} {s s':Shared} {ea C T:Addr} {od:Option Addr} {fs:Array Value} {sl:Array (Option Value)} (I:Inv (cxE P w K mg base N qual scope f cdv A outer s₀ H₀ E₀) pins σ H s)
  (l:Lies P w (cxE P w K mg base N qual scope f cdv A outer s₀ H₀ E₀).stack H H' s ea C T od fs sl s') (hE:E₀ (.ref C) od H'):(cxE P w K mg base N qual scope f cdv A outer s₀ H₀ E₀).xe (.ref ea) s':=by
 refine MG I.ok.frames (Lies.frames I l) rfl l.at_ l.trail fun m T' fs' z1 z2 z3 z4 z5=>?_
 obtain ⟨un,hok⟩:=l.on (t':=s'.toks) I z2
 have J:Inv (cxE P w K mg base N qual scope f cdv A outer s₀ H₀ E₀) pins σ H' {s' with heap:=m}:=I.Lr l.os un hok l.bare (fun b z=>absurd z (by simp))
 have old:∀ b o,s₀.heap.get? b=some o→∃ o',s.heap.get? b=some o':=fun b o z=>I.base.there b o z (List.not_mem_nil)
 have e0:s₀.heap.get? ea=none:=by
  cases q:s₀.heap.get? ea with
  | none=>rfl
  | some o =>
   obtain ⟨o',z⟩:=old ea o q
   rw [l.RD] at z;cases z
 have t0:s₀.heap.get? T'=none:=by
  cases q:s₀.heap.get? T' with
  | none=>rfl
  | some o =>
   obtain ⟨o1,y1⟩:=old T' o q
   obtain ⟨o2,y2⟩:=l.un.there T' o1 y1 (by simp)
   exact absurd (Heap.lt_size y2) (Nat.not_lt.mpr z1)
 obtain ⟨a0,ha⟩:=l.args
 exact ⟨ea,C,T',od,fs',sl,H',rfl,⟨J.os,J.bare,J.base,J.hok,e0,t0,l.Lu,l.hok.fresh z1,z3,⟨a0,by rw [z4];exact ha⟩,z5⟩,hE⟩
theorem aT {E:XK} (hE:∀ c od H',E c od H'→E₀ c od H'):Passes (CXE P w) (cxE P w K mg base N qual scope f cdv A outer s₀ H₀ E₀) E:=fun pins σ H s e s' I h=>by
 obtain ⟨ea,C,T,od,fs,sl,H',rfl,l,q⟩:=h
 exact Ik I l (hE _ _ _ q)
theorem leave_new {pins:List (Addr×Obj)} {σ:St} {H:Hp} {s:Shared} {ea C:Addr} {od:Option Addr} (I:Inv (cxE P w K mg base N qual scope f cdv A outer s₀ H₀ E₀) pins σ H s) (h1:H ea=some (exo true C ea od)) (h0:H₀ ea=none)
  (hE:E₀ (.ref C) od (del H ea)):(cxE P w K mg base N qual scope f cdv A outer s₀ H₀ E₀).xe (.ref ea) s:=by
 obtain ⟨fs,sl,a0,z,ha,hf⟩:=xM I.hok h1
 have frz:∀ b,b∈frs (cxE P w K mg base N qual scope f cdv A outer s₀ H₀ E₀).stack→H b=none:=I.xF
 have e0:s₀.heap.get? ea=none:=by
  cases q:s₀.heap.get? ea with
  | none=>rfl
  | some o =>
   have:=I.base.free ea o q h0 List.not_mem_nil
   rw [h1] at this;cases this
 refine MG I.ok.frames I.stack rfl z (.none (hf rfl)) fun m T' fs' z1 z2 z3 z4 z5=>?_
 have hd:HOk P w (del H ea) s.heap:=I.hok.del (fun y q=>by rw [h1] at q;cases q) fun xs q=>by rw [h1] at q;cases q
 have hm:HOk P w (del H ea) m:=hd.keeps fun b u o q r=>by
  obtain ⟨q1,q2⟩:=Ha q
  exact z2.plain b o r (fun hb=>by rw [frz b hb] at q1;cases q1) (by simpa using q2)
 have neE:∀ b o,s₀.heap.get? b=some o→b≠ea:=fun b o q r=>by rw [r,e0] at q;cases q
 have t0:s₀.heap.get? T'=none:=by
  cases q:s₀.heap.get? T' with
  | none=>rfl
  | some o =>
   obtain ⟨o2,y2⟩:=I.base.there T' o q List.not_mem_nil
   exact absurd (Heap.lt_size y2) (Nat.not_lt.mpr z1)
 have neL:∀ b o,s₀.heap.get? b=some o→b∈fU (cxE P w K mg base N qual scope f cdv A outer s₀ H₀ E₀).stack→b∈frs outer:=fun b o q hb=>by
  rcases List.mem_cons.mp (I.Bh b hb) with r|r
  ·exact absurd (Heap.lt_size q) (by rw [r];exact Nat.not_lt.mpr I.ok.above)
  ·exact r
 have sub:∀ b,b∈frs outer→b∈fU (cxE P w K mg base N qual scope f cdv A outer s₀ H₀ E₀).stack:=fun b hb=>by
  obtain ⟨x,hx,hy⟩:=List.mem_filterMap.mp hb
  exact List.mem_filterMap.mpr ⟨x,List.mem_cons_of_mem _ hx,hy⟩
 refine ⟨ea,C,T',od,fs',sl,del H ea,rfl,⟨I.os,I.bare,⟨fun b o q n hb hx=>?_,fun b o q n hb hx=>?_,fun b o q n hx=>?_,fun b o q hx=>?_,fun b xs q=>?_,fun b o u q=>?_,fun b ps q=>?_⟩,hm,e0,t0,G9,?_,z3,⟨a0,by rw [z4];exact ha⟩,z5⟩,hE⟩
 ·exact z2.plain b o (I.base.keep b o q n hb hx) (fun z=>hb (neL b o q z)) (by simpa using neE b o q)
 ·obtain ⟨s1,y1⟩:=I.base.slot b o q n hb hx
  obtain ⟨s2,y2⟩:=z2.frame b _ y1 (sub b hb) (by simpa using neE b o q)
  exact ⟨s2,y2⟩
 ·rw [so (neE b o q)]
  exact I.base.free b o q n hx
 ·obtain ⟨o1,y1⟩:=I.base.there b o q hx
  by_cases hb:b∈fU (cxE P w K mg base N qual scope f cdv A outer s₀ H₀ E₀).stack
  ·obtain ⟨s2,y2⟩:=z2.frame b _ y1 hb (by simpa using neE b o q)
   exact ⟨_,y2⟩
  ·exact ⟨_,z2.plain b _ y1 hb (by simpa using neE b o q)⟩
 ·have r:=I.base.B9 b xs q
  rw [so fun e=>by rw [e,h1] at r;cases r];exact r
 ·have r:=I.base.Bl b o u q
  rw [so fun e=>by rw [e,h1] at r;cases r];exact r
 ·obtain ⟨more,r⟩:=I.base.Ca b ps q
  exact ⟨more,by rw [so fun e=>by rw [e,h1] at r;cases r];exact r⟩
 ·by_cases q:T'=ea
  ·rw [q];exact G9
  ·rw [so q];exact I.hok.fresh z1
end
end L2
end
section
namespace L2
open PySem PySem.Spec PyProof.Rows LX
theorem Fun.okE {P:Program} {w:World} {K:W.Frag} {mg:Str→Option Value} {base:Heap} {x qual:Str} {st:Stmt} {f:Addr} {fd:FuncData} {N ps:List Str} {k:Nat} {sp:Sp} (F:Fun K x qual st f fd) (S:aA N ps (au st)) (len:∀ vs H Q E,sp vs H Q E→vs.length=ps.length)
  (DF:∀ (cdv:Value) (A:Around) (outer:List Env) (s:Shared) (H:Hp) (vs:List V) (Q:VK) (E:XK),kR k (A.deeper (envOfC qual (au st) s.heap.objs.size f cdv))→sp vs H Q E →
   ∃ t,PSs (cxE P w K mg base N qual (au st) f cdv A outer s H E) (bF st) t∧t {nx:=fun _ H'=>Q .non H',rt:=Q} (start N vs) H):xI P w K mg base (CXE P w) (k+1) f fd ps sp:=by
 obtain ⟨oc,od,kV,doc,pm,an,cdv,ct,osl,rfl,lk,hcd⟩:=F.ex
 exact YA lk hcd S len fun A outer s H vs Q E hr hsp=>DF cdv A outer s H vs Q E hr hsp
def Hb (X:Cx) (E:XK):Prop:=∀ (pins:List (Addr×Obj)) (σ:St) (H:Hp) (s:Shared) (ea C:Addr) (od:Option Addr),Inv X pins σ H s→H ea=some (exo true C ea od)→X.H₀ ea=none→E (.ref C) od (del H ea)→X.xe (.ref ea) s
theorem j7 {P:Program} {w:World} {K:W.Frag} {mg:Str→Option Value} {base:Heap} {N:List Str} {qual:Str} {scope:Scope} {f:Addr} {cdv:Value} {A:Around} {outer:List Env} {s₀:Shared} {H₀:Hp} {E₀:XK} :
  Hb (cxE P w K mg base N qual scope f cdv A outer s₀ H₀ E₀) E₀:=fun _ _ _ _ _ _ _ I h1 h0 q=>leave_new I h1 h0 q
def Wo (H₀:Hp) (K:W.Frag) (E:XK) (te:TE):TS:=fun _ σ H=>te σ H fun v H1=>∃ ea C od,v=.ref ea∧H1 ea=some (exo true C ea od)∧(∃ cd,gL K C cd)∧H₀ ea=none∧E (.ref C) od (del H1 ea)
section
variable {X:Cx}
theorem fV {e:Expr} {te:TE} {pos:Pos} {E:XK} (hc:X.calm=true) (hx:Hb X E) (he:PE X e te):PS X (.Raise (some e) none pos) (Wo X.H₀ X.K E te):=by
 intro pins s σ H D I h
 refine KR (K:=X.K) (I.ok.hd hc) (thn (he pins s σ H _ I h) fun u s1 ⟨v,H1,I1,r,ea,C,od,ev,h1,⟨cd,xc⟩,h0,q⟩=>?_)
 subst ev
 obtain rfl:u=Value.ref ea:=r
 obtain ⟨fs,sl,a0,z,ha,hf⟩:=xM I1.hok h1
 exact ⟨ea,C,cd,od,fs,sl,rfl,z,hf rfl,xc,I1.kIn,hx pins σ H1 s1 ea C od I1 h1 h0 q⟩
def iO (CX:CXT) (X:Cx) (EK:St→XK):Prop:=∀ (pins:List (Addr×Obj)) (σ:St) (H:Hp) (s:Shared) (e:Value) (s':Shared),Inv X pins σ H s→CX X.stack H s (EK σ) e s'→X.xe e s'
theorem Passes.x {CX:CXT} {E:XK} (h:Passes CX X E):iO CX X (fun _=>E):=fun pins σ H s e s' I q=>h pins σ H s e s' I q
def RE (sp:Sp) (dvs:List V) (EK:St→XK) (t:TA):TE:=fun σ H Q=>t σ H fun vs H1=>sp (vs++dvs) H1 Q (EK σ)
def RF (C:Addr) (m:Str) (sp:Sp) (dvs:List V) (EK:St→XK) (ta:TE) (t:TA):TE:=fun σ H Q=>ta σ H fun x H1=>∃ a dx fs,x=.ref a∧H1 a=some (.ins C dx fs)∧fs.lookup m=none ∧
 t σ H1 fun vs H2=>sp (x::(vs++dvs)) H2 Q (EK σ)
def aaj (C:Addr) (sp:Sp) (EK:St→XK) (t:TA):TE:=fun σ H Q=>t σ H fun vs H1=>∀ ea,H1 ea=none→sp (.ref ea::vs) (upd H1 ea (exo true C ea none)) (fun v H2=>v=.non∧Q (.ref ea) H2) (EK σ)
variable {CX:CXT} {k:Nat} {f C:Addr} {fd:FuncData} {ps:List Str} {sp:Sp} {dvs:List V} {ds:List Value} {EK:St→XK} {x m:Str} {p pos apos:Pos} {e o:Expr} {es:List Expr} {ta:TE} {t:TA}
theorem RG {pins:List (Addr×Obj)} {σ:St} {H:Hp} {s:Shared} {Q:VK} {us:List Value} {vs:List V} (F:xI X.prog X.w X.K X.mg X.base CX k f fd ps sp) (hr:kR k X.A) (hb:Binds X.K fd ps ds) (hd:Vals dvs ds) (hx:iO CX X EK)
  (I:Inv X pins σ H s) (r:Vals vs us) (h:sp (vs++dvs) H Q (EK σ)):wpAny (model X.prog X.w) X.A (call (.ref f) us) (EP X pins σ Q) X.xe s:=by
 have r2:Vals (vs++dvs) (us++ds):=r.append hd
 have hl:(us++ds).length=ps.length:=by rw [←r2.length];exact F.len _ _ _ _ h
 refine wpAny_call (codeAny_mono (F.run X.A X.stack s H ⟨us,[]⟩ (us++ds) (vs++dvs) Q (EK σ) hr I.Rv (hb s us I.kIn hl) r2 h) fun r s' hq=>?_)
 cases r with
 | error e=>exact hx pins σ H s e s' I hq
 | ok fl =>
  cases fl with
  | ret u=>exact I.after hq
  | _=>exact False.elim hq
theorem br (F:xI X.prog X.w X.K X.mg X.base CX k f fd ps sp) (hr:kR k X.A) (hg:Gl X x) (hm:X.mg x=some (.ref f)) (hk:PySem.W.keepIn X.K (.ref f)=true) (hb:Binds X.K fd ps ds) (hd:Vals dvs ds) (hx:iO CX X EK)
  (ha:PA X (e::es) t) (hdb:(x == ("__debug__" : Str))=false:=by decide) (he:starEach (e::es) X.env=(false,eval e X.env)::starEach es X.env:=by rfl) (hpl:(backTo pos (starEach es X.env)).any (·.1)=false:=by rfl) :
  PE X (.Call (.Name x p) (e::es) [] pos) (RE sp dvs EK t):=by
 intro pins s σ H Q I h
 refine wpAny_Call_Name_kw (qc I hg hm ?_ hdb)
 exact PySem.W.callWith_K (h₀:=X.base) I.ok.mod.kin hk (thn (ha pos pins s σ H _ I h) fun us s1 ⟨vs,H1,I1,r,q⟩=>⟨I1.kIn,RG F hr hb hd hx I1 r q⟩) he hpl
theorem aQ {pl:Sem Bool} (he:PE X o ta) (c:Cls X.K C) (hm:Meth X.K C m f) (F:xI X.prog X.w X.K X.mg X.base CX k f fd ps sp) (hr:kR k X.A) (hb:Binds X.K fd ps ds) (hd:Vals dvs ds) (hx:iO CX X EK) (ha:PA X (e::es) t)
  (hst:starEach (e::es) X.env=(false,eval e X.env)::starEach es X.env:=by rfl) (hpl:(backTo pos (starEach es X.env)).any (·.1)=false:=by rfl)
  (ht:eval (.Call (.Attribute o m apos) (e::es) [] pos) X.env=(do
   let ov ←eval o X.env
   standAt apos.atName
   let (f,first) ←holding [ov] (getMethod ov m pl)
   callWith pos f first (backTo pos (starEach (e::es) X.env)) (backToKw pos (keywordEach [] X.env))):=by rfl) :
  PE X (.Call (.Attribute o m apos) (e::es) [] pos) (RF C m sp dvs EK ta t):=by
 intro pins s σ H Q I h
 refine PySem.W.methodCall_KW (pl:=pl) (thn (he pins s σ H _ I h) fun u s1 ⟨x,H1,I1,rx,a,dx,fs,ex,ea,l,q⟩=>?_) ht
 subst ex
 obtain rfl:u=Value.ref a:=rx
 refine Cd I1 ea c hm l ?_
 exact PySem.W.callWith_K (first:=[.ref a]) (h₀:=X.base) I.ok.mod.kin hm.kp (thn (ha pos pins s1 σ H1 _ I1 q) fun us s2 ⟨vs,H2,I2,r,q2⟩=>⟨I2.kIn,RG (us:=.ref a::us) (vs:=.ref a::vs) F hr hb hd hx I2 (.cons rfl r) q2⟩) hst hpl
theorem i7 {pl:Sem Bool} (he:PE X o ta) (c:Cls X.K C) (hm:Meth X.K C m f) (F:xI X.prog X.w X.K X.mg X.base CX k f fd ps sp) (hr:kR k X.A) (hb:Binds X.K fd ps ds) (hd:Vals dvs ds) (hx:iO CX X EK)
  (ht:eval (.Call (.Attribute o m apos) [] [] pos) X.env=(do
   let ov ←eval o X.env
   standAt apos.atName
   let (f,first) ←holding [ov] (getMethod ov m pl)
   callWith pos f first (backTo pos (starEach [] X.env)) (backToKw pos (keywordEach [] X.env))):=by rfl) :
  PE X (.Call (.Attribute o m apos) [] [] pos) (RF C m sp dvs EK ta JH):=by
 intro pins s σ H Q I h
 refine PySem.W.methodCall_KW (pl:=pl) (thn (he pins s σ H _ I h) fun u s1 ⟨x,H1,I1,rx,a,dx,fs,ex,ea,l,q⟩=>?_) ht
 subst ex
 obtain rfl:u=Value.ref a:=rx
 refine Cd I1 ea c hm l ?_
 exact PySem.W.callWith_K0 (first:=[.ref a]) I1.kIn hm.kp (RG (us:=[.ref a]) (vs:=[.ref a]) F hr hb hd hx I1 (.cons rfl .nil) q)
structure MkX (K:W.Frag) (C f:Addr):Prop where
 cls:∃ cd,gL K C cd
 init:PySem.W.findIn K (.ref C) "__init__" = some (some (.ref f))
 fn:PySem.W.isFn K (.ref f)=true
 kp:PySem.W.keepIn K (.ref C)=true
theorem Oc {pins:List (Addr×Obj)} {σ:St} {H:Hp} {s:Shared} {Q:VK} {us:List Value} {vs:List V} (M:MkX X.K C f) (F:xI X.prog X.w X.K X.mg X.base CX k f fd ps sp) (hr:kR (k+1) X.A) (hb:Binds X.K fd ps []) (hx:iO CX X EK) (hps:ps.length≤1000)
  (I:Inv X pins σ H s) (r:Vals vs us) (h:∀ ea,H ea=none→sp (.ref ea::vs) (upd H ea (exo true C ea none)) (fun v H2=>v=.non∧Q (.ref ea) H2) (EK σ)) :
  wpAny (model X.prog X.w) X.A (call (.ref C) us) (EP X pins σ Q) X.xe s:=by
 have hq:=h (s.heap.objs.size+1) (I.hok.fresh (Nat.le_succ _))
 obtain ⟨cd,xc⟩:=M.cls
 have r2:Vals (V.ref (s.heap.objs.size+1)::vs) (Value.ref (s.heap.objs.size+1)::us):=.cons rfl r
 have hl:(Value.ref (s.heap.objs.size+1)::us).length=ps.length:=by rw [←r2.length];exact F.len _ _ _ _ hq
 have hz:us.length≤sizeLine:=by rw [List.length_cons] at hl;rw [sizeLine_eq];omega
 have I2:Inv X pins σ (upd H (s.heap.objs.size+1) (exo true C (s.heap.objs.size+1) none)) {s with heap:=nS s.heap C us}:=by
  refine I.laid (t':=s.toks) (fun b u q=>Heap.get?_push_of_some _ (Heap.get?_push_of_some _ q)) (Nat.le_succ _) (Jr ⟨#[.ref s.heap.objs.size,.none,.none,.none,.bool false,.none],#[],s.heap.objs.size,?_,rfl,fun _=>rfl⟩)
  show (nS s.heap C us).get? (s.heap.objs.size+1)=some (Jq C s.heap.objs.size)
  heap_get
 obtain ⟨hh,g,d,tk,os⟩:=s
 refine wpAny_call (L4 xc I.kIn M.init (beq_iff_eq.mp M.fn) hz (codeAny_mono (F.run _ X.stack _ _ ⟨Value.ref (hh.objs.size+1)::us,[]⟩ (Value.ref (hh.objs.size+1)::us) _ _ (EK σ) (hr.make C us []) (I2.Rv.make C us [])
  (by have:=hb _ (Value.ref (hh.objs.size+1)::us) I2.kIn (by rw [List.append_nil];exact hl);rw [List.append_nil] at this;exact this) r2 hq) fun r s' hq'=>?_))
 cases r with
 | error e=>exact hx pins σ _ _ e s' I2 hq'
 | ok fl =>
  cases fl with
  | ret u =>
   obtain ⟨v,H',I3,rv,ev,q3⟩:=I2.after hq'
   subst ev
   exact ⟨rv,⟨V.ref (hh.objs.size+1),H',I3,rfl,q3⟩⟩
  | _=>exact False.elim hq'
theorem j8 (M:MkX X.K C f) (F:xI X.prog X.w X.K X.mg X.base CX k f fd ps sp) (hr:kR (k+1) X.A) (hg:Gl X x) (hm:X.mg x=some (.ref C)) (hb:Binds X.K fd ps []) (hx:iO CX X EK)
  (ha:PA X (e::es) t) (hps:ps.length≤1000:=by decide) (hdb:(x == ("__debug__" : Str))=false:=by decide) (he:starEach (e::es) X.env=(false,eval e X.env)::starEach es X.env:=by rfl) (hpl:(backTo pos (starEach es X.env)).any (·.1)=false:=by rfl) :
  PE X (.Call (.Name x p) (e::es) [] pos) (aaj C sp EK t):=by
 intro pins s σ H Q I h
 refine wpAny_Call_Name_kw (qc I hg hm ?_ hdb)
 exact PySem.W.callWith_K (h₀:=X.base) I.ok.mod.kin M.kp (thn (ha pos pins s σ H _ I h) fun us s1 ⟨vs,H1,I1,r,q⟩=>⟨I1.kIn,Oc M F hr hb hx hps I1 r q⟩) he hpl
end
end L2
end
section
namespace L2
open PySem PySem.Spec PyProof.Rows LX
theorem L6 {H:Hp} {a:Addr} {o:HO} (h:H a=some o):upd H a o=H:=by
 funext b
 by_cases e:b=a
 ·rw [e,ag,h]
 ·rw [ae e]
section
variable {X:Cx}
def tVe (K:W.Frag) (t:TA):TE:=fun σ H Q=>t σ H fun vs H1=>∃ ea C od r,vs=.ref ea::r∧r.length≤1000∧H1 ea=some (exo true C ea od)∧(∃ cd,gL K C cd)∧Q .non H1
theorem YM {p apos pos:Pos} {e:Expr} {es:List Expr} {t:TA} {pl:Sem Bool} (hg:Gl X "ValueError") (hm:X.mg "ValueError" = none) (ha:PA X (e::es) t)
  (hst:starEach (e::es) X.env=(false,eval e X.env)::starEach es X.env:=by rfl) (hpl:(backTo pos (starEach es X.env)).any (·.1)=false:=by rfl)
  (ht:eval (.Call (.Attribute (.Name "ValueError" p) "__init__" apos) (e::es) [] pos) X.env=(do
   let ov ←eval (.Name "ValueError" p) X.env
   standAt apos.atName
   let (f,first) ←holding [ov] (getMethod ov "__init__" pl)
   callWith pos f first (backTo pos (starEach (e::es) X.env)) (backToKw pos (keywordEach [] X.env))):=by rfl) :
  PE X (.Call (.Attribute (.Name "ValueError" p) "__init__" apos) (e::es) [] pos) (tVe X.K t):=by
 intro pins s σ H Q I h
 refine PySem.W.methodCall_KW (pl:=pl) (xk I hg hm PyProof.Rows.Boot.«ValueError» ?_) ht
 refine N9 I.kIn ?_
 refine PyProof.Rows.callWith_builtin1 (thn (ha pos pins _ σ H _ (I.tok _) h) fun us s1 ⟨vs,H1,I1,r,ea,C,od,rr,ev,hl,h1,⟨cd,xc⟩,q⟩=>?_) hst hpl
 subst ev
 cases r with
 | @cons _ u _ us' r1 r2 =>
 obtain rfl:u=Value.ref ea:=r1
 obtain ⟨fs,sl,a0,z,ha,hf⟩:=xM I1.hok h1
 have hz:us'.length≤sizeLine:=by rw [←r2.length,sizeLine_eq];omega
 have I2:Inv X pins σ H1 {s1 with heap:=s1.heap.push (sk us')}:=I1.kept (t':=s1.toks) fun b u q=>Heap.get?_push_of_some _ q
 have z2:=Heap.get?_push_of_some (h:=s1.heap) (sk us') z
 have hs0:0<fs.size:=(Array.getElem?_eq_some_iff.mp ha).1
 have I3:Inv X pins σ (upd H1 ea (exo true C ea od)) {s1 with heap:=(s1.heap.push (sk us')).update ea (Obj.mapFields (·.setIfInBounds 0 (.ref s1.heap.objs.size)))}:=by
  refine I2.write (x:=ea) (e:=ea) (t':=s1.toks) (by rw [h1];exact True.intro) (.inl rfl) (fun b u hb q=>(Heap.get?_update_other _ _ (Ne.symm hb)).trans q) ⟨_,Ce z2⟩ (Jr ⟨_,_,s1.heap.objs.size,Ce z2,by simp [hs0],fun _=>?_⟩)
  have:=hf rfl
  simpa using this
 rw [L6 h1] at I3
 obtain ⟨hh,g,d,tk,os⟩:=s1
 exact FU xc I1.kIn z ha hz ⟨.non,H1,I3,rfl,q⟩
abbrev TF:=St→Hp→(Hp→Prop)→Prop
def PF (X:Cx) (e:Expr) (t:TF):Prop :=
 ∀ (pins:List (Addr×Obj)) (s:Shared) (σ:St) (H:Hp) (Q:Hp→Prop),Inv X pins σ H s→t σ H Q→wpAny (model X.prog X.w) X.A (eval e X.env) (fun v s1=>∃ y tk H1,v=.str y tk∧y.length≤2000∧Inv X pins σ H1 s1∧Q H1) X.xe s
def PFs (X:Cx) (es:List Expr) (t:TF):Prop :=
 ∀ (out:Str) (pins:List (Addr×Obj)) (s:Shared) (σ:St) (H:Hp) (Q:V→Hp→Prop),out.length+2000*es.length≤100000→Inv X pins σ H s→t σ H (fun H1=>∀ y,y.length≤100000→Q (.str y) H1) →
  wpAny (model X.prog X.w) X.A (joinParts out (evalEach es X.env)) (EP X pins σ Q) X.xe s
def RH:TF:=fun _ H Q=>Q H
def aak (te:TE):TF:=fun σ H Q=>te σ H fun v H1=>∃ i,v=.int i∧i.natAbs.log2<1920∧Q H1
def Wq (t u:TF):TF:=fun σ H Q=>t σ H fun H1=>u σ H1 Q
theorem Hd:(100000:Nat)≤sizeLine:=by rw [sizeLine_eq];omega
theorem hJ {x j pos} (hl:x.length≤2000:=by decide +kernel):PF X (.Constant (.str x) j pos) RH:=fun _ _ _ H _ I h=>Calls.Constant_str ⟨_,_,H,rfl,hl,I.tok _,h⟩
theorem kP {e:Expr} {te:TE} {pos:Pos} (he:PE X e te):PF X (.FormattedValue e (-1) none pos) (aak te):=by
 intro pins s σ H Q I h
 refine FormattedValue_plain (thn (he pins s σ H _ I h) fun u s1 ⟨v,H1,I1,r,i,ev,hi,q⟩=>?_)
 subst ev
 obtain ⟨t,rfl⟩:=(show ∃ t,u=Value.int i t from r)
 exact formatField_int_small hi ⟨_,_,H1,rfl,Nat.le_trans (int_text_len_1921 hi) (by decide),I1.tok _,q⟩
theorem ja:PFs X [] RH:=fun out pins s σ H Q hl I h =>
 joinParts_nil ⟨.str out,H,I.tok _,⟨_,rfl⟩,h out (by simpa using hl)⟩ (Nat.le_trans (by simpa using hl) Hd)
theorem bC {e:Expr} {es:List Expr} {t u:TF} (h1:PF X e t) (h2:PFs X es u):PFs X (e::es) (Wq t u):=by
 intro out pins s σ H Q hl I h
 rw [List.length_cons] at hl
 refine joinParts_consE (joinParts_cons (thn (h1 pins s σ H _ I h) fun v s1 ⟨y,tk,H1,ev,hy,I1,q⟩=>?_))
 subst ev
 have hz:(out++y).length+2000*es.length≤100000:=by rw [strLen_append];omega
 exact ⟨Nat.le_trans (by omega) Hd,h2 (out++y) pins s1 σ H1 Q hz I1 q⟩
def YN (t:TF):TE:=fun σ H Q=>t σ H fun H1=>∀ y,y.length≤100000→Q (.str y) H1
theorem jb {e e':Expr} {es:List Expr} {t:TF} {pos:Pos} (h:PFs X (e::e'::es) t) (hl:2000*(e::e'::es).length≤100000:=by decide):PE X (.JoinedStr (e::e'::es) pos) (YN t) :=
 fun pins s σ H Q I q=>JoinedStr_many (h Str.empty pins s σ H Q (by have z:Str.empty.length=0:=rfl;rw [z];omega) I q)
inductive TyX (K:W.Frag) (H:Hp):V→Value→Prop where
 | of {x:V} {t:Value} (h:CP K H x t):TyX K H x t
 | exc {b:Bool} {a C:Addr} {od:Option Addr} {cd:ClassData} (e:H a=some (exo b C a od)) (hd:od=none∨∃ dx fs,od=some dx∧H dx=some (.xd fs)) (x:gL K C cd) (g:LG K C)
   (hc:PySem.W.findIn K (.ref C) "__class__" = some (some (.builtin "object.__class__"))):TyX K H (.ref a) (.ref C)
def aal:V→Value
 | .ref a=>.ref a
 | .ty n=>.type n
 | _=>.none
theorem L7 {P:Program} {w:World} {H:Hp} {h:Heap} {b:Bool} {C a:Addr} {od:Option Addr} (ok:HOk P w H h) (e:H a=some (exo b C a od)) (hd:od=none∨∃ dx fs,od=some dx∧H dx=some (.xd fs)) :
  ∃ ox o,PySem.W.InstAt h a ox C o:=by
 obtain ⟨fs,sl,a0,z,_⟩:=xM ok e
 rcases hd with rfl|⟨dx,gs,rfl,q⟩
 ·exact ⟨_,_,DT z⟩
 ·obtain ⟨mA,n,_⟩:=(show en P w H h dx (.xd gs) from ok dx _ q)
  obtain ⟨o,_,_,ho,_⟩:=n
  exact ⟨_,_,KS z ho⟩
def RI (K:W.Frag):List V→Hp→VK→Prop:=fun vs H Q=>∃ x c t b,vs=[x,c]∧TyX K H x t∧(∃ n,c=.ty n)∧PySem.W.kitOne K t (aal c)=some b∧Q (.bl b) H
theorem Od {pins:List (Addr×Obj)} {s:Shared} {σ:St} {H:Hp} {x:V} {u c t:Value} {b:Bool} {Q:VK} (I:Inv X pins σ H s) (rx:RelV x u) (ty:TyX X.K H x t) (e:PySem.W.kitOne X.K t c=some b) (q:Q (.bl b) H) :
  wpAny (model X.prog X.w) X.A (call (.builtin "isinstance") [u,c]) (EP X pins σ Q) X.xe s:=by
 have fin:∀ tk,EP X pins σ Q (.bool b) {s with toks:=tk}:=fun tk=>⟨.bl b,H,I.tok tk,rfl,q⟩
 cases ty with
 | of h=>exact KH I rx h e fin
 | exc ea hd xc g hc =>
  cases (show u=Value.ref _ from rx)
  obtain ⟨ox,o,J⟩:=L7 I.hok ea hd
  exact PySem.W.kia_one (Ob xc g hc) I.kIn ⟨ox,o,J⟩ e (fun z=>nomatch z) fin
theorem KY:ux X (.builtin "isinstance") (RI X.K):=by
 rintro pins s σ H xs us Q I r ⟨x,c,t,b,rfl,ty,⟨n,rfl⟩,e,q⟩
 obtain ⟨u,v,rfl,ru,rv⟩:=vals2 r
 cases (show v=Value.type n from rv)
 exact Od I ru ty e q
end
end L2
end
section
namespace L2
open PySem PySem.Spec PyProof.Rows LX
abbrev Cx.FE (X:Cx) (pins:List (Addr×Obj)) (E:Value→Shared→Prop):Cx:={X with xe:=E,pn:=X.pn++pins}
abbrev Cx.qk (X:Cx) (ea:Addr):Cx:={X with A:=X.A.mark (some (.ref ea)),calm:=false,xe:=fun _ _=>False}
section
variable {X:Cx} {pins:List (Addr×Obj)} {σ:St} {H:Hp} {s:Shared} {E:Value→Shared→Prop} {ea:Addr}
theorem Inv.FE (I:Inv X pins σ H s) (E:Value→Shared→Prop):Inv (X.FE pins E) [] σ H s :=
 ⟨⟨I.ok.mod,I.ok.kind,I.ok.glob,I.ok.blt,I.ok.above,I.ok.inj,I.ok.has,I.ok.cab,I.ok.hd,I.ok.frames,I.ok.stk,I.ok.exf,I.ok.bs,I.ok.bsz,I.ok.HY,I.ok.JB,I.ok.xE,I.ok.frf⟩,
  I.os,I.bare,I.base,I.loc,I.cell,I.free,I.kA,fun p hp=>I.pin p (by simpa using hp),I.hok,I.len⟩
theorem Inv.xN {HZ:List (Addr×Obj)} (I:Inv (X.FE pins E) HZ σ H s):Inv X pins σ H s :=
 ⟨⟨I.ok.mod,I.ok.kind,I.ok.glob,I.ok.blt,I.ok.above,I.ok.inj,I.ok.has,I.ok.cab,I.ok.hd,I.ok.frames,I.ok.stk,I.ok.exf,I.ok.bs,I.ok.bsz,I.ok.HY,I.ok.JB,I.ok.xE,I.ok.frf⟩,
  I.os,I.bare,I.base,I.loc,I.cell,I.free,I.kA,fun p hp=>I.pin p (List.mem_append_left _ hp),I.hok,I.len⟩
theorem Inv.qk (I:Inv X pins σ H s) (ea:Addr):Inv (X.qk ea) pins σ H s :=
 ⟨⟨I.ok.mod,I.ok.kind,I.ok.glob,I.ok.blt,I.ok.above,I.ok.inj,I.ok.has,I.ok.cab,(fun z=>nomatch z),I.ok.frames,I.ok.stk,I.ok.exf,I.ok.bs,I.ok.bsz,I.ok.HY,I.ok.JB,I.ok.xE,I.ok.frf⟩,
  I.os,I.bare,I.base,I.loc,I.cell,I.free,I.kA,I.pin,I.hok,I.len⟩
theorem Inv.uncaught {Y:Cx} (I:Inv (Y.qk ea) pins σ H s) (ok:Y.Ok):Inv Y pins σ H s:=⟨ok,I.os,I.bare,I.base,I.loc,I.cell,I.free,I.kA,I.pin,I.hok,I.len⟩
theorem Inv.YO {o:HO} {c:Value} {od:Option Addr} {fs:Array Value} {sl:Array (Option Value)} (I:Inv X pins σ H s) (hn:H ea=none) (h0:X.s₀.heap.get? ea=none) (hr:s.heap.get? ea=some (dW c od fs sl))
  (hp:∀ p∈X.pn++pins,p.1≠ea) (new:en X.prog X.w (upd H ea o) s.heap ea o):Inv X pins σ (upd H ea o) s:=by
 have ne:∀ b u,H b=some u→b≠ea:=fun b u q e=>by rw [e,hn] at q;cases q
 refine ⟨I.ok,I.os,I.bare,⟨I.base.keep,I.base.slot,fun b u q n hx=>?_,I.base.there,fun b xs q=>?_,fun b u v q=>?_,fun b ps q=>?_⟩,I.loc,I.cell,?_,fun x c' q=>?_,fun p hq=>?_,I.hok.add hn new,I.len⟩
 ·rw [ae fun e=>by rw [e,h0] at q;cases q]
  exact I.base.free b u q n hx
 ·have r:=I.base.B9 b xs q
  rw [ae (ne b _ r)];exact r
 ·have r:=I.base.Bl b u v q
  rw [ae (ne b _ r)];exact r
 ·obtain ⟨more,r⟩:=I.base.Ca b ps q
  exact ⟨more,by rw [ae (ne b _ r)];exact r⟩
 ·rw [ae fun e=>?_]
  ·exact I.free
  ·obtain ⟨m,⟨oL,es,ep,ho,hd,_⟩,_⟩:=I.loc
   rw [e,hr] at ho
   cases ho
   cases hd
 ·rw [ae fun e=>?_]
  ·exact I.kA x c' q
  ·obtain ⟨v,oc,ho,hd⟩:=I.cell x c' q
   rw [e,hr] at ho
   cases ho
   cases hd
 ·obtain ⟨e,n,z⟩:=I.pin p hq
  exact ⟨e,by rw [ae (hp p hq)];exact n,z⟩
end
def JM (i:Nat) (D:Ends):Ends:={nx:=fun σ H=>D.nx (σ.set i none) H,rt:=D.rt,bk:=fun σ H=>D.bk (σ.set i none) H,ct:=fun σ H=>D.ct (σ.set i none) H}
def Np (K:W.Frag) (Dc:Addr) (i:Nat) (ts:TS) (D:Ends):St→XK:=fun σ c od H=>∃ C cd,c=.ref C∧gL K C cd∧cd.mro.contains (.ref Dc)=true∧∀ ea,H ea=none→ts (JM i D) (σ.set i (some (.ref ea))) (upd H ea (exo false C ea od))
def aam (K:W.Frag) (Dc:Addr) (i:Nat) (tb:(St→XK)→TS) (ts:TS):TS:=fun D σ H=>tb (Np K Dc i ts D) D σ H
section
variable {X:Cx}
theorem L8 {pins:List (Addr×Obj)} {σ:St} {H:Hp} {s:Shared} {E:Value→Shared→Prop} {n:Str} {i:Nat} {pos:Pos} {Q:Unit→Shared→Prop} (I:Inv X pins σ H s) (hN:X.N.Nodup) (hi:X.N[i]?=some n) (hx:X.env.scope.names.lookup n=some .local)
  (k:∀ s',Inv X pins (σ.set i none) H s'→Q () s'):wpAny (model X.prog X.w) X.A (do bindName X.env n .none;unbindBehindTheSuite X.env n pos) Q E s:=by
 obtain ⟨m,hn,hl⟩:=id I.loc
 have WR:(X.env.scope.kind == .class||(X.env.scope.kind == .module&&X.env.locals != X.env.globals))=false:=by rw [I.ok.kind];rfl
 refine wpAny_nameGoes_keeps hx hn WR fun h' v hn' hs=>k _ ?_
 obtain ⟨oL,_,_,hoL,_⟩:=id hn
 have tr:HOk X.prog X.w H h':=I.hok.keeps fun b u o q r=>(hs.2 b fun e=>by rw [e,I.free] at q;cases q).trans r
 refine ⟨I.ok,I.os,I.bare,⟨fun b o e n hb hx=>?_,fun b o e n hb hx=>?_,I.base.free,fun b o e hx=>?_,I.base.B9,I.base.Bl,I.base.Ca⟩,⟨_,hn',fun j y v' e1 e2 e3=>?_⟩,fun y c e=>?_,I.free,I.kA,fun p hp=>?_,tr,by simpa using I.len⟩
 ·exact (hs.2 b (Nat.ne_of_lt (Nat.lt_of_lt_of_le (Heap.lt_size e) I.ok.above))).trans (I.base.keep b o e n hb hx)
 ·obtain ⟨sl,e1⟩:=I.base.slot b o e n hb hx
  exact ⟨sl,(hs.2 b (Nat.ne_of_lt (Nat.lt_of_lt_of_le (Heap.lt_size e) I.ok.above))).trans e1⟩
 ·obtain ⟨o',e1⟩:=I.base.there b o e hx
  exact ⟨o',(hs.2 b (Nat.ne_of_lt (Nat.lt_of_lt_of_le (Heap.lt_size e) I.ok.above))).trans e1⟩
 ·by_cases hj:j=i
  ·subst hj
   rw [List.getElem?_set] at e2
   simp only [if_true] at e2
   split at e2<;>cases e2
  ·rw [List.getElem?_set_ne (Ne.symm hj)] at e2
   obtain ⟨u',r',q⟩:=hl j y v' e1 e2 e3
   refine ⟨u',r',?_⟩
   rcases q with ⟨kk,e⟩|⟨kk,c,e,z⟩
   ·refine .inl ⟨kk,?_⟩
    have:y≠n:=fun e=>hj (CC hN e1 (e ▸ hi))
    simp [this,e]
   ·exact .inr ⟨kk,c,e,z.sameBut hs (I.cne y c e)⟩
 ·obtain ⟨w',z⟩:=I.cell y c e
  exact ⟨w',z.sameBut hs (I.cne y c e)⟩
 ·obtain ⟨e,n,ne,nf,d⟩:=I.pin p hp
  exact ⟨(hs.2 p.1 ne).trans e,n,ne,nf,d⟩
theorem Wr {body RJ:List Stmt} {b₀:Stmt} {x n:Str} {np hpos pos:Pos} {i:Nat} {Dc:Addr} {cdD:ClassData} {tb:(St→XK)→TS} {ts:TS} (hex:X.ex=[]) (hst:X.stack=X.env::X.outer) (hfr:X.env.frame=some X.env.locals) (hg:Gl X x) (hm:X.mg x=some (.ref Dc))
  (hD:gL X.K Dc cdD) (hN:X.N.Nodup) (hi:X.N[i]?=some n) (hx:X.env.scope.names.lookup n=some .local)
  (hb:∀ (pins:List (Addr×Obj)) (E:Value→Shared→Prop) (EK:St→XK),iO (CXE X.prog X.w) (X.FE pins E) EK→PSs (X.FE pins E) body (tb EK))
  (hs:∀ ea,PSs (X.qk ea) (b₀::RJ) ts) (hdb:(x == ("__debug__" : Str))=false:=by decide) :
  PS X (.Try body [.ExceptHandler (some (.Name x np)) (some n) (b₀::RJ) hpos] [] [] pos) (aam X.K Dc i tb ts):=by
 intro pins s σ H D I h
 refine wpAny_Try_except ?_
 refine wpAny_mono (hb pins (fun e s₁=>∃ σ' H1 sc,Inv X pins σ' H1 sc∧CXE X.prog X.w X.stack H1 sc (Np X.K Dc i ts D σ') e s₁) (Np X.K Dc i ts D)
  (fun HZ σ' H1 sc e s' J q=>⟨σ',H1,sc,J.xN,q⟩) [] s σ H D (I.FE _) h) (fun fl s1 q=>?_) fun e s1 q=>?_
 ·cases fl with
  | next =>
   obtain ⟨σ',H',J,q⟩:=q
   exact wpAny_execs_nil ⟨σ',H',J.xN,q⟩
  | brk=>obtain ⟨σ',H',J,q⟩:=q;exact ⟨σ',H',J.xN,q⟩
  | cont=>obtain ⟨σ',H',J,q⟩:=q;exact ⟨σ',H',J.xN,q⟩
  | ret u=>obtain ⟨v,σ',H',J,r,q⟩:=q;exact ⟨v,σ',H',J.xN,r,q⟩
 ·obtain ⟨σ',H1,sc,J,ea,Cv,T,od,fs,sl,H',rfl,l,C,cd,ec,xc,hmr,q⟩:=q
  cases ec
  have hA:X.A.frames=some (X.env::X.outer):=by rw [J.ok.frames,hst]
  have hF:s1.heap.FunFrames X.base (X.env::X.outer):=by rw [←hst];exact l.frames J
  have e0:X.s₀.heap.get? ea=none:=by
   cases z:X.s₀.heap.get? ea with
   | none=>rfl
   | some o =>
    obtain ⟨o',z'⟩:=J.base.there ea o z (by rw [hex];exact List.not_mem_nil)
    rw [l.RD] at z';cases z'
  have st:∀ (m:Heap) (tk:Nat),Kept (fU X.stack) [ea,T] s1.heap m→Inv X pins σ' H' {s1 with heap:=m,toks:=tk}:=fun m tk k=>by
   obtain ⟨un,hok⟩:=l.on (t':=s1.toks) J k
   exact J.Lr l.os un hok l.bare fun b z=>absurd z (by simp)
  have pn:∀ p∈X.pn++pins,p.1≠ea:=fun p hp e=>by
   obtain ⟨z,_⟩:=J.pin p hp
   rw [e,l.RD] at z;cases z
  refine JL hA hF hfr l.at_ l.trail fun m T' oc tsx z1 z2 z3 z4 z5=>?_
  have Te:T'≠ea:=Nat.ne_of_gt (Nat.lt_of_lt_of_le (Heap.lt_size l.at_) z1)
  have f1:(fs.setIfInBounds 1 (Value.ref T'))[1]?=some (.ref T'):=by
   have:=l.trail.size
   simp [this]
  have k1:Kept (fU X.stack) [ea,T] s1.heap m:=by rw [hst];exact z2
  refine uy (s:={s1 with heap:=m}) z3 f1 Te z4 (Array.getElem?_eq_some_iff.mp z5).1 fun m' q1 q2 q3=>?_
  have nT:∀ b o,s1.heap.get? b=some o→b≠T':=fun b o q=>Nat.ne_of_lt (Nat.lt_of_lt_of_le (Heap.lt_size q) z1)
  have k2:Kept (fU X.stack) [ea,T] s1.heap m':=⟨fun b o q hb hx=>q1 b o (nT b o q) (k1.plain b o q hb hx),fun b o q hb hx=>by
   obtain ⟨sm,r⟩:=k1.frame b o q hb hx
   exact ⟨sm,q1 b _ (nT b o q) r⟩⟩
  have J2:=st m' s1.toks k2
  refine wpAny_handleBy_cons (codeAny_handlers_test ?_) (by intro z;cases z)
  refine qc (X:=X.qk ea) (J2.qk ea) hg hm ?_ hdb
  refine FV xc hD J2.kIn q3 ?_
  rw [hmr]
  refine codeAny_handlers_suite_as ?_
  cases q2 with
  | @some _ oc2 ts2 d2 sm2 y1 y2 y3 y4 =>
  refine uy (s:={s1 with heap:=m'}) q3 y1 y2 y3 (Array.getElem?_eq_some_iff.mp y4).1 fun m3 r1 r2 r3=>?_
  have k3:Kept (fU X.stack) [ea,T] s1.heap m3:=⟨fun b o q hb hx=>r1 b o (nT b o q) (k2.plain b o q hb hx),fun b o q hb hx=>by
   obtain ⟨sm,r⟩:=k2.frame b o q hb hx
   exact ⟨sm,r1 b _ (nT b o q) r⟩⟩
  have J3:=st m3 s1.toks k3
  obtain ⟨a0,ha⟩:=l.args
  have J4:Inv X pins σ' (upd H' ea (exo false Cv ea od)) {s1 with heap:=m3}:=J3.YO l.Lu e0 r3 pn (Jr ⟨_,_,a0,r3,by simpa using ha,fun z=>nomatch z⟩)
  refine xo (X:=X.qk ea) (J4.qk ea) hN hi (.inl hx) (v:=.ref ea) rfl (fun s5 J5=>?_) (.inr hx)
  refine wpAny_mono (hs ea pins s5 _ _ (JM i D) J5 (q ea l.Lu)) (fun fl s6 w=>?_) fun _ _ z=>False.elim z
  have off:∀ {σ6:St} {H6:Hp} {Q6:Unit→Shared→Prop},Inv (X.qk ea) pins σ6 H6 s6→(∀ s7,Inv X pins (σ6.set i none) H6 s7→Q6 () s7)→wpAny (model X.prog X.w) X.A (do bindName X.env n .none;unbindBehindTheSuite X.env n hpos) Q6 X.xe s6 :=
   fun J6 k=>L8 (J6.uncaught J.ok) hN hi hx k
  cases fl with
  | next=>obtain ⟨σ6,H6,J6,w⟩:=w;exact off J6 fun s7 J7=>⟨_,_,J7,w⟩
  | brk=>obtain ⟨σ6,H6,J6,w⟩:=w;exact off J6 fun s7 J7=>⟨_,_,J7,w⟩
  | cont=>obtain ⟨σ6,H6,J6,w⟩:=w;exact off J6 fun s7 J7=>⟨_,_,J7,w⟩
  | ret u=>obtain ⟨v,σ6,H6,J6,r,w⟩:=w;exact off J6 fun s7 J7=>⟨v,_,_,J7,r,w⟩
end
end L2
end
section
namespace L2
open PySem PySem.Spec PyProof.Rows LX
section
variable {X:Cx}
def YQ (K:W.Frag):R2:=fun x y H Q=>∃ l b xs zs,x=.ref l∧y=.ref b∧SqL K H l xs∧SqL K H b zs∧xs.length+zs.length≤sizeLine∧∀ p,H p=none→Q (.ref p) (upd H p (.lst (xs++zs)))
theorem JN:OpR X (binaryOp .Add) (YQ X.K):=by
 intro pins s σ H x y v u Q I rx ry h
 obtain ⟨l,b,xs,zs,rfl,rfl,hx,hy,hz,q⟩:=h
 cases rx
 cases ry
 obtain ⟨vs,r1,⟨⟨c1,d1,da1,s1⟩,n1,e1,f1,_,g1⟩,_⟩:=I.list hx
 obtain ⟨ws,r2,⟨⟨c2,d2,da2,s2⟩,n2,e2,f2,_,g2⟩,_⟩:=I.list hy
 simp only at f1 g1 f2 g2
 subst f1 g1 f2 g2
 have hl:vs.length+ws.length≤sizeLine:=by rw [←r1.length,←r2.length];exact hz
 have ea:vs.toArray++ws.toArray=(vs++ws).toArray:=by simp
 refine concat_meets ⟨_,e1,rfl⟩ ⟨_,e2,rfl⟩ noFill_list_add seq_list_add PySem.F.slot_list_add PySem.F.entry_list_add (PySem.F.args_list_add_2 _ _) (list_addW l b vs.toArray ws.toArray n1 n2 d1 d2 s1 s2 (by simpa using hl)) ⟨e1,e2,?_⟩
 rw [ea]
 exact ⟨.ref _,_,I.Rx (t':=s.toks) (r1.append r2) (by rw [List.length_append];exact hz),rfl,q _ I.fresh⟩
end
theorem aG.upd {H:Hp} {a:Addr} {o:HO} (h:H a=none):aG H (L2.upd H a o):=fun b u q=>by rw [ae fun e=>by rw [e,h] at q;cases q];exact q
structure Il (K:W.Frag) (C:Addr):Prop where
 cls:∃ cd,gL K C cd
 get:LG K C
 own:PySem.W.findIn K (.ref C) "__class__" = some (some (.builtin "object.__class__"))
def Bo (K:W.Frag):Sp:=fun vs H Q _=>∃ ea C od x,vs=[.ref ea,x]∧H ea=some (exo true C ea od)∧(∃ cd,gL K C cd)∧Q .non H
theorem KZ {K:W.Frag} {i:Nat} {σ:St} {H:Hp} {Q:VK} {x:V} {D:String} {t:Value} {b:Bool} (h0:σ[i]?=some (some x)) (ty:TyX K H x t) (hk:PySem.W.kitOne K t (.type D)=some b) (q:Q (.bl b) H) :
  tCB (RI K) (mW (Rn i) (mW (tC (.ty D)) JH)) σ H Q:=⟨x,h0,x,.ty D,t,b,rfl,ty,⟨_,rfl⟩,hk,q⟩
theorem YR {X:Cx} {x:Str} {T:String} {pos:Pos} (hg:Gl X x) (hm:X.mg x=none) (hv:bootBuiltins x=some (.type T)) (hn:x ≠ "__name__" := by decide) (hd:(x == ("__debug__" : Str))=false:=by decide):PE X (.Name x pos) (tC (.ty T)) :=
 fun _ _ _ H _ I h=>xk I hg hm hv ⟨.ty T,H,I,rfl,h⟩ hn hd
theorem iT {P:Program} {w:World} {X:Cx}:iO (CXE P w) X.nox (fun _ _ _ _=>False):=fun _ _ _ _ _ _ _ ⟨_,_,_,_,_,_,_,_,_,q⟩=>q.elim
theorem K0 {n:Int} (h:n.natAbs<2 ^ 1920):n.natAbs.log2<1920:=by
 by_cases z:n.natAbs=0
 ·rw [z];decide
 ·exact (Nat.log2_lt z).mpr h
theorem YS {P:Program} {w:World} {outer:List Env} {H:Hp} {s:Shared} {e:Value} {s':Shared} (h:CXE P w outer H s (fun _ _ _=>False) e s'):False:=by
 obtain ⟨_,_,_,_,_,_,_,_,_,q⟩:=h
 exact q
end L2
end
section
namespace L2
open PySem PySem.Spec PyProof.Rows LX
end L2
end
section
namespace L2
open PySem PySem.Spec PyProof.Rows LX
section
variable {X:Cx}
variable {o e value:Expr} {f:Str} {pos pos':Pos} {ta tv:TE}
structure RK (K:W.Frag) (C:Addr) (m:Str) (f:Addr):Prop where
 rd:PySem.W.readsIn K C (.type "type")=true
 fc:PySem.W.findCls K (.ref C) (.type "type") m=some (.val (.ref f))
 ga:PySem.W.specialIn K (.ref C) "__getattribute__" = some (some (.builtin "type.__getattribute__"))
 kp:PySem.W.keepIn K (.ref f)=true
theorem Ws {CX:CXT} {k:Nat} {f C:Addr} {fd:FuncData} {ps:List Str} {sp:Sp} {EK:St→XK} {x m:Str} {p apos pos:Pos} {e:Expr} {es:List Expr} {t:TA} {pl:Sem Bool} (hg:Gl X x) (hm:X.mg x=some (.ref C)) (c:RK X.K C m f) (F:xI X.prog X.w X.K X.mg X.base CX k f fd ps sp) (hr:kR k X.A) (hb:Binds X.K fd ps [])
  (hx:iO CX X EK) (ha:PA X (e::es) t) (hdb:(x == ("__debug__" : Str))=false:=by decide) (hst:starEach (e::es) X.env=(false,eval e X.env)::starEach es X.env:=by rfl) (hpl:(backTo pos (starEach es X.env)).any (·.1)=false:=by rfl)
  (ht:eval (.Call (.Attribute (.Name x p) m apos) (e::es) [] pos) X.env=(do
   let ov ←eval (.Name x p) X.env
   standAt apos.atName
   let (f,first) ←holding [ov] (getMethod ov m pl)
   callWith pos f first (backTo pos (starEach (e::es) X.env)) (backToKw pos (keywordEach [] X.env))):=by rfl) :
  PE X (.Call (.Attribute (.Name x p) m apos) (e::es) [] pos) (RE sp [] EK t):=by
 intro pins s σ H Q I h
 refine PySem.W.methodCall_KW (pl:=pl) (qc I hg hm ?_ hdb) ht
 refine PySem.W.method_cls I.kIn c.ga (PySem.W.cls_value I.kIn c.rd c.fc rfl ?_)
 exact PySem.W.callWith_K (first:=[]) (h₀:=X.base) I.ok.mod.kin c.kp (thn (ha pos pins _ σ H _ (I.tok _) h) fun us s1 ⟨vs,H1,I1,r,q⟩=>⟨I1.kIn,RG F hr hb .nil hx I1 r q⟩) hst hpl
end
end L2
end
section
namespace L2
open PySem PySem.Spec PyProof.Rows LX
theorem Ec {prog:Program} {w:World} {A:Around} {R:Result→Shared→Prop} {s:Shared} {elt target iter:Expr} {scope:Scope} {pos:Pos} {it acc:Value} {env:Env} (I:Nat→Shared→Prop)
  (turn:∀ n s,I n s→wpAny (model prog w) A (pyNext it) (fun r s₁=>match r with
   | none=>R (.ok .next) s₁
   | some v=>wpAny (model prog w) A (letOwnedTupleGo target it v) (fun _ s5=>wpAny (model prog w) A (assign target env v) (fun _ s₂=>wpAny (model prog w) A (eval elt env) (fun x s₃ =>
     wpAny (model prog w) A (call (.builtin "list.append") [acc,x]) (fun _ s₄=>∃ m,m<n∧I m s₄) (notedBy (model prog w) A env fun e s'=>R (.error e) s') s₃)
     (notedBy (model prog w) A env fun e s'=>R (.error e) s') s₂) (notedBy (model prog w) A env fun e s'=>R (.error e) s') s5) (notedBy (model prog w) A env fun e s'=>R (.error e) s') s₁) (notedBy (model prog w) A env fun e s'=>R (.error e) s') s)
  (n:Nat) (h:I n s):codeAny (model prog w) A (.compLoop (.ListComp elt [⟨target,iter,[],0⟩] scope pos) 0 it acc env) R s:=by
 refine codeAny_loop rfl I (fun n s hI=>?_) n h
 show wpAny _ _ ((compTurn (.ListComp elt [⟨target,iter,[],0⟩] scope pos) 0 it acc env).onRaise (fun x=>do noteFrame x env;theTreesLotGoes x)) _ _ s
 refine wpAny_noted ?_
 rw [compTurn_list1]
 refine wpAny_bind (wpAny_standAt (wpAny_bind (wpAny_mono (turn n s hI) (fun r s₁ h₁=>?_) fun _ _ h'=>h')))
 cases r with
 | none=>exact wpAny_pure h₁
 | some v =>
  refine wpAny_bind (wpAny_mono h₁ (fun _ s5 h5=>?_) fun _ _ h'=>h')
  exact wpAny_bind (wpAny_mono h5 (fun _ s₂ h₂=>wpAny_bind (wpAny_bind (wpAny_mono h₂ (fun x s₃ h₃=>wpAny_bind (wpAny_mono h₃
   (fun _ s₄ h₄=>wpAny_pure (wpAny_pure ⟨rfl,h₄⟩)) fun _ _ h'=>h')) fun _ _ h'=>h'))) fun _ _ h'=>h')
abbrev cxC (X:Cx) (scope:Scope) (cl:List (Str×Addr)) (NC:List Str) (C:Addr) (fp:List Addr) (s₀:Shared) (H₀:Hp):Cx :=
 {X with N:=NC,s₀:=s₀,H₀:=H₀,env:=compEnvC scope cl C X.env,outer:=X.stack,ex:=fp,fn:=fun _=>false,pn:=[],xe:=fun _ _=>False}
def zV (σ:St) (idx:List Nat):St:=idx.map fun i=>(σ[i]?).getD none
structure CU (X:Cx) (scope:Scope) (cl:List (Str×Addr)) (x:Str) (idx:List Nat) (NC:List Str):Prop where
 Zt:closureFor scope X.env=pure cl
 sub:∀ y c,cl.lookup y=some c→X.env.cells.lookup y=some c
 has:∀ y,((relabel scope X.env).names.lookup y=some .cell∨(relabel scope X.env).names.lookup y=some .free)→∃ c,cl.lookup y=some c
 MH:∀ y∈scope.names,y.2≠.cell
 kind:scope.kind=.function
 loc:∀ y∈scope.names,y.2=.local→scope.names.lookup y.1=some .local
 xl:scope.names.lookup x=some .local
 nc:NC=x::idx.map fun i=>X.N.getD i x
 nd:NC.Nodup
 cap:∀ i∈idx,i<X.N.length∧((X.env.scope.names.lookup (X.N.getD i x)=some .cell∨X.env.scope.names.lookup (X.N.getD i x)=some .free)∧((relabel scope X.env).names.lookup (X.N.getD i x)=some .cell∨(relabel scope X.env).names.lookup (X.N.getD i x)=some .free))
section
variable {X:Cx} {scope:Scope} {cl:List (Str×Addr)} {x:Str} {idx:List Nat} {NC:List Str} {C:Addr} {fp:List Addr} {pins:List (Addr×Obj)} {σ:St} {H:Hp} {s:Shared}
theorem He {h1:Heap} {t':Nat} (c:CU X scope cl x idx NC) (I:Inv X pins σ H s) (hf:∀ b∈fp,DL X pins H b) (hlt:∀ b∈fp,b<s.heap.objs.size) (ns:h1.Ns s.heap.objs.size (fun _=>none))
  (k:∀ b o,s.heap.get? b=some o→h1.get? b=some o):Inv (cxC X scope cl NC s.heap.objs.size fp s H) [] (none::zV σ idx) H {s with heap:=h1,toks:=t'}:=by
 have sub:∀ b,b∈frs X.stack→b∈X.env.locals::X.fs:=I.Bh
 refine ⟨⟨I.ok.mod,c.kind,I.ok.glob,I.ok.blt,Nat.le_refl _,fun y z a h1 h2=>I.ok.inj y z a (c.sub _ _ h1) (c.sub _ _ h2),c.has,fun y a z=>(by cases z),I.ok.hd,I.ok.frames,.inl rfl,fun b hb=>⟨Nat.ne_of_lt (hlt b hb),fun y a q=>(hf b hb).2.2.2.2.1 y a (c.sub _ _ q)⟩,
  fun b o q=>I.bs b o q,Nat.le_trans I.ok.bsz I.sz,fun b o q hb=>?_,fun b hb z=>?_,I.stack,I.xF⟩,rfl,I.bare,Un.kept k,⟨_,ns,fun i y v e1 e2 e3=>?_⟩,fun y a q=>?_,I.hok.fresh (Nat.le_refl _),fun y a q=>I.kA _ _ (c.sub _ _ q),fun p hp=>(by cases hp),I.hok.keeps fun b u o _ q=>k b o q,?_⟩
 ·rcases (hf b hb).2.2.2.1 with z|z
  ·exact I.ok.HY b o q z
  ·exact absurd (Nat.lt_of_lt_of_le (Heap.lt_size (I.ok.bs b o q).1) z) (Nat.lt_irrefl _)
 ·rcases List.mem_cons.mp (sub b z) with r|r
  ·exact (hf b hb).2.1 r
  ·exact (hf b hb).2.2.1 r
 ·cases i with
  | zero=>cases e2
  | succ j =>
   have e1':(idx.map fun i=>X.N.getD i x)[j]?=some y:=by
    have:(cxC X scope cl NC s.heap.objs.size fp s H).N=NC:=rfl
    rw [this,c.nc] at e1
    exact e1
   have e2':(zV σ idx)[j]?=some (some v):=e2
   rw [List.getElem?_map] at e1'
   unfold zV at e2'
   rw [List.getElem?_map] at e2'
   cases ei:idx[j]? with
   | none=>rw [ei] at e1';cases e1'
   | some i =>
    rw [ei] at e1' e2'
    simp only [Option.map_some,Option.some.injEq] at e1' e2'
    obtain ⟨hi,h2,h3⟩:=c.cap i (List.mem_of_getElem? ei)
    rw [e1'] at h2 h3
    have hN:X.N[i]?=some y:=by
     rw [←e1']
     simp [List.getD,List.getElem?_eq_getElem hi]
    have hσ:σ[i]?=some (some v):=by
     cases q:σ[i]? with
     | none=>rw [q] at e2';cases e2'
     | some o=>rw [q] at e2';simp only [Option.getD_some] at e2';rw [e2']
    obtain ⟨m,hn,hl⟩:=I.loc
    obtain ⟨u,r,l⟩:=hl i y v hN hσ (h2.elim (fun z=>.inr (.inl z)) fun z=>.inr (.inr z))
    refine ⟨u,r,.inr ⟨h3,?_⟩⟩
    rcases l with ⟨l,_⟩|⟨_,a,ha,hc⟩
    ·exfalso
     have l':X.env.scope.names.lookup y=some .local:=l
     rcases h2 with z|z<;>(rw [l'] at z;cases z)
    ·obtain ⟨a',ha'⟩:=c.has y h3
     have:=c.sub _ _ ha'
     rw [ha] at this
     cases this
     exact ⟨a,ha',hc.keeps k⟩
 ·obtain ⟨v,z⟩:=I.cell _ _ (c.sub _ _ q)
  exact ⟨v,z.keeps k⟩
 ·show _=NC.length
  rw [c.nc]
  simp [zV]
def Js (J:It) (D:Addr) (τ:St) (te:TE) (Q:VK) (H:Hp):Prop:=∃ W:Nat→Nat→List V→Hp→Prop,(∃ m,W 0 m [] H)∧∀ i m ys H2,W i m ys H2→H2 D=some (.lst ys) ∧
 ((J.stop i H2∧Q (.ref D) H2)∨(J.go i H2∧ys.length<sizeLine∧∃ N:List V→Hp→Prop,(∀ zs H',N zs H'→∃ m',m'<m∧W (i+1) m' zs H')∧∀ y H3,J.yld i H2 y H3→te (some y::τ) H3 fun v H4=>H4 D=some (.lst ys)∧N (ys++[v]) (upd H4 D (.lst (ys++[v])))))
def YT (wi:TI) (idx:List Nat) (te:TE):TE:=fun σ H Q=>wi σ H fun J H1=>∀ D,H1 D=none→Js J D (zV σ idx) te Q (upd H1 D (.lst []))
theorem Hg {X:Cx} {pins:List (Addr×Obj)} {σ:St} {H:Hp} {s:Shared} {D:Addr} {ys:List V} {v:V} {u:Value} (I:Inv X pins σ H s) (h:H D=some (.lst ys)) (hz:ys.length<sizeLine) (r:RelV v u) :
  wpAny (model X.prog X.w) X.A (call (.builtin "list.append") [.ref D,u]) (fun _ s'=>Inv X pins σ (upd H D (.lst (ys++[v]))) s') X.xe s:=by
 refine thn (oj pins s σ H (.ref D) [v] (.ref D) [u] (fun _ H'=>H'=upd H D (.lst (ys++[v]))) I rfl (.cons r .nil) ⟨D,ys,v,rfl,rfl,h,hz,rfl⟩) fun w s' ⟨_,H',I',_,e⟩=>?_
 rw [←e]
 exact I'
theorem xO {elt iter:Expr} {px pos:Pos} {wi:TI} {te:TE} (c:CU X scope cl x idx NC) (hc:X.calm=true) (hi:PI X (.Name x px) iter wi) (he:∀ C fp s₀ H₀,PE (cxC X scope cl NC C fp s₀ H₀) elt te)
  (hs:∀ x,foldedSetIterable iter X.env x=pure x:=by intro _;rfl):PE X (.ListComp elt [⟨.Name x px,iter,[],0⟩] scope pos) (YT wi idx te):=by
 intro pins s σ H Q I h
 rw [eval_ListComp]
 refine wpAny_comprehension_free (use:=none) rfl hs c.Zt c.kind c.loc (thn (hi pins s σ H _ I h) fun v s1 h1=>thn h1 fun itv s2 h2=>?_)
 obtain ⟨it,fp,tn,J,H2,rfl,I2,T,st2,f2,q⟩:=h2
 refine wpAny_newObj_type (wpAny_newFunctionEnv c.MH (by intro y hy;simp at hy) (fun h₁ hns₁ hsb₁=>?_) c.kind)
 dsimp only at hns₁ hsb₁ ⊢
 have I3:Inv X pins σ (upd H2 s2.heap.objs.size (.lst [])) {s2 with heap:=s2.heap.push {cls:=.type "list",data:=.seq ([]:List Value).toArray},toks:=s2.toks}:=I2.Rx (ys:=[]) (its:=[]) .nil (Nat.zero_le _)
 obtain ⟨W,⟨m0,w0⟩,turn⟩:=q s2.heap.objs.size I2.fresh
 generalize hD:s2.heap.objs.size=D at *
 generalize hH:s2.heap.push {cls:=.type "list",data:=.seq ([]:List Value).toArray}=h3 at *
 have Oe:∀ b∈fp,b<D:=fun b hb=>by
  obtain ⟨o,e,_⟩:=T.obj _ _ st2 b hb
  rw [←hD]
  exact Heap.lt_size e
 have hlt:∀ b∈fp,b<h3.objs.size:=fun b hb=>by
  rw [←hH,Heap.size_push,hD]
  exact Nat.lt_succ_of_lt (Oe b hb)
 have hf:∀ b∈fp,DL X pins (upd H2 D (.lst [])) b:=fun b hb=>⟨by rw [ae (Nat.ne_of_lt (Oe b hb))];exact (f2 b hb).1,(f2 b hb).2⟩
 have kp:∀ b o,h3.get? b=some o→h₁.get? b=some o:=fun b o e=>hsb₁.extBut b o (Nat.ne_of_lt (Heap.lt_size e)) (Heap.get?_push_of_some _ e)
 have I4:Inv (cxC X scope cl NC h3.objs.size fp {s2 with heap:=h3,toks:=s2.toks} (upd H2 D (.lst []))) [] (none::zV σ idx) (upd H2 D (.lst [])) {s2 with heap:=h₁,toks:=s2.toks+([]:List (Str×Value)).length} :=
  He (s:={s2 with heap:=h3,toks:=s2.toks}) c I3 hf hlt hns₁ kp
 have Fu:∀ {H':Hp},(∀ b∈fp,H' b=none)→∀ b∈fp,DL (cxC X scope cl NC h3.objs.size fp {s2 with heap:=h3,toks:=s2.toks} (upd H2 D (.lst []))) [] H' b:=fun hn b hb =>
  ⟨hn b hb,Nat.ne_of_lt (hlt b hb),fun z=>(List.mem_cons.mp (I3.Bh b z)).elim (hf b hb).2.1 (hf b hb).2.2.1,.inl hb,fun y a q=>(hf b hb).2.2.2.2.1 y a (c.sub _ _ q),fun p hp=>(by cases hp)⟩
 have st1:tn 0 h₁:=T.keep 0 _ _ st2 fun b hb o e=>kp b o (by rw [←hH];exact Heap.get?_push_of_some _ e)
 have loop:∀ s4:Shared,s4={s2 with heap:=h₁,toks:=s2.toks+([]:List (Str×Value)).length} →
   codeAny (model X.prog X.w) X.A (.compLoop (.ListComp elt [⟨.Name x px,iter,[],0⟩] scope pos) 0 (.ref it) (.ref D) (compEnvC scope cl h3.objs.size X.env)) (compPost (model X.prog X.w) X.A X.xe none (EP X pins σ Q) (.ref D) h3.objs.size) s4:=by
  rintro s4 rfl
  refine Ec (fun n s'=>∃ i ys H' v0,Inv (cxC X scope cl NC h3.objs.size fp {s2 with heap:=h3,toks:=s2.toks} (upd H2 D (.lst []))) [] (v0::zV σ idx) H' s'∧tn i s'.heap∧(∀ b∈fp,H' b=none)∧W i n ys H')
   ?_ m0 ⟨0,[],_,none,I4,st1,fun b hb=>(hf b hb).1,w0⟩
  rintro n s5 ⟨i,ys,H5,v0,I5,st5,fr5,w5⟩
  obtain ⟨hDl,alt⟩:=turn i n ys H5 w5
  rcases alt with ⟨stop,qn⟩|⟨go,hz,N,hN,step⟩
  ·refine thn (T.done (cxC X scope cl NC h3.objs.size fp {s2 with heap:=h3,toks:=s2.toks} (upd H2 D (.lst []))) rfl rfl rfl hc i [] s5 _ H5 _ I5 (Fu fr5) st5 stop) fun r s6 ⟨hr,I6⟩=>?_
   subst hr
   obtain ⟨m,ns6,_⟩:=id I6.loc
   refine ⟨m,ns6,fun h' hs'=>⟨.ref D,H5,?_,rfl,qn⟩⟩
   have J6:Inv X pins σ H5 s6:=I3.Lr (ch:=fp) I6.os I6.base I6.hok I6.bare fun b hb=>⟨(hf b hb).2.2.2.1,(hf b hb).2.1,(hf b hb).2.2.2.2.1,(hf b hb).2.2.2.2.2⟩
   refine J6.turned (t':=s6.toks) (it:=h3.objs.size) (fun b o hb e=>hs'.extBut b o hb e) I6.free (Nat.ne_of_gt I3.lt) (.inr I3.sz) (fun y a q z=>?_) (fun p hp z=>?_)
   ·obtain ⟨v,q'⟩:=I3.cell y a q
    exact absurd q'.lt (by rw [z];exact Nat.lt_irrefl _)
   ·exact absurd (Heap.lt_size (I3.pin p hp).1) (by rw [z];exact Nat.lt_irrefl _)
  ·refine thn (T.item (cxC X scope cl NC h3.objs.size fp {s2 with heap:=h3,toks:=s2.toks} (upd H2 D (.lst []))) rfl rfl rfl hc i [] s5 _ H5 _ I5 (Fu fr5) st5 go) fun r s6 ⟨u,hr,h6⟩=>?_
   subst hr
   refine thn h6 fun _ s7 ⟨y,H7,I7,r7,y7,st7,fr7⟩=>?_
   have I7':=I7.pinned (Fu fr7) (T.obj _ _ st7)
   have hnl:(relabel scope X.env).names.lookup x=some .local:=lookup_relabel_local c.xl
   refine wpAny_mono (fK (X:=cxC X scope cl NC h3.objs.size fp {s2 with heap:=h3,toks:=s2.toks} (upd H2 D (.lst []))) (i:=0) (x:=x) (pos:=px) c.nd (by show NC[0]?=some x;rw [c.nc];rfl) (.inl hnl) (.inr hnl) _ s7 _ H7 y u
    (fun σ' H'=>σ'=some y::zV σ idx∧H'=H7) I7' r7 ⟨rfl,rfl⟩) (fun _ s8 ⟨σ8,H8,I8,e8,e8'⟩=>?_) fun _ _ z=>z.elim
   subst e8 e8'
   refine wpAny_mono (he _ _ _ _ _ s8 _ H8 _ I8 (step y H8 y7)) (fun w s9 ⟨v,H9,I9,r9,hD9,n9⟩=>?_) fun _ _ z=>z.elim
   obtain ⟨m',hm,w9⟩:=hN _ _ n9
   refine wpAny_mono (Hg (X:=(cxC X scope cl NC h3.objs.size fp {s2 with heap:=h3,toks:=s2.toks} (upd H2 D (.lst [])))) I9 hD9 hz r9) (fun _ s10 I10=>?_) fun _ _ z=>z.elim
   refine ⟨m',hm,i+1,ys++[v],_,some y,I10.oE,T.keep _ _ _ st7 fun b hb o e=>(I10.pin (b,o) (List.mem_append_right _ (List.mem_append_right _ (i8 hb e)))).1,fun b hb=>?_,w9⟩
   obtain ⟨o,e,d⟩:=T.obj _ _ st7 b hb
   exact (I10.pin (b,o) (List.mem_append_right _ (List.mem_append_right _ (i8 hb e)))).2.1
 exact codeAny_compStart_list (loop _ rfl) (T.self _ 0 _ _ _ st1 (loop _ rfl))
end
end L2
end
section
namespace L2
open PySem PySem.Spec PyProof.Rows LX
section
variable {X:Cx}
theorem CV {prog:Program} {w:World} {A:Around} {R:Result→Shared→Prop} {s:Shared} {elt target iter c:Expr} {scope:Scope} {pos:Pos} {it acc:Value} {env:Env} (I:Nat→Shared→Prop)
  (turn:∀ n s,I n s→wpAny (model prog w) A (pyNext it) (fun r s₁=>match r with
   | none=>R (.ok .next) s₁
   | some v=>wpAny (model prog w) A (letOwnedTupleGo target it v) (fun _ s5=>wpAny (model prog w) A (assign target env v) (fun _ s₂=>wpAny (model prog w) A (isTrue c env (eval c env)) (fun ok s6=>if ok=true then wpAny (model prog w) A (eval elt env) (fun x s₃ =>
     wpAny (model prog w) A (call (.builtin "list.append") [acc,x]) (fun _ s₄=>∃ m,m<n∧I m s₄) (notedBy (model prog w) A env fun e s'=>R (.error e) s') s₃)
     (notedBy (model prog w) A env fun e s'=>R (.error e) s') s6 else ∃ m,m<n∧I m s6) (notedBy (model prog w) A env fun e s'=>R (.error e) s') s₂) (notedBy (model prog w) A env fun e s'=>R (.error e) s') s5) (notedBy (model prog w) A env fun e s'=>R (.error e) s') s₁) (notedBy (model prog w) A env fun e s'=>R (.error e) s') s)
  (n:Nat) (h:I n s):codeAny (model prog w) A (.compLoop (.ListComp elt [⟨target,iter,[c],0⟩] scope pos) 0 it acc env) R s:=by
 refine codeAny_loop rfl I (fun n s hI=>?_) n h
 show wpAny _ _ ((compTurn (.ListComp elt [⟨target,iter,[c],0⟩] scope pos) 0 it acc env).onRaise (fun x=>do noteFrame x env;theTreesLotGoes x)) _ _ s
 refine wpAny_noted ?_
 rw [compTurn_list]
 refine wpAny_bind (wpAny_standAt (wpAny_bind (wpAny_mono (turn n s hI) (fun r s₁ h₁=>?_) fun _ _ h'=>h')))
 cases r with
 | none=>exact wpAny_pure h₁
 | some v =>
  refine wpAny_bind (wpAny_mono h₁ (fun _ s5 h5=>?_) fun _ _ h'=>h')
  refine wpAny_bind (wpAny_mono h5 (fun _ s₂ h₂=>wpAny_bind (wpAny_mono (wpAny_tests_one h₂) (fun ok s₃ h₃=>?_) fun _ _ h'=>h')) fun _ _ h'=>h')
  cases ok with
  | false=>exact wpAny_pure ⟨rfl,h₃⟩
  | true =>
   exact wpAny_bind (wpAny_bind (wpAny_mono h₃ (fun x s₄ h₄=>wpAny_bind (wpAny_mono h₄ (fun _ s₅ h₅=>wpAny_pure (wpAny_pure ⟨rfl,h₅⟩)) fun _ _ h'=>h')) fun _ _ h'=>h'))
variable {scope:Scope} {cl:List (Str×Addr)} {x:Str} {idx:List Nat} {NC:List Str} {C:Addr} {fp:List Addr} {pins:List (Addr×Obj)} {σ:St} {H:Hp} {s:Shared}
def Wu (wi:TI) (idx:List Nat) (tc:TT) (te:TE):TE:=fun σ H Q=>wi σ H fun J H1=>∀ D,H1 D=none→∃ W:Nat→Nat→List V→Hp→Prop,(∃ m,W 0 m [] (upd H1 D (.lst [])))∧∀ i m ys H2,W i m ys H2→H2 D=some (.lst ys) ∧
 ((J.stop i H2∧Q (.ref D) H2)∨(J.go i H2∧ys.length<sizeLine∧∃ N:List V→Hp→Prop,(∀ zs H',N zs H'→∃ m',m'<m∧W (i+1) m' zs H')∧∀ y H3,J.yld i H2 y H3→tc (some y::zV σ idx) H3 fun b H4=>if b=true then te (some y::zV σ idx) H4 fun v H5=>H5 D=some (.lst ys)∧N (ys++[v]) (upd H5 D (.lst (ys++[v])))
  else N ys H4))
end
end L2
end
section
namespace L2
open PySem PySem.Spec PyProof.Rows LX
def Ite (K:W.Frag) (a:Addr):It :=
 ⟨fun i H=>∃ xs x,SqL K H a xs∧xs[i]?=some x,fun i H y H'=>∃ t x,H t=none∧y=.ref t∧(∀ xs,SqL K H a xs→xs[i]?=some x)∧H'=upd H t (.tup [.int (i:Int),x]),fun i H=>∃ xs,SqL K H a xs∧xs.length≤i⟩
theorem K1 {P:Program} {w:World} {K:W.Frag} {es:List Expr} {x1:Nat} {pos:Pos} (a it e:Addr) (hne:e≠it) :
  Turn P w K (.Tuple es x1 pos) (Ite K a) [e,it] e (fun i h=>∃ old,IsEnum h e it i old∧h.IsListIter it a i) where
 mem:=by simp
 obj:=fun i h st b hb=>by
  obtain ⟨old,h1,o,q,c,d⟩:=st
  rcases List.mem_cons.mp hb with z|z
  ·rw [z]
   exact ⟨_,h1,fun v z=>by
    have z':Data.fields _=Data.cell v:=z
    cases z'⟩
  ·rw [List.mem_singleton.mp z]
   exact ⟨o,q,fun v z=>by rw [d] at z;cases z⟩
 keep:=fun i h h' st k=>by
  obtain ⟨old,h1,h2⟩:=st
  exact ⟨old,k e (by simp) _ h1,h2.at fun o q=>k it (by simp) o q⟩
 item:=by
  intro X hP hw hK hc i pins s σ H E I hf st hg
  subst hP hw hK
  obtain ⟨xs,x,hq,hx⟩:=hg
  obtain ⟨its,rv,p,hz⟩:=I.list hq
  obtain ⟨u,hu,ru⟩:=rv.get hx
  obtain ⟨old,he,hit⟩:=st
  have fr:H s.heap.objs.size=none:=I.hok.fresh (Nat.le_refl _)
  refine wpAny_pyNext_enum_item he hit p.isList (x:=u) (by simpa using hu) hne fun h1 heo hit1 ht1 hz1 hk1=>⟨_,rfl,wpAny_letOwnedTupleGo_enum heo fun h2 he2 hs2=>?_⟩
  replace hs2:Heap.SameBut e h1 h2:=hs2
  have hel:e<s.heap.objs.size:=Heap.lt_size he
  have k2:∀ b o,b≠e→b≠it→s.heap.get? b=some o→h2.get? b=some o:=fun b o z1 z2 q=>(hs2.2 b z1).trans (hk1 b o z1 z2 q)
  have ht2:h2.get? s.heap.objs.size=some {cls:=.type "tuple",data:=.seq #[.int i s.toks,u]}:=(hs2.2 _ (Nat.ne_of_gt hel)).trans ht1
  have aan:h2.IsListIter it a (i+1):=hit1.extBut hs2.extBut (Ne.symm hne)
  have nt:∀ b o,s.heap.get? b=some o→b≠s.heap.objs.size:=fun b o q=>Nat.ne_of_lt (Heap.lt_size q)
  have nh:∀ b v,H b=some v→b≠s.heap.objs.size:=fun b v q=>ar q fr
  have ne':∀ b v,H b=some v→b≠e∧b≠it:=fun b v q=>⟨ar q (hf e (by simp)).1,ar q (hf it (by simp)).1⟩
  refine ⟨.ref s.heap.objs.size,upd H s.heap.objs.size (.tup [.int (i:Int),x]),?_,rfl,⟨_,x,fr,rfl,fun ys hy=>by rw [I.G0 hy hq];exact hx,rfl⟩,⟨_,he2,aan⟩,fun b hb=>?_⟩
  ·refine Inv.step (s:=s) (h':=h2) (t':=s.toks+1) (H:=H) (g':=s.gens) (d':=s.drawn) (ch:=[e,it]) I (fun b hb=>⟨(hf b hb).2.2.2.1,(hf b hb).2.1,(hf b hb).2.2.2.2.1,(hf b hb).2.2.2.2.2⟩)
    (fun b o _ _ z q _=>k2 b o (fun y=>z (by simp [y])) (fun y=>z (by simp [y])) q) (fun b o _ _ z q _=>⟨o.slots,k2 b o (fun y=>z (by simp [y])) (fun y=>z (by simp [y])) q⟩)
    (fun b o _ q n=>by rw [ae (nt b o q)];exact n) (fun b o z q=>⟨o,k2 b o (fun y=>z (by simp [y])) (fun y=>z (by simp [y])) q⟩)
    (fun b xs q=>by rw [ae (nh b _ q)];exact q) (fun b o v q=>by rw [ae (nh b _ q)];exact q) (fun b ps q=>⟨#[],by rw [ae (nh b _ q),q];simp⟩) (fun m hm=>?_) (fun b v q=>?_) I.bare
   ·obtain ⟨o,es',ep,ho,r⟩:=hm
    exact ⟨o,es',ep,k2 _ o (Ne.symm (hf e (by simp)).2.1) (Ne.symm (hf it (by simp)).2.1) ho,r⟩
   ·by_cases z:b=s.heap.objs.size
    ·subst z
     rw [ag] at q
     cases q
     exact ⟨by show 2≤sizeLine;decide,[.int i s.toks,u],.cons ⟨_,rfl⟩ (.cons ru .nil),_,ht2,rfl,_,rfl⟩
    ·rw [ae z] at q
     refine (I.hok b v q).Fq (fun c o hc w=>?_) (fun c w=>by rw [ae (nh c _ w)];exact w) fun c xs w=>by rw [ae (nh c _ w)];exact w
     rcases hc with y|y
     ·rw [y] at w ⊢
      exact k2 b o (ne' b v q).1 (ne' b v q).2 w
     ·exact k2 c o (ne' c _ y).1 (ne' c _ y).2 w
  ·have hb':b<s.heap.objs.size:=by
    rcases List.mem_cons.mp hb with z|z
    ·rw [z];exact hel
    ·rw [List.mem_singleton.mp z]
     obtain ⟨o,q,_⟩:=hit
     exact Heap.lt_size q
   rw [ae (Nat.ne_of_lt hb')]
   exact (hf b hb).1
 done:=by
  intro X hP hw hK hc i pins s σ H E I hf st hg
  subst hP hw hK
  obtain ⟨xs,hq,hx⟩:=hg
  obtain ⟨its,rv,p,hz⟩:=I.list hq
  obtain ⟨f0,f1,f2,f3,f4,f5⟩:=hf it (by simp)
  have hl:=rv.length
  obtain ⟨old,he,hit⟩:=st
  exact wpAny_pyNext_enum_end (I.ok.hd hc) he hit p.isList (by simp;omega) fun h' eb=>⟨rfl,I.turned (t':=s.toks) (fun b o hb q=>eb b o hb q) f0 f1 f3 f4 f5⟩
 self:=fun A i s Q E st h=>by
  obtain ⟨old,he,hit⟩:=st
  exact wpAny_pyIter_enum he h
section
variable {X:Cx} {es:List Expr} {x1:Nat} {tp:Pos}
def YU (K:W.Frag) (ta:TA):TI:=fun σ H R=>ta σ H fun vs H1=>∃ a,vs=[.ref a]∧(∃ xs,SqL K H1 a xs)∧R (Ite K a) H1
theorem JO {a:Expr} {ta:TA} {p pos:Pos} (hg:Gl X "enumerate") (hm:X.mg "enumerate" = none) (ha:PA X [a] ta) (hs:starEach [a] X.env=[(false,eval a X.env)]:=by rfl):PI X (.Tuple es x1 tp) (.Call (.Name "enumerate" p) [a] [] pos) (YU X.K ta):=by
 intro pins s σ H R I h
 refine Call_ (xk I hg hm PyProof.Rows.Boot.«enumerate» (PyProof.Rows.callWith_type1 (thn (ha pos pins s σ H _ I h) fun us s1 ⟨vs,H1,I1,r1,q1⟩=>?_) hs rfl))
 obtain ⟨l,e,⟨xs,hq⟩,q⟩:=q1
 subst e
 cases r1 with
 | cons r rr =>
  cases rr
  cases r
  obtain ⟨its,rv,pl,hz⟩:=I1.list hq
  refine call_enumerate_list pl.isList fun h' he hit hsz hk=>?_
  refine wpAny_pyIter_enum he ?_
  refine ⟨s1.heap.objs.size+1,[s1.heap.objs.size+1,s1.heap.objs.size],_,_,H1,rfl,I1.kept (t':=s1.toks) hk,K1 l s1.heap.objs.size (s1.heap.objs.size+1) (Nat.succ_ne_self _),⟨_,he,hit⟩,fun b hb=>?_,q⟩
  have hb':s1.heap.objs.size≤b:=by
   rcases List.mem_cons.mp hb with z|z
   ·rw [z];exact Nat.le_succ _
   ·rw [List.mem_singleton.mp z]
    exact Nat.le_refl _
  exact I1.NO hb' (I1.hok.fresh hb')
end
theorem Hh {K:W.Frag} {a:Addr} {xs:List V} {g:TG} {tb:TS} {D:Ends} {σ:St} {H:Hp} (Pv:Nat→St→Hp→Prop) (h0:Pv 0 σ H) (hl:∀ i σ H,i≤xs.length→Pv i σ H→SqL K H a xs)
  (hs:∀ i x σ H t,xs[i]?=some x→Pv i σ H→H t=none→g (.ref t) σ (upd H t (.tup [.int (i:Int),x])) fun σ2 H2=>tb {D with nx:=Pv (i+1),ct:=Pv (i+1),bk:=D.nx} σ2 H2) (hd:∀ σ H,Pv xs.length σ H→D.nx σ H) :
  ∃ W:Nat→Nat→St→Hp→Prop,(∃ m,W 0 m σ H)∧∀ i m σ H,W i m σ H →
   ((Ite K a).stop i H∧D.nx σ H)∨((Ite K a).go i H∧∃ N:St→Hp→Prop,(∀ σ' H',N σ' H'→∃ m',m'<m∧W (i+1) m' σ' H')∧∀ x H',(Ite K a).yld i H x H'→g x σ H' fun σ2 H2=>tb {D with nx:=N,ct:=N,bk:=D.nx} σ2 H2):=by
 refine ⟨fun i m σ H=>m=xs.length-i∧i≤xs.length∧Pv i σ H,⟨xs.length,by simp,Nat.zero_le _,h0⟩,?_⟩
 rintro i m σ H ⟨rfl,hi,p⟩
 by_cases hlt:i<xs.length
 ·refine .inr ⟨⟨xs,xs[i],hl i σ H hi p,List.getElem?_eq_getElem hlt⟩,Pv (i+1),fun σ' H' p'=>⟨xs.length-(i+1),by omega,rfl,hlt,p'⟩,fun x H' y=>?_⟩
  obtain ⟨t,v,e1,e2,e3,e4⟩:=y
  subst e2 e4
  exact hs i v σ H t (e3 xs (hl i σ H hi p)) p e1
 ·have e:i=xs.length:=by omega
  subst e
  exact .inl ⟨⟨xs,hl _ σ H hi p,Nat.le_refl _⟩,hd σ H p⟩
end L2
namespace L2
open PySem
theorem rY {K:W.Frag} {a:Addr} {xs:List V} {te:TE} {Q:VK} {D:Addr} {τ:St} {H:Hp} (Pv:Nat→List V→Hp→Prop) (h0:Pv 0 [] H) (hD:∀ i ys H,i≤xs.length→Pv i ys H→H D=some (.lst ys)∧ys.length=i) (hl:∀ i ys H,i≤xs.length→Pv i ys H→SqL K H a xs) (hn:xs.length≤sizeLine)
  (hs:∀ i x ys H,xs[i]?=some x→Pv i ys H→te (some x::τ) H fun v H4=>H4 D=some (.lst ys)∧Pv (i+1) (ys++[v]) (upd H4 D (.lst (ys++[v])))) (hd:∀ ys H,Pv xs.length ys H→Q (.ref D) H):Js (Itl K a) D τ te Q H:=by
 refine ⟨fun i m ys H=>m=xs.length-i∧i≤xs.length∧Pv i ys H,⟨xs.length,by simp,Nat.zero_le _,h0⟩,?_⟩
 rintro i m ys H2 ⟨rfl,hi,p⟩
 obtain ⟨hd1,hd2⟩:=hD i ys H2 hi p
 refine ⟨hd1,?_⟩
 by_cases hlt:i<xs.length
 ·refine .inr ⟨⟨xs,xs[i],hl i ys H2 hi p,List.getElem?_eq_getElem hlt⟩,by omega,Pv (i+1),fun zs H' p'=>⟨xs.length-(i+1),by omega,rfl,hlt,p'⟩,fun y H3 e=>?_⟩
  obtain ⟨e1,e2⟩:=e
  subst e1
  exact hs i y ys _ (e2 xs (hl i ys _ hi p)) p
 ·have e:i=xs.length:=by omega
  subst e
  exact .inl ⟨⟨xs,hl _ ys H2 hi p,Nat.le_refl _⟩,hd ys H2 p⟩
end L2
end
section
namespace L2
open PySem PySem.Spec PyProof.Rows LX
def RL (sc:Scope) (names:List (Str×NameKind)):List (Str×NameKind):=names.map fun (n,k)=>if (k == .free&&sc.kind == .function&&sc.names.lookup n == some .cell) then (n,.cell) else (n,k)
def Nq (sc scope:Scope) (x:Str) (ns N:List Str) (idx:List Nat):Prop :=
 (∀ y∈scope.names,y.2≠.cell)∧(∀ y∈scope.names,y.2=.local→scope.names.lookup y.1=some .local)∧scope.names.lookup x=some .local∧(∀ p∈RL sc scope.names,p.2=.cell∨p.2=.free→p.1∈ns)∧(x::idx.map fun i=>N.getD i x).Nodup ∧
 ∀ i∈idx,i<N.length∧((sc.names.lookup (N.getD i x)=some .cell∨sc.names.lookup (N.getD i x)=some .free)∧((RL sc scope.names).lookup (N.getD i x)=some .cell∨(RL sc scope.names).lookup (N.getD i x)=some .free))
instance (sc scope:Scope) (x:Str) (ns N:List Str) (idx:List Nat):Decidable (Nq sc scope x ns N idx):=by unfold Nq;infer_instance
theorem zW {y:Str}:∀ {cl:List (Str×Addr)},y∈cl.map (·.1)→∃ c,cl.lookup y=some c
 | [],h=>by simp at h
 | (n,c)::r,h=>by
  by_cases e:y=n
  ·exact ⟨c,by simp [List.lookup,e]⟩
  ·have h':y∈r.map (·.1):=by
    rw [List.map_cons] at h
    rcases List.mem_cons.mp h with z|z
    ·exact absurd z e
    ·exact z
   obtain ⟨c',q⟩:=zW h'
   have hb:(y == n)=false:=beq_eq_false_iff_ne.mpr e
   exact ⟨c',by simp only [List.lookup,hb];exact q⟩
theorem sq {X:Cx} {sc scope:Scope} {cl:List (Str×Addr)} {x:Str} {ns N:List Str} {idx:List Nat} (hsc:X.env.scope=sc) (hN:X.N=N) (hk:scope.kind=.function) (p:Nq sc scope x ns N idx) (hn:cl.map (·.1)=ns)
  (YV:closureFor scope X.env=pure cl) (aao:∀ q∈cl,X.env.cells.lookup q.1=some q.2):CU X scope cl x idx (x::idx.map fun i=>N.getD i x):=by
 obtain ⟨p1,p2,p3,p4,p5,p6⟩:=p
 have re:(relabel scope X.env).names=RL sc scope.names:=by subst hsc;rfl
 subst hsc hN hn
 refine ⟨YV,fun y c q=>aao (y,c) (PySem.mem_of_lookup q),fun y h=>?_,p1,hk,p2,p3,rfl,p5,fun i hi=>?_⟩
 ·rw [re] at h
  refine zW ?_
  rcases h with h|h
  ·exact p4 (y,.cell) (PySem.mem_of_lookup h) (.inl rfl)
  ·exact p4 (y,.free) (PySem.mem_of_lookup h) (.inr rfl)
 ·rw [re]
  exact p6 i hi
theorem Im {P:Program} {w:World} {X:Cx}:iO (CXE P w) X (fun _ _ _ _=>False):=fun _ _ _ _ _ _ _ ⟨_,_,_,_,_,_,_,_,_,q⟩=>q.elim
end L2
end
section
namespace L2
open PySem PySem.Spec PyProof.Rows LX
section
variable {X:Cx} {scope:Scope} {cl:List (Str×Addr)} {x:Str} {idx:List Nat} {NC:List Str} {pins:List (Addr×Obj)} {σ:St} {H:Hp} {s:Shared}
end
end L2
end
section
namespace L2
open PySem PySem.Spec PyProof.Rows LX
theorem JP:∀ {us:List Value} {ks:List Int},us.length=ks.length→(∀ (j:Nat) (v:Value),us[j]?=some v→∃ t,v=Value.int (ks.getD j 0) t)→IntsAre us ks
 | [],[],_,_=>.nil
 | [],_::_,h,_=>by simp at h
 | _::_,[],h,_=>by simp at h
 | u::us,k::ks,h,f=>by
  obtain ⟨t,e⟩:=f 0 u rfl
  subst e
  exact .cons k t (JP (by simpa using h) fun j v q=>f (j+1) v q)
section
variable {X:Cx}
theorem K2 {P:Program} {w:World} {vs:List (Key×Value)} {ks:List Int} {acc:Array Value} (hk:vs.map (·.1)=ks.map Sum.inl) (ha:acc.size=vs.length) (h:∀ (j:Nat) (v:Value),acc[j]?=some v→∃ k x,vs[j]?=some (k,x)∧(di P w).is k v=true):IntsAre acc.toList ks:=by
 have hl:vs.length=ks.length:=by
  have:=congrArg List.length hk
  simpa using this
 refine JP (by rw [Array.length_toList];omega) fun j v e=>?_
 obtain ⟨k,x,h1,h2⟩:=h j v (by rw [←Array.getElem?_toList];exact e)
 have h3:(vs.map (·.1))[j]?=some k:=by rw [List.getElem?_map,h1];rfl
 rw [hk,List.getElem?_map] at h3
 obtain ⟨i,hi,rfl⟩:=Option.map_eq_some_iff.mp h3
 have h4:pB (.inl i) v=true:=h2
 rcases bV h4 with ⟨i',t,e1,e2⟩|⟨y,t,e1,_⟩
 ·injection e1 with e1
  subst e1
  exact ⟨t,by rw [e2];simp [List.getD,hi]⟩
 ·cases e1
end
theorem K3 {xs ys:List Int} (p:xs.Perm ys) (hx:xs.Pairwise (·≤·)) (hy:ys.Pairwise (·≤·)):xs=ys :=
 p.eq_of_pairwise (fun a b _ _ h1 h2=>Int.le_antisymm h1 h2) hx hy
theorem MI {v:V} (h:j5 v=true):eqV v v=true:=by
 cases v with
 | non=>rfl
 | bl b=>cases b<;>rfl
 | int n=>simp [eqV]
 | str z=>simp [eqV]
 | _=>exact absurd (show false=true from h) Bool.false_ne_true
section
variable {X:Cx}
end
end L2
end
section
namespace L2
open PySem PySem.Spec PyProof.Rows LX
section
variable {X:Cx} {tg:Expr}
theorem PS.nox {st:Stmt} {t:TS} (h:PS X.nox st t):PS X st t:=fun pins s σ H D I hw =>
 wpAny_mono (h pins s σ H D (I.Fs _) hw) (fun _ _ q=>q.qi) fun _ _ z=>False.elim z
end
end L2
end
section
namespace L2
open PySem PySem.Spec PyProof.Rows LX
section
variable {X:Cx} {scope:Scope} {cl:List (Str×Addr)} {x:Str} {idx:List Nat} {NC:List Str} {pins:List (Addr×Obj)} {σ:St} {H:Hp} {s:Shared}
theorem L9 {i:Nat} {y:Str} {elt iter ct:Expr} {px py pos Of:Pos} {wi:TI} {tc:TT} {te:TE} (hN:X.N.Nodup) (hi':X.N[i]?=some y) (hx:X.env.scope.names.lookup y=some .local) (c:CU X scope cl x idx NC) (hc:X.calm=true) (hi:PI X (.Name x px) iter wi)
  (ht:∀ C fp s₀ H₀,PT (cxC X scope cl NC C fp s₀ H₀) ct tc) (he:∀ C fp s₀ H₀,PE (cxC X scope cl NC C fp s₀ H₀) elt te) (hsw:swapsWith (.ListComp elt [⟨.Name x px,iter,[ct],0⟩] scope pos) (some (.Name y py)) Of.line X.env=pure true:=by rfl)
  (hs:∀ x,foldedSetIterable iter X.env x=pure x:=by intro _;rfl):PS X (.Assign [.Name y py] (.ListComp elt [⟨.Name x px,iter,[ct],0⟩] scope pos) Of) (Mw (Wu wi idx tc te) (kS i)):=by
 intro pins s σ H D0 I h
 rw [exec_Assign_Name_used _ _ _ _ hsw]
 refine wpAny_bind (wpAny_standAt (wpAny_bind ?_))
 show wpAny _ _ (do let _ ←comprehension (.ListComp elt [⟨.Name x px,iter,[ct],0⟩] scope pos) scope X.env _ (newList []) false (eval iter X.env) (some (assign (.Name y py) X.env))) _ _ s
 refine wpAny_bind (wpAny_mono (wpAny_comprehension_free (use:=some (assign (.Name y py) X.env)) (Q:=fun _ s'=>SP X pins D0 .next s') rfl hs c.Zt c.kind c.loc
  (thn (hi pins s σ H _ I h) fun v s1 h1=>thn h1 fun itv s2 h2=>?_)) (fun _ s' hq=>wpAny_pure (wpAny_pure hq)) fun _ _ e=>e)
 obtain ⟨it,fp,tn,J,H2,rfl,I2,T,st2,f2,q⟩:=h2
 refine wpAny_newObj_type (wpAny_newFunctionEnv c.MH (by intro y hy;simp at hy) (fun h₁ hns₁ hsb₁=>?_) c.kind)
 dsimp only at hns₁ hsb₁ ⊢
 have I3:Inv X pins σ (upd H2 s2.heap.objs.size (.lst [])) {s2 with heap:=s2.heap.push {cls:=.type "list",data:=.seq ([]:List Value).toArray},toks:=s2.toks}:=I2.Rx (ys:=[]) (its:=[]) .nil (Nat.zero_le _)
 obtain ⟨W,⟨m0,w0⟩,turn⟩:=q s2.heap.objs.size I2.fresh
 generalize hD:s2.heap.objs.size=D at *
 generalize hH:s2.heap.push {cls:=.type "list",data:=.seq ([]:List Value).toArray}=h3 at *
 have Oe:∀ b∈fp,b<D:=fun b hb=>by
  obtain ⟨o,e,_⟩:=T.obj _ _ st2 b hb
  rw [←hD]
  exact Heap.lt_size e
 have hlt:∀ b∈fp,b<h3.objs.size:=fun b hb=>by
  rw [←hH,Heap.size_push,hD]
  exact Nat.lt_succ_of_lt (Oe b hb)
 have hf:∀ b∈fp,DL X pins (upd H2 D (.lst [])) b:=fun b hb=>⟨by rw [ae (Nat.ne_of_lt (Oe b hb))];exact (f2 b hb).1,(f2 b hb).2⟩
 have kp:∀ b o,h3.get? b=some o→h₁.get? b=some o:=fun b o e=>hsb₁.extBut b o (Nat.ne_of_lt (Heap.lt_size e)) (Heap.get?_push_of_some _ e)
 have I4:Inv (cxC X scope cl NC h3.objs.size fp {s2 with heap:=h3,toks:=s2.toks} (upd H2 D (.lst []))) [] (none::zV σ idx) (upd H2 D (.lst [])) {s2 with heap:=h₁,toks:=s2.toks+([]:List (Str×Value)).length} :=
  He (s:={s2 with heap:=h3,toks:=s2.toks}) c I3 hf hlt hns₁ kp
 have Fu:∀ {H':Hp},(∀ b∈fp,H' b=none)→∀ b∈fp,DL (cxC X scope cl NC h3.objs.size fp {s2 with heap:=h3,toks:=s2.toks} (upd H2 D (.lst []))) [] H' b:=fun hn b hb =>
  ⟨hn b hb,Nat.ne_of_lt (hlt b hb),fun z=>(List.mem_cons.mp (I3.Bh b z)).elim (hf b hb).2.1 (hf b hb).2.2.1,.inl hb,fun y a q=>(hf b hb).2.2.2.2.1 y a (c.sub _ _ q),fun p hp=>(by cases hp)⟩
 have st1:tn 0 h₁:=T.keep 0 _ _ st2 fun b hb o e=>kp b o (by rw [←hH];exact Heap.get?_push_of_some _ e)
 have loop:∀ s4:Shared,s4={s2 with heap:=h₁,toks:=s2.toks+([]:List (Str×Value)).length} →
   codeAny (model X.prog X.w) X.A (.compLoop (.ListComp elt [⟨.Name x px,iter,[ct],0⟩] scope pos) 0 (.ref it) (.ref D) (compEnvC scope cl h3.objs.size X.env)) (compPost (model X.prog X.w) X.A X.xe (some (assign (.Name y py) X.env)) (fun _ s'=>SP X pins D0 .next s') (.ref D) h3.objs.size) s4:=by
  rintro s4 rfl
  refine CV (fun n s'=>∃ i ys H' v0,Inv (cxC X scope cl NC h3.objs.size fp {s2 with heap:=h3,toks:=s2.toks} (upd H2 D (.lst []))) [] (v0::zV σ idx) H' s'∧tn i s'.heap∧(∀ b∈fp,H' b=none)∧W i n ys H')
   ?_ m0 ⟨0,[],_,none,I4,st1,fun b hb=>(hf b hb).1,w0⟩
  rintro n s5 ⟨i5,ys,H5,v0,I5,st5,fr5,w5⟩
  obtain ⟨hDl,alt⟩:=turn i5 n ys H5 w5
  rcases alt with ⟨stop,qn⟩|⟨go,hz,N,hN',step⟩
  ·refine thn (T.done (cxC X scope cl NC h3.objs.size fp {s2 with heap:=h3,toks:=s2.toks} (upd H2 D (.lst []))) rfl rfl rfl hc i5 [] s5 _ H5 _ I5 (Fu fr5) st5 stop) fun r s6 ⟨hr,I6⟩=>?_
   subst hr
   obtain ⟨m,ns6,_⟩:=id I6.loc
   have J6:Inv X pins σ H5 s6:=I3.Lr (ch:=fp) I6.os I6.base I6.hok I6.bare fun b hb=>⟨(hf b hb).2.2.2.1,(hf b hb).2.1,(hf b hb).2.2.2.2.1,(hf b hb).2.2.2.2.2⟩
   have fC:DL X pins H5 h3.objs.size:=I3.NO (Nat.le_refl _) I6.free
   obtain ⟨o,es,ep,ho,rr⟩:=ns6
   have od:∀ v,o.data≠.cell v:=fun v z=>by
    rw [rr.1] at z
    cases z
   show wpAny _ _ (assign (.Name y py) X.env (.ref D)) (fun _ s''=>∃ m,s''.heap.Ns h3.objs.size m∧∀ h',Heap.SameBut h3.objs.size s''.heap h'→SP X pins D0 .next {s'' with heap:=h'}) X.xe s6
   have J7:=J6.pinned (fp:=[h3.objs.size]) (fun b hb=>by rw [List.mem_singleton.mp hb];exact fC) (fun b hb=>by rw [List.mem_singleton.mp hb];exact ⟨o,ho,od⟩)
   refine wpAny_mono (fK (pos:=py) hN hi' (.inl hx) (.inr hx) _ s6 _ H5 (.ref D) (.ref D) D0.nx J7 rfl qn) (fun _ s7 ⟨σ7,H7,I7,q7⟩=>?_) (fun _ _ z=>z)
   have pC:=I7.pin (h3.objs.size,o) (List.mem_append_right _ (List.mem_append_right _ (i8 (List.mem_singleton.mpr rfl) ho)))
   refine ⟨m,⟨o,es,ep,pC.1,rr⟩,fun h' hs'=>⟨σ7,H7,?_,q7⟩⟩
   exact I7.oE.turned (t':=s7.toks) (it:=h3.objs.size) (fun b o hb e=>hs'.extBut b o hb e) pC.2.1 fC.2.1 fC.2.2.2.1 fC.2.2.2.2.1 fC.2.2.2.2.2
  ·refine thn (T.item (cxC X scope cl NC h3.objs.size fp {s2 with heap:=h3,toks:=s2.toks} (upd H2 D (.lst []))) rfl rfl rfl hc i5 [] s5 _ H5 _ I5 (Fu fr5) st5 go) fun r s6 ⟨u,hr,h6⟩=>?_
   subst hr
   refine thn h6 fun _ s7 ⟨y,H7,I7,r7,y7,st7,fr7⟩=>?_
   have I7':=I7.pinned (Fu fr7) (T.obj _ _ st7)
   have hnl:(relabel scope X.env).names.lookup x=some .local:=lookup_relabel_local c.xl
   refine wpAny_mono (fK (X:=cxC X scope cl NC h3.objs.size fp {s2 with heap:=h3,toks:=s2.toks} (upd H2 D (.lst []))) (i:=0) (x:=x) (pos:=px) c.nd (by show NC[0]?=some x;rw [c.nc];rfl) (.inl hnl) (.inr hnl) _ s7 _ H7 y u
    (fun σ' H'=>σ'=some y::zV σ idx∧H'=H7) I7' r7 ⟨rfl,rfl⟩) (fun _ s8 ⟨σ8,H8,I8,e8,e8'⟩=>?_) fun _ _ z=>z.elim
   subst e8 e8'
   refine wpAny_mono (ht _ _ _ _ _ s8 _ H8 _ I8 (step y H8 y7)) (fun bb s11 ⟨H11,I11,q11⟩=>?_) fun _ _ z=>z.elim
   have fin:∀ {H12:Hp} {s12:Shared} {zs:List V} {m':Nat},Inv (cxC X scope cl NC h3.objs.size fp {s2 with heap:=h3,toks:=s2.toks} (upd H2 D (.lst []))) ([]++CO fp s7.heap) (some y::zV σ idx) H12 s12→m'<n→W (i5+1) m' zs H12 →
     ∃ m,m<n∧∃ i ys H' v0,Inv (cxC X scope cl NC h3.objs.size fp {s2 with heap:=h3,toks:=s2.toks} (upd H2 D (.lst []))) [] (v0::zV σ idx) H' s12∧tn i s12.heap∧(∀ b∈fp,H' b=none)∧W i m ys H':=fun {H12 s12 zs m'} I12 hm w12=>by
    refine ⟨m',hm,i5+1,zs,_,some y,I12.oE,T.keep _ _ _ st7 fun b hb o e=>(I12.pin (b,o) (List.mem_append_right _ (List.mem_append_right _ (i8 hb e)))).1,fun b hb=>?_,w12⟩
    obtain ⟨o,e,d⟩:=T.obj _ _ st7 b hb
    exact (I12.pin (b,o) (List.mem_append_right _ (List.mem_append_right _ (i8 hb e)))).2.1
   cases bb with
   | false =>
    obtain ⟨m',hm,w9⟩:=hN' _ _ q11
    exact fin I11 hm w9
   | true =>
    refine wpAny_mono (he _ _ _ _ _ s11 _ H11 _ I11 q11) (fun w s9 ⟨v,H9,I9,r9,hD9,n9⟩=>?_) fun _ _ z=>z.elim
    obtain ⟨m',hm,w9⟩:=hN' _ _ n9
    refine wpAny_mono (Hg (X:=(cxC X scope cl NC h3.objs.size fp {s2 with heap:=h3,toks:=s2.toks} (upd H2 D (.lst [])))) I9 hD9 hz r9) (fun _ s10 I10=>?_) fun _ _ z=>z.elim
    exact fin I10 hm w9
 exact codeAny_compStart_list (loop _ rfl) (T.self _ 0 _ _ _ st1 (loop _ rfl))
def JQ (J:It) (D:Addr) (τ:St) (tc:TT) (te:TE) (Q:VK) (H:Hp):Prop:=∃ W:Nat→Nat→List V→Hp→Prop,(∃ m,W 0 m [] H)∧∀ i m ys H2,W i m ys H2→H2 D=some (.lst ys) ∧
 ((J.stop i H2∧Q (.ref D) H2)∨(J.go i H2∧ys.length<sizeLine∧∃ N:List V→Hp→Prop,(∀ zs H',N zs H'→∃ m',m'<m∧W (i+1) m' zs H')∧∀ y H3,J.yld i H2 y H3→tc (some y::τ) H3 fun b H4=>if b=true then te (some y::τ) H4 fun v H5=>H5 D=some (.lst ys)∧N (ys++[v]) (upd H5 D (.lst (ys++[v])))
  else N ys H4))
def Wv (wi:TI) (idx:List Nat) (tc:TT) (te:TE):TE:=fun σ H Q=>wi σ H fun J H1=>∀ D,H1 D=none→JQ J D (zV σ idx) tc te Q (upd H1 D (.lst []))
theorem Ma {i:Nat} {y:Str} {elt iter ct:Expr} {px py pos Of:Pos} {wi:TI} {tc:TT} {te:TE} (hN:X.N.Nodup) (hi':X.N[i]?=some y) (hx:X.env.scope.names.lookup y=some .local) (c:CU X scope cl x idx NC) (hc:X.calm=true) (hi:PI X (.Name x px) iter wi)
  (ht:∀ C fp s₀ H₀,PT (cxC X scope cl NC C fp s₀ H₀) ct tc) (he:∀ C fp s₀ H₀,PE (cxC X scope cl NC C fp s₀ H₀) elt te) (hsw:swapsWith (.ListComp elt [⟨.Name x px,iter,[ct],0⟩] scope pos) (some (.Name y py)) Of.line X.env=pure true:=by rfl)
  (hs:∀ x,foldedSetIterable iter X.env x=pure x:=by intro _;rfl):PS X (.Assign [.Name y py] (.ListComp elt [⟨.Name x px,iter,[ct],0⟩] scope pos) Of) (Mw (Wv wi idx tc te) (kS i)) :=
 L9 hN hi' hx c hc hi ht he hsw hs
end
end L2
end
section
namespace L2
open PySem PySem.Spec PyProof.Rows LX
end L2
end
section
namespace L2
open PySem PySem.Spec PyProof.Rows LX
section
variable {P:Program} {w:World} {A:Around} {E:Value→Shared→Prop} {s:Shared} {a:Addr} {S:Int→Bool} {n:Nat}
end
end L2
end
section
namespace L2
open PySem PySem.Spec PyProof.Rows LX
section
variable {P:Program} {w:World} {A:Around} {R:Result→Shared→Prop} {I:Addr} {fp wr:List Addr} {G:Array GenState→Array GenState→Prop} {n:Nat} {p:Nat→Value→Prop} {St:Nat→Shared→Prop}
end
section
variable {P:Program} {w:World} {A:Around} {E:Value→Shared→Prop} {s:Shared}
end
end L2
end
section
namespace L2
open PySem PySem.Spec PyProof.Rows LX
section
variable {P:Program} {w:World} {A:Around} {E:Value→Shared→Prop} {s:Shared} {it a:Addr} {first:Value} {i n ep:Nat}
end
end L2
end
section
namespace L2
open PySem PySem.Spec PyProof.Rows LX
section
variable {P:Program} {w:World} {A:Around} {E:Value→Shared→Prop} {s:Shared} {it a:Addr} {first:Value} {i n ep:Nat} {es:Array (Int×Value)} {t:SetTable}
end
section
variable {P:Program} {w:World} {A:Around} {E:Value→Shared→Prop} {s:Shared} {I a:Addr} {ep:Nat} {es:Array (Int×Value)} {t:SetTable} {sl:Nat→Nat} {vs:List Value}
end
end L2
end
section
namespace L2
open PySem PySem.Spec PyProof.Rows LX PySem.W
section
variable {P:Program} {w:World} {A:Around} {E:Value→Shared→Prop} {s:Shared} {a:Addr} {ep:Nat} {es:Array (Int×Value)} {t:SetTable}
end
end L2
end
section
namespace L2
open PySem PySem.Spec PyProof.Rows LX PySem.W
section
variable {P:Program} {w:World} {A:Around} {E:Value→Shared→Prop} {s:Shared} {a:Addr} {ep:Nat} {es:Array (Int×Value)} {t:SetTable}
end
end L2
end
section
namespace L2
open PySem PySem.Spec PyProof.Rows LX PySem.W
section
variable {X:Cx}
end
end L2
end
section
namespace L2
open PySem PySem.Spec PyProof.Rows LX
section
variable {X:Cx} {pins:List (Addr×Obj)} {σ:St} {H:Hp} {s:Shared} {d:Addr} {kvs:List (Key×V)}
theorem Inv.frozen (I:Inv X pins σ H s) (hd:H d=some (.dK kvs)):∃ o,Inv X pins σ (upd H d (.frz o (.dK kvs))) s:=by
 obtain ⟨hz,h0,vs,rel,o,es,ep,ho,r⟩:=Nn I.hok hd
 have nn:∀ {b:Addr},H b=none→upd H d (.frz o (.dK kvs)) b=none:=fun {b} q=>by
  rw [ae fun z=>by rw [z,hd] at q;cases q]
  exact q
 have ns:∀ {b:Addr} {u:HO},H b=some u→u≠.dK kvs→upd H d (.frz o (.dK kvs)) b=some u:=fun {b u} q n=>by
  rw [ae fun z=>n (by rw [z,hd] at q;exact (Option.some.inj q).symm)]
  exact q
 refine ⟨o,I.ok,I.os,I.bare,⟨I.base.keep,I.base.slot,fun b ob q n e=>nn (I.base.free b ob q n e),I.base.there,fun b xs q=>ns (I.base.B9 b xs q) (by intro z;cases z),fun b ob u q=>ns (I.base.Bl b ob u q) (by intro z;cases z),fun b ps q=>?_⟩,I.loc,I.cell,nn I.free,fun x c q=>nn (I.kA x c q),fun p hp=>?_,fun a u q=>?_,I.len⟩
 ·obtain ⟨more,q'⟩:=I.base.Ca b ps q
  exact ⟨more,ns q' (by intro z;cases z)⟩
 ·obtain ⟨p1,p2,p3⟩:=I.pin p hp
  exact ⟨p1,nn p2,p3⟩
 ·have st:∀ {a:Addr} {u:HO},en X.prog X.w H s.heap a u→en X.prog X.w (upd H d (.frz o (.dK kvs))) s.heap a u:=fun x=>x.Fq (fun _ _ _ z=>z) (fun b z=>ns z (by intro y;cases y)) fun b xs z=>ns z (by intro y;cases y)
  by_cases e:a=d
  ·subst e
   rw [ag] at q
   cases q
   exact ⟨ho,st (I.hok a _ hd)⟩
  ·rw [ae e] at q
   exact st (I.hok a u q)
def aap (te:TE):TE:=fun σ H Q=>te σ H fun v H1=>∃ d kvs,H1 d=some (.dK kvs)∧∀ o,Q v (upd H1 d (.frz o (.dK kvs)))
theorem Bj {e:Expr} {te:TE} (h:PE X e te):PE X e (aap te):=by
 intro pins s σ H Q I t
 refine wpAny_mono (h pins s σ H _ I t) (fun u s1 ⟨v,H1,I1,r,q⟩=>?_) fun _ _ z=>z
 obtain ⟨d,kvs,hd,q⟩:=q
 obtain ⟨o,I2⟩:=I1.frozen hd
 exact ⟨v,_,I2,r,q o⟩
def Itd (d:Addr) (o:Obj) (kvs:List (Key×V)):It :=
 ⟨fun i H=>H d=some (.frz o (.dK kvs))∧i<kvs.length,fun i H x H'=>H'=H∧∃ p,kvs[i]?=some p∧x=kV p.1,fun i H=>H d=some (.frz o (.dK kvs))∧kvs.length≤i⟩
theorem Ww {P:Program} {w:World} {k:Key} {u:Value} (h:(di P w).is k u=true):RelV (kV k) u:=by
 have h4:pB k u=true:=h
 rcases bV h4 with ⟨i,t,e1,e2⟩|⟨y,t,e1,e2⟩
 ·subst e1 e2
  exact ⟨t,rfl⟩
 ·subst e1 e2
  exact ⟨t,rfl⟩
theorem Jt {o:Obj} (I:Inv X pins σ H s) (hd:H d=some (.frz o (.dK kvs))) {es:Array DictEntry} {ep:Nat} (eo:o.data=.dict es ep):kvs.length≤sizeLine∧(d == sysModules)=false∧∃ vs,KV kvs vs∧s.heap.DictAt (di X.prog X.w) d vs ep:=by
 obtain ⟨ho,hz,h0,vs,rel,o',es',ep',ho',c1,c2,c3⟩:=(show en X.prog X.w H s.heap d (.frz o (.dK kvs)) from I.hok d _ hd)
 have e:o'=o:=Option.some.inj (ho'.symm.trans ho)
 subst e
 rw [eo] at c2
 injection c2 with e1 e2
 subst e1 e2
 exact ⟨hz,h0,vs,rel,o',es,ho',c1,eo,c3⟩
theorem Mb {o:Obj} (I:Inv X pins σ H s) (hd:H d=some (.frz o (.dK kvs))):∃ es ep,o.data=.dict es ep:=by
 obtain ⟨ho,hz,h0,vs,rel,o',es',ep',ho',c1,c2,c3⟩:=(show en X.prog X.w H s.heap d (.frz o (.dK kvs)) from I.hok d _ hd)
 have e:o'=o:=Option.some.inj (ho'.symm.trans ho)
 subst e
 exact ⟨es',ep',c2⟩
theorem MJ:∀ {kvs:List (Key×V)} {vs:List (Key×Value)},KV kvs vs→∀ {i:Nat} {p:Key×V},kvs[i]?=some p→∃ x,vs[i]?=some (p.1,x)
 | _,_,.nil,_,_,h=>by simp at h
 | (k,v)::_,(k',x)::_,.cons a r,0,p,h=>by
  have h1:(k,v)=p:=by simpa using h
  subst h1
  obtain ⟨e,_⟩:=a
  have e':k=k':=e
  subst e'
  exact ⟨x,rfl⟩
 | _::_,_::_,.cons _ r,i+1,p,h=>by
  have:=MJ r (i:=i) (p:=p) (by simpa using h)
  simpa using this
theorem K4 {P:Program} {w:World} {K:W.Frag} {tg:Expr} (d it:Addr) (o:Obj) (kvs:List (Key×V)) (ne:d≠it):Turn P w K tg (Itd d o kvs) [it] it (fun i h=>∃ es ep,o.data=.dict es ep∧h.IsKeyIter it d i kvs.length ep) where
 mem:=by simp
 obj:=fun i h st b hb=>by
  have e:b=it:=by simpa using hb
  subst e
  obtain ⟨es,ep,_,o,e,c,d⟩:=st
  exact ⟨o,e,fun v z=>by rw [d] at z;cases z⟩
 keep:=fun i h h' ⟨es,ep,eo,st⟩ k=>⟨es,ep,eo,st.at fun o e=>k it (by simp) o e⟩
 item:=by
  rintro X hP hw hK hc i pins s σ H E I hf ⟨es,ep,eo,st⟩ ⟨hd,hi⟩
  subst hP hw hK
  obtain ⟨hz,h0,vs,rel,hat⟩:=Jt I hd eo
  have hl:=rel.length
  obtain ⟨x,hx⟩:=MJ rel (List.getElem?_eq_getElem hi)
  obtain ⟨f0,f1,f2,f3,f4,f5⟩:=hf it (by simp)
  rw [hl] at st
  refine wpAny_pyNext_dict_item st hat hx fun key h' hk st' sb=>?_
  have I1:Inv X pins σ H {s with heap:=h'}:=I.turned (t':=s.toks) (fun b o hb e=>(sb.2 b hb).trans e) f0 f1 f3 f4 f5
  exact ⟨key,rfl,letGo_keyiter (s':={s with heap:=h'}) st' ⟨kV (kvs[i]'hi).1,H,I1,Ww hk,⟨rfl,_,List.getElem?_eq_getElem hi,rfl⟩,⟨es,ep,eo,by rw [hl];exact st'⟩,fun b hb=>(hf b hb).1⟩⟩
 done:=by
  rintro X hP hw hK hc i pins s σ H E I hf ⟨es,ep,eo,st⟩ ⟨hd,hi⟩
  subst hP hw hK
  obtain ⟨hz,h0,vs,rel,hat⟩:=Jt I hd eo
  have hl:=rel.length
  obtain ⟨f0,f1,f2,f3,f4,f5⟩:=hf it (by simp)
  rw [hl] at st
  exact wpAny_pyNext_dict_end (I.ok.hd hc) st hat (List.getElem?_eq_none (by omega)) fun h' eb=>⟨rfl,I.turned (t':=s.toks) (fun b o hb e=>eb b o hb e) f0 f1 f3 f4 f5⟩
 self:=fun _ _ _ _ _ ⟨_,_,_,st⟩ h=>wpAny_pyIter_keyiter st h
def YW (td:TE):TI:=fun σ H R=>td σ H fun x H1=>∃ d o kvs,x=.ref d∧H1 d=some (.frz o (.dK kvs))∧R (Itd d o kvs) H1
theorem sr {tg l:Expr} {tl:TE} (hl:PE X l tl):PI X tg l (YW tl):=by
 intro pins s σ H R I h
 refine thn (hl pins s σ H _ I h) fun v s1 ⟨x,H1,I1,r1,q1⟩=>?_
 obtain ⟨d,o,kvs,e,hd,q⟩:=q1
 subst e
 cases r1
 obtain ⟨es,ep,eo⟩:=Mb I1 hd
 obtain ⟨hz,h0,vs,rel,hat⟩:=Jt I1 hd eo
 have hl:=rel.length
 refine wpAny_pyIter_dict h0 hat ?_
 rw [←hl]
 refine ⟨s1.heap.objs.size,[s1.heap.objs.size],_,_,H1,rfl,I1.kept (t':=s1.toks) fun b o e=>Heap.get?_push_of_some _ e,K4 d _ o kvs (Nat.ne_of_lt hat.lt_size),⟨es,ep,eo,_,Heap.get?_push_size _ rfl,rfl,rfl⟩,fun b hb=>?_,q⟩
 have e:b=s1.heap.objs.size:=by simpa using hb
 subst e
 exact I1.NO (Nat.le_refl _) (I1.hok.fresh (Nat.le_refl _))
end
theorem xw {d:Addr} {o:Obj} {kvs:List (Key×V)} {g:TG} {tb:TS} {D:Ends} {σ:St} {H:Hp} (Pv:Nat→St→Hp→Prop) (h0:Pv 0 σ H) (hl:∀ i σ H,i≤kvs.length→Pv i σ H→H d=some (.frz o (.dK kvs)))
  (hs:∀ i p σ H,kvs[i]?=some p→Pv i σ H→g (kV p.1) σ H fun σ2 H2=>tb {D with nx:=Pv (i+1),ct:=Pv (i+1),bk:=D.nx} σ2 H2) (hd:∀ σ H,Pv kvs.length σ H→D.nx σ H) :
  ∃ W:Nat→Nat→St→Hp→Prop,(∃ m,W 0 m σ H)∧∀ i m σ H,W i m σ H →
   ((Itd d o kvs).stop i H∧D.nx σ H)∨((Itd d o kvs).go i H∧∃ N:St→Hp→Prop,(∀ σ' H',N σ' H'→∃ m',m'<m∧W (i+1) m' σ' H')∧∀ x H',(Itd d o kvs).yld i H x H'→g x σ H' fun σ2 H2=>tb {D with nx:=N,ct:=N,bk:=D.nx} σ2 H2):=by
 refine ⟨fun i m σ H=>m=kvs.length-i∧i≤kvs.length∧Pv i σ H,⟨kvs.length,by simp,Nat.zero_le _,h0⟩,?_⟩
 rintro i m σ H ⟨rfl,hi,p⟩
 by_cases hlt:i<kvs.length
 ·refine .inr ⟨⟨hl i σ H hi p,hlt⟩,Pv (i+1),fun σ' H' p'=>⟨kvs.length-(i+1),by omega,rfl,hlt,p'⟩,fun x H' y=>?_⟩
  obtain ⟨e1,q,e2,e3⟩:=y
  subst e1 e3
  exact hs i q σ _ e2 p
 ·have e:i=kvs.length:=by omega
  subst e
  exact .inl ⟨⟨hl _ σ H hi p,Nat.le_refl _⟩,hd σ H p⟩
section
variable {X:Cx}
end
end L2
end
section
namespace L2
open PySem PySem.Spec PyProof.Rows LX
section
variable {X:Cx} {pins:List (Addr×Obj)} {σ:St} {H:Hp} {s:Shared}
end
end L2
end
section
namespace L2
open PySem PySem.Spec PyProof.Rows LX
section
variable {X:Cx}
end
end L2
end
section
namespace L2
open PySem PySem.Spec PyProof.Rows LX
section
variable {X:Cx}
def Wx:List V→Hp→VK→Prop:=fun vs H Q=>∃ (p:Addr) (kvs:List (Key×V)) (ks:List Int),vs=[.ref p]∧Rd H p (.dK kvs)∧kvs.map (·.1)=ks.map Sum.inl∧∀ l:Addr,H l=none→Q (.ref l) (upd H l (.lst (ks.map V.int)))
theorem Cg (hc:X.calm=true):ux X (.type "list") Wx:=by
 rintro pins s σ H xs us Q I r ⟨p,kvs,ks,rfl,hp,hk,q⟩
 obtain ⟨u,rfl,ru⟩:=r.one
 cases (show u=Value.ref p from ru)
 obtain ⟨hz,hd,vs,rel,dd⟩:=Aj I.hok hp
 obtain ⟨ep,hat⟩:=dd.dictAt
 have hl:ks.length=kvs.length:=by
  have:=congrArg List.length hk
  simpa using this.symm
 refine PySem.W.kdl_call (PySem.W.kdl_dict (knd:=di X.prog X.w) (kvs:=vs) (ep:=ep) hd) (I.ok.hd hc) hat (by rw [←rel.length];exact hz) fun h' tk acc c hkp hS hacc=>?_
 have hI:IntsAre acc.toList ks:=K2 (by rw [←rel.keys];exact hk) hacc.1 hacc.2
 refine ⟨.ref s.heap.objs.size,_,I.laid (a:=s.heap.objs.size) (o:=.lst (ks.map V.int)) (t':=tk) hkp (Nat.le_refl _) ?_,rfl,q _ (I.hok.fresh (Nat.le_refl _))⟩
 refine ⟨by rw [List.length_map,hl];exact hz,acc.toList,c,rX hI,?_⟩
 rw [hS]
end
end L2
end
section
namespace L2
open PySem PySem.Spec PyProof.Rows LX
section
variable {X:Cx}
end
theorem Io {d:Addr} {o:Obj} {kvs:List (Key×V)} {tc:TT} {te:TE} {Q:VK} {D:Addr} {τ:St} {H:Hp} (Pv:Nat→List V→Hp→Prop) (h0:Pv 0 [] H) (hD:∀ i ys H,i≤kvs.length→Pv i ys H→H D=some (.lst ys)∧ys.length≤i) (hl:∀ i ys H,i≤kvs.length→Pv i ys H→H d=some (.frz o (.dK kvs))) (hn:kvs.length≤sizeLine)
  (hs:∀ i p ys H,kvs[i]?=some p→Pv i ys H→tc (some (kV p.1)::τ) H fun b H4=>if b=true then te (some (kV p.1)::τ) H4 fun v H5=>H5 D=some (.lst ys)∧Pv (i+1) (ys++[v]) (upd H5 D (.lst (ys++[v]))) else Pv (i+1) ys H4)
  (hd:∀ ys H,Pv kvs.length ys H→Q (.ref D) H):JQ (Itd d o kvs) D τ tc te Q H:=by
 refine ⟨fun i m ys H=>m=kvs.length-i∧i≤kvs.length∧Pv i ys H,⟨kvs.length,by simp,Nat.zero_le _,h0⟩,?_⟩
 rintro i m ys H2 ⟨rfl,hi,p⟩
 obtain ⟨d1,d2⟩:=hD i ys H2 hi p
 refine ⟨d1,?_⟩
 have hS:=hl i ys H2 hi p
 by_cases hlt:i<kvs.length
 ·refine .inr ⟨⟨hS,hlt⟩,by omega,Pv (i+1),fun zs H' p'=>⟨kvs.length-(i+1),by omega,rfl,hlt,p'⟩,fun y H3 q=>?_⟩
  obtain ⟨e1,q',e2,e3⟩:=q
  subst e1 e3
  exact hs i q' ys _ e2 p
 ·have e:i=kvs.length:=by omega
  subst e
  exact .inl ⟨⟨hS,Nat.le_refl _⟩,hd ys H2 p⟩
end L2
end
section
namespace L2
open PySem PySem.Spec PyProof.Rows LX
section
variable {P:Program} {w:World} {A:Around} {E:Value→Shared→Prop}
end
section
variable {P:Program} {w:World} {A:Around} {R:Result→Shared→Prop} {KK:Type} [DecidableEq KK] {knd:KeyKind P w KK}
end
section
variable {P:Program} {w:World} {A:Around} {E:Value→Shared→Prop} {KK:Type} [DecidableEq KK] {knd:KeyKind P w KK}
end
section
variable {P:Program} {w:World} {A:Around} {E:Value→Shared→Prop}
end
end L2
end
section
namespace L2
open PySem PySem.Spec PyProof.Rows LX
section
variable {X:Cx}
end
end L2
end
section
namespace L2
open PySem PySem.Spec PyProof.Rows LX
section
variable {X:Cx}
end
end L2
end
section
namespace L2
open PySem PySem.Spec PyProof.Rows LX
inductive Vl where
 | a (v:V)
 | l (xs:List Vl)
 | t (xs:List Vl)
def Rp (H:Hp):Nat→V→Vl→Prop
 | 0,v,.a x=>v=x∧j5 x=true
 | 0,_,.l _=>False
 | 0,_,.t _=>False
 | _+1,v,.a x=>v=x∧j5 x=true
 | n+1,v,.l xs=>∃ p us,v=.ref p∧H p=some (.lst us)∧us.length=xs.length∧∀ (i:Nat) (u:V) (x:Vl),us[i]?=some u→xs[i]?=some x→Rp H n u x
 | n+1,v,.t xs=>∃ p us,v=.ref p∧H p=some (.tup us)∧us.length=xs.length∧∀ (i:Nat) (u:V) (x:Vl),us[i]?=some u→xs[i]?=some x→Rp H n u x
def eqD:Nat→Vl→Vl→Bool
 | _,.a x,.a y=>eqV x y
 | n+1,.l xs,.l ys=>(List.range xs.length).all (fun i=>match xs[i]?,ys[i]? with|some x,some y=>eqD n x y|_,_=>true)&&xs.length == ys.length
 | n+1,.t xs,.t ys=>(List.range xs.length).all (fun i=>match xs[i]?,ys[i]? with|some x,some y=>eqD n x y|_,_=>true)&&xs.length == ys.length
 | _,_,_=>false
theorem Rp.Ci {H:Hp} {n:Nat} {v x:V} (h:Rp H n v (.a x)):v=x∧j5 x=true:=by cases n<;>exact h
theorem Ip {n:Nat} {x y:V}:eqD n (.a x) (.a y)=eqV x y:=by cases n<;>rfl
theorem MK {H:Hp} {n:Nat} {us:List V} {xs ys:List Vl} (lx:us.length=xs.length) (ly:us.length=ys.length) (h:∀ (i:Nat) (x y:Vl),xs[i]?=some x→ys[i]?=some y→eqD n x y=true) :
  ((List.range xs.length).all (fun i=>match xs[i]?,ys[i]? with|some x,some y=>eqD n x y|_,_=>true)&&xs.length == ys.length)=true:=by
 rw [Bool.and_eq_true]
 refine ⟨List.all_eq_true.mpr fun i hi=>?_,beq_iff_eq.mpr (by omega)⟩
 have hi:=List.mem_range.mp hi
 have e1:xs[i]?=some xs[i]:=List.getElem?_eq_getElem hi
 have e2:ys[i]?=some (ys[i]'(by omega)):=List.getElem?_eq_getElem (by omega)
 simp only [e1,e2]
 exact h i _ _ e1 e2
theorem Hi {H:Hp}:∀ {n:Nat} {v:V} {a b:Vl},Rp H n v a→Rp H n v b→eqD n a b=true:=by
 intro n
 induction n with
 | zero =>
  intro v a b ha hb
  cases a with
  | a x =>
   cases b with
   | a y =>
    obtain ⟨rfl,fx⟩:=ha.Ci
    obtain ⟨rfl,_⟩:=hb.Ci
    rw [Ip]
    exact MI fx
   | l ys=>exact hb.elim
   | t ys=>exact hb.elim
  | l xs=>exact ha.elim
  | t xs=>exact ha.elim
 | succ n ih =>
  intro v a b ha hb
  cases a with
  | a x =>
   obtain ⟨rfl,fx⟩:=ha.Ci
   cases b with
   | a y =>
    obtain ⟨rfl,_⟩:=hb.Ci
    rw [Ip]
    exact MI fx
   | l ys =>
    obtain ⟨p,us,rfl,_⟩:=hb
    exact absurd (show false=true from fx) Bool.false_ne_true
   | t ys =>
    obtain ⟨p,us,rfl,_⟩:=hb
    exact absurd (show false=true from fx) Bool.false_ne_true
  | l xs =>
   obtain ⟨p,us,rfl,hp,hl,hi⟩:=ha
   cases b with
   | a y =>
    obtain ⟨e,fy⟩:=hb.Ci
    rw [←e] at fy
    exact absurd (show false=true from fy) Bool.false_ne_true
   | l ys =>
    obtain ⟨q,ws,e,hq,ml,mi⟩:=hb
    cases e
    rw [hp] at hq
    cases hq
    exact MK (H:=H) hl ml fun i x y e1 e2=>by
     have hiu:i<us.length:=by rw [hl];exact (List.getElem?_eq_some_iff.mp e1).1
     exact ih (hi i _ x (List.getElem?_eq_getElem hiu) e1) (mi i _ y (List.getElem?_eq_getElem hiu) e2)
   | t ys =>
    obtain ⟨q,ws,e,hq,ml,mi⟩:=hb
    cases e
    rw [hp] at hq
    cases hq
  | t xs =>
   obtain ⟨p,us,rfl,hp,hl,hi⟩:=ha
   cases b with
   | a y =>
    obtain ⟨e,fy⟩:=hb.Ci
    rw [←e] at fy
    exact absurd (show false=true from fy) Bool.false_ne_true
   | t ys =>
    obtain ⟨q,ws,e,hq,ml,mi⟩:=hb
    cases e
    rw [hp] at hq
    cases hq
    exact MK (H:=H) hl ml fun i x y e1 e2=>by
     have hiu:i<us.length:=by rw [hl];exact (List.getElem?_eq_some_iff.mp e1).1
     exact ih (hi i _ x (List.getElem?_eq_getElem hiu) e1) (mi i _ y (List.getElem?_eq_getElem hiu) e2)
   | l ys =>
    obtain ⟨q,ws,e,hq,ml,mi⟩:=hb
    cases e
    rw [hp] at hq
    cases hq
structure RcB (A:Around) (s:Shared) (u v:Value) (b:Bool):Prop where
 eq:SeqAt.RcAt A s u v b
 ne:SeqAt.RcNeAt A s u v (!b)
theorem K5 {A:Around} {s:Shared} {y x:V} {u v:Value} (ry:RelV y u) (rx:RelV x v) (fy:j5 y=true) (fx:j5 x=true):RcB A s u v (eqV y x):=by
 cases y with
 | non =>
  cases ry
  cases x with
  | non=>cases rx;exact ⟨.none_none ,.none_none ⟩
  | bl b=>cases rx;exact ⟨.none_bool b,.none_bool b⟩
  | int b=>obtain ⟨t,rfl⟩:=rx;exact ⟨.none_int b t,.none_int b t⟩
  | str b=>obtain ⟨t,rfl⟩:=rx;exact ⟨.none_str b t,.none_str b t⟩
  | _=>exact absurd (show false=true from fx) Bool.false_ne_true
 | bl a =>
  cases ry
  cases x with
  | non=>cases rx;exact ⟨.bool_none a,.bool_none a⟩
  | bl b=>cases rx;exact ⟨.bool_bool a b,.bool_bool a b⟩
  | int b=>obtain ⟨t,rfl⟩:=rx;exact ⟨.bool_int a b t,.bool_int a b t⟩
  | str b=>obtain ⟨t,rfl⟩:=rx;exact ⟨.bool_str a b t,.bool_str a b t⟩
  | _=>exact absurd (show false=true from fx) Bool.false_ne_true
 | int a =>
  obtain ⟨t',rfl⟩:=ry
  cases x with
  | non=>cases rx;exact ⟨.int_none a t',.int_none a t'⟩
  | bl b=>cases rx;exact ⟨.int_bool a t' b,.int_bool a t' b⟩
  | int b=>obtain ⟨t,rfl⟩:=rx;exact ⟨.int_int a t' b t,.int_int a t' b t⟩
  | str b=>obtain ⟨t,rfl⟩:=rx;exact ⟨.int_str a t' b t,.int_str a t' b t⟩
  | _=>exact absurd (show false=true from fx) Bool.false_ne_true
 | str a =>
  obtain ⟨t',rfl⟩:=ry
  cases x with
  | non=>cases rx;exact ⟨.str_none a t',.str_none a t'⟩
  | bl b=>cases rx;exact ⟨.str_bool a t' b,.str_bool a t' b⟩
  | int b=>obtain ⟨t,rfl⟩:=rx;exact ⟨.str_int a t' b t,.str_int a t' b t⟩
  | str b=>obtain ⟨t,rfl⟩:=rx;exact ⟨.str_str a t' b t,.str_str a t' b t⟩
  | _=>exact absurd (show false=true from fx) Bool.false_ne_true
 | _=>exact absurd (show false=true from fy) Bool.false_ne_true
section
variable {X:Cx} {pins:List (Addr×Obj)} {σ:St} {H:Hp} {s:Shared}
theorem Hj {A:Around} {x:V} {u:Value} {l:Addr} {items:Array Value} (rx:RelV x u) (fx:j5 x=true) (hl:s.heap.IsList l items) (hu:A.units<cLine):RcB A s u (.ref l) false∧RcB A s (.ref l) u false∧SeqAt.EqAt A s u (.ref l) false∧SeqAt.EqAt A s (.ref l) u false:=by
 cases x with
 | non=>cases rx;exact ⟨⟨.none_list hl hu,.none_list hl hu⟩,⟨.list_none hl hu,.list_none hl hu⟩,.none_list hl hu,.list_none hl hu⟩
 | bl b=>cases rx;exact ⟨⟨.bool_list _ hl hu,.bool_list _ hl hu⟩,⟨.list_bool _ hl hu,.list_bool _ hl hu⟩,.bool_list _ hl hu,.list_bool _ hl hu⟩
 | int n=>obtain ⟨t,rfl⟩:=rx;exact ⟨⟨.int_list _ _ hl hu,.int_list _ _ hl hu⟩,⟨.list_int _ _ hl hu,.list_int _ _ hl hu⟩,.int_list _ _ hl hu,.list_int _ _ hl hu⟩
 | str z=>obtain ⟨t,rfl⟩:=rx;exact ⟨⟨.str_list _ _ hl hu,.str_list _ _ hl hu⟩,⟨.list_str _ _ hl hu,.list_str _ _ hl hu⟩,.str_list _ _ hl hu,.list_str _ _ hl hu⟩
 | _=>exact absurd (show false=true from fx) Bool.false_ne_true
theorem Hk {A:Around} {x:V} {u:Value} {l:Addr} {items:Array Value} (rx:RelV x u) (fx:j5 x=true) (hl:s.heap.IsTuple l items) (hu:A.units<cLine):RcB A s u (.ref l) false∧RcB A s (.ref l) u false∧SeqAt.EqAt A s u (.ref l) false∧SeqAt.EqAt A s (.ref l) u false:=by
 cases x with
 | non=>cases rx;exact ⟨⟨.none_tuple hl hu,.none_tuple hl hu⟩,⟨.tuple_none hl hu,.tuple_none hl hu⟩,.none_tuple hl hu,.tuple_none hl hu⟩
 | bl b=>cases rx;exact ⟨⟨.bool_tuple _ hl hu,.bool_tuple _ hl hu⟩,⟨.tuple_bool _ hl hu,.tuple_bool _ hl hu⟩,.bool_tuple _ hl hu,.tuple_bool _ hl hu⟩
 | int n=>obtain ⟨t,rfl⟩:=rx;exact ⟨⟨.int_tuple _ _ hl hu,.int_tuple _ _ hl hu⟩,⟨.tuple_int _ _ hl hu,.tuple_int _ _ hl hu⟩,.int_tuple _ _ hl hu,.tuple_int _ _ hl hu⟩
 | str z=>obtain ⟨t,rfl⟩:=rx;exact ⟨⟨.str_tuple _ _ hl hu,.str_tuple _ _ hl hu⟩,⟨.tuple_str _ _ hl hu,.tuple_str _ _ hl hu⟩,.str_tuple _ _ hl hu,.tuple_str _ _ hl hu⟩
 | _=>exact absurd (show false=true from fx) Bool.false_ne_true
theorem lst_is (I:Inv X pins σ H s) {p:Addr} {us:List V} (h:H p=some (.lst us)):∃ vs,Vals us vs∧s.heap.IsList p vs.toArray:=by
 obtain ⟨vs,r,⟨o,n,e,c,_,g⟩,_⟩:=I.list (SqL.of h)
 exact ⟨vs,r,o,e,c,n,g⟩
theorem tup_is (I:Inv X pins σ H s) {p:Addr} {us:List V} (h:H p=some (.tup us)):∃ vs,Vals us vs∧s.heap.IsTuple p vs.toArray:=by
 obtain ⟨vs,r,t,_⟩:=I.tuple (SqT.of h)
 exact ⟨vs,r,t⟩
theorem rcG (I:Inv X pins σ H s):∀ {n:Nat} {x y:V} {a b:Vl},Rp H n x a→Rp H n y b→∀ {A:Around} {u v:Value},RelV x u→RelV y v→A.units+n<cLine →
  SeqAt.EqAt A s u v (eqD n a b)∧(¬((∃ z,a=.a z)∧∃ z,b=.a z)→RcB A s u v (eqD n a b)):=by
 intro n
 induction n with
 | zero =>
  intro x y a b ha hb A u v rx ry hu
  cases a with
  | a z =>
   cases b with
   | a z' =>
    obtain ⟨rfl,fx⟩:=ha.Ci
    obtain ⟨rfl,fy⟩:=hb.Ci
    rw [Ip]
    exact ⟨Jp rx ry fx fy,fun h=>(h ⟨⟨_,rfl⟩,_,rfl⟩).elim⟩
   | _=>exact hb.elim
  | _=>exact ha.elim
 | succ n ih =>
  intro x y a b ha hb A u v rx ry hu
  have hu0:A.units<cLine:=by omega
  cases a with
  | a z =>
   obtain ⟨rfl,fx⟩:=ha.Ci
   cases b with
   | a z' =>
    obtain ⟨rfl,fy⟩:=hb.Ci
    rw [Ip]
    exact ⟨Jp rx ry fx fy,fun h=>(h ⟨⟨_,rfl⟩,_,rfl⟩).elim⟩
   | l ys =>
    obtain ⟨q,ws,rfl,hq,_⟩:=hb
    obtain ⟨vs,_,hl⟩:=lst_is I hq
    cases ry
    obtain ⟨h1,_,h3,_⟩:=Hj rx fx hl hu0
    exact ⟨h3,fun _=>h1⟩
   | t ys =>
    obtain ⟨q,ws,rfl,hq,_⟩:=hb
    obtain ⟨vs,_,hl⟩:=tup_is I hq
    cases ry
    obtain ⟨h1,_,h3,_⟩:=Hk rx fx hl hu0
    exact ⟨h3,fun _=>h1⟩
  | l xs =>
   have ha':=ha
   obtain ⟨p,us,rfl,hp,lx,hx⟩:=ha
   obtain ⟨vs,r1,hl⟩:=lst_is I hp
   cases rx
   cases b with
   | a z' =>
    obtain ⟨rfl,fy⟩:=hb.Ci
    obtain ⟨_,h2,_,h4⟩:=Hj ry fy hl hu0
    exact ⟨h4,fun _=>h2⟩
   | l ys =>
    have hb':=hb
    obtain ⟨q,ws,rfl,hq,ly,hy⟩:=hb
    obtain ⟨vs2,r2,hl2⟩:=lst_is I hq
    cases ry
    have l1:=r1.length
    have l2:=r2.length
    have rc:RcB A s (.ref p) (.ref q) (eqD (n+1) (.l xs) (.l ys)):=by
     by_cases hs:xs.length=ys.length
     ·have he:∀ j (h1:j<vs.toArray.size) (h2:j<vs2.toArray.size),SeqAt.EqAt A.in1 s vs.toArray[j] vs2.toArray[j] (match xs[j]?,ys[j]? with|some x,some y=>eqD n x y|_,_=>true):=fun j h1 h2=>by
       simp only [List.size_toArray] at h1 h2
       obtain ⟨w1,z1,rz1⟩:=r1.get (i:=j) (x:=us[j]'(by omega)) (List.getElem?_eq_getElem (by omega))
       obtain ⟨w2,z2,rz2⟩:=r2.get (i:=j) (x:=ws[j]'(by omega)) (List.getElem?_eq_getElem (by omega))
       have a1:vs.toArray[j]=w1:=by
        have:=(List.getElem?_eq_some_iff.mp z1).2
        simpa using this
       have a2:vs2.toArray[j]=w2:=by
        have:=(List.getElem?_eq_some_iff.mp z2).2
        simpa using this
       rw [a1,a2]
       have e1:xs[j]?=some (xs[j]'(by omega)):=List.getElem?_eq_getElem (by omega)
       have e2:ys[j]?=some (ys[j]'(by omega)):=List.getElem?_eq_getElem (by omega)
       simp only [e1,e2]
       exact (ih (hx j _ _ (List.getElem?_eq_getElem (by omega)) e1) (hy j _ _ (List.getElem?_eq_getElem (by omega)) e2) rz1 rz2 (by rw [Around.in1_units];omega)).1
      have e:eqD (n+1) (.l xs) (.l ys)=(List.range vs.toArray.size).all (fun i=>match xs[i]?,ys[i]? with|some x,some y=>eqD n x y|_,_=>true):=by
       show (_&&_)=_
       rw [beq_iff_eq.mpr hs,Bool.and_true]
       simp only [List.size_toArray]
       rw [show vs.length=xs.length by omega]
      rw [e]
      exact ⟨.lists hl hl2 (by simp only [List.size_toArray];omega) hu0 he,.lists hl hl2 (by simp only [List.size_toArray];omega) hu0 he⟩
     ·have e:eqD (n+1) (.l xs) (.l ys)=false:=by
       show (_&&_)=_
       rw [beq_eq_false_iff_ne.mpr hs,Bool.and_false]
      rw [e]
      exact ⟨.lists_lengths hl hl2 (by simp only [List.size_toArray,bne_iff_ne,ne_eq];omega) hu0,.lists_lengths hl hl2 (by simp only [List.size_toArray,bne_iff_ne,ne_eq];omega) hu0⟩
    refine ⟨?_,fun _=>rc⟩
    by_cases e:p=q
    ·subst e
     rw [Hi ha' hb']
     exact .same _
    ·exact .of_refs e rc.eq
   | t ys =>
    obtain ⟨q,ws,rfl,hq,ly,hy⟩:=hb
    obtain ⟨vs2,r2,hl2⟩:=tup_is I hq
    cases ry
    have ne:p≠q:=fun e=>by rw [e,hq] at hp;cases hp
    exact ⟨.of_refs ne (.list_tuple hl hl2 hu0),fun _=>⟨.list_tuple hl hl2 hu0,.list_tuple hl hl2 hu0⟩⟩
  | t xs =>
   have ha':=ha
   obtain ⟨p,us,rfl,hp,lx,hx⟩:=ha
   obtain ⟨vs,r1,hl⟩:=tup_is I hp
   cases rx
   cases b with
   | a z' =>
    obtain ⟨rfl,fy⟩:=hb.Ci
    obtain ⟨_,h2,_,h4⟩:=Hk ry fy hl hu0
    exact ⟨h4,fun _=>h2⟩
   | l ys =>
    obtain ⟨q,ws,rfl,hq,ly,hy⟩:=hb
    obtain ⟨vs2,r2,hl2⟩:=lst_is I hq
    cases ry
    have ne:p≠q:=fun e=>by rw [e,hq] at hp;cases hp
    exact ⟨.of_refs ne (.tuple_list hl hl2 hu0),fun _=>⟨.tuple_list hl hl2 hu0,.tuple_list hl hl2 hu0⟩⟩
   | t ys =>
    have hb':=hb
    obtain ⟨q,ws,rfl,hq,ly,hy⟩:=hb
    obtain ⟨vs2,r2,hl2⟩:=tup_is I hq
    cases ry
    have l1:=r1.length
    have l2:=r2.length
    have he:∀ j (h1:j<vs.toArray.size) (h2:j<vs2.toArray.size),SeqAt.EqAt A.in1 s vs.toArray[j] vs2.toArray[j] (match xs[j]?,ys[j]? with|some x,some y=>eqD n x y|_,_=>true):=fun j h1 h2=>by
     simp only [List.size_toArray] at h1 h2
     obtain ⟨w1,z1,rz1⟩:=r1.get (i:=j) (x:=us[j]'(by omega)) (List.getElem?_eq_getElem (by omega))
     obtain ⟨w2,z2,rz2⟩:=r2.get (i:=j) (x:=ws[j]'(by omega)) (List.getElem?_eq_getElem (by omega))
     have a1:vs.toArray[j]=w1:=by
      have:=(List.getElem?_eq_some_iff.mp z1).2
      simpa using this
     have a2:vs2.toArray[j]=w2:=by
      have:=(List.getElem?_eq_some_iff.mp z2).2
      simpa using this
     rw [a1,a2]
     have e1:xs[j]?=some (xs[j]'(by omega)):=List.getElem?_eq_getElem (by omega)
     have e2:ys[j]?=some (ys[j]'(by omega)):=List.getElem?_eq_getElem (by omega)
     simp only [e1,e2]
     exact (ih (hx j _ _ (List.getElem?_eq_getElem (by omega)) e1) (hy j _ _ (List.getElem?_eq_getElem (by omega)) e2) rz1 rz2 (by rw [Around.in1_units];omega)).1
    have e:eqD (n+1) (.t xs) (.t ys)=((List.range (min vs.toArray.size vs2.toArray.size)).all (fun i=>match xs[i]?,ys[i]? with|some x,some y=>eqD n x y|_,_=>true)&&vs.toArray.size == vs2.toArray.size):=by
     show (_&&_)=_
     simp only [List.size_toArray]
     by_cases hs:xs.length=ys.length
     ·rw [show min vs.length vs2.length=xs.length by omega,show (vs.length == vs2.length)=(xs.length == ys.length) by rw [show vs.length=xs.length by omega,show vs2.length=ys.length by omega]]
     ·rw [beq_eq_false_iff_ne.mpr hs,show (vs.length == vs2.length)=false from beq_eq_false_iff_ne.mpr (by omega),Bool.and_false,Bool.and_false]
    have rc:RcB A s (.ref p) (.ref q) (eqD (n+1) (.t xs) (.t ys)):=by
     rw [e]
     exact ⟨.tuples hl hl2 hu0 he,.tuples hl hl2 hu0 he⟩
    refine ⟨?_,fun _=>rc⟩
    by_cases e:p=q
    ·subst e
     rw [Hi ha' hb']
     exact .same _
    ·exact .of_refs e rc.eq
end
def aaq (n:Nat):R2:=fun x y H Q=>∃ a b,Rp H n x a∧Rp H n y b∧Q (.bl (eqD n a b)) H
section
variable {X:Cx}
theorem ML {n:Nat} (hu:X.A.units+n<cLine):OpR X (compareOp .Eq) (aaq n):=by
 rintro pins s σ H x y v u Q I rx ry ⟨a,b,ha,hb,q⟩
 by_cases h:(∃ z,a=.a z)∧∃ z,b=.a z
 ·obtain ⟨⟨z,rfl⟩,z',rfl⟩:=h
  obtain ⟨rfl,fx⟩:=ha.Ci
  obtain ⟨rfl,fy⟩:=hb.Ci
  rw [Ip] at q
  exact (K5 rx ry fx fy).eq _ _ _ _ ⟨.bl _,H,I,rfl,q⟩
 ·exact ((rcG I ha hb rx ry hu).2 h).eq _ _ _ _ ⟨.bl _,H,I,rfl,q⟩
end
end L2
end
section
namespace L2
open PySem PySem.Spec PyProof.Rows LX
section
variable {X:Cx} {pins:List (Addr×Obj)} {σ:St} {H:Hp} {s:Shared} {d:Addr} {o:Obj} {u:HO}
theorem Inv.W2 (I:Inv X pins σ H s) (hd:H d=some (.frz o u)) (h0:∀ o u,X.H₀ d≠some (.frz o u)) (nt:∀ xs,u≠.tup xs) (no:∀ x,u≠.own x) (nb:∀ ps,u≠.tbl ps):Inv X pins σ (upd H d u) s:=by
 have nn:∀ {b:Addr},H b=none→upd H d u b=none:=fun {b} q=>by
  rw [ae fun z=>by rw [z,hd] at q;cases q]
  exact q
 have ns:∀ {b:Addr} {v:HO},H b=some v→(∀ o w,v≠.frz o w)→upd H d u b=some v:=fun {b v} q n=>by
  rw [ae fun z=>n o u (by rw [z,hd] at q;exact (Option.some.inj q).symm)]
  exact q
 refine ⟨I.ok,I.os,I.bare,⟨I.base.keep,I.base.slot,fun b ob q n e=>nn (I.base.free b ob q n e),I.base.there,fun b xs q=>ns (I.base.B9 b xs q) (by intro _ _ z;cases z),fun b ob w q=>?_,fun b ps q=>?_⟩,I.loc,I.cell,nn I.free,fun x c q=>nn (I.kA x c q),fun p hp=>?_,fun a w q=>?_,I.len⟩
 ·have q':=I.base.Bl b ob w q
  rw [ae fun z=>h0 ob w (by rw [←z];exact q)]
  exact q'
 ·obtain ⟨more,q'⟩:=I.base.Ca b ps q
  exact ⟨more,ns q' (by intro _ _ z;cases z)⟩
 ·obtain ⟨p1,p2,p3⟩:=I.pin p hp
  exact ⟨p1,nn p2,p3⟩
 ·have st:∀ {a:Addr} {w:HO},en X.prog X.w H s.heap a w→en X.prog X.w (upd H d u) s.heap a w:=fun x=>x.Fq (fun _ _ _ z=>z) (fun b z=>ns z (by intro _ _ y;cases y)) fun b xs z=>ns z (by intro _ _ y;cases y)
  by_cases e:a=d
  ·subst e
   rw [ag] at q
   cases q
   exact st (I.hok a _ hd).2
  ·rw [ae e] at q
   exact st (I.hok a w q)
def aar (H₀:Hp) (te:TE):TE:=fun σ H Q=>te σ H fun v H1=>∃ d o kvs,H1 d=some (.frz o (.dK kvs))∧(∀ o u,H₀ d≠some (.frz o u))∧Q v (upd H1 d (.dK kvs))
theorem MM {e:Expr} {te:TE} (h:PE X e te):PE X e (aar X.H₀ te):=by
 intro pins s σ H Q I t
 refine wpAny_mono (h pins s σ H _ I t) (fun u s1 ⟨v,H1,I1,r,q⟩=>?_) fun _ _ z=>z
 obtain ⟨d,o,kvs,hd,h0,q⟩:=q
 exact ⟨v,_,I1.W2 hd h0 (by intro _ z;cases z) (by intro _ z;cases z) (by intro _ z;cases z),r,q⟩
def aas (H₀:Hp) (t:TS):TS:=fun D σ H=>∃ d o kvs,H d=some (.frz o (.dK kvs))∧(∀ o u,H₀ d≠some (.frz o u))∧t D σ (upd H d (.dK kvs))
theorem MN {st:Stmt} {t:TS} (h:PS X st t):PS X st (aas X.H₀ t):=by
 intro pins s σ H D I q
 obtain ⟨d,o,kvs,hd,h0,q⟩:=q
 exact h pins s σ _ D (I.W2 hd h0 (by intro _ z;cases z) (by intro _ z;cases z) (by intro _ z;cases z)) q
theorem RM:∀ {ns:List Int} {us:List Value},Vals (ns.map V.int) us→∃ ps:List (Int×Tok),us=ps.map (fun p=>Value.int p.1 p.2)∧ps.map (·.1)=ns
 | [],_,.nil=>⟨[],rfl,rfl⟩
 | n::r,_,.cons h t=>by
  obtain ⟨k,rfl⟩:=h
  obtain ⟨ps,e,e2⟩:=RM t
  exact ⟨(n,k)::ps,by rw [e];rfl,by rw [List.map_cons,e2]⟩
def YX (K:W.Frag):List V→Hp→VK→Prop:=fun vs H Q=>∃ (p:Addr) (ns:List Int),vs=[.ref p]∧SqL K H p (ns.map V.int)∧Q (.int ns.sum) H
theorem K6 (hc:X.calm=true):ux X (.builtin "sum") (YX X.K):=by
 rintro pins s σ H xs us Q I r ⟨p,ns,rfl,hq,q⟩
 obtain ⟨u,rfl,ru⟩:=r.one
 cases (show u=Value.ref p from ru)
 obtain ⟨its,rv,⟨o,n,e1,e2,e3,e4⟩,hz⟩:=I.list hq
 obtain ⟨ps,e,ee⟩:=RM rv
 have hl:s.heap.IsList p (intItems ps.toArray):=by
  refine ⟨o,e1,e2,n,?_⟩
  rw [e4,e]
  simp [intItems]
 have hs:preSum (numAt ps.toArray) ps.toArray.size=ns.sum:=by
  rw [preSum_eq]
  simp only [List.size_toArray]
  rw [ee,List.take_of_length_le (by rw [←ee,List.length_map];exact Nat.le_refl _)]
 refine sum_intListG (I.ok.hd hc) hl fun h' tk t' hk=>⟨.int ns.sum,H,I.kept (t':=tk) hk,⟨t',by rw [hs]⟩,q⟩
end
end L2
end
section
namespace L2
open PySem PySem.Spec PyProof.Rows LX
theorem K7 {d:Addr} {o:Obj} {kvs:List (Key×V)} {te:TE} {Q:VK} {D:Addr} {τ:St} {H:Hp} (Pv:Nat→List V→Hp→Prop) (h0:Pv 0 [] H) (hD:∀ i ys H,i≤kvs.length→Pv i ys H→H D=some (.lst ys)∧ys.length=i) (hl:∀ i ys H,i≤kvs.length→Pv i ys H→H d=some (.frz o (.dK kvs))) (hn:kvs.length≤sizeLine)
  (hs:∀ i p ys H,kvs[i]?=some p→Pv i ys H→te (some (kV p.1)::τ) H fun v H4=>H4 D=some (.lst ys)∧Pv (i+1) (ys++[v]) (upd H4 D (.lst (ys++[v])))) (hd:∀ ys H,Pv kvs.length ys H→Q (.ref D) H):Js (Itd d o kvs) D τ te Q H:=by
 refine ⟨fun i m ys H=>m=kvs.length-i∧i≤kvs.length∧Pv i ys H,⟨kvs.length,by simp,Nat.zero_le _,h0⟩,?_⟩
 rintro i m ys H2 ⟨rfl,hi,p⟩
 obtain ⟨d1,d2⟩:=hD i ys H2 hi p
 refine ⟨d1,?_⟩
 have hS:=hl i ys H2 hi p
 by_cases hlt:i<kvs.length
 ·refine .inr ⟨⟨hS,hlt⟩,by omega,Pv (i+1),fun zs H' p'=>⟨kvs.length-(i+1),by omega,rfl,hlt,p'⟩,fun y H3 q=>?_⟩
  obtain ⟨e1,q',e2,e3⟩:=q
  subst e1 e3
  exact hs i q' ys _ e2 p
 ·have e:i=kvs.length:=by omega
  subst e
  exact .inl ⟨⟨hS,Nat.le_refl _⟩,hd ys H2 p⟩
def Nr:Option Key→Value→Bool
 | none,.none=>true
 | none,_=>false
 | some k,v=>pB k v
theorem gM {v:Value} (h:Nr none v=true):v=.none:=by
 cases v<;>first|rfl|cases h
def aat (w:World):Option Key→Int
 | none=>reduceHash 0xFCA86420
 | some k=>Zk w k
theorem K8 {prog:Program} {w:World} {A:Around} {E:Value→Shared→Prop} {s:Shared} {Q:Int→Shared→Prop} (h:Q (reduceHash 0xFCA86420) {s with toks:=s.toks+1}):wpAny (model prog w) A (pyHash .none) Q E s:=by
 show wpAny _ _ (pyHashByItsType .none) Q E s
 exact PySem.W.pyHash_slot (T := "NoneType") rfl F.slot_NoneType_hash F.entry_NoneType_hash (F.args_NoneType_hash_1 _) (beq_builtin_none _) (.inl rfl) (wpAny_bind (wpAny_pure (wpAny_bind (wpAny_mkInt (wpAny_pure ⟨_,_,rfl,h⟩)))))
def optKind (prog:Program) (w:World):PySem.KeyKind prog w (Option Key) where
 is:=Nr
 hash:=aat w
 inj:=fun v a b ha hb=>by
  cases a with
  | none =>
   obtain rfl:=gM ha
   cases b with
   | none=>rfl
   | some k=>rcases bV (show pB k .none=true from hb) with ⟨_,_,_,e⟩|⟨_,_,_,e⟩<;>exact nomatch e
  | some k =>
   cases b with
   | none =>
    obtain rfl:=gM hb
    rcases bV (show pB k .none=true from ha) with ⟨_,_,_,e⟩|⟨_,_,_,e⟩<;>exact nomatch e
   | some k'=>rw [(di prog w).inj v k k' ha hb]
 byValue:=fun k v h=>by
  cases k with
  | none=>obtain rfl:=gM h;rfl
  | some k=>exact (di prog w).byValue k v h
 pyHash:=fun {A E s k v Q} hv h=>by
  cases k with
  | none=>obtain rfl:=gM hv;exact K8 h
  | some k=>exact (di prog w).pyHash (k:=k) hv h
 eqBool:=fun {A E s a b u v Q} hu hv h=>by
  cases a with
  | none =>
   obtain rfl:=gM hu
   cases b with
   | none=>obtain rfl:=gM hv;exact SeqAt.EqAt.same _ _ _ _ _ h
   | some k =>
    rw [decide_eq_false (by intro z;cases z)] at h
    rcases bV (show pB k v=true from hv) with ⟨i,t,_,rfl⟩|⟨x,t,_,rfl⟩
    ·exact SeqAt.EqAt.none_int i t _ _ _ _ h
    ·exact SeqAt.EqAt.none_str x t _ _ _ _ h
  | some k =>
   cases b with
   | none =>
    obtain rfl:=gM hv
    rw [decide_eq_false (by intro z;cases z)] at h
    rcases bV (show pB k u=true from hu) with ⟨i,t,_,rfl⟩|⟨x,t,_,rfl⟩
    ·exact SeqAt.EqAt.int_none i t _ _ _ _ h
    ·exact SeqAt.EqAt.str_none x t _ _ _ _ h
   | some k' =>
    refine (di prog w).eqBool (a:=k) (b:=k') hu hv ?_
    have e:decide (some k=some k')=decide (k=k'):=by
     by_cases c:k=k'
     ·subst c;simp
     ·rw [decide_eq_false c,decide_eq_false (by intro z;exact c (Option.some.inj z))]
    rw [←e]
    exact h
 «strs» := fun k x t v h=>by
  cases k with
  | none=>exact nomatch gM h
  | some k=>exact (di prog w).strs k x t v h
theorem Og {prog:Program} {w:World} {h:Heap} {a:Addr} {kvs:List (Key×Value)} (hd:h.DictOf (di prog w) a kvs):h.MapOf (optKind prog w) a (fun k=>k.bind fun k=>valueAt kvs k):=by
 obtain ⟨o,es,ep,ho,hc,aau,hk,hf⟩:=hd.mapOf
 refine ⟨o,es,ep,ho,hc,aau,fun e he=>?_,fun k=>?_⟩
 ·obtain ⟨k,h1,h2⟩:=hk e he
  exact ⟨some k,h1,h2⟩
 ·cases k with
  | none =>
   show (es.find? fun e=>Nr none e.key).map (·.val)=none
   rw [Array.find?_eq_none.mpr fun e he=>?_]
   ·rfl
   ·obtain ⟨k,h1,_⟩:=hk e he
    intro z
    have:=gM z
    rw [this] at h1
    rcases bV (show pB k .none=true from h1) with ⟨_,_,_,e⟩|⟨_,_,_,e⟩<;>exact nomatch e
  | some k=>exact hf k
def inO (kvs:List (Key×V)):Option Key→Bool
 | none=>false
 | some k=>(j6 kvs k).isSome
def W3:Option Key→V
 | none=>.non
 | some k=>kV k
section
variable {X:Cx} {i o:Expr} {ty td:TE}
def YY (ty td:TE):TE:=fun σ H Q=>ty σ H fun y H1=>td σ H1 fun x H2=>∃ a kvs k,x=.ref a∧y=W3 k∧Rd H2 a (.dK kvs)∧Q (.bl (inO kvs k)) H2
theorem Wy {P:Program} {w:World} {k:Option Key} {u:Value} (r:RelV (W3 k) u):(optKind P w).is k u=true:=by
 cases k with
 | none=>cases r;rfl
 | some k=>exact DG (P:=P) (w:=w) r
theorem Oh (hi:PE X i ty) (ho:PE X o td):PC X .In i o (YY ty td):=by
 intro pins s σ H Q I h
 refine thn (hi pins s σ H _ I h) fun iv s1 ⟨y,H1,I1,ry,q1⟩=>thn (ho pins s1 σ H1 _ I1 q1) fun u s2 ⟨x,H2,I2,rx,a,kvs,k,ex,ey,g,q2⟩=>?_
 subst ex ey
 cases (show u=Value.ref a from rx)
 obtain ⟨z,hd,vs,rel,dd⟩:=Aj I2.hok g
 refine wpAny_in_of (Wy (P:=X.prog) (w:=X.w) ry) hd (Og dd) ?_
 have e:(k.bind fun k=>valueAt vs k).isSome=inO kvs k:=by
  cases k with
  | none=>rfl
  | some k=>exact (rel.val k).lW.symm
 rw [e]
 exact ⟨.bl (inO kvs k),H2,I2.tok _,rfl,q2⟩
end
end L2
end
section
namespace L2
open PySem PySem.Spec PyProof.Rows LX
section
variable {X:Cx} {K:W.Frag}
theorem Oi {e:Expr} {f:Str} {pos:Pos} {ta:TE} (hK:X.K=K) (he:PE X e ta) (hb:attributeBase e f X.env (eval e X.env)=eval e X.env):PE X (.Attribute e f pos) (Zp K ta f):=by
 subst hK
 exact aN he hb
def YZ (K:W.Frag):List V→Hp→VK→Prop:=fun xs H Q=>∃ p ys,xs=[V.ref p]∧(SqL K H p ys∨SqT K H p ys)∧Q (.int (ys.length:Int)) H
theorem K9 (hK:X.K=K):ux X (.builtin "len") (YZ K):=by
 subst hK
 exact dN
end
end L2
end
section
namespace L2
open PySem PySem.Spec PyProof.Rows LX
structure Lv (k:Nat) (A:Around):Prop where
 dp:A.depth+3*k+5<recursionLimit
 un:A.units+16*k+200<cLine
theorem kR.r0 {j k:Nat} {A:Around} (r:kR k A) (h:j≤k):Lv j A:=⟨by have:=r.dp;omega,by have:=r.un;omega⟩
structure Iq (P:Program) (w:World) (K:W.Frag) (mg:Str→Option Value) (base:Heap) (CX:CXT) (k:Nat) (f:Addr) (fd:FuncData) (ps:List Str) (sp:Sp):Prop where
 len:∀ vs H Q E,sp vs H Q E→vs.length=ps.length
 run:∀ (A:Around) (outer:List Env) (s:Shared) (H:Hp) (args:Args) (us:List Value) (vs:List V) (Q:VK) (E:XK),Lv k A→Ih P w K mg base A outer s H→BindsTo s fd args (ps.zip us)→Vals vs us→sp vs H Q E →
  codeAny (model P w) A (.call (.ref f) args) (CR CX outer P w H s Q E) s
def cx0 (CX:CXT) (P:Program) (w:World) (K:W.Frag) (mg:Str→Option Value) (base:Heap) (N:List Str) (qual:Str) (scope:Scope) (f:Addr) (cd:Value) (A:Around) (outer:List Env) (s:Shared) (H:Hp) (E:XK):Cx:={LD CX P w K mg base N qual scope f cd A outer s H E with calm:=false}
theorem Wz {CX:CXT} {P:Program} {w:World} {K:W.Frag} {mg:Str→Option Value} {base:Heap} {k:Nat} {f:Addr} {name qual:Str} {params:Arguments} {body:List Stmt} {scope:Scope} {dV kV doc pm cdv ct oc:Value} {an od:Option Addr}
  {osl:Array (Option Value)} {N ps:List Str} {sp:Sp} (lk:K.lookup f=some ⟨oc,od,.func (PySem.W.fnOf name qual params body scope dV kV doc pm an cdv ct),osl⟩) (hcd:PySem.W.codeIn K cdv qual=true) (S:aA N ps scope)
  (len:∀ vs H Q E,sp vs H Q E→vs.length=ps.length)
  (DF:∀ (A:Around) (outer:List Env) (s:Shared) (H:Hp) (vs:List V) (Q:VK) (E:XK),sp vs H Q E →
   ∃ t,PSs (cx0 CX P w K mg base N qual scope f cdv A outer s H E) body t∧t {nx:=fun _ H'=>Q .non H',rt:=Q} (start N vs) H) :
  Iq P w K mg base CX (k+1) f (PySem.W.fnOf name qual params body scope dV kV doc pm an cdv ct) ps sp:=by
 refine ⟨len,fun A outer s H args us vs Q E hr e0 hb r hsp=>?_⟩
 have hl:=len _ _ _ _ hsp
 have KX:K.In s.heap:=e0.mod.kin.keeps fun b o e=>(e0.bs b o e).1
 have lim:s.heap.NoLimit:=e0.mod.nolimit.keeps fun b o e=>(e0.bs b o e).1
 have Nl:∀ y∈ps.zip us,scope.names.lookup y.1=some .local∨(scope.names.lookup y.1=some .cell∧((cellsFrom (s.heap.objs.size+1) scope.names []).lookup y.1).isSome=true):=fun ⟨n,v⟩ hy=>by
  rcases S.par n (List.of_mem_zip hy).1 with q|q
  ·exact .inl q
  ·exact .inr ⟨q,PySem.W.cellsFrom_some _ _ _ (.inl q)⟩
 have dep:A.depth<recursionLimit:=by have:=hr.dp;omega
 refine codeAny_call_function dep (KX _ _ lk) rfl S.co S.gen rfl (PySem.W.codeRec_of KX hcd) (hb _ _ _ _ ?_)
 refine wpAny_newFunctionEnv_cells S.kind Nl fun env he s1 x=>?_
 subst he
 refine ⟨lim.keeps x.toInCall.keep,codeAny_func ?_⟩
 obtain ⟨t,ht,hq⟩:=DF A outer s H vs Q E hsp
 have I:Inv (cx0 CX P w K mg base N qual scope f cdv A outer s H E) [] (start N vs) H s1:=by
  have e1:Ih P w K mg base ({A with handled:=none}:Around) outer s H:=⟨e0.frames,e0.mod,e0.bs,e0.bsz,e0.xE,e0.frf,e0.hok,e0.bare⟩
  have J:=DQ (CX:=CX) (E:=E) (A:={A with handled:=none}) S rfl e1 hl r x
  exact ⟨⟨J.ok.mod,J.ok.kind,J.ok.glob,J.ok.blt,J.ok.above,J.ok.inj,J.ok.has,J.ok.cab,(fun h=>absurd h (by show ¬false=true;decide)),Around.frames_deeper e0.frames,J.ok.stk,J.ok.exf,J.ok.bs,J.ok.bsz,J.ok.HY,J.ok.JB,J.ok.xE,J.ok.frf⟩,J.os,J.bare,J.base,J.loc,J.cell,J.free,J.kA,J.pin,J.hok,J.len⟩
 refine wpAny_mono (ht [] s1 (start N vs) H _ I hq) (fun fl s' hs=>?_) fun e s' hs=>hs
 have fin:∀ {σ':St} {H':Hp} {v:V} {u:Value},Inv (cx0 CX P w K mg base N qual scope f cdv A outer s H E) [] σ' H' s'→RelV v u→Q v H'→CE outer P w H s Q u s' :=
  fun {σ' H' v u} J rv q=>⟨v,H',J.os,J.bare,J.base,J.hok,rv,q⟩
 cases fl with
 | ret u =>
  obtain ⟨v,σ',H',J,rv,q⟩:=hs
  exact fin J rv q
 | next =>
  obtain ⟨σ',H',J,q⟩:=hs
  exact fin (v:=V.non) (u:=Value.none) J rfl q
 | brk =>
  obtain ⟨_,_,_,q⟩:=hs
  exact False.elim q
 | cont =>
  obtain ⟨_,_,_,q⟩:=hs
  exact False.elim q
theorem Fun.ok0 {P:Program} {w:World} {K:W.Frag} {mg:Str→Option Value} {base:Heap} {x qual:Str} {st:Stmt} {f:Addr} {fd:FuncData} {N ps:List Str} {k:Nat} {sp:Sp} (F:Fun K x qual st f fd) (S:aA N ps (au st)) (len:∀ vs H Q E,sp vs H Q E→vs.length=ps.length)
  (DF:∀ (cdv:Value) (A:Around) (outer:List Env) (s:Shared) (H:Hp) (vs:List V) (Q:VK) (E:XK),sp vs H Q E →
   ∃ t,PSs (cx0 (CXE P w) P w K mg base N qual (au st) f cdv A outer s H E) (bF st) t∧t {nx:=fun _ H'=>Q .non H',rt:=Q} (start N vs) H):Iq P w K mg base (CXE P w) (k+1) f fd ps sp:=by
 obtain ⟨oc,od,kV,doc,pm,an,cdv,ct,osl,rfl,lk,hcd⟩:=F.ex
 exact Wz lk hcd S len fun A outer s H vs Q E hsp=>DF cdv A outer s H vs Q E hsp
section
variable {X:Cx} {o:Expr} {ta:TE}
theorem Y0 {CX:CXT} {k:Nat} {f:Addr} {fd:FuncData} {ps:List Str} {sp:Sp} {ds:List Value} {dvs:List V} {EK:St→XK} {pins:List (Addr×Obj)} {σ:St} {H:Hp} {s:Shared} {Q:VK} {us:List Value} {vs:List V} (F:Iq X.prog X.w X.K X.mg X.base CX k f fd ps sp) (hr:Lv k X.A) (hb:Binds X.K fd ps ds) (hd:Vals dvs ds) (hx:iO CX X EK)
  (I:Inv X pins σ H s) (r:Vals vs us) (h:sp (vs++dvs) H Q (EK σ)):wpAny (model X.prog X.w) X.A (call (.ref f) us) (EP X pins σ Q) X.xe s:=by
 have r2:Vals (vs++dvs) (us++ds):=r.append hd
 have hl:(us++ds).length=ps.length:=by rw [←r2.length];exact F.len _ _ _ _ h
 refine wpAny_call (codeAny_mono (F.run X.A X.stack s H ⟨us,[]⟩ (us++ds) (vs++dvs) Q (EK σ) hr I.Rv (hb s us I.kIn hl) r2 h) fun r s' hq=>?_)
 cases r with
 | error e=>exact hx pins σ H s e s' I hq
 | ok fl =>
  cases fl with
  | ret u=>exact I.after hq
  | _=>exact False.elim hq
structure MO (P:Program) (w:World) (K:W.Frag) (mg:Str→Option Value) (base:Heap) (CX:CXT) (k:Nat) (m:Str) (C:Addr) (sp:Sp):Prop where
 ex:∃ f fd ps,Meth K C m f∧Iq P w K mg base CX k f fd ps sp∧Binds K fd ps []
def JR (P:Program) (w:World) (K:W.Frag) (mg:Str→Option Value) (base:Heap) (CX:CXT) (k:Nat) (m:Str) (EK:St→XK) (ta:TE):TE:=fun σ H Q=>ta σ H fun x H1=>∃ b a C sp,x=.ref a∧H1 a=some (exo b C a none)∧LG K C ∧
 MO P w K mg base CX k m C sp∧sp [x] H1 Q (EK σ)
theorem La {CX:CXT} {k:Nat} {EK:St→XK} {m:Str} {pos apos:Pos} {pl:Sem Bool} (he:PE X o ta) (hr:Lv k X.A) (hx:iO CX X EK)
  (ht:eval (.Call (.Attribute o m apos) [] [] pos) X.env=(do
   let ov ←eval o X.env
   standAt apos.atName
   let (f,first) ←holding [ov] (getMethod ov m pl)
   callWith pos f first (backTo pos (starEach [] X.env)) (backToKw pos (keywordEach [] X.env))):=by rfl) :
  PE X (.Call (.Attribute o m apos) [] [] pos) (JR X.prog X.w X.K X.mg X.base CX k m EK ta):=by
 intro pins s σ H Q I h
 refine PySem.W.methodCall_KW (pl:=pl) (thn (he pins s σ H _ I h) fun u s1 ⟨x,H1,I1,rx,b,a,C,sp,ex,ea,g,md,q⟩=>?_) ht
 subst ex
 obtain rfl:u=Value.ref a:=rx
 obtain ⟨f,fd,ps,mt,F,hb⟩:=md.ex
 obtain ⟨fs,sl,a0,z,_⟩:=xM I1.hok ea
 have fin:wpAny (model X.prog X.w) X.A (callWith pos (.ref f) [.ref a] (backTo pos (starEach [] X.env)) (backToKw pos (keywordEach [] X.env))) (EP X pins σ Q) X.xe s1 :=
  PySem.W.callWith_K0 (first:=[.ref a]) I1.kIn mt.kp (Y0 (us:=[.ref a]) (vs:=[.ref a]) (dvs:=[]) (ds:=[]) F hr hb .nil hx I1 (.cons rfl .nil) q)
 exact L5 I1.kIn (DT z) g.ga g.gt mt.at_ (beq_iff_eq.mp mt.fn) rfl fin
end
end L2
end
section
namespace L2
open PySem PySem.Spec PyProof.Rows LX
def nsE:Expr→Bool
 | .Starred ..=>false
 | _=>true
theorem Oj {e:Expr} {es:List Expr} {env:Env} (h:nsE e=true):starEach (e::es) env=(false,eval e env)::starEach es env:=by
 cases e<;>first|rfl|cases h
theorem gT {X:Cx} {e:Expr} {es:List Expr} {te:TE} {t:TA} (ha:PE X e te) (hr:PA X es t) (hs:nsE e=true:=by rfl):PA X (e::es) (mW te t):=ab ha hr (Oj hs)
theorem Ol {es:List Expr} {p:Pos} {t:Option Expr} {l:Nat} {env:Env}:swapsWith (.List es p) t l env=pure false:=rfl
theorem Om {X:Cx} {i:Nat} {x:Str} {es:List Expr} {p:Pos} {te:TE} {pos' pos:Pos} (hN:X.N.Nodup) (hi:X.N[i]?=some x) (hx:Loc X.env.scope x) (he:PE X (.List es p) te) (hf:X.fn x=true∨X.env.scope.names.lookup x=some .local:=by first|exact .inl rfl|exact .inr rfl|assumption) :
  PS X (.Assign [.Name x pos'] (.List es p) pos) (Mw te (kS i)):=bp hN hi hx he Ol hf
end L2
end
section
namespace L2
open PySem PySem.Spec PyProof.Rows LX
theorem DU:∀ (f n r:Nat),n≤f→r≤1→minRun' f n r≤max 64 (n+r)
 | 0,n,r,_,_=>Nat.le_max_right _ _
 | f+1,n,r,h,hr=>by
  rw [minRun'_succ]
  by_cases c:n<64
  ·rw [if_pos c];exact Nat.le_max_right _ _
  ·rw [if_neg c]
   have:=DU f (n/2) (max r (n%2)) (by omega) (by omega)
   omega
theorem FW {n:Nat}:¬n<minRun' n n 0:=by
 by_cases c:n<64
 ·cases n with
  | zero=>show ¬0<0+0;omega
  | succ f=>rw [minRun'_succ,if_pos c];omega
 ·have:=DU n n 0 (Nat.le_refl _) (by omega)
  omega
section
variable {prog:Program} {w:World} {A:Around} {E:Value→Shared→Prop} {s:Shared} {a₀:Array Keyed}
theorem FX {st:SortSt} {m:Nat} {Q:Option Nat→SortSt→Prop} (ik:IntKeys a₀) (h:m≤a₀.size) (h1:1≤m) (B:SBase a₀ st) (up:SortedTo (arrOf st) m) (q:Q (some m) st):wpS (model prog w) A E s (countRun' 0 m) Q st:=by
 rw [countRun0_eq]
 refine wpS_bind (wpS_ascLoop ik h (Nat.le_refl 1) h1 B (fun i j a b=>up i j a (by omega)) fun n n1 n2 _ o=>?_)
 have e:n=m:=by
  rcases o with o|o
  ·exact o
  ·by_cases c:n=m
   ·exact c
   ·have:=up (n-1) n (by omega) (by omega)
    omega
 subst e
 dsimp only
 rw [if_pos (by simp)]
 exact wpS_pure q
theorem Ir {st:SortSt} {Q:Unit→SortSt→Prop} (ik:IntKeys a₀) (B:SBase a₀ st) (n2:2≤a₀.size) (up:SortedTo (arrOf st) a₀.size)
  (q:∀ st',(arrOf st').Perm a₀→failedOf st'=none→SortedTo (arrOf st') a₀.size→Q () st'):wpS (model prog w) A E s sortRuns' Q st:=by
 rw [sortRuns'_eq]
 refine wpS_bind (wpS_get ?_)
 dsimp only
 have mr:¬a₀.size<minRun' a₀.size a₀.size 0:=FW
 simp only [B.size]
 refine wpS_bind (wpS_mono (wpS_forRange (I:=fun x c st'=>(x=0∧c=(none,0)∧st'=st)∨(1≤x∧c=(none,a₀.size)∧SDone a₀ st')) (Q:=fun c st'=>c=(none,a₀.size)∧SDone a₀ st') ?one ?all (.inl ⟨rfl,rfl,rfl⟩)) ?rest)
 case all =>
  rintro c st' (⟨z,_,_⟩|⟨_,hc,d⟩)
  ·omega
  ·exact ⟨hc,d⟩
 case one =>
  rintro x c st' _ hx (⟨rfl,rfl,rfl⟩|⟨_,rfl,d⟩)
  ·dsimp only
   rw [if_neg (by omega)]
   simp only [Nat.sub_zero,Nat.zero_add]
   refine wpS_bind (FX ik (Nat.le_refl _) (by omega) B up ?_)
   dsimp only
   rw [if_neg mr]
   refine wpS_bind (wpS_get ?_)
   rw [show (pendingOf st').back?=none by rw [B.pend];rfl]
   dsimp only
   exact wpS_bind (wpS_modify (wpS_pure (.inr ⟨by omega,rfl,B.done up⟩)))
  ·dsimp only
   rw [if_pos (Nat.le_refl _)]
   exact wpS_pure ⟨rfl,d⟩
 case rest =>
  rintro c st' ⟨rfl,d⟩
  dsimp only
  refine wpS_bind (wpS_mono (wpS_forRange (I:=fun _ c st2=>st2=st'∧c=(none,())) (Q:=fun c st2=>st2=st'∧c=(none,())) ?_ (fun _ _ z=>z) ⟨rfl,rfl⟩) ?_)
  ·rintro x c st2 _ _ ⟨rfl,rfl⟩
   refine wpS_bind (wpS_get ?_)
   rw [if_pos (show (pendingOf st2).size≤1 by rw [d.2.2.1];exact Nat.le_refl 1)]
   exact wpS_pure ⟨rfl,rfl⟩
  ·rintro c st2 ⟨rfl,rfl⟩
   exact wpS_pure (q _ d.1 d.2.1 d.2.2.2)
theorem JS:∀ {vs:List Value} {ns:List Int},IntsAre vs ns→∀ (i:Nat) (h:i<vs.length) (h':i<ns.length),numOf vs[i]=ns[i]
 | _,_,.nil,i,h,_=>absurd h (Nat.not_lt_zero _)
 | _,_,.cons k t r,0,_,_=>rfl
 | _,_,.cons k t r,i+1,h,h'=>JS r i (Nat.lt_of_succ_lt_succ h) (Nat.lt_of_succ_lt_succ h')
theorem Mc {vs:List Value} {ns:List Int} (hI:IntsAre vs ns) (up:ns.Pairwise (·≤·)):SortedTo (pairsOf vs) (pairsOf vs).size:=by
 intro i j ij hj
 have hl:=hI.length
 have hs:=pairsOf_size vs
 rw [K_eq (by omega),K_eq (by omega)]
 have hi2:i<ns.length:=by omega
 have hj2:j<ns.length:=by omega
 have e:∀ (k:Nat) (h:k<(pairsOf vs).size) (h':k<ns.length),numOf (pairsOf vs)[k].1=ns[k]:=fun k h h'=>by
  have:(pairsOf vs)[k].1=vs[k]'(by omega):=by simp [pairsOf]
  rw [this]
  exact JS hI k (by omega) h'
 rw [e i (by omega) hi2,e j (by omega) hj2]
 rcases Nat.lt_or_ge i j with c|c
 ·exact List.pairwise_iff_getElem.mp up i j hi2 hj2 c
 ·have:i=j:=by omega
  subst this
  exact Int.le_refl _
theorem Ed {a:Addr} {vs:List Value} {ns:List Int} {n:Nat} {P:Fin→Shared→Prop} (ho:s.heap.get? a=some (seqObj "list" vs.toArray n)) (hI:IntsAre vs ns) (few:vs.length≤20000) (up:ns.Pairwise (·≤·))
  (h:∀ (out:Array Value) (ns':List Int),IntsAre out.toList ns'→ns'.Perm ns→ns'.Pairwise (·≤·)→P (.done (.ret .none)) {s with heap:=sortedHeap s.heap a vs out}):wpAny (model prog w) A (Builtin.«list.sort» ⟨[.ref a],[]⟩) P E s:=by
 have hz:vs.length≤sizeLine:=Nat.le_of_lt (Nat.lt_of_le_of_lt few (by decide))
 rw [list_sort_plain]
 have la:a<s.heap.objs.size:=Heap.lt_size ho
 refine wpAny_bind (listItems_at ho rfl (wpAny_bind (listUpdate_at ho rfl ?_ (by rw [List.size_toArray];exact hz) (Nat.zero_le _))))
 obtain ⟨e1,g1⟩:∃ e1,(s.heap.update a (Obj.mapSeq fun _=>#[])).get? a=some (seqObj "list" #[] e1):=⟨_,get?_update_seq ho (fun _=>#[])⟩
 refine wpAny_bind (seqEpoch_at g1 rfl (wpAny_bind (wpAny_newTuple (wpAny_bind (wpAny_newList (wpAny_holding ?_) (Nat.zero_le _))) (by show vs.length≤_;exact hz))))
 have g6:(((s.heap.update a (Obj.mapSeq fun _=>#[])).push (seqObj "tuple" vs.toArray 0)).push (seqObj "list" #[] 0)).get? a=some (seqObj "list" #[] e1):=Heap.get?_push_of_some _ (Heap.get?_push_of_some _ g1)
 show wpAny (model prog w) A _ P E {s with heap:=((s.heap.update a (Obj.mapSeq fun _=>#[])).push (seqObj "tuple" vs.toArray 0)).push (seqObj "list" #[] 0)}
 dsimp only
 have zs:(pairsOf vs).size=vs.length:=pairsOf_size vs
 have fin:∀ st':SortSt,(arrOf st').Perm (pairsOf vs)→SortedTo (arrOf st') (pairsOf vs).size→P (.done (.ret .none)) {s with heap:=sortedHeap s.heap a vs ((arrOf st').map (·.2))}:=fun st' hp hs=>by
  obtain ⟨ns',q1,q2,q3⟩:=sorted_out hI hp hs
  exact h _ ns' q1 q2 q3
 have up0:=Mc hI up
 by_cases c:vs.toArray.size<2
 ·rw [if_pos c,if_pos c]
  refine wpAny_bind (wpAny_pure ?_)
  rw [StateT.run_pure]
  refine wpAny_bind (wpAny_pure ?_)
  dsimp only
  refine wpAny_bind (seqEpoch_at g6 rfl (wpAny_bind (listUpdate_at g6 rfl ?_ (hsz2:=by rw [Array.size_map];show (pairsOf vs).size≤_;rw [zs];omega))))
  simp only [bne_self_eq_false,Bool.false_eq_true,if_false]
  exact wpAny_pure (fin (SortSt.mk' general' (vs.toArray.zip vs.toArray) #[] 7 none) (Array.Perm.refl _) up0)
 ·rw [if_neg c,if_neg c]
  obtain ⟨v1,v2,r,rfl⟩:∃ v1 v2 r,vs=v1::v2::r:=by
   match vs,c with
   | [],c=>simp at c
   | [_],c=>simp at c
   | v1::v2::r,_=>exact ⟨v1,v2,r,rfl⟩
  rw [keyKind_ints hI]
  refine wpAny_bind (wpAny_pure (wpAny_bind (wpAny_mono (Ir (a₀:=pairsOf (v1::v2::r)) (st:=SortSt.mk' oneType' ((v1::v2::r).toArray.zip (v1::v2::r).toArray) #[] 7 none)
   (Q:=fun _ st'=>(arrOf st').Perm (pairsOf (v1::v2::r))∧failedOf st'=none∧SortedTo (arrOf st') (pairsOf (v1::v2::r)).size) hI.intKeys ⟨Array.Perm.refl _,rfl,rfl,rfl⟩ (by rw [zs];simp) up0 fun st' a1 a2 a3=>⟨a1,a2,a3⟩) ?_ fun _ _ e=>e)))
  rintro ⟨⟨⟩,st'⟩ s' ⟨rfl,hp,hf,hs⟩
  dsimp only
  refine wpAny_bind (seqEpoch_at g6 rfl (wpAny_bind (listUpdate_at g6 rfl ?_ (hsz2:=Nat.le_trans (Nat.le_of_eq ((Array.size_map ..).trans (hp.size_eq.trans zs))) (Nat.le_succ_of_le hz)))))
  rw [hf]
  simp only [bne_self_eq_false,Bool.false_eq_true,if_false]
  exact wpAny_pure (fin st' hp hs)
end
section
variable {X:Cx}
def Oo (K:W.Frag):List V→Hp→VK→Prop:=fun vs H Q=>∃ (p:Addr) (ns:List Int),vs=[.ref p]∧SqL K H p (ns.map V.int)∧ns.length≤20000∧ns.Pairwise (·≤·)∧∀ (l:Addr),H l=none→Q (.ref l) (upd H l (.lst (ns.map V.int)))
theorem FY:ux X (.builtin "sorted") (Oo X.K):=by
 rintro pins s σ H xs us Q I r ⟨p,ns,rfl,hq,few,up,q⟩
 obtain ⟨u,rfl,ru⟩:=r.one
 cases (show u=Value.ref p from ru)
 obtain ⟨its,rv,pl,hz⟩:=I.list hq
 have hI:=intsAre_of rv
 have hlen:=rv.length
 rw [List.length_map] at hlen hz
 refine Calls.call_function_entry kind_sorted plain_sorted entry_sorted (args_sorted1 _) ?_
 unfold Builtin.«sorted»
 refine wpAny_bind (m:=checkCount "sorted" 1 1 _) (wpAny_pure ?_)
 have iz:its.length≤sizeLine:=by omega
 refine wpAny_bind (collect_list pl.isList ?_ iz)
 refine wpAny_bind (wpAny_newList ?_ iz)
 have sz:((s.heap.push (seqObj "list" #[] 0)).update s.heap.objs.size (Obj.mapSeq (·++its.toArray))).objs.size=s.heap.objs.size+1:=by rw [Heap.size_update,size_push']
 have hoL:(((s.heap.push (seqObj "list" #[] 0)).update s.heap.objs.size (Obj.mapSeq (·++its.toArray))).push (seqObj "list" its.toArray 0)).get? (s.heap.objs.size+1)=some (seqObj "list" its.toArray 0):=by rw [←sz];exact Heap.get?_push_size _ rfl
 show wpAny _ _ _ _ _ {s with heap:=((s.heap.push (seqObj "list" #[] 0)).update s.heap.objs.size (Obj.mapSeq (·++its.toArray))).push (seqObj "list" its.toArray 0)}
 rw [sz]
 refine wpAny_bind (wpAny_holding (wpAny_call_entry slot_list_sort ⟨_,hoL,rfl⟩ entry_list_sort (Ed hoL hI (by omega) up fun out ns' a1 a2 a3=>⟨_,rfl,?_⟩) (args_list_sort _)))
 refine wpAny_pure ⟨_,rfl,?_⟩
 cases K3 a2 a3 up
 obtain ⟨e,he⟩:=sortedAll_at s.heap its out
 refine ⟨.ref (s.heap.objs.size+1),_,I.laid (a:=s.heap.objs.size+1) (o:=.lst (ns.map V.int)) (t':=s.toks) (fun _ _=>sortedAll_old) (Nat.le_succ _) ?_,rfl,q _ (I.hok.fresh (Nat.le_succ _))⟩
 refine ⟨by rw [List.length_map];exact hz,out.toList,e,rX a1,?_⟩
 show (sortedAll s.heap its out).get? _=_
 rw [he]
end
end L2
end
section
namespace L2
open PySem PySem.Spec PyProof.Rows LX
section
variable {X:Cx}
def aav (H₀:Hp) (t:TS):TS:=fun D σ H=>t {D with nx:=fun σ1 H1=>∃ d o kvs,H1 d=some (.frz o (.dK kvs))∧(∀ o u,H₀ d≠some (.frz o u))∧D.nx σ1 (upd H1 d (.dK kvs))} σ H
theorem Oq {st:Stmt} {t:TS} (h:PS X st t):PS X st (aav X.H₀ t):=by
 intro pins s σ H D I q
 refine thn (h pins s σ H _ I q) fun f s1 z=>?_
 cases f with
 | next =>
  obtain ⟨σ1,H1,I1,d,o,kvs,hd,h0,q⟩:=z
  exact ⟨σ1,_,I1.W2 hd h0 (by intro _ z;cases z) (by intro _ z;cases z) (by intro _ z;cases z),q⟩
 | ret v=>exact z
 | brk=>exact z
 | cont=>exact z
theorem Y1 {n:Option Int} {zs:List Int} {f:Option Int→V} (hf:f none=.non) (hs:∀ t,f (some t)=.int t):inV (f n) (zs.map V.int)=(match n with|none=>false|some t=>decide (t∈zs)):=by
 unfold inV
 cases n with
 | none =>
  rw [hf]
  show _=false
  rw [List.any_map]
  refine List.any_eq_false.mpr fun z _=>?_
  simp [eqV]
 | some t =>
  rw [hs,List.any_map]
  show _=decide (t∈zs)
  induction zs with
  | nil=>rfl
  | cons a r ih =>
   rw [List.any_cons,ih]
   by_cases e:a=t
   ·subst e
    simp [eqV]
   ·have:(t∈a::r)↔t∈r:=by
     rw [List.mem_cons]
     exact ⟨fun h=>h.elim (fun z=>absurd z.symm e) id,.inr⟩
    simp [eqV,e,this]
end
end L2
end
section
namespace L2
open PySem PySem.Spec PyProof.Rows LX
theorem WA {X:Cx} {i:Nat} {x:Str} {st:Stmt} {t0 t1 t2:TE} (hh:∃ es p q1 q2,st=.Assign [.Name x q1] (.List es p) q2∧∃ e0 e1 e2,es=[e0,e1,e2]∧(PE X e0 t0∧nsE e0=true)∧(PE X e1 t1∧nsE e1=true)∧(PE X e2 t2∧nsE e2=true)) (hN:X.N.Nodup) (hi:X.N[i]?=some x) (hx:Loc X.env.scope x) (hf:X.fn x=true∨X.env.scope.names.lookup x=some .local) :
  PS X st (Mw (Zq (mW t0 (mW t1 (mW t2 JH)))) (kS i)):=by
 obtain ⟨es,p,q1,q2,rfl,e0,e1,e2,rfl,⟨h0,n0⟩,⟨h1,n1⟩,⟨h2,n2⟩⟩:=hh
 exact Om hN hi hx (jM (gT h0 (gT h1 (gT h2 ao n2) n1) n0)) hf
theorem JT {H:Hp} {l:Addr} {o:HO} (_:aG H (upd H l o)):upd H l o l=some o:=ag
end L2
end
section
namespace K14
open PySem L2 LX
def top (i:Nat):Stmt:=PySem.Challenge.pw_stillheap_k14_whole_an_endless_heap.main.body.getD i (.Pass ⟨0,0,0,0⟩)
abbrev hV:Stmt:=inClass (top 2) 0
abbrev nU:Stmt:=inClass (top 3) 0
abbrev nV:Stmt:=inClass (top 4) 0
abbrev mC:Stmt:=inClass (top 5) 0
abbrev mD:Stmt:=inClass (top 6) 0
abbrev pE:Stmt:=inClass (top 7) 0
abbrev jN:Stmt:=inClass (top 8) 0
abbrev nW:Stmt:=inClass (top 9) 0
abbrev nX:Stmt:=inClass (top 10) 0
abbrev lM:Stmt:=top 18
abbrev nB:Stmt:=top 19
abbrev zM:Stmt:=top 20
abbrev uz:Stmt:=top 21
abbrev jQ:Stmt:=top 22
abbrev lN:Stmt:=top 23
abbrev lO:Stmt:=top 24
abbrev kB:Stmt:=top 25
abbrev jR:Stmt:=top 26
abbrev jS:Stmt:=inClass (top 28) 0
abbrev kC:Stmt:=inClass (top 28) 1
abbrev jh:Stmt:=inClass (top 28) 2
abbrev qR:Stmt:=inClass (top 28) 3
abbrev oM:Stmt:=inClass (top 28) 4
abbrev lP:Stmt:=inClass (top 28) 5
abbrev oN:Stmt:=inClass (top 28) 6
abbrev nC:Stmt:=inClass (top 28) 7
abbrev oO:Stmt:=inClass (top 28) 8
abbrev ji:Stmt:=inClass (top 28) 9
abbrev hW:Stmt:=inClass (top 31) 0
abbrev jT:Stmt:=inClass (top 31) 1
abbrev iZ:Stmt:=inClass (top 31) 4
abbrev oP:Stmt:=top 33
abbrev hX:Stmt:=inClass (top 35) 0
abbrev jU:Stmt:=inClass (top 35) 1
abbrev jj:Stmt:=inClass (top 35) 2
abbrev gy:Stmt:=inClass (top 35) 4
abbrev kD:Stmt:=inClass (top 37) 0
abbrev jV:Stmt:=inClass (top 37) 1
abbrev qS:Stmt:=inClass (top 37) 2
abbrev oQ:Stmt:=inClass (top 37) 3
abbrev qT:Stmt:=inClass (top 37) 4
abbrev qU:Stmt:=inClass (top 37) 5
abbrev nD:Stmt:=inClass (top 37) 6
abbrev qV:Stmt:=inClass (top 37) 7
abbrev jk:Stmt:=inClass (top 37) 8
abbrev qW:Stmt:=inClass (top 37) 9
abbrev gz:Stmt:=inClass (top 37) 10
abbrev nE:Stmt:=inClass (top 37) 11
abbrev gA:Stmt:=inClass (top 37) 15
abbrev fZ:Stmt:=inClass (top 37) 16
abbrev nF:Stmt:=top 38
abbrev hZ:Stmt:=inClass (top 40) 0
abbrev jW:Stmt:=inClass (top 40) 1
abbrev jX:Stmt:=inClass (top 40) 2
abbrev jY:Stmt:=inClass (top 40) 4
abbrev jl:Stmt:=inClass (top 40) 5
abbrev i0:Stmt:=inClass (top 40) 6
abbrev jZ:Stmt:=inClass (top 40) 7
abbrev j0:Stmt:=inClass (top 40) 8
abbrev jm:Stmt:=inClass (top 40) 9
abbrev jn:Stmt:=inClass (top 40) 10
abbrev kF:Stmt:=inClass (top 40) 11
abbrev h9:Stmt:=inClass (top 40) 12
abbrev uG:Stmt:=inClass (top 40) 13
abbrev sQ:Stmt:=inClass (top 40) 15
abbrev jo:Stmt:=inClass (top 40) 22
abbrev lQ:Stmt:=top 42
abbrev qX:Stmt:=top 43
abbrev oR:Stmt:=top 44
abbrev qY:Stmt:=top 45
abbrev oS:Stmt:=top 46
abbrev kG:Stmt:=top 47
abbrev kH:Stmt:=top 48
abbrev jq:Stmt:=top 49
abbrev qZ:Stmt:=top 50
abbrev bw:Stmt:=top 51
abbrev iL:Stmt:=top 52
structure Ad where
 aR:Addr
 cc:Addr
 bg:Addr
 dA:Addr
 dE:Addr
 bA:Addr
 hR:Addr
 fR:Addr
 fS:Addr
 aW:Addr
 aL:Addr
 aD:Addr
 aY:Addr
 aa:Addr
 ak:Addr
 aB:FuncData
 cg:Addr
 eE:FuncData
 cj:Addr
 eF:FuncData
 bQ:Addr
 dX:FuncData
 bR:Addr
 dY:FuncData
 cH:Addr
 fq:FuncData
 ba:Addr
 cz:FuncData
 ck:Addr
 eG:FuncData
 cn:Addr
 eI:FuncData
 c5:Addr
 ia:FuncData
 cE:Addr
 fT:FuncData
 hU:Addr
 lY:FuncData
 fW:Addr
 j9:FuncData
 bN:Addr
 eJ:FuncData
 bc:Addr
 b7:FuncData
 cC:Addr
 gr:FuncData
 b8:Addr
 ft:FuncData
 cp:Addr
 f7:FuncData
 cN:Addr
 f9:FuncData
 bL:Addr
 dj:FuncData
 bS:Addr
 dZ:FuncData
 dS:Addr
 gG:FuncData
 fL:Addr
 jB:FuncData
 dQ:Addr
 ib:FuncData
 dO:Addr
 gJ:FuncData
 eK:Addr
 iP:FuncData
 fM:Addr
 jC:FuncData
 aZ:Addr
 bT:FuncData
 bG:Addr
 dF:FuncData
 cO:Addr
 gb:FuncData
 bY:Addr
 eW:FuncData
 eB:Addr
 jD:FuncData
 bH:Addr
 dG:FuncData
 cP:Addr
 gc:FuncData
 cu:Addr
 fD:FuncData
 bZ:Addr
 eX:FuncData
 b9:Addr
 gN:FuncData
 bO:Addr
 gf:FuncData
 eR:Addr
 ki:FuncData
 dP:Addr
 jE:FuncData
 eS:Addr
 kj:FuncData
 eT:Addr
 km:FuncData
 cZ:Addr
 iQ:FuncData
 eU:Addr
 kn:FuncData
 bD:Addr
 fE:FuncData
 eV:Addr
 ko:FuncData
 bt:Addr
 eY:FuncData
 cF:Addr
 gU:FuncData
 a6:Addr
 dB:FuncData
 bj:Addr
 dC:FuncData
 dH:Addr
 iR:FuncData
 bI:Addr
 dI:FuncData
 cQ:Addr
 gh:FuncData
 cR:Addr
 gi:FuncData
 cS:Addr
 gj:FuncData
 cv:Addr
 fF:FuncData
 b4:Addr
 eZ:FuncData
 cT:Addr
 gk:FuncData
 cU:Addr
 gm:FuncData
 bE:Addr
 cX:FuncData
 cw:Addr
 fG:FuncData
 dq:Addr
 gO:FuncData
 bJ:Addr
 dJ:FuncData
 fH:Addr
 mE:FuncData
 e7:Addr
 lC:FuncData
 cx:Addr
 fI:FuncData
 c6:Addr
 ic:FuncData
 fO:Addr
 kq:FuncData
 eC:Addr
 jF:FuncData
 fP:Addr
 kr:FuncData
 eD:Addr
 jG:FuncData
 cI:Addr
 gP:FuncData
 cJ:Addr
 gQ:FuncData
 bU:Addr
 fJ:FuncData
 fQ:Addr
 ku:FuncData
 cq:Addr
 jH:FuncData
 rZ:Addr
 Iu:FuncData
 Cj:Tok
 kU:Tok
 ka:Tok
 kW:Tok
 kX:Tok
 kY:Tok
 ju:Tok
structure Txt (K:W.Frag) (mg:Str→Option Value) (D:Ad):Prop where
 h:∃ cd,gL K D.aR cd
 mH:mg "HeapError" = some (.ref D.aR)
 kx:mg "BadCount" = some (.ref D.cc)
 mX:Il K D.cc
 kz:MkX K D.cc D.ak
 Rh:PySem.W.kitOne K (.ref D.cc) (.type "ValueError")=some true
 Ee:∃ cd,gL K D.cc cd∧cd.mro.contains (.ref D.aR)=true
 FZ:Meth K D.cc "called" D.bR
 uA:mg "BadHand" = some (.ref D.bg)
 i9:Il K D.bg
 uB:MkX K D.bg D.ak
 RN:PySem.W.kitOne K (.ref D.bg) (.type "ValueError")=some true
 F5:∃ cd,gL K D.bg cd∧cd.mro.contains (.ref D.aR)=true
 Iv:Meth K D.bg "called" D.cg
 Iw:mg "BadName" = some (.ref D.dA)
 uC:Il K D.dA
 Iy:MkX K D.dA D.ak
 RO:PySem.W.kitOne K (.ref D.dA) (.type "ValueError")=some true
 F6:∃ cd,gL K D.dA cd∧cd.mro.contains (.ref D.aR)=true
 Iz:Meth K D.dA "called" D.cj
 F7:mg "BadField" = some (.ref D.dE)
 ra:Il K D.dE
 F8:MkX K D.dE D.ak
 Ri:PySem.W.kitOne K (.ref D.dE) (.type "ValueError")=some true
 Ef:∃ cd,gL K D.dE cd∧cd.mro.contains (.ref D.aR)=true
 F9:Meth K D.dE "called" D.bQ
 Al:mg "TooManyWords" = some (.ref D.bA)
 pF:Il K D.bA
 Am:MkX K D.bA D.ak
 Lw:PySem.W.kitOne K (.ref D.bA) (.type "ValueError")=some true
 xP:∃ cd,gL K D.bA cd∧cd.mro.contains (.ref D.aR)=true
 An:Meth K D.bA "called" D.ba
 Lb:mg "NoRoom" = some (.ref D.hR)
 DV:Il K D.hR
 Lc:MkX K D.hR D.ak
 WN:PySem.W.kitOne K (.ref D.hR) (.type "ValueError")=some true
 IA:∃ cd,gL K D.hR cd∧cd.mro.contains (.ref D.aR)=true
 Ld:Meth K D.hR "called" D.cH
 IB:mg "RoundOn" = some (.ref D.fR)
 Ck:Il K D.fR
 IC:MkX K D.fR D.ak
 RP:PySem.W.kitOne K (.ref D.fR) (.type "ValueError")=some true
 Ga:∃ cd,gL K D.fR cd∧cd.mro.contains (.ref D.aR)=true
 ID:Meth K D.fR "called" D.ck
 IE:mg "NoRound" = some (.ref D.fS)
 Cm:Il K D.fS
 IF:MkX K D.fS D.ak
 RQ:PySem.W.kitOne K (.ref D.fS) (.type "ValueError")=some true
 Gb:∃ cd,gL K D.fS cd∧cd.mro.contains (.ref D.aR)=true
 IG:Meth K D.fS "called" D.cn
 Md:mg "Hands" = some (.ref D.aW)
 aV:Cls K D.aW
 CJ:Mk K D.aW D.cN
 b5:dU K D.aW "words_held"
 gn:Meth K D.aW "word_in" D.bL
 lD:Meth K D.aW "all_words" D.bS
 kZ:Meth K D.aW "put" D.dS
 CW:Meth K D.aW "copy" D.fL
 Ao:Meth K D.aW "number" D.dQ
 nG:Meth K D.aW "kind" D.dO
 Bq:Meth K D.aW "value" D.eK
 CY:Meth K D.aW "same" D.fM
 e9:Meth K D.aW "thing_due" D.aZ
 Eg:mg "WordTable" = some (.ref D.aL)
 cG:Cls K D.aL
 oU:Mk K D.aL D.bG
 bu:dU K D.aL "words_borne"
 jc:dU K D.aL "words_said"
 uH:Meth K D.aL "bear" D.cO
 rm:Meth K D.aL "settle" D.bY
 Eh:mg "NameTable" = some (.ref D.aD)
 eL:Cls K D.aD
 oV:Mk K D.aD D.bH
 cB:dU K D.aD "things_named"
 uI:Meth K D.aD "name" D.cP
 sR:Meth K D.aD "named" D.cu
 rn:Meth K D.aD "settle" D.bZ
 Ot:mg "Heap" = some (.ref D.aY)
 Ys:Cls K D.aY
 JU:Mk K D.aY D.b9
 HQ:dU K D.aY "makes_young"
 Lx:dU K D.aY "in_hands"
 Jh:dU K D.aY "weak_names"
 Ji:dU K D.aY "last_words"
 HR:dU K D.aY "fields_held"
 Hl:dU K D.aY "young_things"
 Jj:dU K D.aY "next_thing"
 Jk:Meth K D.aY "add_thing" D.bO
 NB:Meth K D.aY "load" D.eR
 MP:Meth K D.aY "store" D.dP
 ND:Meth K D.aY "copy" D.eS
 NG:Meth K D.aY "drop" D.eT
 LJ:Meth K D.aY "number" D.cZ
 NH:Meth K D.aY "name" D.eU
 HU:Meth K D.aY "read_thing" D.bD
 NI:Meth K D.aY "word" D.eV
 Hm:Meth K D.aY "small_round" D.bt
 LL:Meth K D.aY "let_go" D.cF
 Ho:Meth K D.aY "words_among" D.a6
 Jl:Meth K D.aY "led_among" D.bj
 Ou:RK K D.aY "__init__" D.b9
 Ei:mg "IdealHeap" = some (.ref D.aa)
 af:Cls K D.aa
 oW:Mk K D.aa D.bI
 fX:dU K D.aa "makes_young"
 ay:dU K D.aa "in_hands"
 ej:dU K D.aa "weak_names"
 gv:dU K D.aa "last_words"
 aE:dU K D.aa "fields_held"
 bq:dU K D.aa "young_things"
 gw:dU K D.aa "next_thing"
 jd:dU K D.aa "young_room"
 mF:dU K D.aa "limit"
 bh:dU K D.aa "doomed_things"
 cM:dU K D.aa "in_round"
 oq:Meth K D.aa "add_thing" D.bO
 uJ:Meth K D.aa "load" D.eR
 sS:Meth K D.aa "store" D.dP
 uK:Meth K D.aa "copy" D.eS
 uL:Meth K D.aa "drop" D.eT
 rq:Meth K D.aa "number" D.cZ
 uM:Meth K D.aa "name" D.eU
 nL:Meth K D.aa "read_thing" D.bD
 uN:Meth K D.aa "word" D.eV
 mQ:Meth K D.aa "small_round" D.bt
 kM:Meth K D.aa "let_go" D.cF
 iN:Meth K D.aa "words_among" D.a6
 gx:Meth K D.aa "led_among" D.bj
 uO:Meth K D.aa "make" D.cQ
 uP:Meth K D.aa "read" D.cR
 uQ:Meth K D.aa "kind" D.cS
 sT:Meth K D.aa "value" D.cv
 rz:Meth K D.aa "fields" D.b4
 uR:Meth K D.aa "same" D.cT
 uS:Meth K D.aa "held" D.cU
 i3:Meth K D.aa "small" D.bE
 sU:Meth K D.aa "begin" D.cw
 xQ:Meth K D.aa "end" D.dq
 pL:Meth K D.aa "round_on" D.bJ
 HV:Meth K D.aa "hands" D.fH
 Hq:Meth K D.aa "things" D.e7
 sV:Meth K D.aa "spare" D.cx
 Br:mg "number_value" = some (.ref D.c5)
 lR:PySem.W.keepIn K (.ref D.c5)=true
 nI:mg "thing_value" = some (.ref D.cE)
 iS:PySem.W.keepIn K (.ref D.cE)=true
 DW:mg "kind_of" = some (.ref D.hU)
 se:PySem.W.keepIn K (.ref D.hU)=true
 Cn:mg "words_of" = some (.ref D.fW)
 pG:PySem.W.keepIn K (.ref D.fW)=true
 nY:mg "look_at_number" = some (.ref D.bN)
 ie:PySem.W.keepIn K (.ref D.bN)=true
 fe:mg "look_at_hand" = some (.ref D.bc)
 da:PySem.W.keepIn K (.ref D.bc)=true
 qO:mg "look_at_name" = some (.ref D.cC)
 jv:PySem.W.keepIn K (.ref D.cC)=true
 pH:mg "look_at_field" = some (.ref D.b8)
 iU:PySem.W.keepIn K (.ref D.b8)=true
 xR:mg "look_at_limits" = some (.ref D.cp)
 j1:PySem.W.keepIn K (.ref D.cp)=true
 Ej:mg "last_steps" = some (.ref D.eB)
 oX:PySem.W.keepIn K (.ref D.eB)=true
 sv:mg "thing_among" = some (.ref D.dH)
 kb:PySem.W.keepIn K (.ref D.dH)=true
 Bs:mg "_law_numbers" = some (.ref D.c6)
 lS:PySem.W.keepIn K (.ref D.c6)=true
 Ge:mg "_law_deed" = some (.ref D.fO)
 rb:PySem.W.keepIn K (.ref D.fO)=true
 Ek:mg "_law_plain" = some (.ref D.eC)
 oY:PySem.W.keepIn K (.ref D.eC)=true
 Gf:mg "_law_done" = some (.ref D.fP)
 rf:PySem.W.keepIn K (.ref D.fP)=true
 oZ:mg "_law_thing" = some (.ref D.eD)
 jI:PySem.W.keepIn K (.ref D.eD)=true
 Ap:mg "_law_word_due" = some (.ref D.cI)
 kI:PySem.W.keepIn K (.ref D.cI)=true
 Aq:mg "_law_followed" = some (.ref D.cJ)
 kJ:PySem.W.keepIn K (.ref D.cJ)=true
 uT:mg "_law_asks_right" = some (.ref D.bU)
 jr:PySem.W.keepIn K (.ref D.bU)=true
 Gg:mg "_law_heap" = some (.ref D.fQ)
 rg:PySem.W.keepIn K (.ref D.fQ)=true
 El:mg "_law_deeds" = some (.ref D.cq)
 pb:PySem.W.keepIn K (.ref D.cq)=true
 aaX:mg "law" = some (.ref D.rZ)
 RR:PySem.W.keepIn K (.ref D.rZ)=true
 ql:mg "len" = none
 sA:mg "range" = none
 CZ:mg "list" = none
 CK:mg "sorted" = none
 Nu:mg "sum" = none
 Nv:mg "abs" = none
 pe:mg "isinstance" = none
 Ju:mg "bool" = none
 mY:mg "enumerate" = none
 pj:mg "ValueError" = none
 Co:mg "HANDS" = some (.int 8 D.Cj)
 k7:mg "WEAK_NAMES" = some (.int 8 D.kU)
 nJ:mg "MOST_FIELDS" = some (.int 6 D.ka)
 k8:mg "LEAST_ROOM" = some (.int 7 D.kW)
 pk:mg "MOST_YOUNG" = some (.int 64 D.kX)
 pq:mg "MOST_LIMIT" = some (.int 400 D.kY)
 jw:mg "MOST_BEARERS" = some (.int 12 D.ju)
structure Ok (P:Program) (w:World) (K:W.Frag) (mg:Str→Option Value) (base:Heap) (n:Nat) (f:Addr) (fd:FuncData) (ps:List Str) (sp:Sp):Prop where
 g:xI P w K mg base (CXE P w) n f fd ps sp
 b:Binds K fd ps []
end K14
end
section
namespace K14
open PySem L2 LX
inductive Wd where
 | no
 | num (x:Int)
 | th (t:Int)
 deriving DecidableEq
def Wd.kind:Wd→Str
 | .no => "none"
 | .num _ => "number"
 | .th _ => "thing"
def Wd.vl:Wd→Vl
 | .no=>.a .non
 | .num x=>.t [.a (.str "number"),.a (.int x)]
 | .th t=>.t [.a (.str "thing"),.a (.int t)]
def WV (H:Hp) (v:V):Wd→Prop
 | .no=>v=.non
 | .num x=>∃ t,v=.ref t∧H t=some (.tup [.str "number",.int x])
 | .th x=>∃ t,v=.ref t∧H t=some (.tup [.str "thing",.int x])
def dr (H H':Hp):Prop:=∀ t us,H t=some (.tup us)→H' t=some (.tup us)
theorem dr.of {H H':Hp} (s:aG H H'):dr H H':=fun t us q=>s _ _ q
theorem dr.trans {H H1 H2:Hp} (a:dr H H1) (b:dr H1 H2):dr H H2:=fun t us q=>b t us (a t us q)
theorem dr.set {H:Hp} {c:Addr} {u o:HO} (h:H c=some u) (n:∀ xs,u≠.tup xs):dr H (upd H c o):=fun t us q=>by
 rw [ae fun e=>by rw [e,h] at q;exact n us (Option.some.inj q)]
 exact q
theorem WV.keep {H H':Hp} {v:V} {w:Wd} (h:WV H v w) (s:dr H H'):WV H' v w:=by
 cases w with
 | no=>exact h
 | num n=>obtain ⟨t,e,q⟩:=h;exact ⟨t,e,s _ _ q⟩
 | th n=>obtain ⟨t,e,q⟩:=h;exact ⟨t,e,s _ _ q⟩
theorem MQ {H:Hp} {t:Addr} {z:Str} {n:Int} (h:H t=some (.tup [.str z,.int n])):Rp H 1 (.ref t) (.t [.a (.str z),.a (.int n)]):=by
 refine ⟨t,_,rfl,h,rfl,fun i u x h1 h2=>?_⟩
 match i,h1,h2 with
 | 0,h1,h2=>cases h1;cases h2;exact ⟨rfl,rfl⟩
 | 1,h1,h2=>cases h1;cases h2;exact ⟨rfl,rfl⟩
 | i+2,h1,_=>simp at h1
theorem WV.rp {H:Hp} {v:V} {w:Wd} (h:WV H v w):Rp H 1 v w.vl:=by
 cases w with
 | no=>exact ⟨h,rfl⟩
 | num n=>obtain ⟨t,rfl,q⟩:=h;exact MQ q
 | th n=>obtain ⟨t,rfl,q⟩:=h;exact MQ q
theorem JV (x y:Int):(x == y)=decide (x=y):=by
 by_cases h:x=y
 ·subst h;simp
 ·rw [decide_eq_false h];exact beq_eq_false_iff_ne.mpr h
theorem RS (a b:Wd):eqD 1 a.vl b.vl=decide (a=b):=by
 have n1:eqV (.str "number") (.str "thing")=false:=by decide +kernel
 have n2:eqV (.str "thing") (.str "number")=false:=by decide +kernel
 have e1:eqV (.str "number") (.str "number")=true:=by decide +kernel
 have e2:eqV (.str "thing") (.str "thing")=true:=by decide +kernel
 cases a with
 | no=>cases b<;>simp [Wd.vl,eqD,eqV]
 | num x =>
  cases b with
  | no=>simp [Wd.vl,eqD]
  | num y=>simp [Wd.vl,eqD,List.range_succ,e1,eqV];exact JV x y
  | th y=>simp [Wd.vl,eqD,List.range_succ,n1]
 | th x =>
  cases b with
  | no=>simp [Wd.vl,eqD]
  | num y=>simp [Wd.vl,eqD,List.range_succ,n2]
  | th y=>simp [Wd.vl,eqD,List.range_succ,e2,eqV];exact JV x y
def Rel (H:Hp) (xs:List V) (ws:List Wd):Prop:=xs.length=ws.length∧∀ (i:Nat) (v:V) (w:Wd),xs[i]?=some v→ws[i]?=some w→WV H v w
theorem Rel.keep {H H':Hp} {xs:List V} {ws:List Wd} (h:Rel H xs ws) (s:dr H H'):Rel H' xs ws:=⟨h.1,fun i v w a b=>(h.2 i v w a b).keep s⟩
theorem Rel.get {H:Hp} {xs:List V} {ws:List Wd} (h:Rel H xs ws) {i:Nat} (hi:i<ws.length):∃ v,xs[i]?=some v∧WV H v ws[i] :=
 ⟨_,List.getElem?_eq_getElem (by rw [h.1];exact hi),h.2 i _ _ (List.getElem?_eq_getElem (by rw [h.1];exact hi)) (List.getElem?_eq_getElem hi)⟩
theorem Rel.set {H:Hp} {xs:List V} {ws:List Wd} {i:Nat} {v:V} {w:Wd} (h:Rel H xs ws) (hv:WV H v w):Rel H (xs.set i v) (ws.set i w):=by
 refine ⟨by rw [List.length_set,List.length_set];exact h.1,fun j u y a b=>?_⟩
 rw [List.getElem?_set] at a b
 by_cases e:i=j
 ·subst e
  simp only [if_true] at a b
  split at a
  ·split at b
   ·cases a;cases b;exact hv
   ·cases b
  ·cases a
 ·rw [if_neg e] at a b
  exact h.2 j u y a b
theorem Rel.nil {H:Hp} {n:Nat}:Rel H (List.replicate n .non) (List.replicate n .no):=⟨by simp,fun i v w a b=>by
 rw [List.eq_of_mem_replicate (List.mem_of_getElem? a),List.eq_of_mem_replicate (List.mem_of_getElem? b)]
 rfl⟩
def nmV:Option Int→V
 | none=>.non
 | some t=>.int t
structure HS where
 my:Bool
 aH:List Wd
 names:List (Option Int)
 bM:List (Int×Int)
 rA:List Int
 aS:List (Int×List Wd)
 yng:List Int
 nxt:Int
 room:Int
 limit:Int
 de:List Int
 rnd:Bool
structure HA where
 dx:Addr
 hd:Addr
 hdx:Addr
 hl:Addr
 hx:List V
 nt:Addr
 ntx:Addr
 nl:Addr
 wt:Addr
 wtx:Addr
 wb:Addr
 wl:Addr
 fh:Addr
 fa:Int→Addr
 fx:Int→List V
 yg:Addr
 dm:Addr
def atts (A:HA) (s:HS):List (Str×V):=[("makes_young",.bl s.my),("in_hands",.ref A.hd),("weak_names",.ref A.nt),("last_words",.ref A.wt),("fields_held",.ref A.fh),("young_things",.ref A.yg),("next_thing",.int s.nxt),("young_room",.int s.room),("limit",.int s.limit),("doomed_things",.ref A.dm),("in_round",.bl s.rnd)]
theorem RT {A:HA} {s:HS}:(atts A s).lookup ("makes_young" : Str)=some (.bl s.my):=by kernel_rfl
theorem k9 {A:HA} {s:HS}:(atts A s).lookup ("in_hands" : Str)=some (.ref A.hd):=by kernel_rfl
theorem Nw {A:HA} {s:HS}:(atts A s).lookup ("weak_names" : Str)=some (.ref A.nt):=by kernel_rfl
theorem RU {A:HA} {s:HS}:(atts A s).lookup ("last_words" : Str)=some (.ref A.wt):=by kernel_rfl
theorem sg {A:HA} {s:HS}:(atts A s).lookup ("fields_held" : Str)=some (.ref A.fh):=by kernel_rfl
theorem II {A:HA} {s:HS}:(atts A s).lookup ("young_things" : Str)=some (.ref A.yg):=by kernel_rfl
theorem Y2 {A:HA} {s:HS}:(atts A s).lookup ("next_thing" : Str)=some (.int s.nxt):=by kernel_rfl
theorem Y3 {A:HA} {s:HS}:(atts A s).lookup ("young_room" : Str)=some (.int s.room):=by kernel_rfl
theorem Y4 {A:HA} {s:HS}:(atts A s).lookup ("limit" : Str)=some (.int s.limit):=by kernel_rfl
theorem IJ {A:HA} {s:HS}:(atts A s).lookup ("doomed_things" : Str)=some (.ref A.dm):=by kernel_rfl
theorem Nx {A:HA} {s:HS}:(atts A s).lookup ("in_round" : Str)=some (.bl s.rnd):=by kernel_rfl
theorem Y5 {A:HA} {s:HS} {n:Int}:gu "next_thing" (.int n) (atts A s)=atts A {s with nxt:=n}:=by kernel_rfl
theorem Y6 {A:HA} {s:HS} {b:Bool}:gu "in_round" (.bl b) (atts A s)=atts A {s with rnd:=b}:=by kernel_rfl
theorem Y7 {A:HA} {s:HS} {a:Addr}:gu "young_things" (.ref a) (atts A s)=atts {A with yg:=a} s:=by kernel_rfl
theorem Y8 {A:HA} {s:HS} {a:Addr}:gu "doomed_things" (.ref a) (atts A s)=atts {A with dm:=a} s:=by kernel_rfl
def bkv (p:Int×Int):Key×V:=(Sum.inl p.1,.int p.2)
def tkv (t:Int):Key×V:=(Sum.inl t,.bl true)
def fkv (A:HA) (p:Int×List Wd):Key×V:=(Sum.inl p.1,.ref (A.fa p.1))
structure IH (D:Ad) (H:Hp) (x:Addr) (A:HA) (s:HS):Prop where
 ax:H x=some (.ins D.aa A.dx (atts A s))
 ahd:H A.hd=some (.ins D.aW A.hdx [("words_held",.ref A.hl)])
 ahl:H A.hl=some (.lst A.hx)
 rhl:Rel H A.hx s.aH
 ant:H A.nt=some (.ins D.aD A.ntx [("things_named",.ref A.nl)])
 anl:H A.nl=some (.lst (s.names.map nmV))
 awt:H A.wt=some (.ins D.aL A.wtx [("words_borne",.ref A.wb),("words_said",.ref A.wl)])
 awb:H A.wb=some (.dK (s.bM.map bkv))
 awl:H A.wl=some (.lst (s.rA.map V.int))
 afh:H A.fh=some (.dK (s.aS.map (fkv A)))
 afl:∀ t ws,(t,ws)∈s.aS→H (A.fa t)=some (.lst (A.fx t))∧Rel H (A.fx t) ws
 ayg:H A.yg=some (.dK (s.yng.map tkv))
 adm:H A.dm=some (.dK (s.de.map tkv))
 nhn:A.hd≠A.nt
 l1:A.hl≠A.nl
 l2:A.hl≠A.wl
 l3:A.nl≠A.wl
 l4:∀ t ws,(t,ws)∈s.aS→A.fa t≠A.hl∧A.fa t≠A.nl∧A.fa t≠A.wl
 l5:∀ t ws t' ws',(t,ws)∈s.aS→(t',ws')∈s.aS→A.fa t=A.fa t'→t=t'
 d1:A.wb≠A.fh
 d2:A.wb≠A.yg
 d3:A.wb≠A.dm
 d4:A.fh≠A.yg
 d5:A.fh≠A.dm
 d6:A.yg≠A.dm
inductive bX (x:Addr) (A:HA) (s:HS):Addr→Prop where
 | x:bX x A s x
 | hd:bX x A s A.hd
 | hl:bX x A s A.hl
 | nt:bX x A s A.nt
 | nl:bX x A s A.nl
 | wt:bX x A s A.wt
 | wb:bX x A s A.wb
 | wl:bX x A s A.wl
 | fh:bX x A s A.fh
 | yg:bX x A s A.yg
 | dm:bX x A s A.dm
 | fl {t:Int} {ws:List Wd}:(t,ws)∈s.aS→bX x A s (A.fa t)
theorem kc {C d C' d':Addr} {fs gs:List (Str×V)} (h:fs.length≠gs.length):HO.ins C d fs≠HO.ins C' d' gs:=fun e=>by
 injection e with _ _ e
 exact h (congrArg List.length e)
section
variable {D:Ad} {H H' H1 H2:Hp} {x:Addr} {A A':HA} {s s':HS}
theorem IH.is (J:IH D H x A s) {b:Addr} (f:bX x A s b):∃ u,H b=some u∧∀ xs,u≠.tup xs:=by
 cases f with
 | x=>exact ⟨_,J.ax,fun _ z=>nomatch z⟩
 | hd=>exact ⟨_,J.ahd,fun _ z=>nomatch z⟩
 | hl=>exact ⟨_,J.ahl,fun _ z=>nomatch z⟩
 | nt=>exact ⟨_,J.ant,fun _ z=>nomatch z⟩
 | nl=>exact ⟨_,J.anl,fun _ z=>nomatch z⟩
 | wt=>exact ⟨_,J.awt,fun _ z=>nomatch z⟩
 | wb=>exact ⟨_,J.awb,fun _ z=>nomatch z⟩
 | wl=>exact ⟨_,J.awl,fun _ z=>nomatch z⟩
 | fh=>exact ⟨_,J.afh,fun _ z=>nomatch z⟩
 | yg=>exact ⟨_,J.ayg,fun _ z=>nomatch z⟩
 | dm=>exact ⟨_,J.adm,fun _ z=>nomatch z⟩
 | fl m=>exact ⟨_,(J.afl _ _ m).1,fun _ z=>nomatch z⟩
theorem IH.keep (J:IH D H x A s) (k:∀ b u,bX x A s b→H b=some u→H' b=some u) (t:dr H H'):IH D H' x A s :=
 ⟨k _ _ .x J.ax,k _ _ .hd J.ahd,k _ _ .hl J.ahl,J.rhl.keep t,k _ _ .nt J.ant,k _ _ .nl J.anl,k _ _ .wt J.awt,k _ _ .wb J.awb,k _ _ .wl J.awl,k _ _ .fh J.afh,fun u ws m=>⟨k _ _ (.fl m) (J.afl _ _ m).1,(J.afl _ _ m).2.keep t⟩,k _ _ .yg J.ayg,k _ _ .dm J.adm,
  J.nhn,J.l1,J.l2,J.l3,J.l4,J.l5,J.d1,J.d2,J.d3,J.d4,J.d5,J.d6⟩
theorem IH.same (J:IH D H x A s) (k:aG H H'):IH D H' x A s:=J.keep (fun _ _ _ q=>k _ _ q) (dr.of k)
structure Fr (F:Addr→Prop) (H:Hp) (F':Addr→Prop) (H':Hp):Prop where
 ext:∀ b u,¬F b→H b=some u→H' b=some u
 grow:∀ b,F' b→F b∨H b=none
 all:∀ b u,H b=some u→∃ u',H' b=some u'
 tup:dr H H'
variable {F F' F1 F2:Addr→Prop}
theorem Fr.trans (a:Fr F H F1 H1) (b:Fr F1 H1 F2 H2):Fr F H F2 H2 where
 ext:=fun c u n q=>b.ext c u (fun f=>(a.grow c f).elim n fun e=>by rw [e] at q;cases q) (a.ext c u n q)
 grow:=fun c f=>(b.grow c f).elim (fun f1=>a.grow c f1) fun e=>by
  cases q:H c with
  | none=>exact .inr rfl
  | some u=>obtain ⟨u',q'⟩:=a.all c u q;rw [e] at q';cases q'
 all:=fun c u q=>by obtain ⟨u',q'⟩:=a.all c u q;exact b.all c u' q'
 tup:=a.tup.trans b.tup
theorem Fr.same (k:aG H H'):Fr F H F H':=⟨fun _ _ _ q=>k _ _ q,fun _ f=>.inl f,fun b u q=>⟨u,k _ _ q⟩,dr.of k⟩
theorem Fr.refl:Fr F H F H:=Fr.same fun _ _ q=>q
theorem Fr.none (a:Fr F H F' H') {b:Addr} (h:H' b=none):H b=none:=by
 cases q:H b with
 | none=>rfl
 | some u=>obtain ⟨u',q'⟩:=a.all b u q;rw [h] at q';cases q'
theorem Fr.set {b:Addr} {u o:HO} (f:F b) (hb:H b=some u) (n:∀ xs,u≠.tup xs) (g:∀ c,F' c→F c):Fr F H F' (upd H b o) where
 ext:=fun c v nf q=>by rw [ae fun e=>nf (by rw [e];exact f)];exact q
 grow:=fun c f=>.inl (g c f)
 all:=fun c v q=>by
  by_cases e:c=b
  ·exact ⟨o,by rw [e];exact ag⟩
  ·exact ⟨v,by rw [ae e];exact q⟩
 tup:=dr.set hb n
theorem Fr.out (a:Fr F H F' H') {b:Addr} {u:HO} (n:¬F b) (q:H b=some u):H' b=some u∧¬F' b:=⟨a.ext b u n q,fun f=>(a.grow b f).elim n fun e=>by rw [e] at q;cases q⟩
theorem IH.LH (J:IH D H x A s) {xs:List V} {ws:List Wd} (r:Rel H xs ws):IH D (upd H A.hl (.lst xs)) x {A with hx:=xs} {s with aH:=ws}∧Fr (bX x A s) H (bX x {A with hx:=xs} {s with aH:=ws}) (upd H A.hl (.lst xs)):=by
 have tk:dr H (upd H A.hl (.lst xs)):=dr.set J.ahl (fun _ z=>nomatch z)
 refine ⟨⟨(by rw [ae (aw J.ax J.ahl (by intro z;cases z))];exact J.ax),(by rw [ae (aw J.ahd J.ahl (by intro z;cases z))];exact J.ahd),ag,r.keep tk,(by rw [ae (aw J.ant J.ahl (by intro z;cases z))];exact J.ant),(by rw [ae (Ne.symm J.l1)];exact J.anl),(by rw [ae (aw J.awt J.ahl (by intro z;cases z))];exact J.awt),(by rw [ae (aw J.awb J.ahl (by intro z;cases z))];exact J.awb),(by rw [ae (Ne.symm J.l2)];exact J.awl),(by rw [ae (aw J.afh J.ahl (by intro z;cases z))];exact J.afh),(fun t ws m=>⟨by rw [ae (J.l4 _ _ m).1];exact (J.afl _ _ m).1,(J.afl _ _ m).2.keep tk⟩),(by rw [ae (aw J.ayg J.ahl (by intro z;cases z))];exact J.ayg),(by rw [ae (aw J.adm J.ahl (by intro z;cases z))];exact J.adm),J.nhn,J.l1,J.l2,J.l3,J.l4,J.l5,J.d1,J.d2,J.d3,J.d4,J.d5,J.d6⟩,Fr.set .hl J.ahl (fun _ z=>nomatch z) (fun c f=>?_)⟩
 cases f with
 | x=>exact .x
 | hd=>exact .hd
 | hl=>exact .hl
 | nt=>exact .nt
 | nl=>exact .nl
 | wt=>exact .wt
 | wb=>exact .wb
 | wl=>exact .wl
 | fh=>exact .fh
 | yg=>exact .yg
 | dm=>exact .dm
 | fl m=>exact .fl m
theorem IH.aaw (J:IH D H x A s) {ns:List (Option Int)}:IH D (upd H A.nl (.lst (ns.map nmV))) x A {s with names:=ns}∧Fr (bX x A s) H (bX x A {s with names:=ns}) (upd H A.nl (.lst (ns.map nmV))):=by
 have tk:dr H (upd H A.nl (.lst (ns.map nmV))):=dr.set J.anl (fun _ z=>nomatch z)
 refine ⟨⟨(by rw [ae (aw J.ax J.anl (by intro z;cases z))];exact J.ax),(by rw [ae (aw J.ahd J.anl (by intro z;cases z))];exact J.ahd),(by rw [ae J.l1];exact J.ahl),J.rhl.keep tk,(by rw [ae (aw J.ant J.anl (by intro z;cases z))];exact J.ant),ag,(by rw [ae (aw J.awt J.anl (by intro z;cases z))];exact J.awt),(by rw [ae (aw J.awb J.anl (by intro z;cases z))];exact J.awb),(by rw [ae (Ne.symm J.l3)];exact J.awl),(by rw [ae (aw J.afh J.anl (by intro z;cases z))];exact J.afh),(fun t ws m=>⟨by rw [ae (J.l4 _ _ m).2.1];exact (J.afl _ _ m).1,(J.afl _ _ m).2.keep tk⟩),(by rw [ae (aw J.ayg J.anl (by intro z;cases z))];exact J.ayg),(by rw [ae (aw J.adm J.anl (by intro z;cases z))];exact J.adm),J.nhn,J.l1,J.l2,J.l3,J.l4,J.l5,J.d1,J.d2,J.d3,J.d4,J.d5,J.d6⟩,Fr.set .nl J.anl (fun _ z=>nomatch z) (fun c f=>?_)⟩
 cases f with
 | x=>exact .x
 | hd=>exact .hd
 | hl=>exact .hl
 | nt=>exact .nt
 | nl=>exact .nl
 | wt=>exact .wt
 | wb=>exact .wb
 | wl=>exact .wl
 | fh=>exact .fh
 | yg=>exact .yg
 | dm=>exact .dm
 | fl m=>exact .fl m
theorem IH.Zu (J:IH D H x A s) {bs:List (Int×Int)}:IH D (upd H A.wb (.dK (bs.map bkv))) x A {s with bM:=bs}∧Fr (bX x A s) H (bX x A {s with bM:=bs}) (upd H A.wb (.dK (bs.map bkv))):=by
 have tk:dr H (upd H A.wb (.dK (bs.map bkv))):=dr.set J.awb (fun _ z=>nomatch z)
 refine ⟨⟨(by rw [ae (aw J.ax J.awb (by intro z;cases z))];exact J.ax),(by rw [ae (aw J.ahd J.awb (by intro z;cases z))];exact J.ahd),(by rw [ae (aw J.ahl J.awb (by intro z;cases z))];exact J.ahl),J.rhl.keep tk,(by rw [ae (aw J.ant J.awb (by intro z;cases z))];exact J.ant),(by rw [ae (aw J.anl J.awb (by intro z;cases z))];exact J.anl),(by rw [ae (aw J.awt J.awb (by intro z;cases z))];exact J.awt),ag,(by rw [ae (aw J.awl J.awb (by intro z;cases z))];exact J.awl),(by rw [ae (Ne.symm J.d1)];exact J.afh),(fun t ws m=>⟨by rw [ae (aw (J.afl _ _ m).1 J.awb (by intro z;cases z))];exact (J.afl _ _ m).1,(J.afl _ _ m).2.keep tk⟩),(by rw [ae (Ne.symm J.d2)];exact J.ayg),(by rw [ae (Ne.symm J.d3)];exact J.adm),J.nhn,J.l1,J.l2,J.l3,J.l4,J.l5,J.d1,J.d2,J.d3,J.d4,J.d5,J.d6⟩,Fr.set .wb J.awb (fun _ z=>nomatch z) (fun c f=>?_)⟩
 cases f with
 | x=>exact .x
 | hd=>exact .hd
 | hl=>exact .hl
 | nt=>exact .nt
 | nl=>exact .nl
 | wt=>exact .wt
 | wb=>exact .wb
 | wl=>exact .wl
 | fh=>exact .fh
 | yg=>exact .yg
 | dm=>exact .dm
 | fl m=>exact .fl m
theorem IH.aax (J:IH D H x A s) {zs:List Int}:IH D (upd H A.wl (.lst (zs.map V.int))) x A {s with rA:=zs}∧Fr (bX x A s) H (bX x A {s with rA:=zs}) (upd H A.wl (.lst (zs.map V.int))):=by
 have tk:dr H (upd H A.wl (.lst (zs.map V.int))):=dr.set J.awl (fun _ z=>nomatch z)
 refine ⟨⟨(by rw [ae (aw J.ax J.awl (by intro z;cases z))];exact J.ax),(by rw [ae (aw J.ahd J.awl (by intro z;cases z))];exact J.ahd),(by rw [ae J.l2];exact J.ahl),J.rhl.keep tk,(by rw [ae (aw J.ant J.awl (by intro z;cases z))];exact J.ant),(by rw [ae J.l3];exact J.anl),(by rw [ae (aw J.awt J.awl (by intro z;cases z))];exact J.awt),(by rw [ae (aw J.awb J.awl (by intro z;cases z))];exact J.awb),ag,(by rw [ae (aw J.afh J.awl (by intro z;cases z))];exact J.afh),(fun t ws m=>⟨by rw [ae (J.l4 _ _ m).2.2];exact (J.afl _ _ m).1,(J.afl _ _ m).2.keep tk⟩),(by rw [ae (aw J.ayg J.awl (by intro z;cases z))];exact J.ayg),(by rw [ae (aw J.adm J.awl (by intro z;cases z))];exact J.adm),J.nhn,J.l1,J.l2,J.l3,J.l4,J.l5,J.d1,J.d2,J.d3,J.d4,J.d5,J.d6⟩,Fr.set .wl J.awl (fun _ z=>nomatch z) (fun c f=>?_)⟩
 cases f with
 | x=>exact .x
 | hd=>exact .hd
 | hl=>exact .hl
 | nt=>exact .nt
 | nl=>exact .nl
 | wt=>exact .wt
 | wb=>exact .wb
 | wl=>exact .wl
 | fh=>exact .fh
 | yg=>exact .yg
 | dm=>exact .dm
 | fl m=>exact .fl m
theorem IH.aay (J:IH D H x A s) {ts:List Int}:IH D (upd H A.yg (.dK (ts.map tkv))) x A {s with yng:=ts}∧Fr (bX x A s) H (bX x A {s with yng:=ts}) (upd H A.yg (.dK (ts.map tkv))):=by
 have tk:dr H (upd H A.yg (.dK (ts.map tkv))):=dr.set J.ayg (fun _ z=>nomatch z)
 refine ⟨⟨(by rw [ae (aw J.ax J.ayg (by intro z;cases z))];exact J.ax),(by rw [ae (aw J.ahd J.ayg (by intro z;cases z))];exact J.ahd),(by rw [ae (aw J.ahl J.ayg (by intro z;cases z))];exact J.ahl),J.rhl.keep tk,(by rw [ae (aw J.ant J.ayg (by intro z;cases z))];exact J.ant),(by rw [ae (aw J.anl J.ayg (by intro z;cases z))];exact J.anl),(by rw [ae (aw J.awt J.ayg (by intro z;cases z))];exact J.awt),(by rw [ae J.d2];exact J.awb),(by rw [ae (aw J.awl J.ayg (by intro z;cases z))];exact J.awl),(by rw [ae J.d4];exact J.afh),(fun t ws m=>⟨by rw [ae (aw (J.afl _ _ m).1 J.ayg (by intro z;cases z))];exact (J.afl _ _ m).1,(J.afl _ _ m).2.keep tk⟩),ag,(by rw [ae (Ne.symm J.d6)];exact J.adm),J.nhn,J.l1,J.l2,J.l3,J.l4,J.l5,J.d1,J.d2,J.d3,J.d4,J.d5,J.d6⟩,Fr.set .yg J.ayg (fun _ z=>nomatch z) (fun c f=>?_)⟩
 cases f with
 | x=>exact .x
 | hd=>exact .hd
 | hl=>exact .hl
 | nt=>exact .nt
 | nl=>exact .nl
 | wt=>exact .wt
 | wb=>exact .wb
 | wl=>exact .wl
 | fh=>exact .fh
 | yg=>exact .yg
 | dm=>exact .dm
 | fl m=>exact .fl m
theorem IH.Zv (J:IH D H x A s) {ts:List Int}:IH D (upd H A.dm (.dK (ts.map tkv))) x A {s with de:=ts}∧Fr (bX x A s) H (bX x A {s with de:=ts}) (upd H A.dm (.dK (ts.map tkv))):=by
 have tk:dr H (upd H A.dm (.dK (ts.map tkv))):=dr.set J.adm (fun _ z=>nomatch z)
 refine ⟨⟨(by rw [ae (aw J.ax J.adm (by intro z;cases z))];exact J.ax),(by rw [ae (aw J.ahd J.adm (by intro z;cases z))];exact J.ahd),(by rw [ae (aw J.ahl J.adm (by intro z;cases z))];exact J.ahl),J.rhl.keep tk,(by rw [ae (aw J.ant J.adm (by intro z;cases z))];exact J.ant),(by rw [ae (aw J.anl J.adm (by intro z;cases z))];exact J.anl),(by rw [ae (aw J.awt J.adm (by intro z;cases z))];exact J.awt),(by rw [ae J.d3];exact J.awb),(by rw [ae (aw J.awl J.adm (by intro z;cases z))];exact J.awl),(by rw [ae J.d5];exact J.afh),(fun t ws m=>⟨by rw [ae (aw (J.afl _ _ m).1 J.adm (by intro z;cases z))];exact (J.afl _ _ m).1,(J.afl _ _ m).2.keep tk⟩),(by rw [ae J.d6];exact J.ayg),ag,J.nhn,J.l1,J.l2,J.l3,J.l4,J.l5,J.d1,J.d2,J.d3,J.d4,J.d5,J.d6⟩,Fr.set .dm J.adm (fun _ z=>nomatch z) (fun c f=>?_)⟩
 cases f with
 | x=>exact .x
 | hd=>exact .hd
 | hl=>exact .hl
 | nt=>exact .nt
 | nl=>exact .nl
 | wt=>exact .wt
 | wb=>exact .wb
 | wl=>exact .wl
 | fh=>exact .fh
 | yg=>exact .yg
 | dm=>exact .dm
 | fl m=>exact .fl m
theorem IH.aaz (J:IH D H x A s) {n:Int}:IH D (upd H x (.ins D.aa A.dx (gu "next_thing" (.int n) (atts A s)))) x A {s with nxt:=n}∧Fr (bX x A s) H (bX x A {s with nxt:=n}) (upd H x (.ins D.aa A.dx (gu "next_thing" (.int n) (atts A s)))):=by
 have tk:dr H (upd H x (.ins D.aa A.dx (gu "next_thing" (.int n) (atts A s)))):=dr.set J.ax (fun _ z=>nomatch z)
 refine ⟨⟨(by rw [ag,Y5]),(by rw [ae (aw J.ahd J.ax (kc (show (1:Nat)≠11 by decide)))];exact J.ahd),(by rw [ae (aw J.ahl J.ax (by intro z;cases z))];exact J.ahl),J.rhl.keep tk,(by rw [ae (aw J.ant J.ax (kc (show (1:Nat)≠11 by decide)))];exact J.ant),(by rw [ae (aw J.anl J.ax (by intro z;cases z))];exact J.anl),(by rw [ae (aw J.awt J.ax (kc (show (2:Nat)≠11 by decide)))];exact J.awt),(by rw [ae (aw J.awb J.ax (by intro z;cases z))];exact J.awb),(by rw [ae (aw J.awl J.ax (by intro z;cases z))];exact J.awl),(by rw [ae (aw J.afh J.ax (by intro z;cases z))];exact J.afh),(fun t ws m=>⟨by rw [ae (aw (J.afl _ _ m).1 J.ax (by intro z;cases z))];exact (J.afl _ _ m).1,(J.afl _ _ m).2.keep tk⟩),(by rw [ae (aw J.ayg J.ax (by intro z;cases z))];exact J.ayg),(by rw [ae (aw J.adm J.ax (by intro z;cases z))];exact J.adm),J.nhn,J.l1,J.l2,J.l3,J.l4,J.l5,J.d1,J.d2,J.d3,J.d4,J.d5,J.d6⟩,Fr.set .x J.ax (fun _ z=>nomatch z) (fun c f=>?_)⟩
 cases f with
 | x=>exact .x
 | hd=>exact .hd
 | hl=>exact .hl
 | nt=>exact .nt
 | nl=>exact .nl
 | wt=>exact .wt
 | wb=>exact .wb
 | wl=>exact .wl
 | fh=>exact .fh
 | yg=>exact .yg
 | dm=>exact .dm
 | fl m=>exact .fl m
theorem IH.Zw (J:IH D H x A s) {n:Bool}:IH D (upd H x (.ins D.aa A.dx (gu "in_round" (.bl n) (atts A s)))) x A {s with rnd:=n}∧Fr (bX x A s) H (bX x A {s with rnd:=n}) (upd H x (.ins D.aa A.dx (gu "in_round" (.bl n) (atts A s)))):=by
 have tk:dr H (upd H x (.ins D.aa A.dx (gu "in_round" (.bl n) (atts A s)))):=dr.set J.ax (fun _ z=>nomatch z)
 refine ⟨⟨(by rw [ag,Y6]),(by rw [ae (aw J.ahd J.ax (kc (show (1:Nat)≠11 by decide)))];exact J.ahd),(by rw [ae (aw J.ahl J.ax (by intro z;cases z))];exact J.ahl),J.rhl.keep tk,(by rw [ae (aw J.ant J.ax (kc (show (1:Nat)≠11 by decide)))];exact J.ant),(by rw [ae (aw J.anl J.ax (by intro z;cases z))];exact J.anl),(by rw [ae (aw J.awt J.ax (kc (show (2:Nat)≠11 by decide)))];exact J.awt),(by rw [ae (aw J.awb J.ax (by intro z;cases z))];exact J.awb),(by rw [ae (aw J.awl J.ax (by intro z;cases z))];exact J.awl),(by rw [ae (aw J.afh J.ax (by intro z;cases z))];exact J.afh),(fun t ws m=>⟨by rw [ae (aw (J.afl _ _ m).1 J.ax (by intro z;cases z))];exact (J.afl _ _ m).1,(J.afl _ _ m).2.keep tk⟩),(by rw [ae (aw J.ayg J.ax (by intro z;cases z))];exact J.ayg),(by rw [ae (aw J.adm J.ax (by intro z;cases z))];exact J.adm),J.nhn,J.l1,J.l2,J.l3,J.l4,J.l5,J.d1,J.d2,J.d3,J.d4,J.d5,J.d6⟩,Fr.set .x J.ax (fun _ z=>nomatch z) (fun c f=>?_)⟩
 cases f with
 | x=>exact .x
 | hd=>exact .hd
 | hl=>exact .hl
 | nt=>exact .nt
 | nl=>exact .nl
 | wt=>exact .wt
 | wb=>exact .wb
 | wl=>exact .wl
 | fh=>exact .fh
 | yg=>exact .yg
 | dm=>exact .dm
 | fl m=>exact .fl m
def qP (fs:List (Int×List Wd)) (t:Int) (ws:List Wd):List (Int×List Wd):=fs.map fun p=>if p.1=t then (t,ws) else p
theorem xx {fs:List (Int×List Wd)} {t t':Int} {ws ws':List Wd} (m:(t',ws')∈qP fs t ws):∃ w0,(t',w0)∈fs∧t'=t':=by
 obtain ⟨q,mq,e⟩:=List.mem_map.mp m
 by_cases c:q.1=t
 ·rw [if_pos c] at e
  cases e
  exact ⟨q.2,by rw [←c];exact mq,rfl⟩
 ·rw [if_neg c] at e
  subst e
  exact ⟨_,mq,rfl⟩
theorem Me {A:HA} {fs:List (Int×List Wd)} {t:Int} {ws:List Wd} {xs:Int→List V}:(qP fs t ws).map (fkv {A with fx:=xs})=fs.map (fkv A):=by
 unfold qP
 rw [List.map_map]
 refine List.map_congr_left fun p hp=>?_
 show fkv {A with fx:=xs} (if p.1=t then (t,ws) else p)=fkv A p
 by_cases c:p.1=t
 ·rw [if_pos c];unfold fkv;rw [c]
 ·rw [if_neg c];rfl
theorem IH.aaA (J:IH D H x A s) {t:Int} {w0:List Wd} (m:(t,w0)∈s.aS) {xs:List V} {ws:List Wd} (r:Rel H xs ws):IH D (upd H (A.fa t) (.lst xs)) x {A with fx:=fun u=>if u=t then xs else A.fx u} {s with aS:=qP s.aS t ws}∧Fr (bX x A s) H (bX x {A with fx:=fun u=>if u=t then xs else A.fx u} {s with aS:=qP s.aS t ws}) (upd H (A.fa t) (.lst xs)):=by
 have tk:dr H (upd H (A.fa t) (.lst xs)):=dr.set (J.afl _ _ m).1 (fun _ z=>nomatch z)
 refine ⟨⟨(by rw [ae (Ne.symm (aw (J.afl _ _ m).1 J.ax (by intro z;cases z)))];exact J.ax),(by rw [ae (Ne.symm (aw (J.afl _ _ m).1 J.ahd (by intro z;cases z)))];exact J.ahd),(by rw [ae (Ne.symm (J.l4 _ _ m).1)];exact J.ahl),J.rhl.keep tk,(by rw [ae (Ne.symm (aw (J.afl _ _ m).1 J.ant (by intro z;cases z)))];exact J.ant),(by rw [ae (Ne.symm (J.l4 _ _ m).2.1)];exact J.anl),(by rw [ae (Ne.symm (aw (J.afl _ _ m).1 J.awt (by intro z;cases z)))];exact J.awt),(by rw [ae (Ne.symm (aw (J.afl _ _ m).1 J.awb (by intro z;cases z)))];exact J.awb),(by rw [ae (Ne.symm (J.l4 _ _ m).2.2)];exact J.awl),(by rw [ae (Ne.symm (aw (J.afl _ _ m).1 J.afh (by intro z;cases z))),Me];exact J.afh),(fun t' ws' m'=>by
  obtain ⟨q,mq,e⟩:=List.mem_map.mp m'
  by_cases c:q.1=t
  ·rw [if_pos c] at e
   cases e
   dsimp only
   rw [if_pos rfl]
   exact ⟨ag,r.keep tk⟩
  ·rw [if_neg c] at e
   subst e
   dsimp only
   rw [if_neg c]
   exact ⟨by rw [ae fun z=>c (J.l5 _ _ _ _ mq m z)];exact (J.afl _ _ mq).1,(J.afl _ _ mq).2.keep tk⟩),(by rw [ae (Ne.symm (aw (J.afl _ _ m).1 J.ayg (by intro z;cases z)))];exact J.ayg),(by rw [ae (Ne.symm (aw (J.afl _ _ m).1 J.adm (by intro z;cases z)))];exact J.adm),J.nhn,J.l1,J.l2,J.l3,(fun t' ws' m'=>by obtain ⟨q,mq,e1⟩:=xx m';rw [←e1];exact J.l4 _ _ mq),(fun t1 w1 t2 w2 m1 m2 z=>by obtain ⟨q1,mq1,e1⟩:=xx m1;obtain ⟨q2,mq2,e2⟩:=xx m2;rw [←e1,←e2] at z ⊢;exact J.l5 _ _ _ _ mq1 mq2 z),J.d1,J.d2,J.d3,J.d4,J.d5,J.d6⟩,Fr.set (.fl m) (J.afl _ _ m).1 (fun _ z=>nomatch z) (fun c f=>?_)⟩
 cases f with
 | x=>exact .x
 | hd=>exact .hd
 | hl=>exact .hl
 | nt=>exact .nt
 | nl=>exact .nl
 | wt=>exact .wt
 | wb=>exact .wb
 | wl=>exact .wl
 | fh=>exact .fh
 | yg=>exact .yg
 | dm=>exact .dm
 | fl m'=>obtain ⟨w0,m0,_⟩:=xx m';exact .fl m0
theorem IH.fresh (J:IH D H x A s) {b:Addr} (h:H b=none):¬bX x A s b:=fun f=>by
 obtain ⟨u,q,_⟩:=J.is f
 rw [h] at q
 cases q
theorem IH.Y9 (J:IH D H x A s) {t:Int} {b:Addr} {xs:List V} {ws:List Wd} (hb:H b=none) (hn:∀ w,(t,w)∉s.aS) (r:Rel H xs ws) :
  IH D (upd (upd H b (.lst xs)) A.fh (.dK (s.aS.map (fkv A)++[(Sum.inl t,.ref b)]))) x {A with fa:=fun u=>if u=t then b else A.fa u,fx:=fun u=>if u=t then xs else A.fx u} {s with aS:=s.aS++[(t,ws)]} ∧
  Fr (bX x A s) H (bX x {A with fa:=fun u=>if u=t then b else A.fa u,fx:=fun u=>if u=t then xs else A.fx u} {s with aS:=s.aS++[(t,ws)]}) (upd (upd H b (.lst xs)) A.fh (.dK (s.aS.map (fkv A)++[(Sum.inl t,.ref b)]))):=by
 have s1:aG H (upd H b (.lst xs)):=aG.upd hb
 have nb:∀ {c:Addr} {u:HO},H c=some u→c≠b:=fun q=>ar q hb
 have J1:=J.same s1
 have tk:dr (upd H b (.lst xs)) (upd (upd H b (.lst xs)) A.fh (.dK (s.aS.map (fkv A)++[(Sum.inl t,.ref b)]))):=dr.set J1.afh (fun _ z=>nomatch z)
 have tk0:dr H (upd (upd H b (.lst xs)) A.fh (.dK (s.aS.map (fkv A)++[(Sum.inl t,.ref b)]))):=(dr.of s1).trans tk
 have kt:∀ {t':Int} {w:List Wd},(t',w)∈s.aS→t'≠t:=fun m e=>hn _ (by rw [←e];exact m)
 have mm:∀ {t':Int} {w:List Wd},(t',w)∈s.aS++[(t,ws)]→(t',w)∈s.aS∨(t'=t∧w=ws):=fun m=>by
  rcases List.mem_append.mp m with m|m
  ·exact .inl m
  ·cases List.mem_singleton.mp m;exact .inr ⟨rfl,rfl⟩
 have bf:b≠A.fh:=Ne.symm (nb J.afh)
 have fk:(s.aS++[(t,ws)]).map (fkv {A with fa:=fun u=>if u=t then b else A.fa u,fx:=fun u=>if u=t then xs else A.fx u})=s.aS.map (fkv A)++[(Sum.inl t,.ref b)]:=by
  rw [List.map_append]
  congr 1
  ·refine List.map_congr_left fun p hp=>?_
   unfold fkv
   simp only
   rw [if_neg (kt (t':=p.1) (w:=p.2) hp)]
  ·simp only [List.map_cons,List.map_nil,fkv,if_true]
 refine ⟨⟨(by rw [ae (aw J.ax J.afh (by intro z;cases z))];exact J1.ax),(by rw [ae (aw J.ahd J.afh (by intro z;cases z))];exact J1.ahd),(by rw [ae (aw J.ahl J.afh (by intro z;cases z))];exact J1.ahl),J.rhl.keep tk0,(by rw [ae (aw J.ant J.afh (by intro z;cases z))];exact J1.ant),(by rw [ae (aw J.anl J.afh (by intro z;cases z))];exact J1.anl),(by rw [ae (aw J.awt J.afh (by intro z;cases z))];exact J1.awt),(by rw [ae J.d1];exact J1.awb),(by rw [ae (aw J.awl J.afh (by intro z;cases z))];exact J1.awl),(by rw [fk];exact ag),(fun t' w m=>by
  rcases mm m with m|⟨e1,e2⟩
  ·show _=_∧_
   simp only [if_neg (kt m)]
   exact ⟨by rw [ae (aw (J.afl _ _ m).1 J.afh (by intro z;cases z))];exact s1 _ _ (J.afl _ _ m).1,(J.afl _ _ m).2.keep tk0⟩
  ·subst e1 e2
   simp only [if_true]
   exact ⟨by rw [ae bf];exact ag,r.keep tk0⟩),(by rw [ae (Ne.symm J.d4)];exact J1.ayg),(by rw [ae (Ne.symm J.d5)];exact J1.adm),J.nhn,J.l1,J.l2,J.l3,(fun t' w m=>by
  rcases mm m with m|⟨e1,e2⟩
  ·simp only [if_neg (kt m)]
   exact J.l4 _ _ m
  ·subst e1
   simp only [if_true]
   exact ⟨Ne.symm (nb J.ahl),Ne.symm (nb J.anl),Ne.symm (nb J.awl)⟩),(fun t1 w1 t2 w2 m1 m2 z=>by
  simp only at z
  rcases mm m1 with m1|⟨e1,_⟩
  ·rw [if_neg (kt m1)] at z
   rcases mm m2 with m2|⟨e2,_⟩
   ·rw [if_neg (kt m2)] at z
    exact J.l5 _ _ _ _ m1 m2 z
   ·rw [if_pos e2] at z
    exact absurd z (nb (J.afl _ _ m1).1)
  ·rw [if_pos e1] at z
   rcases mm m2 with m2|⟨e2,_⟩
   ·rw [if_neg (kt m2)] at z
    exact absurd z.symm (nb (J.afl _ _ m2).1)
   ·rw [e1,e2]),J.d1,J.d2,J.d3,J.d4,J.d5,J.d6⟩,?_⟩
 refine ⟨fun c u nf q=>?_,fun c f=>?_,fun c u q=>?_,tk0⟩
 ·rw [ae fun e=>nf (by rw [e];exact .fh)]
  exact s1 _ _ q
 ·cases f with
  | x=>exact .inl .x
  | hd=>exact .inl .hd
  | hl=>exact .inl .hl
  | nt=>exact .inl .nt
  | nl=>exact .inl .nl
  | wt=>exact .inl .wt
  | wb=>exact .inl .wb
  | wl=>exact .inl .wl
  | fh=>exact .inl .fh
  | yg=>exact .inl .yg
  | dm=>exact .inl .dm
  | @fl t' w m =>
   rcases mm m with m|⟨e,_⟩
   ·refine .inl ?_
    show bX x A s (if t'=t then b else A.fa t')
    rw [if_neg (kt m)]
    exact .fl m
   ·refine .inr ?_
    show H (if t'=t then b else A.fa t')=none
    rw [if_pos e]
    exact hb
 ·by_cases e:c=A.fh
  ·exact ⟨_,by rw [e];exact ag⟩
  ·exact ⟨u,by rw [ae e];exact s1 _ _ q⟩
end
end K14
end
section
namespace K14
open PySem L2 LX
section
variable {P:Program} {w:World} {K:W.Frag} {mg:Str→Option Value} {base:Heap} {D:Ad}
theorem je {t u:TS} {D:Ends} {σ:St} {H:Hp} (h:∀ N:St→Hp→Prop,(∀ σ' H',u D σ' H'→N σ' H')→t {D with nx:=N} σ H):Ft t u D σ H:=h (u D) (fun _ _ q=>q)
theorem WB {t:TT} {b e:TS} {D:Ends} {σ:St} {H:Hp} (h:∀ B:St→Hp→Prop,(∀ σ' H',b D σ' H'→B σ' H')→t σ H fun c H1=>if c=true then B σ H1 else e D σ H1):Zm t b e D σ H:=h (b D) (fun _ _ q=>q)
structure Ok0 (P:Program) (w:World) (K:W.Frag) (mg:Str→Option Value) (base:Heap) (n:Nat) (f:Addr) (fd:FuncData) (ps:List Str) (sp:Sp):Prop where
 g:Iq P w K mg base (CXE P w) n f fd ps sp
 b:Binds K fd ps []
theorem WC {P:Program} {w:World} {X:Cx}:Passes (CXE P w) X (fun _ _ _=>False):=fun _ _ _ _ _ _ _ ⟨_,_,_,_,_,_,_,_,_,q⟩=>q.elim
theorem cW {H0 H:Hp} {K:W.Frag} {E E2:XK} {C:Addr} {y:Str} (ec:Il K C) (h0:∀ b,H b=none→H0 b=none) (k:∀ H',aG H H'→E (.ref C) none H') (ea:Addr) (hea:H ea=none) :
  Bo K [.ref ea,.str y] (upd H ea (exo true C ea none)) (fun v H2=>v=.non∧(fun (v:V) (H1:Hp)=>∃ ea C od,v=.ref ea∧H1 ea=some (exo true C ea od)∧(∃ cd,gL K C cd)∧H0 ea=none∧E (.ref C) od (del H1 ea)) (.ref ea) H2) E2:=by
 refine ⟨ea,C,none,.str y,rfl,ag,ec.cls,rfl,ea,C,none,rfl,ag,ec.cls,h0 _ hea,k _ fun b o q=>?_⟩
 have nb:b≠ea:=fun e=>by rw [e,hea] at q;cases q
 rw [so nb,ae nb]
 exact q
def Bad (C:Addr) (H:Hp) (E:XK):Prop:=∀ H',aG H H'→E (.ref C) none H'
theorem Bad.same {C:Addr} {H H1:Hp} {E:XK} (k:Bad C H E) (s:aG H H1):Bad C H1 E:=fun H' s'=>k H' (s.trans s')
def Sm (n:Int):Prop:=n.natAbs.log2<1920
theorem Sm.of {n:Int} (h0:-1000000≤n) (h1:n≤1000000):Sm n:=K0 (Nat.lt_trans (show n.natAbs<2000000 by omega) (by decide))
def wat (ws:List Wd) (h:Int):Option Wd:=if 0≤h∧h<8 then ws[h.toNat]? else none
theorem jO {ws:List Wd} {h:Int} {wd:Wd} (e:wat ws h=some wd):0≤h∧h<8∧ws[h.toNat]?=some wd:=by
 unfold wat at e
 by_cases g:0≤h∧h<8
 ·rw [if_pos g] at e;exact ⟨g.1,g.2,e⟩
 ·rw [if_neg g] at e;cases e
theorem Mf {ws:List Wd} {h:Int} (l:ws.length=8) (e:wat ws h=none):¬(0≤h∧h<8):=fun g=>by
 unfold wat at e
 rw [if_pos g,List.getElem?_eq_getElem (by omega)] at e
 cases e
theorem xm {ws:List Wd} {h:Int} (l:ws.length=8) (g:0≤h∧h<8):∃ wd,wat ws h=some wd∧ws[h.toNat]?=some wd:=by
 refine ⟨ws[h.toNat]'(by omega),?_,List.getElem?_eq_getElem (by omega)⟩
 unfold wat
 rw [if_pos g]
 exact List.getElem?_eq_getElem (by omega)
theorem qm {xs:List V} {a:Int} {v:V} (h0:0≤a) (h:xs[a.toNat]?=some v):atI xs a=some v:=by
 have e:a=(a.toNat:Int):=by omega
 rw [e]
 exact xJ h
theorem IK {n:Nat} {a:Int} (h0:0≤a) (h1:a<n):ixN n a=some a.toNat:=by
 unfold ixN
 rw [if_pos h0,if_pos h1]
structure Hn (D:Ad) (H:Hp) (hd hdx hl:Addr) (xs:List V) (ws:List Wd):Prop where
 i:H hd=some (.ins D.aW hdx [("words_held",.ref hl)])
 l:H hl=some (.lst xs)
 r:Rel H xs ws
 n:ws.length=8
theorem Hn.same {D:Ad} {H H':Hp} {hd hdx hl:Addr} {xs:List V} {ws:List Wd} (h:Hn D H hd hdx hl xs ws) (s:aG H H'):Hn D H' hd hdx hl xs ws:=⟨s _ _ h.i,s _ _ h.l,h.r.keep (dr.of s),h.n⟩
theorem Hn.at_ {D:Ad} {H:Hp} {hd hdx hl:Addr} {xs:List V} {ws:List Wd} (N:Hn D H hd hdx hl xs ws) {h:Int} {wd:Wd} (e:wat ws h=some wd):∃ v,xs[h.toNat]?=some v∧WV H v wd:=by
 obtain ⟨h0,h1,e⟩:=jO e
 have hi:h.toNat<ws.length:=by rw [N.n];omega
 obtain ⟨v,e1,e2⟩:=N.r.get hi
 rw [List.getElem?_eq_getElem hi] at e
 cases e
 exact ⟨v,e1,e2⟩
theorem Hn.ix {D:Ad} {H:Hp} {hd hdx hl:Addr} {xs:List V} {ws:List Wd} (N:Hn D H hd hdx hl xs ws) {h:Int} (g:0≤h∧h<8):ixN xs.length h=some h.toNat:=IK g.1 (by rw [N.r.1,N.n];exact g.2)
abbrev qo:List Str:=["self", "text"]
theorem pM:aA qo ["self", "text"] (au hV):=⟨rfl,rfl,rfl,by decide +kernel,rfl,by decide +kernel,by decide +kernel⟩
theorem pN (F:Fun K "__init__" "HeapError.__init__" hV D.ak D.aB) (T:Txt K mg D):Ok P w K mg base 1 D.ak D.aB ["self", "text"] (Bo K):=by
 refine ⟨?_,F.binds (ps:=["self", "text"]) fun _ _ _ _ _ _ us hl=>match us,hl with|[_,_],_=>rfl⟩
 refine F.okE pM (fun vs H Q E h=>?_) (fun cdv A' outer s' H vs Q E hr h=>?_)
 ·obtain ⟨ea,C,od,x,rfl,_⟩:=h
  rfl
 ·obtain ⟨ea,C,od,x,rfl,h1,hc,k⟩:=h
  refine ⟨_,(ai (aM (YM rfl T.pj (ab (pv 0) (ab (pv 1) ao))))),?_⟩
  exact ⟨_,rfl,_,rfl,ea,C,od,[x],rfl,(by show 1≤1000;decide),h1,hc,k⟩
def bP (n:Str):Sp:=fun vs H Q _=>∃ x,vs=[x]∧Q (.str n) H
theorem sW (F:Fun K "called" "BadCount.called" mD D.bR D.dY) (T:Txt K mg D):Ok0 P w K mg base 1 D.bR D.dY ["self"] (bP "BadCount") :=
 ⟨F.ok0 (N:=["self"]) ⟨rfl,rfl,rfl,by decide +kernel,rfl,by decide +kernel,by decide +kernel⟩ (fun vs H Q E h=>by obtain ⟨x,rfl,_⟩:=h;rfl) (fun cdv A outer s H vs Q E h=>by obtain ⟨x,rfl,k⟩:=h;exact ⟨_,ai (aX aK),k⟩),F.binds (ps:=["self"]) fun _ _ _ _ _ _ us hl=>match us,hl with|[_],_=>rfl⟩
theorem uU (F:Fun K "called" "BadHand.called" nU D.cg D.eE) (T:Txt K mg D):Ok0 P w K mg base 1 D.cg D.eE ["self"] (bP "BadHand") :=
 ⟨F.ok0 (N:=["self"]) ⟨rfl,rfl,rfl,by decide +kernel,rfl,by decide +kernel,by decide +kernel⟩ (fun vs H Q E h=>by obtain ⟨x,rfl,_⟩:=h;rfl) (fun cdv A outer s H vs Q E h=>by obtain ⟨x,rfl,k⟩:=h;exact ⟨_,ai (aX aK),k⟩),F.binds (ps:=["self"]) fun _ _ _ _ _ _ us hl=>match us,hl with|[_],_=>rfl⟩
theorem uV (F:Fun K "called" "BadName.called" nV D.cj D.eF) (T:Txt K mg D):Ok0 P w K mg base 1 D.cj D.eF ["self"] (bP "BadName") :=
 ⟨F.ok0 (N:=["self"]) ⟨rfl,rfl,rfl,by decide +kernel,rfl,by decide +kernel,by decide +kernel⟩ (fun vs H Q E h=>by obtain ⟨x,rfl,_⟩:=h;rfl) (fun cdv A outer s H vs Q E h=>by obtain ⟨x,rfl,k⟩:=h;exact ⟨_,ai (aX aK),k⟩),F.binds (ps:=["self"]) fun _ _ _ _ _ _ us hl=>match us,hl with|[_],_=>rfl⟩
theorem sX (F:Fun K "called" "BadField.called" mC D.bQ D.dX) (T:Txt K mg D):Ok0 P w K mg base 1 D.bQ D.dX ["self"] (bP "BadField") :=
 ⟨F.ok0 (N:=["self"]) ⟨rfl,rfl,rfl,by decide +kernel,rfl,by decide +kernel,by decide +kernel⟩ (fun vs H Q E h=>by obtain ⟨x,rfl,_⟩:=h;rfl) (fun cdv A outer s H vs Q E h=>by obtain ⟨x,rfl,k⟩:=h;exact ⟨_,ai (aX aK),k⟩),F.binds (ps:=["self"]) fun _ _ _ _ _ _ us hl=>match us,hl with|[_],_=>rfl⟩
theorem ot (F:Fun K "called" "TooManyWords.called" jN D.ba D.cz) (T:Txt K mg D):Ok0 P w K mg base 1 D.ba D.cz ["self"] (bP "TooManyWords") :=
 ⟨F.ok0 (N:=["self"]) ⟨rfl,rfl,rfl,by decide +kernel,rfl,by decide +kernel,by decide +kernel⟩ (fun vs H Q E h=>by obtain ⟨x,rfl,_⟩:=h;rfl) (fun cdv A outer s H vs Q E h=>by obtain ⟨x,rfl,k⟩:=h;exact ⟨_,ai (aX aK),k⟩),F.binds (ps:=["self"]) fun _ _ _ _ _ _ us hl=>match us,hl with|[_],_=>rfl⟩
theorem xS (F:Fun K "called" "NoRoom.called" pE D.cH D.fq) (T:Txt K mg D):Ok0 P w K mg base 1 D.cH D.fq ["self"] (bP "NoRoom") :=
 ⟨F.ok0 (N:=["self"]) ⟨rfl,rfl,rfl,by decide +kernel,rfl,by decide +kernel,by decide +kernel⟩ (fun vs H Q E h=>by obtain ⟨x,rfl,_⟩:=h;rfl) (fun cdv A outer s H vs Q E h=>by obtain ⟨x,rfl,k⟩:=h;exact ⟨_,ai (aX aK),k⟩),F.binds (ps:=["self"]) fun _ _ _ _ _ _ us hl=>match us,hl with|[_],_=>rfl⟩
theorem uW (F:Fun K "called" "RoundOn.called" nW D.ck D.eG) (T:Txt K mg D):Ok0 P w K mg base 1 D.ck D.eG ["self"] (bP "RoundOn") :=
 ⟨F.ok0 (N:=["self"]) ⟨rfl,rfl,rfl,by decide +kernel,rfl,by decide +kernel,by decide +kernel⟩ (fun vs H Q E h=>by obtain ⟨x,rfl,_⟩:=h;rfl) (fun cdv A outer s H vs Q E h=>by obtain ⟨x,rfl,k⟩:=h;exact ⟨_,ai (aX aK),k⟩),F.binds (ps:=["self"]) fun _ _ _ _ _ _ us hl=>match us,hl with|[_],_=>rfl⟩
theorem uX (F:Fun K "called" "NoRound.called" nX D.cn D.eI) (T:Txt K mg D):Ok0 P w K mg base 1 D.cn D.eI ["self"] (bP "NoRound") :=
 ⟨F.ok0 (N:=["self"]) ⟨rfl,rfl,rfl,by decide +kernel,rfl,by decide +kernel,by decide +kernel⟩ (fun vs H Q E h=>by obtain ⟨x,rfl,_⟩:=h;rfl) (fun cdv A outer s H vs Q E h=>by obtain ⟨x,rfl,k⟩:=h;exact ⟨_,ai (aX aK),k⟩),F.binds (ps:=["self"]) fun _ _ _ _ _ _ us hl=>match us,hl with|[_],_=>rfl⟩
def Jv:Sp:=fun vs H Q _=>∃ v wd,vs=[v]∧WV H v wd∧Q (.str wd.kind) H
abbrev Le:List Str:=["value"]
theorem IL:aA Le ["value"] (au zM):=⟨rfl,rfl,rfl,by decide +kernel,rfl,by decide +kernel,by decide +kernel⟩
theorem IM (F:Fun K "kind_of" "kind_of" zM D.hU D.lY) (T:Txt K mg D):Ok P w K mg base 1 D.hU D.lY ["value"] (Jv):=by
 refine ⟨?_,F.binds (ps:=["value"]) fun _ _ _ _ _ _ us hl=>match us,hl with|[_],_=>rfl⟩
 refine F.okE IL (fun vs H Q E h=>?_) (fun cdv A' outer s' H vs Q E hr h=>?_)
 ·obtain ⟨v,wd,rfl,_⟩:=h
  rfl
 ·obtain ⟨v,wd,rfl,hv,k⟩:=h
  refine ⟨_,(ai (aX (xq (aI Fz (pv 0) gS (aU _)) aK (aJ aF (pv 0) aq (fun _ _=>rfl))))),?_⟩
  cases wd with
  | no =>
   obtain rfl:v=.non:=hv
   exact ⟨_,rfl,rfl,_,rfl,av (fun _=>k) (fun h=>absurd (by simp) h)⟩
  | num n =>
   obtain ⟨t,rfl,ht⟩:=hv
   exact ⟨_,rfl,rfl,_,rfl,av (fun h=>by simp at h) (fun _=>⟨_,rfl,t,_,0,_,rfl,rfl,SqT.of ht,rfl,k⟩)⟩
  | th n =>
   obtain ⟨t,rfl,ht⟩:=hv
   exact ⟨_,rfl,rfl,_,rfl,av (fun h=>by simp at h) (fun _=>⟨_,rfl,t,_,0,_,rfl,rfl,SqT.of ht,rfl,k⟩)⟩
def dt (D:Ad):Sp:=fun vs H Q E=>∃ n:Int,vs=[.int n]∧Sm n∧(if 0≤n∧n<8 then Q .non H else Bad D.bg H E)
abbrev Bt:List Str:=["h"]
theorem Ar:aA Bt ["h"] (au lN):=⟨rfl,rfl,rfl,by decide +kernel,rfl,by decide +kernel,by decide +kernel⟩
theorem As (F:Fun K "look_at_hand" "look_at_hand" lN D.bc D.b7) (T:Txt K mg D)
  (ah:Ok P w K mg base 1 D.ak D.aB ["self", "text"] (Bo K)):Ok P w K mg base 3 D.bc D.b7 ["h"] (dt D):=by
 refine ⟨?_,F.binds (ps:=["h"]) fun _ _ _ _ _ _ us hl=>match us,hl with|[_],_=>rfl⟩
 refine F.okE Ar (fun vs H Q E h=>?_) (fun cdv A' outer s' H vs Q E hr h=>?_)
 ·obtain ⟨n,rfl,_⟩:=h
  rfl
 ·obtain ⟨n,rfl,hb,k⟩:=h
  refine ⟨_,(ai (bB (lV (oH Ah Cb aq (pv 0) (jP (v:=.int 8) rfl T.Co ⟨_,rfl⟩)))
    (ai (fV rfl j7 (j8 T.uB ah.g (hr.mono (by decide)) rfl T.uA ah.b (Passes.x (aT fun _ _ _ q=>q)) (ab (jb (bC (kP (pv 0)) (bC hJ ja))) ao))))
    aP)),?_⟩
  by_cases g:0≤n∧n<8
  ·rw [if_pos g] at k
   refine ⟨_,rfl,0,n,rfl,rfl,_,rfl,av (fun _=>⟨n,8,rfl,rfl,_,rfl,av (fun h2=>absurd h2 (by rw [decide_eq_true g.2];decide)) (fun _=>k)⟩) (fun h1=>absurd (decide_eq_true g.1) h1)⟩
  ·rw [if_neg g] at k
   by_cases g0:0≤n
   ·have g1:¬n<8:=fun z=>g ⟨g0,z⟩
    refine ⟨_,rfl,0,n,rfl,rfl,_,rfl,av (fun _=>⟨n,8,rfl,rfl,_,rfl,av (fun _=>⟨_,rfl,n,rfl,hb,fun y hy ea hea=>cW T.i9 (fun _ q=>q) k ea hea⟩) (fun h2=>absurd (by rw [decide_eq_false g1];rfl) h2)⟩) (fun h1=>absurd (decide_eq_true g0) h1)⟩
   ·refine ⟨_,rfl,0,n,rfl,rfl,_,rfl,av (fun h1=>absurd (of_decide_eq_true h1) g0) (fun _=>⟨_,rfl,om ⟨_,rfl,n,rfl,hb,fun y hy ea hea=>cW T.i9 (fun _ q=>q) k ea hea⟩⟩)⟩
def kK (D:Ad):Sp:=fun vs H Q E=>∃ n:Int,vs=[.int n]∧Sm n∧(if 0≤n∧n<8 then Q .non H else Bad D.dA H E)
abbrev Bu:List Str:=["w"]
theorem Au:aA Bu ["w"] (au lO):=⟨rfl,rfl,rfl,by decide +kernel,rfl,by decide +kernel,by decide +kernel⟩
theorem Av (F:Fun K "look_at_name" "look_at_name" lO D.cC D.gr) (T:Txt K mg D)
  (ah:Ok P w K mg base 1 D.ak D.aB ["self", "text"] (Bo K)):Ok P w K mg base 3 D.cC D.gr ["w"] (kK D):=by
 refine ⟨?_,F.binds (ps:=["w"]) fun _ _ _ _ _ _ us hl=>match us,hl with|[_],_=>rfl⟩
 refine F.okE Au (fun vs H Q E h=>?_) (fun cdv A' outer s' H vs Q E hr h=>?_)
 ·obtain ⟨n,rfl,_⟩:=h
  rfl
 ·obtain ⟨n,rfl,hb,k⟩:=h
  refine ⟨_,(ai (bB (lV (oH Ah Cb aq (pv 0) (jP (v:=.int 8) rfl T.k7 ⟨_,rfl⟩)))
    (ai (fV rfl j7 (j8 T.Iy ah.g (hr.mono (by decide)) rfl T.Iw ah.b (Passes.x (aT fun _ _ _ q=>q)) (ab (jb (bC (kP (pv 0)) (bC hJ ja))) ao))))
    aP)),?_⟩
  by_cases g:0≤n∧n<8
  ·rw [if_pos g] at k
   refine ⟨_,rfl,0,n,rfl,rfl,_,rfl,av (fun _=>⟨n,8,rfl,rfl,_,rfl,av (fun h2=>absurd h2 (by rw [decide_eq_true g.2];decide)) (fun _=>k)⟩) (fun h1=>absurd (decide_eq_true g.1) h1)⟩
  ·rw [if_neg g] at k
   by_cases g0:0≤n
   ·have g1:¬n<8:=fun z=>g ⟨g0,z⟩
    refine ⟨_,rfl,0,n,rfl,rfl,_,rfl,av (fun _=>⟨n,8,rfl,rfl,_,rfl,av (fun _=>⟨_,rfl,n,rfl,hb,fun y hy ea hea=>cW T.uC (fun _ q=>q) k ea hea⟩) (fun h2=>absurd (by rw [decide_eq_false g1];rfl) h2)⟩) (fun h1=>absurd (decide_eq_true g0) h1)⟩
   ·refine ⟨_,rfl,0,n,rfl,rfl,_,rfl,av (fun h1=>absurd (of_decide_eq_true h1) g0) (fun _=>⟨_,rfl,om ⟨_,rfl,n,rfl,hb,fun y hy ea hea=>cW T.uC (fun _ q=>q) k ea hea⟩⟩)⟩
def rh (D:Ad):Sp:=fun vs H Q E=>∃ n:Int,vs=[.int n]∧Sm n∧(if 0≤n∧n≤6 then Q (.int (n+1)) H else Bad D.cc H E)
abbrev IP:List Str:=["fields"]
theorem Gh:aA IP ["fields"] (au uz):=⟨rfl,rfl,rfl,by decide +kernel,rfl,by decide +kernel,by decide +kernel⟩
theorem Gi (F:Fun K "words_of" "words_of" uz D.fW D.j9) (T:Txt K mg D)
  (ah:Ok P w K mg base 1 D.ak D.aB ["self", "text"] (Bo K)):Ok P w K mg base 3 D.fW D.j9 ["fields"] (rh D):=by
 refine ⟨?_,F.binds (ps:=["fields"]) fun _ _ _ _ _ _ us hl=>match us,hl with|[_],_=>rfl⟩
 refine F.okE Gh (fun vs H Q E h=>?_) (fun cdv A' outer s' H vs Q E hr h=>?_)
 ·obtain ⟨n,rfl,_⟩:=h
  rfl
 ·obtain ⟨n,rfl,hb,k⟩:=h
  refine ⟨_,(aj (bB (lV (oH Ah Ah aq (pv 0) (jP (v:=.int 6) rfl T.nJ ⟨_,rfl⟩)))
    (ai (fV rfl j7 (j8 T.kz ah.g (hr.mono (by decide)) rfl T.kx ah.b (Passes.x (aT fun _ _ _ q=>q)) (ab (jb (bC (kP (pv 0)) (bC hJ ja))) ao))))
    aP)
   (ai (aX (dD Bi (pv 0) aq)))),?_⟩
  by_cases g:0≤n∧n≤6
  ·rw [if_pos g] at k
   refine ⟨_,rfl,0,n,rfl,rfl,_,rfl,av (fun _=>⟨n,6,rfl,rfl,_,rfl,av (fun h2=>absurd h2 (by rw [decide_eq_true g.2];decide)) (fun _=>⟨_,rfl,n,1,rfl,rfl,k⟩)⟩) (fun h1=>absurd (decide_eq_true g.1) h1)⟩
  ·rw [if_neg g] at k
   by_cases g0:0≤n
   ·have g1:¬n≤6:=fun z=>g ⟨g0,z⟩
    refine ⟨_,rfl,0,n,rfl,rfl,_,rfl,av (fun _=>⟨n,6,rfl,rfl,_,rfl,av (fun _=>⟨_,rfl,n,rfl,hb,fun y hy ea hea=>cW T.mX (fun _ q=>q) k ea hea⟩) (fun h2=>absurd (by rw [decide_eq_false g1];rfl) h2)⟩) (fun h1=>absurd (decide_eq_true g0) h1)⟩
   ·refine ⟨_,rfl,0,n,rfl,rfl,_,rfl,av (fun h1=>absurd (of_decide_eq_true h1) g0) (fun _=>⟨_,rfl,om ⟨_,rfl,n,rfl,hb,fun y hy ea hea=>cW T.mX (fun _ q=>q) k ea hea⟩⟩)⟩
def j2 (D:Ad):Sp:=fun vs H Q E=>∃ n m:Int,vs=[.int n,.int m]∧Sm n∧Sm m∧(if 0≤n∧n<m then Q .non H else Bad D.dE H E)
abbrev Aw:List Str:=["k", "fields"]
theorem xT:aA Aw ["k", "fields"] (au kB):=⟨rfl,rfl,rfl,by decide +kernel,rfl,by decide +kernel,by decide +kernel⟩
theorem xU (F:Fun K "look_at_field" "look_at_field" kB D.b8 D.ft) (T:Txt K mg D)
  (ah:Ok P w K mg base 1 D.ak D.aB ["self", "text"] (Bo K)):Ok P w K mg base 3 D.b8 D.ft ["k", "fields"] (j2 D):=by
 refine ⟨?_,F.binds (ps:=["k", "fields"]) fun _ _ _ _ _ _ us hl=>match us,hl with|[_,_],_=>rfl⟩
 refine F.okE xT (fun vs H Q E h=>?_) (fun cdv A' outer s' H vs Q E hr h=>?_)
 ·obtain ⟨n,m,rfl,_⟩:=h
  rfl
 ·obtain ⟨n,m,rfl,hb,hm,k⟩:=h
  refine ⟨_,(ai (bB (lV (oH Ah Cb aq (pv 0) (pv 1)))
    (ai (fV rfl j7 (j8 T.F8 ah.g (hr.mono (by decide)) rfl T.F7 ah.b (Passes.x (aT fun _ _ _ q=>q)) (ab (jb (bC hJ (bC (kP (pv 1)) (bC hJ (bC (kP (pv 0)) ja))))) ao))))
    aP)),?_⟩
  by_cases g:0≤n∧n<m
  ·rw [if_pos g] at k
   refine ⟨_,rfl,0,n,rfl,rfl,_,rfl,av (fun _=>⟨_,rfl,n,m,rfl,rfl,_,rfl,av (fun h2=>absurd h2 (by rw [decide_eq_true g.2];decide)) (fun _=>k)⟩) (fun h1=>absurd (decide_eq_true g.1) h1)⟩
  ·rw [if_neg g] at k
   by_cases g0:0≤n
   ·have g1:¬n<m:=fun z=>g ⟨g0,z⟩
    refine ⟨_,rfl,0,n,rfl,rfl,_,rfl,av (fun _=>⟨_,rfl,n,m,rfl,rfl,_,rfl,av (fun _=>⟨_,rfl,m,rfl,hm,_,rfl,n,rfl,hb,fun y hy ea hea=>cW T.ra (fun _ q=>q) k ea hea⟩) (fun h2=>absurd (by rw [decide_eq_false g1];rfl) h2)⟩) (fun h1=>absurd (decide_eq_true g0) h1)⟩
   ·refine ⟨_,rfl,0,n,rfl,rfl,_,rfl,av (fun h1=>absurd (of_decide_eq_true h1) g0) (fun _=>⟨_,rfl,om ⟨_,rfl,m,rfl,hm,_,rfl,n,rfl,hb,fun y hy ea hea=>cW T.ra (fun _ q=>q) k ea hea⟩⟩)⟩
def Num (x:Int):Prop:=-(10 ^ 60)≤x∧x≤10 ^ 60
instance {x:Int}:Decidable (Num x):=inferInstanceAs (Decidable (_∧_))
def js (D:Ad):Sp:=fun vs H Q E=>∃ x:Int,vs=[.int x]∧Sm x∧(if Num x then Q .non H else Bad D.cc H E)
abbrev xV:List Str:=["x"]
theorem uY:aA xV ["x"] (au jQ):=⟨rfl,rfl,rfl,by decide +kernel,rfl,by decide +kernel,by decide +kernel⟩
theorem uZ (F:Fun K "look_at_number" "look_at_number" jQ D.bN D.eJ) (T:Txt K mg D)
  (ah:Ok P w K mg base 1 D.ak D.aB ["self", "text"] (Bo K)):Ok P w K mg base 3 D.bN D.eJ ["x"] (js D):=by
 refine ⟨?_,F.binds (ps:=["x"]) fun _ _ _ _ _ _ us hl=>match us,hl with|[_],_=>rfl⟩
 refine F.okE uY (fun vs H Q E h=>?_) (fun cdv A' outer s' H vs Q E hr h=>?_)
 ·obtain ⟨x,rfl,_⟩:=h
  rfl
 ·obtain ⟨x,rfl,hb,k⟩:=h
  refine ⟨_,(ai (bB (aI Fy (fi LU rfl T.Nv PyProof.Rows.Boot.«abs» (ab (pv 0) ao)) (dD Wa aq aq) (aU _))
    (ai (fV rfl j7 (j8 T.kz ah.g (hr.mono (by decide)) rfl T.kx ah.b (Passes.x (aT fun _ _ _ q=>q)) (ab (jb (bC (kP (pv 0)) (bC hJ ja))) ao))))
    aP)),?_⟩
  have e60:((10:Int) ^ (60:Int).toNat)=10 ^ 60:=rfl
  by_cases g:Num x
  ·rw [if_pos g] at k
   refine ⟨_,rfl,x,rfl,10,60,rfl,rfl,⟨by decide,by decide,by decide⟩,_,_,rfl,rfl,_,rfl,av (fun h=>absurd (of_decide_eq_true h) ?_) (fun _=>k)⟩
   have:=g.1
   have:=g.2
   rw [e60]
   split<;>omega
  ·rw [if_neg g] at k
   refine ⟨_,rfl,x,rfl,10,60,rfl,rfl,⟨by decide,by decide,by decide⟩,_,_,rfl,rfl,_,rfl,av (fun _=>⟨_,rfl,x,rfl,hb,fun y hy ea hea=>cW T.mX (fun _ q=>q) k ea hea⟩) (fun h=>absurd (decide_eq_true ?_) h)⟩
   unfold Num at g
   rw [e60]
   split<;>omega
def pI (D:Ad):Sp:=fun vs H Q E=>∃ x:Int,vs=[.int x]∧Sm x∧(if Num x then ∀ t H',aG H H'→H' t=some (.tup [.str "number",.int x])→Q (.ref t) H' else Bad D.cc H E)
abbrev Bv:List Str:=["x"]
theorem Ax:aA Bv ["x"] (au lM):=⟨rfl,rfl,rfl,by decide +kernel,rfl,by decide +kernel,by decide +kernel⟩
theorem Ay (F:Fun K "number_value" "number_value" lM D.c5 D.ia) (T:Txt K mg D)
  (cV:Ok P w K mg base 3 D.bN D.eJ ["x"] (js D)):Ok P w K mg base 4 D.c5 D.ia ["x"] (pI D):=by
 refine ⟨?_,F.binds (ps:=["x"]) fun _ _ _ _ _ _ us hl=>match us,hl with|[_],_=>rfl⟩
 refine F.okE Ax (fun vs H Q E h=>?_) (fun cdv A' outer s' H vs Q E hr h=>?_)
 ·obtain ⟨x,rfl,_⟩:=h
  rfl
 ·obtain ⟨x,rfl,hb,k⟩:=h
  refine ⟨_,(aj (aM (br cV.g (hr.mono (by decide)) rfl T.nY T.ie cV.b .nil (Passes.x (aT fun _ _ _ q=>q)) (ab (pv 0) ao)))
   (ai (aX (fg (ab aK (ab (pv 0) ao)))))),?_⟩
  refine ⟨_,rfl,x,rfl,hb,?_⟩
  by_cases g:Num x
  ·rw [if_pos g] at k ⊢
   exact ⟨_,rfl,by show 2≤sizeLine;decide,fun t ht=>k t _ (aG.upd ht) ag⟩
  ·rw [if_neg g] at k ⊢
   exact k
def jx:Sp:=fun vs H Q E=>∃ x:Int,vs=[.int x]∧0≤x∧∀ t H',aG H H'→H' t=some (.tup [.str "thing",.int x])→Q (.ref t) H'
abbrev C0:List Str:=["t"]
theorem Bw:aA C0 ["t"] (au nB):=⟨rfl,rfl,rfl,by decide +kernel,rfl,by decide +kernel,by decide +kernel⟩
theorem Bx (F:Fun K "thing_value" "thing_value" nB D.cE D.fT) (T:Txt K mg D)
  (ah:Ok P w K mg base 1 D.ak D.aB ["self", "text"] (Bo K)):Ok P w K mg base 3 D.cE D.fT ["t"] (jx):=by
 refine ⟨?_,F.binds (ps:=["t"]) fun _ _ _ _ _ _ us hl=>match us,hl with|[_],_=>rfl⟩
 refine F.okE Bw (fun vs H Q E h=>?_) (fun cdv A' outer s' H vs Q E hr h=>?_)
 ·obtain ⟨x,rfl,_⟩:=h
  rfl
 ·obtain ⟨x,rfl,h0,k⟩:=h
  refine ⟨_,(aj (bB (aI Cb (pv 0) aq (aU _))
    (ai (fV rfl j7 (j8 T.kz ah.g (hr.mono (by decide)) rfl T.kx ah.b (Passes.x (aT fun _ _ _ q=>q)) (ab (jb (bC (kP (pv 0)) (bC hJ ja))) ao))))
    aP)
   (ai (aX (fg (ab aK (ab (pv 0) ao)))))),?_⟩
  exact ⟨_,rfl,x,0,rfl,rfl,_,rfl,av (fun h=>absurd (of_decide_eq_true h) (by omega)) (fun _=>⟨_,rfl,by show 2≤sizeLine;decide,fun t ht=>k t _ (aG.upd ht) ag⟩)⟩
def mG:Sp:=fun vs H Q E=>∃ y l:Int,vs=[.int y,.int l]∧(y=0∨(7≤y∧y≤64))∧7≤l∧l≤400∧Q .non H
abbrev xW:List Str:=["young", "limit"]
theorem u0:aA xW ["young", "limit"] (au jR):=⟨rfl,rfl,rfl,by decide +kernel,rfl,by decide +kernel,by decide +kernel⟩
theorem u1 (F:Fun K "look_at_limits" "look_at_limits" jR D.cp D.f7) (T:Txt K mg D)
  (ah:Ok P w K mg base 1 D.ak D.aB ["self", "text"] (Bo K)):Ok P w K mg base 3 D.cp D.f7 ["young", "limit"] (mG):=by
 refine ⟨?_,F.binds (ps:=["young", "limit"]) fun _ _ _ _ _ _ us hl=>match us,hl with|[_,_],_=>rfl⟩
 refine F.okE u0 (fun vs H Q E h=>?_) (fun cdv A' outer s' H vs Q E hr h=>?_)
 ·obtain ⟨y,l,rfl,_⟩:=h
  rfl
 ·obtain ⟨y,l,rfl,hy,l0,l1,k⟩:=h
  refine ⟨_,(aj (bB (PW.pt (pw_and (aI Ag (pv 0) aq (aU _)) (pw_and1 (lV (oH Ah Ah (jP (v:=.int 7) rfl T.k8 ⟨_,rfl⟩) (pv 0) (jP (v:=.int 64) rfl T.pk ⟨_,rfl⟩))))))
    (ai (fV rfl j7 (j8 T.kz ah.g (hr.mono (by decide)) rfl T.kx ah.b (Passes.x (aT fun _ _ _ q=>q)) (ab (jb (bC (kP (pv 0)) (bC hJ ja))) ao))))
    aP)
   (ai (bB (lV (oH Ah Ah (jP (v:=.int 7) rfl T.k8 ⟨_,rfl⟩) (pv 1) (jP (v:=.int 400) rfl T.pq ⟨_,rfl⟩)))
    (ai (fV rfl j7 (j8 T.kz ah.g (hr.mono (by decide)) rfl T.kx ah.b (Passes.x (aT fun _ _ _ q=>q)) (ab (jb (bC (kP (pv 1)) (bC hJ ja))) ao))))
    aP))),?_⟩
  refine je fun N hN=>?_
  have rest:N [some (.int y),some (.int l)] H:=by
   refine hN _ _ ?_
   exact ⟨_,rfl,7,l,rfl,rfl,_,rfl,av (fun _=>⟨l,400,rfl,rfl,_,rfl,av (fun h2=>absurd h2 (by rw [decide_eq_true l1];decide)) (fun _=>k)⟩) (fun h1=>absurd (decide_eq_true l0) h1)⟩
  rcases hy with rfl|⟨y0,y1⟩
  ·exact ⟨_,rfl,rfl,_,rfl,av (fun h=>absurd h (by decide)) (fun _=>fY rest)⟩
  ·refine ⟨_,rfl,rfl,_,rfl,av (fun _=>?_) (fun h=>absurd (show (!decide (V.int y=V.int 0))=true from ?_) h)⟩
   ·exact ⟨_,rfl,7,y,rfl,rfl,_,rfl,av (fun _=>⟨y,64,rfl,rfl,_,rfl,av (fun h2=>absurd h2 (by rw [decide_eq_true y1];decide)) (fun _=>rest)⟩) (fun h1=>absurd (decide_eq_true y0) h1)⟩
   ·rw [decide_eq_false (by intro z;injection z with z;omega)];rfl
def But (m:Addr) (H H':Hp):Prop:=∀ b u,b≠m→H b=some u→H' b=some u
theorem But.upd {m a:Addr} {H:Hp} {o:HO} (h:H a=none):But m H (L2.upd H a o):=fun b u _ q=>by rw [ae (ar q h)];exact q
theorem But.self {m:Addr} {H:Hp} {o:HO}:But m H (L2.upd H m o):=fun b u n q=>by rw [ae n];exact q
theorem But.trans {m:Addr} {H H1 H2:Hp} (a:But m H H1) (b:But m H1 H2):But m H H2:=fun c u n q=>b c u n (a c u n q)
theorem aG.none {H H':Hp} (s:aG H H') {b:Addr} (h:H' b=none):H b=none:=by
 cases q:H b with
 | none=>rfl
 | some u=>rw [s _ _ q] at h;cases h
theorem Zx:(List.replicate (8:Int).toNat [V.non]).flatten=List.replicate 8 .non:=rfl
theorem lookup_some {α:Type} {bs:List (Int×α)} {t:Int} {v:α} (h:bs.lookup t=some v):(t,v)∈bs:=by
 induction bs with
 | nil=>cases h
 | cons p r ih =>
  obtain ⟨a,b⟩:=p
  rw [List.lookup_cons] at h
  by_cases e:t == a
  ·rw [e] at h
   rw [beq_iff_eq] at e
   subst e
   cases h
   exact List.mem_cons_self
  ·rw [Bool.not_eq_true] at e
   rw [e] at h
   exact List.mem_cons_of_mem _ (ih h)
theorem lookup_none {α:Type} {bs:List (Int×α)} {t:Int} (h:bs.lookup t=none):∀ p∈bs,p.1≠t:=by
 induction bs with
 | nil=>intro p hp;cases hp
 | cons p r ih =>
  obtain ⟨a,b⟩:=p
  rw [List.lookup_cons] at h
  by_cases e:t == a
  ·rw [e] at h;cases h
  ·rw [Bool.not_eq_true] at e
   rw [e] at h
   intro q hq
   rcases List.mem_cons.mp hq with rfl|hq
   ·exact fun z=>by rw [beq_eq_false_iff_ne] at e;exact e z.symm
   ·exact ih h q hq
theorem Cp {α:Type} {f:Int×α→Key×V} {bs:List (Int×α)} {t:Int} (hf:∀ p,(f p).1=Sum.inl p.1):j6 (bs.map f) (Sum.inl t)=(bs.lookup t).map fun v=>(f (t,v)).2:=by
 induction bs with
 | nil=>rfl
 | cons p r ih =>
  obtain ⟨a,b⟩:=p
  rw [List.map_cons,List.lookup_cons]
  by_cases e:t=a
  ·subst e
   rw [mx (hf (t,b)),beq_self_eq_true]
   rfl
  ·rw [mz (by rw [hf (a,b)];exact fun z=>e (Sum.inl.inj z).symm),beq_eq_false_iff_ne.mpr e,ih]
theorem W5 {bs:List (Int×Int)} {t:Int}:j6 (bs.map bkv) (Sum.inl t)=(bs.lookup t).map V.int:=Cp fun _=>rfl
def DX (bs:List (Int×Int)) (t x:Int):List (Int×Int):=if (bs.lookup t).isSome=true then bs.map (fun p=>if p.1=t then (t,x) else p) else bs++[(t,x)]
theorem Hr {bs:List (Int×Int)} {t x:Int}:(DX bs t x).map bkv=putK (bs.map bkv) (Sum.inl t) (.int x):=by
 unfold DX putK
 rw [xt,W5,Option.isSome_map]
 by_cases e:(bs.lookup t).isSome=true
 ·rw [if_pos e,if_pos e,List.map_map,List.map_map]
  refine List.map_congr_left fun p hp=>?_
  show bkv (if p.1=t then (t,x) else p)=if (bkv p).1=Sum.inl t then ((bkv p).1,V.int x) else bkv p
  by_cases c:p.1=t
  ·rw [if_pos c,if_pos (by show Sum.inl p.1=Sum.inl t;rw [c])];unfold bkv;rw [c]
  ·rw [if_neg c,if_neg (show ¬(bkv p).1=Sum.inl t from fun z=>c (Sum.inl.inj (show (Sum.inl p.1:Key)=Sum.inl t from z)))]
 ·rw [if_neg e,if_neg e,List.map_append]
  rfl
structure Nt (D:Ad) (H:Hp) (nt ntx nl:Addr) (xs:List V):Prop where
 i:H nt=some (.ins D.aD ntx [("things_named",.ref nl)])
 l:H nl=some (.lst xs)
 n:xs.length=8
structure Wt (D:Ad) (H:Hp) (wt wtx wb wl:Addr) (bs:List (Int×Int)) (zs:List Int):Prop where
 i:H wt=some (.ins D.aL wtx [("words_borne",.ref wb),("words_said",.ref wl)])
 b:H wb=some (.dK (bs.map bkv))
 l:H wl=some (.lst (zs.map V.int))
def sC (D:Ad):Sp:=fun vs H Q _=>∃ m dx,vs=[.ref m]∧H m=some (.ins D.aW dx [])∧∀ c H',But m H H'→H c=none→H' c=some (.lst (List.replicate 8 .non))→H' m=some (.ins D.aW dx [("words_held",.ref c)])→Q .non H'
abbrev xX:List Str:=["self"]
theorem u3:aA xX ["self"] (au jS):=⟨rfl,rfl,rfl,by decide +kernel,rfl,by decide +kernel,by decide +kernel⟩
theorem u4 (F:Fun K "__init__" "Hands.__init__" jS D.cN D.f9) (T:Txt K mg D):Ok P w K mg base 1 D.cN D.f9 ["self"] (sC D):=by
 refine ⟨?_,F.binds (ps:=["self"]) fun _ _ _ _ _ _ us hl=>match us,hl with|[_],_=>rfl⟩
 refine F.okE u3 (fun vs H Q E h=>?_) (fun cdv A' outer s' H vs Q E hr h=>?_)
 ·obtain ⟨m,dx,rfl,_⟩:=h
  rfl
 ·obtain ⟨m,dx,rfl,hm,k⟩:=h
  refine ⟨_,(ai (gF (pv 0) (dD CS (jM (ab gS ao)) (jP (v:=.int 8) rfl T.Co ⟨_,rfl⟩)) rfl)),?_⟩
  refine ⟨by show 1≤sizeLine;decide,fun p hp=>⟨p,8,_,rfl,rfl,ag,by decide,by decide,by show 1*8≤sizeLine;decide,fun q hq=>?_⟩⟩
  have np:m≠p:=ar hm hp
  have hm1:upd H p (.lst [.non]) m=some (.ins D.aW dx []):=by rw [ae np];exact hm
  have nq:m≠q:=ar hm1 hq
  have qp:q≠p:=fun e=>by rw [e,ag] at hq;cases hq
  have hq0:H q=none:=by rw [ae qp] at hq;exact hq
  refine ⟨_,rfl,m,D.aW,dx,[],rfl,(by rw [ae nq];exact hm1),T.aV,T.b5,by decide,?_⟩
  refine k q _ (((But.upd hp).trans (But.upd hq)).trans But.self) hq0 ?_ ag
  rw [ae (Ne.symm nq),ag,Zx]
def mI (D:Ad):Sp:=fun vs H Q _=>∃ m dx,vs=[.ref m]∧H m=some (.ins D.aD dx [])∧∀ c H',But m H H'→H c=none→H' c=some (.lst (List.replicate 8 .non))→H' m=some (.ins D.aD dx [("things_named",.ref c)])→Q .non H'
abbrev qq:List Str:=["self"]
theorem pO:aA qq ["self"] (au hX):=⟨rfl,rfl,rfl,by decide +kernel,rfl,by decide +kernel,by decide +kernel⟩
theorem pP (F:Fun K "__init__" "NameTable.__init__" hX D.bH D.dG) (T:Txt K mg D):Ok P w K mg base 1 D.bH D.dG ["self"] (mI D):=by
 refine ⟨?_,F.binds (ps:=["self"]) fun _ _ _ _ _ _ us hl=>match us,hl with|[_],_=>rfl⟩
 refine F.okE pO (fun vs H Q E h=>?_) (fun cdv A' outer s' H vs Q E hr h=>?_)
 ·obtain ⟨m,dx,rfl,_⟩:=h
  rfl
 ·obtain ⟨m,dx,rfl,hm,k⟩:=h
  refine ⟨_,(ai (gF (pv 0) (dD CS (jM (ab gS ao)) (jP (v:=.int 8) rfl T.k7 ⟨_,rfl⟩)) rfl)),?_⟩
  refine ⟨by show 1≤sizeLine;decide,fun p hp=>⟨p,8,_,rfl,rfl,ag,by decide,by decide,by show 1*8≤sizeLine;decide,fun q hq=>?_⟩⟩
  have np:m≠p:=ar hm hp
  have hm1:upd H p (.lst [.non]) m=some (.ins D.aD dx []):=by rw [ae np];exact hm
  have nq:m≠q:=ar hm1 hq
  have qp:q≠p:=fun e=>by rw [e,ag] at hq;cases hq
  have hq0:H q=none:=by rw [ae qp] at hq;exact hq
  refine ⟨_,rfl,m,D.aD,dx,[],rfl,(by rw [ae nq];exact hm1),T.eL,T.cB,by decide,?_⟩
  refine k q _ (((But.upd hp).trans (But.upd hq)).trans But.self) hq0 ?_ ag
  rw [ae (Ne.symm nq),ag,Zx]
def l9 (D:Ad):Sp:=fun vs H Q E=>∃ hd hdx hl xs ws,∃ h:Int,vs=[.ref hd,.int h]∧Hn D H hd hdx hl xs ws∧Sm h∧(match wat ws h with|some wd=>∀ v,xs[h.toNat]?=some v→WV H v wd→Q v H|none=>Bad D.bg H E)
abbrev Az:List Str:=["self", "h"]
theorem xY:aA Az ["self", "h"] (au kC):=⟨rfl,rfl,rfl,by decide +kernel,rfl,by decide +kernel,by decide +kernel⟩
theorem xZ (F:Fun K "word_in" "Hands.word_in" kC D.bL D.dj) (T:Txt K mg D)
  (az:Ok P w K mg base 3 D.bc D.b7 ["h"] (dt D)):Ok P w K mg base 4 D.bL D.dj ["self", "h"] (l9 D):=by
 refine ⟨?_,F.binds (ps:=["self", "h"]) fun _ _ _ _ _ _ us hl=>match us,hl with|[_,_],_=>rfl⟩
 refine F.okE xY (fun vs H Q E h=>?_) (fun cdv A' outer s' H vs Q E hr h=>?_)
 ·obtain ⟨hd,hdx,hl,xs,ws,h,rfl,_⟩:=h
  rfl
 ·obtain ⟨hd,hdx,hl,xs,ws,h,rfl,N,hb,k⟩:=h
  refine ⟨_,(aj (aM (br az.g (hr.mono (by decide)) rfl T.fe T.da az.b .nil (Passes.x (aT fun _ _ _ q=>q)) (ab (pv 1) ao)))
   (ai (aX (aJ cD (aN (pv 0) rfl) (pv 1) (fun _ _=>rfl))))),?_⟩
  refine ⟨_,rfl,h,rfl,hb,?_⟩
  cases e:wat ws h with
  | none =>
   rw [if_neg (Mf N.n e)]
   rw [e] at k
   exact k
  | some wd =>
   obtain ⟨h0,h1,_⟩:=jO e
   obtain ⟨v,hv,wv⟩:=N.at_ e
   rw [if_pos ⟨h0,h1⟩]
   rw [e] at k
   exact ⟨_,rfl,hd,D.aW,hdx,_,.ref hl,rfl,N.i,T.aV,T.b5,rfl,_,rfl,hl,xs,h,v,rfl,rfl,SqL.of N.l,qm h0 hv,k v hv wv⟩
def sD (D:Ad):Sp:=fun vs H Q E=>∃ hd hdx hl xs ws v,∃ h:Int,vs=[.ref hd,.int h,v]∧Hn D H hd hdx hl xs ws∧Sm h∧(if 0≤h∧h<8 then Q .non (upd H hl (.lst (xs.set h.toNat v))) else Bad D.bg H E)
abbrev Gj:List Str:=["self", "h", "word"]
theorem Em:aA Gj ["self", "h", "word"] (au qR):=⟨rfl,rfl,rfl,by decide +kernel,rfl,by decide +kernel,by decide +kernel⟩
theorem En (F:Fun K "put" "Hands.put" qR D.dS D.gG) (T:Txt K mg D)
  (az:Ok P w K mg base 3 D.bc D.b7 ["h"] (dt D)):Ok P w K mg base 4 D.dS D.gG ["self", "h", "word"] (sD D):=by
 refine ⟨?_,F.binds (ps:=["self", "h", "word"]) fun _ _ _ _ _ _ us hl=>match us,hl with|[_,_,_],_=>rfl⟩
 refine F.okE Em (fun vs H Q E h=>?_) (fun cdv A' outer s' H vs Q E hr h=>?_)
 ·obtain ⟨hd,hdx,hl,xs,ws,v,h,rfl,_⟩:=h
  rfl
 ·obtain ⟨hd,hdx,hl,xs,ws,v,h,rfl,N,hb,k⟩:=h
  refine ⟨_,(aj (aM (br az.g (hr.mono (by decide)) rfl T.fe T.da az.b .nil (Passes.x (aT fun _ _ _ q=>q)) (ab (pv 1) ao)))
   (ai (nA (pv 2) (ny (aN (pv 0) rfl) (pv 1) set_list)))),?_⟩
  refine ⟨_,rfl,h,rfl,hb,?_⟩
  by_cases g:0≤h∧h<8
  ·rw [if_pos g] at k ⊢
   exact ⟨_,rfl,_,rfl,hd,D.aW,hdx,_,.ref hl,rfl,N.i,T.aV,T.b5,rfl,_,rfl,hl,xs,h,h.toNat,rfl,rfl,N.l,N.ix g,k⟩
  ·rw [if_neg g] at k ⊢
   exact k
def Hs (D:Ad):Sp:=fun vs H Q E=>∃ hd hdx hl xs ws,∃ h g:Int,vs=[.ref hd,.int h,.int g]∧Hn D H hd hdx hl xs ws∧Sm h∧Sm g∧(if 0≤h∧h<8 then (match wat ws g with|some wd=>∀ v,WV H v wd→Q .non (upd H hl (.lst (xs.set h.toNat v)))|none=>Bad D.bg H E) else Bad D.bg H E)
abbrev Eo:List Str:=["self", "h", "g"]
theorem C1:aA Eo ["self", "h", "g"] (au oM):=⟨rfl,rfl,rfl,by decide +kernel,rfl,by decide +kernel,by decide +kernel⟩
theorem C2 (F:Fun K "copy" "Hands.copy" oM D.fL D.jB) (T:Txt K mg D)
  (az:Ok P w K mg base 3 D.bc D.b7 ["h"] (dt D))
  (aO:Ok P w K mg base 4 D.bL D.dj ["self", "h"] (l9 D)):Ok P w K mg base 5 D.fL D.jB ["self", "h", "g"] (Hs D):=by
 refine ⟨?_,F.binds (ps:=["self", "h", "g"]) fun _ _ _ _ _ _ us hl=>match us,hl with|[_,_,_],_=>rfl⟩
 refine F.okE C1 (fun vs H Q E h=>?_) (fun cdv A' outer s' H vs Q E hr h=>?_)
 ·obtain ⟨hd,hdx,hl,xs,ws,h,g,rfl,_⟩:=h
  rfl
 ·obtain ⟨hd,hdx,hl,xs,ws,h,g,rfl,N,hb,hg,k⟩:=h
  refine ⟨_,(aj (aM (br az.g (hr.mono (by decide)) rfl T.fe T.da az.b .nil (Passes.x (aT fun _ _ _ q=>q)) (ab (pv 1) ao)))
   (ai (nA (aQ (pv 0) T.aV T.gn aO.g (hr.mono (by decide)) aO.b .nil (Passes.x (aT fun _ _ _ q=>q)) (ab (pv 2) ao)) (ny (aN (pv 0) rfl) (pv 1) set_list)))),?_⟩
  refine ⟨_,rfl,h,rfl,hb,?_⟩
  by_cases c:0≤h∧h<8
  ·rw [if_pos c] at k ⊢
   refine ⟨_,rfl,hd,hdx,_,rfl,N.i,rfl,_,rfl,hd,hdx,hl,xs,ws,g,rfl,N,hg,?_⟩
   cases e:wat ws g with
   | none =>
    rw [e] at k
    exact k
   | some wd =>
    rw [e] at k
    exact fun v hv wv=>⟨_,rfl,hd,D.aW,hdx,_,.ref hl,rfl,N.i,T.aV,T.b5,rfl,_,rfl,hl,xs,h,h.toNat,rfl,rfl,N.l,N.ix c,k v wv⟩
  ·rw [if_neg c] at k ⊢
   exact k
def Cq (D:Ad):Sp:=fun vs H Q E=>∃ hd hdx hl xs ws,∃ h x:Int,vs=[.ref hd,.int h,.int x]∧Hn D H hd hdx hl xs ws∧Sm h∧Sm x∧(if 0≤h∧h<8 then (if Num x then ∀ t H',aG H H'→H' t=some (.tup [.str "number",.int x])→Q .non (upd H' hl (.lst (xs.set h.toNat (.ref t)))) else Bad D.cc H E) else Bad D.bg H E)
abbrev By:List Str:=["self", "h", "x"]
theorem AA:aA By ["self", "h", "x"] (au lP):=⟨rfl,rfl,rfl,by decide +kernel,rfl,by decide +kernel,by decide +kernel⟩
theorem AB (F:Fun K "number" "Hands.number" lP D.dQ D.ib) (T:Txt K mg D)
  (az:Ok P w K mg base 3 D.bc D.b7 ["h"] (dt D))
  (jy:Ok P w K mg base 4 D.c5 D.ia ["x"] (pI D)):Ok P w K mg base 5 D.dQ D.ib ["self", "h", "x"] (Cq D):=by
 refine ⟨?_,F.binds (ps:=["self", "h", "x"]) fun _ _ _ _ _ _ us hl=>match us,hl with|[_,_,_],_=>rfl⟩
 refine F.okE AA (fun vs H Q E h=>?_) (fun cdv A' outer s' H vs Q E hr h=>?_)
 ·obtain ⟨hd,hdx,hl,xs,ws,h,x,rfl,_⟩:=h
  rfl
 ·obtain ⟨hd,hdx,hl,xs,ws,h,x,rfl,N,hb,hx,k⟩:=h
  refine ⟨_,(aj (aM (br az.g (hr.mono (by decide)) rfl T.fe T.da az.b .nil (Passes.x (aT fun _ _ _ q=>q)) (ab (pv 1) ao)))
   (ai (nA (br jy.g (hr.mono (by decide)) rfl T.Br T.lR jy.b .nil (Passes.x (aT fun _ _ _ q=>q)) (ab (pv 2) ao)) (ny (aN (pv 0) rfl) (pv 1) set_list)))),?_⟩
  refine ⟨_,rfl,h,rfl,hb,?_⟩
  by_cases c:0≤h∧h<8
  ·rw [if_pos c] at k ⊢
   refine ⟨_,rfl,x,rfl,hx,?_⟩
   by_cases g:Num x
   ·rw [if_pos g] at k ⊢
    intro t H' sH ht
    have N':=N.same sH
    exact ⟨_,rfl,hd,D.aW,hdx,_,.ref hl,rfl,N'.i,T.aV,T.b5,rfl,_,rfl,hl,xs,h,h.toNat,rfl,rfl,N'.l,N'.ix c,k t H' sH ht⟩
   ·rw [if_neg g] at k ⊢
    exact k
  ·rw [if_neg c] at k ⊢
   exact k
def xy (D:Ad):Sp:=fun vs H Q E=>∃ hd hdx hl xs ws,∃ h:Int,vs=[.ref hd,.int h]∧Hn D H hd hdx hl xs ws∧Sm h∧(match wat ws h with|some wd=>∀ H',aG H H'→Q (.str wd.kind) H'|none=>Bad D.bg H E)
abbrev Ep:List Str:=["self", "h", "kind"]
theorem sE:aA Ep ["self", "h"] (au oN):=⟨rfl,rfl,rfl,by decide +kernel,rfl,by decide +kernel,by decide +kernel⟩
theorem C3 (F:Fun K "kind" "Hands.kind" oN D.dO D.gJ) (T:Txt K mg D)
  (jf:Ok P w K mg base 1 D.hU D.lY ["value"] (Jv))
  (aO:Ok P w K mg base 4 D.bL D.dj ["self", "h"] (l9 D)):Ok P w K mg base 5 D.dO D.gJ ["self", "h"] (xy D):=by
 refine ⟨?_,F.binds (ps:=["self", "h"]) fun _ _ _ _ _ _ us hl=>match us,hl with|[_,_],_=>rfl⟩
 refine F.okE sE (fun vs H Q E h=>?_) (fun cdv A' outer s' H vs Q E hr h=>?_)
 ·obtain ⟨hd,hdx,hl,xs,ws,h,rfl,_⟩:=h
  rfl
 ·obtain ⟨hd,hdx,hl,xs,ws,h,rfl,N,hb,k⟩:=h
  refine ⟨_,(aj (bp (i:=2) sE.nd rfl (Or.inl rfl) (br jf.g (hr.mono (by decide)) rfl T.DW T.se jf.b .nil (Passes.x (aT fun _ _ _ q=>q)) (ab (aQ (pv 0) T.aV T.gn aO.g (hr.mono (by decide)) aO.b .nil (Passes.x (aT fun _ _ _ q=>q)) (ab (pv 1) ao)) ao)))
   (ai (aX (xq (aI zK (pv 2) (fg (ab aK (ab aK ao))) (by with_unfolding_all rfl)) (pv 2) aK)))),?_⟩
  refine ⟨_,rfl,hd,hdx,_,rfl,N.i,rfl,_,rfl,hd,hdx,hl,xs,ws,h,rfl,N,hb,?_⟩
  cases e:wat ws h with
  | none =>
   rw [e] at k
   exact k
  | some wd =>
   rw [e] at k
   intro v hv wv
   refine ⟨v,wd,rfl,wv,?_⟩
   cases wd with
   | no=>exact ⟨_,rfl,by show 2≤sizeLine;decide,fun t ht=>⟨t,_,rfl,.inr (SqT.of ag),rfl,rfl,_,rfl,av (fun _=>⟨_,rfl,k _ (aG.upd ht)⟩) (fun h=>absurd (by kernel_rfl) h)⟩⟩
   | num n=>exact ⟨_,rfl,by show 2≤sizeLine;decide,fun t ht=>⟨t,_,rfl,.inr (SqT.of ag),rfl,rfl,_,rfl,av (fun _=>⟨_,rfl,k _ (aG.upd ht)⟩) (fun h=>absurd (by kernel_rfl) h)⟩⟩
   | th n=>exact ⟨_,rfl,by show 2≤sizeLine;decide,fun t ht=>⟨t,_,rfl,.inr (SqT.of ag),rfl,rfl,_,rfl,av (fun h=>absurd h (Bool.eq_false_iff.mp (by kernel_rfl))) (fun _=>k _ (aG.upd ht))⟩⟩
def Ht (D:Ad):Sp:=fun vs H Q E=>∃ hd hdx hl xs ws,∃ h:Int,vs=[.ref hd,.int h]∧Hn D H hd hdx hl xs ws∧Sm h∧(match wat ws h with|some (.num x)=>∀ H',aG H H'→Q (.int x) H'|_=>Bad D.bg H E)
abbrev C4:List Str:=["self", "h"]
theorem Bz:aA C4 ["self", "h"] (au nC):=⟨rfl,rfl,rfl,by decide +kernel,rfl,by decide +kernel,by decide +kernel⟩
theorem BA (F:Fun K "value" "Hands.value" nC D.eK D.iP) (T:Txt K mg D)
  (ah:Ok P w K mg base 1 D.ak D.aB ["self", "text"] (Bo K))
  (cL:Ok P w K mg base 5 D.dO D.gJ ["self", "h"] (xy D)):Ok P w K mg base 6 D.eK D.iP ["self", "h"] (Ht D):=by
 refine ⟨?_,F.binds (ps:=["self", "h"]) fun _ _ _ _ _ _ us hl=>match us,hl with|[_,_],_=>rfl⟩
 refine F.okE Bz (fun vs H Q E h=>?_) (fun cdv A' outer s' H vs Q E hr h=>?_)
 ·obtain ⟨hd,hdx,hl,xs,ws,h,rfl,_⟩:=h
  rfl
 ·obtain ⟨hd,hdx,hl,xs,ws,h,rfl,N,hb,k⟩:=h
  refine ⟨_,(aj (bB (aI Ag (aQ (pv 0) T.aV T.nG cL.g (hr.mono (by decide)) cL.b .nil (Passes.x (aT fun _ _ _ q=>q)) (ab (pv 1) ao)) aK (aU _))
    (ai (fV rfl j7 (j8 T.uB ah.g (hr.mono (by decide)) rfl T.uA ah.b (Passes.x (aT fun _ _ _ q=>q)) (ab (jb (bC hJ (bC (kP (pv 1)) (bC hJ ja)))) ao))))
    aP)
   (ai (aX (aJ aF (aJ cD (aN (pv 0) rfl) (pv 1) (fun _ _=>rfl)) aq (fun _ _=>rfl))))),?_⟩
  refine ⟨_,rfl,hd,hdx,_,rfl,N.i,rfl,_,rfl,hd,hdx,hl,xs,ws,h,rfl,N,hb,?_⟩
  cases e:wat ws h with
  | none =>
   rw [e] at k
   exact k
  | some wd =>
   rw [e] at k
   cases wd with
   | no=>exact fun H1 s1=>⟨rfl,_,rfl,av (fun _=>⟨_,rfl,h,rfl,hb,fun y hy ea hea=>cW T.i9 (fun _ q=>aG.none s1 q) (Bad.same k s1) ea hea⟩) (fun h=>absurd (by kernel_rfl) h)⟩
   | num n =>
    intro H1 s1
    have N1:=N.same s1
    obtain ⟨v,hv,wv⟩:=N1.at_ e
    obtain ⟨h0,h1,_⟩:=jO e
    obtain ⟨t,rfl,ht⟩:=wv
    exact ⟨rfl,_,rfl,av (fun h=>absurd h (Bool.eq_false_iff.mp (by kernel_rfl))) (fun _=>⟨_,rfl,hd,D.aW,hdx,_,.ref hl,rfl,N1.i,T.aV,T.b5,rfl,_,rfl,hl,xs,h,.ref t,rfl,rfl,SqL.of N1.l,qm h0 hv,t,_,1,.int n,rfl,rfl,SqT.of ht,rfl,k H1 s1⟩)⟩
   | th n =>
    exact fun H1 s1=>⟨rfl,_,rfl,av (fun _=>⟨_,rfl,h,rfl,hb,fun y hy ea hea=>cW T.i9 (fun _ q=>aG.none s1 q) (Bad.same k s1) ea hea⟩) (fun h=>absurd (by kernel_rfl) h)⟩
def iI (D:Ad):Sp:=fun vs H Q E=>∃ hd hdx hl xs ws,∃ h:Int,vs=[.ref hd,.int h]∧Hn D H hd hdx hl xs ws∧Sm h∧(match wat ws h with|some (.th x)=>∀ H',aG H H'→Q (.int x) H'|_=>Bad D.bg H E)
abbrev u5:List Str:=["self", "h"]
theorem sY:aA u5 ["self", "h"] (au ji):=⟨rfl,rfl,rfl,by decide +kernel,rfl,by decide +kernel,by decide +kernel⟩
theorem sZ (F:Fun K "thing_due" "Hands.thing_due" ji D.aZ D.bT) (T:Txt K mg D)
  (ah:Ok P w K mg base 1 D.ak D.aB ["self", "text"] (Bo K))
  (cL:Ok P w K mg base 5 D.dO D.gJ ["self", "h"] (xy D)):Ok P w K mg base 6 D.aZ D.bT ["self", "h"] (iI D):=by
 refine ⟨?_,F.binds (ps:=["self", "h"]) fun _ _ _ _ _ _ us hl=>match us,hl with|[_,_],_=>rfl⟩
 refine F.okE sY (fun vs H Q E h=>?_) (fun cdv A' outer s' H vs Q E hr h=>?_)
 ·obtain ⟨hd,hdx,hl,xs,ws,h,rfl,_⟩:=h
  rfl
 ·obtain ⟨hd,hdx,hl,xs,ws,h,rfl,N,hb,k⟩:=h
  refine ⟨_,(aj (bB (aI Ag (aQ (pv 0) T.aV T.nG cL.g (hr.mono (by decide)) cL.b .nil (Passes.x (aT fun _ _ _ q=>q)) (ab (pv 1) ao)) aK (aU _))
    (ai (fV rfl j7 (j8 T.uB ah.g (hr.mono (by decide)) rfl T.uA ah.b (Passes.x (aT fun _ _ _ q=>q)) (ab (jb (bC hJ (bC (kP (pv 1)) (bC hJ ja)))) ao))))
    aP)
   (ai (aX (aJ aF (aJ cD (aN (pv 0) rfl) (pv 1) (fun _ _=>rfl)) aq (fun _ _=>rfl))))),?_⟩
  refine ⟨_,rfl,hd,hdx,_,rfl,N.i,rfl,_,rfl,hd,hdx,hl,xs,ws,h,rfl,N,hb,?_⟩
  cases e:wat ws h with
  | none =>
   rw [e] at k
   exact k
  | some wd =>
   rw [e] at k
   cases wd with
   | no=>exact fun H1 s1=>⟨rfl,_,rfl,av (fun _=>⟨_,rfl,h,rfl,hb,fun y hy ea hea=>cW T.i9 (fun _ q=>aG.none s1 q) (Bad.same k s1) ea hea⟩) (fun h=>absurd (by kernel_rfl) h)⟩
   | num n =>
    exact fun H1 s1=>⟨rfl,_,rfl,av (fun _=>⟨_,rfl,h,rfl,hb,fun y hy ea hea=>cW T.i9 (fun _ q=>aG.none s1 q) (Bad.same k s1) ea hea⟩) (fun h=>absurd (by kernel_rfl) h)⟩
   | th n =>
    intro H1 s1
    have N1:=N.same s1
    obtain ⟨v,hv,wv⟩:=N1.at_ e
    obtain ⟨h0,h1,_⟩:=jO e
    obtain ⟨t,rfl,ht⟩:=wv
    exact ⟨rfl,_,rfl,av (fun h=>absurd h (Bool.eq_false_iff.mp (by kernel_rfl))) (fun _=>⟨_,rfl,hd,D.aW,hdx,_,.ref hl,rfl,N1.i,T.aV,T.b5,rfl,_,rfl,hl,xs,h,.ref t,rfl,rfl,SqL.of N1.l,qm h0 hv,t,_,1,.int n,rfl,rfl,SqT.of ht,rfl,k H1 s1⟩)⟩
def Hu (D:Ad):Sp:=fun vs H Q E=>∃ hd hdx hl xs ws,∃ h g:Int,vs=[.ref hd,.int h,.int g]∧Hn D H hd hdx hl xs ws∧Sm h∧Sm g∧(match wat ws h,wat ws g with|some a,some b=>Q (.bl (decide (a=b))) H|_,_=>Bad D.bg H E)
abbrev Es:List Str:=["self", "h", "g"]
theorem C5:aA Es ["self", "h", "g"] (au oO):=⟨rfl,rfl,rfl,by decide +kernel,rfl,by decide +kernel,by decide +kernel⟩
theorem C6 (F:Fun K "same" "Hands.same" oO D.fM D.jC) (T:Txt K mg D)
  (aO:Ok P w K mg base 4 D.bL D.dj ["self", "h"] (l9 D)):Ok P w K mg base 5 D.fM D.jC ["self", "h", "g"] (Hu D):=by
 refine ⟨?_,F.binds (ps:=["self", "h", "g"]) fun _ _ _ _ _ _ us hl=>match us,hl with|[_,_,_],_=>rfl⟩
 refine F.okE C5 (fun vs H Q E h=>?_) (fun cdv A' outer s' H vs Q E hr h=>?_)
 ·obtain ⟨hd,hdx,hl,xs,ws,h,g,rfl,_⟩:=h
  rfl
 ·obtain ⟨hd,hdx,hl,xs,ws,h,g,rfl,N,hb,hg,k⟩:=h
  refine ⟨_,(ai (aX (xG (ML (n:=1) (kT hr)) (aQ (pv 0) T.aV T.gn aO.g (hr.mono (by decide)) aO.b .nil (Passes.x (aT fun _ _ _ q=>q)) (ab (pv 1) ao)) (aQ (pv 0) T.aV T.gn aO.g (hr.mono (by decide)) aO.b .nil (Passes.x (aT fun _ _ _ q=>q)) (ab (pv 2) ao)) (aU _)))),?_⟩
  refine ⟨_,rfl,hd,hdx,_,rfl,N.i,rfl,_,rfl,hd,hdx,hl,xs,ws,h,rfl,N,hb,?_⟩
  cases e:wat ws h with
  | none =>
   rw [e] at k
   exact k
  | some wd =>
   rw [e] at k
   intro v hv wv
   refine ⟨_,rfl,hd,hdx,_,rfl,N.i,rfl,_,rfl,hd,hdx,hl,xs,ws,g,rfl,N,hg,?_⟩
   cases e2:wat ws g with
   | none =>
    rw [e2] at k
    exact k
   | some wd2 =>
    rw [e2] at k
    intro v2 hv2 wv2
    refine ⟨wd.vl,wd2.vl,wv.rp,wv2.rp,?_⟩
    rw [RS]
    exact k
def pw (D:Ad):Sp:=fun vs H Q E=>∃ hd hdx hl xs ws,vs=[.ref hd]∧Hn D H hd hdx hl xs ws∧∀ p H',aG H H'→H p=none→H' p=some (.lst xs)→Q (.ref p) H'
abbrev u6:List Str:=["self"]
theorem tf:aA u6 ["self"] (au jh):=⟨rfl,rfl,rfl,by decide +kernel,rfl,by decide +kernel,by decide +kernel⟩
theorem tj (F:Fun K "all_words" "Hands.all_words" jh D.bS D.dZ) (T:Txt K mg D):Ok P w K mg base 1 D.bS D.dZ ["self"] (pw D):=by
 refine ⟨?_,F.binds (ps:=["self"]) fun _ _ _ _ _ _ us hl=>match us,hl with|[_],_=>rfl⟩
 refine F.okE tf (fun vs H Q E h=>?_) (fun cdv A' outer s' H vs Q E hr h=>?_)
 ·obtain ⟨hd,hdx,hl,xs,ws,rfl,_⟩:=h
  rfl
 ·obtain ⟨hd,hdx,hl,xs,ws,rfl,N,k⟩:=h
  refine ⟨_,(ai (aX (zJ Eb rfl T.CZ PyProof.Rows.Boot.«list» (ab (aN (pv 0) rfl) ao)))),?_⟩
  exact ⟨_,rfl,hd,D.aW,hdx,_,.ref hl,rfl,N.i,T.aV,T.b5,rfl,hl,xs,rfl,.inl (SqL.of N.l),fun p hp=>k p _ (aG.upd hp) hp ag⟩
def Hv (D:Ad):Sp:=fun vs H Q E=>∃ nt ntx nl xs v,∃ w:Int,vs=[.ref nt,.int w,v]∧Nt D H nt ntx nl xs∧Sm w∧(if 0≤w∧w<8 then Q .non (upd H nl (.lst (xs.set w.toNat v))) else Bad D.dA H E)
abbrev x8:List Str:=["self", "w", "t"]
theorem u7:aA x8 ["self", "w", "t"] (au jU):=⟨rfl,rfl,rfl,by decide +kernel,rfl,by decide +kernel,by decide +kernel⟩
theorem u9 (F:Fun K "name" "NameTable.name" jU D.cP D.gc) (T:Txt K mg D)
  (dR:Ok P w K mg base 3 D.cC D.gr ["w"] (kK D)):Ok P w K mg base 4 D.cP D.gc ["self", "w", "t"] (Hv D):=by
 refine ⟨?_,F.binds (ps:=["self", "w", "t"]) fun _ _ _ _ _ _ us hl=>match us,hl with|[_,_,_],_=>rfl⟩
 refine F.okE u7 (fun vs H Q E h=>?_) (fun cdv A' outer s' H vs Q E hr h=>?_)
 ·obtain ⟨nt,ntx,nl,xs,v,w,rfl,_⟩:=h
  rfl
 ·obtain ⟨nt,ntx,nl,xs,v,w,rfl,N,hb,k⟩:=h
  refine ⟨_,(aj (aM (br dR.g (hr.mono (by decide)) rfl T.qO T.jv dR.b .nil (Passes.x (aT fun _ _ _ q=>q)) (ab (pv 1) ao)))
   (ai (nA (pv 2) (ny (aN (pv 0) rfl) (pv 1) set_list)))),?_⟩
  refine ⟨_,rfl,w,rfl,hb,?_⟩
  by_cases g:0≤w∧w<8
  ·rw [if_pos g] at k ⊢
   exact ⟨_,rfl,_,rfl,nt,D.aD,ntx,_,.ref nl,rfl,N.i,T.eL,T.cB,rfl,_,rfl,nl,xs,w,w.toNat,rfl,rfl,N.l,IK g.1 (by rw [N.n];exact g.2),k⟩
  ·rw [if_neg g] at k ⊢
   exact k
def Hw (D:Ad):Sp:=fun vs H Q E=>∃ nt ntx nl xs,∃ w:Int,vs=[.ref nt,.int w]∧Nt D H nt ntx nl xs∧Sm w∧(if 0≤w∧w<8 then ∀ v,xs[w.toNat]?=some v→Q v H else Bad D.dA H E)
abbrev va:List Str:=["self", "w"]
theorem tm:aA va ["self", "w"] (au jj):=⟨rfl,rfl,rfl,by decide +kernel,rfl,by decide +kernel,by decide +kernel⟩
theorem tu (F:Fun K "named" "NameTable.named" jj D.cu D.fD) (T:Txt K mg D)
  (dR:Ok P w K mg base 3 D.cC D.gr ["w"] (kK D)):Ok P w K mg base 4 D.cu D.fD ["self", "w"] (Hw D):=by
 refine ⟨?_,F.binds (ps:=["self", "w"]) fun _ _ _ _ _ _ us hl=>match us,hl with|[_,_],_=>rfl⟩
 refine F.okE tm (fun vs H Q E h=>?_) (fun cdv A' outer s' H vs Q E hr h=>?_)
 ·obtain ⟨nt,ntx,nl,xs,w,rfl,_⟩:=h
  rfl
 ·obtain ⟨nt,ntx,nl,xs,w,rfl,N,hb,k⟩:=h
  refine ⟨_,(aj (aM (br dR.g (hr.mono (by decide)) rfl T.qO T.jv dR.b .nil (Passes.x (aT fun _ _ _ q=>q)) (ab (pv 1) ao)))
   (ai (aX (aJ cD (aN (pv 0) rfl) (pv 1) (fun _ _=>rfl))))),?_⟩
  refine ⟨_,rfl,w,rfl,hb,?_⟩
  by_cases g:0≤w∧w<8
  ·rw [if_pos g] at k ⊢
   have hv:xs[w.toNat]?=some (xs[w.toNat]'(by rw [N.n];omega)):=List.getElem?_eq_getElem _
   exact ⟨_,rfl,nt,D.aD,ntx,_,.ref nl,rfl,N.i,T.eL,T.cB,rfl,_,rfl,nl,xs,w,_,rfl,rfl,SqL.of N.l,qm g.1 hv,k _ hv⟩
  ·rw [if_neg g] at k ⊢
   exact k
def mJ (D:Ad):Sp:=fun vs H Q _=>∃ m dx,vs=[.ref m]∧H m=some (.ins D.aL dx [])∧∀ b c H',But m H H'→H b=none→H c=none→Wt D H' m dx b c [] []→Q .non H'
abbrev qr:List Str:=["self"]
theorem pQ:aA qr ["self"] (au hW):=⟨rfl,rfl,rfl,by decide +kernel,rfl,by decide +kernel,by decide +kernel⟩
theorem pR (F:Fun K "__init__" "WordTable.__init__" hW D.bG D.dF) (T:Txt K mg D):Ok P w K mg base 1 D.bG D.dF ["self"] (mJ D):=by
 refine ⟨?_,F.binds (ps:=["self"]) fun _ _ _ _ _ _ us hl=>match us,hl with|[_],_=>rfl⟩
 refine F.okE pQ (fun vs H Q E h=>?_) (fun cdv A' outer s' H vs Q E hr h=>?_)
 ·obtain ⟨m,dx,rfl,_⟩:=h
  rfl
 ·obtain ⟨m,dx,rfl,hm,k⟩:=h
  refine ⟨_,(aj (gF (pv 0) kL rfl)
   (ai (gF (pv 0) (jM ao) rfl))),?_⟩
  intro p hp
  have np:m≠p:=ar hm hp
  refine ⟨_,rfl,m,D.aL,dx,[],rfl,(by rw [ae np];exact hm),T.cG,T.bu,by decide,?_⟩
  refine ⟨by show 0≤sizeLine;decide,fun q hq=>?_⟩
  have nq:m≠q:=ar ag hq
  have qp:q≠p:=fun e=>by rw [e,ae (Ne.symm np),ag] at hq;cases hq
  have hq0:H q=none:=by rw [ae (Ne.symm nq),ae qp] at hq;exact hq
  refine ⟨_,rfl,m,D.aL,dx,_,rfl,(by rw [ae nq];exact ag),T.cG,T.jc,by show 1<1000;decide,?_⟩
  refine k p q _ ((((But.upd hp).trans But.self).trans (fun b u n h=>by rw [ae fun e=>by rw [e] at h;rw [h] at hq;cases hq];exact h)).trans But.self) hp hq0 ⟨ag,?_,?_⟩
  ·rw [ae (Ne.symm np),ae (Ne.symm qp),ae (Ne.symm np),ag]
   rfl
  ·rw [ae (Ne.symm nq),ag]
   rfl
def JW (D:Ad):Sp:=fun vs H Q E=>∃ wt wtx wb wl bs zs,∃ t x:Int,vs=[.ref wt,.int t,.int x]∧Wt D H wt wtx wb wl bs zs∧bs.length≤12∧(if bs.lookup t=none∧12≤bs.length then Bad D.bA H E else Q .non (upd H wb (.dK ((DX bs t x).map bkv))))
abbrev x9:List Str:=["self", "t", "x"]
theorem vc:aA x9 ["self", "t", "x"] (au jT):=⟨rfl,rfl,rfl,by decide +kernel,rfl,by decide +kernel,by decide +kernel⟩
theorem ve (F:Fun K "bear" "WordTable.bear" jT D.cO D.gb) (T:Txt K mg D)
  (ah:Ok P w K mg base 1 D.ak D.aB ["self", "text"] (Bo K)):Ok P w K mg base 3 D.cO D.gb ["self", "t", "x"] (JW D):=by
 refine ⟨?_,F.binds (ps:=["self", "t", "x"]) fun _ _ _ _ _ _ us hl=>match us,hl with|[_,_,_],_=>rfl⟩
 refine F.okE vc (fun vs H Q E h=>?_) (fun cdv A' outer s' H vs Q E hr h=>?_)
 ·obtain ⟨wt,wtx,wb,wl,bs,zs,t,x,rfl,_⟩:=h
  rfl
 ·obtain ⟨wt,wtx,wb,wl,bs,zs,t,x,rfl,N,hn,k⟩:=h
  have hu:=kT hr
  refine ⟨_,(aj (bB (PW.pt (pw_and (qh (lX hu (pv 1) (aN (pv 0) rfl)) (by with_unfolding_all rfl)) (pw_and1 (aI Rr (fi KP rfl T.ql PyProof.Rows.Boot.«len» (ab (aN (pv 0) rfl) ao)) (jP (v:=.int 12) rfl T.jw ⟨_,rfl⟩) (aU _)))))
    (ai (fV rfl j7 (j8 T.Am ah.g (hr.mono (by decide)) rfl T.Al ah.b (Passes.x (aT fun _ _ _ q=>q)) (ab (jb (bC (kP (jP (v:=.int 12) rfl T.jw ⟨_,rfl⟩)) (bC hJ ja))) ao))))
    aP)
   (ai (qg hu (aN (pv 0) rfl) (pv 1) (pv 2) rfl))),?_⟩
  have hu:=kT hr
  refine ⟨_,rfl,_,rfl,wt,D.aL,wtx,_,.ref wb,rfl,N.i,T.cG,T.bu,rfl,wb,_,rfl,rk.k (k:=Sum.inl t) N.b,_,rfl,?_⟩
  rw [W5,Option.isSome_map]
  cases e:bs.lookup t with
  | some v =>
   rw [if_neg (fun z=>by rw [e] at z;cases z.1)] at k
   exact fY ⟨_,rfl,_,rfl,wt,D.aL,wtx,_,.ref wb,rfl,N.i,T.cG,T.bu,rfl,_,rfl,wb,_,rfl,DS.k (k:=Sum.inl t) N.b (by rw [List.length_map];exact Nat.lt_of_le_of_lt hn (by decide)),by rw [Hr] at k;exact k⟩
  | none =>
   refine om ⟨_,rfl,wt,D.aL,wtx,_,.ref wb,rfl,N.i,T.cG,T.bu,rfl,wb,_,rfl,N.b,_,_,rfl,rfl,_,rfl,av (fun h=>?_) (fun h=>?_)⟩
   ·rw [List.length_map] at h
    have h:=of_decide_eq_true h
    rw [if_pos ⟨e,by omega⟩] at k
    exact ⟨12,rfl,Sm.of (by decide) (by decide),fun y hy ea hea=>cW T.pF (fun _ q=>q) k ea hea⟩
   ·rw [List.length_map] at h
    have h:¬((12:Int)≤(bs.length:Int)):=fun z=>h (decide_eq_true z)
    rw [if_neg (fun z=>h (by have:=z.2;omega))] at k
    exact ⟨_,rfl,_,rfl,wt,D.aL,wtx,_,.ref wb,rfl,N.i,T.cG,T.bu,rfl,_,rfl,wb,_,rfl,DS.k (k:=Sum.inl t) N.b (by rw [List.length_map];exact Nat.lt_of_le_of_lt hn (by decide)),by rw [Hr] at k;exact k⟩
def fld (s:HS) (t:Int):List Wd:=(s.aS.lookup t).getD []
structure Good (s:HS):Prop where
 h8:s.aH.length=8
 n8:s.names.length=8
 asc:(s.aS.map (·.1)).Pairwise (·< ·)
 lt:∀ t ws,(t,ws)∈s.aS→0≤t∧t<s.nxt
 f6:∀ t ws,(t,ws)∈s.aS→ws.length≤6
 hh:∀ t,Wd.th t∈s.aH→∃ ws,(t,ws)∈s.aS
 ff:∀ u ws t,(u,ws)∈s.aS→Wd.th t∈ws→∃ ws',(t,ws')∈s.aS
 nn:∀ t,some t∈s.names→∃ ws,(t,ws)∈s.aS
 b12:s.bM.length≤12
 bk:∀ t x,(t,x)∈s.bM→∃ ws,(t,ws)∈s.aS
 bnd:(s.bM.map (·.1)).Nodup
 n0:0≤s.nxt
 nx:s.nxt≤10000
 sd:(s.rA.length:Int)+s.aS.length≤s.nxt
 yk:∀ t∈s.yng,∃ ws,(t,ws)∈s.aS
 Bp:s.yng.Pairwise (·< ·)
 dk:∀ t∈s.de,∃ ws,(t,ws)∈s.aS
 Cr:s.de.Pairwise (·< ·)
theorem mem_lookup {α:Type} {fs:List (Int×α)} {t:Int} {w:α} (asc:(fs.map (·.1)).Nodup) (m:(t,w)∈fs):fs.lookup t=some w:=by
 induction fs with
 | nil=>cases m
 | cons p r ih =>
  obtain ⟨a,b⟩:=p
  rw [List.map_cons,List.nodup_cons] at asc
  rw [List.lookup_cons]
  rcases List.mem_cons.mp m with e|m
  ·cases e
   rw [beq_self_eq_true]
  ·have ne:t≠a:=fun e=>asc.1 (by rw [←e];exact List.mem_map.mpr ⟨_,m,rfl⟩)
   rw [beq_eq_false_iff_ne.mpr ne]
   exact ih asc.2 m
theorem ou {l:List Int} (h:l.Pairwise (·< ·)):l.Nodup:=h.imp fun h=>Int.ne_of_lt h
theorem Good.get {s:HS} (g:Good s) {t:Int} {ws:List Wd} (m:(t,ws)∈s.aS):s.aS.lookup t=some ws:=mem_lookup (ou g.asc) m
theorem Good.fld {s:HS} (g:Good s) {t:Int} {ws:List Wd} (m:(t,ws)∈s.aS):fld s t=ws:=by unfold K14.fld;rw [g.get m];rfl
theorem Good.hand {s:HS} (g:Good s) {h t:Int} (e:wat s.aH h=some (.th t)):(t,K14.fld s t)∈s.aS:=by
 obtain ⟨_,_,e⟩:=jO e
 obtain ⟨ws,m⟩:=g.hh t (List.mem_of_getElem? e)
 rw [g.fld m]
 exact m
theorem Good.few {s:HS} (g:Good s):s.aS.length≤10000:=by
 have:=g.sd
 have:=g.nx
 omega
theorem qt {n:Nat} (h:n≤20000):n<sizeLine:=Nat.lt_of_le_of_lt h (by decide)
theorem xn {n:Nat} (h:n≤20000):n≤sizeLine:=Nat.le_of_lt (qt h)
inductive Er where
 | hand|name|field|count|room|words|on|no
def Ad.er (D:Ad):Er→Addr
 | .hand=>D.bg
 | .name=>D.dA
 | .field=>D.dE
 | .count=>D.cc
 | .room=>D.hR
 | .words=>D.bA
 | .on=>D.fR
 | .no=>D.fS
abbrev Re:=Option Er×HS
def Fin (D:Ad) (x:Addr) (A:HA) (s:HS) (H:Hp) (r:Re) (Q:VK) (E:XK):Prop:=∀ A' H',IH D H' x A' r.2→Fr (bX x A s) H (bX x A' r.2) H'→(match r.1 with|none=>Q .non H'|some e=>E (.ref (D.er e)) none H')
theorem Fin.bad {D:Ad} {x:Addr} {A:HA} {s:HS} {H:Hp} {e:Er} {Q:VK} {E:XK} (k:Fin D x A s H (some e,s) Q E) (J:IH D H x A s):Bad (D.er e) H E:=fun H' s'=>k A H' (J.same s') (Fr.same s')
abbrev ok8 (h:Int):Prop:=0≤h∧h<8
def mK (s:HS) (h:Int) (w:Wd):HS:={s with aH:=s.aH.set h.toNat w}
def gX (s:HS) (h g k:Int):Re:=if ok8 h then (match wat s.aH g with|some (.th t)=>if 0≤k∧k<((fld s t).length:Int) then (none,mK s h ((fld s t).getD k.toNat .no)) else (some .field,s)|_=>(some .hand,s)) else (some .hand,s)
def d7 (s:HS) (g k h:Int):Re:=match wat s.aH g with|some (.th t)=>(match wat s.aH h with|some w=>if 0≤k∧k<((fld s t).length:Int) then (none,{s with aS:=qP s.aS t ((fld s t).set k.toNat w)}) else (some .field,s)|none=>(some .hand,s))|_=>(some .hand,s)
def pJ (s:HS) (h g:Int):Re:=if ok8 h then (match wat s.aH g with|some w=>(none,mK s h w)|none=>(some .hand,s)) else (some .hand,s)
def si (s:HS) (h:Int):Re:=if ok8 h then (none,mK s h .no) else (some .hand,s)
def ig (s:HS) (h x:Int):Re:=if ok8 h then (if Num x then (none,mK s h (.num x)) else (some .count,s)) else (some .hand,s)
def iM (s:HS) (w h:Int):Re:=match wat s.aH h with|some (.th t)=>if ok8 w then (none,{s with names:=s.names.set w.toNat (some t)}) else (some .name,s)|_=>(some .hand,s)
def nmW:Option Int→Wd
 | none=>.no
 | some t=>.th t
def gY (s:HS) (h x:Int):Re:=match wat s.aH h with|some (.th t)=>(if Num x then (if s.bM.lookup t=none∧12≤s.bM.length then (some .words,s) else (none,{s with bM:=DX s.bM t x})) else (some .count,s))|_=>(some .hand,s)
def Hz (s:HS) (h n:Int):HS:={s with nxt:=s.nxt+1,aS:=s.aS++[(s.nxt,List.replicate n.toNat .no)],yng:=if s.my=true then s.yng++[s.nxt] else s.yng,aH:=s.aH.set h.toNat (.th s.nxt)}
def wsum (s:HS) (ts:List Int):Int:=(ts.map fun t=>((fld s t).length:Int)+1).sum
section
variable {D:Ad} {H:Hp} {x:Addr} {A:HA} {s:HS}
theorem IH.hn (J:IH D H x A s) (g:Good s):Hn D H A.hd A.hdx A.hl A.hx s.aH:=⟨J.ahd,J.ahl,J.rhl,g.h8⟩
theorem IH.ntb (J:IH D H x A s) (g:Good s):Nt D H A.nt A.ntx A.nl (s.names.map nmV):=⟨J.ant,J.anl,by rw [List.length_map];exact g.n8⟩
theorem IH.wtb (J:IH D H x A s):Wt D H A.wt A.wtx A.wb A.wl s.bM s.rA:=⟨J.awt,J.awb,J.awl⟩
theorem MR {A:HA} {fs:List (Int×List Wd)} {t:Int}:j6 (fs.map (fkv A)) (Sum.inl t)=(fs.lookup t).map fun _=>V.ref (A.fa t):=Cp fun _=>rfl
theorem IH.W6 (J:IH D H x A s) (g:Good s) {t:Int} {ws:List Wd} (m:(t,ws)∈s.aS):rk H A.fh (.int t) (some (.ref (A.fa t))):=by
 have:=rk.k (k:=Sum.inl t) J.afh
 rw [MR,g.get m] at this
 exact this
end
def JX (D:Ad):Sp:=fun vs H Q E=>∃ x A s,∃ h g:Int,vs=[.ref x,.int h,.int g]∧IH D H x A s∧Good s∧Sm h∧Sm g∧Fin D x A s H (pJ s h g) Q E
abbrev Gk:List Str:=["self", "h", "g"]
theorem Et:aA Gk ["self", "h", "g"] (au qT):=⟨rfl,rfl,rfl,by decide +kernel,rfl,by decide +kernel,by decide +kernel⟩
theorem Eu (F:Fun K "copy" "Heap.copy" qT D.eS D.kj) (T:Txt K mg D)
  (lg:Ok P w K mg base 5 D.fL D.jB ["self", "h", "g"] (Hs D)):Ok P w K mg base 6 D.eS D.kj ["self", "h", "g"] (JX D):=by
 refine ⟨?_,F.binds (ps:=["self", "h", "g"]) fun _ _ _ _ _ _ us hl=>match us,hl with|[_,_,_],_=>rfl⟩
 refine F.okE Et (fun vs H Q E h=>?_) (fun cdv A' outer s' H vs Q E hr h=>?_)
 ·obtain ⟨x,A,s,h,g,rfl,_⟩:=h
  rfl
 ·obtain ⟨x,A,s,h,g,rfl,J,G,hh,hg,k⟩:=h
  refine ⟨_,(ai (aM (aQ (aN (pv 0) rfl) T.aV T.CW lg.g (hr.mono (by decide)) lg.b .nil (Passes.x (aT fun _ _ _ q=>q)) (ab (pv 1) (ab (pv 2) ao))))),?_⟩
  refine ⟨_,rfl,x,D.aa,_,_,.ref A.hd,rfl,J.ax,T.af,T.ay,k9,A.hd,A.hdx,_,rfl,J.ahd,rfl,_,rfl,_,rfl,A.hd,A.hdx,A.hl,A.hx,s.aH,h,g,rfl,J.hn G,hh,hg,?_⟩
  by_cases c:ok8 h
  ·rw [if_pos c]
   cases e:wat s.aH g with
   | none =>
    rw [show pJ s h g=(some .hand,s) by simp only [pJ,if_pos c,e]] at k
    exact k.bad J
   | some wd =>
    rw [show pJ s h g=(none,mK s h wd) by simp only [pJ,if_pos c,e]] at k
    exact fun v wv=>let w:=J.LH (J.rhl.set (i:=h.toNat) wv);k _ _ w.1 w.2
  ·rw [if_neg c]
   rw [show pJ s h g=(some .hand,s) by simp only [pJ,if_neg c]] at k
   exact k.bad J
def JY (D:Ad):Sp:=fun vs H Q E=>∃ x A s,∃ h:Int,vs=[.ref x,.int h]∧IH D H x A s∧Good s∧Sm h∧Fin D x A s H (si s h) Q E
abbrev Gm:List Str:=["self", "h"]
theorem Ew:aA Gm ["self", "h"] (au qU):=⟨rfl,rfl,rfl,by decide +kernel,rfl,by decide +kernel,by decide +kernel⟩
theorem Ex (F:Fun K "drop" "Heap.drop" qU D.eT D.km) (T:Txt K mg D)
  (bW:Ok P w K mg base 4 D.dS D.gG ["self", "h", "word"] (sD D)):Ok P w K mg base 5 D.eT D.km ["self", "h"] (JY D):=by
 refine ⟨?_,F.binds (ps:=["self", "h"]) fun _ _ _ _ _ _ us hl=>match us,hl with|[_,_],_=>rfl⟩
 refine F.okE Ew (fun vs H Q E h=>?_) (fun cdv A' outer s' H vs Q E hr h=>?_)
 ·obtain ⟨x,A,s,h,rfl,_⟩:=h
  rfl
 ·obtain ⟨x,A,s,h,rfl,J,G,hh,k⟩:=h
  refine ⟨_,(ai (aM (aQ (aN (pv 0) rfl) T.aV T.kZ bW.g (hr.mono (by decide)) bW.b .nil (Passes.x (aT fun _ _ _ q=>q)) (ab (pv 1) (ab gS ao))))),?_⟩
  refine ⟨_,rfl,x,D.aa,_,_,.ref A.hd,rfl,J.ax,T.af,T.ay,k9,A.hd,A.hdx,_,rfl,J.ahd,rfl,_,rfl,A.hd,A.hdx,A.hl,A.hx,s.aH,.non,h,rfl,J.hn G,hh,?_⟩
  by_cases c:ok8 h
  ·rw [if_pos c]
   rw [show si s h=(none,mK s h .no) by simp only [si,if_pos c]] at k
   exact let w:=J.LH (J.rhl.set (i:=h.toNat) (show WV H .non .no from rfl));k _ _ w.1 w.2
  ·rw [if_neg c]
   rw [show si s h=(some .hand,s) by simp only [si,if_neg c]] at k
   exact k.bad J
def DY (D:Ad):Sp:=fun vs H Q E=>∃ x A s,∃ h z:Int,vs=[.ref x,.int h,.int z]∧IH D H x A s∧Good s∧Sm h∧Sm z∧Fin D x A s H (ig s h z) Q E
abbrev C7:List Str:=["self", "h", "x"]
theorem BB:aA C7 ["self", "h", "x"] (au nD):=⟨rfl,rfl,rfl,by decide +kernel,rfl,by decide +kernel,by decide +kernel⟩
theorem BC (F:Fun K "number" "Heap.number" nD D.cZ D.iQ) (T:Txt K mg D)
  (jz:Ok P w K mg base 5 D.dQ D.ib ["self", "h", "x"] (Cq D)):Ok P w K mg base 6 D.cZ D.iQ ["self", "h", "x"] (DY D):=by
 refine ⟨?_,F.binds (ps:=["self", "h", "x"]) fun _ _ _ _ _ _ us hl=>match us,hl with|[_,_,_],_=>rfl⟩
 refine F.okE BB (fun vs H Q E h=>?_) (fun cdv A' outer s' H vs Q E hr h=>?_)
 ·obtain ⟨x,A,s,h,z,rfl,_⟩:=h
  rfl
 ·obtain ⟨x,A,s,h,z,rfl,J,G,hh,hz,k⟩:=h
  refine ⟨_,(ai (aM (aQ (aN (pv 0) rfl) T.aV T.Ao jz.g (hr.mono (by decide)) jz.b .nil (Passes.x (aT fun _ _ _ q=>q)) (ab (pv 1) (ab (pv 2) ao))))),?_⟩
  refine ⟨_,rfl,x,D.aa,_,_,.ref A.hd,rfl,J.ax,T.af,T.ay,k9,A.hd,A.hdx,_,rfl,J.ahd,rfl,_,rfl,_,rfl,A.hd,A.hdx,A.hl,A.hx,s.aH,h,z,rfl,J.hn G,hh,hz,?_⟩
  by_cases c:ok8 h
  ·rw [if_pos c]
   by_cases g:Num z
   ·rw [if_pos g]
    rw [show ig s h z=(none,mK s h (.num z)) by simp only [ig,if_pos c,if_pos g]] at k
    exact fun t H1 s1 ht=>let J1:=J.same s1;let w:=J1.LH (J1.rhl.set (i:=h.toNat) (show WV H1 (.ref t) (.num z) from ⟨t,rfl,ht⟩));k _ _ w.1 ((Fr.same s1).trans w.2)
   ·rw [if_neg g]
    rw [show ig s h z=(some .count,s) by simp only [ig,if_pos c,if_neg g]] at k
    exact k.bad J
  ·rw [if_neg c]
   rw [show ig s h z=(some .hand,s) by simp only [ig,if_neg c]] at k
   exact k.bad J
def JZ (D:Ad):Sp:=fun vs H Q E=>∃ x A s,∃ w h:Int,vs=[.ref x,.int w,.int h]∧IH D H x A s∧Good s∧Sm w∧Sm h∧Fin D x A s H (iM s w h) Q E
abbrev Gn:List Str:=["self", "w", "h", "t"]
theorem wZ:aA Gn ["self", "w", "h"] (au qV):=⟨rfl,rfl,rfl,by decide +kernel,rfl,by decide +kernel,by decide +kernel⟩
theorem Ey (F:Fun K "name" "Heap.name" qV D.eU D.kn) (T:Txt K mg D)
  (aC:Ok P w K mg base 6 D.aZ D.bT ["self", "h"] (iI D))
  (il:Ok P w K mg base 4 D.cP D.gc ["self", "w", "t"] (Hv D)):Ok P w K mg base 7 D.eU D.kn ["self", "w", "h"] (JZ D):=by
 refine ⟨?_,F.binds (ps:=["self", "w", "h"]) fun _ _ _ _ _ _ us hl=>match us,hl with|[_,_,_],_=>rfl⟩
 refine F.okE wZ (fun vs H Q E h=>?_) (fun cdv A' outer s' H vs Q E hr h=>?_)
 ·obtain ⟨x,A,s,w,h,rfl,_⟩:=h
  rfl
 ·obtain ⟨x,A,s,w,h,rfl,J,G,hw,hh,k⟩:=h
  refine ⟨_,(aj (bp (i:=3) wZ.nd rfl (Or.inl rfl) (aQ (aN (pv 0) rfl) T.aV T.e9 aC.g (hr.mono (by decide)) aC.b .nil (Passes.x (aT fun _ _ _ q=>q)) (ab (pv 2) ao)))
   (ai (aM (aQ (aN (pv 0) rfl) T.eL T.uI il.g (hr.mono (by decide)) il.b .nil (Passes.x (aT fun _ _ _ q=>q)) (ab (pv 1) (ab (pv 3) ao)))))),?_⟩
  refine ⟨_,rfl,x,D.aa,_,_,.ref A.hd,rfl,J.ax,T.af,T.ay,k9,A.hd,A.hdx,_,rfl,J.ahd,rfl,_,rfl,A.hd,A.hdx,A.hl,A.hx,s.aH,h,rfl,J.hn G,hh,?_⟩
  cases e:wat s.aH h with
  | none =>
   rw [show iM s w h=(some .hand,s) by simp only [iM,e]] at k
   exact k.bad J
  | some wd =>
   cases wd with
   | no =>
    rw [show iM s w h=(some .hand,s) by simp only [iM,e]] at k
    exact k.bad J
   | num n =>
    rw [show iM s w h=(some .hand,s) by simp only [iM,e]] at k
    exact k.bad J
   | th t =>
    intro H1 s1
    have J1:=J.same s1
    refine ⟨_,rfl,x,D.aa,_,_,.ref A.nt,rfl,J1.ax,T.af,T.ej,Nw,A.nt,A.ntx,_,rfl,J1.ant,rfl,_,rfl,_,rfl,A.nt,A.ntx,A.nl,_,.int t,w,rfl,J1.ntb G,hw,?_⟩
    by_cases c:ok8 w
    ·rw [if_pos c]
     rw [show iM s w h=(none,{s with names:=s.names.set w.toNat (some t)}) by simp only [iM,e,if_pos c]] at k
     have w1:=J1.aaw (ns:=s.names.set w.toNat (some t))
     rw [List.map_set] at w1
     exact k _ _ w1.1 ((Fr.same s1).trans w1.2)
    ·rw [if_neg c]
     rw [show iM s w h=(some .name,s) by simp only [iM,e,if_neg c]] at k
     exact Bad.same (k.bad J) s1
def J8 (D:Ad):Sp:=fun vs H Q E=>∃ x A s,∃ h z:Int,vs=[.ref x,.int h,.int z]∧IH D H x A s∧Good s∧Sm h∧Sm z∧Fin D x A s H (gY s h z) Q E
abbrev Gp:List Str:=["self", "h", "x", "t"]
theorem xa:aA Gp ["self", "h", "x"] (au qW):=⟨rfl,rfl,rfl,by decide +kernel,rfl,by decide +kernel,by decide +kernel⟩
theorem Ez (F:Fun K "word" "Heap.word" qW D.eV D.ko) (T:Txt K mg D)
  (aC:Ok P w K mg base 6 D.aZ D.bT ["self", "h"] (iI D))
  (cV:Ok P w K mg base 3 D.bN D.eJ ["x"] (js D))
  (ip:Ok P w K mg base 3 D.cO D.gb ["self", "t", "x"] (JW D)):Ok P w K mg base 7 D.eV D.ko ["self", "h", "x"] (J8 D):=by
 refine ⟨?_,F.binds (ps:=["self", "h", "x"]) fun _ _ _ _ _ _ us hl=>match us,hl with|[_,_,_],_=>rfl⟩
 refine F.okE xa (fun vs H Q E h=>?_) (fun cdv A' outer s' H vs Q E hr h=>?_)
 ·obtain ⟨x,A,s,h,z,rfl,_⟩:=h
  rfl
 ·obtain ⟨x,A,s,h,z,rfl,J,G,hh,hz,k⟩:=h
  refine ⟨_,(aj (bp (i:=3) xa.nd rfl (Or.inl rfl) (aQ (aN (pv 0) rfl) T.aV T.e9 aC.g (hr.mono (by decide)) aC.b .nil (Passes.x (aT fun _ _ _ q=>q)) (ab (pv 1) ao)))
   (aj (aM (br cV.g (hr.mono (by decide)) rfl T.nY T.ie cV.b .nil (Passes.x (aT fun _ _ _ q=>q)) (ab (pv 2) ao)))
   (ai (aM (aQ (aN (pv 0) rfl) T.cG T.uH ip.g (hr.mono (by decide)) ip.b .nil (Passes.x (aT fun _ _ _ q=>q)) (ab (pv 3) (ab (pv 2) ao))))))),?_⟩
  refine ⟨_,rfl,x,D.aa,_,_,.ref A.hd,rfl,J.ax,T.af,T.ay,k9,A.hd,A.hdx,_,rfl,J.ahd,rfl,_,rfl,A.hd,A.hdx,A.hl,A.hx,s.aH,h,rfl,J.hn G,hh,?_⟩
  cases e:wat s.aH h with
  | none =>
   rw [show gY s h z=(some .hand,s) by simp only [gY,e]] at k
   exact k.bad J
  | some wd =>
   cases wd with
   | no =>
    rw [show gY s h z=(some .hand,s) by simp only [gY,e]] at k
    exact k.bad J
   | num n =>
    rw [show gY s h z=(some .hand,s) by simp only [gY,e]] at k
    exact k.bad J
   | th t =>
    intro H1 s1
    have J1:=J.same s1
    refine ⟨_,rfl,z,rfl,hz,?_⟩
    by_cases g:Num z
    ·rw [if_pos g]
     refine ⟨_,rfl,x,D.aa,_,_,.ref A.wt,rfl,J1.ax,T.af,T.gv,RU,A.wt,A.wtx,_,rfl,J1.awt,rfl,_,rfl,_,rfl,A.wt,A.wtx,A.wb,A.wl,s.bM,s.rA,t,z,rfl,J1.wtb,G.b12,?_⟩
     by_cases c:s.bM.lookup t=none∧12≤s.bM.length
     ·rw [if_pos c]
      rw [show gY s h z=(some .words,s) by simp only [gY,e,if_pos g,if_pos c]] at k
      exact Bad.same (k.bad J) s1
     ·rw [if_neg c]
      rw [show gY s h z=(none,{s with bM:=DX s.bM t z}) by simp only [gY,e,if_pos g,if_neg c]] at k
      have w1:=J1.Zu (bs:=DX s.bM t z)
      exact k _ _ w1.1 ((Fr.same s1).trans w1.2)
    ·rw [if_neg g]
     rw [show gY s h z=(some .count,s) by simp only [gY,e,if_neg g]] at k
     exact Bad.same (k.bad J) s1
def J9 (D:Ad):Sp:=fun vs H Q E=>∃ x A s,∃ h g kk:Int,vs=[.ref x,.int h,.int g,.int kk]∧IH D H x A s∧Good s∧Sm h∧Sm g∧Sm kk∧Fin D x A s H (gX s h g kk) Q E
abbrev Gq:List Str:=["self", "h", "g", "k", "fields"]
theorem xb:aA Gq ["self", "h", "g", "k"] (au qS):=⟨rfl,rfl,rfl,by decide +kernel,rfl,by decide +kernel,by decide +kernel⟩
theorem EA (F:Fun K "load" "Heap.load" qS D.eR D.ki) (T:Txt K mg D)
  (az:Ok P w K mg base 3 D.bc D.b7 ["h"] (dt D))
  (aC:Ok P w K mg base 6 D.aZ D.bT ["self", "h"] (iI D))
  (du:Ok P w K mg base 3 D.b8 D.ft ["k", "fields"] (j2 D))
  (bW:Ok P w K mg base 4 D.dS D.gG ["self", "h", "word"] (sD D)):Ok P w K mg base 7 D.eR D.ki ["self", "h", "g", "k"] (J9 D):=by
 refine ⟨?_,F.binds (ps:=["self", "h", "g", "k"]) fun _ _ _ _ _ _ us hl=>match us,hl with|[_,_,_,_],_=>rfl⟩
 refine F.okE xb (fun vs H Q E h=>?_) (fun cdv A' outer s' H vs Q E hr h=>?_)
 ·obtain ⟨x,A,s,h,g,kk,rfl,_⟩:=h
  rfl
 ·obtain ⟨x,A,s,h,g,kk,rfl,J,G,hh,hg,hk,k⟩:=h
  have hu:=kT hr
  refine ⟨_,(aj (aM (br az.g (hr.mono (by decide)) rfl T.fe T.da az.b .nil (Passes.x (aT fun _ _ _ q=>q)) (ab (pv 1) ao)))
   (aj (bp (i:=4) xb.nd rfl (Or.inl rfl) (qf hu (aN (pv 0) rfl) (aQ (aN (pv 0) rfl) T.aV T.e9 aC.g (hr.mono (by decide)) aC.b .nil (Passes.x (aT fun _ _ _ q=>q)) (ab (pv 2) ao)) (fun _ _=>rfl)))
   (aj (aM (br du.g (hr.mono (by decide)) rfl T.pH T.iU du.b .nil (Passes.x (aT fun _ _ _ q=>q)) (ab (pv 3) (ab (fi dN rfl T.ql PyProof.Rows.Boot.«len» (ab (pv 4) ao)) ao))))
   (ai (aM (aQ (aN (pv 0) rfl) T.aV T.kZ bW.g (hr.mono (by decide)) bW.b .nil (Passes.x (aT fun _ _ _ q=>q)) (ab (pv 1) (ab (aJ cD (pv 4) (pv 3) (fun _ _=>rfl)) ao)))))))),?_⟩
  refine ⟨_,rfl,h,rfl,hh,?_⟩
  by_cases c:ok8 h
  ·rw [if_pos c]
   refine ⟨_,rfl,x,D.aa,_,_,.ref A.fh,rfl,J.ax,T.af,T.aE,sg,_,rfl,x,D.aa,_,_,.ref A.hd,rfl,J.ax,T.af,T.ay,k9,A.hd,A.hdx,_,rfl,J.ahd,rfl,_,rfl,A.hd,A.hdx,A.hl,A.hx,s.aH,g,rfl,J.hn G,hg,?_⟩
   cases e:wat s.aH g with
   | none =>
    rw [show gX s h g kk=(some .hand,s) by simp only [gX,e,if_pos c]] at k
    exact k.bad J
   | some wd =>
    cases wd with
    | no =>
     rw [show gX s h g kk=(some .hand,s) by simp only [gX,e,if_pos c]] at k
     exact k.bad J
    | num n =>
     rw [show gX s h g kk=(some .hand,s) by simp only [gX,e,if_pos c]] at k
     exact k.bad J
    | th t =>
     intro H1 s1
     have J1:=J.same s1
     have m:=G.hand e
     obtain ⟨hl,rl⟩:=J1.afl _ _ m
     refine ⟨A.fh,_,rfl,J1.W6 G m,?_⟩
     have f6:=G.f6 _ _ m
     have ln:((A.fx t).length:Int)=(fld s t).length:=by rw [rl.1]
     refine ⟨_,rfl,_,rfl,A.fa t,_,rfl,.inl (SqL.of hl),kk,_,rfl,hk,Sm.of (by omega) (by omega),?_⟩
     rw [ln]
     by_cases c2:0≤kk∧kk<((fld s t).length:Int)
     ·rw [if_pos c2]
      rw [show gX s h g kk=(none,mK s h ((fld s t).getD kk.toNat .no)) by simp only [gX,if_pos c,e,if_pos c2]] at k
      have hi:kk.toNat<(fld s t).length:=by omega
      obtain ⟨v,hv,wv⟩:=rl.get hi
      have gd:(fld s t).getD kk.toNat .no=(fld s t)[kk.toNat]:=by simp [List.getD,hi]
      rw [gd] at k
      refine ⟨_,rfl,x,D.aa,_,_,.ref A.hd,rfl,J1.ax,T.af,T.ay,k9,A.hd,A.hdx,_,rfl,J1.ahd,rfl,_,rfl,_,rfl,_,rfl,A.fa t,_,kk,v,rfl,rfl,SqL.of hl,qm c2.1 hv,A.hd,A.hdx,A.hl,A.hx,s.aH,v,h,rfl,J1.hn G,hh,?_⟩
      rw [if_pos c]
      exact let w:=J1.LH (J1.rhl.set (i:=h.toNat) wv);k _ _ w.1 ((Fr.same s1).trans w.2)
     ·rw [if_neg c2]
      rw [show gX s h g kk=(some .field,s) by simp only [gX,if_pos c,e,if_neg c2]] at k
      exact Bad.same (k.bad J) s1
  ·rw [if_neg c]
   rw [show gX s h g kk=(some .hand,s) by simp only [gX,if_neg c]] at k
   exact k.bad J
def HB (D:Ad):Sp:=fun vs H Q E=>∃ x A s,∃ g kk h:Int,vs=[.ref x,.int g,.int kk,.int h]∧IH D H x A s∧Good s∧Sm g∧Sm kk∧Sm h∧Fin D x A s H (d7 s g kk h) Q E
abbrev EB:List Str:=["self", "g", "k", "h", "fields", "value"]
theorem nK:aA EB ["self", "g", "k", "h"] (au oQ):=⟨rfl,rfl,rfl,by decide +kernel,rfl,by decide +kernel,by decide +kernel⟩
theorem C8 (F:Fun K "store" "Heap.store" oQ D.dP D.jE) (T:Txt K mg D)
  (aC:Ok P w K mg base 6 D.aZ D.bT ["self", "h"] (iI D))
  (aO:Ok P w K mg base 4 D.bL D.dj ["self", "h"] (l9 D))
  (du:Ok P w K mg base 3 D.b8 D.ft ["k", "fields"] (j2 D)):Ok P w K mg base 7 D.dP D.jE ["self", "g", "k", "h"] (HB D):=by
 refine ⟨?_,F.binds (ps:=["self", "g", "k", "h"]) fun _ _ _ _ _ _ us hl=>match us,hl with|[_,_,_,_],_=>rfl⟩
 refine F.okE nK (fun vs H Q E h=>?_) (fun cdv A' outer s' H vs Q E hr h=>?_)
 ·obtain ⟨x,A,s,g,kk,h,rfl,_⟩:=h
  rfl
 ·obtain ⟨x,A,s,g,kk,h,rfl,J,G,hg,hk,hh,k⟩:=h
  have hu:=kT hr
  refine ⟨_,(aj (bp (i:=4) nK.nd rfl (Or.inl rfl) (qf hu (aN (pv 0) rfl) (aQ (aN (pv 0) rfl) T.aV T.e9 aC.g (hr.mono (by decide)) aC.b .nil (Passes.x (aT fun _ _ _ q=>q)) (ab (pv 1) ao)) (fun _ _=>rfl)))
   (aj (bp (i:=5) nK.nd rfl (Or.inl rfl) (aQ (aN (pv 0) rfl) T.aV T.gn aO.g (hr.mono (by decide)) aO.b .nil (Passes.x (aT fun _ _ _ q=>q)) (ab (pv 3) ao)))
   (aj (aM (br du.g (hr.mono (by decide)) rfl T.pH T.iU du.b .nil (Passes.x (aT fun _ _ _ q=>q)) (ab (pv 2) (ab (fi dN rfl T.ql PyProof.Rows.Boot.«len» (ab (pv 4) ao)) ao))))
   (ai (nA (pv 5) (ny (pv 4) (pv 2) set_list)))))),?_⟩
  refine ⟨_,rfl,x,D.aa,_,_,.ref A.fh,rfl,J.ax,T.af,T.aE,sg,_,rfl,x,D.aa,_,_,.ref A.hd,rfl,J.ax,T.af,T.ay,k9,A.hd,A.hdx,_,rfl,J.ahd,rfl,_,rfl,A.hd,A.hdx,A.hl,A.hx,s.aH,g,rfl,J.hn G,hg,?_⟩
  cases e:wat s.aH g with
  | none =>
   rw [show d7 s g kk h=(some .hand,s) by simp only [d7,e]] at k
   exact k.bad J
  | some wd =>
   cases wd with
   | no =>
    rw [show d7 s g kk h=(some .hand,s) by simp only [d7,e]] at k
    exact k.bad J
   | num n =>
    rw [show d7 s g kk h=(some .hand,s) by simp only [d7,e]] at k
    exact k.bad J
   | th t =>
    intro H1 s1
    have J1:=J.same s1
    have m:=G.hand e
    obtain ⟨hl,rl⟩:=J1.afl _ _ m
    refine ⟨A.fh,_,rfl,J1.W6 G m,?_⟩
    refine ⟨_,rfl,x,D.aa,_,_,.ref A.hd,rfl,J1.ax,T.af,T.ay,k9,A.hd,A.hdx,_,rfl,J1.ahd,rfl,_,rfl,A.hd,A.hdx,A.hl,A.hx,s.aH,h,rfl,J1.hn G,hh,?_⟩
    cases e2:wat s.aH h with
    | none =>
     rw [show d7 s g kk h=(some .hand,s) by simp only [d7,e,e2]] at k
     exact Bad.same (k.bad J) s1
    | some wd =>
     intro v hv wv
     have f6:=G.f6 _ _ m
     have ln:((A.fx t).length:Int)=(fld s t).length:=by rw [rl.1]
     refine ⟨_,rfl,_,rfl,A.fa t,_,rfl,.inl (SqL.of hl),kk,_,rfl,hk,Sm.of (by omega) (by omega),?_⟩
     rw [ln]
     by_cases c2:0≤kk∧kk<((fld s t).length:Int)
     ·rw [if_pos c2]
      rw [show d7 s g kk h=(none,{s with aS:=qP s.aS t ((fld s t).set kk.toNat wd)}) by simp only [d7,e,e2,if_pos c2]] at k
      refine ⟨_,rfl,_,rfl,_,rfl,A.fa t,_,kk,kk.toNat,rfl,rfl,hl,IK c2.1 (by omega),?_⟩
      exact let w:=J1.aaA m (rl.set (i:=kk.toNat) wv);k _ _ w.1 ((Fr.same s1).trans w.2)
     ·rw [if_neg c2]
      rw [show d7 s g kk h=(some .field,s) by simp only [d7,e,e2,if_neg c2]] at k
      exact Bad.same (k.bad J) s1
theorem xA {b:Bool} {A B:Prop} (h:b=false) (k:B):if b=true then A else B:=by rw [h];exact k
theorem IQ {b:Bool} {A B:Prop} (h:b=true) (k:A):if b=true then A else B:=by rw [h];exact k
theorem Ka (k:Nat):(List.replicate k [V.non]).flatten=List.replicate k .non:=by
 induction k with
 | zero=>rfl
 | succ k ih=>rw [List.replicate_succ,List.flatten_cons,ih,List.replicate_succ];rfl
def keys (s:HS):List Int:=s.aS.map (·.1)
def held (s:HS):Int:=wsum s (keys s)
structure Raw (D:Ad) (H:Hp) (x dx:Addr) (my:Bool) (hd hdx hl nt ntx nl wt wtx wb wl fh yg:Addr):Prop where
 ax:H x=some (.ins D.aa dx [("makes_young",.bl my),("in_hands",.ref hd),("weak_names",.ref nt),("last_words",.ref wt),("fields_held",.ref fh),("young_things",.ref yg),("next_thing",.int 0)])
 ahd:H hd=some (.ins D.aW hdx [("words_held",.ref hl)])
 ahl:H hl=some (.lst (List.replicate 8 .non))
 ant:H nt=some (.ins D.aD ntx [("things_named",.ref nl)])
 anl:H nl=some (.lst (List.replicate 8 .non))
 awt:Wt D H wt wtx wb wl [] []
 afh:H fh=some (.dK [])
 ayg:H yg=some (.dK [])
 n1:hd≠nt
 n2:hl≠nl
 n3:hl≠wl
 n4:nl≠wl
 n5:wb≠fh
 n6:wb≠yg
 n7:fh≠yg
def s0 (my:Bool) (room limit:Int):HS:=⟨my,List.replicate 8 .no,List.replicate 8 none,[],[],[],[],0,room,limit,[],false⟩
theorem good0 {my:Bool} {room limit:Int}:Good (s0 my room limit) :=
 ⟨rfl,rfl,List.Pairwise.nil,(fun _ _ m=>by cases m),(fun _ _ m=>by cases m),(fun t m=>by have:=List.eq_of_mem_replicate m;cases this),(fun _ _ _ m=>by cases m),(fun t m=>by have:=List.eq_of_mem_replicate m;cases this),by show 0≤12;decide,(fun _ _ m=>by cases m),List.nodup_nil,by show (0:Int)≤0;decide,by show (0:Int)≤10000;decide,by show ((0:Nat):Int)+((0:Nat):Int)≤0;decide,(fun _ m=>by cases m),List.Pairwise.nil,(fun _ m=>by cases m),List.Pairwise.nil⟩
def xg (D:Ad):Sp:=fun vs H Q E=>∃ x dx,∃ my:Bool,vs=[.ref x,.bl my]∧H x=some (.ins D.aa dx [])∧∀ hd hdx hl nt ntx nl wt wtx wb wl fh yg H',Raw D H' x dx my hd hdx hl nt ntx nl wt wtx wb wl fh yg→But x H H'→(∀ b,b=hd∨b=hl∨b=nt∨b=nl∨b=wt∨b=wb∨b=wl∨b=fh∨b=yg→H b=none)→Q .non H'
abbrev AD:List Str:=["self", "makes_young"]
theorem ya:aA AD ["self", "makes_young"] (au kD):=⟨rfl,rfl,rfl,by decide +kernel,rfl,by decide +kernel,by decide +kernel⟩
theorem yc (F:Fun K "__init__" "Heap.__init__" kD D.b9 D.gN) (T:Txt K mg D)
  (iq:Ok P w K mg base 1 D.cN D.f9 ["self"] (sC D))
  (fu:Ok P w K mg base 1 D.bH D.dG ["self"] (mI D))
  (fv:Ok P w K mg base 1 D.bG D.dF ["self"] (mJ D)):Ok P w K mg base 3 D.b9 D.gN ["self", "makes_young"] (xg D):=by
 refine ⟨?_,F.binds (ps:=["self", "makes_young"]) fun _ _ _ _ _ _ us hl=>match us,hl with|[_,_],_=>rfl⟩
 refine F.okE ya (fun vs H Q E h=>?_) (fun cdv A' outer s' H vs Q E hr h=>?_)
 ·obtain ⟨x,dx,my,rfl,_⟩:=h
  rfl
 ·obtain ⟨x,dx,my,rfl,hx,k⟩:=h
  refine ⟨_,(aj (gF (pv 0) (pv 1) rfl)
   (aj (gF (pv 0) (CF T.CJ iq.g (hr.mono (by decide)) rfl T.Md iq.b .nil (aT fun _ _ _ q=>q)) rfl)
   (aj (gF (pv 0) (CF T.oV fu.g (hr.mono (by decide)) rfl T.Eh fu.b .nil (aT fun _ _ _ q=>q)) rfl)
   (aj (gF (pv 0) (CF T.oU fv.g (hr.mono (by decide)) rfl T.Eg fv.b .nil (aT fun _ _ _ q=>q)) rfl)
   (aj (gF (pv 0) kL rfl)
   (aj (gF (pv 0) kL rfl)
   (ai (gF (pv 0) aq rfl)))))))),?_⟩
  have bk:∀ {H':Hp} {b:Addr} {u:HO},H' x=some u→But x H H'→H' b=none→H b=none:=fun {H' b u} hx' B h=>by
   cases q:H b with
   | none=>rfl
   | some v =>
    by_cases e:b=x
    ·rw [e,hx'] at h;cases h
    ·rw [B b v e q] at h;cases h
  have mk:∀ {H1 H2:Hp} {m mdx C:Addr},H1 m=none→H1 mdx=none→But m (upd (upd H1 mdx (.own m)) m (.ins C mdx [])) H2→aG H1 H2:=fun h1 h2 B b u q=>B b u (ar q h1) (by rw [ae (ar q h1),ae (ar q h2)];exact q)
  have fr:∀ {H1:Hp} {m mdx C c:Addr},H1 m=none→H1 mdx=none→upd (upd H1 mdx (.own m)) m (.ins C mdx []) c=none→H1 c=none:=fun {H1 m mdx C c} h1 h2 h=>by
   cases q:H1 c with
   | none=>rfl
   | some v=>rw [ae (ar q h1),ae (ar q h2),q] at h;cases h
  refine ⟨_,rfl,_,rfl,x,D.aa,dx,_,rfl,hx,T.af,T.fX,by show 0<1000;decide,?_⟩
  obtain ⟨H1,e1⟩:∃ H1,upd H x (.ins D.aa dx (gu "makes_young" (.bl my) []))=H1:=⟨_,rfl⟩
  have x1:H1 x=some (.ins D.aa dx [("makes_young",.bl my)]):=by rw [←e1];exact ag
  have B1:But x H H1:=by rw [←e1];exact But.self
  show Ft _ _ _ _ (upd H x (.ins D.aa dx (gu "makes_young" (.bl my) [])))
  rw [e1]
  clear e1
  intro hd hdx hm1 hm2 hm3
  refine ⟨hd,hdx,rfl,ag,fun hl G1 b1 hc hcl hci=>⟨rfl,?_⟩⟩
  have S1:=mk hm1 hm2 b1
  have hl1:=fr hm1 hm2 hc
  refine ⟨_,rfl,x,D.aa,dx,_,rfl,S1 _ _ x1,T.af,T.ay,by show 1<1000;decide,?_⟩
  obtain ⟨H2,e2⟩:∃ H2,upd G1 x (.ins D.aa dx (gu "in_hands" (.ref hd) [("makes_young",.bl my)]))=H2:=⟨_,rfl⟩
  have x2:H2 x=some (.ins D.aa dx [("makes_young",.bl my),("in_hands",.ref hd)]):=by rw [←e2];exact ag
  have P2:But x G1 H2:=by rw [←e2];exact But.self
  have B2:But x H H2:=(B1.trans fun b u _ q=>S1 b u q).trans P2
  show Ft _ _ _ _ (upd G1 x (.ins D.aa dx (gu "in_hands" (.ref hd) [("makes_young",.bl my)])))
  rw [e2]
  clear e2
  have nhd:hd≠x:=Ne.symm (ar x1 hm1)
  have nhl:hl≠x:=Ne.symm (ar x1 hl1)
  have a2:=P2 _ _ nhd hci
  have l2:=P2 _ _ nhl hcl
  intro nt ntx nm1 nm2 nm3
  refine ⟨nt,ntx,rfl,ag,fun nl G2 b2 nc ncl nci=>⟨rfl,?_⟩⟩
  have S2:=mk nm1 nm2 b2
  have nl2:=fr nm1 nm2 nc
  refine ⟨_,rfl,x,D.aa,dx,_,rfl,S2 _ _ x2,T.af,T.ej,by show 2<1000;decide,?_⟩
  obtain ⟨H3,e3⟩:∃ H3,upd G2 x (.ins D.aa dx (gu "weak_names" (.ref nt) [("makes_young",.bl my),("in_hands",.ref hd)]))=H3:=⟨_,rfl⟩
  have x3:H3 x=some (.ins D.aa dx [("makes_young",.bl my),("in_hands",.ref hd),("weak_names",.ref nt)]):=by rw [←e3];exact ag
  have P3:But x G2 H3:=by rw [←e3];exact But.self
  have B3:But x H H3:=(B2.trans fun b u _ q=>S2 b u q).trans P3
  show Ft _ _ _ _ (upd G2 x (.ins D.aa dx (gu "weak_names" (.ref nt) [("makes_young",.bl my),("in_hands",.ref hd)])))
  rw [e3]
  clear e3
  have nnt:nt≠x:=Ne.symm (ar x2 nm1)
  have nnl:nl≠x:=Ne.symm (ar x2 nl2)
  have a3:=P3 _ _ nhd (S2 _ _ a2)
  have l3:=P3 _ _ nhl (S2 _ _ l2)
  have t3:=P3 _ _ nnt nci
  have m3:=P3 _ _ nnl ncl
  intro wt wtx wm1 wm2 wm3
  refine ⟨wt,wtx,rfl,ag,fun wb wl G3 b3 wc1 wc2 W=>⟨rfl,?_⟩⟩
  have S3:=mk wm1 wm2 b3
  have wb3:=fr wm1 wm2 wc1
  have wl3:=fr wm1 wm2 wc2
  refine ⟨_,rfl,x,D.aa,dx,_,rfl,S3 _ _ x3,T.af,T.gv,by show 3<1000;decide,?_⟩
  obtain ⟨H4,e4⟩:∃ H4,upd G3 x (.ins D.aa dx (gu "last_words" (.ref wt) [("makes_young",.bl my),("in_hands",.ref hd),("weak_names",.ref nt)]))=H4:=⟨_,rfl⟩
  have x4:H4 x=some (.ins D.aa dx [("makes_young",.bl my),("in_hands",.ref hd),("weak_names",.ref nt),("last_words",.ref wt)]):=by rw [←e4];exact ag
  have P4:But x G3 H4:=by rw [←e4];exact But.self
  have B4:But x H H4:=(B3.trans fun b u _ q=>S3 b u q).trans P4
  show Ft _ _ _ _ (upd G3 x (.ins D.aa dx (gu "last_words" (.ref wt) [("makes_young",.bl my),("in_hands",.ref hd),("weak_names",.ref nt)])))
  rw [e4]
  clear e4
  have nwt:wt≠x:=Ne.symm (ar x3 wm1)
  have nwb:wb≠x:=Ne.symm (ar x3 wb3)
  have nwl:wl≠x:=Ne.symm (ar x3 wl3)
  have W4:Wt D H4 wt wtx wb wl [] []:=⟨P4 _ _ nwt W.i,P4 _ _ nwb W.b,P4 _ _ nwl W.l⟩
  have a4:=P4 _ _ nhd (S3 _ _ a3)
  have l4:=P4 _ _ nhl (S3 _ _ l3)
  have t4:=P4 _ _ nnt (S3 _ _ t3)
  have m4:=P4 _ _ nnl (S3 _ _ m3)
  intro fh hfh
  have nfh:fh≠x:=Ne.symm (ar x4 hfh)
  refine ⟨_,rfl,x,D.aa,dx,_,rfl,aG.upd hfh _ _ x4,T.af,T.aE,by show 4<1000;decide,?_⟩
  obtain ⟨H5,e5⟩:∃ H5,upd (upd H4 fh (.dK [])) x (.ins D.aa dx (gu "fields_held" (.ref fh) [("makes_young",.bl my),("in_hands",.ref hd),("weak_names",.ref nt),("last_words",.ref wt)]))=H5:=⟨_,rfl⟩
  have x5:H5 x=some (.ins D.aa dx [("makes_young",.bl my),("in_hands",.ref hd),("weak_names",.ref nt),("last_words",.ref wt),("fields_held",.ref fh)]):=by rw [←e5];exact ag
  have P5:But x H4 H5:=by rw [←e5];exact (But.upd hfh).trans But.self
  have f5:H5 fh=some (.dK []):=by rw [←e5,ae nfh];exact ag
  show Ft _ _ _ _ (upd (upd H4 fh (.dK [])) x (.ins D.aa dx (gu "fields_held" (.ref fh) [("makes_young",.bl my),("in_hands",.ref hd),("weak_names",.ref nt),("last_words",.ref wt)])))
  rw [e5]
  clear e5
  intro yg hyg
  have nyg:yg≠x:=Ne.symm (ar x5 hyg)
  refine ⟨_,rfl,x,D.aa,dx,_,rfl,aG.upd hyg _ _ x5,T.af,T.bq,by show 5<1000;decide,?_⟩
  obtain ⟨H6,e6⟩:∃ H6,upd (upd H5 yg (.dK [])) x (.ins D.aa dx (gu "young_things" (.ref yg) [("makes_young",.bl my),("in_hands",.ref hd),("weak_names",.ref nt),("last_words",.ref wt),("fields_held",.ref fh)]))=H6:=⟨_,rfl⟩
  have x6:H6 x=some (.ins D.aa dx [("makes_young",.bl my),("in_hands",.ref hd),("weak_names",.ref nt),("last_words",.ref wt),("fields_held",.ref fh),("young_things",.ref yg)]):=by rw [←e6];exact ag
  have P6:But x H5 H6:=by rw [←e6];exact (But.upd hyg).trans But.self
  have y6:H6 yg=some (.dK []):=by rw [←e6,ae nyg];exact ag
  skip
  rw [e6]
  clear e6
  have B5:But x H H5:=B4.trans P5
  have B6:But x H H6:=B5.trans P6
  have P7:∀ {o:HO},But x H6 (upd H6 x o):=But.self
  have P47:∀ {o:HO} {b:Addr} {u:HO},b≠x→H4 b=some u→upd H6 x o b=some u:=fun n q=>P7 _ _ n (P6 _ _ n (P5 _ _ n q))
  refine ⟨_,rfl,x,D.aa,dx,_,rfl,x6,T.af,T.gw,by show 6<1000;decide,k hd hdx hl nt ntx nl wt wtx wb wl fh yg _ ⟨ag,P47 nhd a4,P47 nhl l4,P47 nnt t4,P47 nnl m4,⟨P47 nwt W4.i,P47 nwb W4.b,P47 nwl W4.l⟩,P7 _ _ nfh (P6 _ _ nfh f5),P7 _ _ nyg y6,ar a2 nm1,ar l2 nl2,ar l3 wl3,ar m3 wl3,ar W4.b hfh,ar (P5 _ _ nwb W4.b) hyg,ar f5 hyg⟩ (B6.trans But.self) (fun b hb=>?_)⟩
  rcases hb with rfl|rfl|rfl|rfl|rfl|rfl|rfl|rfl|rfl
  ·exact bk x1 B1 hm1
  ·exact bk x1 B1 hl1
  ·exact bk x2 B2 nm1
  ·exact bk x2 B2 nl2
  ·exact bk x3 B3 wm1
  ·exact bk x3 B3 wb3
  ·exact bk x3 B3 wl3
  ·exact bk x4 B4 hfh
  ·exact bk x5 B5 hyg
def sG (D:Ad):Sp:=fun vs H Q E=>∃ x dx,∃ y l:Int,vs=[.ref x,.int y,.int l]∧H x=some (.ins D.aa dx [])∧(y=0∨(7≤y∧y≤64))∧7≤l∧l≤400∧∀ A H',IH D H' x A (s0 (decide (y>0)) y l)→But x H H'→(∀ b,bX x A (s0 (decide (y>0)) y l) b→b=x∨H b=none)→Q .non H'
abbrev qu:List Str:=["self", "young", "limit"]
theorem pS:aA qu ["self", "young", "limit"] (au hZ):=⟨rfl,rfl,rfl,by decide +kernel,rfl,by decide +kernel,by decide +kernel⟩
theorem pT (F:Fun K "__init__" "IdealHeap.__init__" hZ D.bI D.dI) (T:Txt K mg D)
  (ir:Ok P w K mg base 3 D.cp D.f7 ["young", "limit"] (mG))
  (iV:Ok P w K mg base 3 D.b9 D.gN ["self", "makes_young"] (xg D)):Ok P w K mg base 4 D.bI D.dI ["self", "young", "limit"] (sG D):=by
 refine ⟨?_,F.binds (ps:=["self", "young", "limit"]) fun _ _ _ _ _ _ us hl=>match us,hl with|[_,_,_],_=>rfl⟩
 refine F.okE pS (fun vs H Q E h=>?_) (fun cdv A' outer s' H vs Q E hr h=>?_)
 ·obtain ⟨x,dx,y,l,rfl,_⟩:=h
  rfl
 ·obtain ⟨x,dx,y,l,rfl,hx,hy,l0,l1,k⟩:=h
  refine ⟨_,(aj (aM (br ir.g (hr.mono (by decide)) rfl T.xR T.j1 ir.b .nil (Passes.x (aT fun _ _ _ q=>q)) (ab (pv 1) (ab (pv 2) ao))))
   (aj (aM (Ws rfl T.Ot T.Ou iV.g (hr.mono (by decide)) iV.b (Passes.x (aT fun _ _ _ q=>q)) (ab (pv 0) (ab (xG Fy (pv 1) aq (aU _)) ao))))
   (aj (gF (pv 0) (pv 1) rfl)
   (aj (gF (pv 0) (pv 2) rfl)
   (aj (gF (pv 0) kL rfl)
   (ai (gF (pv 0) pD rfl))))))),?_⟩
  refine ⟨_,rfl,_,rfl,y,l,rfl,hy,l0,l1,?_⟩
  refine ⟨_,rfl,_,rfl,y,0,rfl,rfl,x,dx,_,rfl,hx,fun hd hdx hl nt ntx nl wt wtx wb wl fh yg H1 R B1 fr=>?_⟩
  obtain ⟨my,emy⟩:∃ my:Bool,decide (y>0)=my:=⟨_,rfl⟩
  rw [emy] at R k
  have nx:∀ b,H b=none→b≠x:=fun b h e=>by rw [e,hx] at h;cases h
  refine ⟨_,rfl,_,rfl,x,D.aa,dx,_,rfl,R.ax,T.af,T.jd,by show 7<1000;decide,?_⟩
  refine ⟨_,rfl,_,rfl,x,D.aa,dx,_,rfl,ag,T.af,T.mF,by show 8<1000;decide,?_⟩
  intro dm hdm
  have ndm:dm≠x:=fun e=>by rw [e,ag] at hdm;cases hdm
  have MS:H1 dm=none:=by rw [ae ndm,ae ndm] at hdm;exact hdm
  refine ⟨_,rfl,x,D.aa,dx,_,rfl,(by rw [ae (Ne.symm ndm)];exact ag),T.af,T.bh,by show 9<1000;decide,?_⟩
  refine ⟨_,rfl,x,D.aa,dx,_,rfl,ag,T.af,T.cM,by show 10<1000;decide,?_⟩
  have aaB:H dm=none:=by
   cases q:H dm with
   | none=>rfl
   | some u=>rw [B1 _ _ ndm q] at MS;cases MS
  have P:∀ {o1 o2 o3 o4:HO},But x H1 (upd (upd (upd (upd (upd H1 x o1) x o2) dm (.dK [])) x o3) x o4):=fun {o1 o2 o3 o4}=>(((But.self.trans But.self).trans (But.upd (by rw [ae ndm,ae ndm];exact MS))).trans But.self).trans But.self
  have d2:∀ {o1 o2 o3 o4:HO},upd (upd (upd (upd (upd H1 x o1) x o2) dm (.dK [])) x o3) x o4 dm=some (.dK []):=fun {o1 o2 o3 o4}=>by rw [ae ndm,ae ndm];exact ag
  have f:=fun (b:Addr) (h:b=hd∨b=hl∨b=nt∨b=nl∨b=wt∨b=wb∨b=wl∨b=fh∨b=yg)=>nx b (fr b h)
  have n1:=f hd (.inl rfl)
  have n2:=f hl (.inr (.inl rfl))
  have n3:=f nt (.inr (.inr (.inl rfl)))
  have n4:=f nl (.inr (.inr (.inr (.inl rfl))))
  have n5:=f wt (.inr (.inr (.inr (.inr (.inl rfl)))))
  have n6:=f wb (.inr (.inr (.inr (.inr (.inr (.inl rfl))))))
  have n7:=f wl (.inr (.inr (.inr (.inr (.inr (.inr (.inl rfl)))))))
  have n8:=f fh (.inr (.inr (.inr (.inr (.inr (.inr (.inr (.inl rfl))))))))
  have n9:=f yg (.inr (.inr (.inr (.inr (.inr (.inr (.inr (.inr rfl))))))))
  refine k ⟨dx,hd,hdx,hl,List.replicate 8 .non,nt,ntx,nl,wt,wtx,wb,wl,fh,fun _=>0,fun _=>[],yg,dm⟩ _ ⟨ag,P _ _ n1 R.ahd,P _ _ n2 R.ahl,Rel.nil,P _ _ n3 R.ant,P _ _ n4 R.anl,P _ _ n5 R.awt.i,P _ _ n6 R.awt.b,P _ _ n7 R.awt.l,P _ _ n8 R.afh,(fun _ _ m=>by cases m),P _ _ n9 R.ayg,d2,R.n1,R.n2,R.n3,R.n4,(fun _ _ m=>by cases m),(fun _ _ _ _ m=>by cases m),R.n5,R.n6,ar R.awt.b MS,R.n7,ar R.afh MS,ar R.ayg MS⟩ (B1.trans P) (fun b hb=>?_)
  cases hb with
  | x=>exact .inl rfl
  | hd=>exact .inr (fr hd (.inl rfl))
  | hl=>exact .inr (fr hl (.inr (.inl rfl)))
  | nt=>exact .inr (fr nt (.inr (.inr (.inl rfl))))
  | nl=>exact .inr (fr nl (.inr (.inr (.inr (.inl rfl)))))
  | wt=>exact .inr (fr wt (.inr (.inr (.inr (.inr (.inl rfl))))))
  | wb=>exact .inr (fr wb (.inr (.inr (.inr (.inr (.inr (.inl rfl)))))))
  | wl=>exact .inr (fr wl (.inr (.inr (.inr (.inr (.inr (.inr (.inl rfl))))))))
  | fh=>exact .inr (fr fh (.inr (.inr (.inr (.inr (.inr (.inr (.inr (.inl rfl)))))))))
  | yg=>exact .inr (fr yg (.inr (.inr (.inr (.inr (.inr (.inr (.inr (.inr rfl)))))))))
  | dm=>exact .inr aaB
  | fl m=>cases m
theorem MT {fs:List (Key×V)} {t:Int} {v:V} (h:j6 fs (Sum.inl t)=none):putK fs (Sum.inl t) v=fs++[(Sum.inl t,v)]:=xu v h
theorem Zz {ts:List Int} {t:Int}:(j6 (ts.map tkv) (Sum.inl t)).isSome=decide (t∈ts):=by
 induction ts with
 | nil=>rfl
 | cons a r ih =>
  rw [List.map_cons]
  by_cases e:a=t
  ·subst e
   rw [mx (p:=tkv a) (k:=Sum.inl a) rfl]
   simp
  ·rw [mz (p:=tkv a) (fun z=>e (Sum.inl.inj z)),ih]
   have:(t∈a::r)↔t∈r:=by
    rw [List.mem_cons]
    exact ⟨fun h=>h.elim (fun z=>absurd z.symm e) id,.inr⟩
   simp only [this]
theorem Good.Ny {s:HS} (g:Good s):∀ w,(s.nxt,w)∉s.aS:=fun w m=>by have:=(g.lt _ _ m).2;omega
def MU (D:Ad):Sp:=fun vs H Q E=>∃ x A s,∃ h n:Int,vs=[.ref x,.int h,.int n]∧IH D H x A s∧Good s∧ok8 h∧0≤n∧n≤6∧∀ A' H',IH D H' x A' (Hz s h n)→Fr (bX x A s) H (bX x A' (Hz s h n)) H'→Q .non H'
theorem Jw:∀ (n:Nat) (l:List Int) (a:Int),l.Pairwise (·< ·)→(∀ t∈l,a≤t∧t<a+n)→l.length≤n
 | _,[],_,_,_=>Nat.zero_le _
 | 0,b::r,a,_,h=>by have:=h b List.mem_cons_self;omega
 | n+1,b::r,a,p,h=>by
  have hb:=h b List.mem_cons_self
  have:=Jw n r (a+1) (List.pairwise_cons.mp p).2 fun t m=>by
   have h1:=(List.pairwise_cons.mp p).1 t m
   have h2:=h t (List.mem_cons_of_mem _ m)
   omega
  rw [List.length_cons]
  omega
theorem C9 {s:HS} (g:Good s):s.yng.length≤10000:=by
 refine Jw 10000 s.yng 0 g.Bp fun t m=>?_
 obtain ⟨ws,m⟩:=g.yk t m
 have:=g.lt _ _ m
 have:=g.nx
 omega
theorem Kb {s:HS} (g:Good s):s.de.length≤10000:=by
 refine Jw 10000 s.de 0 g.Cr fun t m=>?_
 obtain ⟨ws,m⟩:=g.dk t m
 have:=g.lt _ _ m
 have:=g.nx
 omega
abbrev yd:List Str:=["self", "h", "n", "t"]
theorem mL:aA yd ["self", "h", "n"] (au jV):=⟨rfl,rfl,rfl,by decide +kernel,rfl,by decide +kernel,by decide +kernel⟩
theorem vg (F:Fun K "add_thing" "Heap.add_thing" jV D.bO D.gf) (T:Txt K mg D)
  (cb:Ok P w K mg base 3 D.cE D.fT ["t"] (jx))
  (bW:Ok P w K mg base 4 D.dS D.gG ["self", "h", "word"] (sD D)):Ok P w K mg base 5 D.bO D.gf ["self", "h", "n"] (MU D):=by
 refine ⟨?_,F.binds (ps:=["self", "h", "n"]) fun _ _ _ _ _ _ us hl=>match us,hl with|[_,_,_],_=>rfl⟩
 refine F.okE mL (fun vs H Q E h=>?_) (fun cdv A' outer s' H vs Q E hr h=>?_)
 ·obtain ⟨x,A,s,h,n,rfl,_⟩:=h
  rfl
 ·obtain ⟨x,A,s,h,n,rfl,J,G,c,n0,n6,k⟩:=h
  have hu:=kT hr
  refine ⟨_,(aj (bp (i:=3) mL.nd rfl (Or.inl rfl) (aN (pv 0) rfl))
   (aj (gF (pv 0) (dD Bi (pv 3) aq) rfl)
   (aj (qg hu (aN (pv 0) rfl) (pv 3) (dD CS (jM (ab gS ao)) (pv 2)) rfl)
   (aj (bB (oB (aN (pv 0) rfl))
    (ai (qg hu (aN (pv 0) rfl) (pv 3) pD rfl))
    aP)
   (ai (aM (aQ (aN (pv 0) rfl) T.aV T.kZ bW.g (hr.mono (by decide)) bW.b .nil (Passes.x (aT fun _ _ _ q=>q)) (ab (pv 1) (ab (br cb.g (hr.mono (by decide)) rfl T.nI T.iS cb.b .nil (Passes.x (aT fun _ _ _ q=>q)) (ab (pv 3) ao)) ao))))))))),?_⟩
  refine ⟨_,rfl,x,D.aa,_,_,.int s.nxt,rfl,J.ax,T.af,T.gw,Y2,?_⟩
  refine ⟨_,rfl,s.nxt,1,rfl,rfl,_,rfl,x,D.aa,A.dx,_,rfl,J.ax,T.af,T.gw,by show 11<1000;decide,?_⟩
  have w1:=J.aaz (n:=s.nxt+1)
  obtain ⟨H1,e1⟩:∃ H1,upd H x (.ins D.aa A.dx (gu "next_thing" (.int (s.nxt+1)) (atts A s)))=H1:=⟨_,rfl⟩
  rw [e1] at w1
  show Ft _ _ _ _ (upd H x (.ins D.aa A.dx (gu "next_thing" (.int (s.nxt+1)) (atts A s))))
  rw [e1]
  clear e1
  obtain ⟨J1,F1⟩:=w1
  refine ⟨by show 1≤sizeLine;decide,fun p hp=>⟨_,rfl,p,n,_,rfl,rfl,ag,by omega,by omega,xn (by show 1*n.toNat≤20000;omega),fun q hq=>?_⟩⟩
  rw [Ka]
  have s2:aG H1 (upd H1 p (.lst [.non])):=aG.upd hp
  have J2:=J1.same s2
  have w2:=J2.Y9 (t:=s.nxt) (xs:=List.replicate n.toNat .non) (ws:=List.replicate n.toNat .no) hq G.Ny Rel.nil
  obtain ⟨J3,F3⟩:=w2
  have J2':=J2.same (aG.upd (o:=.lst (List.replicate n.toNat .non)) hq)
  have vn:j6 (s.aS.map (fkv A)) (Sum.inl s.nxt)=none:=by
   rw [MR]
   cases e:s.aS.lookup s.nxt with
   | none=>rfl
   | some w=>exact absurd (lookup_some e) (G.Ny w)
  have dp:=DS.k (k:=Sum.inl s.nxt) (v:=.ref q) J2'.afh (by rw [List.length_map];exact qt (Nat.le_trans G.few (by decide)))
  rw [show putK ((({s with nxt:=s.nxt+1}:HS).aS).map (fkv A)) (Sum.inl s.nxt) (.ref q)=s.aS.map (fkv A)++[(Sum.inl s.nxt,.ref q)] from MT vn] at dp
  refine ⟨_,rfl,x,D.aa,_,_,.ref A.fh,rfl,J2'.ax,T.af,T.aE,sg,_,rfl,A.fh,_,rfl,dp,?_⟩
  have F03:=(F1.trans (Fr.same s2)).trans F3
  obtain ⟨A3,eA⟩:∃ A3:HA,{A with fa:=fun u=>if u=s.nxt then q else A.fa u,fx:=fun u=>if u=s.nxt then List.replicate n.toNat V.non else A.fx u}=A3:=⟨_,rfl⟩
  obtain ⟨H3,e3⟩:∃ H3,upd (upd (upd H1 p (.lst [.non])) q (.lst (List.replicate n.toNat .non))) A.fh (.dK (s.aS.map (fkv A)++[(Sum.inl s.nxt,.ref q)]))=H3:=⟨_,rfl⟩
  have J3:IH D H3 x A3 {s with nxt:=s.nxt+1,aS:=s.aS++[(s.nxt,List.replicate n.toNat .no)]}:=by rw [←e3,←eA];exact J3
  have F03:Fr (bX x A s) H (bX x A3 {s with nxt:=s.nxt+1,aS:=s.aS++[(s.nxt,List.replicate n.toNat .no)]}) H3:=by rw [←e3,←eA];exact F03
  show Ft _ _ _ _ (upd (upd (upd H1 p (.lst [.non])) q (.lst (List.replicate n.toNat .non))) A.fh (.dK (s.aS.map (fkv A)++[(Sum.inl s.nxt,.ref q)])))
  rw [e3]
  clear e3 eA dp J2'
  have fin:∀ (A4:HA) (H4:Hp) (ys:List Int),IH D H4 x A4 {s with nxt:=s.nxt+1,aS:=s.aS++[(s.nxt,List.replicate n.toNat .no)],yng:=ys}→Fr (bX x A s) H (bX x A4 {s with nxt:=s.nxt+1,aS:=s.aS++[(s.nxt,List.replicate n.toNat .no)],yng:=ys}) H4→(if s.my=true then s.yng++[s.nxt] else s.yng)=ys→∀ (t:Addr) (H5:Hp),aG H4 H5→H5 t=some (.tup [.str "thing",.int s.nxt])→sD D [.ref A4.hd,.int h,.ref t] H5 (fun _ H'=>Q .non H') E:=by
   intro A4 H4 ys J4 F4 ey t H5 s5 ht
   have J5:=J4.same s5
   refine ⟨A4.hd,A4.hdx,A4.hl,A4.hx,s.aH,.ref t,h,rfl,⟨J5.ahd,J5.ahl,J5.rhl,G.h8⟩,Sm.of (by omega) (by omega),?_⟩
   rw [if_pos c]
   have w:=J5.LH (J5.rhl.set (i:=h.toNat) (show WV H5 (.ref t) (.th s.nxt) from ⟨t,rfl,ht⟩))
   have e:Hz s h n={s with nxt:=s.nxt+1,aS:=s.aS++[(s.nxt,List.replicate n.toNat .no)],yng:=ys,aH:=s.aH.set h.toNat (.th s.nxt)}:=by unfold Hz;rw [ey]
   rw [e] at k
   exact k _ _ w.1 ((F4.trans (Fr.same s5)).trans w.2)
  refine ⟨_,rfl,x,D.aa,_,_,_,rfl,J3.ax,T.af,T.fX,RT,_,rfl,?_⟩
  by_cases my:s.my=true
  ·refine IQ my ⟨_,rfl,x,D.aa,_,_,_,rfl,J3.ax,T.af,T.bq,II,_,rfl,A3.yg,_,rfl,DS.k (k:=Sum.inl s.nxt) J3.ayg (by rw [List.length_map];exact qt (Nat.le_trans (show s.yng.length≤10000 from C9 G) (by decide))),?_⟩
   have vy:j6 (s.yng.map tkv) (Sum.inl s.nxt)=none:=by
    have:=Zz (ts:=s.yng) (t:=s.nxt)
    rw [decide_eq_false (fun m=>by obtain ⟨ws,m⟩:=G.yk _ m;exact G.Ny ws m)] at this
    cases q:j6 (s.yng.map tkv) (Sum.inl s.nxt) with
    | none=>rfl
    | some v=>rw [q] at this;cases this
   have w4:=J3.aay (ts:=s.yng++[s.nxt])
   rw [List.map_append] at w4
   rw [show putK ((({s with nxt:=s.nxt+1,aS:=s.aS++[(s.nxt,List.replicate n.toNat .no)]}:HS).yng).map tkv) (Sum.inl s.nxt) (.bl true)=s.yng.map tkv++[s.nxt].map tkv from MT vy]
   obtain ⟨J4,F4⟩:=w4
   refine ⟨_,rfl,x,D.aa,_,_,_,rfl,J4.ax,T.af,T.ay,k9,A3.hd,A3.hdx,_,rfl,J4.ahd,rfl,_,rfl,_,rfl,s.nxt,rfl,G.n0,fun t H5 s5 ht=>?_⟩
   exact fin _ _ _ J4 (F03.trans F4) (by rw [if_pos my]) t H5 s5 ht
  ·refine xA (Bool.eq_false_iff.mpr my) ?_
   refine ⟨_,rfl,x,D.aa,_,_,_,rfl,J3.ax,T.af,T.ay,k9,A3.hd,A3.hdx,_,rfl,J3.ahd,rfl,_,rfl,_,rfl,s.nxt,rfl,G.n0,fun t H5 s5 ht=>?_⟩
   exact fin _ _ _ J3 F03 (by rw [if_neg my]) t H5 s5 ht
def HC (D:Ad):Sp:=fun vs H Q E=>∃ x A s,∃ h w:Int,vs=[.ref x,.int h,.int w]∧IH D H x A s∧Good s∧Sm h∧Sm w∧(if ok8 h then (if ok8 w then ∀ A' H',IH D H' x A' (mK s h (nmW (s.names.getD w.toNat none)))→Fr (bX x A s) H (bX x A' (mK s h (nmW (s.names.getD w.toNat none)))) H'→Q (nmV (s.names.getD w.toNat none)) H' else Bad D.dA H E) else Bad D.bg H E)
abbrev vh:List Str:=["self", "h", "w", "t"]
theorem lE:aA vh ["self", "h", "w"] (au jk):=⟨rfl,rfl,rfl,by decide +kernel,rfl,by decide +kernel,by decide +kernel⟩
theorem tw (F:Fun K "read_thing" "Heap.read_thing" jk D.bD D.fE) (T:Txt K mg D)
  (az:Ok P w K mg base 3 D.bc D.b7 ["h"] (dt D))
  (gZ:Ok P w K mg base 4 D.cu D.fD ["self", "w"] (Hw D))
  (bW:Ok P w K mg base 4 D.dS D.gG ["self", "h", "word"] (sD D))
  (cb:Ok P w K mg base 3 D.cE D.fT ["t"] (jx)):Ok P w K mg base 5 D.bD D.fE ["self", "h", "w"] (HC D):=by
 refine ⟨?_,F.binds (ps:=["self", "h", "w"]) fun _ _ _ _ _ _ us hl=>match us,hl with|[_,_,_],_=>rfl⟩
 refine F.okE lE (fun vs H Q E h=>?_) (fun cdv A' outer s' H vs Q E hr h=>?_)
 ·obtain ⟨x,A,s,h,w,rfl,_⟩:=h
  rfl
 ·obtain ⟨x,A,s,h,w,rfl,J,G,hh,hw,k⟩:=h
  refine ⟨_,(aj (aM (br az.g (hr.mono (by decide)) rfl T.fe T.da az.b .nil (Passes.x (aT fun _ _ _ q=>q)) (ab (pv 1) ao)))
   (aj (bp (i:=3) lE.nd rfl (Or.inl rfl) (aQ (aN (pv 0) rfl) T.eL T.sR gZ.g (hr.mono (by decide)) gZ.b .nil (Passes.x (aT fun _ _ _ q=>q)) (ab (pv 2) ao)))
   (aj (aM (aQ (aN (pv 0) rfl) T.aV T.kZ bW.g (hr.mono (by decide)) bW.b .nil (Passes.x (aT fun _ _ _ q=>q)) (ab (pv 1) (ab (xq (aI Fz (pv 3) gS (aU _)) gS (br cb.g (hr.mono (by decide)) rfl T.nI T.iS cb.b .nil (Passes.x (aT fun _ _ _ q=>q)) (ab (pv 3) ao))) ao))))
   (ai (aX (pv 3)))))),?_⟩
  refine ⟨_,rfl,h,rfl,hh,?_⟩
  by_cases c:ok8 h
  ·rw [if_pos c] at k ⊢
   refine ⟨_,rfl,x,D.aa,_,_,.ref A.nt,rfl,J.ax,T.af,T.ej,Nw,A.nt,A.ntx,_,rfl,J.ant,rfl,_,rfl,A.nt,A.ntx,A.nl,_,w,rfl,J.ntb G,hw,?_⟩
   by_cases c2:ok8 w
   ·rw [if_pos c2] at k ⊢
    intro v hv
    have hi:w.toNat<s.names.length:=by rw [G.n8];omega
    rw [List.getElem?_map,List.getElem?_eq_getElem hi] at hv
    obtain rfl:nmV s.names[w.toNat]=v:=Option.some.inj hv
    have gd:s.names.getD w.toNat none=s.names[w.toNat]:=by simp [List.getD,hi]
    rw [gd] at k
    have mm:s.names[w.toNat]∈s.names:=List.getElem_mem hi
    obtain ⟨z,ez⟩:∃ z,s.names[w.toNat]=z:=⟨_,rfl⟩
    rw [ez] at k mm ⊢
    refine ⟨_,rfl,x,D.aa,_,_,.ref A.hd,rfl,J.ax,T.af,T.ay,k9,A.hd,A.hdx,_,rfl,J.ahd,rfl,_,rfl,?_⟩
    cases z with
    | none =>
     refine ⟨_,rfl,rfl,_,rfl,av (fun _=>?_) (fun h=>absurd (by simp [nmV]) h)⟩
     refine ⟨A.hd,A.hdx,A.hl,A.hx,s.aH,.non,h,rfl,J.hn G,hh,?_⟩
     rw [if_pos c]
     exact ⟨_,rfl,let w:=J.LH (J.rhl.set (i:=h.toNat) (show WV H .non .no from rfl));k _ _ w.1 w.2⟩
    | some t =>
     obtain ⟨ws,m⟩:=G.nn t mm
     refine ⟨_,rfl,rfl,_,rfl,av (fun h=>by simp [nmV] at h) (fun _=>?_)⟩
     refine ⟨_,rfl,t,rfl,(G.lt _ _ m).1,fun p H1 s1 hp=>?_⟩
     have J1:=J.same s1
     refine ⟨A.hd,A.hdx,A.hl,A.hx,s.aH,.ref p,h,rfl,J1.hn G,hh,?_⟩
     rw [if_pos c]
     exact ⟨_,rfl,let w:=J1.LH (J1.rhl.set (i:=h.toNat) (show WV H1 (.ref p) (.th t) from ⟨p,rfl,hp⟩));k _ _ w.1 ((Fr.same s1).trans w.2)⟩
   ·rw [if_neg c2] at k ⊢
    exact k
  ·rw [if_neg c] at k ⊢
   exact k
def CL (D:Ad):Sp:=fun vs H Q E=>∃ x A s d kvs ts,vs=[.ref x,.ref d]∧IH D H x A s∧Good s∧H d=some (.dK kvs)∧kvs.map (·.1)=ts.map Sum.inl∧(∀ t∈ts,∃ ws,(t,ws)∈s.aS)∧ts.length≤10000∧∀ H',aG H H'→Q (.int (wsum s ts)) H'
abbrev lF:List Str:=["self", "things"]
theorem rB:aA lF ["self", "things"] (au gA):=⟨rfl,rfl,rfl,by decide +kernel,rfl,by decide +kernel,by decide +kernel⟩
theorem rC (F:Fun K "words_among" "Heap.words_among" gA D.a6 D.dB) (T:Txt K mg D)
  (iu:Ok P w K mg base 3 D.fW D.j9 ["fields"] (rh D)):Ok P w K mg base 4 D.a6 D.dB ["self", "things"] (CL D):=by
 refine ⟨?_,F.binds (ps:=["self", "things"]) fun _ _ _ _ _ _ us hl=>match us,hl with|[_,_],_=>rfl⟩
 refine F.okE rB (fun vs H Q E h=>?_) (fun cdv A' outer s' H vs Q E hr h=>?_)
 ·obtain ⟨x,A,s,d,kvs,ts,rfl,_⟩:=h
  rfl
 ·obtain ⟨x,A,s,d,kvs,ts,rfl,J,G,hd,hk,ht,hz,k⟩:=h
  have hu:=kT hr
  refine ⟨_,(ai (aX (MM (fi (K6 rfl) rfl T.Nu PyProof.Rows.Boot.«sum» (ab (xO (cl:=[("self",s'.heap.objs.size+1)]) (x := "t") (idx:=[0]) (NC:=["t", "self"]) ?co1 rfl (sr (Bj (pv 1))) (fun C fp s₀ H₀=>(br iu.g (hr.mono (by decide)) rfl T.Cn T.pG iu.b .nil Im (ab (fi (K9 rfl) rfl T.ql PyProof.Rows.Boot.«len» (ab (qf hu (Oi rfl (pv 1) rfl) (pv 0) (fun _ _=>rfl)) ao)) ao)))) ao))))),?_⟩
  case co1 =>
   exact sq (sc:=au gA) (N:=lF) (ns:=["self"]) rfl rfl rfl (by decide +kernel) rfl rfl (by
    intro q hq
    rw [List.mem_singleton.mp hq]
    rfl)
  have lk:kvs.length=ts.length:=by have:=congrArg List.length hk;simpa using this
  refine ⟨_,rfl,d,kvs,hd,fun o=>?_⟩
  refine ⟨d,o,kvs,rfl,ag,fun L hL=>?_⟩
  obtain ⟨Hf,ef⟩:∃ Hf,upd H d (.frz o (.dK kvs))=Hf:=⟨_,rfl⟩
  rw [ef] at hL ⊢
  have fd:Hf d=some (.frz o (.dK kvs)):=by rw [←ef];exact ag
  have fo:∀ b u,b≠d→H b=some u→Hf b=some u:=fun b u n q=>by rw [←ef,ae n];exact q
  have xd:x≠d:=aw J.ax hd (by intro z;cases z)
  have dg:∀ {Hc:Hp},aG Hf Hc→∀ {t:Int} {ws:List Wd},(t,ws)∈s.aS→rk Hc A.fh (.int t) (some (.ref (A.fa t))):=fun {Hc} sc {t ws} m=>by
   have e:j6 (s.aS.map (fkv A)) (Sum.inl t)=some (.ref (A.fa t)):=by rw [MR,G.get m];rfl
   by_cases c:A.fh=d
   ·have ek:kvs=s.aS.map (fkv A):=by
     have:=J.afh
     rw [c,hd] at this
     injection this with this
     injection this
    exact .inl ⟨kvs,Sum.inl t,.inr ⟨o,by rw [c];exact sc _ _ fd⟩,rfl,by rw [ek,e]⟩
   ·exact .inl ⟨_,Sum.inl t,.inl (sc _ _ (fo _ _ c J.afh)),rfl,e.symm⟩
  refine K7 (d:=d) (o:=o) (kvs:=kvs) (fun i ys Hc=>ys=((ts.take i).map fun t=>V.int (((fld s t).length:Int)+1))∧aG Hf Hc∧Hc L=some (.lst ys)) ⟨rfl,aG.upd hL,ag⟩ (fun i ys Hc hi ⟨e,_,z⟩=>⟨z,by rw [e,List.length_map,List.length_take];omega⟩) (fun i ys Hc _ ⟨_,sc,_⟩=>sc _ _ fd) (xn (by omega)) (fun i p ys Hc hi ⟨e,sc,z⟩=>?_) (fun ys Hc ⟨e,sc,z⟩=>?_)
  ·have hik:i<kvs.length:=(List.getElem?_eq_some_iff.mp hi).1
   have hit:i<ts.length:=by omega
   have ep:p.1=Sum.inl ts[i]:=by
    have h1:=congrArg (fun l=>l[i]?) hk
    simp only [List.getElem?_map,hi,List.getElem?_eq_getElem hit,Option.map_some,Option.some.injEq] at h1
    exact h1
   have hkv:kV p.1=.int ts[i]:=by rw [ep];rfl
   obtain ⟨t,et⟩:∃ t,ts[i]=t:=⟨_,rfl⟩
   obtain ⟨ws,m⟩:=ht t (by rw [←et];exact List.getElem_mem hit)
   have fm:=G.fld m
   obtain ⟨hl,rl⟩:=J.afl _ _ m
   have f6:=G.f6 _ _ m
   have ln:=rl.1
   have nld:A.fa t≠d:=aw hl hd (by intro z;cases z)
   have hlc:=sc _ _ (fo _ _ nld hl)
   refine ⟨_,rfl,x,D.aa,_,_,.ref A.fh,rfl,sc _ _ (fo _ _ xd J.ax),T.af,T.aE,sg,_,rfl,A.fh,.ref (A.fa t),rfl,(by rw [hkv,et];exact dg sc m),A.fa t,_,rfl,.inl (SqL.of hlc),((A.fx t).length:Int),rfl,Sm.of (by omega) (by omega),?_⟩
   rw [if_pos ⟨by omega,by omega⟩]
   refine ⟨z,?_,fun b u q=>by rw [ae (ar q hL)];exact sc b u q,ag⟩
   rw [e,List.take_succ_eq_append_getElem hit,List.map_append,et]
   simp only [List.map_cons,List.map_nil]
   rw [fm,ln]
  ·rw [lk,List.take_of_length_le (Nat.le_refl _)] at e
   refine ⟨L,ts.map fun t=>((fld s t).length:Int)+1,rfl,SqL.of (by rw [z,e,List.map_map];rfl),d,o,kvs,sc _ _ fd,(fun o' u' z=>by have z:H d=some (.frz o' u'):=z;rw [hd] at z;cases z),?_⟩
   refine k _ fun b u q=>?_
   by_cases c:b=d
   ·subst c
    rw [hd] at q
    cases q
    exact ag
   ·rw [ae c]
    exact sc _ _ (fo _ _ c q)
def Kc (D:Ad):Sp:=fun vs H Q E=>∃ x A s,vs=[.ref x]∧IH D H x A s∧Good s∧∀ H',aG H H'→Q (.int (held s)) H'
abbrev ye:List Str:=["self"]
theorem vi:aA ye ["self"] (au j0):=⟨rfl,rfl,rfl,by decide +kernel,rfl,by decide +kernel,by decide +kernel⟩
theorem vj (F:Fun K "held" "IdealHeap.held" j0 D.cU D.gm) (T:Txt K mg D)
  (b6:Ok P w K mg base 4 D.a6 D.dB ["self", "things"] (CL D)):Ok P w K mg base 5 D.cU D.gm ["self"] (Kc D):=by
 refine ⟨?_,F.binds (ps:=["self"]) fun _ _ _ _ _ _ us hl=>match us,hl with|[_],_=>rfl⟩
 refine F.okE vi (fun vs H Q E h=>?_) (fun cdv A' outer s' H vs Q E hr h=>?_)
 ·obtain ⟨x,A,s,rfl,_⟩:=h
  rfl
 ·obtain ⟨x,A,s,rfl,J,G,k⟩:=h
  refine ⟨_,(ai (aX (aQ (pv 0) T.af T.iN b6.g (hr.mono (by decide)) b6.b .nil (Passes.x (aT fun _ _ _ q=>q)) (ab (aN (pv 0) rfl) ao)))),?_⟩
  exact ⟨_,rfl,x,_,_,rfl,J.ax,(by kernel_rfl),_,rfl,x,D.aa,_,_,.ref A.fh,rfl,J.ax,T.af,T.aE,sg,x,A,s,A.fh,_,keys s,rfl,J,G,J.afh,by rw [List.map_map];unfold keys;rw [List.map_map];rfl,(fun t m=>by obtain ⟨p,hp,rfl⟩:=List.mem_map.mp m;exact ⟨p.2,hp⟩),by unfold keys;rw [List.length_map];exact G.few,k⟩
def HD (D:Ad):Sp:=fun vs H Q E=>∃ x A s,∃ h:Int,vs=[.ref x,.int h]∧IH D H x A s∧Good s∧Sm h∧(match wat s.aH h with|some wd=>∀ H',aG H H'→Q (.str wd.kind) H'|none=>Bad D.bg H E)
abbrev yh:List Str:=["self", "h"]
theorem vk:aA yh ["self", "h"] (au jY):=⟨rfl,rfl,rfl,by decide +kernel,rfl,by decide +kernel,by decide +kernel⟩
theorem vm (F:Fun K "kind" "IdealHeap.kind" jY D.cS D.gj) (T:Txt K mg D)
  (cL:Ok P w K mg base 5 D.dO D.gJ ["self", "h"] (xy D)):Ok P w K mg base 6 D.cS D.gj ["self", "h"] (HD D):=by
 refine ⟨?_,F.binds (ps:=["self", "h"]) fun _ _ _ _ _ _ us hl=>match us,hl with|[_,_],_=>rfl⟩
 refine F.okE vk (fun vs H Q E h=>?_) (fun cdv A' outer s' H vs Q E hr h=>?_)
 ·obtain ⟨x,A,s,h,rfl,_⟩:=h
  rfl
 ·obtain ⟨x,A,s,h,rfl,J,G,hh,k⟩:=h
  have hu:=kT hr
  refine ⟨_,(ai (aX (aQ (aN (pv 0) rfl) T.aV T.nG cL.g (hr.mono (by decide)) cL.b .nil (Passes.x (aT fun _ _ _ q=>q)) (ab (pv 1) ao)))),?_⟩
  exact ⟨_,rfl,x,D.aa,_,_,.ref A.hd,rfl,J.ax,T.af,T.ay,k9,A.hd,A.hdx,_,rfl,J.ahd,rfl,_,rfl,A.hd,A.hdx,A.hl,A.hx,s.aH,h,rfl,J.hn G,hh,k⟩
def DZ (D:Ad):Sp:=fun vs H Q E=>∃ x A s,∃ h:Int,vs=[.ref x,.int h]∧IH D H x A s∧Good s∧Sm h∧(match wat s.aH h with|some (.num x)=>∀ H',aG H H'→Q (.int x) H'|_=>Bad D.bg H E)
abbrev vo:List Str:=["self", "h"]
theorem tD:aA vo ["self", "h"] (au jl):=⟨rfl,rfl,rfl,by decide +kernel,rfl,by decide +kernel,by decide +kernel⟩
theorem tE (F:Fun K "value" "IdealHeap.value" jl D.cv D.fF) (T:Txt K mg D)
  (ke:Ok P w K mg base 6 D.eK D.iP ["self", "h"] (Ht D)):Ok P w K mg base 7 D.cv D.fF ["self", "h"] (DZ D):=by
 refine ⟨?_,F.binds (ps:=["self", "h"]) fun _ _ _ _ _ _ us hl=>match us,hl with|[_,_],_=>rfl⟩
 refine F.okE tD (fun vs H Q E h=>?_) (fun cdv A' outer s' H vs Q E hr h=>?_)
 ·obtain ⟨x,A,s,h,rfl,_⟩:=h
  rfl
 ·obtain ⟨x,A,s,h,rfl,J,G,hh,k⟩:=h
  have hu:=kT hr
  refine ⟨_,(ai (aX (aQ (aN (pv 0) rfl) T.aV T.Bq ke.g (hr.mono (by decide)) ke.b .nil (Passes.x (aT fun _ _ _ q=>q)) (ab (pv 1) ao)))),?_⟩
  exact ⟨_,rfl,x,D.aa,_,_,.ref A.hd,rfl,J.ax,T.af,T.ay,k9,A.hd,A.hdx,_,rfl,J.ahd,rfl,_,rfl,A.hd,A.hdx,A.hl,A.hx,s.aH,h,rfl,J.hn G,hh,k⟩
def HE (D:Ad):Sp:=fun vs H Q E=>∃ x A s,∃ h g:Int,vs=[.ref x,.int h,.int g]∧IH D H x A s∧Good s∧Sm h∧Sm g∧(match wat s.aH h,wat s.aH g with|some a,some b=>Q (.bl (decide (a=b))) H|_,_=>Bad D.bg H E)
abbrev yi:List Str:=["self", "h", "g"]
theorem vp:aA yi ["self", "h", "g"] (au jZ):=⟨rfl,rfl,rfl,by decide +kernel,rfl,by decide +kernel,by decide +kernel⟩
theorem vq (F:Fun K "same" "IdealHeap.same" jZ D.cT D.gk) (T:Txt K mg D)
  (lj:Ok P w K mg base 5 D.fM D.jC ["self", "h", "g"] (Hu D)):Ok P w K mg base 6 D.cT D.gk ["self", "h", "g"] (HE D):=by
 refine ⟨?_,F.binds (ps:=["self", "h", "g"]) fun _ _ _ _ _ _ us hl=>match us,hl with|[_,_,_],_=>rfl⟩
 refine F.okE vp (fun vs H Q E h=>?_) (fun cdv A' outer s' H vs Q E hr h=>?_)
 ·obtain ⟨x,A,s,h,g,rfl,_⟩:=h
  rfl
 ·obtain ⟨x,A,s,h,g,rfl,J,G,hh,hg,k⟩:=h
  have hu:=kT hr
  refine ⟨_,(ai (aX (aQ (aN (pv 0) rfl) T.aV T.CY lj.g (hr.mono (by decide)) lj.b .nil (Passes.x (aT fun _ _ _ q=>q)) (ab (pv 1) (ab (pv 2) ao))))),?_⟩
  exact ⟨_,rfl,x,D.aa,_,_,.ref A.hd,rfl,J.ax,T.af,T.ay,k9,A.hd,A.hdx,_,rfl,J.ahd,rfl,_,rfl,_,rfl,A.hd,A.hdx,A.hl,A.hx,s.aH,h,g,rfl,J.hn G,hh,hg,k⟩
def Cs (D:Ad):Sp:=fun vs H Q E=>∃ x A s,∃ h:Int,vs=[.ref x,.int h]∧IH D H x A s∧Good s∧Sm h∧(match wat s.aH h with|some (.th t)=>∀ H',aG H H'→Q (.int (fld s t).length) H'|_=>Bad D.bg H E)
abbrev tF:List Str:=["self", "h"]
theorem rD:aA tF ["self", "h"] (au i0):=⟨rfl,rfl,rfl,by decide +kernel,rfl,by decide +kernel,by decide +kernel⟩
theorem rE (F:Fun K "fields" "IdealHeap.fields" i0 D.b4 D.eZ) (T:Txt K mg D)
  (aC:Ok P w K mg base 6 D.aZ D.bT ["self", "h"] (iI D)):Ok P w K mg base 7 D.b4 D.eZ ["self", "h"] (Cs D):=by
 refine ⟨?_,F.binds (ps:=["self", "h"]) fun _ _ _ _ _ _ us hl=>match us,hl with|[_,_],_=>rfl⟩
 refine F.okE rD (fun vs H Q E h=>?_) (fun cdv A' outer s' H vs Q E hr h=>?_)
 ·obtain ⟨x,A,s,h,rfl,_⟩:=h
  rfl
 ·obtain ⟨x,A,s,h,rfl,J,G,hh,k⟩:=h
  have hu:=kT hr
  refine ⟨_,(ai (aX (fi dN rfl T.ql PyProof.Rows.Boot.«len» (ab (qf hu (aN (pv 0) rfl) (aQ (aN (pv 0) rfl) T.aV T.e9 aC.g (hr.mono (by decide)) aC.b .nil (Passes.x (aT fun _ _ _ q=>q)) (ab (pv 1) ao)) (fun _ _=>rfl)) ao)))),?_⟩
  refine ⟨_,rfl,x,D.aa,_,_,.ref A.fh,rfl,J.ax,T.af,T.aE,sg,_,rfl,x,D.aa,_,_,.ref A.hd,rfl,J.ax,T.af,T.ay,k9,A.hd,A.hdx,_,rfl,J.ahd,rfl,_,rfl,A.hd,A.hdx,A.hl,A.hx,s.aH,h,rfl,J.hn G,hh,?_⟩
  cases e:wat s.aH h with
  | none=>rw [e] at k;exact k
  | some wd =>
   rw [e] at k
   cases wd with
   | no=>exact k
   | num n=>exact k
   | th t =>
    intro H1 s1
    have J1:=J.same s1
    have m:=G.hand e
    obtain ⟨hl,rl⟩:=J1.afl _ _ m
    refine ⟨A.fh,_,rfl,J1.W6 G m,A.fa t,_,rfl,.inl (SqL.of hl),?_⟩
    rw [rl.1]
    exact k H1 s1
theorem zN {F F':Addr→Prop} {H:Hp} {p b:Addr} {u o o':HO} (hp:H p=none) (f:F b) (hb:H b=some u) (n:∀ xs,u≠.tup xs) (g:∀ c,F' c→F c∨c=p):Fr F H F' (upd (upd H p o) b o') where
 ext:=fun c v nf q=>by rw [ae fun e=>nf (by rw [e];exact f),ae (ar q hp)];exact q
 grow:=fun c f'=>(g c f').imp id fun e=>by rw [e];exact hp
 all:=fun c v q=>by
  by_cases e:c=b
  ·exact ⟨o',by rw [e];exact ag⟩
  ·exact ⟨v,by rw [ae e,ae (ar q hp)];exact q⟩
 tup:=(dr.of (aG.upd hp)).trans (dr.set (aG.upd hp _ _ hb) n)
section
variable {D:Ad} {H H':Hp} {x:Addr} {A A':HA} {s s':HS}
theorem IH.aaC (J:IH D H x A s) {p:Addr} (hp:H p=none):IH D (upd (upd H p (.dK [])) x (.ins D.aa A.dx (gu "young_things" (.ref p) (atts A s)))) x {A with yg:=p} {s with yng:=[]}∧Fr (bX x A s) H (bX x {A with yg:=p} {s with yng:=[]}) (upd (upd H p (.dK [])) x (.ins D.aa A.dx (gu "young_things" (.ref p) (atts A s)))):=by
 have s1:aG H (upd H p (.dK [])):=aG.upd hp
 have nf:¬bX x A s p:=J.fresh hp
 have pp:upd H p (.dK []) p=some (.dK []):=ag
 refine ⟨?_,zN hp (.x) J.ax (fun _ z=>nomatch z) (fun c f=>?_)⟩
 ·have J:=J.same s1
  have tk:dr (upd H p (.dK [])) (upd (upd H p (.dK [])) x (.ins D.aa A.dx (gu "young_things" (.ref p) (atts A s)))):=dr.set J.ax (fun _ z=>nomatch z)
  exact ⟨(by rw [ag,Y7];rfl),(by rw [ae (aw J.ahd J.ax (kc (show (1:Nat)≠11 by decide)))];exact J.ahd),(by rw [ae (aw J.ahl J.ax (by intro z;cases z))];exact J.ahl),J.rhl.keep tk,(by rw [ae (aw J.ant J.ax (kc (show (1:Nat)≠11 by decide)))];exact J.ant),(by rw [ae (aw J.anl J.ax (by intro z;cases z))];exact J.anl),(by rw [ae (aw J.awt J.ax (kc (show (2:Nat)≠11 by decide)))];exact J.awt),(by rw [ae (aw J.awb J.ax (by intro z;cases z))];exact J.awb),(by rw [ae (aw J.awl J.ax (by intro z;cases z))];exact J.awl),(by rw [ae (aw J.afh J.ax (by intro z;cases z))];exact J.afh),(fun t ws m=>⟨by rw [ae (aw (J.afl _ _ m).1 J.ax (by intro z;cases z))];exact (J.afl _ _ m).1,(J.afl _ _ m).2.keep tk⟩),(by show upd _ _ _ p=_;rw [ae fun e=>nf (by rw [e];exact .x)];exact pp),(by rw [ae (aw J.adm J.ax (by intro z;cases z))];exact J.adm),J.nhn,J.l1,J.l2,J.l3,J.l4,J.l5,J.d1,(fun (e:A.wb=p)=>nf (by rw [←e];exact .wb)),J.d3,(fun (e:A.fh=p)=>nf (by rw [←e];exact .fh)),J.d5,(fun (e:p=A.dm)=>nf (by rw [e];exact .dm))⟩
 ·cases f with
  | x=>exact .inl .x
  | hd=>exact .inl .hd
  | hl=>exact .inl .hl
  | nt=>exact .inl .nt
  | nl=>exact .inl .nl
  | wt=>exact .inl .wt
  | wb=>exact .inl .wb
  | wl=>exact .inl .wl
  | fh=>exact .inl .fh
  | yg=>exact .inr rfl
  | dm=>exact .inl .dm
  | fl m=>exact .inl (.fl m)
theorem IH.aaD (J:IH D H x A s) {p:Addr} (hp:H p=none):IH D (upd (upd H p (.dK [])) x (.ins D.aa A.dx (gu "doomed_things" (.ref p) (atts A s)))) x {A with dm:=p} {s with de:=[]}∧Fr (bX x A s) H (bX x {A with dm:=p} {s with de:=[]}) (upd (upd H p (.dK [])) x (.ins D.aa A.dx (gu "doomed_things" (.ref p) (atts A s)))):=by
 have s1:aG H (upd H p (.dK [])):=aG.upd hp
 have nf:¬bX x A s p:=J.fresh hp
 have pp:upd H p (.dK []) p=some (.dK []):=ag
 refine ⟨?_,zN hp (.x) J.ax (fun _ z=>nomatch z) (fun c f=>?_)⟩
 ·have J:=J.same s1
  have tk:dr (upd H p (.dK [])) (upd (upd H p (.dK [])) x (.ins D.aa A.dx (gu "doomed_things" (.ref p) (atts A s)))):=dr.set J.ax (fun _ z=>nomatch z)
  exact ⟨(by rw [ag,Y8];rfl),(by rw [ae (aw J.ahd J.ax (kc (show (1:Nat)≠11 by decide)))];exact J.ahd),(by rw [ae (aw J.ahl J.ax (by intro z;cases z))];exact J.ahl),J.rhl.keep tk,(by rw [ae (aw J.ant J.ax (kc (show (1:Nat)≠11 by decide)))];exact J.ant),(by rw [ae (aw J.anl J.ax (by intro z;cases z))];exact J.anl),(by rw [ae (aw J.awt J.ax (kc (show (2:Nat)≠11 by decide)))];exact J.awt),(by rw [ae (aw J.awb J.ax (by intro z;cases z))];exact J.awb),(by rw [ae (aw J.awl J.ax (by intro z;cases z))];exact J.awl),(by rw [ae (aw J.afh J.ax (by intro z;cases z))];exact J.afh),(fun t ws m=>⟨by rw [ae (aw (J.afl _ _ m).1 J.ax (by intro z;cases z))];exact (J.afl _ _ m).1,(J.afl _ _ m).2.keep tk⟩),(by rw [ae (aw J.ayg J.ax (by intro z;cases z))];exact J.ayg),(by show upd _ _ _ p=_;rw [ae fun e=>nf (by rw [e];exact .x)];exact pp),J.nhn,J.l1,J.l2,J.l3,J.l4,J.l5,J.d1,J.d2,(fun (e:A.wb=p)=>nf (by rw [←e];exact .wb)),J.d4,(fun (e:A.fh=p)=>nf (by rw [←e];exact .fh)),(fun (e:A.yg=p)=>nf (by rw [←e];exact .yg))⟩
 ·cases f with
  | x=>exact .inl .x
  | hd=>exact .inl .hd
  | hl=>exact .inl .hl
  | nt=>exact .inl .nt
  | nl=>exact .inl .nl
  | wt=>exact .inl .wt
  | wb=>exact .inl .wb
  | wl=>exact .inl .wl
  | fh=>exact .inl .fh
  | yg=>exact .inl .yg
  | dm=>exact .inr rfl
  | fl m=>exact .inl (.fl m)
theorem IH.aaE (J:IH D H x A s) {ns:List (Option Int)} {p:Addr} (hp:H p=none):IH D (upd (upd H p (.lst (ns.map nmV))) A.nt (.ins D.aD A.ntx [("things_named",.ref p)])) x {A with nl:=p} {s with names:=ns}∧Fr (bX x A s) H (bX x {A with nl:=p} {s with names:=ns}) (upd (upd H p (.lst (ns.map nmV))) A.nt (.ins D.aD A.ntx [("things_named",.ref p)])):=by
 have s1:aG H (upd H p (.lst (ns.map nmV))):=aG.upd hp
 have nf:¬bX x A s p:=J.fresh hp
 have pp:upd H p (.lst (ns.map nmV)) p=some (.lst (ns.map nmV)):=ag
 refine ⟨?_,zN hp (.nt) J.ant (fun _ z=>nomatch z) (fun c f=>?_)⟩
 ·have J:=J.same s1
  have tk:dr (upd H p (.lst (ns.map nmV))) (upd (upd H p (.lst (ns.map nmV))) A.nt (.ins D.aD A.ntx [("things_named",.ref p)])):=dr.set J.ant (fun _ z=>nomatch z)
  exact ⟨(by rw [ae (aw J.ax J.ant (kc (show (11:Nat)≠1 by decide)))];exact J.ax),(by rw [ae J.nhn];exact J.ahd),(by rw [ae (aw J.ahl J.ant (by intro z;cases z))];exact J.ahl),J.rhl.keep tk,ag,(by show upd _ _ _ p=_;rw [ae fun e=>nf (by rw [e];exact .nt)];exact pp),(by rw [ae (aw J.awt J.ant (kc (show (2:Nat)≠1 by decide)))];exact J.awt),(by rw [ae (aw J.awb J.ant (by intro z;cases z))];exact J.awb),(by rw [ae (aw J.awl J.ant (by intro z;cases z))];exact J.awl),(by rw [ae (aw J.afh J.ant (by intro z;cases z))];exact J.afh),(fun t ws m=>⟨by rw [ae (aw (J.afl _ _ m).1 J.ant (by intro z;cases z))];exact (J.afl _ _ m).1,(J.afl _ _ m).2.keep tk⟩),(by rw [ae (aw J.ayg J.ant (by intro z;cases z))];exact J.ayg),(by rw [ae (aw J.adm J.ant (by intro z;cases z))];exact J.adm),J.nhn,(fun (e:A.hl=p)=>nf (by rw [←e];exact .hl)),J.l2,(fun (e:p=A.wl)=>nf (by rw [e];exact .wl)),(fun t ws m=>⟨(J.l4 _ _ m).1,(fun (e:A.fa t=p)=>nf (by rw [←e];exact .fl m)),(J.l4 _ _ m).2.2⟩),J.l5,J.d1,J.d2,J.d3,J.d4,J.d5,J.d6⟩
 ·cases f with
  | x=>exact .inl .x
  | hd=>exact .inl .hd
  | hl=>exact .inl .hl
  | nt=>exact .inl .nt
  | nl=>exact .inr rfl
  | wt=>exact .inl .wt
  | wb=>exact .inl .wb
  | wl=>exact .inl .wl
  | fh=>exact .inl .fh
  | yg=>exact .inl .yg
  | dm=>exact .inl .dm
  | fl m=>exact .inl (.fl m)
def uD (fs:List (Int×List Wd)) (t:Int):List (Int×List Wd):=fs.filter fun p=>decide (p.1≠t)
theorem ow {fs:List (Int×List Wd)} {t t':Int} {ws:List Wd}:(t',ws)∈uD fs t↔(t',ws)∈fs∧t'≠t:=by unfold uD;rw [List.mem_filter];simp
theorem Ov {fs:List (Int×List Wd)} {A:HA} {t:Int}:qj (fs.map (fkv A)) (Sum.inl t)=(uD fs t).map (fkv A):=by
 unfold qj uD
 rw [List.filter_map]
 congr 1
 refine List.filter_congr fun p _=>?_
 show decide (Sum.inl p.1≠(Sum.inl t:Key))=decide (p.1≠t)
 simp
theorem IH.Za (J:IH D H x A s) {t:Int}:IH D (upd H A.fh (.dK ((uD s.aS t).map (fkv A)))) x A {s with aS:=uD s.aS t}∧Fr (bX x A s) H (bX x A {s with aS:=uD s.aS t}) (upd H A.fh (.dK ((uD s.aS t).map (fkv A)))):=by
 have tk:dr H (upd H A.fh (.dK ((uD s.aS t).map (fkv A)))):=dr.set J.afh (fun _ z=>nomatch z)
 refine ⟨⟨(by rw [ae (aw J.ax J.afh (by intro z;cases z))];exact J.ax),(by rw [ae (aw J.ahd J.afh (by intro z;cases z))];exact J.ahd),(by rw [ae (aw J.ahl J.afh (by intro z;cases z))];exact J.ahl),J.rhl.keep tk,(by rw [ae (aw J.ant J.afh (by intro z;cases z))];exact J.ant),(by rw [ae (aw J.anl J.afh (by intro z;cases z))];exact J.anl),(by rw [ae (aw J.awt J.afh (by intro z;cases z))];exact J.awt),(by rw [ae J.d1];exact J.awb),(by rw [ae (aw J.awl J.afh (by intro z;cases z))];exact J.awl),ag,(fun u ws m'=>by have m:=(ow.mp m').1;exact ⟨by rw [ae (aw (J.afl _ _ m).1 J.afh (by intro z;cases z))];exact (J.afl _ _ m).1,(J.afl _ _ m).2.keep tk⟩),(by rw [ae (Ne.symm J.d4)];exact J.ayg),(by rw [ae (Ne.symm J.d5)];exact J.adm),J.nhn,J.l1,J.l2,J.l3,(fun u ws m=>J.l4 _ _ (ow.mp m).1),(fun u ws v w m m' e=>J.l5 _ _ _ _ (ow.mp m).1 (ow.mp m').1 e),J.d1,J.d2,J.d3,J.d4,J.d5,J.d6⟩,Fr.set .fh J.afh (fun _ z=>nomatch z) (fun c f=>?_)⟩
 cases f with
 | x=>exact .x
 | hd=>exact .hd
 | hl=>exact .hl
 | nt=>exact .nt
 | nl=>exact .nl
 | wt=>exact .wt
 | wb=>exact .wb
 | wl=>exact .wl
 | fh=>exact .fh
 | yg=>exact .yg
 | dm=>exact .dm
 | fl m=>exact .fl (ow.mp m).1
end
inductive Led (rs:List Wd) (F:Int→List Wd) (S:List Int):Int→Prop where
 | root {t:Int}:Wd.th t∈rs→t∈S→Led rs F S t
 | step {u t:Int}:Led rs F S u→Wd.th t∈F u→t∈S→Led rs F S t
theorem Led.mem {rs:List Wd} {F:Int→List Wd} {S:List Int} {t:Int} (h:Led rs F S t):t∈S:=by cases h<;>assumption
def amg (S:List Int):Wd→Option Int
 | .th t=>if t∈S then some t else none
 | _=>none
theorem oI {S:List Int} {w:Wd} {t:Int}:amg S w=some t↔w=.th t∧t∈S:=by
 cases w with
 | no=>exact ⟨(fun h=>by cases h),(fun h=>by cases h.1)⟩
 | num n=>exact ⟨(fun h=>by cases h),(fun h=>by cases h.1)⟩
 | th u =>
  show (if u∈S then some u else none)=some t↔_
  by_cases c:u∈S
  ·rw [if_pos c]
   exact ⟨(fun h=>by cases h;exact ⟨rfl,c⟩),(fun h=>by cases h.1;rfl)⟩
  ·rw [if_neg c]
   exact ⟨(fun h=>by cases h),(fun h=>by cases h.1;exact absurd h.2 c)⟩
inductive Rc (rs:List (Option Int)) (F:Int→List (Option Int)):Int→Prop where
 | root {t:Int}:some t∈rs→Rc rs F t
 | step {u t:Int}:Rc rs F u→some t∈F u→Rc rs F t
theorem WD {rs:List Wd} {F:Int→List Wd} {S:List Int} {t:Int}:Rc (rs.map (amg S)) (fun u=>(F u).map (amg S)) t↔Led rs F S t:=by
 constructor
 ·intro h
  induction h with
  | root m =>
   obtain ⟨w,mw,e⟩:=List.mem_map.mp m
   obtain ⟨rfl,c⟩:=oI.mp e
   exact .root mw c
  | step _ m ih =>
   obtain ⟨w,mw,e⟩:=List.mem_map.mp m
   obtain ⟨rfl,c⟩:=oI.mp e
   exact .step ih mw c
 ·intro h
  induction h with
  | root m c=>exact .root (List.mem_map.mpr ⟨_,m,oI.mpr ⟨rfl,c⟩⟩)
  | step _ m c ih=>exact .step ih (List.mem_map.mpr ⟨_,m,oI.mpr ⟨rfl,c⟩⟩)
theorem oJ:∀ {ms ks:List Int},ms.Nodup→(∀ m∈ms,m∈ks)→ms.length≤ks.length
 | [],_,_,_=>Nat.zero_le _
 | a::r,ks,nd,h=>by
  rw [List.nodup_cons] at nd
  have ha:=h a List.mem_cons_self
  have:=oJ (ms:=r) (ks:=ks.erase a) nd.2 fun m hm=>(List.mem_erase_of_ne (fun e=>nd.1 (by rw [←e];exact hm))).mpr (h m (List.mem_cons_of_mem _ hm))
  rw [List.length_erase_of_mem ha] at this
  have:0<ks.length:=List.length_pos_of_mem ha
  rw [List.length_cons]
  omega
def Kys (kvs:List (Key×V)) (ms:List Int):Prop:=kvs.map (·.1)=ms.map Sum.inl
theorem Kys.len {kvs:List (Key×V)} {ms:List Int} (k:Kys kvs ms):kvs.length=ms.length:=by have:=congrArg List.length k;simpa using this
theorem Kys.isS {kvs:List (Key×V)} {ms:List Int} (k:Kys kvs ms) {t:Int}:(j6 kvs (Sum.inl t)).isSome=decide (t∈ms):=by
 induction kvs generalizing ms with
 | nil=>cases ms with
  | nil=>rfl
  | cons a r=>cases k
 | cons p r ih=>cases ms with
  | nil=>cases k
  | cons a ms =>
   unfold Kys at k
   rw [List.map_cons,List.map_cons] at k
   injection k with k1 k2
   by_cases e:a=t
   ·subst e
    rw [mx k1]
    simp
   ·rw [mz (fun z=>e (Sum.inl.inj (k1.symm.trans z))),ih k2]
    have:(t∈a::ms)↔t∈ms:=by
     rw [List.mem_cons]
     exact ⟨fun h=>h.elim (fun z=>absurd z.symm e) id,.inr⟩
    simp only [this]
theorem Kys.non {kvs:List (Key×V)} {ms:List Int} (k:Kys kvs ms) {t:Int} (h:t∉ms):j6 kvs (Sum.inl t)=none:=by
 have:=k.isS (t:=t)
 rw [decide_eq_false h] at this
 cases q:j6 kvs (Sum.inl t) with
 | none=>rfl
 | some v=>rw [q] at this;cases this
theorem Kys.snoc {kvs:List (Key×V)} {ms:List Int} (k:Kys kvs ms) {t:Int} {v:V} (h:t∉ms):Kys (putK kvs (Sum.inl t) v) (ms++[t]):=by
 rw [xu v (k.non h)]
 unfold Kys at k ⊢
 rw [List.map_append,List.map_append,k]
 rfl
theorem Kys.at_ {kvs:List (Key×V)} {ms:List Int} (k:Kys kvs ms) {i:Nat} {p:Key×V} (h:kvs[i]?=some p):∃ t,ms[i]?=some t∧kV p.1=.int t∧p.1=Sum.inl t:=by
 have h1:=congrArg (fun l=>l[i]?) k
 simp only [List.getElem?_map,h,Option.map_some] at h1
 obtain ⟨t,e1,e2⟩:=Option.map_eq_some_iff.mp h1.symm
 exact ⟨t,e1,by rw [←e2];rfl,e2.symm⟩
theorem Ct (ts:List Int):Kys (ts.map tkv) ts:=by unfold Kys;rw [List.map_map];rfl
theorem RV (s:HS) (A:HA):Kys (s.aS.map (fkv A)) (keys s):=by unfold Kys keys;rw [List.map_map,List.map_map];rfl
def drG (fs:List (Int×List Wd)) (gs:List Int):List (Int×List Wd):=fs.filter fun p=>decide (p.1∉gs)
def nmG (gs:List Int) (n:Option Int):Option Int:=match n with|none=>none|some t=>if t∈gs then none else some t
def brG (bs:List (Int×Int)) (gs:List Int):List (Int×Int):=bs.filter fun p=>decide (p.1∉gs)
def sdG (bs:List (Int×Int)) (gs:List Int):List Int:=gs.filterMap fun t=>bs.lookup t
def letGo (s:HS) (gs:List Int):HS:={s with aS:=drG s.aS gs,names:=s.names.map (nmG gs),bM:=brG s.bM gs,rA:=s.rA++sdG s.bM gs}
theorem gp {fs:List (Int×List Wd)} {gs:List Int} {t:Int} {ws:List Wd}:(t,ws)∈drG fs gs↔(t,ws)∈fs∧t∉gs:=by unfold drG;rw [List.mem_filter];simp
theorem Mg {fs:List (Int×List Wd)} {gs:List Int} {t:Int}:drG fs (gs++[t])=uD (drG fs gs) t:=by
 unfold drG uD
 rw [List.filter_filter]
 refine List.filter_congr fun p _=>?_
 simp [List.mem_append,not_or,Bool.and_comm]
theorem Kd {fs:List (Int×List Wd)}:drG fs []=fs:=by unfold drG;simp
theorem HG {bs:List (Int×Int)} {gs:List Int} {t:Int}:brG bs (gs++[t])=(brG bs gs).filter fun p=>decide (p.1≠t):=by
 unfold brG
 rw [List.filter_filter]
 refine List.filter_congr fun p _=>?_
 simp [List.mem_append,not_or,Bool.and_comm]
theorem IS {bs:List (Int×Int)} {gs:List Int} {t:Int} (h:t∉gs):(brG bs gs).lookup t=bs.lookup t:=by
 unfold brG
 induction bs with
 | nil=>rfl
 | cons p r ih =>
  obtain ⟨a,b⟩:=p
  rw [List.filter_cons]
  by_cases c:a∈gs
  ·rw [if_neg (by simpa using c),ih,List.lookup_cons]
   rw [show (t == a)=false from beq_eq_false_iff_ne.mpr fun e=>h (by rw [e];exact c)]
  ·rw [if_pos (by simpa using c),List.lookup_cons,List.lookup_cons,ih]
theorem Ow {bs:List (Int×Int)} {t:Int}:qj (bs.map bkv) (Sum.inl t)=(bs.filter fun p=>decide (p.1≠t)).map bkv:=by
 unfold qj
 rw [List.filter_map]
 congr 1
 refine List.filter_congr fun p _=>?_
 show decide (Sum.inl p.1≠(Sum.inl t:Key))=decide (p.1≠t)
 simp
theorem filter_none {bs:List (Int×Int)} {t:Int} (h:bs.lookup t=none):(bs.filter fun p=>decide (p.1≠t))=bs:=List.filter_eq_self.mpr fun p hp=>by simpa using lookup_none h p hp
theorem HH {bs:List (Int×Int)} {gs:List Int} {t:Int}:sdG bs (gs++[t])=sdG bs gs++(match bs.lookup t with|some v=>[v]|none=>[]):=by
 unfold sdG
 rw [List.filterMap_append]
 congr 1
 cases e:bs.lookup t with
 | none=>simp [e]
 | some v=>simp [e]
structure Wk (H H4:Hp) (st mt:Addr) (rs:List (Option Int)) (F:Int→List (Option Int)) (S:List Int) (kvs:List (Key×V)) (ms:List Int):Prop where
 sm:aG H H4
 hs:H4 st=some (.dK kvs)
 ky:Kys kvs ms
 nd:ms.Nodup
 sub:∀ m∈ms,m∈S
 snd:∀ m∈ms,Rc rs F m
 hm:H4 mt=some (.lst (ms.map V.int))
 rts:∀ t,some t∈rs→t∈ms
theorem Wk.same {H H4 H5:Hp} {st mt:Addr} {rs:List (Option Int)} {F:Int→List (Option Int)} {S:List Int} {kvs:List (Key×V)} {ms:List Int} (w:Wk H H4 st mt rs F S kvs ms) (k:aG H4 H5):Wk H H5 st mt rs F S kvs ms :=
 ⟨w.sm.trans k,k _ _ w.hs,w.ky,w.nd,w.sub,w.snd,k _ _ w.hm,w.rts⟩
theorem Wk.put {H H4:Hp} {st mt:Addr} {rs:List (Option Int)} {F:Int→List (Option Int)} {S:List Int} {kvs:List (Key×V)} {ms:List Int} (w:Wk H H4 st mt rs F S kvs ms) (h1:H st=none) (h2:H mt=none) {n:Int} {v:V} (hn:n∉ms) (hS:n∈S) (hr:Rc rs F n) :
  Wk H (upd (upd H4 st (.dK (putK kvs (Sum.inl n) v))) mt (.lst (ms.map V.int++[.int n]))) st mt rs F S (putK kvs (Sum.inl n) v) (ms++[n]):=by
 have ne:st≠mt:=aw w.hs w.hm (by intro z;cases z)
 refine ⟨fun b u q=>?_,?_,w.ky.snoc hn,?_,fun m h=>?_,fun m h=>?_,?_,fun t h=>List.mem_append_left _ (w.rts t h)⟩
 ·rw [ae (ar q h2),ae (ar q h1)]
  exact w.sm b u q
 ·rw [ae ne]
  exact ag
 ·rw [List.nodup_append]
  exact ⟨w.nd,by simp,fun a ha b hb=>by rw [List.mem_singleton.mp hb];exact fun e=>hn (by rw [←e];exact ha)⟩
 ·rcases List.mem_append.mp h with g|g
  ·exact w.sub m g
  ·rw [List.mem_singleton.mp g];exact hS
 ·rcases List.mem_append.mp h with g|g
  ·exact w.snd m g
  ·rw [List.mem_singleton.mp g];exact hr
 ·rw [List.map_append]
  exact ag
theorem Mh {ms:List Int} {n:Int} (nd:ms.Nodup) (hn:n∉ms):(ms++[n]).Nodup:=by
 rw [List.nodup_append]
 exact ⟨nd,by simp,fun a ha b hb=>by rw [List.mem_singleton.mp hb];exact fun e=>hn (by rw [←e];exact ha)⟩
theorem WE {rs:List (Option Int)} {F:Int→List (Option Int)} {ms:List Int} (h0:∀ t,some t∈rs→t∈ms) (h1:∀ u∈ms,∀ t,some t∈F u→t∈ms) {t:Int} (h:Rc rs F t):t∈ms:=by
 induction h with
 | root m=>exact h0 _ m
 | step _ m ih=>exact h1 _ ih _ m
def HI:Sp:=fun vs H Q _=>∃ (v r d:Addr) (rs:List (Option Int)) (S:List Int) (F:Int→List (Option Int)) (ad:Int→Addr),vs=[.ref v]∧H v=some (.tup [.ref r,.ref d])∧H r=some (.lst (rs.map nmV))∧H d=some (.dK (S.map fun t=>(Sum.inl t,.ref (ad t))))∧(∀ t∈S,H (ad t)=some (.lst ((F t).map nmV)))∧(∀ t,some t∈rs→t∈S)∧(∀ u∈S,∀ t,some t∈F u→t∈S)∧S.length≤10000∧∀ st kvs ms H',aG H H'→H st=none→H' st=some (.dK kvs)→Kys kvs ms→ms.Nodup→(∀ t,t∈ms↔Rc rs F t)→Q (.ref st) H'
abbrev EC:List Str:=["view", "steps", "place", "thing", "met", "done"]
theorem dM:aA EC ["view"] (au oP):=⟨rfl,rfl,rfl,by decide +kernel,rfl,by decide +kernel,by decide +kernel⟩
theorem De (F:Fun K "last_steps" "last_steps" oP D.eB D.jD) (T:Txt K mg D):Ok P w K mg base 1 D.eB D.jD ["view"] (HI):=by
 refine ⟨?_,F.binds (ps:=["view"]) fun _ _ _ _ _ _ us hl=>match us,hl with|[_],_=>rfl⟩
 refine F.okE dM (fun vs H Q E h=>?_) (fun cdv A' outer s' H vs Q E hr h=>?_)
 ·obtain ⟨v,r,d,rs,S,F,ad,rfl,_⟩:=h
  rfl
 ·obtain ⟨v,r,d,rs,S,F,ad,rfl,ht,hrs,hd,LI,hrt,hcl,LF,k⟩:=h
  have hu:=kT hr
  refine ⟨_,(PSs.nox (aj (bp (i:=1) dM.nd rfl (Or.inl rfl) kL)
   (aj (kO PassesOwn.never rfl (JO rfl T.mY (ab (aJ aF (pv 0) aq (fun _ _=>rfl)) ao)) (Mv rfl (xr (fK (i:=2) dM.nd rfl (Or.inl rfl)) (xr (fK (i:=3) dM.nd rfl (Or.inl rfl)) JD)))
    (ai (bB (PW.pt (pw_and (aI Fv (pv 3) gS (aU _)) (pw_and1 (qh (lX hu (pv 3) (pv 1)) (by with_unfolding_all rfl)))))
     (ai (qg hu (pv 1) (pv 3) (fg (ab gS (ab (pv 2) ao))) rfl))
     aP)))
   (aj (bp (i:=4) dM.nd rfl (Or.inl rfl) (zJ (Cg rfl) rfl T.CZ PyProof.Rows.Boot.«list» (ab (pv 1) ao)))
   (aj (bp (i:=5) dM.nd rfl (Or.inl rfl) aq)
   (aj (LS PassesOwn.never (aI Cb (pv 5) (fi dN rfl T.ql PyProof.Rows.Boot.«len» (ab (pv 4) ao)) (aU _))
    (aj (kO PassesOwn.never rfl (JO rfl T.mY (ab (qf hu (aJ aF (pv 0) aq (fun _ _=>rfl)) (aJ cD (pv 4) (pv 5) (fun _ _=>rfl)) (fun _ _=>rfl)) ao)) (Mv rfl (xr (fK (i:=2) dM.nd rfl (Or.inl rfl)) (xr (fK (i:=3) dM.nd rfl (Or.inl rfl)) JD)))
     (ai (bB (PW.pt (pw_and (aI Fv (pv 3) gS (aU _)) (pw_and1 (qh (lX hu (pv 3) (pv 1)) (by with_unfolding_all rfl)))))
      (aj (qg hu (pv 1) (pv 3) (fg (ab (aJ cD (pv 4) (pv 5) (fun _ _=>rfl)) (ab (pv 2) ao))) rfl)
      (ai (aM (Ij PySem.F.plainAttrs_list PySem.F.slot_list_append PySem.F.type_list_append oj (pv 4) (ab (pv 3) ao)))))
      aP)))
    (ai (V7 (i:=5) dM.nd rfl (Or.inl rfl) aq V8))))
   (ai (aX (pv 1))))))))),?_⟩
  refine fun st hst=>?_
  have s0:aG H (upd H st (.dK [])):=aG.upd hst
  have kyS:Kys (S.map fun t=>((Sum.inl t:Key),V.ref (ad t))) S:=by unfold Kys;rw [List.map_map];rfl
  have dgS:∀ {Hc:Hp},aG H Hc→∀ {t:Int},t∈S→rk Hc d (.int t) (some (.ref (ad t))):=fun {Hc} sc {t} m=>by
   have e:j6 (S.map fun t=>((Sum.inl t:Key),V.ref (ad t))) (Sum.inl t)=some (.ref (ad t)):=by
    clear kyS LF hcl hrt LI hd
    induction S with
    | nil=>cases m
    | cons a r ih =>
     rw [List.map_cons]
     by_cases c:a=t
     ·rw [mx (by show Sum.inl a=Sum.inl t;rw [c]),c]
     ·rw [mz (fun z=>c (Sum.inl.inj z))]
      exact ih ((List.mem_cons.mp m).resolve_left fun z=>c z.symm)
   exact .inl ⟨_,Sum.inl t,.inl (sc _ _ hd),rfl,e.symm⟩
  have few:∀ {kvs:List (Key×V)} {ms:List Int},Kys kvs ms→ms.Nodup→(∀ m∈ms,m∈S)→kvs.length<sizeLine:=fun k nd h=>by rw [k.len];exact qt (Nat.le_trans (oJ nd h) (by omega))
  refine ⟨_,rfl,v,_,0,.ref r,rfl,rfl,SqT.of (s0 _ _ ht),rfl,r,rfl,⟨_,SqL.of (s0 _ _ hrs)⟩,Hh (K:=K) (a:=r) (xs:=rs.map nmV) (fun i σ H2=>∃ (v2 v3:Option V) (kvs:List (Key×V)) (ms:List Int),σ=[some (.ref v),some (.ref st),v2,v3,none,none]∧aG H H2∧H2 st=some (.dK kvs)∧Kys kvs ms∧ms.Nodup∧(∀ m∈ms,m∈S)∧(∀ m∈ms,Rc rs F m)∧∀ (j:Nat) t,j<i→rs[j]?=some (some t)→t∈ms)
   ⟨none,none,[],[],rfl,s0,ag,rfl,List.nodup_nil,(fun t h=>nomatch h),(fun t h=>nomatch h),(fun j t h=>absurd h (Nat.not_lt_zero _))⟩ (fun i σ H2 _ ⟨_,_,_,_,_,s2,_⟩=>SqL.of (s2 _ _ hrs)) ?_ ?_⟩
  ·rintro i x σ H2 t hx ⟨v2,v3,kvs,ms,rfl,s2,hs,ky,nd,sub,snd,Bn⟩ htt
   have hi:i<rs.length:=by have:=(List.getElem?_eq_some_iff.mp hx).1;rwa [List.length_map] at this
   have ri:rs[i]?=some rs[i]:=List.getElem?_eq_getElem hi
   have hxe:x=nmV rs[i]:=by
    rw [List.getElem?_map,ri] at hx
    exact (Option.some.inj hx).symm
   subst hxe
   have s3:aG H2 (upd H2 t (.tup [.int (i:Int),nmV rs[i]])):=aG.upd htt
   refine ⟨t,_,rfl,SqT.of ag,rfl,_,_,rfl,_,_,rfl,rfl,?_⟩
   cases hc:rs[i] with
   | none =>
    rw [hc] at s3 ri
    refine ⟨_,rfl,rfl,_,rfl,fY (fY ⟨_,_,kvs,ms,rfl,s2.trans s3,s3 _ _ hs,ky,nd,sub,snd,fun j t hj e=>?_⟩)⟩
    rcases Nat.lt_or_ge j i with z|z
    ·exact Bn j t z e
    ·rw [show j=i by omega,ri] at e
     cases e
   | some n =>
    rw [hc] at s3 ri
    have mr:=List.mem_of_getElem? ri
    refine ⟨_,rfl,rfl,_,rfl,om ⟨_,rfl,_,rfl,st,_,rfl,rk.k (k:=Sum.inl n) (s3 _ _ hs),_,rfl,?_⟩⟩
    rw [ky.isS]
    by_cases hin:n∈ms
    ·rw [decide_eq_true hin]
     refine fY ⟨_,_,kvs,ms,rfl,s2.trans s3,s3 _ _ hs,ky,nd,sub,snd,fun j t hj e=>?_⟩
     rcases Nat.lt_or_ge j i with z|z
     ·exact Bn j t z e
     ·rw [show j=i by omega,ri] at e
      cases e
      exact hin
    ·rw [decide_eq_false hin]
     refine om ⟨_,rfl,by show 2≤sizeLine;decide,fun u hu'=>?_⟩
     have s4:=aG.upd (o:=.tup [V.non,V.int (i:Int)]) hu'
     refine ⟨_,rfl,_,rfl,st,_,rfl,DS.k (k:=Sum.inl n) (s4 _ _ (s3 _ _ hs)) (few ky nd sub),_,_,putK kvs (Sum.inl n) (.ref u),ms++[n],rfl,fun c u' g=>by rw [ae (ar g hst)];exact s4 _ _ (s3 _ _ (s2 c u' g)),ag,ky.snoc hin,Mh nd hin,fun m h=>?_,fun m h=>?_,fun j t hj e=>?_⟩
     ·rcases List.mem_append.mp h with g|g
      ·exact sub m g
      ·rw [List.mem_singleton.mp g];exact hrt n mr
     ·rcases List.mem_append.mp h with g|g
      ·exact snd m g
      ·rw [List.mem_singleton.mp g];exact .root mr
     ·rcases Nat.lt_or_ge j i with z|z
      ·exact List.mem_append_left _ (Bn j t z e)
      ·rw [show j=i by omega,ri] at e
       cases e
       exact List.mem_append_right _ List.mem_cons_self
  ·rintro σ H2 ⟨v2,v3,kvs,ms,rfl,s2,hs,ky,nd,sub,snd,Bn⟩
   refine ⟨_,rfl,st,_,ms,rfl,.inl hs,ky,fun mt hmt=>?_⟩
   have s3:=aG.upd (o:=.lst (ms.map V.int)) hmt
   have aaF:H mt=none:=aG.none s2 hmt
   refine ⟨fun m σ H4=>∃ (dn:Nat) (v2 v3:Option V) (kvs:List (Key×V)) (ms:List Int),m=S.length+1-dn∧σ=[some (.ref v),some (.ref st),v2,v3,some (.ref mt),some (.int (dn:Int))]∧Wk H H4 st mt rs F S kvs ms∧(∀ u∈ms.take dn,∀ t,some t∈F u→t∈ms)∧dn≤ms.length,⟨_,0,v2,v3,kvs,ms,rfl,rfl,⟨s2.trans s3,s3 _ _ hs,ky,nd,sub,snd,ag,fun t h=>?_⟩,(fun u h=>nomatch h),Nat.zero_le _⟩,?_⟩
   ·obtain ⟨j,hj⟩:=List.mem_iff_getElem?.mp h
    exact Bn j t (by rw [List.length_map];exact (List.getElem?_eq_some_iff.mp hj).1) hj
   clear hs ky nd sub snd Bn s3 s2
   rintro m σ H4 ⟨dn,v2,v3,kvs,ms,rfl,rfl,W,don,hdl⟩
   have ml:=oJ W.nd W.sub
   refine ⟨_,rfl,_,rfl,mt,_,rfl,.inl (SqL.of W.hm),_,_,rfl,rfl,_,rfl,av (fun h=>?_) (fun h=>?_)⟩
   ·have hd1:dn<ms.length:=by
     have h1:(dn:Int)<((ms.map V.int).length:Int):=by simpa using h
     rw [List.length_map] at h1
     omega
    refine ⟨fun σ' H'=>∃ m',m'<S.length+1-dn∧∃ (dn:Nat) (v2 v3:Option V) (kvs:List (Key×V)) (ms:List Int),m'=S.length+1-dn∧σ'=[some (.ref v),some (.ref st),v2,v3,some (.ref mt),some (.int (dn:Int))]∧Wk H H' st mt rs F S kvs ms∧(∀ u∈ms.take dn,∀ t,some t∈F u→t∈ms)∧dn≤ms.length,fun _ _ h=>h,?_⟩
    have tk:ms.take (dn+1)=ms.take dn++[ms[dn]]:=List.take_succ_eq_append_getElem hd1
    obtain ⟨t,et⟩:∃ t,ms[dn]=t:=⟨_,rfl⟩
    obtain ⟨pre,Ox⟩:∃ pre,ms.take dn=pre:=⟨_,rfl⟩
    rw [et,Ox] at tk
    rw [Ox] at don
    have aaG:pre.length=dn:=by rw [←Ox,List.length_take];omega
    have htm:t∈ms:=by rw [←et];exact List.getElem_mem hd1
    have hin:t∈S:=W.sub t htm
    have at_:∀ {ns:List Int},ns.take (dn+1)=pre++[t]→ns[dn]?=some t:=fun {ns} e=>by
     have:(ns.take (dn+1))[dn]?=some t:=by rw [e,List.getElem?_append_right (by omega),aaG,Nat.sub_self];rfl
     rwa [List.getElem?_take_of_lt (Nat.lt_succ_self _)] at this
    have hat:∀ {ns:List Int},ns.take (dn+1)=pre++[t]→atI (ns.map V.int) (dn:Int)=some (.int t):=fun e=>xJ (by rw [List.getElem?_map,at_ e];rfl)
    have rw_:=LI t hin
    refine ⟨_,rfl,v,_,1,.ref d,rfl,rfl,SqT.of (W.sm _ _ ht),rfl,_,rfl,_,rfl,mt,_,_,.int t,rfl,rfl,SqL.of W.hm,hat tk,d,_,rfl,dgS W.sm hin,ad t,rfl,⟨_,SqL.of (W.sm _ _ rw_)⟩,
     Hh (K:=K) (a:=ad t) (xs:=(F t).map nmV) (fun j σ H6=>∃ (v2 v3:Option V) (kvs:List (Key×V)) (ms:List Int),σ=[some (.ref v),some (.ref st),v2,v3,some (.ref mt),some (.int (dn:Int))]∧Wk H H6 st mt rs F S kvs ms∧ms.take (dn+1)=pre++[t]∧dn<ms.length∧(∀ u∈pre,∀ t,some t∈F u→t∈ms)∧∀ (q:Nat) n,q<j→(F t)[q]?=some (some n)→n∈ms)
     ⟨v2,v3,kvs,ms,rfl,W,tk,hd1,don,(fun q n h=>absurd h (Nat.not_lt_zero _))⟩ (fun j σ H6 _ ⟨_,_,_,_,_,w6,_⟩=>SqL.of (w6.sm _ _ rw_)) ?_ ?_⟩
    ·clear W don hdl ml hd1 tk et Ox htm
     rintro j x σ H6 u hx ⟨v2,v3,kvs,ms,rfl,W,tk,hd1,don,Bn⟩ hut
     have hlj:j<(F t).length:=by have:=(List.getElem?_eq_some_iff.mp hx).1;rwa [List.length_map] at this
     have fj:(F t)[j]?=some (F t)[j]:=List.getElem?_eq_getElem hlj
     have hxe:x=nmV (F t)[j]:=by
      rw [List.getElem?_map,fj] at hx
      exact (Option.some.inj hx).symm
     subst hxe
     have htm:t∈ms:=List.mem_of_getElem? (at_ tk)
     refine ⟨u,_,rfl,SqT.of ag,rfl,_,_,rfl,_,_,rfl,rfl,?_⟩
     cases hc:(F t)[j] with
     | none =>
      rw [hc] at fj
      have s7:=aG.upd (o:=.tup [.int (j:Int),nmV none]) hut
      refine ⟨_,rfl,rfl,_,rfl,fY (fY ⟨_,_,kvs,ms,rfl,W.same s7,tk,hd1,don,fun q n hq e=>?_⟩)⟩
      rcases Nat.lt_or_ge q j with z|z
      ·exact Bn q n z e
      ·rw [show q=j by omega,fj] at e
       cases e
     | some n =>
      rw [hc] at fj
      have mf:=List.mem_of_getElem? fj
      have hk:n∈S:=hcl t hin n mf
      have s7:=aG.upd (o:=.tup [.int (j:Int),nmV (some n)]) hut
      have W7:=W.same s7
      refine ⟨_,rfl,rfl,_,rfl,om ⟨_,rfl,_,rfl,st,_,rfl,rk.k (k:=Sum.inl n) W7.hs,_,rfl,?_⟩⟩
      rw [W7.ky.isS]
      by_cases hn6:n∈ms
      ·rw [decide_eq_true hn6]
       refine fY ⟨_,_,kvs,ms,rfl,W7,tk,hd1,don,fun q n' hq e=>?_⟩
       rcases Nat.lt_or_ge q j with z|z
       ·exact Bn q n' z e
       ·rw [show q=j by omega,fj] at e
        cases e
        exact hn6
      ·rw [decide_eq_false hn6]
       refine om ⟨_,rfl,_,rfl,mt,_,_,.int t,rfl,rfl,SqL.of W7.hm,hat tk,_,rfl,by show 2≤sizeLine;decide,fun u2 hu2=>?_⟩
       have s8:=aG.upd (o:=.tup [V.int t,V.int (j:Int)]) hu2
       have W8:=W7.same s8
       have W9:=W8.put (v:=.ref u2) hst aaF hn6 hk (.step (W.snd t htm) mf)
       have nms:mt≠st:=aw W8.hm W8.hs (by intro z;cases z)
       have zm9:upd (upd (upd H6 u (.tup [.int (j:Int),nmV (some n)])) u2 (.tup [V.int t,V.int (j:Int)])) st (.dK (putK kvs (Sum.inl n) (.ref u2))) mt=some (.lst (ms.map V.int)):=by rw [ae nms];exact W8.hm
       refine ⟨_,rfl,_,rfl,st,_,rfl,DS.k (k:=Sum.inl n) W8.hs (few W8.ky W8.nd W8.sub),?_⟩
       refine ⟨_,rfl,.inl ⟨rfl,_,SqL.of zm9⟩,_,rfl,mt,_,_,rfl,rfl,zm9,by rw [List.length_map];exact qt (Nat.le_trans (oJ W8.nd W8.sub) (by omega)),?_⟩
       refine ⟨_,_,_,ms++[n],rfl,W9,by rw [List.take_append_of_le_length (by omega)];exact tk,by rw [List.length_append];omega,fun u h t' e=>List.mem_append_left _ (don u h t' e),fun q n' hq e=>?_⟩
       rcases Nat.lt_or_ge q j with z|z
       ·exact List.mem_append_left _ (Bn q n' z e)
       ·rw [show q=j by omega,fj] at e
        cases e
        exact List.mem_append_right _ List.mem_cons_self
    ·clear W don hdl ml hd1 tk et Ox htm
     rintro σ H6 ⟨v2,v3,kvs,ms,rfl,W,tk,hd1,don,Bn⟩
     rw [List.length_map] at Bn
     have ml:=oJ W.nd W.sub
     refine ⟨_,rfl,_,1,rfl,rfl,S.length+1-(dn+1),by omega,dn+1,v2,v3,kvs,ms,rfl,rfl,W,fun u h t' e=>?_,hd1⟩
     rw [tk] at h
     rcases List.mem_append.mp h with g|g
     ·exact don u g t' e
     ·rw [List.mem_singleton.mp g] at e
      obtain ⟨q,hq⟩:=List.mem_iff_getElem?.mp e
      exact Bn q t' (List.getElem?_eq_some_iff.mp hq).1 hq
   ·have hge:ms.length≤dn:=by
     have h1:¬(dn:Int)<((ms.map V.int).length:Int):=by simpa using h
     rw [List.length_map] at h1
     omega
    rw [List.take_of_length_le hge] at don
    exact ⟨_,rfl,k st kvs ms H4 W.sm hst W.hs W.ky W.nd fun t=>⟨W.snd t,WE W.rts don⟩⟩
theorem Ke {H:Hp} {xs:List V} {ws:List Wd} (r:Rel H xs ws) {i:Nat} {x:V} (h:xs[i]?=some x):∃ w,ws[i]?=some w∧WV H x w:=by
 have hi:=(List.getElem?_eq_some_iff.mp h).1
 have hw:i<ws.length:=by rw [←r.1];exact hi
 obtain ⟨v,hv,wv⟩:=r.get hw
 rw [hv] at h
 cases h
 exact ⟨_,List.getElem?_eq_getElem hw,wv⟩
def RW:Sp:=fun vs H Q _=>∃ v w d kvs S,vs=[v,.ref d]∧WV H v w∧Rd H d (.dK kvs)∧Kys kvs S∧Q (nmV (amg S w)) H
abbrev Df:List Str:=["value", "things"]
theorem BD:aA Df ["value", "things"] (au nF):=⟨rfl,rfl,rfl,by decide +kernel,rfl,by decide +kernel,by decide +kernel⟩
theorem BE (F:Fun K "thing_among" "thing_among" nF D.dH D.iR) (T:Txt K mg D)
  (jf:Ok P w K mg base 1 D.hU D.lY ["value"] (Jv)):Ok P w K mg base 2 D.dH D.iR ["value", "things"] (RW):=by
 refine ⟨?_,F.binds (ps:=["value", "things"]) fun _ _ _ _ _ _ us hl=>match us,hl with|[_,_],_=>rfl⟩
 refine F.okE BD (fun vs H Q E h=>?_) (fun cdv A' outer s' H vs Q E hr h=>?_)
 ·obtain ⟨v,w,d,kvs,S,rfl,_⟩:=h
  rfl
 ·obtain ⟨v,w,d,kvs,S,rfl,wv,hd,hk,k⟩:=h
  have hu:=kT hr
  refine ⟨_,(PSs.nox (aj (bB (PW.pt (pw_and (aI gK (br jf.g (hr.mono (by decide)) rfl T.DW T.se jf.b .nil iT (ab (pv 0) ao)) aK (aU _)) (pw_and1 (qh (MD hu (aJ aF (pv 0) aq (fun _ _=>rfl)) (pv 1)) (by with_unfolding_all rfl)))))
    (ai (aX (aJ aF (pv 0) aq (fun _ _=>rfl))))
    aP)
   (ai (aX gS)))),?_⟩
  refine ⟨_,rfl,v,w,rfl,wv,?_⟩
  cases w with
  | no=>exact ⟨rfl,_,rfl,av (fun h=>absurd h (Bool.eq_false_iff.mp (by kernel_rfl))) (fun _=>fY k)⟩
  | num n=>exact ⟨rfl,_,rfl,av (fun h=>absurd h (Bool.eq_false_iff.mp (by kernel_rfl))) (fun _=>fY k)⟩
  | th t =>
   obtain ⟨a,rfl,ht⟩:=wv
   refine ⟨rfl,_,rfl,av (fun _=>?_) (fun h=>absurd (by kernel_rfl) h)⟩
   refine ⟨_,rfl,a,_,1,.int t,rfl,rfl,SqT.of ht,rfl,_,rfl,d,_,rfl,.inl ⟨kvs,Sum.inl t,hd,rfl,rfl⟩,_,rfl,?_⟩
   rw [hk.isS]
   by_cases c:t∈S
   ·rw [decide_eq_true c]
    rw [show amg S (.th t)=some t from if_pos c] at k
    exact om ⟨_,rfl,a,_,1,.int t,rfl,rfl,SqT.of ht,rfl,k⟩
   ·rw [decide_eq_false c]
    rw [show amg S (.th t)=none from if_neg c] at k
    exact fY k
def FF (D:Ad):Sp:=fun vs H Q _=>∃ x A s l xs ws d kvs S,vs=[.ref x,.ref l,.ref d]∧IH D H x A s∧Good s∧H l=some (.lst xs)∧Rel H xs ws∧ws.length≤100000∧H d=some (.dK kvs)∧Kys kvs S∧(∀ t∈S,∃ ws,(t,ws)∈s.aS)∧S.Nodup∧S.length≤10000∧∀ st kv ms H',aG H H'→H st=none→H' st=some (.dK kv)→Kys kv ms→ms.Nodup→(∀ t,t∈ms↔Led ws (fld s) S t)→Q (.ref st) H'
abbrev j3:List Str:=["self", "leads", "things", "fields", "t"]
theorem jt:aA j3 ["self", "leads", "things"] (au fZ):=⟨rfl,rfl,rfl,by decide +kernel,rfl,by decide +kernel,by decide +kernel⟩
theorem vt (F:Fun K "led_among" "Heap.led_among" fZ D.bj D.dC) (T:Txt K mg D)
  (gW:Ok P w K mg base 2 D.dH D.iR ["value", "things"] (RW))
  (ll:Ok P w K mg base 1 D.eB D.jD ["view"] (HI)):Ok P w K mg base 3 D.bj D.dC ["self", "leads", "things"] (FF D):=by
 refine ⟨?_,F.binds (ps:=["self", "leads", "things"]) fun _ _ _ _ _ _ us hl=>match us,hl with|[_,_,_],_=>rfl⟩
 refine F.okE jt (fun vs H Q E h=>?_) (fun cdv A' outer s' H vs Q E hr h=>?_)
 ·obtain ⟨x,A,s,l,xs,ws,d,kvs,S,rfl,_⟩:=h
  rfl
 ·obtain ⟨x,A,s,l,xs,ws,d,kvs,S,rfl,J,G,hl,rx,hw,hd,hk,hin,hnd,LF,k⟩:=h
  have hu:=kT hr
  refine ⟨_,(PSs.nox (aj (bp (i:=3) jt.nd rfl (Or.inl rfl) kL)
   (aj (kO PassesOwn.never rfl (sr (Bj (pv 2))) (fK (i:=4) jt.nd rfl (Or.inl rfl))
    (ai (qg hu (pv 3) (pv 4) (xO (cl:=[("things",s'.heap.objs.size+1)]) (x := "value") (idx:=[2]) (NC:=["value", "things"]) ?co2 rfl (qd (qf hu (aN (pv 0) rfl) (pv 4) (fun _ _=>rfl))) (fun C fp s₀ H₀=>(br gW.g (hr.mono (by decide)) rfl T.sv T.kb gW.b .nil Im (ab (pv 0) (ab (pv 1) ao))))) rfl)))
   (ai (aX (MM (br ll.g (hr.mono (by decide)) rfl T.Ej T.oX ll.b .nil iT (ab (fg (ab (xO (cl:=[("things",s'.heap.objs.size+1)]) (x := "value") (idx:=[2]) (NC:=["value", "things"]) ?co1 rfl (qd (pv 1)) (fun C fp s₀ H₀=>(br gW.g (hr.mono (by decide)) rfl T.sv T.kb gW.b .nil Im (ab (pv 0) (ab (pv 1) ao))))) (ab (pv 3) ao))) ao)))))))),?_⟩
  case co1 =>
   exact sq (sc:=au fZ) (N:=j3) (ns:=["things"]) rfl rfl rfl (by decide +kernel) rfl rfl (by
    intro q hq
    rw [List.mem_singleton.mp hq]
    rfl)
  case co2 =>
   exact sq (sc:=au fZ) (N:=j3) (ns:=["things"]) rfl rfl rfl (by decide +kernel) rfl rfl (by
    intro q hq
    rw [List.mem_singleton.mp hq]
    rfl)
  intro fa hfa
  have s1:=aG.upd (o:=.dK []) hfa
  refine ⟨_,rfl,d,kvs,s1 _ _ hd,fun o=>?_⟩
  have nfd:fa≠d:=Ne.symm (ar hd hfa)
  have xd:x≠d:=aw J.ax hd (by intro z;cases z)
  have ld:l≠d:=aw hl hd (by intro z;cases z)
  have okH:∀ Hc:Hp,((∀ b u,b≠d→H b=some u→Hc b=some u)∧Hc d=some (.frz o (.dK kvs)))→dr H Hc:=fun Hc oc b us q=>oc.1 b _ (aw q hd (by intro z;cases z)) q
  have dg:∀ {Hc:Hp},((∀ b u,b≠d→H b=some u→Hc b=some u)∧Hc d=some (.frz o (.dK kvs)))→∀ {t:Int} {ws:List Wd},(t,ws)∈s.aS→rk Hc A.fh (.int t) (some (.ref (A.fa t))):=fun {Hc} oc {t ws} m=>by
   have e:j6 (s.aS.map (fkv A)) (Sum.inl t)=some (.ref (A.fa t)):=by rw [MR,G.get m];rfl
   by_cases c:A.fh=d
   ·have ek:kvs=s.aS.map (fkv A):=by
     have:=J.afh
     rw [c,hd] at this
     injection this with this
     injection this
    exact .inl ⟨kvs,Sum.inl t,.inr ⟨o,by rw [c];exact oc.2⟩,rfl,by rw [ek,e]⟩
   ·exact .inl ⟨_,Sum.inl t,.inl (oc.1 _ _ c J.afh),rfl,e.symm⟩
  have lk:=hk.len
  refine ⟨d,o,kvs,rfl,ag,xw (d:=d) (o:=o) (kvs:=kvs) (fun i σ Hc=>∃ (v4:Option V) (ad:Int→Addr),σ=[some (.ref x),some (.ref l),some (.ref d),some (.ref fa),v4]∧((∀ b u,b≠d→H b=some u→Hc b=some u)∧Hc d=some (.frz o (.dK kvs)))∧Hc fa=some (.dK ((S.take i).map fun t=>(Sum.inl t,.ref (ad t))))∧∀ t∈S.take i,Hc (ad t)=some (.lst (((fld s t).map (amg S)).map nmV)))
   ⟨none,fun _=>0,rfl,⟨fun b u n q=>by rw [ae n];exact s1 b u q,ag⟩,by rw [ae nfd];exact ag,(fun t h=>nomatch h)⟩ (fun i σ Hc _ ⟨_,_,_,oc,_⟩=>oc.2) ?_ ?_⟩
  ·rintro i p σ Hc hi ⟨v4,ad,rfl,oc,hf,LI⟩
   obtain ⟨t,ht,ekv,ep⟩:=hk.at_ hi
   have hlt:i<S.length:=(List.getElem?_eq_some_iff.mp ht).1
   have et:S[i]=t:=(List.getElem?_eq_some_iff.mp ht).2
   have mt:t∈S:=List.mem_of_getElem? ht
   obtain ⟨w0,m⟩:=hin t mt
   obtain ⟨hl0,rl⟩:=J.afl _ _ m
   have tc:=okH Hc oc
   have fm:=G.fld m
   rw [←fm] at rl
   have nl:A.fa t≠d:=aw hl0 hd (by intro z;cases z)
   have hlc:=oc.1 _ _ nl hl0
   have f6:=G.f6 _ _ m
   rw [←fm] at f6
   have lz:(fld s t).length≤sizeLine:=xn (by omega)
   refine ⟨_,rfl,x,D.aa,_,_,.ref A.fh,rfl,oc.1 _ _ xd J.ax,T.af,T.aE,sg,_,rfl,A.fh,.ref (A.fa t),rfl,(by rw [ekv];exact dg oc m),A.fa t,rfl,⟨_,SqL.of hlc⟩,fun L hL=>?_⟩
   refine rY (K:=K) (a:=A.fa t) (xs:=A.fx t) (fun i ys H2=>ys=((fld s t).take i).map (fun w=>nmV (amg S w))∧aG Hc H2∧H2 L=some (.lst ys)) ⟨rfl,aG.upd hL,ag⟩ (fun i ys H2 hi ⟨e,_,z⟩=>⟨z,by rw [e,List.length_map,List.length_take,←rl.1];omega⟩) (fun i ys H2 hi ⟨_,s2,_⟩=>SqL.of (s2 _ _ hlc)) (by rw [rl.1];exact lz) (fun i y ys H2 hi ⟨e,s2,z⟩=>?_) (fun ys H2 ⟨e,s2,z⟩=>?_)
   ·obtain ⟨wd,hw,wv⟩:=Ke rl hi
    refine ⟨_,rfl,_,rfl,y,wd,d,kvs,S,rfl,wv.keep (tc.trans (dr.of s2)),.inr ⟨o,s2 _ _ oc.2⟩,hk,z,?_,fun b u q=>by rw [ae (ar q hL)];exact s2 b u q,ag⟩
    have hlt:i<(fld s t).length:=(List.getElem?_eq_some_iff.mp hw).1
    rw [List.take_succ_eq_append_getElem hlt,List.map_append,e,(List.getElem?_eq_some_iff.mp hw).2]
    rfl
   ·rw [rl.1,List.take_of_length_le (Nat.le_refl _)] at e
    have zf:H2 fa=some (.dK ((S.take i).map fun t=>(Sum.inl t,.ref (ad t)))):=s2 _ _ hf
    have kyf:Kys ((S.take i).map fun t=>((Sum.inl t:Key),V.ref (ad t))) (S.take i):=by unfold Kys;rw [List.map_map];rfl
    have ni:t∉S.take i:=fun z=>by
     have:=List.nodup_append.mp (show (S.take i++S.drop i).Nodup by rw [List.take_append_drop];exact hnd)
     exact this.2.2 t z t (by rw [List.drop_eq_getElem_cons hlt,et];exact List.mem_cons_self) rfl
    have nLf:L≠fa:=Ne.symm (ar hf hL)
    refine ⟨_,rfl,_,rfl,fa,_,rfl,(by rw [ekv];exact DS.k (k:=Sum.inl t) zf (by rw [List.length_map,List.length_take];exact qt (by omega))),?_⟩
    rw [xu _ (kyf.non ni)]
    refine ⟨_,fun u=>if u=t then L else ad u,rfl,⟨fun b u n q=>?_,?_⟩,?_,fun u hu'=>?_⟩
    ·rw [ae (ar q hfa)]
     exact s2 _ _ (oc.1 b u n q)
    ·rw [ae (Ne.symm nfd)]
     exact s2 _ _ oc.2
    ·rw [ag,List.take_succ_eq_append_getElem hlt,List.map_append,et]
     congr 3
     ·refine List.map_congr_left fun u hu'=>?_
      dsimp only
      rw [if_neg fun z=>ni (by rw [←z];exact hu')]
     ·simp only [List.map_cons,List.map_nil,if_true]
    ·rw [List.take_succ_eq_append_getElem hlt,et] at hu'
     dsimp only
     by_cases c:u=t
     ·subst c
      rw [if_pos rfl,ae nLf,z,e,List.map_map]
      rfl
     ·rw [if_neg c]
      have mu:u∈S.take i:=(List.mem_append.mp hu').resolve_right fun z=>c (List.mem_singleton.mp z)
      have q:=LI u mu
      rw [ae (fun z=>by rw [z,hf] at q;cases q)]
      exact s2 _ _ q
  ·rintro σ Hc ⟨v4,ad,rfl,oc,hf,LI⟩
   rw [lk,List.take_of_length_le (Nat.le_refl _)] at hf LI
   have tc:=okH Hc oc
   have hlc:=oc.1 _ _ ld hl
   have lz:ws.length≤sizeLine:=Nat.le_trans hw (by decide)
   have rl:=rx
   refine ⟨_,rfl,l,rfl,⟨_,SqL.of hlc⟩,fun L hL=>?_⟩
   refine rY (K:=K) (a:=l) (xs:=xs) (fun i ys H2=>ys=(ws.take i).map (fun w=>nmV (amg S w))∧aG Hc H2∧H2 L=some (.lst ys)) ⟨rfl,aG.upd hL,ag⟩ (fun i ys H2 hi ⟨e,_,z⟩=>⟨z,by rw [e,List.length_map,List.length_take,←rl.1];omega⟩) (fun i ys H2 hi ⟨_,s2,_⟩=>SqL.of (s2 _ _ hlc)) (by rw [rl.1];exact lz) (fun i y ys H2 hi ⟨e,s2,z⟩=>?_) (fun ys H2 ⟨e,s2,z⟩=>?_)
   ·obtain ⟨wd,hw,wv⟩:=Ke rl hi
    refine ⟨_,rfl,_,rfl,y,wd,d,kvs,S,rfl,wv.keep (tc.trans (dr.of s2)),.inr ⟨o,s2 _ _ oc.2⟩,hk,z,?_,fun b u q=>by rw [ae (ar q hL)];exact s2 b u q,ag⟩
    have hlt:i<ws.length:=(List.getElem?_eq_some_iff.mp hw).1
    rw [List.take_succ_eq_append_getElem hlt,List.map_append,e,(List.getElem?_eq_some_iff.mp hw).2]
    rfl
   ·rw [rl.1,List.take_of_length_le (Nat.le_refl _)] at e
    refine ⟨_,rfl,by show 2≤sizeLine;decide,fun v hv=>?_⟩
    have s3:=aG.upd (o:=.tup [V.ref L,V.ref fa]) hv
    have s4:=s2.trans s3
    have bk:∀ {b:Addr},upd H2 v (.tup [V.ref L,V.ref fa]) b=none→H b=none:=fun {b} q=>by
     cases z:H b with
     | none=>rfl
     | some u =>
      by_cases c:b=d
      ·rw [c,s4 _ _ oc.2] at q;cases q
      ·rw [s4 _ _ (oc.1 b u c z)] at q;cases q
    refine ⟨v,L,fa,ws.map (amg S),S,fun t=>(fld s t).map (amg S),ad,rfl,ag,by rw [s3 _ _ z,e,List.map_map];rfl,s4 _ _ hf,fun t m=>s4 _ _ (LI t m),fun t m=>?_,fun u _ t m=>?_,LF,fun st kv ms H5 s5 hst h5 k5 n5 m5=>?_⟩
    ·obtain ⟨w,_,ew⟩:=List.mem_map.mp m
     exact (oI.mp ew).2
    ·obtain ⟨w,_,ew⟩:=List.mem_map.mp m
     exact (oI.mp ew).2
    ·have fd5:=s5 _ _ (s4 _ _ oc.2)
     refine ⟨d,o,kvs,fd5,(fun o' u' q=>by have q:H d=some (.frz o' u'):=q;rw [hd] at q;cases q),?_⟩
     have nst:st≠d:=fun q=>by rw [q,fd5] at h5;cases h5
     refine k st kv ms _ (fun b u q=>?_) (bk hst) (by rw [ae nst];exact h5) k5 n5 fun t=>(m5 t).trans WD
     by_cases c:b=d
     ·subst c
      rw [hd] at q
      cases q
      exact ag
     ·rw [ae c]
      exact s5 _ _ (s4 _ _ (oc.1 b u c q))
theorem lookup_mem {α:Type} {fs:List (Int×α)} {t:Int} {w:α} (m:(t,w)∈fs):∃ v,fs.lookup t=some v:=by
 cases e:fs.lookup t with
 | some v=>exact ⟨v,rfl⟩
 | none=>exact absurd rfl (lookup_none e _ m)
theorem Lf (gs:List Int):(gs.map V.int).all j5=true:=List.all_eq_true.mpr fun v hv=>by obtain ⟨n,_,rfl⟩:=List.mem_map.mp hv;rfl
theorem Oy (n:Option Int):j5 (nmV n)=true:=by cases n<;>rfl
theorem Jz {gs:List Int} (h:gs.Pairwise (·< ·)) {i:Nat} {t:Int} (e:gs[i]?=some t):t∉gs.take i:=fun m=>by
 have hlt:=(List.getElem?_eq_some_iff.mp e).1
 have et:=(List.getElem?_eq_some_iff.mp e).2
 have:=List.pairwise_append.mp (show (gs.take i++gs.drop i).Pairwise (·< ·) by rw [List.take_append_drop];exact h)
 have:=this.2.2 t m t (by rw [List.drop_eq_getElem_cons hlt,et];exact List.mem_cons_self)
 omega
theorem take_snoc {α:Type} {gs:List α} {i:Nat} {t:α} (e:gs[i]?=some t):gs.take (i+1)=gs.take i++[t]:=by rw [List.take_succ_eq_append_getElem (List.getElem?_eq_some_iff.mp e).1,(List.getElem?_eq_some_iff.mp e).2]
theorem MV (bs:List (Int×Int)) (gs:List Int):(sdG bs gs).length≤gs.length:=List.length_filterMap_le _ _
def Kf (D:Ad):Sp:=fun vs H Q _=>∃ x A s g gs,vs=[.ref A.nt,.ref g]∧IH D H x A s∧s.names.length=8∧H g=some (.lst (gs.map V.int))∧∀ A' H',IH D H' x A' {s with names:=s.names.map (nmG gs)}→Fr (bX x A s) H (bX x A' {s with names:=s.names.map (nmG gs)}) H'→Q .non H'
abbrev lG:List Str:=["self", "things"]
theorem rF:aA lG ["self", "things"] (au gy):=⟨rfl,rfl,rfl,by decide +kernel,rfl,by decide +kernel,by decide +kernel⟩
theorem rG (F:Fun K "settle" "NameTable.settle" gy D.bZ D.eX) (T:Txt K mg D):Ok P w K mg base 1 D.bZ D.eX ["self", "things"] (Kf D):=by
 refine ⟨?_,F.binds (ps:=["self", "things"]) fun _ _ _ _ _ _ us hl=>match us,hl with|[_,_],_=>rfl⟩
 refine F.okE rF (fun vs H Q E h=>?_) (fun cdv A' outer s' H vs Q E hr h=>?_)
 ·obtain ⟨x,A,s,g,gs,rfl,_⟩:=h
  rfl
 ·obtain ⟨x,A,s,g,gs,rfl,J,h8,hg,k⟩:=h
  refine ⟨_,(PSs.nox (ai (gF (pv 0) (xO (cl:=[("things",s'.heap.objs.size+1)]) (x := "t") (idx:=[1]) (NC:=["t", "things"]) ?co1 rfl (qd (aN (pv 0) rfl)) (fun C fp s₀ H₀=>(xq (aI (r:=rIn K false) zK (pv 0) (pv 1) (by with_unfolding_all rfl)) gS (pv 0)))) rfl))),?_⟩
  case co1 =>
   exact sq (sc:=au gy) (N:=lG) (ns:=["things"]) rfl rfl rfl (by decide +kernel) rfl rfl (by
    intro q hq
    rw [List.mem_singleton.mp hq]
    rfl)
  refine ⟨_,rfl,A.nt,D.aD,A.ntx,_,.ref A.nl,rfl,J.ant,T.eL,T.cB,rfl,A.nl,rfl,⟨_,SqL.of J.anl⟩,fun L hL=>?_⟩
  refine rY (K:=K) (a:=A.nl) (xs:=s.names.map nmV) (fun i zs H2=>zs=((s.names.take i).map (nmG gs)).map nmV∧aG H H2∧H2 L=some (.lst zs)) ⟨rfl,aG.upd hL,ag⟩ (fun i zs H2 hi ⟨e,_,z⟩=>⟨z,by rw [List.length_map] at hi;rw [e,List.length_map,List.length_map,List.length_take];omega⟩) (fun i zs H2 hi ⟨_,s2,_⟩=>SqL.of (s2 _ _ J.anl)) (by rw [List.length_map,h8];decide) (fun i y zs H2 hi ⟨e,s2,z⟩=>?_) (fun zs H2 ⟨e,s2,z⟩=>?_)
  ·rw [List.getElem?_map] at hi
   obtain ⟨n,hn,rfl⟩:=Option.map_eq_some_iff.mp hi
   have tk:=take_snoc hn
   refine ⟨_,rfl,_,rfl,g,_,rfl,.inl (SqL.of (s2 _ _ hg)),Oy n,Lf gs,_,rfl,?_⟩
   have sm:∀ {o:HO},aG H (upd H2 L o):=fun b u q=>by rw [ae (ar q hL)];exact s2 b u q
   show if inV (nmV n) (gs.map V.int)=true then _ else _
   rw [Y1 (f:=nmV) rfl (fun _=>rfl),tk,e]
   cases n with
   | none =>
    refine fY ⟨_,rfl,z.trans (by rw [e]),?_,sm,ag⟩
    rw [List.map_append,List.map_append]
    rfl
   | some t =>
    show if decide (t∈gs)=true then _ else _
    by_cases c:t∈gs
    ·rw [decide_eq_true c]
     refine om ⟨z.trans (by rw [e]),?_,sm,ag⟩
     rw [List.map_append,List.map_append]
     simp [nmG,c,nmV]
    ·rw [decide_eq_false c]
     refine fY ⟨_,rfl,z.trans (by rw [e]),?_,sm,ag⟩
     rw [List.map_append,List.map_append]
     simp [nmG,c,nmV]
  ·rw [List.length_map,List.take_of_length_le (Nat.le_refl _)] at e
   rw [e] at z
   refine ⟨_,rfl,A.nt,D.aD,A.ntx,_,rfl,s2 _ _ J.ant,T.eL,T.cB,by show 1<1000;decide,?_⟩
   have w:=J.aaE (ns:=s.names.map (nmG gs)) hL
   have sm:aG (upd (upd H L (.lst ((s.names.map (nmG gs)).map nmV))) A.nt (.ins D.aD A.ntx [("things_named",.ref L)])) (upd H2 A.nt (.ins D.aD A.ntx [("things_named",.ref L)])):=fun b u q=>by
    by_cases c:b=A.nt
    ·rw [c,ag] at q ⊢;exact q
    ·rw [ae c] at q ⊢
     by_cases c2:b=L
     ·rw [c2,ag] at q;rw [c2,z];exact q
     ·rw [ae c2] at q;exact s2 b u q
   exact k _ _ (w.1.same sm) (w.2.trans (Fr.same sm))
def wsF (s:HS) (gs:List Int):HS:={s with bM:=brG s.bM gs,rA:=s.rA++sdG s.bM gs}
theorem Kg {s:HS}:wsF s []=s:=by cases s;simp [wsF,brG,sdG]
def Kh (D:Ad):Sp:=fun vs H Q _=>∃ x A s g gs,vs=[.ref A.wt,.ref g]∧IH D H x A s∧H g=some (.lst (gs.map V.int))∧gs.Pairwise (·< ·)∧gs.length≤10000∧s.rA.length≤10000∧∀ A' H',IH D H' x A' (wsF s gs)→Fr (bX x A s) H (bX x A' (wsF s gs)) H'→Q .non H'
abbrev tG:List Str:=["self", "things", "t"]
theorem kN:aA tG ["self", "things"] (au iZ):=⟨rfl,rfl,rfl,by decide +kernel,rfl,by decide +kernel,by decide +kernel⟩
theorem rH (F:Fun K "settle" "WordTable.settle" iZ D.bY D.eW) (T:Txt K mg D):Ok P w K mg base 1 D.bY D.eW ["self", "things"] (Kh D):=by
 refine ⟨?_,F.binds (ps:=["self", "things"]) fun _ _ _ _ _ _ us hl=>match us,hl with|[_,_],_=>rfl⟩
 refine F.okE kN (fun vs H Q E h=>?_) (fun cdv A' outer s' H vs Q E hr h=>?_)
 ·obtain ⟨x,A,s,g,gs,rfl,_⟩:=h
  rfl
 ·obtain ⟨x,A,s,g,gs,rfl,J,hg,asc,hn,hsd,k⟩:=h
  have hu:=kT hr
  refine ⟨_,(PSs.nox (ai (kO PassesOwn.never rfl (qd (fi FY rfl T.CK PyProof.Rows.Boot.«sorted» (ab (pv 1) ao))) (fK (i:=2) kN.nd rfl (Or.inl rfl))
    (ai (bB (qh (MD hu (pv 2) (aN (pv 0) rfl)) (by with_unfolding_all rfl))
     (ai (aM (Ij PySem.F.plainAttrs_list PySem.F.slot_list_append PySem.F.type_list_append oj (aN (pv 0) rfl) (ab (CG (aN (pv 0) rfl) (pv 2) ⟨rfl,rfl,rfl,rfl⟩) ao))))
     aP))))),?_⟩
  refine ⟨_,rfl,g,gs,rfl,SqL.of hg,by omega,asc.imp fun h=>Int.le_of_lt h,fun p hp=>?_⟩
  have s1:=aG.upd (o:=.lst (gs.map V.int)) hp
  have J1:=J.same s1
  have nfp:¬bX x A s p:=J.fresh hp
  refine ⟨p,rfl,⟨_,SqL.of ag⟩,CD (K:=K) (a:=p) (xs:=gs.map V.int) (fun i σ H2=>∃ v2,σ=[some (.ref A.wt),some (.ref g),v2]∧IH D H2 x A (wsF s (gs.take i))∧Fr (bX x A s) (upd H p (.lst (gs.map V.int))) (bX x A (wsF s (gs.take i))) H2)
   ⟨none,rfl,(by rw [List.take_zero,Kg];exact J1),(by rw [List.take_zero,Kg];exact Fr.refl)⟩ (fun i σ H2 _ ⟨_,_,_,fr⟩=>SqL.of (fr.out nfp ag).1) ?_ ?_⟩
  ·rintro i y σ H2 hi ⟨v2,rfl,J2,fr⟩
   rw [List.getElem?_map] at hi
   obtain ⟨t,ht,rfl⟩:=Option.map_eq_some_iff.mp hi
   have ni:=Jz asc ht
   have tk:=take_snoc ht
   have hi':=(List.getElem?_eq_some_iff.mp ht).1
   have lk:(brG s.bM (gs.take i)).lookup t=s.bM.lookup t:=IS ni
   have vb:j6 ((wsF s (gs.take i)).bM.map bkv) (Sum.inl t)=(s.bM.lookup t).map V.int:=by rw [W5];show ((brG s.bM (gs.take i)).lookup t).map V.int=_;rw [lk]
   refine ⟨_,rfl,_,rfl,A.wt,D.aL,A.wtx,_,.ref A.wb,rfl,J2.awt,T.cG,T.bu,rfl,A.wb,_,rfl,rk.k (k:=Sum.inl t) J2.awb,_,rfl,?_⟩
   rw [vb,Option.isSome_map]
   cases e:s.bM.lookup t with
   | none =>
    have es:wsF s (gs.take (i+1))=wsF s (gs.take i):=by
     unfold wsF
     rw [tk,HG,HH,e,filter_none (by rw [lk];exact e)]
     simp
    rw [es]
    exact fY ⟨_,rfl,J2,fr⟩
   | some v =>
    have es:wsF s (gs.take (i+1))={wsF s (gs.take i) with bM:=(brG s.bM (gs.take i)).filter fun p=>decide (p.1≠t),rA:=(s.rA++sdG s.bM (gs.take i))++[v]}:=by
     unfold wsF
     rw [tk,HG,HH,e]
     simp
    rw [es]
    rw [e] at vb
    refine om ⟨_,rfl,A.wt,D.aL,A.wtx,_,.ref A.wl,rfl,J2.awt,T.cG,T.jc,rfl,.inl ⟨rfl,_,SqL.of J2.awl⟩,?_⟩
    refine ⟨_,rfl,A.wt,D.aL,A.wtx,_,.ref A.wb,rfl,J2.awt,T.cG,T.bu,rfl,A.wb,rfl,.inl ⟨_,.inl J2.awb⟩,_,rfl,_,Sum.inl t,.int v,J2.awb,rfl,vb,?_⟩
    rw [show qj ((wsF s (gs.take i)).bM.map bkv) (Sum.inl t)=((brG s.bM (gs.take i)).filter fun p=>decide (p.1≠t)).map bkv from Ow]
    have w1:=J2.Zu (bs:=(brG s.bM (gs.take i)).filter fun p=>decide (p.1≠t))
    have w2:=w1.1.aax (zs:=(s.rA++sdG s.bM (gs.take i))++[v])
    refine ⟨A.wl,_,.int v,rfl,rfl,w1.1.awl,qt ?_,?_⟩
    ·have:=MV s.bM (gs.take i)
     rw [List.length_take] at this
     show ((s.rA++sdG s.bM (gs.take i)).map V.int).length≤20000
     rw [List.length_map,List.length_append]
     omega
    ·rw [List.map_append] at w2
     exact ⟨_,rfl,w2.1,(fr.trans w1.2).trans w2.2⟩
  ·rintro σ H2 ⟨v2,rfl,J2,fr⟩
   rw [List.length_map,List.take_of_length_le (Nat.le_refl _)] at J2 fr
   exact k _ _ J2 ((Fr.same s1).trans fr)
def CM (D:Ad):Sp:=fun vs H Q _=>∃ x A s g gs,vs=[.ref x,.ref g]∧IH D H x A s∧s.names.length=8∧¬bX x A s g∧H g=some (.lst (gs.map V.int))∧gs.Pairwise (·< ·)∧gs.length≤10000∧s.rA.length≤10000∧(∀ t∈gs,∃ ws,(t,ws)∈s.aS)∧∀ A' H',IH D H' x A' (letGo s gs)→Fr (bX x A s) H (bX x A' (letGo s gs)) H'→Q .non H'
abbrev Dg:List Str:=["self", "gone", "t"]
theorem qQ:aA Dg ["self", "gone"] (au nE):=⟨rfl,rfl,rfl,by decide +kernel,rfl,by decide +kernel,by decide +kernel⟩
theorem BF (F:Fun K "let_go" "Heap.let_go" nE D.cF D.gU) (T:Txt K mg D)
  (gB:Ok P w K mg base 1 D.bZ D.eX ["self", "things"] (Kf D))
  (gC:Ok P w K mg base 1 D.bY D.eW ["self", "things"] (Kh D)):Ok P w K mg base 2 D.cF D.gU ["self", "gone"] (CM D):=by
 refine ⟨?_,F.binds (ps:=["self", "gone"]) fun _ _ _ _ _ _ us hl=>match us,hl with|[_,_],_=>rfl⟩
 refine F.okE qQ (fun vs H Q E h=>?_) (fun cdv A' outer s' H vs Q E hr h=>?_)
 ·obtain ⟨x,A,s,g,gs,rfl,_⟩:=h
  rfl
 ·obtain ⟨x,A,s,g,gs,rfl,J,h8,nfg,hg,asc,hn,hsd,hin,k⟩:=h
  refine ⟨_,(PSs.nox (aj (kO PassesOwn.never rfl (qd (pv 1)) (fK (i:=2) qQ.nd rfl (Or.inl rfl))
    (ai (aM (CG (aN (pv 0) rfl) (pv 2) ⟨rfl,rfl,rfl,rfl⟩))))
   (aj (aM (aQ (aN (pv 0) rfl) T.eL T.rn gB.g (hr.mono (by decide)) gB.b .nil iT (ab (pv 1) ao)))
   (ai (aM (aQ (aN (pv 0) rfl) T.cG T.rm gC.g (hr.mono (by decide)) gC.b .nil iT (ab (pv 1) ao))))))),?_⟩
  refine ⟨_,rfl,g,rfl,⟨_,SqL.of hg⟩,CD (K:=K) (a:=g) (xs:=gs.map V.int) (fun i σ H2=>∃ v2,σ=[some (.ref x),some (.ref g),v2]∧IH D H2 x A {s with aS:=drG s.aS (gs.take i)}∧Fr (bX x A s) H (bX x A {s with aS:=drG s.aS (gs.take i)}) H2)
   ⟨none,rfl,(by rw [List.take_zero,Kd];exact J),(by rw [List.take_zero,Kd];exact Fr.refl)⟩ (fun i σ H2 _ ⟨_,_,_,fr⟩=>SqL.of (fr.out nfg hg).1) ?_ ?_⟩
  ·rintro i y σ H2 hi ⟨v2,rfl,J2,fr⟩
   rw [List.getElem?_map] at hi
   obtain ⟨t,ht,rfl⟩:=Option.map_eq_some_iff.mp hi
   have ni:=Jz asc ht
   have tk:=take_snoc ht
   obtain ⟨ws,m⟩:=hin t (List.mem_of_getElem? ht)
   obtain ⟨v,hv⟩:=lookup_mem (gp.mpr ⟨m,ni⟩)
   have vf:j6 ((drG s.aS (gs.take i)).map (fkv A)) (Sum.inl t)=some (.ref (A.fa t)):=by rw [MR,hv];rfl
   refine ⟨_,rfl,x,D.aa,_,_,.ref A.fh,rfl,J2.ax,T.af,T.aE,sg,A.fh,rfl,.inl ⟨_,.inl J2.afh⟩,_,rfl,_,Sum.inl t,_,J2.afh,rfl,vf,?_⟩
   have w:=J2.Za (t:=t)
   rw [Ov]
   rw [tk,Mg]
   exact ⟨_,rfl,w.1,fr.trans w.2⟩
  ·rintro σ H2 ⟨v2,rfl,J2,fr⟩
   rw [List.length_map,List.take_of_length_le (Nat.le_refl _)] at J2 fr
   obtain ⟨hg2,nf2⟩:=fr.out nfg hg
   refine ⟨_,rfl,x,D.aa,_,_,.ref A.nt,rfl,J2.ax,T.af,T.ej,Nw,A.nt,A.ntx,_,rfl,J2.ant,rfl,_,rfl,x,A,_,g,gs,rfl,J2,h8,hg2,fun A3 H3 J3 fr3=>?_⟩
   obtain ⟨hg3,nf3⟩:=fr3.out nf2 hg2
   refine ⟨_,rfl,x,D.aa,_,_,.ref A3.wt,rfl,J3.ax,T.af,T.gv,RU,A3.wt,A3.wtx,_,rfl,J3.awt,rfl,_,rfl,x,A3,_,g,gs,rfl,J3,hg3,asc,hn,hsd,fun A4 H4 J4 fr4=>?_⟩
   exact k A4 H4 J4 ((fr.trans fr3).trans fr4)
def HJ (fs:List (Int×List Wd)) (yn:List Int):List Wd:=fs.flatMap fun q=>if q.1∈yn then [] else q.2
def DH (s:HS):List Wd:=s.aH++HJ s.aS s.yng
theorem D1 {fs:List (Int×List Wd)} {q:Int×List Wd} {yn:List Int}:HJ (fs++[q]) yn=HJ fs yn++(if q.1∈yn then [] else q.2):=by unfold HJ;rw [List.flatMap_append];simp
theorem Ki {fs:List (Int×List Wd)} {yn:List Int} (h:∀ t ws,(t,ws)∈fs→ws.length≤6):(HJ fs yn).length≤6*fs.length:=by
 induction fs with
 | nil=>exact Nat.le_refl _
 | cons q r ih =>
  have i:=ih fun t ws m=>h t ws (List.mem_cons_of_mem _ m)
  have:=h q.1 q.2 List.mem_cons_self
  show ((if q.1∈yn then [] else q.2)++HJ r yn).length≤6*(r.length+1)
  rw [List.length_append]
  by_cases c:q.1∈yn
  ·rw [if_pos c];simp;omega
  ·rw [if_neg c];omega
theorem Mi {fs:List (Int×List Wd)} {yn:List Int} {w:Wd}:w∈HJ fs yn↔∃ t ws,(t,ws)∈fs∧t∉yn∧w∈ws:=by
 unfold HJ
 rw [List.mem_flatMap]
 constructor
 ·rintro ⟨q,mq,h⟩
  by_cases c:q.1∈yn
  ·rw [if_pos c] at h;cases h
  ·rw [if_neg c] at h;exact ⟨q.1,q.2,mq,c,h⟩
 ·rintro ⟨t,ws,m,c,h⟩
  exact ⟨(t,ws),m,by rw [if_neg c];exact h⟩
open Classical in
noncomputable def kQ (s:HS):List Int:=s.yng.filter fun t=>decide (¬Led (DH s) (fld s) s.yng t)
noncomputable def kf (s:HS):HS:=letGo {s with yng:=[]} (kQ s)
open Classical in
noncomputable def DI (s:HS):List Int:=(keys s).filter fun t=>decide (¬Led s.aH (fld s) (keys s) t)
noncomputable def MW (s:HS):HS:={s with rnd:=true,de:=DI s}
noncomputable def Bk (s:HS):Re:=if s.rnd=true then (some .on,s) else (none,MW (kf s))
def Oz (s:HS):HS:=letGo {s with rnd:=false,de:=[]} s.de
def MX (s:HS):Re:=if s.rnd=true then (none,Oz s) else (some .no,s)
open Classical in
noncomputable def oK (s:HS) (t:Int):HS:={s with de:=s.de.filter fun u=>decide (¬Led [.th t] (fld s) s.de u)}
noncomputable def rdR (s:HS) (n:Option Int):HS:=match n with|some t=>if t∈s.de then oK s t else s|none=>s
noncomputable def lZ (s:HS) (h w:Int):Re:=if ok8 h then (if ok8 w then (none,rdR (mK s h (nmW (s.names.getD w.toNat none))) (s.names.getD w.toNat none)) else (some .name,s)) else (some .hand,s)
noncomputable def mkR (s:HS) (n:Int):HS:=if s.my=true∧wsum s s.yng+(n+1)>s.room then kf s else s
noncomputable def kg (s:HS) (h n:Int):Re:=if ok8 h then (if 0≤n∧n≤6 then (if held (mkR s n)+(n+1)>s.limit then (some .room,mkR s n) else (none,Hz (mkR s n) h n)) else (some .count,s)) else (some .hand,s)
theorem lT {l ms:List Int} {p:Int→Bool} (h:∀ t∈l,(p t=true↔t∉ms)):l.filter p=l.filter fun t=>decide (t∉ms):=List.filter_congr fun t m=>by
 have:=h t m
 by_cases c:t∈ms
 ·simp only [c,not_true,decide_false]
  cases e:p t with
  | false=>rfl
  | true=>exact absurd (this.mp e) (by simp [c])
 ·simp only [c,not_false_eq_true,decide_true]
  exact this.mpr c
open Classical in
theorem Lg {s:HS} {ms:List Int} (h:∀ t,t∈ms↔Led (DH s) (fld s) s.yng t):(s.yng.filter fun t=>decide (t∉ms))=kQ s:=by
 unfold kQ
 refine (lT fun t _=>?_).symm
 rw [decide_eq_true_iff,h]
open Classical in
theorem Mj {s:HS} {ms:List Int} (h:∀ t,t∈ms↔Led s.aH (fld s) (keys s) t):((keys s).filter fun t=>decide (t∉ms))=DI s:=by
 unfold DI
 refine (lT fun t _=>?_).symm
 rw [decide_eq_true_iff,h]
open Classical in
theorem Ml {s:HS} {t:Int} {ms:List Int} (h:∀ u,u∈ms↔Led [.th t] (fld s) s.de u):{s with de:=s.de.filter fun u=>decide (u∉ms)}=oK s t:=by
 unfold oK
 congr 1
 refine (lT fun u _=>?_).symm
 rw [decide_eq_true_iff,h]
theorem OA {H:Hp} {xs ys:List V} {ws zs:List Wd} (a:Rel H xs ws) (b:Rel H ys zs):Rel H (xs++ys) (ws++zs):=by
 refine ⟨by rw [List.length_append,List.length_append,a.1,b.1],fun i v w h1 h2=>?_⟩
 by_cases c:i<xs.length
 ·rw [List.getElem?_append_left c] at h1
  rw [List.getElem?_append_left (by rw [←a.1];exact c)] at h2
  exact a.2 i v w h1 h2
 ·rw [List.getElem?_append_right (by omega)] at h1
  rw [List.getElem?_append_right (by rw [←a.1];omega),←a.1] at h2
  exact b.2 _ v w h1 h2
structure Gd (s:HS):Prop where
 g:Good s
 dy:∀ t∈s.de,t∉s.yng
 dh:∀ t,Wd.th t∈s.aH→t∉s.de
 df:∀ u ws t,(u,ws)∈s.aS→u∉s.de→Wd.th t∈ws→t∉s.de
 rd:s.rnd=false→s.de=[]
theorem mem_keys {s:HS} {t:Int}:t∈keys s↔∃ ws,(t,ws)∈s.aS:=by
 unfold keys
 rw [List.mem_map]
 exact ⟨fun ⟨p,m,e⟩=>⟨p.2,by rw [←e];exact m⟩,fun ⟨ws,m⟩=>⟨_,m,rfl⟩⟩
theorem OB {fs:List (Int×List Wd)} {gs:List Int} (nd:gs.Nodup) (h:∀ t∈gs,∃ ws,(t,ws)∈fs):(drG fs gs).length+gs.length≤fs.length:=by
 have e:fs.length=(fs.filter fun p=>decide (p.1∉gs)).length+(fs.filter fun p=>!decide (p.1∉gs)).length:=by
  clear h
  induction fs with
  | nil=>rfl
  | cons p r ih =>
   rw [List.filter_cons,List.filter_cons]
   by_cases c:p.1∈gs
   ·simp [c] at ih ⊢;omega
   ·simp [c] at ih ⊢;omega
 have le:gs.length≤((fs.filter fun p=>!decide (p.1∉gs)).map (·.1)).length:=oJ nd fun t m=>by
  obtain ⟨ws,mw⟩:=h t m
  exact List.mem_map.mpr ⟨(t,ws),List.mem_filter.mpr ⟨mw,by simp [m]⟩,rfl⟩
 rw [List.length_map] at le
 unfold drG
 omega
theorem Good.letGo {s:HS} (g:Good s) {gs:List Int} (asc:gs.Pairwise (·< ·)) (hin:∀ t∈gs,∃ ws,(t,ws)∈s.aS) (hh:∀ t,Wd.th t∈s.aH→t∉gs) (hf:∀ u ws t,(u,ws)∈s.aS→u∉gs→Wd.th t∈ws→t∉gs) (hy:∀ t∈s.yng,t∉gs) (hd:∀ t∈s.de,t∉gs):Good (letGo s gs) where
 h8:=g.h8
 n8:=by show (s.names.map (nmG gs)).length=8;rw [List.length_map];exact g.n8
 asc:=List.Pairwise.sublist (List.Sublist.map _ List.filter_sublist) g.asc
 lt:=fun t ws m=>g.lt t ws (gp.mp m).1
 f6:=fun t ws m=>g.f6 t ws (gp.mp m).1
 hh:=fun t m=>by obtain ⟨ws,q⟩:=g.hh t m;exact ⟨ws,gp.mpr ⟨q,hh t m⟩⟩
 ff:=fun u ws t m h=>by obtain ⟨w',q⟩:=g.ff u ws t (gp.mp m).1 h;exact ⟨w',gp.mpr ⟨q,hf u ws t (gp.mp m).1 (gp.mp m).2 h⟩⟩
 nn:=fun t m=>by
  obtain ⟨n,mn,e⟩:=List.mem_map.mp (show some t∈s.names.map (nmG gs) from m)
  cases n with
  | none=>cases e
  | some u =>
   have e:(if u∈gs then none else some u)=some t:=e
   by_cases c:u∈gs
   ·rw [if_pos c] at e;cases e
   ·rw [if_neg c] at e
    cases e
    obtain ⟨ws,q⟩:=g.nn t mn
    exact ⟨ws,gp.mpr ⟨q,c⟩⟩
 b12:=Nat.le_trans (List.length_filter_le _ _) g.b12
 bk:=fun t z m=>by
  have m:=List.mem_filter.mp (show (t,z)∈brG s.bM gs from m)
  obtain ⟨ws,q⟩:=g.bk t z m.1
  exact ⟨ws,gp.mpr ⟨q,by simpa using m.2⟩⟩
 bnd:=List.Pairwise.sublist (List.Sublist.map _ List.filter_sublist) g.bnd
 n0:=g.n0
 nx:=g.nx
 sd:=by
  have h1:=g.sd
  have h2:=OB (ou asc) hin
  have h3:=MV s.bM gs
  show ((s.rA++sdG s.bM gs).length:Int)+(drG s.aS gs).length≤s.nxt
  rw [List.length_append]
  omega
 yk:=fun t m=>by obtain ⟨ws,q⟩:=g.yk t m;exact ⟨ws,gp.mpr ⟨q,hy t m⟩⟩
 Bp:=g.Bp
 dk:=fun t m=>by obtain ⟨ws,q⟩:=g.dk t m;exact ⟨ws,gp.mpr ⟨q,hd t m⟩⟩
 Cr:=g.Cr
theorem Good.noY {s:HS} (g:Good s):Good {s with yng:=[]}:=⟨g.h8,g.n8,g.asc,g.lt,g.f6,g.hh,g.ff,g.nn,g.b12,g.bk,g.bnd,g.n0,g.nx,g.sd,(fun t m=>nomatch m),List.Pairwise.nil,g.dk,g.Cr⟩
theorem Good.noD {s:HS} (g:Good s) {b:Bool}:Good {s with rnd:=b,de:=[]}:=⟨g.h8,g.n8,g.asc,g.lt,g.f6,g.hh,g.ff,g.nn,g.b12,g.bk,g.bnd,g.n0,g.nx,g.sd,g.yk,g.Bp,(fun t m=>nomatch m),List.Pairwise.nil⟩
theorem Good.aaH {s:HS} (g:Good s) {b:Bool} {ds:List Int} (h:∀ t∈ds,∃ ws,(t,ws)∈s.aS) (a:ds.Pairwise (·< ·)):Good {s with rnd:=b,de:=ds}:=⟨g.h8,g.n8,g.asc,g.lt,g.f6,g.hh,g.ff,g.nn,g.b12,g.bk,g.bnd,g.n0,g.nx,g.sd,g.yk,g.Bp,h,a⟩
theorem gR {s:HS} {t:Int}:t∈kQ s↔t∈s.yng∧¬Led (DH s) (fld s) s.yng t:=by unfold kQ;rw [List.mem_filter];simp
theorem Cu {s:HS} (g:Good s):(kQ s).Pairwise (·< ·):=List.Pairwise.sublist List.filter_sublist g.Bp
theorem D2 {s:HS} (g:Good s):∀ t∈kQ s,∃ ws,(t,ws)∈s.aS:=fun t m=>g.yk t (gR.mp m).1
theorem OC {s:HS} {t:Int} (h:Wd.th t∈s.aH):t∉kQ s:=fun m=>(gR.mp m).2 (.root (List.mem_append_left _ h) (gR.mp m).1)
theorem WG {s:HS} (g:Good s) {u t:Int} {ws:List Wd} (m:(u,ws)∈s.aS) (hu:u∉kQ s) (h:Wd.th t∈ws):t∉kQ s:=fun mt=>by
 by_cases c:u∈s.yng
 ·have lu:Led (DH s) (fld s) s.yng u:=Classical.byContradiction fun z=>hu (gR.mpr ⟨c,z⟩)
  exact (gR.mp mt).2 (.step lu (by rw [g.fld m];exact h) (gR.mp mt).1)
 ·exact (gR.mp mt).2 (.root (List.mem_append_right _ (Mi.mpr ⟨u,ws,m,c,h⟩)) (gR.mp mt).1)
theorem Gd.small {s:HS} (d:Gd s):Gd (kf s) where
 g:=d.g.noY.letGo (Cu d.g) (D2 d.g) (fun t h=>OC h) (fun u ws t m hu h=>WG d.g m hu h) (fun t m=>nomatch m) (fun t m z=>d.dy t m (gR.mp z).1)
 dy:=fun t _ m=>nomatch m
 dh:=d.dh
 df:=fun u ws t m hu h=>d.df u ws t (gp.mp m).1 hu h
 rd:=d.rd
theorem l7 {s:HS} {t:Int}:t∈DI s↔t∈keys s∧¬Led s.aH (fld s) (keys s) t:=by unfold DI;rw [List.mem_filter];simp
theorem Gd.beg {s:HS} (d:Gd s) (hy:s.yng=[]):Gd (MW s) where
 g:=d.g.aaH (fun t m=>mem_keys.mp (l7.mp m).1) (List.Pairwise.sublist List.filter_sublist d.g.asc)
 dy:=fun t _ m=>by rw [show (MW s).yng=[] from hy] at m;cases m
 dh:=fun t h m=>(l7.mp m).2 (.root h (l7.mp m).1)
 df:=fun u ws t m hu h mt=>by
  have lu:Led s.aH (fld s) (keys s) u:=Classical.byContradiction fun z=>hu (l7.mpr ⟨mem_keys.mpr ⟨ws,m⟩,z⟩)
  exact (l7.mp mt).2 (.step lu (by rw [d.g.fld m];exact h) (l7.mp mt).1)
 rd:=fun h=>by cases h
theorem Gd.fin {s:HS} (d:Gd s):Gd (Oz s) where
 g:=d.g.noD.letGo d.g.Cr d.g.dk (fun t h=>d.dh t h) (fun u ws t m hu h=>d.df u ws t m hu h) (fun t m z=>d.dy t z m) (fun t m=>nomatch m)
 dy:=fun t m=>nomatch m
 dh:=fun t _ m=>nomatch m
 df:=fun u ws t _ _ _ m=>nomatch m
 rd:=fun _=>rfl
theorem oy {s:HS} {t u:Int}:u∈(oK s t).de↔u∈s.de∧¬Led [.th t] (fld s) s.de u:=by unfold oK;rw [List.mem_filter];simp
structure GdN (s:HS):Prop where
 g:Good s
 dy:∀ t∈s.de,t∉s.yng
 df:∀ u ws t,(u,ws)∈s.aS→u∉s.de→Wd.th t∈ws→t∉s.de
 rd:s.rnd=false→s.de=[]
theorem Good.Zb {s:HS} (g:Good s) {ds:List Int} (h:ds.Sublist s.de):Good {s with de:=ds}:=⟨g.h8,g.n8,g.asc,g.lt,g.f6,g.hh,g.ff,g.nn,g.b12,g.bk,g.bnd,g.n0,g.nx,g.sd,g.yk,g.Bp,(fun t m=>g.dk t (h.subset m)),g.Cr.sublist h⟩
theorem Gd.Zc {s:HS} (d:GdN s) {t:Int} (ht:t∈s.de) (hh:∀ u,Wd.th u∈s.aH→u=t∨u∉s.de):Gd (oK s t) where
 g:=d.g.Zb List.filter_sublist
 dy:=fun u m=>d.dy u (oy.mp m).1
 dh:=fun u h m=>by
  rcases hh u h with e|e
  ·exact (oy.mp m).2 (by rw [e];exact .root List.mem_cons_self ht)
  ·exact e (oy.mp m).1
 df:=fun u ws v m hu h mv=>by
  obtain ⟨v1,v2⟩:=oy.mp mv
  by_cases c:u∈s.de
  ·have lu:Led [.th t] (fld s) s.de u:=Classical.byContradiction fun z=>hu (oy.mpr ⟨c,z⟩)
   exact v2 (.step lu (by rw [d.g.fld m];exact h) v1)
  ·exact d.df u ws v m c h v1
 rd:=fun h=>by
  have:=d.rd h
  show s.de.filter _=[]
  rw [this]
  rfl
theorem Kj {s:HS} {n:Int}:(mkR s n).limit=s.limit:=by unfold mkR;split<;>rfl
theorem me {s:HS} {n:Int}:(mkR s n).nxt=s.nxt:=by unfold mkR;split<;>rfl
theorem D3 {s:HS} {n:Int}:(mkR s n).aH=s.aH:=by unfold mkR;split<;>rfl
theorem Gd.mkd {s:HS} (d:Gd s) {n:Int}:Gd (mkR s n):=by
 unfold mkR
 split
 ·exact d.small
 ·exact d
def D4 (D:Ad):Sp:=fun vs H Q _=>∃ x A s,vs=[.ref x]∧IH D H x A s∧Good s∧∀ v A' H',IH D H' x A' (kf s)→Fr (bX x A s) H (bX x A' (kf s)) H'→Q v H'
abbrev lH:List Str:=["self", "leads", "t", "kept", "gone"]
theorem ed:aA lH ["self"] (au gz):=⟨rfl,rfl,rfl,by decide +kernel,rfl,by decide +kernel,by decide +kernel⟩
theorem rJ (F:Fun K "small_round" "Heap.small_round" gz D.bt D.eY) (T:Txt K mg D)
  (cy:Ok P w K mg base 1 D.bS D.dZ ["self"] (pw D))
  (bo:Ok P w K mg base 3 D.bj D.dC ["self", "leads", "things"] (FF D))
  (eM:Ok P w K mg base 2 D.cF D.gU ["self", "gone"] (CM D)):Ok P w K mg base 4 D.bt D.eY ["self"] (D4 D):=by
 refine ⟨?_,F.binds (ps:=["self"]) fun _ _ _ _ _ _ us hl=>match us,hl with|[_],_=>rfl⟩
 refine F.okE ed (fun vs H Q E h=>?_) (fun cdv A' outer s' H vs Q E hr h=>?_)
 ·obtain ⟨x,A,s,rfl,_⟩:=h
  rfl
 ·obtain ⟨x,A,s,rfl,J,G,k⟩:=h
  have hu:=kT hr
  refine ⟨_,(PSs.nox (aj (bp (i:=1) ed.nd rfl (Or.inl rfl) (i7 (aN (pv 0) rfl) T.aV T.lD cy.g (hr.mono (by decide)) cy.b .nil iT))
   (aj (kO PassesOwn.never rfl (sr (Bj (aN (pv 0) rfl))) (fK (i:=2) ed.nd rfl (Or.inl rfl))
    (ai (bB (qh (lX hu (pv 2) (aN (pv 0) rfl)) (by with_unfolding_all rfl))
     (ai (aM (Ij PySem.F.plainAttrs_list PySem.F.slot_list_extend PySem.F.type_list_extend KI (pv 1) (ab (qf hu (aN (pv 0) rfl) (pv 2) (fun _ _=>rfl)) ao))))
     aP)))
   (aj (MN (bp (i:=3) ed.nd rfl (Or.inr rfl) (aQ (pv 0) T.af T.gx bo.g (hr.mono (by decide)) bo.b .nil iT (ab (pv 1) (ab (aN (pv 0) rfl) ao)))))
   (aj (Ma (cl:=[("kept",s'.heap.objs.size+1)]) (x := "t") (idx:=[3]) (NC:=["t", "kept"]) (i:=4) ed.nd rfl rfl ?co1 rfl (sr (Bj (aN (pv 0) rfl))) (fun C fp s₀ H₀=>(qh (lX hu (pv 0) (pv 1)) (by with_unfolding_all rfl))) (fun C fp s₀ H₀=>(pv 0)))
   (aj (MN (gF (pv 0) kL rfl))
   (aj (aM (aQ (pv 0) T.af T.kM eM.g (hr.mono (by decide)) eM.b .nil iT (ab (pv 4) ao)))
   (ai (aX (pv 4)))))))))),?_⟩
  case co1 =>
   exact sq (sc:=au gz) (N:=lH) (ns:=["kept"]) rfl rfl rfl (by decide +kernel) rfl rfl (by
    intro q hq
    rw [List.mem_singleton.mp hq]
    rfl)
  refine ⟨_,rfl,x,D.aa,_,_,.ref A.hd,rfl,J.ax,T.af,T.ay,k9,A.hd,A.hdx,_,rfl,J.ahd,rfl,A.hd,A.hdx,A.hl,A.hx,s.aH,rfl,J.hn G,fun p H1 s1 hp z1=>?_⟩
  have J1:=J.same s1
  have nfp:¬bX x A s p:=J.fresh hp
  refine ⟨_,rfl,x,D.aa,_,_,.ref A.fh,rfl,J1.ax,T.af,T.aE,sg,A.fh,_,J1.afh,fun o=>?_⟩
  have yf:A.yg≠A.fh:=Ne.symm J.d4
  have pf:p≠A.fh:=fun e=>nfp (by rw [e];exact .fh)
  have py:p≠A.yg:=fun e=>nfp (by rw [e];exact .yg)
  have lk:(s.aS.map (fkv A)).length=s.aS.length:=List.length_map _
  refine ⟨A.fh,o,_,rfl,ag,xw (d:=A.fh) (o:=o) (kvs:=s.aS.map (fkv A)) (fun i σ Hc=>∃ v2,σ=[some (.ref x),some (.ref p),v2,none,none]∧((∀ b u,b≠A.fh→b≠p→H1 b=some u→Hc b=some u)∧Hc A.fh=some (.frz o (.dK (s.aS.map (fkv A)))))∧∃ ys,Hc p=some (.lst ys)∧Rel Hc ys (s.aH++HJ (s.aS.take i) s.yng))
   ⟨none,rfl,⟨fun b u n _ q=>by rw [ae n];exact q,ag⟩,A.hx,by rw [ae pf];exact z1,by rw [List.take_zero,show HJ [] s.yng=[] from rfl,List.append_nil];exact J1.rhl.keep (dr.set J1.afh (fun _ z=>nomatch z))⟩ (fun i σ Hc _ ⟨_,_,oc,_⟩=>oc.2) ?_ ?_⟩
  ·rintro i q σ Hc hi ⟨v2,rfl,oc,ys,hy,ry⟩
   rw [List.getElem?_map] at hi
   obtain ⟨⟨t,ws⟩,ht,rfl⟩:=Option.map_eq_some_iff.mp hi
   have m:=List.mem_of_getElem? ht
   have tk:=take_snoc ht
   obtain ⟨hl,rl⟩:=J1.afl _ _ m
   have nlf:A.fa t≠A.fh:=aw hl J1.afh (by intro z;cases z)
   have nlp:A.fa t≠p:=fun e=>nfp (by rw [←e];exact .fl m)
   have hlc:=oc.1 _ _ nlf nlp hl
   have tc:dr H1 Hc:=fun b us q=>oc.1 b _ (aw q J1.afh (by intro z;cases z)) (aw q z1 (by intro z;cases z)) q
   have xf:x≠A.fh:=aw J1.ax J1.afh (by intro z;cases z)
   have xp:x≠p:=fun e=>nfp (by rw [←e];exact .x)
   have axc:=oc.1 _ _ xf xp J1.ax
   have ygc:=oc.1 _ _ yf (Ne.symm py) J1.ayg
   refine ⟨_,rfl,_,rfl,x,D.aa,_,_,.ref A.yg,rfl,axc,T.af,T.bq,II,A.yg,_,rfl,rk.k (k:=Sum.inl t) ygc,_,rfl,?_⟩
   rw [(Ct s.yng).isS]
   by_cases c:t∈s.yng
   ·rw [decide_eq_true c]
    refine fY ⟨_,rfl,oc,ys,hy,?_⟩
    rw [tk,D1,if_pos c,List.append_nil]
    exact ry
   ·rw [decide_eq_false c]
    have fl:=Ki (fs:=s.aS.take i) (yn:=s.yng) fun t ws m=>G.f6 t ws (List.mem_of_mem_take m)
    have f6:=G.f6 _ _ m
    have fw:=G.few
    have ly:ys.length≤60100:=by rw [ry.1,List.length_append,G.h8];rw [List.length_take] at fl;omega
    refine om ⟨_,rfl,.inl ⟨rfl,_,SqL.of hy⟩,_,rfl,x,D.aa,_,_,.ref A.fh,rfl,axc,T.af,T.aE,sg,_,rfl,A.fh,.ref (A.fa t),rfl,.inl ⟨_,Sum.inl t,.inr ⟨o,oc.2⟩,rfl,by rw [MR,G.get m];rfl⟩,p,A.fa t,ys,A.fx t,rfl,rfl,hy,hlc,?_,?_⟩
    ·have:=rl.1
     exact Nat.le_trans (show ys.length+(A.fx t).length≤70000 by omega) (by decide)
    ·refine ⟨_,rfl,⟨fun b u n1 n2 q=>by rw [ae n2];exact oc.1 b u n1 n2 q,by rw [ae (Ne.symm pf)];exact oc.2⟩,_,ag,?_⟩
     rw [tk,D1,if_neg c,←List.append_assoc]
     exact ((OA ry (rl.keep tc)).keep (dr.set hy (fun _ z=>nomatch z)))
  ·rintro σ Hc ⟨v2,rfl,oc,ys,hy,ry⟩
   rw [lk,List.take_of_length_le (Nat.le_refl _)] at ry
   refine ⟨A.fh,o,_,oc.2,(fun o' u' q=>by have q:H A.fh=some (.frz o' u'):=q;rw [J.afh] at q;cases q),?_⟩
   have kp:∀ b u,b≠p→H1 b=some u→upd Hc A.fh (.dK (s.aS.map (fkv A))) b=some u:=fun b u n q=>by
    by_cases c:b=A.fh
    ·subst c
     rw [J1.afh] at q
     cases q
     exact ag
    ·rw [ae c];exact oc.1 b u c n q
   have hy2:upd Hc A.fh (.dK (s.aS.map (fkv A))) p=some (.lst ys):=by rw [ae pf];exact hy
   have ry2:Rel (upd Hc A.fh (.dK (s.aS.map (fkv A)))) ys (DH s):=ry.keep (fun b us q=>by rw [ae fun e=>by rw [e,oc.2] at q;cases q];exact q)
   obtain ⟨H2,e2⟩:∃ H2,upd Hc A.fh (.dK (s.aS.map (fkv A)))=H2:=⟨_,rfl⟩
   rw [e2] at kp hy2 ry2 ⊢
   clear e2 ry hy oc
   have t2:dr H1 H2:=fun b us q=>kp b _ (aw q z1 (by intro z;cases z)) q
   have J2:IH D H2 x A s:=J1.keep (fun b u f q=>kp b u (fun e=>nfp (by rw [←e];exact f)) q) t2
   have fr2:Fr (bX x A s) H (bX x A s) H2:=⟨fun b u n q=>kp b u (ar q hp) (s1 _ _ q),fun _ f=>.inl f,fun b u q=>⟨u,kp b u (ar q hp) (s1 _ _ q)⟩,(dr.of s1).trans t2⟩
   have fl:=Ki (fs:=s.aS) (yn:=s.yng) G.f6
   have fw:=G.few
   refine ⟨_,rfl,x,_,_,rfl,J2.ax,(by kernel_rfl),_,rfl,_,rfl,x,D.aa,_,_,.ref A.yg,rfl,J2.ax,T.af,T.bq,II,x,A,s,p,ys,DH s,A.yg,_,s.yng,rfl,J2,G,hy2,ry2,by unfold DH;rw [List.length_append,G.h8];omega,J2.ayg,Ct _,G.yk,ou G.Bp,C9 G,fun st kv ms H3 s3 hst h3 k3 n3 m3=>?_⟩
   have J3:=J2.same s3
   refine ⟨_,rfl,x,D.aa,_,_,.ref A.yg,rfl,J3.ax,T.af,T.bq,II,A.yg,_,J3.ayg,fun o2=>?_⟩
   refine ⟨A.yg,o2,_,rfl,ag,fun L hL=>?_⟩
   have nsy:st≠A.yg:=fun e=>by rw [e,J2.ayg] at hst;cases hst
   have st3:upd H3 A.yg (.frz o2 (.dK (s.yng.map tkv))) st=some (.dK kv):=by rw [ae nsy];exact h3
   refine Io (d:=A.yg) (o:=o2) (kvs:=s.yng.map tkv) (fun i zs Hc=>zs=((s.yng.take i).filter fun t=>decide (t∉ms)).map V.int∧aG (upd H3 A.yg (.frz o2 (.dK (s.yng.map tkv)))) Hc∧Hc L=some (.lst zs)) ⟨rfl,aG.upd hL,ag⟩ (fun i zs Hc hi ⟨e,_,z⟩=>⟨z,by rw [e,List.length_map];exact Nat.le_trans (List.length_filter_le _ _) (by rw [List.length_take];omega)⟩) (fun i zs Hc _ ⟨_,sc,_⟩=>sc _ _ ag) (by rw [List.length_map];exact xn (Nat.le_trans (C9 G) (by decide))) (fun i q zs Hc hi ⟨e,sc,z⟩=>?_) (fun zs Hc ⟨e,sc,z⟩=>?_)
   ·obtain ⟨t,ht,ekv,ep⟩:=(Ct s.yng).at_ hi
    have tk:=take_snoc ht
    rw [ekv]
    refine ⟨_,rfl,_,rfl,st,_,rfl,rk.k (k:=Sum.inl t) (sc _ _ st3),_,rfl,?_⟩
    rw [k3.isS]
    by_cases c:t∈ms
    ·rw [decide_eq_true c]
     refine fY ⟨?_,sc,z⟩
     rw [tk,List.filter_append,e]
     simp [c]
    ·rw [decide_eq_false c]
     refine om ⟨_,rfl,z,?_,fun b u q=>by rw [ae (ar q hL)];exact sc b u q,ag⟩
     rw [tk,List.filter_append,e]
     simp [c]
   ·rw [List.length_map,List.take_of_length_le (Nat.le_refl _)] at e
    have eg:(s.yng.filter fun t=>decide (t∉ms))=kQ s:=Lg m3
    rw [eg] at e
    subst e
    refine ⟨A.yg,o2,_,sc _ _ ag,(fun o' u' q=>by have q:H A.yg=some (.frz o' u'):=q;rw [J.ayg] at q;cases q),?_⟩
    have sm:aG H3 (upd Hc A.yg (.dK (s.yng.map tkv))):=fun b u q=>by
     by_cases c:b=A.yg
     ·subst c
      rw [J3.ayg] at q
      cases q
      exact ag
     ·rw [ae c];exact sc b u (by rw [ae c];exact q)
    have nLy:L≠A.yg:=fun e=>by rw [e,ag] at hL;cases hL
    have zL:upd Hc A.yg (.dK (s.yng.map tkv)) L=some (.lst ((kQ s).map V.int)):=by rw [ae nLy];exact z
    have hL3:H3 L=none:=by rw [ae nLy] at hL;exact hL
    have aaI:=J3.fresh hL3
    obtain ⟨H4,e4⟩:∃ H4,upd Hc A.yg (.dK (s.yng.map tkv))=H4:=⟨_,rfl⟩
    rw [e4] at sm zL ⊢
    clear e4
    have J4:=J3.same sm
    intro p2 hp2
    have w:=J4.aaC hp2
    have xp2:x≠p2:=ar J4.ax hp2
    refine ⟨_,rfl,x,D.aa,A.dx,_,rfl,(by rw [ae xp2];exact J4.ax),T.af,T.bq,by show 11<1000;decide,?_⟩
    obtain ⟨J5,fr5⟩:=w
    have oL:=fr5.out aaI zL
    refine ⟨_,rfl,x,_,_,rfl,J5.ax,(by kernel_rfl),_,rfl,x,_,_,L,kQ s,rfl,J5,G.n8,oL.2,oL.1,Cu G,Nat.le_trans (List.length_filter_le _ _) (C9 G),(by have:=G.sd;have:=G.nx;show s.rA.length≤10000;omega),D2 G,fun A6 H6 J6 fr6=>⟨_,rfl,k _ A6 H6 J6 ((((fr2.trans (Fr.same s3)).trans (Fr.same sm)).trans fr5).trans fr6)⟩⟩
def xB (D:Ad):Sp:=fun vs H Q _=>∃ x A s,vs=[.ref x]∧IH D H x A s∧Good s∧∀ A' H',IH D H' x A' (kf s)→Fr (bX x A s) H (bX x A' (kf s)) H'→Q .non H'
abbrev vv:List Str:=["self"]
theorem tH:aA vv ["self"] (au jm):=⟨rfl,rfl,rfl,by decide +kernel,rfl,by decide +kernel,by decide +kernel⟩
theorem tI (F:Fun K "small" "IdealHeap.small" jm D.bE D.cX) (T:Txt K mg D)
  (gD:Ok P w K mg base 4 D.bt D.eY ["self"] (D4 D)):Ok P w K mg base 5 D.bE D.cX ["self"] (xB D):=by
 refine ⟨?_,F.binds (ps:=["self"]) fun _ _ _ _ _ _ us hl=>match us,hl with|[_],_=>rfl⟩
 refine F.okE tH (fun vs H Q E h=>?_) (fun cdv A' outer s' H vs Q E hr h=>?_)
 ·obtain ⟨x,A,s,rfl,_⟩:=h
  rfl
 ·obtain ⟨x,A,s,rfl,J,G,k⟩:=h
  refine ⟨_,(PSs.nox (ai (aM (i7 (pv 0) T.af T.mQ gD.g (hr.mono (by decide)) gD.b .nil iT)))),?_⟩
  exact ⟨_,rfl,x,_,_,rfl,J.ax,(by kernel_rfl),x,A,s,rfl,J,G,fun v A' H' J' fr=>k A' H' J' fr⟩
def MY (D:Ad):Sp:=fun vs H Q E=>∃ x A s,vs=[.ref x]∧IH D H x A s∧Gd s∧Fin D x A s H (Bk s) Q E
theorem IH.aaJ {D:Ad} {H:Hp} {x:Addr} {A:HA} {s:HS} (J:IH D H x A s) {b:Addr} (f:bX x A s b) (o:Obj) (u:HO):H b≠some (.frz o u):=by
 intro q
 cases f with
 | x=>rw [J.ax] at q;cases q
 | hd=>rw [J.ahd] at q;cases q
 | hl=>rw [J.ahl] at q;cases q
 | nt=>rw [J.ant] at q;cases q
 | nl=>rw [J.anl] at q;cases q
 | wt=>rw [J.awt] at q;cases q
 | wb=>rw [J.awb] at q;cases q
 | wl=>rw [J.awl] at q;cases q
 | fh=>rw [J.afh] at q;cases q
 | yg=>rw [J.ayg] at q;cases q
 | dm=>rw [J.adm] at q;cases q
 | fl m=>rw [(J.afl _ _ m).1] at q;cases q
abbrev vw:List Str:=["self", "kept", "t"]
theorem i4:aA vw ["self"] (au jn):=⟨rfl,rfl,rfl,by decide +kernel,rfl,by decide +kernel,by decide +kernel⟩
theorem tJ (F:Fun K "begin" "IdealHeap.begin" jn D.cw D.fG) (T:Txt K mg D)
  (ah:Ok P w K mg base 1 D.ak D.aB ["self", "text"] (Bo K))
  (a5:Ok P w K mg base 5 D.bE D.cX ["self"] (xB D))
  (cy:Ok P w K mg base 1 D.bS D.dZ ["self"] (pw D))
  (bo:Ok P w K mg base 3 D.bj D.dC ["self", "leads", "things"] (FF D)):Ok P w K mg base 6 D.cw D.fG ["self"] (MY D):=by
 refine ⟨?_,F.binds (ps:=["self"]) fun _ _ _ _ _ _ us hl=>match us,hl with|[_],_=>rfl⟩
 refine F.okE i4 (fun vs H Q E h=>?_) (fun cdv A' outer s' H vs Q E hr h=>?_)
 ·obtain ⟨x,A,s,rfl,_⟩:=h
  rfl
 ·obtain ⟨x,A,s,rfl,J,Gs,k⟩:=h
  have hu:=kT hr
  refine ⟨_,(aj (bB (oB (aN (pv 0) rfl))
    (ai (fV rfl j7 (j8 T.IC ah.g (hr.mono (by decide)) rfl T.IB ah.b (Passes.x (aT fun _ _ _ q=>q)) (ab aK ao))))
    aP)
   (aj (aM (i7 (pv 0) T.af T.i3 a5.g (hr.mono (by decide)) a5.b .nil (Passes.x (aT fun _ _ _ q=>q))))
   (aj (gF (pv 0) pD rfl)
   (aj (bp (i:=1) i4.nd rfl (Or.inl rfl) (aQ (pv 0) T.af T.gx bo.g (hr.mono (by decide)) bo.b .nil (Passes.x (aT fun _ _ _ q=>q)) (ab (i7 (aN (pv 0) rfl) T.aV T.lD cy.g (hr.mono (by decide)) cy.b .nil (Passes.x (aT fun _ _ _ q=>q))) (ab (aN (pv 0) rfl) ao))))
   (ai (PS.nox (Oq (kO PassesOwn.never rfl (sr (Bj (aN (pv 0) rfl))) (fK (i:=2) i4.nd rfl (Or.inl rfl))
    (ai (bB (qh (lX hu (pv 2) (pv 1)) (by with_unfolding_all rfl))
     (ai (qg hu (aN (pv 0) rfl) (pv 2) pD rfl))
     aP)))))))))),?_⟩
  refine ⟨_,rfl,x,D.aa,_,_,.bl s.rnd,rfl,J.ax,T.af,T.cM,Nx,_,rfl,?_⟩
  by_cases c:s.rnd=true
  ·rw [show Bk s=(some .on,s) from if_pos c] at k
   exact IQ c (fun ea hea=>cW T.Ck (fun _ q=>q) (k.bad J) ea hea)
  ·rw [show Bk s=(none,MW (kf s)) from if_neg c] at k
   refine xA (Bool.eq_false_iff.mpr c) ?_
   refine ⟨_,rfl,x,_,_,rfl,J.ax,(by kernel_rfl),x,A,s,rfl,J,Gs.g,fun A1 H1 J1 fr1=>?_⟩
   have G1:=Gs.small
   have d0:(kf s).de=[]:=Gs.rd (Bool.eq_false_iff.mpr c)
   obtain ⟨s1,es⟩:∃ s1,kf s=s1:=⟨_,rfl⟩
   rw [es] at J1 fr1 G1 k d0
   refine ⟨_,rfl,x,D.aa,A1.dx,_,rfl,J1.ax,T.af,T.cM,by show 11<1000;decide,?_⟩
   have w2:=J1.Zw (n:=true)
   obtain ⟨H2,e2⟩:∃ H2,upd H1 x (.ins D.aa A1.dx (gu "in_round" (.bl true) (atts A1 s1)))=H2:=⟨_,rfl⟩
   rw [e2] at w2
   show Ft _ _ _ _ (upd H1 x (.ins D.aa A1.dx (gu "in_round" (.bl true) (atts A1 s1))))
   rw [e2]
   clear e2
   obtain ⟨J2,fr2⟩:=w2
   have G2:Good {s1 with rnd:=true}:=⟨G1.g.h8,G1.g.n8,G1.g.asc,G1.g.lt,G1.g.f6,G1.g.hh,G1.g.ff,G1.g.nn,G1.g.b12,G1.g.bk,G1.g.bnd,G1.g.n0,G1.g.nx,G1.g.sd,G1.g.yk,G1.g.Bp,G1.g.dk,G1.g.Cr⟩
   refine ⟨_,rfl,x,_,_,rfl,J2.ax,(by kernel_rfl),_,rfl,x,D.aa,_,_,.ref A1.hd,rfl,J2.ax,T.af,T.ay,k9,A1.hd,A1.hdx,_,rfl,J2.ahd,rfl,A1.hd,A1.hdx,A1.hl,A1.hx,s1.aH,rfl,J2.hn G2,fun p H3 s3 hp z3=>?_⟩
   have J3:=J2.same s3
   refine ⟨_,rfl,x,D.aa,_,_,.ref A1.fh,rfl,J3.ax,T.af,T.aE,sg,x,A1,_,p,A1.hx,s1.aH,A1.fh,_,keys s1,rfl,J3,G2,z3,J3.rhl,by rw [G1.g.h8];decide,J3.afh,RV s1 A1,(fun t m=>mem_keys.mp m),ou G1.g.asc,by unfold keys;rw [List.length_map];exact G1.g.few,fun st kv ms H4 s4 hst h4 k4 n4 m4=>?_⟩
   have J4:=J3.same s4
   have fr4:=((fr1.trans fr2).trans (Fr.same s3)).trans (Fr.same s4)
   refine ⟨_,rfl,x,D.aa,_,_,.ref A1.fh,rfl,J4.ax,T.af,T.aE,sg,A1.fh,_,J4.afh,fun o=>?_⟩
   have df:A1.dm≠A1.fh:=Ne.symm J4.d5
   have sf:st≠A1.fh:=ar J3.afh hst |>.symm
   have sd:st≠A1.dm:=ar J3.adm hst |>.symm
   have xf:x≠A1.fh:=aw J4.ax J4.afh (by intro z;cases z)
   have xd:x≠A1.dm:=aw J4.ax J4.adm (by intro z;cases z)
   have aaK:H4 A1.dm=some (.dK []):=by have:=J4.adm;rw [show ({s1 with rnd:=true}:HS).de=[] from d0] at this;exact this
   refine ⟨A1.fh,o,_,rfl,ag,xw (d:=A1.fh) (o:=o) (kvs:=s1.aS.map (fkv A1)) (fun i σ Hc=>∃ v2,σ=[some (.ref x),some (.ref st),v2]∧((∀ b u,b≠A1.fh→b≠A1.dm→H4 b=some u→Hc b=some u)∧Hc A1.fh=some (.frz o (.dK (s1.aS.map (fkv A1)))))∧Hc A1.dm=some (.dK ((((keys s1).take i).filter fun t=>decide (t∉ms)).map tkv)))
    ⟨none,rfl,⟨fun b u n _ q=>by rw [ae n];exact q,ag⟩,by rw [ae df];exact aaK⟩ (fun i σ Hc _ ⟨_,_,oc,_⟩=>oc.2) ?_ ?_⟩
   ·rintro i q σ Hc hi ⟨v2,rfl,oc,hdm⟩
    obtain ⟨t,ht,ekv,ep⟩:=(RV s1 A1).at_ hi
    have tk:=take_snoc ht
    rw [ekv]
    refine ⟨_,rfl,_,rfl,st,_,rfl,rk.k (k:=Sum.inl t) (oc.1 _ _ sf sd h4),_,rfl,?_⟩
    rw [k4.isS]
    by_cases c2:t∈ms
    ·rw [decide_eq_true c2]
     refine fY ⟨_,rfl,oc,?_⟩
     rw [tk,List.filter_append,hdm]
     simp [c2]
    ·rw [decide_eq_false c2]
     have ni:t∉((keys s1).take i).filter fun t=>decide (t∉ms):=fun z=>Jz (show (keys s1).Pairwise (·< ·) from G1.g.asc) ht (List.mem_filter.mp z).1
     have lz:((((keys s1).take i).filter fun t=>decide (t∉ms)).map tkv).length<sizeLine:=by
      rw [List.length_map]
      refine qt (Nat.le_trans (List.length_filter_le _ _) ?_)
      have:=G1.g.few
      rw [List.length_take]
      unfold keys
      rw [List.length_map]
      omega
     refine om ⟨_,rfl,x,D.aa,_,_,.ref A1.dm,rfl,oc.1 _ _ xf xd J4.ax,T.af,T.bh,IJ,_,rfl,A1.dm,_,rfl,DS.k (k:=Sum.inl t) hdm lz,?_⟩
     refine ⟨_,rfl,⟨fun b u n1 n2 q=>by rw [ae n2];exact oc.1 b u n1 n2 q,by rw [ae (Ne.symm df)];exact oc.2⟩,?_⟩
     rw [ag,xu _ ((Ct _).non ni),tk,List.filter_append,List.map_append]
     simp [c2,tkv]
   ·rintro σ Hc ⟨v2,rfl,oc,hdm⟩
    rw [List.length_map,List.take_of_length_le (by unfold keys;rw [List.length_map];exact Nat.le_refl _),Mj (show ∀ t,t∈ms↔Led s1.aH (fld s1) (keys s1) t from m4)] at hdm
    refine ⟨A1.fh,o,_,oc.2,(fun o' u' q=>?_),?_⟩
    ·have q:H A1.fh=some (.frz o' u'):=q
     rcases (fr1.grow A1.fh .fh) with f|f
     ·obtain ⟨u,hu1,_⟩:=J.is f
      rw [q] at hu1
      cases hu1
      obtain ⟨u2,hu2,_⟩:=J.is f
      exact absurd q (J.aaJ f o' u')
     ·rw [f] at q;cases q
    ·have w5:=J4.Zv (ts:=DI s1)
     have sm:aG (upd H4 A1.dm (.dK ((DI s1).map tkv))) (upd Hc A1.fh (.dK (s1.aS.map (fkv A1)))):=fun b u q=>by
      by_cases c3:b=A1.fh
      ·rw [c3,ae (Ne.symm df)] at q
       rw [c3,ag]
       exact J4.afh.symm.trans q
      ·rw [ae c3]
       by_cases c4:b=A1.dm
       ·rw [c4,ag] at q
        rw [c4,hdm]
        exact q
       ·rw [ae c4] at q
        exact oc.1 b u c3 c4 q
     exact k A1 _ (w5.1.same sm) ((fr4.trans w5.2).trans (Fr.same sm))
def MZ (D:Ad):Sp:=fun vs H Q E=>∃ x A s,vs=[.ref x]∧IH D H x A s∧Gd s∧Fin D x A s H (MX s) Q E
abbrev AE:List Str:=["self", "gone"]
theorem nZ:aA AE ["self"] (au kF):=⟨rfl,rfl,rfl,by decide +kernel,rfl,by decide +kernel,by decide +kernel⟩
theorem yj (F:Fun K "end" "IdealHeap.end" kF D.dq D.gO) (T:Txt K mg D)
  (ah:Ok P w K mg base 1 D.ak D.aB ["self", "text"] (Bo K))
  (eM:Ok P w K mg base 2 D.cF D.gU ["self", "gone"] (CM D)):Ok P w K mg base 4 D.dq D.gO ["self"] (MZ D):=by
 refine ⟨?_,F.binds (ps:=["self"]) fun _ _ _ _ _ _ us hl=>match us,hl with|[_],_=>rfl⟩
 refine F.okE nZ (fun vs H Q E h=>?_) (fun cdv A' outer s' H vs Q E hr h=>?_)
 ·obtain ⟨x,A,s,rfl,_⟩:=h
  rfl
 ·obtain ⟨x,A,s,rfl,J,Gs,k⟩:=h
  refine ⟨_,(aj (bB (lV (oB (aN (pv 0) rfl)))
    (ai (fV rfl j7 (j8 T.IF ah.g (hr.mono (by decide)) rfl T.IE ah.b (Passes.x (aT fun _ _ _ q=>q)) (ab aK ao))))
    aP)
   (aj (gF (pv 0) pD rfl)
   (aj (bp (i:=1) nZ.nd rfl (Or.inl rfl) (zJ (Cg rfl) rfl T.CZ PyProof.Rows.Boot.«list» (ab (aN (pv 0) rfl) ao)))
   (aj (gF (pv 0) kL rfl)
   (ai (aM (aQ (pv 0) T.af T.kM eM.g (hr.mono (by decide)) eM.b .nil (Passes.x (aT fun _ _ _ q=>q)) (ab (pv 1) ao)))))))),?_⟩
  refine ⟨_,rfl,x,D.aa,_,_,.bl s.rnd,rfl,J.ax,T.af,T.cM,Nx,_,rfl,?_⟩
  by_cases c:s.rnd=true
  ·rw [show MX s=(none,Oz s) from if_pos c] at k
   refine xA (by rw [c];rfl) ?_
   refine ⟨_,rfl,x,D.aa,A.dx,_,rfl,J.ax,T.af,T.cM,by show 11<1000;decide,?_⟩
   have w2:=J.Zw (n:=false)
   obtain ⟨H2,e2⟩:∃ H2,upd H x (.ins D.aa A.dx (gu "in_round" (.bl false) (atts A s)))=H2:=⟨_,rfl⟩
   rw [e2] at w2
   show Ft _ _ _ _ (upd H x (.ins D.aa A.dx (gu "in_round" (.bl false) (atts A s))))
   rw [e2]
   clear e2
   obtain ⟨J2,fr2⟩:=w2
   refine ⟨_,rfl,x,D.aa,_,_,.ref A.dm,rfl,J2.ax,T.af,T.bh,IJ,A.dm,_,s.de,rfl,.inl J2.adm,Ct _,fun L hL=>?_⟩
   have s3:=aG.upd (o:=.lst (s.de.map V.int)) hL
   have J3:=J2.same s3
   have nfL:=J2.fresh hL
   intro p2 hp2
   have w:=J3.aaD hp2
   have xp2:x≠p2:=ar J3.ax hp2
   refine ⟨_,rfl,x,D.aa,A.dx,_,rfl,(by rw [ae xp2];exact J3.ax),T.af,T.bh,by show 11<1000;decide,?_⟩
   obtain ⟨J5,fr5⟩:=w
   have oL:=fr5.out nfL ag
   refine ⟨_,rfl,x,_,_,rfl,J5.ax,(by kernel_rfl),_,rfl,x,_,_,L,s.de,rfl,J5,Gs.g.n8,oL.2,oL.1,Gs.g.Cr,Kb Gs.g,(by have:=Gs.g.sd;have:=Gs.g.nx;show s.rA.length≤10000;omega),Gs.g.dk,fun A6 H6 J6 fr6=>k A6 H6 J6 (((fr2.trans (Fr.same s3)).trans fr5).trans fr6)⟩
  ·rw [show MX s=(some .no,s) from if_neg c] at k
   refine IQ (by rw [Bool.eq_false_iff.mpr c];rfl) ?_
   exact fun ea hea=>cW T.Cm (fun _ q=>q) (k.bad J) ea hea
def M0 (D:Ad):Sp:=fun vs H Q _=>∃ x A s,vs=[.ref x]∧IH D H x A s∧Q (.bl s.rnd) H
abbrev qv:List Str:=["self"]
theorem pU:aA qv ["self"] (au h9):=⟨rfl,rfl,rfl,by decide +kernel,rfl,by decide +kernel,by decide +kernel⟩
theorem pV (F:Fun K "round_on" "IdealHeap.round_on" h9 D.bJ D.dJ) (T:Txt K mg D):Ok P w K mg base 1 D.bJ D.dJ ["self"] (M0 D):=by
 refine ⟨?_,F.binds (ps:=["self"]) fun _ _ _ _ _ _ us hl=>match us,hl with|[_],_=>rfl⟩
 refine F.okE pU (fun vs H Q E h=>?_) (fun cdv A' outer s' H vs Q E hr h=>?_)
 ·obtain ⟨x,A,s,rfl,_⟩:=h
  rfl
 ·obtain ⟨x,A,s,rfl,J,k⟩:=h
  refine ⟨_,(PSs.nox (ai (aX (aN (pv 0) rfl)))),?_⟩
  exact ⟨_,rfl,x,D.aa,_,_,.bl s.rnd,rfl,J.ax,T.af,T.cM,Nx,k⟩
theorem Zd {ts:List Int} {n:Option Int}:inO (ts.map tkv) (n.map Sum.inl)=(match n with|some t=>decide (t∈ts)|none=>false):=by
 cases n with
 | none=>rfl
 | some t=>exact Zz
theorem WH (z:Option Int):nmV z=W3 (z.map Sum.inl):=by cases z<;>rfl
def HK (D:Ad):Sp:=fun vs H Q _=>∃ x A s,∃ t:Int,vs=[.ref x,.int t]∧IH D H x A s∧Good s∧0≤t∧∀ A' H',IH D H' x A' (oK s t)→Fr (bX x A s) H (bX x A' (oK s t)) H'→Q .non H'
theorem Mm {ts:List Int} {t:Int} {v:V} (h:j6 (ts.map tkv) (Sum.inl t)=some v):v=.bl true:=by
 unfold j6 at h
 obtain ⟨p,hp,e⟩:=Option.map_eq_some_iff.mp h
 obtain ⟨u,_,rfl⟩:=List.mem_map.mp (List.mem_of_find?_eq_some hp)
 exact e.symm
theorem OD {ts:List Int} {t:Int}:qj (ts.map tkv) (Sum.inl t)=(ts.filter fun p=>decide (p≠t)).map tkv:=by
 unfold qj
 rw [List.filter_map]
 congr 1
 refine List.filter_congr fun p _=>?_
 show decide (Sum.inl p≠(Sum.inl t:Key))=decide (p≠t)
 simp
abbrev vx:List Str:=["self", "t", "spared", "other"]
theorem i6:aA vx ["self", "t"] (au jo):=⟨rfl,rfl,rfl,by decide +kernel,rfl,by decide +kernel,by decide +kernel⟩
theorem tK (F:Fun K "spare" "IdealHeap.spare" jo D.cx D.fI) (T:Txt K mg D)
  (cb:Ok P w K mg base 3 D.cE D.fT ["t"] (jx))
  (bo:Ok P w K mg base 3 D.bj D.dC ["self", "leads", "things"] (FF D)):Ok P w K mg base 4 D.cx D.fI ["self", "t"] (HK D):=by
 refine ⟨?_,F.binds (ps:=["self", "t"]) fun _ _ _ _ _ _ us hl=>match us,hl with|[_,_],_=>rfl⟩
 refine F.okE i6 (fun vs H Q E h=>?_) (fun cdv A' outer s' H vs Q E hr h=>?_)
 ·obtain ⟨x,A,s,t,rfl,_⟩:=h
  rfl
 ·obtain ⟨x,A,s,t,rfl,J,G,t0,k⟩:=h
  refine ⟨_,(PSs.nox (aj (bp (i:=2) i6.nd rfl (Or.inl rfl) (aQ (pv 0) T.af T.gx bo.g (hr.mono (by decide)) bo.b .nil iT (ab (jM (ab (br cb.g (hr.mono (by decide)) rfl T.nI T.iS cb.b .nil iT (ab (pv 1) ao)) ao)) (ab (aN (pv 0) rfl) ao))))
   (ai (kO PassesOwn.never rfl (sr (Bj (pv 2))) (fK (i:=3) i6.nd rfl (Or.inl rfl))
    (ai (aM (CG (aN (pv 0) rfl) (pv 3) ⟨rfl,rfl,rfl,rfl⟩))))))),?_⟩
  refine ⟨_,rfl,x,_,_,rfl,J.ax,(by kernel_rfl),_,rfl,t,rfl,t0,fun tp H1 s1 hp=>⟨by show 1≤sizeLine;decide,fun l hl=>?_⟩⟩
  have s2:=aG.upd (o:=.lst [V.ref tp]) hl
  have J2:=(J.same s1).same s2
  have rl:Rel (upd H1 l (.lst [V.ref tp])) [.ref tp] [.th t]:=⟨rfl,fun i v w h1 h2=>by
   cases i with
   | zero=>cases h1;cases h2;exact ⟨tp,rfl,s2 _ _ hp⟩
   | succ i=>cases h1⟩
  refine ⟨_,rfl,x,D.aa,_,_,.ref A.dm,rfl,J2.ax,T.af,T.bh,IJ,x,A,s,l,_,[.th t],A.dm,_,s.de,rfl,J2,G,ag,rl,by show 1≤100000;decide,J2.adm,Ct _,G.dk,ou G.Cr,Kb G,fun st kv ms H3 s3 hst h3 k3 n3 m3=>?_⟩
  have J3:=J2.same s3
  have fr3:=((Fr.same (F:=bX x A s) s1).trans (Fr.same s2)).trans (Fr.same s3)
  have nfs:=J2.fresh hst
  refine ⟨_,rfl,st,kv,h3,fun o=>?_⟩
  have sub:∀ u∈ms,u∈s.de:=fun u m=>((m3 u).mp m).mem
  have H4s:∀ b u,b≠st→H3 b=some u→upd H3 st (.frz o (.dK kv)) b=some u:=fun b u n q=>by rw [ae n];exact q
  have t4:dr H3 (upd H3 st (.frz o (.dK kv))):=dr.set h3 (fun _ z=>nomatch z)
  have J4:IH D (upd H3 st (.frz o (.dK kv))) x A s:=J3.keep (fun b u f q=>H4s b u (fun e=>nfs (by rw [←e];exact f)) q) t4
  have bk:H st=none:=aG.none s1 (aG.none s2 hst)
  have fr4:Fr (bX x A s) H (bX x A s) (upd H3 st (.frz o (.dK kv))):=⟨fun b u n q=>H4s b u (ar q bk) (fr3.ext b u n q),fun _ f=>.inl f,fun b u q=>by obtain ⟨u',q'⟩:=fr3.all b u q;exact ⟨u',H4s b u' (ar q bk) q'⟩,fr3.tup.trans t4⟩
  refine ⟨st,o,kv,rfl,ag,xw (d:=st) (o:=o) (kvs:=kv) (fun i σ Hc=>∃ v3,σ=[some (.ref x),some (.int t),some (.ref st),v3]∧IH D Hc x A {s with de:=s.de.filter fun u=>decide (u∉ms.take i)}∧Fr (bX x A s) H (bX x A {s with de:=s.de.filter fun u=>decide (u∉ms.take i)}) Hc∧Hc st=some (.frz o (.dK kv)))
   ⟨none,rfl,(by rw [List.take_zero,show (s.de.filter fun u=>decide (u∉([]:List Int)))=s.de by simp];exact J4),(by rw [List.take_zero,show (s.de.filter fun u=>decide (u∉([]:List Int)))=s.de by simp];exact fr4),ag⟩ (fun i σ Hc _ ⟨_,_,_,_,z⟩=>z) ?_ ?_⟩
  ·rintro i q σ Hc hi ⟨v3,rfl,Jc,frc,z⟩
   obtain ⟨u,hu',ekv,ep⟩:=k3.at_ hi
   have tk:=take_snoc hu'
   have ni:u∉ms.take i:=fun m=>by
    have:=List.nodup_append.mp (show (ms.take i++ms.drop i).Nodup by rw [List.take_append_drop];exact n3)
    have hlt:=(List.getElem?_eq_some_iff.mp hu').1
    exact this.2.2 u m u (by rw [List.drop_eq_getElem_cons hlt,(List.getElem?_eq_some_iff.mp hu').2];exact List.mem_cons_self) rfl
   have mu:u∈s.de.filter fun u=>decide (u∉ms.take i):=List.mem_filter.mpr ⟨sub u (List.mem_of_getElem? hu'),by simpa using ni⟩
   have vd:j6 ((s.de.filter fun u=>decide (u∉ms.take i)).map tkv) (Sum.inl u)=some (.bl true):=by
    have h1:=(Ct (s.de.filter fun u=>decide (u∉ms.take i))).isS (t:=u)
    rw [decide_eq_true mu] at h1
    obtain ⟨v,hv⟩:=Option.isSome_iff_exists.mp h1
    rw [hv,Mm hv]
   rw [ekv]
   refine ⟨_,rfl,x,D.aa,_,_,.ref A.dm,rfl,Jc.ax,T.af,T.bh,IJ,A.dm,rfl,.inl ⟨_,.inl Jc.adm⟩,_,rfl,_,Sum.inl u,_,Jc.adm,rfl,vd,?_⟩
   have w:=Jc.Zv (ts:=(s.de.filter fun u=>decide (u∉ms.take i)).filter fun v=>decide (v≠u))
   rw [show qj (({s with de:=s.de.filter fun u=>decide (u∉ms.take i)}:HS).de.map tkv) (Sum.inl u)=((s.de.filter fun u=>decide (u∉ms.take i)).filter fun v=>decide (v≠u)).map tkv from OD]
   have ef:((s.de.filter fun u=>decide (u∉ms.take i)).filter fun v=>decide (v≠u))=s.de.filter fun v=>decide (v∉ms.take (i+1)):=by
    rw [List.filter_filter,tk]
    refine List.filter_congr fun v _=>?_
    simp [List.mem_append,not_or,Bool.and_comm]
   rw [ef] at w ⊢
   have nsd:st≠A.dm:=fun e=>by rw [e,Jc.adm] at z;cases z
   exact ⟨_,rfl,w.1,frc.trans w.2,by rw [ae nsd];exact z⟩
  ·rintro σ Hc ⟨v3,rfl,Jc,frc,z⟩
   rw [k3.len,List.take_of_length_le (Nat.le_refl _),Ml m3] at Jc frc
   exact k _ _ Jc frc
def HL (D:Ad):Sp:=fun vs H Q E=>∃ x A s,∃ h n:Int,vs=[.ref x,.int h,.int n]∧IH D H x A s∧Gd s∧s.nxt<10000∧Sm h∧Sm n∧Fin D x A s H (kg s h n) Q E
abbrev yl:List Str:=["self", "h", "n", "size"]
theorem mM:aA yl ["self", "h", "n"] (au jW):=⟨rfl,rfl,rfl,by decide +kernel,rfl,by decide +kernel,by decide +kernel⟩
theorem vz (F:Fun K "make" "IdealHeap.make" jW D.cQ D.gh) (T:Txt K mg D)
  (ah:Ok P w K mg base 1 D.ak D.aB ["self", "text"] (Bo K))
  (az:Ok P w K mg base 3 D.bc D.b7 ["h"] (dt D))
  (iu:Ok P w K mg base 3 D.fW D.j9 ["fields"] (rh D))
  (b6:Ok P w K mg base 4 D.a6 D.dB ["self", "things"] (CL D))
  (a5:Ok P w K mg base 5 D.bE D.cX ["self"] (xB D))
  (iw:Ok P w K mg base 5 D.cU D.gm ["self"] (Kc D))
  (iy:Ok P w K mg base 5 D.bO D.gf ["self", "h", "n"] (MU D)):Ok P w K mg base 8 D.cQ D.gh ["self", "h", "n"] (HL D):=by
 refine ⟨?_,F.binds (ps:=["self", "h", "n"]) fun _ _ _ _ _ _ us hl=>match us,hl with|[_,_,_],_=>rfl⟩
 refine F.okE mM (fun vs H Q E h=>?_) (fun cdv A' outer s' H vs Q E hr h=>?_)
 ·obtain ⟨x,A,s,h,n,rfl,_⟩:=h
  rfl
 ·obtain ⟨x,A,s,h,n,rfl,J,Gs,hnx,hh,hn,k⟩:=h
  refine ⟨_,(aj (aM (br az.g (hr.mono (by decide)) rfl T.fe T.da az.b .nil (Passes.x (aT fun _ _ _ q=>q)) (ab (pv 1) ao)))
   (aj (bp (i:=3) mM.nd rfl (Or.inl rfl) (br iu.g (hr.mono (by decide)) rfl T.Cn T.pG iu.b .nil (Passes.x (aT fun _ _ _ q=>q)) (ab (pv 2) ao)))
   (aj (bB (PW.pt (pw_and (oB (aN (pv 0) rfl)) (pw_and1 (aI Fy (dD Bi (aQ (pv 0) T.af T.iN b6.g (hr.mono (by decide)) b6.b .nil (Passes.x (aT fun _ _ _ q=>q)) (ab (aN (pv 0) rfl) ao)) (pv 3)) (aN (pv 0) rfl) (aU _)))))
    (ai (aM (i7 (pv 0) T.af T.i3 a5.g (hr.mono (by decide)) a5.b .nil (Passes.x (aT fun _ _ _ q=>q)))))
    aP)
   (aj (bB (aI Fy (dD Bi (i7 (pv 0) T.af T.uS iw.g (hr.mono (by decide)) iw.b .nil (Passes.x (aT fun _ _ _ q=>q))) (pv 3)) (aN (pv 0) rfl) (aU _))
    (ai (fV rfl j7 (j8 T.Lc ah.g (hr.mono (by decide)) rfl T.Lb ah.b (Passes.x (aT fun _ _ _ q=>q)) (ab (jb (bC (kP (pv 3)) (bC hJ ja))) ao))))
    aP)
   (ai (aM (aQ (pv 0) T.af T.oq iy.g (hr.mono (by decide)) iy.b .nil (Passes.x (aT fun _ _ _ q=>q)) (ab (pv 1) (ab (pv 2) ao))))))))),?_⟩
  refine ⟨_,rfl,h,rfl,hh,?_⟩
  by_cases c:ok8 h
  ·rw [if_pos c]
   refine ⟨_,rfl,n,rfl,hn,?_⟩
   by_cases c2:0≤n∧n≤6
   ·rw [if_pos c2]
    have G:=Gs.g
    have kk:Fin D x A s H (if held (mkR s n)+(n+1)>s.limit then (some .room,mkR s n) else (none,Hz (mkR s n) h n)) Q E:=by
     rw [show kg s h n=_ from by unfold kg;rw [if_pos c,if_pos c2]] at k
     exact k
    have G2:Gd (mkR s n):=Gs.mkd
    simp only [kS]
    refine je fun N hN=>?_
    have fin:∀ (A2:HA) (H2:Hp),IH D H2 x A2 (mkR s n)→Fr (bX x A s) H (bX x A2 (mkR s n)) H2→N [some (.ref x),some (.int h),some (.int n),some (.int (n+1))] H2:=by
     intro A2 H2 J2 fr2
     refine hN _ _ ?_
     refine ⟨_,rfl,x,_,_,rfl,J2.ax,(by kernel_rfl),x,A2,_,rfl,J2,G2.g,fun H3 s3=>?_⟩
     have J3:=J2.same s3
     have fr3:=fr2.trans (Fr.same s3)
     refine ⟨_,rfl,held (mkR s n),n+1,rfl,rfl,_,rfl,x,D.aa,_,_,.int (mkR s n).limit,rfl,J3.ax,T.af,T.mF,Y4,_,_,rfl,rfl,_,rfl,av (fun g=>?_) (fun g=>?_)⟩
     ·have g:=of_decide_eq_true g
      rw [Kj] at g
      rw [if_pos g] at kk
      exact ⟨_,rfl,n+1,rfl,Sm.of (by omega) (by omega),fun y hy ea hea=>cW T.DV (fun b q=>fr3.none q) (fun H' s'=>kk A2 H' (J3.same s') (fr3.trans (Fr.same s'))) ea hea⟩
     ·have g:¬(held (mkR s n)+(n+1)>s.limit):=fun z=>g (decide_eq_true (by rw [Kj];exact z))
      rw [if_neg g] at kk
      exact ⟨_,rfl,x,_,_,rfl,J3.ax,(by kernel_rfl),_,rfl,_,rfl,x,A2,_,h,n,rfl,J3,G2.g,c,c2.1,c2.2,fun A' H' J' fr=>kk A' H' J' (fr3.trans fr)⟩
    refine ⟨_,rfl,x,D.aa,_,_,.bl s.my,rfl,J.ax,T.af,T.fX,RT,_,rfl,?_⟩
    by_cases my:s.my=true
    ·refine IQ my ⟨_,rfl,x,_,_,rfl,J.ax,(by kernel_rfl),_,rfl,x,D.aa,_,_,.ref A.yg,rfl,J.ax,T.af,T.bq,II,x,A,s,A.yg,_,s.yng,rfl,J,G,J.ayg,Ct _,G.yk,C9 G,fun H1 s1=>?_⟩
     have J1:=J.same s1
     refine ⟨_,rfl,wsum s s.yng,n+1,rfl,rfl,_,rfl,x,D.aa,_,_,.int s.room,rfl,J1.ax,T.af,T.jd,Y3,_,_,rfl,rfl,_,rfl,av (fun g=>?_) (fun g=>?_)⟩
     ·have g:=of_decide_eq_true g
      have em:mkR s n=kf s:=if_pos ⟨my,g⟩
      rw [em] at fin
      exact ⟨_,rfl,x,_,_,rfl,J1.ax,(by kernel_rfl),x,A,s,rfl,J1,G,fun A2 H2 J2 fr2=>fin A2 H2 J2 ((Fr.same s1).trans fr2)⟩
     ·have em:mkR s n=s:=if_neg fun z=>g (decide_eq_true z.2)
      rw [em] at fin
      exact fin A H1 J1 (Fr.same s1)
    ·have em:mkR s n=s:=if_neg fun z=>my z.1
     rw [em] at fin
     exact xA (Bool.eq_false_iff.mpr my) (fY (fin A H J Fr.refl))
   ·rw [if_neg c2]
    rw [show kg s h n=(some .count,s) by simp only [kg,if_pos c,if_neg c2]] at k
    exact k.bad J
  ·rw [if_neg c]
   rw [show kg s h n=(some .hand,s) by simp only [kg,if_neg c]] at k
   exact k.bad J
def HM (D:Ad):Sp:=fun vs H Q E=>∃ x A s,∃ h w:Int,vs=[.ref x,.int h,.int w]∧IH D H x A s∧Good s∧Sm h∧Sm w∧Fin D x A s H (lZ s h w) Q E
theorem mB {α:Type} {l:List α} {i:Nat} {a b:α} (h:b∈l.set i a):b∈l∨b=a:=by
 rw [List.mem_iff_getElem] at h
 obtain ⟨j,hj,e⟩:=h
 rw [List.getElem_set] at e
 split at e
 ·exact .inr e.symm
 ·exact .inl (by rw [←e];exact List.getElem_mem _)
theorem Good.put {s:HS} (g:Good s) {h:Int} {w:Wd} (c:∀ t,w=.th t→∃ ws,(t,ws)∈s.aS):Good (mK s h w) :=
 ⟨by show (s.aH.set _ _).length=8;rw [List.length_set];exact g.h8,g.n8,g.asc,g.lt,g.f6,(fun t m=>(mB m).elim (fun q=>g.hh t q) fun e=>c t e.symm),g.ff,g.nn,g.b12,g.bk,g.bnd,g.n0,g.nx,g.sd,g.yk,g.Bp,g.dk,g.Cr⟩
abbrev ym:List Str:=["self", "h", "w", "t"]
theorem mN:aA ym ["self", "h", "w"] (au jX):=⟨rfl,rfl,rfl,by decide +kernel,rfl,by decide +kernel,by decide +kernel⟩
theorem vA (F:Fun K "read" "IdealHeap.read" jX D.cR D.gi) (T:Txt K mg D)
  (g4:Ok P w K mg base 5 D.bD D.fE ["self", "h", "w"] (HC D))
  (g5:Ok P w K mg base 4 D.cx D.fI ["self", "t"] (HK D)):Ok P w K mg base 7 D.cR D.gi ["self", "h", "w"] (HM D):=by
 refine ⟨?_,F.binds (ps:=["self", "h", "w"]) fun _ _ _ _ _ _ us hl=>match us,hl with|[_,_,_],_=>rfl⟩
 refine F.okE mN (fun vs H Q E h=>?_) (fun cdv A' outer s' H vs Q E hr h=>?_)
 ·obtain ⟨x,A,s,h,w,rfl,_⟩:=h
  rfl
 ·obtain ⟨x,A,s,h,w,rfl,J,G,hh,hw,k⟩:=h
  refine ⟨_,(aj (bp (i:=3) mN.nd rfl (Or.inl rfl) (aQ (pv 0) T.af T.nL g4.g (hr.mono (by decide)) g4.b .nil (Passes.x (aT fun _ _ _ q=>q)) (ab (pv 1) (ab (pv 2) ao))))
   (ai (bB (qh (Oh (pv 3) (aN (pv 0) rfl)) (by with_unfolding_all rfl))
    (ai (aM (aQ (pv 0) T.af T.sV g5.g (hr.mono (by decide)) g5.b .nil (Passes.x (aT fun _ _ _ q=>q)) (ab (pv 3) ao))))
    aP))),?_⟩
  refine ⟨_,rfl,x,_,_,rfl,J.ax,(by kernel_rfl),_,rfl,_,rfl,x,A,s,h,w,rfl,J,G,hh,hw,?_⟩
  by_cases c:ok8 h
  ·rw [if_pos c]
   by_cases c2:ok8 w
   ·rw [if_pos c2]
    rw [show lZ s h w=(none,rdR (mK s h (nmW (s.names.getD w.toNat none))) (s.names.getD w.toNat none)) by simp only [lZ,if_pos c,if_pos c2]] at k
    have hi:w.toNat<s.names.length:=by rw [G.n8];omega
    have gd:s.names.getD w.toNat none=s.names[w.toNat]:=by simp [List.getD,hi]
    have mm:s.names[w.toNat]∈s.names:=List.getElem_mem hi
    obtain ⟨z,ez⟩:∃ z,s.names.getD w.toNat none=z:=⟨_,rfl⟩
    rw [ez] at k ⊢
    rw [←gd,ez] at mm
    intro A1 H1 J1 fr
    refine ⟨_,rfl,_,rfl,x,D.aa,_,_,_,rfl,J1.ax,T.af,T.bh,IJ,A1.dm,_,z.map Sum.inl,rfl,WH z,.inl J1.adm,_,rfl,?_⟩
    rw [Zd]
    cases z with
    | none=>exact fY (k A1 H1 J1 fr)
    | some t =>
     show if decide (t∈s.de)=true then _ else _
     obtain ⟨ws,m⟩:=G.nn t mm
     by_cases c3:t∈s.de
     ·rw [decide_eq_true c3]
      rw [show rdR (mK s h (nmW (some t))) (some t)=oK (mK s h (nmW (some t))) t from if_pos c3] at k
      have G2:Good (mK s h (nmW (some t))):=G.put fun u e=>by cases e;exact ⟨ws,m⟩
      exact om ⟨_,rfl,x,_,_,rfl,J1.ax,(by kernel_rfl),_,rfl,x,A1,_,t,rfl,J1,G2,(G.lt _ _ m).1,fun A2 H2 J2 fr2=>k A2 H2 J2 (fr.trans fr2)⟩
     ·rw [decide_eq_false c3]
      rw [show rdR (mK s h (nmW (some t))) (some t)=mK s h (nmW (some t)) from if_neg c3] at k
      exact fY (k A1 H1 J1 fr)
   ·rw [if_neg c2]
    rw [show lZ s h w=(some .name,s) by simp only [lZ,if_pos c,if_neg c2]] at k
    exact k.bad J
  ·rw [if_neg c]
   rw [show lZ s h w=(some .hand,s) by simp only [lZ,if_neg c]] at k
   exact k.bad J
inductive Dd where
 | make (h n:Int)|store (g k h:Int)|load (h g k:Int)|copy (h g:Int)|drop (h:Int)|number (h x:Int)|name (w h:Int)|read (h w:Int)|word (h x:Int)|small|turn
def Dd.its:Dd→List V
 | .make h n=>[.str "make",.int h,.int n]
 | .store g k h=>[.str "store",.int g,.int k,.int h]
 | .load h g k=>[.str "load",.int h,.int g,.int k]
 | .copy h g=>[.str "copy",.int h,.int g]
 | .drop h=>[.str "drop",.int h]
 | .number h x=>[.str "number",.int h,.int x]
 | .name w h=>[.str "name",.int w,.int h]
 | .read h w=>[.str "read",.int h,.int w]
 | .word h x=>[.str "word",.int h,.int x]
 | .small=>[.str "small"]
 | .turn=>[.str "turn"]
abbrev In8 (h:Int):Prop:=0≤h∧h<8
def Dd.ok:Dd→Prop
 | .make h n=>In8 h∧0≤n∧n≤6
 | .store g k h=>In8 g∧0≤k∧k≤6∧In8 h
 | .load h g k=>In8 h∧In8 g∧0≤k∧k≤6
 | .copy h g=>In8 h∧In8 g
 | .drop h=>In8 h
 | .number h x=>In8 h∧-100000≤x∧x≤100000
 | .name w h=>In8 w∧In8 h
 | .read h w=>In8 h∧In8 w
 | .word h x=>In8 h∧-100000≤x∧x≤100000
 | .small=>True
 | .turn=>True
theorem m8 (n d:Int):0≤n/d%8∧n/d%8<8:=⟨Int.emod_nonneg _ (by decide),Int.emod_lt_of_pos _ (by decide)⟩
def Cw (K:W.Frag):Sp:=fun vs H Q _=>∃ (a:Addr) (ns:List Int) (m:Int),vs=[.ref a,.int m]∧SqL K H a (ns.map V.int)∧ns.length≤63∧∀ p (zs:List Int) H',aG H H'→H p=none→H' p=some (.lst (zs.map V.int))→zs.length≤200→(∀ z∈zs,0≤z∧z<65536)→Q (.ref p) H'
theorem Mn (ns:List Int) (lo hi:Option Int):∃ cs:List Int,MA (ns.map V.int) lo hi=cs.map V.int∧cs.length≤ns.length∧∀ c∈cs,c∈ns:=by
 refine ⟨(ns.drop (HT.sIx ns.length 0 lo)).take (HT.sIx ns.length ns.length hi-HT.sIx ns.length 0 lo),?_,?_,fun c hc=>List.mem_of_mem_drop (List.mem_of_mem_take hc)⟩
 ·unfold MA
  rw [List.length_map,List.map_take,List.map_drop]
 ·rw [List.length_take,List.length_drop]
  omega
abbrev BG:List Str:=["script", "most", "found", "k", "near", "turn"]
theorem dw:aA BG ["script", "most"] (au lQ):=⟨rfl,rfl,rfl,by decide +kernel,rfl,by decide +kernel,by decide +kernel⟩
theorem AF (F:Fun K "_law_numbers" "_law_numbers" lQ D.c6 D.ic) (T:Txt K mg D):Ok P w K mg base 2 D.c6 D.ic ["script", "most"] (Cw K):=by
 refine ⟨?_,F.binds (ps:=["script", "most"]) fun _ _ _ _ _ _ us hl=>match us,hl with|[_,_],_=>rfl⟩
 refine F.okE dw (fun vs H Q E h=>?_) (fun cdv A' outer s' H vs Q E hr h=>?_)
 ·obtain ⟨a,ns,m,rfl,_⟩:=h
  rfl
 ·obtain ⟨a,ns,m,rfl,hS,hlen,k⟩:=h
  refine ⟨_,(PSs.nox (aj (bp (i:=2) dw.nd rfl (Or.inl rfl) (jM ao))
   (aj (kO PassesOwn.never rfl (zH rfl T.sA (ab (fi dN rfl T.ql PyProof.Rows.Boot.«len» (ab (pv 0) ao)) ao)) (fK (i:=3) dw.nd rfl (Or.inl rfl))
    (aj (bp (i:=4) dw.nd rfl (Or.inl rfl) (dD j4 (aJ cD (pv 0) (pv 3) (fun _ _=>rfl)) aq))
    (aj (bB (aI gK (dD j4 (aJ cD (pv 0) aq (fun _ _=>rfl)) aq) aq (aU _))
     (aj (bp (i:=4) dw.nd rfl (Or.inl rfl) (dD j4 (dD Fx (dD Bi (dD Bi (pv 4) (dD Fx aq (pv 3))) aq) aq) aq))
     (ai (bp (i:=4) dw.nd rfl (Or.inl rfl) (dD j4 (dD Fx (pv 4) (pv 4)) aq))))
     aP)
    (ai (kO PassesOwn.never rfl (zH rfl T.sA (ab aq ao)) (fK (i:=5) dw.nd rfl (Or.inl rfl))
     (aj (bB (PW.pt (pw_or (aI gK (pv 5) aq (aU _)) (pw_or1 (aI Fy (pv 4) aq (aU _)))))
      (ai (aM (Ij PySem.F.plainAttrs_list PySem.F.slot_list_append PySem.F.type_list_append oj (pv 2) (ab (dD j4 (pv 4) aq) ao))))
      aP)
     (ai (bp (i:=4) dw.nd rfl (Or.inl rfl) (dD sj (pv 4) aq)))))))))
   (ai (aX (LY NW (pv 2) NT (NU (pv 1)))))))),?_⟩
  refine ⟨by show 0≤sizeLine;decide,fun p hp=>?_⟩
  have s1:=aG.upd (o:=.lst []) hp
  have z1:upd H p (.lst []) p=some (.lst (([]:List Int).map V.int)):=ag
  obtain ⟨H1,e1⟩:∃ H1,upd H p (.lst [])=H1:=⟨_,rfl⟩
  show kS 2 (V.ref p) _ (upd H p (.lst [])) _
  rw [e1] at s1 z1 ⊢
  clear e1
  have hpa:∀ {Hx:Hp},aG H Hx→SqL K Hx a (ns.map V.int):=fun s=>s.seq hS
  refine ⟨_,rfl,a,_,rfl,.inl (hpa s1),(ns.map V.int).length,rfl,by omega,by rw [List.length_map];omega,rW (lo:=0) (n:=(ns.map V.int).length) (fun i σ Hx=>∃ (v3 v4 v5:Option V) (zs:List Int),σ=[some (.ref a),some (.int m),some (.ref p),v3,v4,v5]∧aG H Hx∧Hx p=some (.lst (zs.map V.int))∧zs.length≤3*i∧∀ z∈zs,0≤z∧z<65536) ⟨none,none,none,[],rfl,s1,z1,Nat.le_refl _,fun z hz=>by cases hz⟩ ?_ ?_⟩
  ·rintro i σ Hx hi ⟨v3,v4,v5,zs,rfl,sx,zx,lx,bx⟩
   rw [List.length_map] at hi
   have hk:atI (ns.map V.int) (0+(i:Int))=some (.int ns[i]):=by rw [Int.zero_add];exact xJ (by rw [List.getElem?_map,List.getElem?_eq_getElem hi];rfl)
   have h0:atI (ns.map V.int) 0=some (.int (ns[0]'(by omega))):=xJ (j:=0) (by rw [List.getElem?_map,List.getElem?_eq_getElem (by omega)];rfl)
   have b0:=Int.emod_nonneg ns[i] (show (281474976710656:Int)≠0 by decide)
   have b1:=Int.emod_lt_of_pos ns[i] (show (0:Int)<281474976710656 by decide)
   refine ⟨_,rfl,_,rfl,a,_,_,_,rfl,rfl,hpa sx,hk,_,281474976710656,rfl,rfl,(by show (0:Int)<281474976710656;decide),?_⟩
   obtain ⟨ne,ene⟩:∃ ne:Int,ns[i]%281474976710656=ne:=⟨_,rfl⟩
   rw [ene] at b0 b1
   simp only [ene,kS]
   refine je fun N hN=>?_
   have rest:∀ near:Int,0≤near→N [some (.ref a),some (.int m),some (.ref p),some (.int (0+(i:Int))),some (.int near),v5] Hx:=by
    intro near n0
    refine hN _ _ ?_
    refine ⟨3,rfl,by decide,by decide,rW (lo:=0) (n:=3) (fun j σ Hy=>∃ (near:Int) (v5:Option V) (zs:List Int),σ=[some (.ref a),some (.int m),some (.ref p),some (.int (0+(i:Int))),some (.int near),v5]∧0≤near∧aG H Hy∧Hy p=some (.lst (zs.map V.int))∧zs.length≤3*i+j∧∀ z∈zs,0≤z∧z<65536) ⟨near,v5,zs,rfl,n0,sx,zx,by omega,bx⟩ ?_ ?_⟩
    ·rintro j σ Hy hj ⟨near,v5,zs,rfl,n0,sy,zy,ly,by_⟩
     refine je fun M hM=>?_
     have tail:∀ (zs:List Int) (Hy:Hp),aG H Hy→Hy p=some (.lst (zs.map V.int))→zs.length≤3*i+(j+1)→(∀ z∈zs,0≤z∧z<65536)→M [some (.ref a),some (.int m),some (.ref p),some (.int (0+(i:Int))),some (.int near),some (.int (0+(j:Int)))] Hy:=by
      intro zs Hy sy zy ly by_
      exact hM _ _ ⟨_,rfl,near,65536,rfl,rfl,⟨by decide,by decide⟩,near/65536,_,zs,rfl,Int.ediv_nonneg n0 (by decide),sy,zy,ly,by_⟩
     have app:M=M:=rfl
     refine WB fun B hB=>?_
     have grow:B [some (.ref a),some (.int m),some (.ref p),some (.int (0+(i:Int))),some (.int near),some (.int (0+(j:Int)))] Hy:=by
      refine hB _ _ ?_
      refine ⟨_,rfl,.inl ⟨rfl,_,SqL.of zy⟩,_,rfl,near,65536,rfl,rfl,(by show (0:Int)<65536;decide),p,_,_,rfl,rfl,zy,Nat.lt_of_le_of_lt (show (zs.map V.int).length≤1000 by rw [List.length_map];omega) (by decide),?_⟩
      refine tail (zs++[near%65536]) _ (fun b u g=>by rw [ae (ar g hp)];exact sy b u g) (by rw [ag,List.map_append];rfl) (by rw [List.length_append,List.length_singleton];omega) (fun z hz=>?_)
      rcases List.mem_append.mp hz with g|g
      ·exact by_ z g
      ·rw [List.mem_singleton.mp g]
       exact ⟨Int.emod_nonneg _ (by decide),Int.emod_lt_of_pos _ (by decide)⟩
     refine ⟨_,rfl,rfl,_,rfl,av (fun _=>om grow) (fun _=>⟨_,rfl,near,0,rfl,rfl,_,rfl,av (fun _=>grow) (fun _=>tail zs Hy sy zy (by omega) by_)⟩)⟩
    ·rintro σ Hy ⟨near,v5,zs,rfl,n0,sy,zy,ly,by_⟩
     exact ⟨_,_,_,zs,rfl,sy,zy,by omega,by_⟩
   refine ⟨_,rfl,a,_,0,_,rfl,rfl,hpa sx,h0,_,2,rfl,rfl,(by show (0:Int)<2;decide),rfl,_,rfl,av (fun _=>?_) (fun _=>rest ne b0)⟩
   have q0:=Int.emod_nonneg ((ne+7919*(0+(i:Int))+1)*48271) (show (2147483647:Int)≠0 by decide)
   have q1:=Int.emod_lt_of_pos ((ne+7919*(0+(i:Int))+1)*48271) (show (0:Int)<2147483647 by decide)
   refine ⟨_,rfl,_,rfl,7919,0+(i:Int),rfl,rfl,.inl ⟨by decide,by decide⟩,ne,_,rfl,rfl,_,1,rfl,rfl,_,48271,rfl,rfl,.inr ⟨by decide,by decide⟩,_,2147483647,rfl,rfl,(by show (0:Int)<2147483647;decide),?_⟩
   obtain ⟨n2,en2⟩:∃ n2:Int,(ne+7919*(0+(i:Int))+1)*48271%2147483647=n2:=⟨_,rfl⟩
   rw [en2] at q0 q1
   simp only [en2,kS]
   refine ⟨_,rfl,_,rfl,n2,n2,rfl,rfl,.inl ⟨by omega,by omega⟩,_,281474976710597,rfl,rfl,(by show (0:Int)<281474976710597;decide),?_⟩
   exact rest _ (Int.emod_nonneg _ (by decide))
  ·rintro σ Hx ⟨v3,v4,v5,zs,rfl,sx,zx,lx,bx⟩
   rw [List.length_map] at lx
   obtain ⟨cs,ec,cl,cm⟩:=Mn zs none (some m)
   refine ⟨_,rfl,_,rfl,_,rfl,p,_,rfl,SqL.of zx,fun q hq=>?_⟩
   rw [ec]
   have hq0:H q=none:=aG.none sx hq
   exact k q cs _ (sx.trans (aG.upd hq)) hq0 ag (by omega) (fun z hz=>bx z (cm z hz))
def Kk:Sp:=fun vs H Q _=>∃ n:Int,vs=[.int n]∧0≤n∧n<65536∧∀ q dd H',aG H H'→H q=none→H' q=some (.tup (Dd.its dd))→dd.ok→Q (.ref q) H'
abbrev Gr:List Str:=["number", "a", "b", "c", "kind", "some"]
theorem iJ:aA Gr ["number"] (au qX):=⟨rfl,rfl,rfl,by decide +kernel,rfl,by decide +kernel,by decide +kernel⟩
theorem ED (F:Fun K "_law_deed" "_law_deed" qX D.fO D.kq) (T:Txt K mg D):Ok P w K mg base 1 D.fO D.kq ["number"] (Kk):=by
 refine ⟨?_,F.binds (ps:=["number"]) fun _ _ _ _ _ _ us hl=>match us,hl with|[_],_=>rfl⟩
 refine F.okE iJ (fun vs H Q E h=>?_) (fun cdv A' outer s' H vs Q E hr h=>?_)
 ·obtain ⟨n,rfl,_⟩:=h
  rfl
 ·obtain ⟨n,rfl,n0,n1,k⟩:=h
  refine ⟨_,(PSs.nox (aj (bp (i:=1) iJ.nd rfl (Or.inl rfl) (dD j4 (dD sj (pv 0) aq) aq))
   (aj (bp (i:=2) iJ.nd rfl (Or.inl rfl) (dD j4 (dD sj (pv 0) aq) aq))
   (aj (bp (i:=3) iJ.nd rfl (Or.inl rfl) (dD j4 (dD sj (pv 0) aq) aq))
   (aj (bp (i:=4) iJ.nd rfl (Or.inl rfl) (dD j4 (pv 0) aq))
   (aj (bB (aI Cb (pv 4) aq (aU _))
    (ai (aX (fg (ab aK (ab (pv 1) (ab (aJ cD (jM (ab aq (ab aq (ab aq (ab aq (ab aq (ab aq (ab aq (ab aq ao))))))))) (pv 3) (fun _ _=>rfl)) ao))))))
    aP)
   (aj (bB (aI Cb (pv 4) aq (aU _))
    (ai (aX (fg (ab aK (ab (pv 1) (ab (dD j4 (pv 3) aq) (ab (pv 2) ao)))))))
    aP)
   (aj (bB (aI Cb (pv 4) aq (aU _))
    (ai (aX (fg (ab aK (ab (pv 1) (ab (pv 2) (ab (dD j4 (pv 3) aq) ao)))))))
    aP)
   (aj (bp (i:=5) iJ.nd rfl (Or.inl rfl) (jM (gT (fg (ab aK (ab (pv 1) (ab (pv 2) ao)))) (gT (fg (ab aK (ab (pv 1) ao))) (gT (fg (ab aK (ab (pv 1) (ab (dD Jo (dD Fx (pv 2) aq) (pv 3)) ao)))) (gT (fg (ab aK (ab (pv 2) (ab (pv 1) ao)))) ao))))))
   (ai (aX (aJ cD (dD JN (pv 5) (jM (gT (fg (ab aK (ab (pv 1) (ab (pv 2) ao)))) (gT (fg (ab aK (ab (pv 1) (ab (dD Jo (pv 0) aq) ao)))) (gT (fg (ab aK ao)) (gT (fg (ab aK ao)) ao)))))) (dD Jo (pv 4) aq) (fun _ _=>rfl))))))))))))),?_⟩
  obtain ⟨a,ea⟩:∃ a:Int,n/16%8=a:=⟨_,rfl⟩
  obtain ⟨b,eb⟩:∃ b:Int,n/128%8=b:=⟨_,rfl⟩
  obtain ⟨c,ec⟩:∃ c:Int,n/1024%8=c:=⟨_,rfl⟩
  obtain ⟨kd,ek⟩:∃ kd:Int,n%16=kd:=⟨_,rfl⟩
  have ha:In8 a:=by rw [←ea];exact m8 n 16
  have hb:In8 b:=by rw [←eb];exact m8 n 128
  have hc:In8 c:=by rw [←ec];exact m8 n 1024
  have k0:0≤kd:=by rw [←ek];exact Int.emod_nonneg _ (by decide)
  have k1:kd<16:=by rw [←ek];exact Int.emod_lt_of_pos _ (by decide)
  refine ⟨_,rfl,n,16,rfl,rfl,⟨by decide,by decide⟩,_,8,rfl,rfl,(by show (0:Int)<8;decide),?_⟩
  simp only [ea,kS]
  refine ⟨_,rfl,n,128,rfl,rfl,⟨by decide,by decide⟩,_,8,rfl,rfl,(by show (0:Int)<8;decide),?_⟩
  simp only [eb,kS]
  refine ⟨_,rfl,n,1024,rfl,rfl,⟨by decide,by decide⟩,_,8,rfl,rfl,(by show (0:Int)<8;decide),?_⟩
  simp only [ec,kS]
  refine ⟨_,rfl,n,16,rfl,rfl,(by show (0:Int)<16;decide),?_⟩
  simp only [ek,kS]
  have c30:=Int.emod_nonneg c (show (3:Int)≠0 by decide)
  have c31:=Int.emod_lt_of_pos c (show (0:Int)<3 by decide)
  refine ⟨_,rfl,kd,3,rfl,rfl,_,rfl,av (fun _=>?_) (fun g3=>?_)⟩
  ·obtain ⟨m,hm,m0,m6⟩:∃ m:Int,atI [V.int 2,V.int 3,V.int 1,V.int 4,V.int 2,V.int 0,V.int 6,V.int 3] c=some (.int m)∧0≤m∧m≤6:=by
    obtain ⟨c0,c8⟩:=hc
    rcases (show c=0∨c=1∨c=2∨c=3∨c=4∨c=5∨c=6∨c=7 by omega) with rfl|rfl|rfl|rfl|rfl|rfl|rfl|rfl<;>exact ⟨_,rfl,by decide,by decide⟩
   refine ⟨_,rfl,by show 8≤sizeLine;decide,fun l hl=>⟨_,rfl,l,_,c,_,rfl,rfl,SqL.of ag,hm,by show 3≤sizeLine;decide,fun q hq=>?_⟩⟩
   exact k q (.make a m) _ ((aG.upd hl).trans (aG.upd hq)) (aG.none (aG.upd hl) hq) ag ⟨ha,m0,m6⟩
  ·have g3:¬kd<3:=fun z=>g3 (decide_eq_true z)
   refine ⟨_,rfl,kd,6,rfl,rfl,_,rfl,av (fun _=>?_) (fun g6=>?_)⟩
   ·refine ⟨_,rfl,_,rfl,c,3,rfl,rfl,(by show (0:Int)<3;decide),_,rfl,by show 4≤sizeLine;decide,fun q hq=>?_⟩
    exact k q (.store a (c%3) b) _ (aG.upd hq) hq ag ⟨ha,c30,by omega,hb⟩
   ·have g6:¬kd<6:=fun z=>g6 (decide_eq_true z)
    refine ⟨_,rfl,kd,8,rfl,rfl,_,rfl,av (fun _=>?_) (fun g8=>?_)⟩
    ·refine ⟨_,rfl,_,rfl,_,rfl,c,3,rfl,rfl,(by show (0:Int)<3;decide),by show 4≤sizeLine;decide,fun q hq=>?_⟩
     exact k q (.load a b (c%3)) _ (aG.upd hq) hq ag ⟨ha,hb,c30,by omega⟩
    ·have g8:¬kd<8:=fun z=>g8 (decide_eq_true z)
     refine ⟨_,rfl,_,rfl,by show 3≤sizeLine;decide,fun t1 h1=>⟨_,rfl,by show 2≤sizeLine;decide,fun t2 h2=>⟨_,rfl,_,rfl,b,1000,rfl,rfl,.inr ⟨by decide,by decide⟩,_,rfl,_,c,rfl,rfl,by show 3≤sizeLine;decide,fun t3 h3=>⟨_,rfl,_,rfl,by show 3≤sizeLine;decide,fun t4 h4=>⟨by show 4≤sizeLine;decide,fun l1 hl1=>?_⟩⟩⟩⟩⟩
     have r1:=aG.upd (o:=.tup (Dd.its (.copy a b))) h1
     have r2:=aG.upd (o:=.tup (Dd.its (.drop a))) h2
     have r3:=aG.upd (o:=.tup (Dd.its (.number a (b*1000-c)))) h3
     have r4:=aG.upd (o:=.tup (Dd.its (.name b a))) h4
     have r5:=aG.upd (o:=.lst [V.ref t1,V.ref t2,V.ref t3,V.ref t4]) hl1
     refine ⟨_,rfl,_,rfl,_,rfl,by show 3≤sizeLine;decide,fun t5 h5=>⟨_,rfl,_,rfl,n,30000,rfl,rfl,by show 3≤sizeLine;decide,fun t6 h6=>⟨by show 1≤sizeLine;decide,fun t7 h7=>⟨by show 1≤sizeLine;decide,fun t8 h8=>⟨by show 4≤sizeLine;decide,fun l2 hl2=>?_⟩⟩⟩⟩⟩
     have r6:=aG.upd (o:=.tup (Dd.its (.read a b))) h5
     have r7:=aG.upd (o:=.tup (Dd.its (.word a (n-30000)))) h6
     have r8:=aG.upd (o:=.tup (Dd.its .small)) h7
     have r9:=aG.upd (o:=.tup (Dd.its .turn)) h8
     have r10:=aG.upd (o:=.lst [V.ref t5,V.ref t6,V.ref t7,V.ref t8]) hl2
     refine ⟨l1,l2,_,_,rfl,rfl,SqL.of ((r6.trans (r7.trans (r8.trans (r9.trans r10)))) _ _ ag),SqL.of ag,by show 8≤sizeLine;decide,fun l3 hl3=>?_⟩
     have r11:=aG.upd (o:=.lst ([V.ref t1,V.ref t2,V.ref t3,V.ref t4]++[V.ref t5,V.ref t6,V.ref t7,V.ref t8])) hl3
     have q10:=r10.trans r11
     have q9:=r9.trans q10
     have q8:=r8.trans q9
     have q7:=r7.trans q8
     have q6:=r6.trans q7
     have q5:=r5.trans q6
     have q4:=r4.trans q5
     have q3:=r3.trans q4
     have q2:=r2.trans q3
     have q1:=r1.trans q2
     have p4:=((r1.trans r2).trans r3).trans r4
     have p5:=p4.trans r5
     have p6:=p5.trans r6
     have p7:=p6.trans r7
     have p8:=p7.trans r8
     refine ⟨_,rfl,kd,8,rfl,rfl,?_⟩
     have cs:kd=8∨kd=9∨kd=10∨kd=11∨kd=12∨kd=13∨kd=14∨kd=15:=by omega
     have bb:-100000≤b*1000-c∧b*1000-c≤100000:=by obtain ⟨_,_⟩:=hb;obtain ⟨_,_⟩:=hc;omega
     rcases cs with rfl|rfl|rfl|rfl|rfl|rfl|rfl|rfl
     ·exact ⟨l3,_,_,.ref t1,rfl,rfl,SqL.of ag,rfl,k t1 (.copy a b) _ q1 h1 (q2 _ _ ag) ⟨ha,hb⟩⟩
     ·exact ⟨l3,_,_,.ref t2,rfl,rfl,SqL.of ag,rfl,k t2 (.drop a) _ q1 (aG.none r1 h2) (q3 _ _ ag) ha⟩
     ·exact ⟨l3,_,_,.ref t3,rfl,rfl,SqL.of ag,rfl,k t3 (.number a (b*1000-c)) _ q1 (aG.none (r1.trans r2) h3) (q4 _ _ ag) ⟨ha,bb.1,bb.2⟩⟩
     ·exact ⟨l3,_,_,.ref t4,rfl,rfl,SqL.of ag,rfl,k t4 (.name b a) _ q1 (aG.none ((r1.trans r2).trans r3) h4) (q5 _ _ ag) ⟨hb,ha⟩⟩
     ·exact ⟨l3,_,_,.ref t5,rfl,rfl,SqL.of ag,rfl,k t5 (.read a b) _ q1 (aG.none p5 h5) (q7 _ _ ag) ⟨ha,hb⟩⟩
     ·exact ⟨l3,_,_,.ref t6,rfl,rfl,SqL.of ag,rfl,k t6 (.word a (n-30000)) _ q1 (aG.none p6 h6) (q8 _ _ ag) ⟨ha,by omega,by omega⟩⟩
     ·exact ⟨l3,_,_,.ref t7,rfl,rfl,SqL.of ag,rfl,k t7 .small _ q1 (aG.none p7 h7) (q9 _ _ ag) True.intro⟩
     ·exact ⟨l3,_,_,.ref t8,rfl,rfl,SqL.of ag,rfl,k t8 .turn _ q1 (aG.none p8 h8) (q10 _ _ ag) True.intro⟩
noncomputable def oi (s:HS):Re:=if s.rnd=true then MX s else Bk s
noncomputable def dDo (s:HS):Dd→Re
 | .make h n=>kg s h n
 | .store g k h=>d7 s g k h
 | .load h g k=>gX s h g k
 | .copy h g=>pJ s h g
 | .drop h=>si s h
 | .number h x=>ig s h x
 | .name w h=>iM s w h
 | .read h w=>lZ s h w
 | .word h x=>gY s h x
 | .small=>(none,kf s)
 | .turn=>oi s
def FG:Er→Str
 | .hand => "BadHand"
 | .name => "BadName"
 | .field => "BadField"
 | .count => "BadCount"
 | .room => "NoRoom"
 | .words => "TooManyWords"
 | .on => "RoundOn"
 | .no => "NoRound"
def wdV:Option Er→V
 | none=>.non
 | some e=>.str (FG e)
def HN (D:Ad):Sp:=fun vs H Q E=>∃ x A s q dd,vs=[.ref x,.ref q]∧IH D H x A s∧Gd s∧s.nxt<10000∧H q=some (.tup (Dd.its dd))∧dd.ok∧Fin D x A s H (dDo s dd) Q E
abbrev EE:List Str:=["hall", "deed"]
theorem Dh:aA EE ["hall", "deed"] (au oR):=⟨rfl,rfl,rfl,by decide +kernel,rfl,by decide +kernel,by decide +kernel⟩
theorem Di (F:Fun K "_law_plain" "_law_plain" oR D.eC D.jF) (T:Txt K mg D)
  (iA:Ok P w K mg base 8 D.cQ D.gh ["self", "h", "n"] (HL D))
  (lp:Ok P w K mg base 7 D.dP D.jE ["self", "g", "k", "h"] (HB D))
  (mZ:Ok P w K mg base 7 D.eR D.ki ["self", "h", "g", "k"] (J9 D))
  (m7:Ok P w K mg base 6 D.eS D.kj ["self", "h", "g"] (JX D))
  (m9:Ok P w K mg base 5 D.eT D.km ["self", "h"] (JY D))
  (kh:Ok P w K mg base 6 D.cZ D.iQ ["self", "h", "x"] (DY D))
  (ng:Ok P w K mg base 7 D.eU D.kn ["self", "w", "h"] (JZ D))
  (iB:Ok P w K mg base 7 D.cR D.gi ["self", "h", "w"] (HM D))
  (nj:Ok P w K mg base 7 D.eV D.ko ["self", "h", "x"] (J8 D))
  (a5:Ok P w K mg base 5 D.bE D.cX ["self"] (xB D))
  (fz:Ok P w K mg base 1 D.bJ D.dJ ["self"] (M0 D))
  (iW:Ok P w K mg base 4 D.dq D.gO ["self"] (MZ D))
  (g7:Ok P w K mg base 6 D.cw D.fG ["self"] (MY D)):Ok P w K mg base 9 D.eC D.jF ["hall", "deed"] (HN D):=by
 refine ⟨?_,F.binds (ps:=["hall", "deed"]) fun _ _ _ _ _ _ us hl=>match us,hl with|[_,_],_=>rfl⟩
 refine F.okE Dh (fun vs H Q E h=>?_) (fun cdv A' outer s' H vs Q E hr h=>?_)
 ·obtain ⟨x,A,s,q,dd,rfl,_⟩:=h
  rfl
 ·obtain ⟨x,A,s,q,dd,rfl,J,Gs,hnx,hq,hok,k⟩:=h
  refine ⟨_,(ai (bB (aI gK (aJ aF (pv 1) aq (fun _ _=>rfl)) aK (aU _))
    (ai (aM (aQ (pv 0) T.af T.uO iA.g (hr.mono (by decide)) iA.b .nil (Passes.x (aT fun _ _ _ q=>q)) (ab (aJ aF (pv 1) aq (fun _ _=>rfl)) (ab (aJ aF (pv 1) aq (fun _ _=>rfl)) ao)))))
    (ai (bB (aI gK (aJ aF (pv 1) aq (fun _ _=>rfl)) aK (aU _))
     (ai (aM (aQ (pv 0) T.af T.sS lp.g (hr.mono (by decide)) lp.b .nil (Passes.x (aT fun _ _ _ q=>q)) (ab (aJ aF (pv 1) aq (fun _ _=>rfl)) (ab (aJ aF (pv 1) aq (fun _ _=>rfl)) (ab (aJ aF (pv 1) aq (fun _ _=>rfl)) ao))))))
     (ai (bB (aI gK (aJ aF (pv 1) aq (fun _ _=>rfl)) aK (aU _))
      (ai (aM (aQ (pv 0) T.af T.uJ mZ.g (hr.mono (by decide)) mZ.b .nil (Passes.x (aT fun _ _ _ q=>q)) (ab (aJ aF (pv 1) aq (fun _ _=>rfl)) (ab (aJ aF (pv 1) aq (fun _ _=>rfl)) (ab (aJ aF (pv 1) aq (fun _ _=>rfl)) ao))))))
      (ai (bB (aI gK (aJ aF (pv 1) aq (fun _ _=>rfl)) aK (aU _))
       (ai (aM (aQ (pv 0) T.af T.uK m7.g (hr.mono (by decide)) m7.b .nil (Passes.x (aT fun _ _ _ q=>q)) (ab (aJ aF (pv 1) aq (fun _ _=>rfl)) (ab (aJ aF (pv 1) aq (fun _ _=>rfl)) ao)))))
       (ai (bB (aI gK (aJ aF (pv 1) aq (fun _ _=>rfl)) aK (aU _))
        (ai (aM (aQ (pv 0) T.af T.uL m9.g (hr.mono (by decide)) m9.b .nil (Passes.x (aT fun _ _ _ q=>q)) (ab (aJ aF (pv 1) aq (fun _ _=>rfl)) ao))))
        (ai (bB (aI gK (aJ aF (pv 1) aq (fun _ _=>rfl)) aK (aU _))
         (ai (aM (aQ (pv 0) T.af T.rq kh.g (hr.mono (by decide)) kh.b .nil (Passes.x (aT fun _ _ _ q=>q)) (ab (aJ aF (pv 1) aq (fun _ _=>rfl)) (ab (aJ aF (pv 1) aq (fun _ _=>rfl)) ao)))))
         (ai (bB (aI gK (aJ aF (pv 1) aq (fun _ _=>rfl)) aK (aU _))
          (ai (aM (aQ (pv 0) T.af T.uM ng.g (hr.mono (by decide)) ng.b .nil (Passes.x (aT fun _ _ _ q=>q)) (ab (aJ aF (pv 1) aq (fun _ _=>rfl)) (ab (aJ aF (pv 1) aq (fun _ _=>rfl)) ao)))))
          (ai (bB (aI gK (aJ aF (pv 1) aq (fun _ _=>rfl)) aK (aU _))
           (ai (aM (aQ (pv 0) T.af T.uP iB.g (hr.mono (by decide)) iB.b .nil (Passes.x (aT fun _ _ _ q=>q)) (ab (aJ aF (pv 1) aq (fun _ _=>rfl)) (ab (aJ aF (pv 1) aq (fun _ _=>rfl)) ao)))))
           (ai (bB (aI gK (aJ aF (pv 1) aq (fun _ _=>rfl)) aK (aU _))
            (ai (aM (aQ (pv 0) T.af T.uN nj.g (hr.mono (by decide)) nj.b .nil (Passes.x (aT fun _ _ _ q=>q)) (ab (aJ aF (pv 1) aq (fun _ _=>rfl)) (ab (aJ aF (pv 1) aq (fun _ _=>rfl)) ao)))))
            (ai (bB (aI gK (aJ aF (pv 1) aq (fun _ _=>rfl)) aK (aU _))
             (ai (aM (i7 (pv 0) T.af T.i3 a5.g (hr.mono (by decide)) a5.b .nil (Passes.x (aT fun _ _ _ q=>q)))))
             (ai (bB (oB (i7 (pv 0) T.af T.pL fz.g (hr.mono (by decide)) fz.b .nil (Passes.x (aT fun _ _ _ q=>q))))
              (ai (aM (i7 (pv 0) T.af T.xQ iW.g (hr.mono (by decide)) iW.b .nil (Passes.x (aT fun _ _ _ q=>q)))))
              (ai (aM (i7 (pv 0) T.af T.sU g7.g (hr.mono (by decide)) g7.b .nil (Passes.x (aT fun _ _ _ q=>q))))))))))))))))))))))))))),?_⟩
  have G:=Gs.g
  cases dd with
  | make h n =>
   replace hq:H q=some (.tup [.str "make",.int h,.int n]):=hq
   obtain ⟨⟨h0,h1⟩,n0,n1⟩:=hok
   refine ⟨_,rfl,q,_,0,.str "make",rfl,rfl,SqT.of hq,rfl,rfl,_,rfl,av (fun _=>?_) (fun z=>absurd (by decide +kernel) z)⟩
   exact ⟨_,rfl,x,_,_,rfl,J.ax,(by kernel_rfl),_,rfl,q,_,1,.int h,rfl,rfl,SqT.of hq,rfl,_,rfl,q,_,2,.int n,rfl,rfl,SqT.of hq,rfl,x,A,s,h,n,rfl,J,Gs,hnx,Sm.of (by omega) (by omega),Sm.of (by omega) (by omega),k⟩
  | store g kk h =>
   replace hq:H q=some (.tup [.str "store",.int g,.int kk,.int h]):=hq
   obtain ⟨⟨g0,g1⟩,k0,k1,h0,h1⟩:=hok
   refine ⟨_,rfl,q,_,0,.str "store",rfl,rfl,SqT.of hq,rfl,rfl,_,rfl,av (fun z=>absurd z (by decide +kernel)) (fun _=>?_)⟩
   refine ⟨_,rfl,q,_,0,.str "store",rfl,rfl,SqT.of hq,rfl,rfl,_,rfl,av (fun _=>?_) (fun z=>absurd (by decide +kernel) z)⟩
   exact ⟨_,rfl,x,_,_,rfl,J.ax,(by kernel_rfl),_,rfl,q,_,1,.int g,rfl,rfl,SqT.of hq,rfl,_,rfl,q,_,2,.int kk,rfl,rfl,SqT.of hq,rfl,_,rfl,q,_,3,.int h,rfl,rfl,SqT.of hq,rfl,x,A,s,g,kk,h,rfl,J,G,Sm.of (by omega) (by omega),Sm.of (by omega) (by omega),Sm.of (by omega) (by omega),k⟩
  | load h g kk =>
   replace hq:H q=some (.tup [.str "load",.int h,.int g,.int kk]):=hq
   obtain ⟨⟨h0,h1⟩,⟨g0,g1⟩,k0,k1⟩:=hok
   refine ⟨_,rfl,q,_,0,.str "load",rfl,rfl,SqT.of hq,rfl,rfl,_,rfl,av (fun z=>absurd z (by decide +kernel)) (fun _=>?_)⟩
   refine ⟨_,rfl,q,_,0,.str "load",rfl,rfl,SqT.of hq,rfl,rfl,_,rfl,av (fun z=>absurd z (by decide +kernel)) (fun _=>?_)⟩
   refine ⟨_,rfl,q,_,0,.str "load",rfl,rfl,SqT.of hq,rfl,rfl,_,rfl,av (fun _=>?_) (fun z=>absurd (by decide +kernel) z)⟩
   exact ⟨_,rfl,x,_,_,rfl,J.ax,(by kernel_rfl),_,rfl,q,_,1,.int h,rfl,rfl,SqT.of hq,rfl,_,rfl,q,_,2,.int g,rfl,rfl,SqT.of hq,rfl,_,rfl,q,_,3,.int kk,rfl,rfl,SqT.of hq,rfl,x,A,s,h,g,kk,rfl,J,G,Sm.of (by omega) (by omega),Sm.of (by omega) (by omega),Sm.of (by omega) (by omega),k⟩
  | copy h g =>
   replace hq:H q=some (.tup [.str "copy",.int h,.int g]):=hq
   obtain ⟨⟨h0,h1⟩,g0,g1⟩:=hok
   refine ⟨_,rfl,q,_,0,.str "copy",rfl,rfl,SqT.of hq,rfl,rfl,_,rfl,av (fun z=>absurd z (by decide +kernel)) (fun _=>?_)⟩
   refine ⟨_,rfl,q,_,0,.str "copy",rfl,rfl,SqT.of hq,rfl,rfl,_,rfl,av (fun z=>absurd z (by decide +kernel)) (fun _=>?_)⟩
   refine ⟨_,rfl,q,_,0,.str "copy",rfl,rfl,SqT.of hq,rfl,rfl,_,rfl,av (fun z=>absurd z (by decide +kernel)) (fun _=>?_)⟩
   refine ⟨_,rfl,q,_,0,.str "copy",rfl,rfl,SqT.of hq,rfl,rfl,_,rfl,av (fun _=>?_) (fun z=>absurd (by decide +kernel) z)⟩
   exact ⟨_,rfl,x,_,_,rfl,J.ax,(by kernel_rfl),_,rfl,q,_,1,.int h,rfl,rfl,SqT.of hq,rfl,_,rfl,q,_,2,.int g,rfl,rfl,SqT.of hq,rfl,x,A,s,h,g,rfl,J,G,Sm.of (by omega) (by omega),Sm.of (by omega) (by omega),k⟩
  | drop h =>
   replace hq:H q=some (.tup [.str "drop",.int h]):=hq
   obtain ⟨h0,h1⟩:=hok
   refine ⟨_,rfl,q,_,0,.str "drop",rfl,rfl,SqT.of hq,rfl,rfl,_,rfl,av (fun z=>absurd z (by decide +kernel)) (fun _=>?_)⟩
   refine ⟨_,rfl,q,_,0,.str "drop",rfl,rfl,SqT.of hq,rfl,rfl,_,rfl,av (fun z=>absurd z (by decide +kernel)) (fun _=>?_)⟩
   refine ⟨_,rfl,q,_,0,.str "drop",rfl,rfl,SqT.of hq,rfl,rfl,_,rfl,av (fun z=>absurd z (by decide +kernel)) (fun _=>?_)⟩
   refine ⟨_,rfl,q,_,0,.str "drop",rfl,rfl,SqT.of hq,rfl,rfl,_,rfl,av (fun z=>absurd z (by decide +kernel)) (fun _=>?_)⟩
   refine ⟨_,rfl,q,_,0,.str "drop",rfl,rfl,SqT.of hq,rfl,rfl,_,rfl,av (fun _=>?_) (fun z=>absurd (by decide +kernel) z)⟩
   exact ⟨_,rfl,x,_,_,rfl,J.ax,(by kernel_rfl),_,rfl,q,_,1,.int h,rfl,rfl,SqT.of hq,rfl,x,A,s,h,rfl,J,G,Sm.of (by omega) (by omega),k⟩
  | number h z =>
   replace hq:H q=some (.tup [.str "number",.int h,.int z]):=hq
   obtain ⟨⟨h0,h1⟩,z0,z1⟩:=hok
   refine ⟨_,rfl,q,_,0,.str "number",rfl,rfl,SqT.of hq,rfl,rfl,_,rfl,av (fun z=>absurd z (by decide +kernel)) (fun _=>?_)⟩
   refine ⟨_,rfl,q,_,0,.str "number",rfl,rfl,SqT.of hq,rfl,rfl,_,rfl,av (fun z=>absurd z (by decide +kernel)) (fun _=>?_)⟩
   refine ⟨_,rfl,q,_,0,.str "number",rfl,rfl,SqT.of hq,rfl,rfl,_,rfl,av (fun z=>absurd z (by decide +kernel)) (fun _=>?_)⟩
   refine ⟨_,rfl,q,_,0,.str "number",rfl,rfl,SqT.of hq,rfl,rfl,_,rfl,av (fun z=>absurd z (by decide +kernel)) (fun _=>?_)⟩
   refine ⟨_,rfl,q,_,0,.str "number",rfl,rfl,SqT.of hq,rfl,rfl,_,rfl,av (fun z=>absurd z (by decide +kernel)) (fun _=>?_)⟩
   refine ⟨_,rfl,q,_,0,.str "number",rfl,rfl,SqT.of hq,rfl,rfl,_,rfl,av (fun _=>?_) (fun z=>absurd (by decide +kernel) z)⟩
   exact ⟨_,rfl,x,_,_,rfl,J.ax,(by kernel_rfl),_,rfl,q,_,1,.int h,rfl,rfl,SqT.of hq,rfl,_,rfl,q,_,2,.int z,rfl,rfl,SqT.of hq,rfl,x,A,s,h,z,rfl,J,G,Sm.of (by omega) (by omega),Sm.of (by omega) (by omega),k⟩
  | name w h =>
   replace hq:H q=some (.tup [.str "name",.int w,.int h]):=hq
   obtain ⟨⟨w0,w1⟩,h0,h1⟩:=hok
   refine ⟨_,rfl,q,_,0,.str "name",rfl,rfl,SqT.of hq,rfl,rfl,_,rfl,av (fun z=>absurd z (by decide +kernel)) (fun _=>?_)⟩
   refine ⟨_,rfl,q,_,0,.str "name",rfl,rfl,SqT.of hq,rfl,rfl,_,rfl,av (fun z=>absurd z (by decide +kernel)) (fun _=>?_)⟩
   refine ⟨_,rfl,q,_,0,.str "name",rfl,rfl,SqT.of hq,rfl,rfl,_,rfl,av (fun z=>absurd z (by decide +kernel)) (fun _=>?_)⟩
   refine ⟨_,rfl,q,_,0,.str "name",rfl,rfl,SqT.of hq,rfl,rfl,_,rfl,av (fun z=>absurd z (by decide +kernel)) (fun _=>?_)⟩
   refine ⟨_,rfl,q,_,0,.str "name",rfl,rfl,SqT.of hq,rfl,rfl,_,rfl,av (fun z=>absurd z (by decide +kernel)) (fun _=>?_)⟩
   refine ⟨_,rfl,q,_,0,.str "name",rfl,rfl,SqT.of hq,rfl,rfl,_,rfl,av (fun z=>absurd z (by decide +kernel)) (fun _=>?_)⟩
   refine ⟨_,rfl,q,_,0,.str "name",rfl,rfl,SqT.of hq,rfl,rfl,_,rfl,av (fun _=>?_) (fun z=>absurd (by decide +kernel) z)⟩
   exact ⟨_,rfl,x,_,_,rfl,J.ax,(by kernel_rfl),_,rfl,q,_,1,.int w,rfl,rfl,SqT.of hq,rfl,_,rfl,q,_,2,.int h,rfl,rfl,SqT.of hq,rfl,x,A,s,w,h,rfl,J,G,Sm.of (by omega) (by omega),Sm.of (by omega) (by omega),k⟩
  | read h w =>
   replace hq:H q=some (.tup [.str "read",.int h,.int w]):=hq
   obtain ⟨⟨h0,h1⟩,w0,w1⟩:=hok
   refine ⟨_,rfl,q,_,0,.str "read",rfl,rfl,SqT.of hq,rfl,rfl,_,rfl,av (fun z=>absurd z (by decide +kernel)) (fun _=>?_)⟩
   refine ⟨_,rfl,q,_,0,.str "read",rfl,rfl,SqT.of hq,rfl,rfl,_,rfl,av (fun z=>absurd z (by decide +kernel)) (fun _=>?_)⟩
   refine ⟨_,rfl,q,_,0,.str "read",rfl,rfl,SqT.of hq,rfl,rfl,_,rfl,av (fun z=>absurd z (by decide +kernel)) (fun _=>?_)⟩
   refine ⟨_,rfl,q,_,0,.str "read",rfl,rfl,SqT.of hq,rfl,rfl,_,rfl,av (fun z=>absurd z (by decide +kernel)) (fun _=>?_)⟩
   refine ⟨_,rfl,q,_,0,.str "read",rfl,rfl,SqT.of hq,rfl,rfl,_,rfl,av (fun z=>absurd z (by decide +kernel)) (fun _=>?_)⟩
   refine ⟨_,rfl,q,_,0,.str "read",rfl,rfl,SqT.of hq,rfl,rfl,_,rfl,av (fun z=>absurd z (by decide +kernel)) (fun _=>?_)⟩
   refine ⟨_,rfl,q,_,0,.str "read",rfl,rfl,SqT.of hq,rfl,rfl,_,rfl,av (fun z=>absurd z (by decide +kernel)) (fun _=>?_)⟩
   refine ⟨_,rfl,q,_,0,.str "read",rfl,rfl,SqT.of hq,rfl,rfl,_,rfl,av (fun _=>?_) (fun z=>absurd (by decide +kernel) z)⟩
   exact ⟨_,rfl,x,_,_,rfl,J.ax,(by kernel_rfl),_,rfl,q,_,1,.int h,rfl,rfl,SqT.of hq,rfl,_,rfl,q,_,2,.int w,rfl,rfl,SqT.of hq,rfl,x,A,s,h,w,rfl,J,G,Sm.of (by omega) (by omega),Sm.of (by omega) (by omega),k⟩
  | word h z =>
   replace hq:H q=some (.tup [.str "word",.int h,.int z]):=hq
   obtain ⟨⟨h0,h1⟩,z0,z1⟩:=hok
   refine ⟨_,rfl,q,_,0,.str "word",rfl,rfl,SqT.of hq,rfl,rfl,_,rfl,av (fun z=>absurd z (by decide +kernel)) (fun _=>?_)⟩
   refine ⟨_,rfl,q,_,0,.str "word",rfl,rfl,SqT.of hq,rfl,rfl,_,rfl,av (fun z=>absurd z (by decide +kernel)) (fun _=>?_)⟩
   refine ⟨_,rfl,q,_,0,.str "word",rfl,rfl,SqT.of hq,rfl,rfl,_,rfl,av (fun z=>absurd z (by decide +kernel)) (fun _=>?_)⟩
   refine ⟨_,rfl,q,_,0,.str "word",rfl,rfl,SqT.of hq,rfl,rfl,_,rfl,av (fun z=>absurd z (by decide +kernel)) (fun _=>?_)⟩
   refine ⟨_,rfl,q,_,0,.str "word",rfl,rfl,SqT.of hq,rfl,rfl,_,rfl,av (fun z=>absurd z (by decide +kernel)) (fun _=>?_)⟩
   refine ⟨_,rfl,q,_,0,.str "word",rfl,rfl,SqT.of hq,rfl,rfl,_,rfl,av (fun z=>absurd z (by decide +kernel)) (fun _=>?_)⟩
   refine ⟨_,rfl,q,_,0,.str "word",rfl,rfl,SqT.of hq,rfl,rfl,_,rfl,av (fun z=>absurd z (by decide +kernel)) (fun _=>?_)⟩
   refine ⟨_,rfl,q,_,0,.str "word",rfl,rfl,SqT.of hq,rfl,rfl,_,rfl,av (fun z=>absurd z (by decide +kernel)) (fun _=>?_)⟩
   refine ⟨_,rfl,q,_,0,.str "word",rfl,rfl,SqT.of hq,rfl,rfl,_,rfl,av (fun _=>?_) (fun z=>absurd (by decide +kernel) z)⟩
   exact ⟨_,rfl,x,_,_,rfl,J.ax,(by kernel_rfl),_,rfl,q,_,1,.int h,rfl,rfl,SqT.of hq,rfl,_,rfl,q,_,2,.int z,rfl,rfl,SqT.of hq,rfl,x,A,s,h,z,rfl,J,G,Sm.of (by omega) (by omega),Sm.of (by omega) (by omega),k⟩
  | small =>
   replace hq:H q=some (.tup [.str "small"]):=hq
   refine ⟨_,rfl,q,_,0,.str "small",rfl,rfl,SqT.of hq,rfl,rfl,_,rfl,av (fun z=>absurd z (by decide +kernel)) (fun _=>?_)⟩
   refine ⟨_,rfl,q,_,0,.str "small",rfl,rfl,SqT.of hq,rfl,rfl,_,rfl,av (fun z=>absurd z (by decide +kernel)) (fun _=>?_)⟩
   refine ⟨_,rfl,q,_,0,.str "small",rfl,rfl,SqT.of hq,rfl,rfl,_,rfl,av (fun z=>absurd z (by decide +kernel)) (fun _=>?_)⟩
   refine ⟨_,rfl,q,_,0,.str "small",rfl,rfl,SqT.of hq,rfl,rfl,_,rfl,av (fun z=>absurd z (by decide +kernel)) (fun _=>?_)⟩
   refine ⟨_,rfl,q,_,0,.str "small",rfl,rfl,SqT.of hq,rfl,rfl,_,rfl,av (fun z=>absurd z (by decide +kernel)) (fun _=>?_)⟩
   refine ⟨_,rfl,q,_,0,.str "small",rfl,rfl,SqT.of hq,rfl,rfl,_,rfl,av (fun z=>absurd z (by decide +kernel)) (fun _=>?_)⟩
   refine ⟨_,rfl,q,_,0,.str "small",rfl,rfl,SqT.of hq,rfl,rfl,_,rfl,av (fun z=>absurd z (by decide +kernel)) (fun _=>?_)⟩
   refine ⟨_,rfl,q,_,0,.str "small",rfl,rfl,SqT.of hq,rfl,rfl,_,rfl,av (fun z=>absurd z (by decide +kernel)) (fun _=>?_)⟩
   refine ⟨_,rfl,q,_,0,.str "small",rfl,rfl,SqT.of hq,rfl,rfl,_,rfl,av (fun z=>absurd z (by decide +kernel)) (fun _=>?_)⟩
   refine ⟨_,rfl,q,_,0,.str "small",rfl,rfl,SqT.of hq,rfl,rfl,_,rfl,av (fun _=>?_) (fun z=>absurd (by decide +kernel) z)⟩
   exact ⟨_,rfl,x,_,_,rfl,J.ax,(by kernel_rfl),x,A,s,rfl,J,G,fun A' H' J' fr=>k A' H' J' fr⟩
  | turn =>
   replace hq:H q=some (.tup [.str "turn"]):=hq
   refine ⟨_,rfl,q,_,0,.str "turn",rfl,rfl,SqT.of hq,rfl,rfl,_,rfl,av (fun z=>absurd z (by decide +kernel)) (fun _=>?_)⟩
   refine ⟨_,rfl,q,_,0,.str "turn",rfl,rfl,SqT.of hq,rfl,rfl,_,rfl,av (fun z=>absurd z (by decide +kernel)) (fun _=>?_)⟩
   refine ⟨_,rfl,q,_,0,.str "turn",rfl,rfl,SqT.of hq,rfl,rfl,_,rfl,av (fun z=>absurd z (by decide +kernel)) (fun _=>?_)⟩
   refine ⟨_,rfl,q,_,0,.str "turn",rfl,rfl,SqT.of hq,rfl,rfl,_,rfl,av (fun z=>absurd z (by decide +kernel)) (fun _=>?_)⟩
   refine ⟨_,rfl,q,_,0,.str "turn",rfl,rfl,SqT.of hq,rfl,rfl,_,rfl,av (fun z=>absurd z (by decide +kernel)) (fun _=>?_)⟩
   refine ⟨_,rfl,q,_,0,.str "turn",rfl,rfl,SqT.of hq,rfl,rfl,_,rfl,av (fun z=>absurd z (by decide +kernel)) (fun _=>?_)⟩
   refine ⟨_,rfl,q,_,0,.str "turn",rfl,rfl,SqT.of hq,rfl,rfl,_,rfl,av (fun z=>absurd z (by decide +kernel)) (fun _=>?_)⟩
   refine ⟨_,rfl,q,_,0,.str "turn",rfl,rfl,SqT.of hq,rfl,rfl,_,rfl,av (fun z=>absurd z (by decide +kernel)) (fun _=>?_)⟩
   refine ⟨_,rfl,q,_,0,.str "turn",rfl,rfl,SqT.of hq,rfl,rfl,_,rfl,av (fun z=>absurd z (by decide +kernel)) (fun _=>?_)⟩
   refine ⟨_,rfl,q,_,0,.str "turn",rfl,rfl,SqT.of hq,rfl,rfl,_,rfl,av (fun z=>absurd z (by decide +kernel)) (fun _=>?_)⟩
   replace k:Fin D x A s H (oi s) Q E:=k
   refine ⟨_,rfl,x,_,_,rfl,J.ax,(by kernel_rfl),x,A,s,rfl,J,_,rfl,?_⟩
   by_cases c:s.rnd=true
   ·rw [show oi s=MX s from if_pos c] at k
    exact IQ c ⟨_,rfl,x,_,_,rfl,J.ax,(by kernel_rfl),x,A,s,rfl,J,Gs,k⟩
   ·rw [show oi s=Bk s from if_neg c] at k
    exact xA (Bool.eq_false_iff.mpr c) ⟨_,rfl,x,_,_,rfl,J.ax,(by kernel_rfl),x,A,s,rfl,J,Gs,k⟩
theorem OE (T:Txt K mg D) (eN:Ok0 P w K mg base 1 D.cg D.eE ["self"] (bP "BadHand")) (eO:Ok0 P w K mg base 1 D.cj D.eF ["self"] (bP "BadName")) (d8:Ok0 P w K mg base 1 D.bQ D.dX ["self"] (bP "BadField")) (d9:Ok0 P w K mg base 1 D.bR D.dY ["self"] (bP "BadCount")) (fA:Ok0 P w K mg base 1 D.cH D.fq ["self"] (bP "NoRoom")) (cA:Ok0 P w K mg base 1 D.ba D.cz ["self"] (bP "TooManyWords")) (eP:Ok0 P w K mg base 1 D.ck D.eG ["self"] (bP "RoundOn")) (eQ:Ok0 P w K mg base 1 D.cn D.eI ["self"] (bP "NoRound")) (e:Er):(∃ cd,gL K (D.er e) cd∧cd.mro.contains (.ref D.aR)=true)∧LG K (D.er e)∧MO P w K mg base (CXE P w) 1 "called" (D.er e) (bP (FG e)):=by
 cases e with
 | hand=>exact ⟨T.F5,T.i9.get,⟨_,_,_,T.Iv,eN.g,eN.b⟩⟩
 | name=>exact ⟨T.F6,T.uC.get,⟨_,_,_,T.Iz,eO.g,eO.b⟩⟩
 | field=>exact ⟨T.Ef,T.ra.get,⟨_,_,_,T.F9,d8.g,d8.b⟩⟩
 | count=>exact ⟨T.Ee,T.mX.get,⟨_,_,_,T.FZ,d9.g,d9.b⟩⟩
 | room=>exact ⟨T.IA,T.DV.get,⟨_,_,_,T.Ld,fA.g,fA.b⟩⟩
 | words=>exact ⟨T.xP,T.pF.get,⟨_,_,_,T.An,cA.g,cA.b⟩⟩
 | on=>exact ⟨T.Ga,T.Ck.get,⟨_,_,_,T.ID,eP.g,eP.b⟩⟩
 | no=>exact ⟨T.Gb,T.Cm.get,⟨_,_,_,T.IG,eQ.g,eQ.b⟩⟩
def Kl (D:Ad):Sp:=fun vs H Q E=>∃ x A s q dd,vs=[.ref x,.ref q]∧IH D H x A s∧Gd s∧s.nxt<10000∧H q=some (.tup (Dd.its dd))∧dd.ok∧∀ A' H',IH D H' x A' (dDo s dd).2→Fr (bX x A s) H (bX x A' (dDo s dd).2) H'→Q (wdV (dDo s dd).1) H'
abbrev Gu:List Str:=["hall", "deed", "word", "e"]
theorem lq:aA Gu ["hall", "deed"] (au qY):=⟨rfl,rfl,rfl,by decide +kernel,rfl,by decide +kernel,by decide +kernel⟩
theorem EF (F:Fun K "_law_done" "_law_done" qY D.fP D.kr) (T:Txt K mg D)
  (lr:Ok P w K mg base 9 D.eC D.jF ["hall", "deed"] (HN D))
  (eN:Ok0 P w K mg base 1 D.cg D.eE ["self"] (bP "BadHand"))
  (eO:Ok0 P w K mg base 1 D.cj D.eF ["self"] (bP "BadName"))
  (d8:Ok0 P w K mg base 1 D.bQ D.dX ["self"] (bP "BadField"))
  (d9:Ok0 P w K mg base 1 D.bR D.dY ["self"] (bP "BadCount"))
  (fA:Ok0 P w K mg base 1 D.cH D.fq ["self"] (bP "NoRoom"))
  (cA:Ok0 P w K mg base 1 D.ba D.cz ["self"] (bP "TooManyWords"))
  (eP:Ok0 P w K mg base 1 D.ck D.eG ["self"] (bP "RoundOn"))
  (eQ:Ok0 P w K mg base 1 D.cn D.eI ["self"] (bP "NoRound")):Ok P w K mg base 10 D.fP D.kr ["hall", "deed"] (Kl D):=by
 refine ⟨?_,F.binds (ps:=["hall", "deed"]) fun _ _ _ _ _ _ us hl=>match us,hl with|[_,_],_=>rfl⟩
 refine F.okE lq (fun vs H Q E h=>?_) (fun cdv A' outer s' H vs Q E hr h=>?_)
 ·obtain ⟨x,A,s,q,dd,rfl,_⟩:=h
  rfl
 ·obtain ⟨x,A,s,q,dd,rfl,J,Gs,hnx,hq,hok,k⟩:=h
  obtain ⟨cdH,xH⟩:=T.h
  refine ⟨_,(aj (bp (i:=2) lq.nd rfl (Or.inl rfl) gS)
   (aj (Wr (i:=3) rfl rfl rfl rfl T.mH xH lq.nd rfl rfl (fun pins E' EK hp=>ai (aM (br lr.g (hr.mono (by decide)) rfl T.Ek T.oY lr.b .nil hp (ab (pv 0) (ab (pv 1) ao))))) (fun ea=>ai (bp (i:=2) lq.nd rfl (Or.inl rfl) (show PE _ _ (JR P w K mg base (CXE P w) 1 "called" (fun _ _ _ _=>False) (Rn 3)) from La (k:=1) (CX:=CXE P w) (pv 3) ⟨(hr.r0 (show 1≤9 by decide)).dp,(hr.r0 (show 1≤9 by decide)).un⟩ Im))))
   (ai (aX (pv 2))))),?_⟩
  refine ⟨_,rfl,_,rfl,x,A,s,q,dd,rfl,J,Gs,hnx,hq,hok,fun A1 H1 J1 fr=>?_⟩
  cases e:(dDo s dd).1 with
  | none =>
   rw [e] at k
   exact ⟨_,rfl,k A1 H1 J1 fr⟩
  | some er =>
   rw [e] at k
   obtain ⟨⟨cd,xc,hm⟩,gt,md⟩:=OE (P:=P) (w:=w) (base:=base) T eN eO d8 d9 fA cA eP eQ er
   refine ⟨D.er er,cd,rfl,xc,hm,fun ea hea=>⟨.ref ea,rfl,false,ea,D.er er,bP (FG er),rfl,ag,gt,md,_,rfl,?_⟩⟩
   have s1:=aG.upd (o:=exo false (D.er er) ea none) hea
   exact ⟨_,rfl,k A1 _ (J1.same s1) (fr.trans (Fr.same s1))⟩
def rmA (hd:Int):Int:=([14,0,7,9,30,64]:List Int).getD (hd%6).toNat 0
def lmA (hd:Int):Int:=([400,60,120]:List Int).getD (hd/6%3).toNat 0
def rl (o:Option Int):Int×Int:=match o with
 | none=>(rmA 0,lmA 0)
 | some z=>(rmA (z/2%1000003),lmA (z/2%1000003))
theorem WI {hd:Int} (h:0≤hd):atI [V.int 14,V.int 0,V.int 7,V.int 9,V.int 30,V.int 64] (hd%6)=some (.int (rmA hd))∧(rmA hd=0∨(7≤rmA hd∧rmA hd≤64)):=by
 unfold rmA
 have h1:=Int.emod_nonneg hd (show (6:Int)≠0 by decide)
 have h2:=Int.emod_lt_of_pos hd (show (0:Int)<6 by decide)
 generalize hd%6=c at h1 h2
 rcases (show c=0∨c=1∨c=2∨c=3∨c=4∨c=5 by omega) with rfl|rfl|rfl|rfl|rfl|rfl<;>exact ⟨rfl,by decide⟩
theorem WJ {hd:Int} (h:0≤hd):atI [V.int 400,V.int 60,V.int 120] (hd/6%3)=some (.int (lmA hd))∧7≤lmA hd∧lmA hd≤400:=by
 unfold lmA
 have h1:=Int.emod_nonneg (hd/6) (show (3:Int)≠0 by decide)
 have h2:=Int.emod_lt_of_pos (hd/6) (show (0:Int)<3 by decide)
 generalize hd/6%3=c at h1 h2
 rcases (show c=0∨c=1∨c=2 by omega) with rfl|rfl|rfl<;>exact ⟨rfl,by decide,by decide⟩
def Km (D:Ad) (K:W.Frag):Sp:=fun vs H Q _=>∃ (a:Addr) (ns:List Int),vs=[.ref a]∧SqL K H a (ns.map V.int)∧∀ x A room limit H',aG H H'→(∀ b,bX x A (s0 (decide (room>0)) room limit) b→H b=none)→IH D H' x A (s0 (decide (room>0)) room limit)→((room,limit)=rl (ns.head?))→Q (.ref x) H'
abbrev Gv:List Str:=["script", "head"]
theorem pA:aA Gv ["script"] (au qZ):=⟨rfl,rfl,rfl,by decide +kernel,rfl,by decide +kernel,by decide +kernel⟩
theorem EG (F:Fun K "_law_heap" "_law_heap" qZ D.fQ D.ku) (T:Txt K mg D)
  (fB:Ok P w K mg base 4 D.bI D.dI ["self", "young", "limit"] (sG D)):Ok P w K mg base 6 D.fQ D.ku ["script"] (Km D K):=by
 refine ⟨?_,F.binds (ps:=["script"]) fun _ _ _ _ _ _ us hl=>match us,hl with|[_],_=>rfl⟩
 refine F.okE pA (fun vs H Q E h=>?_) (fun cdv A' outer s' H vs Q E hr h=>?_)
 ·obtain ⟨a,ns,rfl,_⟩:=h
  rfl
 ·obtain ⟨a,ns,rfl,hS,k⟩:=h
  refine ⟨_,(PSs.nox (aj (bp (i:=1) pA.nd rfl (Or.inl rfl) aq)
   (aj (bB (aI Fy (fi dN rfl T.ql PyProof.Rows.Boot.«len» (ab (pv 0) ao)) aq (aU _))
    (ai (bp (i:=1) pA.nd rfl (Or.inl rfl) (dD j4 (dD sj (aJ cD (pv 0) aq (fun _ _=>rfl)) aq) aq)))
    aP)
   (ai (aX (NR T.oW fB.g (hr.mono (by decide)) rfl T.Ei fB.b .nil WC (ab (aJ cD (jM (ab aq (ab aq (ab aq (ab aq (ab aq (ab aq ao))))))) (dD j4 (pv 1) aq) (fun _ _=>rfl)) (ab (aJ cD (jM (ab aq (ab aq (ab aq ao)))) (dD j4 (dD sj (pv 1) aq) aq) (fun _ _=>rfl)) ao)))))))),?_⟩
  refine je fun N0 hN0=>?_
  refine hN0 _ _ ?_
  refine je fun N hN=>?_
  have fin:∀ hd:Int,0≤hd→rl ns.head?=(rmA hd,lmA hd)→N [some (.ref a),some (.int hd)] H:=by
   intro hd h0 er
   refine hN _ _ ?_
   obtain ⟨hv1,y1⟩:=WI h0
   obtain ⟨hv2,y2,y3⟩:=WJ h0
   refine ⟨by show 6≤sizeLine;decide,fun p hp=>⟨_,rfl,hd,6,rfl,rfl,(by show (0:Int)<6;decide),p,_,_,_,rfl,rfl,SqL.of ag,hv1,by show 3≤sizeLine;decide,fun q hq=>⟨_,rfl,hd,6,rfl,rfl,⟨by decide,by decide⟩,_,3,rfl,rfl,(by show (0:Int)<3;decide),q,_,_,_,rfl,rfl,SqL.of ag,hv2,?_⟩⟩⟩
   have a1:=(aG.upd (o:=.lst [V.int 14,V.int 0,V.int 7,V.int 9,V.int 30,V.int 64]) hp).trans (aG.upd (o:=.lst [V.int 400,V.int 60,V.int 120]) hq)
   intro x dx hx hdx nd
   refine ⟨x,dx,_,_,rfl,ag,y1,y2,y3,fun A H1 J0 B0 F0=>⟨rfl,?_⟩⟩
   refine k x A _ _ H1 (fun b u q=>?_) (fun b fb=>?_) J0 er.symm
   ·have q1:=a1 _ _ q
    exact B0 b u (ar q1 hx) (by rw [ae (ar q1 hx),ae (ar q1 hdx)];exact q1)
   ·rcases F0 b fb with e|e
    ·rw [e];exact aG.none a1 hx
    ·refine aG.none a1 ?_
     by_cases c:b=x
     ·rw [c];exact hx
     ·by_cases c2:b=dx
      ·rw [c2];exact hdx
      ·rw [ae c,ae c2] at e;exact e
  refine ⟨_,rfl,a,_,rfl,.inl hS,_,0,rfl,rfl,_,rfl,av (fun h=>?_) (fun h=>?_)⟩
  ·have hl:0<ns.length:=by
    have:=of_decide_eq_true h
    rw [List.length_map] at this
    omega
   have h0:atI (ns.map V.int) 0=some (.int (ns[0]'hl)):=xJ (j:=0) (by rw [List.getElem?_map,List.getElem?_eq_getElem hl];rfl)
   refine ⟨_,rfl,a,_,0,_,rfl,rfl,hS,h0,_,2,rfl,rfl,⟨by decide,by decide⟩,_,1000003,rfl,rfl,(by show (0:Int)<1000003;decide),?_⟩
   refine fin _ (Int.emod_nonneg _ (by decide)) ?_
   rw [show ns.head?=some ns[0] by rw [List.head?_eq_getElem?,List.getElem?_eq_getElem hl]]
   rfl
  ·have hl:ns=[]:=by
    cases ns with
    | nil=>rfl
    | cons z r=>exact absurd (decide_eq_true (by rw [List.length_map,List.length_cons];omega)) h
   exact fin 0 (Int.le_refl _) (by rw [hl];rfl)
def HP (K:W.Frag):Sp:=fun vs H Q _=>∃ (a:Addr) (ns:List Int) (m:Int),vs=[.ref a,.int m]∧SqL K H a (ns.map V.int)∧ns.length≤63∧∀ p dv H',aG H H'→H p=none→H' p=some (.lst dv)→dv.length≤203→(∀ v∈dv,∃ q dd,v=.ref q∧H' q=some (.tup (Dd.its dd))∧dd.ok)→Q (.ref p) H'
abbrev iK:List Str:=["script", "most", "deeds"]
theorem sI:aA iK ["script", "most"] (au bw):=⟨rfl,rfl,rfl,by decide +kernel,rfl,by decide +kernel,by decide +kernel⟩
theorem Dj (F:Fun K "_law_deeds" "_law_deeds" bw D.cq D.jH) (T:Txt K mg D)
  (nk:Ok P w K mg base 1 D.fO D.kq ["number"] (Kk))
  (jA:Ok P w K mg base 2 D.c6 D.ic ["script", "most"] (Cw K)):Ok P w K mg base 3 D.cq D.jH ["script", "most"] (HP K):=by
 refine ⟨?_,F.binds (ps:=["script", "most"]) fun _ _ _ _ _ _ us hl=>match us,hl with|[_,_],_=>rfl⟩
 refine F.okE sI (fun vs H Q E h=>?_) (fun cdv A' outer s' H vs Q E hr h=>?_)
 ·obtain ⟨a,ns,m,rfl,_⟩:=h
  rfl
 ·obtain ⟨a,ns,m,rfl,hS,hlen,k⟩:=h
  have hh0:∃ es p q1 q2,(bF bw).getD 0 (.Pass ⟨0,0,0,0⟩)=.Assign [.Name "deeds" q1] (.List es p) q2∧∃ e0 e1 e2,es=[e0,e1,e2]∧(PE (cxE P w K mg base iK "_law_deeds" (au bw) D.cq cdv A' outer s' H E).nox e0 (Ru (mW (tC (.str "make")) (mW (tC (.int 0)) (mW (tC (.int 3)) JH))))∧nsE e0=true)∧(PE (cxE P w K mg base iK "_law_deeds" (au bw) D.cq cdv A' outer s' H E).nox e1 (Ru (mW (tC (.str "make")) (mW (tC (.int 1)) (mW (tC (.int 2)) JH))))∧nsE e1=true)∧(PE (cxE P w K mg base iK "_law_deeds" (au bw) D.cq cdv A' outer s' H E).nox e2 (Ru (mW (tC (.str "make")) (mW (tC (.int 2)) (mW (tC (.int 2)) JH))))∧nsE e2=true):=⟨_,_,_,_,rfl,_,_,_,rfl,⟨fg (gT aK (gT aq (gT aq ao))),rfl⟩,⟨fg (gT aK (gT aq (gT aq ao))),rfl⟩,⟨fg (gT aK (gT aq (gT aq ao))),rfl⟩⟩
  have S1:PS (cxE P w K mg base iK "_law_deeds" (au bw) D.cq cdv A' outer s' H E).nox ((bF bw).getD 1 (.Pass ⟨0,0,0,0⟩)) _:=(aX (dD JN (pv 2) (xO (cl:=[]) (x := "number") (idx:=[]) (NC:=["number"]) (by exact sq (sc:=au bw) (N:=iK) (ns:=[]) rfl rfl rfl (by decide +kernel) rfl rfl (by intro q hq;cases hq)) rfl (qd (br jA.g (hr.mono (by decide)) rfl T.Bs T.lS jA.b .nil iT (ab (pv 0) (ab (pv 1) ao)))) (fun C fp s₀ H₀=>(br nk.g (hr.mono (by decide)) rfl T.Ge T.rb nk.b .nil Im (ab (pv 0) ao))))))
  have hb:bF bw=[(bF bw).getD 0 (.Pass ⟨0,0,0,0⟩),(bF bw).getD 1 (.Pass ⟨0,0,0,0⟩)]:=rfl
  generalize (bF bw).getD 0 (.Pass ⟨0,0,0,0⟩)=st0 at hh0 hb
  have S0:=WA (i:=2) hh0 sI.nd rfl (Or.inl rfl) (.inl rfl)
  generalize (bF bw).getD 1 (.Pass ⟨0,0,0,0⟩)=st1 at S1 hb
  generalize bF bw=bd at hb ⊢
  subst hb
  refine ⟨_,(PSs.nox (aj S0 (ai S1))),?_⟩
  refine ⟨by show 3≤sizeLine;decide,fun t1 h1=>⟨by show 3≤sizeLine;decide,fun t2 h2=>⟨by show 3≤sizeLine;decide,fun t3 h3=>⟨by show 3≤sizeLine;decide,fun l0 hl0=>?_⟩⟩⟩⟩
  have a7:=aG.upd (o:=.tup (Dd.its (.make 0 3))) h1
  have a8:=aG.upd (o:=.tup (Dd.its (.make 1 2))) h2
  have a9:=aG.upd (o:=.tup (Dd.its (.make 2 2))) h3
  have a10:=aG.upd (o:=.lst [V.ref t1,V.ref t2,V.ref t3]) hl0
  have c9:=a9.trans a10
  have c8:=a8.trans c9
  have c7:=a7.trans c8
  have zl0:=JT a10
  have zt1:=c8 _ _ (ag (o:=.tup (Dd.its (.make 0 3))))
  have zt2:=c9 _ _ (ag (o:=.tup (Dd.its (.make 1 2))))
  have zt3:=a10 _ _ (ag (o:=.tup (Dd.its (.make 2 2))))
  refine ⟨_,rfl,_,rfl,_,rfl,a,ns,m,rfl,c7.seq hS,hlen,fun pz zs Hn sn hz0 hz lz bz=>⟨pz,rfl,⟨_,SqL.of hz⟩,fun Dl hDl=>?_⟩⟩
  refine rY (K:=K) (a:=pz) (xs:=zs.map V.int) (fun i ys Hc=>ys.length=i∧aG Hn Hc∧Hc Dl=some (.lst ys)∧∀ v∈ys,∃ q dd,v=.ref q∧Hc q=some (.tup (Dd.its dd))∧dd.ok) ⟨rfl,aG.upd hDl,ag,fun v hv=>by cases hv⟩ (fun i ys Hc _ ⟨e,_,z,_⟩=>⟨z,e⟩) (fun i ys Hc _ ⟨_,sc,_⟩=>SqL.of (sc _ _ hz)) (xn (by rw [List.length_map];omega)) (fun i v ys Hc hi ⟨e,sc,z,hv⟩=>?_) (fun ys Hc ⟨e,sc,z,hv⟩=>?_)
  ·obtain ⟨y,my,rfl⟩:=List.mem_map.mp (List.mem_of_getElem? hi)
   obtain ⟨y0,y1⟩:=bz y my
   refine ⟨_,rfl,y,rfl,y0,y1,fun q dd H4 s4 hq0 hq ok=>⟨s4 _ _ z,by rw [List.length_append,e];rfl,fun b u g=>by rw [ae (ar g hDl)];exact s4 _ _ (sc b u g),ag,fun v m=>?_⟩⟩
   have tk:dr H4 (upd H4 Dl (.lst (ys++[V.ref q]))):=dr.set (s4 _ _ z) (fun _ w=>nomatch w)
   rcases List.mem_append.mp m with m|m
   ·obtain ⟨q',dd',e',hq',ok'⟩:=hv v m
    exact ⟨q',dd',e',tk _ _ (s4 _ _ hq'),ok'⟩
   ·rw [List.mem_singleton.mp m]
    exact ⟨q,dd,rfl,tk _ _ hq,ok⟩
  ·have snc:=sn.trans sc
   have ly:ys.length≤200:=by rw [e,List.length_map];exact lz
   refine ⟨l0,Dl,_,_,rfl,rfl,SqL.of (snc _ _ zl0),SqL.of z,xn (by show 3+ys.length≤20000;omega),fun ld hld=>?_⟩
   have b1:=aG.upd (o:=.lst ([V.ref t1,V.ref t2,V.ref t3]++ys)) hld
   have sf:=snc.trans b1
   refine k ld _ _ (c7.trans sf) (aG.none (c7.trans snc) hld) ag (by rw [List.length_append];show 3+ys.length≤203;omega) fun v m=>?_
   rcases List.mem_append.mp m with m|m
   ·simp only [List.mem_cons,List.not_mem_nil,or_false] at m
    rcases m with rfl|rfl|rfl
    ·exact ⟨t1,_,rfl,sf _ _ zt1,⟨by decide,by decide⟩,by decide,by decide⟩
    ·exact ⟨t2,_,rfl,sf _ _ zt2,⟨by decide,by decide⟩,by decide,by decide⟩
    ·exact ⟨t3,_,rfl,sf _ _ zt3,⟨by decide,by decide⟩,by decide,by decide⟩
   ·obtain ⟨q',dd',e',hq',ok'⟩:=hv v m
    exact ⟨q',dd',e',b1 _ _ hq',ok'⟩
def aaL:Wd→Bool
 | .th _=>true
 | _=>false
structure LM (H:Hp) (lh lf:Addr) (hx:List V) (rs:List Addr) (rx:Nat→List V) (ws:List Wd) (fs:List (List Wd)):Prop where
 h:H lh=some (.lst hx)
 hr:Rel H hx ws
 n8:ws.length=8
 f:H lf=some (.lst (rs.map V.ref))
 fl:rs.length=fs.length
 fr:∀ (i:Nat) (hi:i<fs.length),H (rs[i]'(by rw [fl];exact hi))=some (.lst (rx i))∧Rel H (rx i) fs[i]
 n1:lh≠lf
 n2:∀ r∈rs,r≠lh∧r≠lf
 nd:rs.Nodup
 sz:fs.length≤10000
 f6:∀ w∈fs,w.length≤6
 ch:∀ t,Wd.th t∈ws→0≤t∧t<fs.length
 cf:∀ w∈fs,∀ t,Wd.th t∈w→0≤t∧t<fs.length
def LFo (lh lf:Addr) (rs:List Addr) (b:Addr):Prop:=b=lh∨b=lf∨b∈rs
section
variable {H H':Hp} {lh lf:Addr} {hx:List V} {rs:List Addr} {rx:Nat→List V} {ws:List Wd} {fs:List (List Wd)}
theorem LM.keep (L:LM H lh lf hx rs rx ws fs) (k:∀ b u,LFo lh lf rs b→H b=some u→H' b=some u) (t:dr H H'):LM H' lh lf hx rs rx ws fs :=
 ⟨k _ _ (.inl rfl) L.h,L.hr.keep t,L.n8,k _ _ (.inr (.inl rfl)) L.f,L.fl,fun i hi=>⟨k _ _ (.inr (.inr (List.getElem_mem _))) (L.fr i hi).1,(L.fr i hi).2.keep t⟩,L.n1,L.n2,L.nd,L.sz,L.f6,L.ch,L.cf⟩
theorem LM.same (L:LM H lh lf hx rs rx ws fs) (s:aG H H'):LM H' lh lf hx rs rx ws fs:=L.keep (fun _ _ _ q=>s _ _ q) (dr.of s)
theorem LM.at_ (L:LM H lh lf hx rs rx ws fs) {h:Int} {wd:Wd} (e:wat ws h=some wd):∃ v,atI hx h=some v∧WV H v wd:=by
 obtain ⟨h0,h1,e⟩:=jO e
 have hi:h.toNat<ws.length:=by rw [L.n8];omega
 obtain ⟨v,e1,e2⟩:=L.hr.get hi
 rw [List.getElem?_eq_getElem hi] at e
 cases e
 exact ⟨v,qm h0 e1,e2⟩
theorem LM.IT (L:LM H lh lf hx rs rx ws fs) {h t:Int} (e:wat ws h=some (.th t)):∃ a r,atI hx h=some (.ref a)∧H a=some (.tup [.str "thing",.int t])∧atI (rs.map V.ref) t=some (.ref r)∧r∈rs∧H r=some (.lst (rx t.toNat))∧Rel H (rx t.toNat) (fs.getD t.toNat [])∧0≤t∧t<fs.length∧rs[t.toNat]?=some r:=by
 obtain ⟨v,hv,a,rfl,ha⟩:=L.at_ e
 obtain ⟨t0,t1⟩:=L.ch t (List.mem_of_getElem? (jO e).2.2)
 have hi:t.toNat<fs.length:=by omega
 have hr:t.toNat<rs.length:=by rw [L.fl];exact hi
 obtain ⟨f1,f2⟩:=L.fr t.toNat hi
 have gd:fs.getD t.toNat []=fs[t.toNat]:=by simp [List.getD,hi]
 exact ⟨a,rs[t.toNat],hv,ha,qm t0 (by rw [List.getElem?_map,List.getElem?_eq_getElem hr];rfl),List.getElem_mem hr,f1,by rw [gd];exact f2,t0,t1,List.getElem?_eq_getElem hr⟩
def el (ws:List Wd) (fs:List (List Wd)):Dd→Option Er
 | .store g k _=>match wat ws g with|some (.th t)=>if k≥((fs.getD t.toNat []).length:Int) then some .field else none|_=>some .hand
 | .load _ g k=>match wat ws g with|some (.th t)=>if k≥((fs.getD t.toNat []).length:Int) then some .field else none|_=>some .hand
 | .name _ h=>match wat ws h with|some (.th _)=>none|_=>some .hand
 | .word h _=>match wat ws h with|some (.th _)=>none|_=>some .hand
 | _=>none
def xh (ws:List Wd) (fs:List (List Wd)):Dd→List Wd×List (List Wd)
 | .make h n=>(ws.set h.toNat (.th fs.length),fs++[List.replicate n.toNat .no])
 | .store g k h=>match wat ws g,wat ws h with|some (.th t),some w=>(ws,fs.set t.toNat ((fs.getD t.toNat []).set k.toNat w))|_,_=>(ws,fs)
 | .load h g k=>match wat ws g with|some (.th t)=>(ws.set h.toNat ((fs.getD t.toNat []).getD k.toNat .no),fs)|_=>(ws,fs)
 | .copy h g=>match wat ws g with|some w=>(ws.set h.toNat w,fs)|none=>(ws,fs)
 | .drop h=>(ws.set h.toNat .no,fs)
 | .number h x=>(ws.set h.toNat (.num x),fs)
 | _=>(ws,fs)
theorem WK {l:List Addr} (nd:l.Nodup) {i j:Nat} (hi:i<l.length) (hj:j<l.length) (e:l[i]=l[j]):i=j:=by
 rcases Nat.lt_trichotomy i j with h|h|h
 ·exact absurd e (List.pairwise_iff_getElem.mp nd i j hi hj h)
 ·exact h
 ·exact absurd e.symm (List.pairwise_iff_getElem.mp nd j i hj hi h)
theorem mem_set {α:Type} {l:List α} {i:Nat} {a b:α} (h:b∈l.set i a):b∈l∨b=a:=by
 rcases List.mem_or_eq_of_mem_set h with h|h
 ·exact .inl h
 ·exact .inr h
theorem LM.put (L:LM H lh lf hx rs rx ws fs) {h:Nat} {v:V} {w:Wd} (hv:WV H v w) (c:∀ t,w=.th t→0≤t∧t<fs.length):LM (upd H lh (.lst (hx.set h v))) lh lf (hx.set h v) rs rx (ws.set h w) fs:=by
 have tk:dr H (upd H lh (.lst (hx.set h v))):=dr.set L.h (fun _ z=>nomatch z)
 exact ⟨ag,(L.hr.set hv).keep tk,by rw [List.length_set];exact L.n8,by rw [ae (Ne.symm L.n1)];exact L.f,L.fl,fun i hi=>⟨by rw [ae (L.n2 _ (List.getElem_mem _)).1];exact (L.fr i hi).1,(L.fr i hi).2.keep tk⟩,L.n1,L.n2,L.nd,L.sz,L.f6,fun t m=>(mem_set m).elim (L.ch t) (fun e=>c t e.symm),L.cf⟩
theorem LM.gu (L:LM H lh lf hx rs rx ws fs) {i k:Nat} (hi:i<fs.length) {r:Addr} (er:rs[i]?=some r) {v:V} {w:Wd} (hv:WV H v w) (c:∀ t,w=.th t→0≤t∧t<fs.length) :
  LM (upd H r (.lst ((rx i).set k v))) lh lf hx rs (fun j=>if j=i then (rx i).set k v else rx j) ws (fs.set i ((fs.getD i []).set k w)):=by
 have hr:i<rs.length:=by rw [L.fl];exact hi
 have e1:rs[i]=r:=by rw [List.getElem?_eq_getElem hr] at er;exact Option.some.inj er
 obtain ⟨f1,f2⟩:=L.fr i hi
 rw [e1] at f1
 have gd:fs.getD i []=fs[i]:=by simp [List.getD,hi]
 have tk:dr H (upd H r (.lst ((rx i).set k v))):=dr.set f1 (fun _ z=>nomatch z)
 have nr:=L.n2 r (by rw [←e1];exact List.getElem_mem hr)
 have mm:∀ w'∈fs.set i ((fs.getD i []).set k w),w'∈fs∨w'=(fs.getD i []).set k w:=fun w' m=>mem_set m
 refine ⟨by rw [ae (Ne.symm nr.1)];exact L.h,L.hr.keep tk,L.n8,by rw [ae (Ne.symm nr.2)];exact L.f,by rw [List.length_set];exact L.fl,fun j hj=>?_,L.n1,L.n2,L.nd,by rw [List.length_set];exact L.sz,fun w' m=>?_,fun t m=>by rw [List.length_set];exact L.ch t m,fun w' m t mt=>?_⟩
 ·rw [List.length_set] at hj
  by_cases e:j=i
  ·subst e
   simp only [if_true,List.getElem_set_self]
   exact ⟨by rw [e1];exact ag,by rw [gd];exact (f2.set hv).keep tk⟩
  ·simp only [if_neg e,List.getElem_set_ne (Ne.symm e)]
   refine ⟨?_,(L.fr j hj).2.keep tk⟩
   rw [ae fun z=>e (WK L.nd (by rw [L.fl];exact hj) hr (z.trans e1.symm))]
   exact (L.fr j hj).1
 ·rcases mm w' m with m|rfl
  ·exact L.f6 w' m
  ·rw [List.length_set,gd]
   exact L.f6 _ (List.getElem_mem hi)
 ·rw [List.length_set]
  rcases mm w' m with m|rfl
  ·exact L.cf w' m t mt
  ·rcases mem_set mt with mt|e
   ·rw [gd] at mt
    exact L.cf _ (List.getElem_mem hi) t mt
   ·exact c t e.symm
theorem LM.new (L:LM H lh lf hx rs rx ws fs) {h n:Nat} {v:V} (hv:WV H v (.th fs.length)) {r:Addr} (hr:H r=none) (n6:n≤6) (few:fs.length<10000) :
  LM (upd (upd (upd H lh (.lst (hx.set h v))) r (.lst (List.replicate n .non))) lf (.lst (rs.map V.ref++[.ref r]))) lh lf (hx.set h v) (rs++[r]) (fun j=>if j=fs.length then List.replicate n .non else rx j) (ws.set h (.th fs.length)) (fs++[List.replicate n .no]):=by
 have nl:r≠lh:=Ne.symm (ar L.h hr)
 have nf:r≠lf:=Ne.symm (ar L.f hr)
 have nrs:∀ {b:Addr},b∈rs→b≠r:=fun {b} m=>by
  obtain ⟨i,hi,rfl⟩:=List.getElem_of_mem m
  exact ar (L.fr i (by rw [←L.fl];exact hi)).1 hr
 have t1:dr H (upd H lh (.lst (hx.set h v))):=dr.set L.h (fun _ z=>nomatch z)
 have z2:upd H lh (.lst (hx.set h v)) r=none:=by rw [ae nl];exact hr
 have t2:=t1.trans (dr.of (aG.upd (o:=.lst (List.replicate n .non)) z2))
 have t3:=t2.trans (dr.set (c:=lf) (u:=.lst (rs.map V.ref)) (o:=.lst (rs.map V.ref++[.ref r])) (by rw [ae (Ne.symm nf),ae (Ne.symm L.n1)];exact L.f) (fun _ z=>nomatch z))
 have nz:∀ z∈List.replicate n Wd.no,z=.no:=fun z m=>List.eq_of_mem_replicate m
 refine ⟨by rw [ae L.n1,ae (Ne.symm nl)];exact ag,(L.hr.set hv).keep t3,by rw [List.length_set];exact L.n8,by rw [ag,List.map_append];rfl,by rw [List.length_append,List.length_append,L.fl];rfl,fun i hi=>?_,L.n1,fun b m=>?_,?_,by rw [List.length_append,List.length_singleton];omega,fun w m=>?_,fun t m=>?_,fun w m t mt=>?_⟩
 ·rw [List.length_append,List.length_singleton] at hi
  by_cases e:i=fs.length
  ·subst e
   simp only [if_true]
   rw [List.getElem_append_right (by rw [L.fl];exact Nat.le_refl _),List.getElem_append_right (Nat.le_refl _)]
   simp only [L.fl,Nat.sub_self,List.getElem_cons_zero]
   exact ⟨by rw [ae nf];exact ag,Rel.nil⟩
  ·have hi':i<fs.length:=by omega
   simp only [if_neg e]
   rw [List.getElem_append_left (by rw [L.fl];exact hi'),List.getElem_append_left hi']
   have m:=List.getElem_mem (l:=rs) (show i<rs.length by rw [L.fl];exact hi')
   exact ⟨by rw [ae (L.n2 _ m).2,ae (nrs m),ae (L.n2 _ m).1];exact (L.fr i hi').1,(L.fr i hi').2.keep t3⟩
 ·rcases List.mem_append.mp m with m|m
  ·exact L.n2 b m
  ·rw [List.mem_singleton.mp m]
   exact ⟨nl,nf⟩
 ·rw [List.nodup_append]
  exact ⟨L.nd,List.pairwise_singleton _ _,fun a ma b mb=>by rw [List.mem_singleton.mp mb];exact nrs ma⟩
 ·rcases List.mem_append.mp m with m|m
  ·exact L.f6 w m
  ·rw [List.mem_singleton.mp m,List.length_replicate]
   exact n6
 ·rw [List.length_append,List.length_singleton]
  rcases mem_set m with m|e
  ·have:=L.ch t m;omega
  ·injection e with e
   omega
 ·rw [List.length_append,List.length_singleton]
  rcases List.mem_append.mp m with m|m
  ·have:=L.cf w m t mt;omega
  ·rw [List.mem_singleton.mp m] at mt
   cases nz _ mt
end
structure LFr (lh lf:Addr) (rs:List Addr) (H:Hp) (rs':List Addr) (H':Hp):Prop where
 ext:∀ b u,¬LFo lh lf rs b→H b=some u→H' b=some u
 grow:∀ r∈rs',r∈rs∨H r=none
 all:∀ b u,H b=some u→∃ u',H' b=some u'
 tup:dr H H'
theorem LFr.same {lh lf:Addr} {rs:List Addr} {H H':Hp} (s:aG H H'):LFr lh lf rs H rs H':=⟨fun _ _ _ q=>s _ _ q,fun _ m=>.inl m,fun _ u q=>⟨u,s _ _ q⟩,dr.of s⟩
theorem LFr.set {lh lf:Addr} {rs:List Addr} {H:Hp} {b:Addr} {u o:HO} (f:LFo lh lf rs b) (h:H b=some u) (n:∀ xs,u≠.tup xs):LFr lh lf rs H rs (upd H b o) :=
 ⟨fun c v nf q=>by rw [ae fun e=>nf (by rw [e];exact f)];exact q,fun _ m=>.inl m,fun c v q=>by
  by_cases e:c=b
  ·exact ⟨o,by rw [e];exact ag⟩
  ·exact ⟨v,by rw [ae e];exact q⟩,dr.set h n⟩
theorem LFr.trans {lh lf:Addr} {rs r1 r2:List Addr} {H H1 H2:Hp} (a:LFr lh lf rs H r1 H1) (b:LFr lh lf r1 H1 r2 H2):LFr lh lf rs H r2 H2:=by
 refine ⟨fun c u n q=>b.ext c u (fun f=>?_) (a.ext c u n q),fun r m=>?_,fun c u q=>?_,a.tup.trans b.tup⟩
 ·rcases f with f|f|f
  ·exact n (.inl f)
  ·exact n (.inr (.inl f))
  ·rcases a.grow c f with g|g
   ·exact n (.inr (.inr g))
   ·rw [g] at q;cases q
 ·rcases b.grow r m with g|g
  ·exact a.grow r g
  ·cases q:H r with
   | none=>exact .inr rfl
   | some u=>obtain ⟨u',q'⟩:=a.all r u q;rw [g] at q';cases q'
 ·obtain ⟨u',q'⟩:=a.all c u q
  exact b.all c u' q'
def D5:Sp:=fun vs H Q _=>∃ lh hx ws,∃ h:Int,vs=[.ref lh,.int h]∧H lh=some (.lst hx)∧Rel H hx ws∧ws.length=8∧In8 h∧∀ wd,wat ws h=some wd→Q (.bl (aaL wd)) H
abbrev EH:List Str:=["hands", "h", "value"]
theorem sJ:aA EH ["hands", "h"] (au oS):=⟨rfl,rfl,rfl,by decide +kernel,rfl,by decide +kernel,by decide +kernel⟩
theorem Dk (F:Fun K "_law_thing" "_law_thing" oS D.eD D.jG) (T:Txt K mg D):Ok P w K mg base 1 D.eD D.jG ["hands", "h"] (D5):=by
 refine ⟨?_,F.binds (ps:=["hands", "h"]) fun _ _ _ _ _ _ us hl=>match us,hl with|[_,_],_=>rfl⟩
 refine F.okE sJ (fun vs H Q E h=>?_) (fun cdv A' outer s' H vs Q E hr h=>?_)
 ·obtain ⟨lh,hx,ws,h,rfl,_⟩:=h
  rfl
 ·obtain ⟨lh,hx,ws,h,rfl,hl,hr,n8,h8,k⟩:=h
  refine ⟨_,(PSs.nox (aj (bp (i:=2) sJ.nd rfl (Or.inl rfl) (aJ cD (pv 0) (pv 1) (fun _ _=>rfl)))
   (ai (aX (V6 (xG Fv (pv 2) gS (aU _)) (V5 (xG gK (aJ aF (pv 2) aq (fun _ _=>rfl)) aK (aU _)))))))),?_⟩
  obtain ⟨wd,e,e'⟩:=xm n8 h8
  have hi:h.toNat<ws.length:=by rw [n8];obtain ⟨_,_⟩:=h8;omega
  obtain ⟨v,hv,wv⟩:=hr.get hi
  rw [List.getElem?_eq_getElem hi] at e'
  obtain rfl:ws[h.toNat]=wd:=Option.some.inj e'
  have k:=k _ e
  refine ⟨_,rfl,_,rfl,lh,hx,h,v,rfl,rfl,SqL.of hl,qm h8.1 hv,?_⟩
  obtain ⟨wd,ew⟩:∃ wd,ws[h.toNat]=wd:=⟨_,rfl⟩
  rw [ew] at k wv
  cases wd with
  | no =>
   obtain rfl:v=.non:=wv
   exact ⟨_,rfl,rfl,_,rfl,av (fun h=>by simp at h) (fun _=>k)⟩
  | num n =>
   obtain ⟨t,rfl,ht⟩:=wv
   exact ⟨_,rfl,rfl,_,rfl,av (fun _=>⟨_,rfl,t,_,0,_,rfl,rfl,SqT.of ht,rfl,rfl,k⟩) (fun h=>absurd (by simp) h)⟩
  | th n =>
   obtain ⟨t,rfl,ht⟩:=wv
   exact ⟨_,rfl,rfl,_,rfl,av (fun _=>⟨_,rfl,t,_,0,_,rfl,rfl,SqT.of ht,rfl,rfl,k⟩) (fun h=>absurd (by simp) h)⟩
def Kn:Sp:=fun vs H Q _=>∃ lh lf hx rs rx ws fs q dd,vs=[.ref lh,.ref lf,.ref q]∧LM H lh lf hx rs rx ws fs∧H q=some (.tup (Dd.its dd))∧dd.ok∧∀ H',aG H H'→Q (wdV (el ws fs dd)) H'
abbrev AG:List Str:=["hands", "fields", "deed", "g", "k"]
theorem gq:aA AG ["hands", "fields", "deed"] (au kG):=⟨rfl,rfl,rfl,by decide +kernel,rfl,by decide +kernel,by decide +kernel⟩
theorem yo (F:Fun K "_law_word_due" "_law_word_due" kG D.cI D.gP) (T:Txt K mg D)
  (fN:Ok P w K mg base 1 D.eD D.jG ["hands", "h"] (D5)):Ok P w K mg base 2 D.cI D.gP ["hands", "fields", "deed"] (Kn):=by
 refine ⟨?_,F.binds (ps:=["hands", "fields", "deed"]) fun _ _ _ _ _ _ us hl=>match us,hl with|[_,_,_],_=>rfl⟩
 refine F.okE gq (fun vs H Q E h=>?_) (fun cdv A' outer s' H vs Q E hr h=>?_)
 ·obtain ⟨lh,lf,hx,rs,rx,ws,fs,q,dd,rfl,_⟩:=h
  rfl
 ·obtain ⟨lh,lf,hx,rs,rx,ws,fs,q,dd,rfl,M,hq,hok,k⟩:=h
  refine ⟨_,(PSs.nox (aj (bB (aI zK (aJ aF (pv 2) aq (fun _ _=>rfl)) (fg (ab aK (ab aK ao))) (by with_unfolding_all rfl))
    (aj (bp (i:=3) gq.nd rfl (Or.inl rfl) (aJ aF (pv 2) aq (fun _ _=>rfl)))
    (aj (bB (aI gK (aJ aF (pv 2) aq (fun _ _=>rfl)) aK (aU _))
     (ai (bp (i:=3) gq.nd rfl (Or.inl rfl) (aJ aF (pv 2) aq (fun _ _=>rfl))))
     aP)
    (aj (bB (lV (oB (br fN.g (hr.mono (by decide)) rfl T.oZ T.jI fN.b .nil iT (ab (pv 0) (ab (pv 3) ao)))))
     (ai (aX aK))
     aP)
    (aj (bp (i:=4) gq.nd rfl (Or.inl rfl) (aJ aF (pv 2) aq (fun _ _=>rfl)))
    (aj (bB (aI gK (aJ aF (pv 2) aq (fun _ _=>rfl)) aK (aU _))
     (ai (bp (i:=4) gq.nd rfl (Or.inl rfl) (aJ aF (pv 2) aq (fun _ _=>rfl))))
     aP)
    (ai (bB (aI Rr (pv 4) (fi dN rfl T.ql PyProof.Rows.Boot.«len» (ab (aJ cD (pv 1) (aJ aF (aJ cD (pv 0) (pv 3) (fun _ _=>rfl)) aq (fun _ _=>rfl)) (fun _ _=>rfl)) ao)) (aU _))
     (ai (aX aK))
     aP)))))))
    aP)
   (aj (bB (PW.pt (pw_and (aI gK (aJ aF (pv 2) aq (fun _ _=>rfl)) aK (aU _)) (pw_and1 (lV (oB (br fN.g (hr.mono (by decide)) rfl T.oZ T.jI fN.b .nil iT (ab (pv 0) (ab (aJ aF (pv 2) aq (fun _ _=>rfl)) ao))))))))
    (ai (aX aK))
    aP)
   (aj (bB (PW.pt (pw_and (aI gK (aJ aF (pv 2) aq (fun _ _=>rfl)) aK (aU _)) (pw_and1 (lV (oB (br fN.g (hr.mono (by decide)) rfl T.oZ T.jI fN.b .nil iT (ab (pv 0) (ab (aJ aF (pv 2) aq (fun _ _=>rfl)) ao))))))))
    (ai (aX aK))
    aP)
   (ai (aX gS)))))),?_⟩
  cases dd with
  | make h n =>
   replace hq:H q=some (.tup [.str "make",.int h,.int n]):=hq
   refine ⟨_,rfl,q,_,0,.str "make",rfl,rfl,SqT.of hq,rfl,by show 2≤sizeLine;decide,fun tp htp=>⟨tp,_,rfl,.inr (SqT.of ag),rfl,rfl,_,rfl,?_⟩⟩
   have s1:=aG.upd (o:=.tup [V.str "store",V.str "load"]) htp
   replace hq:=s1 _ _ hq
   replace M:=M.same s1
   exact av (fun z=>absurd z (by decide +kernel)) (fun _=>⟨_,rfl,q,_,0,.str "make",rfl,rfl,SqT.of hq,rfl,rfl,_,rfl,av (fun z=>absurd z (by decide +kernel)) (fun _=>fY ⟨_,rfl,q,_,0,.str "make",rfl,rfl,SqT.of hq,rfl,rfl,_,rfl,av (fun z=>absurd z (by decide +kernel)) (fun _=>fY (k _ s1))⟩)⟩)
  | store g kk h =>
   replace hq:H q=some (.tup [.str "store",.int g,.int kk,.int h]):=hq
   refine ⟨_,rfl,q,_,0,.str "store",rfl,rfl,SqT.of hq,rfl,by show 2≤sizeLine;decide,fun tp htp=>⟨tp,_,rfl,.inr (SqT.of ag),rfl,rfl,_,rfl,?_⟩⟩
   have s1:=aG.upd (o:=.tup [V.str "store",V.str "load"]) htp
   replace hq:=s1 _ _ hq
   replace M:=M.same s1
   obtain ⟨⟨h0,h1⟩,⟨g0,g1⟩,k0,k1⟩:In8 h∧In8 g∧0≤kk∧kk≤6:=⟨hok.2.2.2,hok.1,hok.2.1,hok.2.2.1⟩
   refine av (fun _=>?_) (fun z=>absurd (by decide +kernel) z)
   refine ⟨_,rfl,q,_,1,.int g,rfl,rfl,SqT.of hq,rfl,?_⟩
   refine ⟨_,rfl,q,_,0,.str "store",rfl,rfl,SqT.of hq,rfl,rfl,_,rfl,av (fun z=>absurd z (by decide +kernel)) (fun _=>?_)⟩
   refine ⟨_,rfl,_,rfl,lh,hx,ws,g,rfl,M.h,M.hr,M.n8,⟨g0,g1⟩,fun wd e=>?_⟩
   cases wd with
   | no =>
    rw [show el ws fs (.store g kk h)=some .hand by simp only [el,e]] at k
    exact ⟨_,rfl,om (k _ s1)⟩
   | num z =>
    rw [show el ws fs (.store g kk h)=some .hand by simp only [el,e]] at k
    exact ⟨_,rfl,om (k _ s1)⟩
   | th t =>
    refine ⟨_,rfl,fY ?_⟩
    refine ⟨_,rfl,q,_,2,.int kk,rfl,rfl,SqT.of hq,rfl,?_⟩
    refine ⟨_,rfl,q,_,0,.str "store",rfl,rfl,SqT.of hq,rfl,rfl,_,rfl,av (fun z=>absurd z (by decide +kernel)) (fun _=>?_)⟩
    obtain ⟨a,r,ea,ha,er,_,hr,rr,t0,t1,_⟩:=M.IT e
    refine ⟨_,rfl,_,rfl,_,rfl,_,rfl,lh,hx,g,.ref a,rfl,rfl,SqL.of M.h,ea,a,_,1,.int t,rfl,rfl,SqT.of ha,rfl,lf,_,t,.ref r,rfl,rfl,SqL.of M.f,er,r,_,rfl,.inl (SqL.of hr),kk,_,rfl,rfl,_,rfl,?_⟩
    rw [rr.1]
    by_cases c:kk≥((fs.getD t.toNat []).length:Int)
    ·rw [show el ws fs (.store g kk h)=some .field by simp only [el,e,if_pos c]] at k
     exact av (fun _=>k _ s1) (fun z=>absurd (decide_eq_true c) z)
    ·rw [show el ws fs (.store g kk h)=none by simp only [el,e,if_neg c]] at k
     exact av (fun z=>absurd (of_decide_eq_true z) c) (fun _=>⟨_,rfl,q,_,0,.str "store",rfl,rfl,SqT.of hq,rfl,rfl,_,rfl,av (fun z=>absurd z (by decide +kernel)) (fun _=>fY ⟨_,rfl,q,_,0,.str "store",rfl,rfl,SqT.of hq,rfl,rfl,_,rfl,av (fun z=>absurd z (by decide +kernel)) (fun _=>fY (k _ s1))⟩)⟩)
  | load h g kk =>
   replace hq:H q=some (.tup [.str "load",.int h,.int g,.int kk]):=hq
   refine ⟨_,rfl,q,_,0,.str "load",rfl,rfl,SqT.of hq,rfl,by show 2≤sizeLine;decide,fun tp htp=>⟨tp,_,rfl,.inr (SqT.of ag),rfl,rfl,_,rfl,?_⟩⟩
   have s1:=aG.upd (o:=.tup [V.str "store",V.str "load"]) htp
   replace hq:=s1 _ _ hq
   replace M:=M.same s1
   obtain ⟨⟨h0,h1⟩,⟨g0,g1⟩,k0,k1⟩:In8 h∧In8 g∧0≤kk∧kk≤6:=hok
   refine av (fun _=>?_) (fun z=>absurd (by decide +kernel) z)
   refine ⟨_,rfl,q,_,1,.int h,rfl,rfl,SqT.of hq,rfl,?_⟩
   refine ⟨_,rfl,q,_,0,.str "load",rfl,rfl,SqT.of hq,rfl,rfl,_,rfl,av (fun _=>⟨_,rfl,q,_,2,.int g,rfl,rfl,SqT.of hq,rfl,?_⟩) (fun z=>absurd (by decide +kernel) z)⟩
   refine ⟨_,rfl,_,rfl,lh,hx,ws,g,rfl,M.h,M.hr,M.n8,⟨g0,g1⟩,fun wd e=>?_⟩
   cases wd with
   | no =>
    rw [show el ws fs (.load h g kk)=some .hand by simp only [el,e]] at k
    exact ⟨_,rfl,om (k _ s1)⟩
   | num z =>
    rw [show el ws fs (.load h g kk)=some .hand by simp only [el,e]] at k
    exact ⟨_,rfl,om (k _ s1)⟩
   | th t =>
    refine ⟨_,rfl,fY ?_⟩
    refine ⟨_,rfl,q,_,2,.int g,rfl,rfl,SqT.of hq,rfl,?_⟩
    refine ⟨_,rfl,q,_,0,.str "load",rfl,rfl,SqT.of hq,rfl,rfl,_,rfl,av (fun _=>⟨_,rfl,q,_,3,.int kk,rfl,rfl,SqT.of hq,rfl,?_⟩) (fun z=>absurd (by decide +kernel) z)⟩
    obtain ⟨a,r,ea,ha,er,_,hr,rr,t0,t1,_⟩:=M.IT e
    refine ⟨_,rfl,_,rfl,_,rfl,_,rfl,lh,hx,g,.ref a,rfl,rfl,SqL.of M.h,ea,a,_,1,.int t,rfl,rfl,SqT.of ha,rfl,lf,_,t,.ref r,rfl,rfl,SqL.of M.f,er,r,_,rfl,.inl (SqL.of hr),kk,_,rfl,rfl,_,rfl,?_⟩
    rw [rr.1]
    by_cases c:kk≥((fs.getD t.toNat []).length:Int)
    ·rw [show el ws fs (.load h g kk)=some .field by simp only [el,e,if_pos c]] at k
     exact av (fun _=>k _ s1) (fun z=>absurd (decide_eq_true c) z)
    ·rw [show el ws fs (.load h g kk)=none by simp only [el,e,if_neg c]] at k
     exact av (fun z=>absurd (of_decide_eq_true z) c) (fun _=>⟨_,rfl,q,_,0,.str "load",rfl,rfl,SqT.of hq,rfl,rfl,_,rfl,av (fun z=>absurd z (by decide +kernel)) (fun _=>fY ⟨_,rfl,q,_,0,.str "load",rfl,rfl,SqT.of hq,rfl,rfl,_,rfl,av (fun z=>absurd z (by decide +kernel)) (fun _=>fY (k _ s1))⟩)⟩)
  | copy h g =>
   replace hq:H q=some (.tup [.str "copy",.int h,.int g]):=hq
   refine ⟨_,rfl,q,_,0,.str "copy",rfl,rfl,SqT.of hq,rfl,by show 2≤sizeLine;decide,fun tp htp=>⟨tp,_,rfl,.inr (SqT.of ag),rfl,rfl,_,rfl,?_⟩⟩
   have s1:=aG.upd (o:=.tup [V.str "store",V.str "load"]) htp
   replace hq:=s1 _ _ hq
   replace M:=M.same s1
   exact av (fun z=>absurd z (by decide +kernel)) (fun _=>⟨_,rfl,q,_,0,.str "copy",rfl,rfl,SqT.of hq,rfl,rfl,_,rfl,av (fun z=>absurd z (by decide +kernel)) (fun _=>fY ⟨_,rfl,q,_,0,.str "copy",rfl,rfl,SqT.of hq,rfl,rfl,_,rfl,av (fun z=>absurd z (by decide +kernel)) (fun _=>fY (k _ s1))⟩)⟩)
  | drop h =>
   replace hq:H q=some (.tup [.str "drop",.int h]):=hq
   refine ⟨_,rfl,q,_,0,.str "drop",rfl,rfl,SqT.of hq,rfl,by show 2≤sizeLine;decide,fun tp htp=>⟨tp,_,rfl,.inr (SqT.of ag),rfl,rfl,_,rfl,?_⟩⟩
   have s1:=aG.upd (o:=.tup [V.str "store",V.str "load"]) htp
   replace hq:=s1 _ _ hq
   replace M:=M.same s1
   exact av (fun z=>absurd z (by decide +kernel)) (fun _=>⟨_,rfl,q,_,0,.str "drop",rfl,rfl,SqT.of hq,rfl,rfl,_,rfl,av (fun z=>absurd z (by decide +kernel)) (fun _=>fY ⟨_,rfl,q,_,0,.str "drop",rfl,rfl,SqT.of hq,rfl,rfl,_,rfl,av (fun z=>absurd z (by decide +kernel)) (fun _=>fY (k _ s1))⟩)⟩)
  | number h z =>
   replace hq:H q=some (.tup [.str "number",.int h,.int z]):=hq
   refine ⟨_,rfl,q,_,0,.str "number",rfl,rfl,SqT.of hq,rfl,by show 2≤sizeLine;decide,fun tp htp=>⟨tp,_,rfl,.inr (SqT.of ag),rfl,rfl,_,rfl,?_⟩⟩
   have s1:=aG.upd (o:=.tup [V.str "store",V.str "load"]) htp
   replace hq:=s1 _ _ hq
   replace M:=M.same s1
   exact av (fun z=>absurd z (by decide +kernel)) (fun _=>⟨_,rfl,q,_,0,.str "number",rfl,rfl,SqT.of hq,rfl,rfl,_,rfl,av (fun z=>absurd z (by decide +kernel)) (fun _=>fY ⟨_,rfl,q,_,0,.str "number",rfl,rfl,SqT.of hq,rfl,rfl,_,rfl,av (fun z=>absurd z (by decide +kernel)) (fun _=>fY (k _ s1))⟩)⟩)
  | name w h =>
   replace hq:H q=some (.tup [.str "name",.int w,.int h]):=hq
   refine ⟨_,rfl,q,_,0,.str "name",rfl,rfl,SqT.of hq,rfl,by show 2≤sizeLine;decide,fun tp htp=>⟨tp,_,rfl,.inr (SqT.of ag),rfl,rfl,_,rfl,?_⟩⟩
   have s1:=aG.upd (o:=.tup [V.str "store",V.str "load"]) htp
   replace hq:=s1 _ _ hq
   replace M:=M.same s1
   refine av (fun z=>absurd z (by decide +kernel)) (fun _=>?_)
   refine ⟨_,rfl,q,_,0,.str "name",rfl,rfl,SqT.of hq,rfl,rfl,_,rfl,av (fun _=>⟨_,rfl,_,rfl,q,_,2,.int h,rfl,rfl,SqT.of hq,rfl,lh,hx,ws,h,rfl,M.h,M.hr,M.n8,hok.2,fun wd e=>?_⟩) (fun z=>absurd (by decide +kernel) z)⟩
   cases wd with
   | no =>
    rw [show el ws fs (.name w h)=some .hand by simp only [el,e]] at k
    exact ⟨_,rfl,om (k _ s1)⟩
   | num z =>
    rw [show el ws fs (.name w h)=some .hand by simp only [el,e]] at k
    exact ⟨_,rfl,om (k _ s1)⟩
   | th t =>
    rw [show el ws fs (.name w h)=none by simp only [el,e]] at k
    exact ⟨_,rfl,fY (⟨_,rfl,q,_,0,.str "name",rfl,rfl,SqT.of hq,rfl,rfl,_,rfl,av (fun z=>absurd z (by decide +kernel)) (fun _=>fY (k _ s1))⟩)⟩
  | read h w =>
   replace hq:H q=some (.tup [.str "read",.int h,.int w]):=hq
   refine ⟨_,rfl,q,_,0,.str "read",rfl,rfl,SqT.of hq,rfl,by show 2≤sizeLine;decide,fun tp htp=>⟨tp,_,rfl,.inr (SqT.of ag),rfl,rfl,_,rfl,?_⟩⟩
   have s1:=aG.upd (o:=.tup [V.str "store",V.str "load"]) htp
   replace hq:=s1 _ _ hq
   replace M:=M.same s1
   exact av (fun z=>absurd z (by decide +kernel)) (fun _=>⟨_,rfl,q,_,0,.str "read",rfl,rfl,SqT.of hq,rfl,rfl,_,rfl,av (fun z=>absurd z (by decide +kernel)) (fun _=>fY ⟨_,rfl,q,_,0,.str "read",rfl,rfl,SqT.of hq,rfl,rfl,_,rfl,av (fun z=>absurd z (by decide +kernel)) (fun _=>fY (k _ s1))⟩)⟩)
  | word h z =>
   replace hq:H q=some (.tup [.str "word",.int h,.int z]):=hq
   refine ⟨_,rfl,q,_,0,.str "word",rfl,rfl,SqT.of hq,rfl,by show 2≤sizeLine;decide,fun tp htp=>⟨tp,_,rfl,.inr (SqT.of ag),rfl,rfl,_,rfl,?_⟩⟩
   have s1:=aG.upd (o:=.tup [V.str "store",V.str "load"]) htp
   replace hq:=s1 _ _ hq
   replace M:=M.same s1
   refine av (fun z=>absurd z (by decide +kernel)) (fun _=>?_)
   refine ⟨_,rfl,q,_,0,.str "word",rfl,rfl,SqT.of hq,rfl,rfl,_,rfl,av (fun z=>absurd z (by decide +kernel)) (fun _=>fY ?_)⟩
   refine ⟨_,rfl,q,_,0,.str "word",rfl,rfl,SqT.of hq,rfl,rfl,_,rfl,av (fun _=>⟨_,rfl,_,rfl,q,_,1,.int h,rfl,rfl,SqT.of hq,rfl,lh,hx,ws,h,rfl,M.h,M.hr,M.n8,hok.1,fun wd e=>?_⟩) (fun z=>absurd (by decide +kernel) z)⟩
   cases wd with
   | no =>
    rw [show el ws fs (.word h z)=some .hand by simp only [el,e]] at k
    exact ⟨_,rfl,om (k _ s1)⟩
   | num z' =>
    rw [show el ws fs (.word h z)=some .hand by simp only [el,e]] at k
    exact ⟨_,rfl,om (k _ s1)⟩
   | th t =>
    rw [show el ws fs (.word h z)=none by simp only [el,e]] at k
    exact ⟨_,rfl,fY (k _ s1)⟩
  | small  =>
   replace hq:H q=some (.tup [.str "small"]):=hq
   refine ⟨_,rfl,q,_,0,.str "small",rfl,rfl,SqT.of hq,rfl,by show 2≤sizeLine;decide,fun tp htp=>⟨tp,_,rfl,.inr (SqT.of ag),rfl,rfl,_,rfl,?_⟩⟩
   have s1:=aG.upd (o:=.tup [V.str "store",V.str "load"]) htp
   replace hq:=s1 _ _ hq
   replace M:=M.same s1
   exact av (fun z=>absurd z (by decide +kernel)) (fun _=>⟨_,rfl,q,_,0,.str "small",rfl,rfl,SqT.of hq,rfl,rfl,_,rfl,av (fun z=>absurd z (by decide +kernel)) (fun _=>fY ⟨_,rfl,q,_,0,.str "small",rfl,rfl,SqT.of hq,rfl,rfl,_,rfl,av (fun z=>absurd z (by decide +kernel)) (fun _=>fY (k _ s1))⟩)⟩)
  | turn  =>
   replace hq:H q=some (.tup [.str "turn"]):=hq
   refine ⟨_,rfl,q,_,0,.str "turn",rfl,rfl,SqT.of hq,rfl,by show 2≤sizeLine;decide,fun tp htp=>⟨tp,_,rfl,.inr (SqT.of ag),rfl,rfl,_,rfl,?_⟩⟩
   have s1:=aG.upd (o:=.tup [V.str "store",V.str "load"]) htp
   replace hq:=s1 _ _ hq
   replace M:=M.same s1
   exact av (fun z=>absurd z (by decide +kernel)) (fun _=>⟨_,rfl,q,_,0,.str "turn",rfl,rfl,SqT.of hq,rfl,rfl,_,rfl,av (fun z=>absurd z (by decide +kernel)) (fun _=>fY ⟨_,rfl,q,_,0,.str "turn",rfl,rfl,SqT.of hq,rfl,rfl,_,rfl,av (fun z=>absurd z (by decide +kernel)) (fun _=>fY (k _ s1))⟩)⟩)
theorem RX {α:Type} {l:List α} {i:Nat} {d:α} (h:i<l.length):l.getD i d=l[i]:=by rw [List.getD_eq_getElem?_getD,List.getElem?_eq_getElem h];rfl
theorem D6 {ws:List Wd} {fs:List (List Wd)} {g k h:Int} (e:el ws fs (.store g k h)=none):∃ t,wat ws g=some (.th t)∧k<((fs.getD t.toNat []).length:Int):=by
 simp only [el] at e
 cases q:wat ws g with
 | none=>rw [q] at e;cases e
 | some wd =>
  rw [q] at e
  cases wd with
  | no=>cases e
  | num n=>cases e
  | th t =>
   simp only at e
   by_cases c:k≥((fs.getD t.toNat []).length:Int)
   ·rw [if_pos c] at e;cases e
   ·exact ⟨t,rfl,by omega⟩
theorem Mo {ws:List Wd} {fs:List (List Wd)} {g k h:Int} (e:el ws fs (.load h g k)=none):∃ t,wat ws g=some (.th t)∧k<((fs.getD t.toNat []).length:Int):=D6 (h:=h) e
theorem RY {ws:List Wd} {fs:List (List Wd)} {g:Int} {w:Wd} (ch:∀ t,Wd.th t∈ws→0≤t∧t<fs.length) (e:wat ws g=some w):∀ t,w=.th t→0≤t∧t<(fs.length:Int):=fun t z=>ch t (by rw [←z];exact List.mem_of_getElem? (jO e).2.2)
theorem LM.ix {H:Hp} {lh lf:Addr} {hx:List V} {rs:List Addr} {rx:Nat→List V} {ws:List Wd} {fs:List (List Wd)} (L:LM H lh lf hx rs rx ws fs) {h:Int} (g:In8 h):ixN hx.length h=some h.toNat:=IK g.1 (by rw [L.hr.1,L.n8];exact g.2)
def M4:Sp:=fun vs H Q _=>∃ lh lf hx rs rx ws fs q dd,vs=[.ref lh,.ref lf,.ref q]∧LM H lh lf hx rs rx ws fs∧H q=some (.tup (Dd.its dd))∧dd.ok∧el ws fs dd=none∧fs.length<10000∧∀ hx' rs' rx' H',LM H' lh lf hx' rs' rx' (xh ws fs dd).1 (xh ws fs dd).2→LFr lh lf rs H rs' H'→Q .non H'
theorem Mp {H1:Hp} {b p:Addr} {u o:HO} (h:H1 b=some u) (hp:upd H1 b o p=none):H1 p=none:=by
 by_cases e:p=b
 ·rw [e,ag] at hp;cases hp
 ·rw [ae e] at hp;exact hp
abbrev AH:List Str:=["hands", "fields", "deed"]
theorem yp:aA AH ["hands", "fields", "deed"] (au kH):=⟨rfl,rfl,rfl,by decide +kernel,rfl,by decide +kernel,by decide +kernel⟩
theorem yq (F:Fun K "_law_followed" "_law_followed" kH D.cJ D.gQ) (T:Txt K mg D):Ok P w K mg base 1 D.cJ D.gQ ["hands", "fields", "deed"] (M4):=by
 refine ⟨?_,F.binds (ps:=["hands", "fields", "deed"]) fun _ _ _ _ _ _ us hl=>match us,hl with|[_,_,_],_=>rfl⟩
 refine F.okE yp (fun vs H Q E h=>?_) (fun cdv A' outer s' H vs Q E hr h=>?_)
 ·obtain ⟨lh,lf,hx,rs,rx,ws,fs,q,dd,rfl,_⟩:=h
  rfl
 ·obtain ⟨lh,lf,hx,rs,rx,ws,fs,q,dd,rfl,M,hq,hok,hdu,LF,k⟩:=h
  refine ⟨_,(PSs.nox (aj (bB (aI gK (aJ aF (pv 2) aq (fun _ _=>rfl)) aK (aU _))
    (aj (nA (fg (ab aK (ab (fi dN rfl T.ql PyProof.Rows.Boot.«len» (ab (pv 1) ao)) ao))) (ny (pv 0) (aJ aF (pv 2) aq (fun _ _=>rfl)) set_list))
    (ai (aM (Ij PySem.F.plainAttrs_list PySem.F.slot_list_append PySem.F.type_list_append oj (pv 1) (ab (dD CS (jM (ab gS ao)) (aJ aF (pv 2) aq (fun _ _=>rfl))) ao)))))
    aP)
   (aj (bB (aI gK (aJ aF (pv 2) aq (fun _ _=>rfl)) aK (aU _))
    (ai (nA (aJ cD (pv 0) (aJ aF (pv 2) aq (fun _ _=>rfl)) (fun _ _=>rfl)) (ny (aJ cD (pv 1) (aJ aF (aJ cD (pv 0) (aJ aF (pv 2) aq (fun _ _=>rfl)) (fun _ _=>rfl)) aq (fun _ _=>rfl)) (fun _ _=>rfl)) (aJ aF (pv 2) aq (fun _ _=>rfl)) set_list)))
    aP)
   (aj (bB (aI gK (aJ aF (pv 2) aq (fun _ _=>rfl)) aK (aU _))
    (ai (nA (aJ cD (aJ cD (pv 1) (aJ aF (aJ cD (pv 0) (aJ aF (pv 2) aq (fun _ _=>rfl)) (fun _ _=>rfl)) aq (fun _ _=>rfl)) (fun _ _=>rfl)) (aJ aF (pv 2) aq (fun _ _=>rfl)) (fun _ _=>rfl)) (ny (pv 0) (aJ aF (pv 2) aq (fun _ _=>rfl)) set_list)))
    aP)
   (aj (bB (aI gK (aJ aF (pv 2) aq (fun _ _=>rfl)) aK (aU _))
    (ai (nA (aJ cD (pv 0) (aJ aF (pv 2) aq (fun _ _=>rfl)) (fun _ _=>rfl)) (ny (pv 0) (aJ aF (pv 2) aq (fun _ _=>rfl)) set_list)))
    aP)
   (aj (bB (aI gK (aJ aF (pv 2) aq (fun _ _=>rfl)) aK (aU _))
    (ai (nA gS (ny (pv 0) (aJ aF (pv 2) aq (fun _ _=>rfl)) set_list)))
    aP)
   (ai (bB (aI gK (aJ aF (pv 2) aq (fun _ _=>rfl)) aK (aU _))
    (ai (nA (fg (ab aK (ab (aJ aF (pv 2) aq (fun _ _=>rfl)) ao))) (ny (pv 0) (aJ aF (pv 2) aq (fun _ _=>rfl)) set_list)))
    aP)))))))),?_⟩
  have DJ:∀ {H1:Hp} {b:Addr} {xs:List V} {o:HO} {ys:List V},H1 q=some (.tup ys)→H1 b=some (.lst xs)→upd H1 b o q=some (.tup ys):=fun h1 h2=>by rw [ae (aw h1 h2 (by intro z;cases z))];exact h1
  cases dd with
  | make h n =>
   replace hq:H q=some (.tup [.str "make",.int h,.int n]):=hq
   refine ⟨_,rfl,q,_,0,.str "make",rfl,rfl,SqT.of hq,rfl,rfl,_,rfl,av (fun _=>?_) (fun z=>absurd (by decide +kernel) z)⟩
   obtain ⟨hh,n0,n6⟩:=hok
   refine ⟨_,rfl,lf,_,rfl,.inl (SqL.of M.f),by show 2≤sizeLine;decide,fun t ht=>?_⟩
   have ln:((rs.map V.ref).length:Int)=fs.length:=by rw [List.length_map,M.fl]
   rw [ln]
   have s1:=aG.upd (o:=.tup [V.str "thing",V.int fs.length]) ht
   have M1:=M.same s1
   have hq0:=s1 _ _ hq
   refine ⟨_,rfl,_,rfl,q,_,1,.int h,rfl,rfl,SqT.of hq0,rfl,lh,hx,h,h.toNat,rfl,rfl,M1.h,M1.ix hh,?_⟩
   have hq1:=DJ (o:=.lst (hx.set h.toNat (.ref t))) hq0 M1.h
   obtain ⟨H1,e1⟩:∃ H1,upd H t (.tup [V.str "thing",V.int fs.length])=H1:=⟨_,rfl⟩
   have ht1:H1 t=some (.tup [V.str "thing",V.int fs.length]):=by rw [←e1];exact ag
   rw [e1] at s1 M1 hq0 hq1 ⊢
   have f2:upd H1 lh (.lst (hx.set h.toNat (.ref t))) lf=some (.lst (rs.map V.ref)):=by rw [ae (Ne.symm M1.n1)];exact M1.f
   refine ⟨_,rfl,.inl ⟨rfl,_,SqL.of f2⟩,by show 1≤sizeLine;decide,fun p hp=>?_⟩
   have s2:=aG.upd (o:=.lst [V.non]) hp
   have hq2:=s2 _ _ hq1
   have hp1:H1 p=none:=Mp M1.h hp
   have s3:aG H1 (upd H1 p (.lst [V.non])):=aG.upd hp1
   have M3:=M1.same s3
   have npl:p≠lh:=fun e=>by rw [e,ag] at hp;cases hp
   have sw:∀ {o o':HO},upd (upd H1 lh o) p o'=upd (upd H1 p o') lh o:=fun {o o'}=>by
    funext b
    unfold upd
    by_cases c1:b=p
    ·subst c1;rw [if_pos rfl,if_neg npl,if_pos rfl]
    ·rw [if_neg c1];by_cases c2:b=lh
     ·rw [if_pos c2,if_pos c2]
     ·rw [if_neg c2,if_neg c2,if_neg c1]
   refine ⟨_,rfl,q,_,2,.int n,rfl,rfl,SqT.of hq2,rfl,p,n,_,rfl,rfl,ag,by omega,by omega,xn (by show 1*n.toNat≤20000;omega),fun r hr=>?_⟩
   rw [Ka]
   have hq3:=aG.upd (o:=.lst (List.replicate n.toNat V.non)) hr _ _ hq2
   have f3:=aG.upd (o:=.lst (List.replicate n.toNat V.non)) hr _ _ (s2 _ _ f2)
   refine ⟨lf,_,_,rfl,rfl,f3,qt (by rw [List.length_map,M.fl];omega),?_⟩
   have hq4:=DJ (o:=.lst (rs.map V.ref++[.ref r])) hq3 f3
   have hr3:upd H1 p (.lst [V.non]) r=none:=by
    rw [sw] at hr
    by_cases c:r=lh
    ·rw [c,ag] at hr;cases hr
    ·rw [ae c] at hr;exact hr
   have N:=M3.new (h:=h.toNat) (n:=n.toNat) (v:=.ref t) ⟨t,rfl,s3 _ _ ht1⟩ hr3 (by omega) LF
   rw [←sw] at N
   have hrH:H r=none:=aG.none s1 (aG.none s3 hr3)
   have fr:LFr lh lf rs H (rs++[r]) (upd (upd (upd (upd H1 lh (.lst (hx.set h.toNat (.ref t)))) p (.lst [V.non])) r (.lst (List.replicate n.toNat V.non))) lf (.lst (rs.map V.ref++[.ref r]))):=by
    have q1:=((LFr.same (lh:=lh) (lf:=lf) (rs:=rs) s1).trans (LFr.set (o:=.lst (hx.set h.toNat (.ref t))) (.inl rfl) M1.h (fun _ z=>nomatch z))).trans (LFr.same s2)
    have q2:=(q1.trans (LFr.same (aG.upd (o:=.lst (List.replicate n.toNat V.non)) hr))).trans (LFr.set (o:=.lst (rs.map V.ref++[.ref r])) (.inr (.inl rfl)) f3 (fun _ z=>nomatch z))
    exact ⟨q2.ext,fun b m=>(List.mem_append.mp m).elim .inl (fun m=>.inr (by rw [List.mem_singleton.mp m];exact hrH)),q2.all,q2.tup⟩
   exact ⟨_,rfl,q,_,0,.str "make",rfl,rfl,SqT.of hq4,rfl,rfl,_,rfl,av (fun z=>absurd z (by decide +kernel)) (fun _=>⟨_,rfl,q,_,0,.str "make",rfl,rfl,SqT.of hq4,rfl,rfl,_,rfl,av (fun z=>absurd z (by decide +kernel)) (fun _=>⟨_,rfl,q,_,0,.str "make",rfl,rfl,SqT.of hq4,rfl,rfl,_,rfl,av (fun z=>absurd z (by decide +kernel)) (fun _=>⟨_,rfl,q,_,0,.str "make",rfl,rfl,SqT.of hq4,rfl,rfl,_,rfl,av (fun z=>absurd z (by decide +kernel)) (fun _=>⟨_,rfl,q,_,0,.str "make",rfl,rfl,SqT.of hq4,rfl,rfl,_,rfl,av (fun z=>absurd z (by decide +kernel)) (fun _=>k _ _ _ _ N fr)⟩)⟩)⟩)⟩)⟩
  | store g kk h =>
   replace hq:H q=some (.tup [.str "store",.int g,.int kk,.int h]):=hq
   refine ⟨_,rfl,q,_,0,.str "store",rfl,rfl,SqT.of hq,rfl,rfl,_,rfl,av (fun z=>absurd z (by decide +kernel)) (fun _=>?_)⟩
   refine ⟨_,rfl,q,_,0,.str "store",rfl,rfl,SqT.of hq,rfl,rfl,_,rfl,av (fun _=>?_) (fun z=>absurd (by decide +kernel) z)⟩
   obtain ⟨hg,k0,k1,hh⟩:=hok
   obtain ⟨t,e,kt⟩:=D6 (h:=h) hdu
   obtain ⟨w,e2,_⟩:=xm M.n8 hh
   obtain ⟨v,ev,wv⟩:=M.at_ e2
   obtain ⟨a,r,ea,ha,er,mr,hr,rr,t0,t1,er2⟩:=M.IT e
   rw [show xh ws fs (.store g kk h)=(ws,fs.set t.toNat ((fs.getD t.toNat []).set kk.toNat w)) by simp only [xh,e,e2]] at k
   refine ⟨_,rfl,_,rfl,q,_,3,.int h,rfl,rfl,SqT.of hq,rfl,lh,hx,h,v,rfl,rfl,SqL.of M.h,ev,_,rfl,_,rfl,_,rfl,q,_,1,.int g,rfl,rfl,SqT.of hq,rfl,lh,hx,g,.ref a,rfl,rfl,SqL.of M.h,ea,a,_,1,.int t,rfl,rfl,SqT.of ha,rfl,lf,_,t,.ref r,rfl,rfl,SqL.of M.f,er,_,rfl,q,_,2,.int kk,rfl,rfl,SqT.of hq,rfl,r,_,kk,kk.toNat,rfl,rfl,hr,IK k0 (by rw [rr.1];exact kt),?_⟩
   have hq1:=DJ (o:=.lst ((rx t.toNat).set kk.toNat v)) hq hr
   exact ⟨_,rfl,q,_,0,.str "store",rfl,rfl,SqT.of hq1,rfl,rfl,_,rfl,av (fun z=>absurd z (by decide +kernel)) (fun _=>⟨_,rfl,q,_,0,.str "store",rfl,rfl,SqT.of hq1,rfl,rfl,_,rfl,av (fun z=>absurd z (by decide +kernel)) (fun _=>⟨_,rfl,q,_,0,.str "store",rfl,rfl,SqT.of hq1,rfl,rfl,_,rfl,av (fun z=>absurd z (by decide +kernel)) (fun _=>⟨_,rfl,q,_,0,.str "store",rfl,rfl,SqT.of hq1,rfl,rfl,_,rfl,av (fun z=>absurd z (by decide +kernel)) (fun _=>k _ _ _ _ (M.gu (show t.toNat<fs.length by omega) er2 wv (RY M.ch e2)) (LFr.set (.inr (.inr mr)) hr (fun _ z=>nomatch z)))⟩)⟩)⟩)⟩
  | load h g kk =>
   replace hq:H q=some (.tup [.str "load",.int h,.int g,.int kk]):=hq
   refine ⟨_,rfl,q,_,0,.str "load",rfl,rfl,SqT.of hq,rfl,rfl,_,rfl,av (fun z=>absurd z (by decide +kernel)) (fun _=>?_)⟩
   refine ⟨_,rfl,q,_,0,.str "load",rfl,rfl,SqT.of hq,rfl,rfl,_,rfl,av (fun z=>absurd z (by decide +kernel)) (fun _=>?_)⟩
   refine ⟨_,rfl,q,_,0,.str "load",rfl,rfl,SqT.of hq,rfl,rfl,_,rfl,av (fun _=>?_) (fun z=>absurd (by decide +kernel) z)⟩
   obtain ⟨hh,hg,k0,k1⟩:=hok
   obtain ⟨t,e,kt⟩:=Mo (h:=h) hdu
   obtain ⟨a,r,ea,ha,er,mr,hr,rr,t0,t1,_⟩:=M.IT e
   have hi:kk.toNat<(fs.getD t.toNat []).length:=by omega
   obtain ⟨v,ev,wv⟩:=rr.get hi
   have gd:(fs.getD t.toNat []).getD kk.toNat .no=(fs.getD t.toNat [])[kk.toNat]:=RX hi
   rw [show xh ws fs (.load h g kk)=(ws.set h.toNat (fs.getD t.toNat [])[kk.toNat],fs) by simp only [xh,e];rw [gd]] at k
   have ti:t.toNat<fs.length:=by omega
   have mf:fs.getD t.toNat []∈fs:=by rw [RX ti];exact List.getElem_mem ti
   refine ⟨_,rfl,_,rfl,_,rfl,q,_,2,.int g,rfl,rfl,SqT.of hq,rfl,lh,hx,g,.ref a,rfl,rfl,SqL.of M.h,ea,a,_,1,.int t,rfl,rfl,SqT.of ha,rfl,lf,_,t,.ref r,rfl,rfl,SqL.of M.f,er,_,rfl,q,_,3,.int kk,rfl,rfl,SqT.of hq,rfl,r,_,kk,v,rfl,rfl,SqL.of hr,qm k0 ev,_,rfl,_,rfl,q,_,1,.int h,rfl,rfl,SqT.of hq,rfl,lh,hx,h,h.toNat,rfl,rfl,M.h,M.ix hh,?_⟩
   have hq1:=DJ (o:=.lst (hx.set h.toNat v)) hq M.h
   exact ⟨_,rfl,q,_,0,.str "load",rfl,rfl,SqT.of hq1,rfl,rfl,_,rfl,av (fun z=>absurd z (by decide +kernel)) (fun _=>⟨_,rfl,q,_,0,.str "load",rfl,rfl,SqT.of hq1,rfl,rfl,_,rfl,av (fun z=>absurd z (by decide +kernel)) (fun _=>⟨_,rfl,q,_,0,.str "load",rfl,rfl,SqT.of hq1,rfl,rfl,_,rfl,av (fun z=>absurd z (by decide +kernel)) (fun _=>k _ _ _ _ (M.put wv (fun u z=>M.cf _ mf u (by rw [←z];exact List.getElem_mem hi))) (LFr.set (.inl rfl) M.h (fun _ z=>nomatch z)))⟩)⟩)⟩
  | copy h g =>
   replace hq:H q=some (.tup [.str "copy",.int h,.int g]):=hq
   refine ⟨_,rfl,q,_,0,.str "copy",rfl,rfl,SqT.of hq,rfl,rfl,_,rfl,av (fun z=>absurd z (by decide +kernel)) (fun _=>?_)⟩
   refine ⟨_,rfl,q,_,0,.str "copy",rfl,rfl,SqT.of hq,rfl,rfl,_,rfl,av (fun z=>absurd z (by decide +kernel)) (fun _=>?_)⟩
   refine ⟨_,rfl,q,_,0,.str "copy",rfl,rfl,SqT.of hq,rfl,rfl,_,rfl,av (fun z=>absurd z (by decide +kernel)) (fun _=>?_)⟩
   refine ⟨_,rfl,q,_,0,.str "copy",rfl,rfl,SqT.of hq,rfl,rfl,_,rfl,av (fun _=>?_) (fun z=>absurd (by decide +kernel) z)⟩
   obtain ⟨hh,hg⟩:=hok
   obtain ⟨w,e,_⟩:=xm M.n8 hg
   obtain ⟨v,ev,wv⟩:=M.at_ e
   rw [show xh ws fs (.copy h g)=(ws.set h.toNat w,fs) by simp only [xh,e]] at k
   refine ⟨_,rfl,_,rfl,q,_,2,.int g,rfl,rfl,SqT.of hq,rfl,lh,hx,g,v,rfl,rfl,SqL.of M.h,ev,_,rfl,_,rfl,q,_,1,.int h,rfl,rfl,SqT.of hq,rfl,lh,hx,h,h.toNat,rfl,rfl,M.h,M.ix hh,?_⟩
   have hq1:=DJ (o:=.lst (hx.set h.toNat v)) hq M.h
   exact ⟨_,rfl,q,_,0,.str "copy",rfl,rfl,SqT.of hq1,rfl,rfl,_,rfl,av (fun z=>absurd z (by decide +kernel)) (fun _=>⟨_,rfl,q,_,0,.str "copy",rfl,rfl,SqT.of hq1,rfl,rfl,_,rfl,av (fun z=>absurd z (by decide +kernel)) (fun _=>k _ _ _ _ (M.put wv (RY M.ch e)) (LFr.set (.inl rfl) M.h (fun _ z=>nomatch z)))⟩)⟩
  | drop h =>
   replace hq:H q=some (.tup [.str "drop",.int h]):=hq
   refine ⟨_,rfl,q,_,0,.str "drop",rfl,rfl,SqT.of hq,rfl,rfl,_,rfl,av (fun z=>absurd z (by decide +kernel)) (fun _=>?_)⟩
   refine ⟨_,rfl,q,_,0,.str "drop",rfl,rfl,SqT.of hq,rfl,rfl,_,rfl,av (fun z=>absurd z (by decide +kernel)) (fun _=>?_)⟩
   refine ⟨_,rfl,q,_,0,.str "drop",rfl,rfl,SqT.of hq,rfl,rfl,_,rfl,av (fun z=>absurd z (by decide +kernel)) (fun _=>?_)⟩
   refine ⟨_,rfl,q,_,0,.str "drop",rfl,rfl,SqT.of hq,rfl,rfl,_,rfl,av (fun z=>absurd z (by decide +kernel)) (fun _=>?_)⟩
   refine ⟨_,rfl,q,_,0,.str "drop",rfl,rfl,SqT.of hq,rfl,rfl,_,rfl,av (fun _=>?_) (fun z=>absurd (by decide +kernel) z)⟩
   refine ⟨_,rfl,_,rfl,q,_,1,.int h,rfl,rfl,SqT.of hq,rfl,lh,hx,h,h.toNat,rfl,rfl,M.h,M.ix hok,?_⟩
   have hq1:=DJ (o:=.lst (hx.set h.toNat .non)) hq M.h
   exact ⟨_,rfl,q,_,0,.str "drop",rfl,rfl,SqT.of hq1,rfl,rfl,_,rfl,av (fun z=>absurd z (by decide +kernel)) (fun _=>k _ _ _ _ (M.put (show WV H .non .no from rfl) (fun t z=>nomatch z)) (LFr.set (.inl rfl) M.h (fun _ z=>nomatch z)))⟩
  | number h z =>
   replace hq:H q=some (.tup [.str "number",.int h,.int z]):=hq
   refine ⟨_,rfl,q,_,0,.str "number",rfl,rfl,SqT.of hq,rfl,rfl,_,rfl,av (fun z=>absurd z (by decide +kernel)) (fun _=>?_)⟩
   refine ⟨_,rfl,q,_,0,.str "number",rfl,rfl,SqT.of hq,rfl,rfl,_,rfl,av (fun z=>absurd z (by decide +kernel)) (fun _=>?_)⟩
   refine ⟨_,rfl,q,_,0,.str "number",rfl,rfl,SqT.of hq,rfl,rfl,_,rfl,av (fun z=>absurd z (by decide +kernel)) (fun _=>?_)⟩
   refine ⟨_,rfl,q,_,0,.str "number",rfl,rfl,SqT.of hq,rfl,rfl,_,rfl,av (fun z=>absurd z (by decide +kernel)) (fun _=>?_)⟩
   refine ⟨_,rfl,q,_,0,.str "number",rfl,rfl,SqT.of hq,rfl,rfl,_,rfl,av (fun z=>absurd z (by decide +kernel)) (fun _=>?_)⟩
   refine ⟨_,rfl,q,_,0,.str "number",rfl,rfl,SqT.of hq,rfl,rfl,_,rfl,av (fun _=>?_) (fun z=>absurd (by decide +kernel) z)⟩
   refine ⟨_,rfl,q,_,2,.int z,rfl,rfl,SqT.of hq,rfl,by show 2≤sizeLine;decide,fun t ht=>?_⟩
   have s1:=aG.upd (o:=.tup [V.str "number",V.int z]) ht
   have M1:=M.same s1
   have hq0:=s1 _ _ hq
   refine ⟨_,rfl,_,rfl,q,_,1,.int h,rfl,rfl,SqT.of hq0,rfl,lh,hx,h,h.toNat,rfl,rfl,M1.h,M1.ix hok.1,?_⟩
   have hq1:=DJ (o:=.lst (hx.set h.toNat (.ref t))) hq0 M1.h
   exact k _ _ _ _ (M1.put (w:=.num z) ⟨t,rfl,ag⟩ (fun t z=>nomatch z)) ((LFr.same s1).trans (LFr.set (.inl rfl) M1.h (fun _ z=>nomatch z)))
  | name w h =>
   replace hq:H q=some (.tup [.str "name",.int w,.int h]):=hq
   exact ⟨_,rfl,q,_,0,.str "name",rfl,rfl,SqT.of hq,rfl,rfl,_,rfl,av (fun z=>absurd z (by decide +kernel)) (fun _=>⟨_,rfl,q,_,0,.str "name",rfl,rfl,SqT.of hq,rfl,rfl,_,rfl,av (fun z=>absurd z (by decide +kernel)) (fun _=>⟨_,rfl,q,_,0,.str "name",rfl,rfl,SqT.of hq,rfl,rfl,_,rfl,av (fun z=>absurd z (by decide +kernel)) (fun _=>⟨_,rfl,q,_,0,.str "name",rfl,rfl,SqT.of hq,rfl,rfl,_,rfl,av (fun z=>absurd z (by decide +kernel)) (fun _=>⟨_,rfl,q,_,0,.str "name",rfl,rfl,SqT.of hq,rfl,rfl,_,rfl,av (fun z=>absurd z (by decide +kernel)) (fun _=>⟨_,rfl,q,_,0,.str "name",rfl,rfl,SqT.of hq,rfl,rfl,_,rfl,av (fun z=>absurd z (by decide +kernel)) (fun _=>k _ _ _ _ M (LFr.same fun _ _ q=>q))⟩)⟩)⟩)⟩)⟩)⟩
  | read h w =>
   replace hq:H q=some (.tup [.str "read",.int h,.int w]):=hq
   exact ⟨_,rfl,q,_,0,.str "read",rfl,rfl,SqT.of hq,rfl,rfl,_,rfl,av (fun z=>absurd z (by decide +kernel)) (fun _=>⟨_,rfl,q,_,0,.str "read",rfl,rfl,SqT.of hq,rfl,rfl,_,rfl,av (fun z=>absurd z (by decide +kernel)) (fun _=>⟨_,rfl,q,_,0,.str "read",rfl,rfl,SqT.of hq,rfl,rfl,_,rfl,av (fun z=>absurd z (by decide +kernel)) (fun _=>⟨_,rfl,q,_,0,.str "read",rfl,rfl,SqT.of hq,rfl,rfl,_,rfl,av (fun z=>absurd z (by decide +kernel)) (fun _=>⟨_,rfl,q,_,0,.str "read",rfl,rfl,SqT.of hq,rfl,rfl,_,rfl,av (fun z=>absurd z (by decide +kernel)) (fun _=>⟨_,rfl,q,_,0,.str "read",rfl,rfl,SqT.of hq,rfl,rfl,_,rfl,av (fun z=>absurd z (by decide +kernel)) (fun _=>k _ _ _ _ M (LFr.same fun _ _ q=>q))⟩)⟩)⟩)⟩)⟩)⟩
  | word h z =>
   replace hq:H q=some (.tup [.str "word",.int h,.int z]):=hq
   exact ⟨_,rfl,q,_,0,.str "word",rfl,rfl,SqT.of hq,rfl,rfl,_,rfl,av (fun z=>absurd z (by decide +kernel)) (fun _=>⟨_,rfl,q,_,0,.str "word",rfl,rfl,SqT.of hq,rfl,rfl,_,rfl,av (fun z=>absurd z (by decide +kernel)) (fun _=>⟨_,rfl,q,_,0,.str "word",rfl,rfl,SqT.of hq,rfl,rfl,_,rfl,av (fun z=>absurd z (by decide +kernel)) (fun _=>⟨_,rfl,q,_,0,.str "word",rfl,rfl,SqT.of hq,rfl,rfl,_,rfl,av (fun z=>absurd z (by decide +kernel)) (fun _=>⟨_,rfl,q,_,0,.str "word",rfl,rfl,SqT.of hq,rfl,rfl,_,rfl,av (fun z=>absurd z (by decide +kernel)) (fun _=>⟨_,rfl,q,_,0,.str "word",rfl,rfl,SqT.of hq,rfl,rfl,_,rfl,av (fun z=>absurd z (by decide +kernel)) (fun _=>k _ _ _ _ M (LFr.same fun _ _ q=>q))⟩)⟩)⟩)⟩)⟩)⟩
  | small  =>
   replace hq:H q=some (.tup [.str "small"]):=hq
   exact ⟨_,rfl,q,_,0,.str "small",rfl,rfl,SqT.of hq,rfl,rfl,_,rfl,av (fun z=>absurd z (by decide +kernel)) (fun _=>⟨_,rfl,q,_,0,.str "small",rfl,rfl,SqT.of hq,rfl,rfl,_,rfl,av (fun z=>absurd z (by decide +kernel)) (fun _=>⟨_,rfl,q,_,0,.str "small",rfl,rfl,SqT.of hq,rfl,rfl,_,rfl,av (fun z=>absurd z (by decide +kernel)) (fun _=>⟨_,rfl,q,_,0,.str "small",rfl,rfl,SqT.of hq,rfl,rfl,_,rfl,av (fun z=>absurd z (by decide +kernel)) (fun _=>⟨_,rfl,q,_,0,.str "small",rfl,rfl,SqT.of hq,rfl,rfl,_,rfl,av (fun z=>absurd z (by decide +kernel)) (fun _=>⟨_,rfl,q,_,0,.str "small",rfl,rfl,SqT.of hq,rfl,rfl,_,rfl,av (fun z=>absurd z (by decide +kernel)) (fun _=>k _ _ _ _ M (LFr.same fun _ _ q=>q))⟩)⟩)⟩)⟩)⟩)⟩
  | turn  =>
   replace hq:H q=some (.tup [.str "turn"]):=hq
   exact ⟨_,rfl,q,_,0,.str "turn",rfl,rfl,SqT.of hq,rfl,rfl,_,rfl,av (fun z=>absurd z (by decide +kernel)) (fun _=>⟨_,rfl,q,_,0,.str "turn",rfl,rfl,SqT.of hq,rfl,rfl,_,rfl,av (fun z=>absurd z (by decide +kernel)) (fun _=>⟨_,rfl,q,_,0,.str "turn",rfl,rfl,SqT.of hq,rfl,rfl,_,rfl,av (fun z=>absurd z (by decide +kernel)) (fun _=>⟨_,rfl,q,_,0,.str "turn",rfl,rfl,SqT.of hq,rfl,rfl,_,rfl,av (fun z=>absurd z (by decide +kernel)) (fun _=>⟨_,rfl,q,_,0,.str "turn",rfl,rfl,SqT.of hq,rfl,rfl,_,rfl,av (fun z=>absurd z (by decide +kernel)) (fun _=>⟨_,rfl,q,_,0,.str "turn",rfl,rfl,SqT.of hq,rfl,rfl,_,rfl,av (fun z=>absurd z (by decide +kernel)) (fun _=>k _ _ _ _ M (LFr.same fun _ _ q=>q))⟩)⟩)⟩)⟩)⟩)⟩
def Ko (D:Ad):Sp:=fun vs H Q _=>∃ x A s lh lf hx rs rx fs,vs=[.ref x,.ref lh,.ref lf]∧IH D H x A s∧Good s∧LM H lh lf hx rs rx s.aH fs∧(∀ t ws,(t,ws)∈s.aS→fs.getD t.toNat []=ws)∧∀ H',aG H H'→Q (.bl true) H'
abbrev vB:List Str:=["hall", "hands", "fields", "h", "value", "due", "g", "told"]
theorem cK:aA vB ["hall", "hands", "fields"] (au jq):=⟨rfl,rfl,rfl,by decide +kernel,rfl,by decide +kernel,by decide +kernel⟩
theorem tL (F:Fun K "_law_asks_right" "_law_asks_right" jq D.bU D.fJ) (T:Txt K mg D)
  (iC:Ok P w K mg base 6 D.cS D.gj ["self", "h"] (HD D))
  (g9:Ok P w K mg base 7 D.cv D.fF ["self", "h"] (DZ D))
  (gE:Ok P w K mg base 7 D.b4 D.eZ ["self", "h"] (Cs D))
  (iD:Ok P w K mg base 6 D.cT D.gk ["self", "h", "g"] (HE D)):Ok P w K mg base 8 D.bU D.fJ ["hall", "hands", "fields"] (Ko D):=by
 refine ⟨?_,F.binds (ps:=["hall", "hands", "fields"]) fun _ _ _ _ _ _ us hl=>match us,hl with|[_,_,_],_=>rfl⟩
 refine F.okE cK (fun vs H Q E h=>?_) (fun cdv A' outer s' H vs Q E hr h=>?_)
 ·obtain ⟨x,A,s,lh,lf,hx,rs,rx,fs,rfl,_⟩:=h
  rfl
 ·obtain ⟨x,A,s,lh,lf,hx,rs,rx,fs,rfl,J,G,M,hf,k⟩:=h
  refine ⟨_,(PSs.nox (aj (kO PassesOwn.never rfl (zH rfl T.sA (ab aq ao)) (fK (i:=3) cK.nd rfl (Or.inl rfl))
    (aj (bp (i:=4) cK.nd rfl (Or.inl rfl) (aJ cD (pv 1) (pv 3) (fun _ _=>rfl)))
    (aj (bB (aI Fz (pv 4) gS (aU _))
     (ai (bp (i:=5) cK.nd rfl (Or.inl rfl) aK))
     (ai (bp (i:=5) cK.nd rfl (Or.inl rfl) (aJ aF (pv 4) aq (fun _ _=>rfl)))))
    (aj (bB (aI Ag (aQ (pv 0) T.af T.uQ iC.g (hr.mono (by decide)) iC.b .nil iT (ab (pv 3) ao)) (pv 5) (aU _))
     (ai (aX pD))
     aP)
    (aj (bB (PW.pt (pw_and (aI gK (pv 5) aK (aU _)) (pw_and1 (aI Ag (aQ (pv 0) T.af T.sT g9.g (hr.mono (by decide)) g9.b .nil iT (ab (pv 3) ao)) (aJ aF (pv 4) aq (fun _ _=>rfl)) (aU _)))))
     (ai (aX pD))
     aP)
    (aj (bB (PW.pt (pw_and (aI gK (pv 5) aK (aU _)) (pw_and1 (aI Ag (aQ (pv 0) T.af T.rz gE.g (hr.mono (by decide)) gE.b .nil iT (ab (pv 3) ao)) (fi dN rfl T.ql PyProof.Rows.Boot.«len» (ab (aJ cD (pv 2) (aJ aF (pv 4) aq (fun _ _=>rfl)) (fun _ _=>rfl)) ao)) (aU _)))))
     (ai (aX pD))
     aP)
    (ai (kO PassesOwn.never rfl (KA rfl T.sA (ab (pv 3) (ab aq ao))) (fK (i:=6) cK.nd rfl (Or.inl rfl))
     (aj (bp (i:=7) cK.nd rfl (Or.inl rfl) (aQ (pv 0) T.af T.uR iD.g (hr.mono (by decide)) iD.b .nil iT (ab (pv 3) (ab (pv 6) ao))))
     (ai (bB (PW.pt (pw_or (lV (oB (fi KY rfl T.pe PyProof.Rows.Boot.«isinstance» (ab (pv 7) (ab (YR rfl T.Ju PyProof.Rows.Boot.«bool») ao))))) (pw_or1 (aI Ag (pv 7) (xG (ML (n:=1) (kT hr)) (pv 4) (aJ cD (pv 1) (pv 6) (fun _ _=>rfl)) (aU _)) (aU _)))))
      (ai (aX pD))
      aP)))))))))))
   (ai (aX pD)))),?_⟩
  refine ⟨8,rfl,by decide,by decide,rW (lo:=0) (n:=8) (fun i σ Hx=>∃ v3 v4 v5 v6 v7,σ=[some (.ref x),some (.ref lh),some (.ref lf),v3,v4,v5,v6,v7]∧aG H Hx) ⟨none,none,none,none,none,rfl,fun _ _ q=>q⟩ ?_ ?_⟩
  ·rintro i σ Hx hi ⟨v3,v4,v5,v6,v7,rfl,sx⟩
   obtain ⟨h,eh⟩:∃ h:Int,0+(i:Int)=h:=⟨_,rfl⟩
   have h8:In8 h:=⟨by omega,by omega⟩
   show kS 3 (V.int (0+(i:Int))) _ _ _
   rw [eh]
   clear eh
   have Jx:=J.same sx
   have Mx:=M.same sx
   obtain ⟨wd,e,_⟩:=xm M.n8 h8
   obtain ⟨v,ev,wv⟩:=Mx.at_ e
   have sh:Sm h:=Sm.of (by have:=h8.1;omega) (by have:=h8.2;omega)
   refine ⟨_,rfl,_,rfl,lh,hx,h,v,rfl,rfl,SqL.of Mx.h,ev,?_⟩
   simp only [kS]
   refine je fun N hN=>?_
   have rest:N [some (.ref x),some (.ref lh),some (.ref lf),some (.int h),some v,some (.str wd.kind),v6,v7] Hx:=by
    refine hN _ _ ?_
    refine ⟨_,rfl,x,_,_,rfl,Jx.ax,(by kernel_rfl),_,rfl,x,A,s,h,rfl,Jx,G,sh,?_⟩
    rw [e]
    intro H1 s1
    refine ⟨_,rfl,rfl,_,rfl,xA (by simp) ?_⟩
    have J1:=Jx.same s1
    have M1:=Mx.same s1
    have S1:=sx.trans s1
    simp only [Nk]
    refine je fun N2 hN2=>?_
    have two:∀ H2,aG H1 H2→N2 [some (.ref x),some (.ref lh),some (.ref lf),some (.int h),some v,some (.str wd.kind),v6,v7] H2:=by
     intro H2 s2
     have J2:=J1.same s2
     have M2:=M1.same s2
     refine hN2 _ _ ?_
     refine je fun N3 hN3=>?_
     have three:∀ H3,aG H2 H3→N3 [some (.ref x),some (.ref lh),some (.ref lf),some (.int h),some v,some (.str wd.kind),v6,v7] H3:=by
      intro H3 s3
      have J3:=J2.same s3
      have M3:=M2.same s3
      refine hN3 _ _ ?_
      refine ⟨_,rfl,h,8,rfl,⟨by have:=h8.1;omega,by have:=h8.2;omega,by decide,by decide⟩,rW (lo:=h) (n:=(8-h).toNat) (fun j σ Hy=>∃ v6 v7,σ=[some (.ref x),some (.ref lh),some (.ref lf),some (.int h),some v,some (.str wd.kind),v6,v7]∧aG H3 Hy) ⟨v6,v7,rfl,fun _ _ q=>q⟩ ?_ ?_⟩
      ·rintro j σ Hy hj ⟨v6,v7,rfl,sy⟩
       obtain ⟨g,eg⟩:∃ g:Int,h+(j:Int)=g:=⟨_,rfl⟩
       have g8:In8 g:=⟨by have:=h8.1;omega,by omega⟩
       show kS 6 (V.int (h+(j:Int))) _ _ _
       rw [eg]
       clear eg
       have Jy:=J3.same sy
       have My:=M3.same sy
       obtain ⟨wd2,e2,_⟩:=xm M.n8 g8
       obtain ⟨u,eu,wu⟩:=My.at_ e2
       have wy:=wv.keep (dr.of (((s1.trans s2).trans s3).trans sy))
       refine ⟨_,rfl,x,_,_,rfl,Jy.ax,(by kernel_rfl),_,rfl,_,rfl,x,A,s,h,g,rfl,Jy,G,sh,Sm.of (by have:=g8.1;omega) (by have:=g8.2;omega),?_⟩
       rw [e,e2]
       refine KZ (x:=.bl (decide (wd=wd2))) (t:=.type "bool") (b:=true) rfl (.of (.bl _)) (by kernel_rfl) ⟨_,rfl,fY ?_⟩
       refine ⟨_,rfl,_,rfl,_,rfl,_,rfl,lh,hx,g,u,rfl,rfl,SqL.of My.h,eu,wd.vl,wd2.vl,wy.rp,wu.rp,?_⟩
       rw [RS]
       exact ⟨rfl,_,rfl,xA (by simp) ⟨_,_,rfl,sy⟩⟩
      ·rintro σ Hy ⟨v6,v7,rfl,sy⟩
       exact ⟨_,_,_,_,_,rfl,((S1.trans s2).trans s3).trans sy⟩
     cases wd with
     | no=>exact ⟨_,rfl,rfl,_,rfl,av (fun z=>absurd z (Bool.eq_false_iff.mp (by kernel_rfl))) (fun _=>fY (three _ fun _ _ q=>q))⟩
     | num n=>exact ⟨_,rfl,rfl,_,rfl,av (fun z=>absurd z (Bool.eq_false_iff.mp (by kernel_rfl))) (fun _=>fY (three _ fun _ _ q=>q))⟩
     | th t =>
      refine ⟨_,rfl,rfl,_,rfl,av (fun _=>?_) (fun z=>absurd (by kernel_rfl) z)⟩
      refine ⟨_,rfl,x,_,_,rfl,J2.ax,(by kernel_rfl),_,rfl,x,A,s,h,rfl,J2,G,sh,?_⟩
      rw [e]
      intro H3 s3
      have M3:=M2.same s3
      obtain ⟨a,r,ea,ha,er,mr,hr,rr,t0,t1,_⟩:=M3.IT e
      have ev3:atI hx h=some v:=ev
      rw [ea] at ev3
      obtain rfl:V.ref a=v:=Option.some.inj ev3
      refine ⟨_,rfl,_,rfl,a,_,1,.int t,rfl,rfl,SqT.of ha,rfl,lf,_,t,.ref r,rfl,rfl,SqL.of M3.f,er,r,_,rfl,.inl (SqL.of hr),?_⟩
      rw [rr.1,hf t _ (G.hand e)]
      exact ⟨rfl,_,rfl,xA (by simp) (three _ s3)⟩
    cases wd with
    | no=>exact ⟨_,rfl,rfl,_,rfl,av (fun z=>absurd z (Bool.eq_false_iff.mp (by kernel_rfl))) (fun _=>fY (two _ fun _ _ q=>q))⟩
    | th n=>exact ⟨_,rfl,rfl,_,rfl,av (fun z=>absurd z (Bool.eq_false_iff.mp (by kernel_rfl))) (fun _=>fY (two _ fun _ _ q=>q))⟩
    | num n =>
     refine ⟨_,rfl,rfl,_,rfl,av (fun _=>?_) (fun z=>absurd (by kernel_rfl) z)⟩
     refine ⟨_,rfl,x,_,_,rfl,J1.ax,(by kernel_rfl),_,rfl,x,A,s,h,rfl,J1,G,sh,?_⟩
     rw [e]
     intro H2 s2
     obtain ⟨t,rfl,ht⟩:=wv
     exact ⟨_,rfl,t,_,1,.int n,rfl,rfl,SqT.of (s2 _ _ (s1 _ _ ht)),rfl,rfl,_,rfl,xA (by simp) (two _ s2)⟩
   cases wd with
   | no =>
    obtain rfl:v=.non:=wv
    exact ⟨_,rfl,rfl,_,rfl,av (fun _=>rest) (fun h=>absurd (by simp) h)⟩
   | num n =>
    obtain ⟨t,rfl,ht⟩:=wv
    exact ⟨_,rfl,rfl,_,rfl,av (fun h=>by simp at h) (fun _=>⟨_,rfl,t,_,0,_,rfl,rfl,SqT.of ht,rfl,rest⟩)⟩
   | th n =>
    obtain ⟨t,rfl,ht⟩:=wv
    exact ⟨_,rfl,rfl,_,rfl,av (fun h=>by simp at h) (fun _=>⟨_,rfl,t,_,0,_,rfl,rfl,SqT.of ht,rfl,rest⟩)⟩
  ·rintro σ Hx ⟨v3,v4,v5,v6,v7,rfl,sx⟩
   exact k Hx sx
theorem Good.names {s:HS} (g:Good s) {w:Nat} {t:Int} {ws:List Wd} (m:(t,ws)∈s.aS):Good {s with names:=s.names.set w (some t)} :=
 ⟨g.h8,by show (s.names.set _ _).length=8;rw [List.length_set];exact g.n8,g.asc,g.lt,g.f6,g.hh,g.ff,fun u m'=>(mB m').elim (g.nn u) (fun e=>by injection e with e;rw [e];exact ⟨ws,m⟩),g.b12,g.bk,g.bnd,g.n0,g.nx,g.sd,g.yk,g.Bp,g.dk,g.Cr⟩
theorem Lh {bs:List (Int×Int)} {t x:Int}:(DX bs t x).map (·.1)=if (bs.lookup t).isSome=true then bs.map (·.1) else bs.map (·.1)++[t]:=by
 unfold DX
 by_cases c:(bs.lookup t).isSome=true
 ·rw [if_pos c,if_pos c,List.map_map]
  refine List.map_congr_left fun p hp=>?_
  show (if p.1=t then (t,x) else p).1=p.1
  by_cases e:p.1=t
  ·rw [if_pos e];exact e.symm
  ·rw [if_neg e]
 ·rw [if_neg c,if_neg c,List.map_append]
  rfl
theorem Good.bM {s:HS} (g:Good s) {t x:Int} {ws:List Wd} (m:(t,ws)∈s.aS) (c:¬(s.bM.lookup t=none∧12≤s.bM.length)):Good {s with bM:=DX s.bM t x}:=by
 have kl:=Lh (bs:=s.bM) (t:=t) (x:=x)
 have ln:=congrArg List.length kl
 have mm:∀ u,u∈(DX s.bM t x).map (·.1)→u∈s.bM.map (·.1)∨u=t:=fun u h=>by
  rw [kl] at h
  split at h
  ·exact .inl h
  ·rcases List.mem_append.mp h with h|h
   ·exact .inl h
   ·exact .inr (List.mem_singleton.mp h)
 refine ⟨g.h8,g.n8,g.asc,g.lt,g.f6,g.hh,g.ff,g.nn,?_,fun u y h=>?_,?_,g.n0,g.nx,g.sd,g.yk,g.Bp,g.dk,g.Cr⟩
 ·show (DX s.bM t x).length≤12
  rw [List.length_map] at ln
  rw [ln]
  by_cases q:(s.bM.lookup t).isSome=true
  ·rw [if_pos q,List.length_map];exact g.b12
  ·rw [if_neg q,List.length_append,List.length_map,List.length_singleton]
   have:s.bM.lookup t=none:=by
    cases e:s.bM.lookup t with
    | none=>rfl
    | some v=>rw [e] at q;exact absurd rfl q
   have:¬12≤s.bM.length:=fun z=>c ⟨this,z⟩
   omega
 ·rcases mm u (List.mem_map.mpr ⟨_,h,rfl⟩) with h|rfl
  ·obtain ⟨p,hp,rfl⟩:=List.mem_map.mp h
   exact g.bk p.1 p.2 hp
  ·exact ⟨ws,m⟩
 ·show ((DX s.bM t x).map (·.1)).Nodup
  rw [kl]
  by_cases q:(s.bM.lookup t).isSome=true
  ·rw [if_pos q];exact g.bnd
  ·rw [if_neg q,List.nodup_append]
   refine ⟨g.bnd,List.pairwise_singleton _ _,fun a ma b mb e=>?_⟩
   rw [List.mem_singleton.mp mb] at e
   subst e
   obtain ⟨p,hp,rfl⟩:=List.mem_map.mp ma
   refine q ?_
   rw [mem_lookup (w:=p.2) g.bnd hp]
   rfl
theorem D7 {fs:List (Int×List Wd)} {t:Int} {ws:List Wd}:(qP fs t ws).map (·.1)=fs.map (·.1):=by
 unfold qP
 rw [List.map_map]
 refine List.map_congr_left fun p hp=>?_
 show (if p.1=t then (t,ws) else p).1=p.1
 by_cases e:p.1=t
 ·rw [if_pos e];exact e.symm
 ·rw [if_neg e]
theorem Mq {fs:List (Int×List Wd)} {t u:Int} {ws w:List Wd} (m:(u,w)∈fs):∃ w',(u,w')∈qP fs t ws:=by
 have:u∈(qP fs t ws).map (·.1):=by rw [D7];exact List.mem_map.mpr ⟨_,m,rfl⟩
 obtain ⟨p,hp,rfl⟩:=List.mem_map.mp this
 exact ⟨p.2,hp⟩
theorem xC {fs:List (Int×List Wd)} {t u:Int} {ws w:List Wd} (m:(u,w)∈qP fs t ws):(u,w)∈fs∨(w=ws∧∃ w0,(u,w0)∈fs):=by
 obtain ⟨p,hp,e⟩:=List.mem_map.mp m
 by_cases c:p.1=t
 ·rw [if_pos c] at e
  cases e
  exact .inr ⟨rfl,p.2,by rw [←c];exact hp⟩
 ·rw [if_neg c] at e
  subst e
  exact .inl hp
theorem Good.qP {s:HS} (g:Good s) {t:Int} {ws:List Wd} (l6:ws.length≤6) (c:∀ u,Wd.th u∈ws→∃ w,(u,w)∈s.aS):Good {s with aS:=qP s.aS t ws}:=by
 have hs:∀ u,(∃ w,(u,w)∈s.aS)→∃ w,(u,w)∈K14.qP s.aS t ws:=fun u ⟨w,m⟩=>Mq m
 refine ⟨g.h8,g.n8,by show ((K14.qP s.aS t ws).map (·.1)).Pairwise _;rw [D7];exact g.asc,fun u w m=>?_,fun u w m=>?_,fun u m=>hs u (g.hh u m),fun u w v m mv=>?_,fun u m=>hs u (g.nn u m),g.b12,fun u y m=>hs u (g.bk u y m),g.bnd,g.n0,g.nx,?_,fun u m=>hs u (g.yk u m),g.Bp,fun u m=>hs u (g.dk u m),g.Cr⟩
 ·rcases xC m with m|⟨_,w0,m⟩
  ·exact g.lt u w m
  ·exact g.lt u w0 m
 ·rcases xC m with m|⟨rfl,w0,m⟩
  ·exact g.f6 u w m
  ·exact l6
 ·rcases xC m with m|⟨rfl,w0,m⟩
  ·exact hs v (g.ff u w v m mv)
  ·exact hs v (c v mv)
 ·show (s.rA.length:Int)+((K14.qP s.aS t ws).length:Int)≤s.nxt
  unfold K14.qP
  rw [List.length_map]
  exact g.sd
theorem JA {z:Int} (h0:-100000≤z) (h1:z≤100000):Num z:=⟨by omega,by omega⟩
theorem Good.aaM {s:HS} (g:Good s) {h n:Int} (n6:n≤6) (few:s.nxt<10000):Good (Hz s h n):=by
 have hs:∀ u,(∃ w,(u,w)∈s.aS)→∃ w,(u,w)∈s.aS++[(s.nxt,List.replicate n.toNat Wd.no)]:=fun u ⟨w,m⟩=>⟨w,List.mem_append_left _ m⟩
 have mm:∀ {u:Int} {w:List Wd},(u,w)∈s.aS++[(s.nxt,List.replicate n.toNat Wd.no)]→(u,w)∈s.aS∨(u=s.nxt∧w=List.replicate n.toNat Wd.no):=fun m=>by
  rcases List.mem_append.mp m with m|m
  ·exact .inl m
  ·cases List.mem_singleton.mp m;exact .inr ⟨rfl,rfl⟩
 have my:∀ u∈(Hz s h n).yng,u∈s.yng∨u=s.nxt:=fun u m=>by
  have m:u∈(if s.my=true then s.yng++[s.nxt] else s.yng):=m
  split at m
  ·exact (List.mem_append.mp m).imp id fun z=>List.mem_singleton.mp z
  ·exact .inl m
 refine ⟨by show (s.aH.set _ _).length=8;rw [List.length_set];exact g.h8,g.n8,?_,fun u w m=>?_,fun u w m=>?_,fun u m=>?_,fun u w v m mv=>?_,fun u m=>hs u (g.nn u m),g.b12,fun u y m=>hs u (g.bk u y m),g.bnd,by show 0≤s.nxt+1;have:=g.n0;omega,by show s.nxt+1≤10000;omega,?_,fun u m=>?_,?_,fun u m=>hs u (g.dk u m),g.Cr⟩
 ·show ((s.aS++[(s.nxt,List.replicate n.toNat Wd.no)]).map (·.1)).Pairwise _
  rw [List.map_append,List.pairwise_append]
  refine ⟨g.asc,List.pairwise_singleton _ _,fun a ma b mb=>?_⟩
  obtain ⟨p,hp,rfl⟩:=List.mem_map.mp ma
  obtain rfl:b=s.nxt:=by simpa using mb
  exact (g.lt p.1 p.2 hp).2
 ·show 0≤u∧u<s.nxt+1
  have:=g.n0
  rcases mm m with m|⟨e,_⟩
  ·have:=g.lt u w m;omega
  ·omega
 ·rcases mm m with m|⟨_,e⟩
  ·exact g.f6 u w m
  ·rw [e,List.length_replicate];omega
 ·rcases mB m with m|e
  ·exact hs u (g.hh u m)
  ·injection e with e
   exact ⟨_,List.mem_append_right _ (List.mem_singleton.mpr (by rw [e]))⟩
 ·rcases mm m with m|⟨_,e⟩
  ·exact hs v (g.ff u w v m mv)
  ·rw [e] at mv
   cases List.eq_of_mem_replicate mv
 ·show (s.rA.length:Int)+((s.aS++[(s.nxt,List.replicate n.toNat Wd.no)]).length:Int)≤s.nxt+1
  rw [List.length_append,List.length_singleton]
  have:=g.sd
  omega
 ·rcases my u m with m|e
  ·exact hs u (g.yk u m)
  ·exact ⟨_,List.mem_append_right _ (List.mem_singleton.mpr (by rw [e]))⟩
 ·show (if s.my=true then s.yng++[s.nxt] else s.yng).Pairwise _
  split
  ·rw [List.pairwise_append]
   refine ⟨g.Bp,List.pairwise_singleton _ _,fun a ma b mb=>?_⟩
   obtain rfl:b=s.nxt:=by simpa using mb
   obtain ⟨ws,m⟩:=g.yk a ma
   exact (g.lt a ws m).2
  ·exact g.Bp
theorem Gd.put {s:HS} (d:Gd s) {h:Int} {w:Wd} (c:∀ t,w=.th t→(∃ ws,(t,ws)∈s.aS)∧t∉s.de):Gd (mK s h w) :=
 ⟨d.g.put fun t e=>(c t e).1,d.dy,fun t m=>(mB m).elim (d.dh t) (fun e=>(c t e.symm).2),d.df,d.rd⟩
theorem Gd.add {s:HS} (d:Gd s) {h n:Int} (n6:n≤6) (few:s.nxt<10000):Gd (Hz s h n) where
 g:=d.g.aaM n6 few
 dy:=fun t m=>by
  obtain ⟨ws,mt⟩:=d.g.dk t m
  have lt:=(d.g.lt t ws mt).2
  show t∉(if s.my=true then s.yng++[s.nxt] else s.yng)
  split
  ·intro z
   rcases List.mem_append.mp z with z|z
   ·exact d.dy t m z
   ·have:=List.mem_singleton.mp z;omega
  ·exact d.dy t m
 dh:=fun t m=>(mB m).elim (d.dh t) fun e=>by
  injection e with e
  intro z
  obtain ⟨ws,mt⟩:=d.g.dk t z
  have:=(d.g.lt t ws mt).2
  omega
 df:=fun u ws t m hu h=>by
  rcases List.mem_append.mp m with m|m
  ·exact d.df u ws t m hu h
  ·cases List.mem_singleton.mp m
   cases List.eq_of_mem_replicate h
 rd:=d.rd
theorem Gd.qP {s:HS} (d:Gd s) {t:Int} {ws:List Wd} (l6:ws.length≤6) (c:∀ u,Wd.th u∈ws→(∃ w,(u,w)∈s.aS)∧u∉s.de):Gd {s with aS:=qP s.aS t ws} where
 g:=d.g.qP l6 fun u m=>(c u m).1
 dy:=d.dy
 dh:=d.dh
 df:=fun u w v m hu h=>by
  rcases xC m with m|⟨e,_⟩
  ·exact d.df u w v m hu h
  ·rw [e] at h;exact (c v h).2
 rd:=d.rd
theorem Gd.hnd {s:HS} (d:Gd s) {h:Int} {w:Wd} (e:wat s.aH h=some w):∀ t,w=.th t→(∃ ws,(t,ws)∈s.aS)∧t∉s.de:=fun t z=>by
 have m:=List.mem_of_getElem? (jO e).2.2
 rw [z] at m
 exact ⟨d.g.hh t m,d.dh t m⟩
theorem Kp {s:HS} {n:Option Int}:(rdR s n).nxt=s.nxt:=by
 unfold rdR
 split
 ·split<;>rfl
 ·rfl
theorem Ze {s:HS} (d:Gd s) (few:s.nxt<10000) {dd:Dd} (ok:dd.ok):Gd (dDo s dd).2∧s.nxt≤(dDo s dd).2.nxt∧(dDo s dd).2.nxt≤s.nxt+1:=by
 have same:Gd s∧s.nxt≤s.nxt∧s.nxt≤s.nxt+1:=⟨d,Int.le_refl _,by omega⟩
 cases dd with
 | make h n =>
  show Gd (kg s h n).2∧s.nxt≤(kg s h n).2.nxt∧(kg s h n).2.nxt≤s.nxt+1
  unfold kg
  split
  ·split
   ·split
    ·exact ⟨d.mkd,by rw [me];exact Int.le_refl _,by rw [me];omega⟩
    ·exact ⟨d.mkd.add ok.2.2 (by rw [me];exact few),by show s.nxt≤(mkR s n).nxt+1;rw [me];omega,by show (mkR s n).nxt+1≤s.nxt+1;rw [me];exact Int.le_refl _⟩
   ·exact same
  ·exact same
 | store g k h =>
  show Gd (d7 s g k h).2∧s.nxt≤(d7 s g k h).2.nxt∧(d7 s g k h).2.nxt≤s.nxt+1
  unfold d7
  split
  ·rename_i t e
   split
   ·rename_i w e2
    split
    ·rename_i c
     have m:=d.g.hand e
     refine ⟨d.qP (by rw [List.length_set];exact d.g.f6 _ _ m) (fun u hu=>?_),Int.le_refl _,by show s.nxt≤s.nxt+1;omega⟩
     rcases mB hu with hu|hu
     ·exact ⟨d.g.ff _ _ _ m hu,d.df _ _ _ m ((d.hnd e t rfl).2) hu⟩
     ·exact d.hnd e2 u hu.symm
    ·exact same
   ·exact same
  ·exact same
 | load h g k =>
  show Gd (gX s h g k).2∧s.nxt≤(gX s h g k).2.nxt∧(gX s h g k).2.nxt≤s.nxt+1
  unfold gX
  split
  ·split
   ·rename_i t e
    split
    ·rename_i c
     have m:=d.g.hand e
     refine ⟨d.put fun u hu=>?_,Int.le_refl _,by show s.nxt≤s.nxt+1;omega⟩
     have hi:k.toNat<(fld s t).length:=by omega
     have hm:Wd.th u∈fld s t:=by rw [←hu,List.getD_eq_getElem?_getD,List.getElem?_eq_getElem hi];exact List.getElem_mem hi
     exact ⟨d.g.ff _ _ _ m hm,d.df _ _ _ m ((d.hnd e t rfl).2) hm⟩
    ·exact same
   ·exact same
  ·exact same
 | copy h g =>
  show Gd (pJ s h g).2∧s.nxt≤(pJ s h g).2.nxt∧(pJ s h g).2.nxt≤s.nxt+1
  unfold pJ
  split
  ·split
   ·rename_i w e
    exact ⟨d.put (d.hnd e),Int.le_refl _,by show s.nxt≤s.nxt+1;omega⟩
   ·exact same
  ·exact same
 | drop h =>
  show Gd (si s h).2∧s.nxt≤(si s h).2.nxt∧(si s h).2.nxt≤s.nxt+1
  unfold si
  split
  ·exact ⟨d.put (fun t e=>by cases e),Int.le_refl _,by show s.nxt≤s.nxt+1;omega⟩
  ·exact same
 | number h x =>
  show Gd (ig s h x).2∧s.nxt≤(ig s h x).2.nxt∧(ig s h x).2.nxt≤s.nxt+1
  unfold ig
  split
  ·split
   ·exact ⟨d.put (fun t e=>by cases e),Int.le_refl _,by show s.nxt≤s.nxt+1;omega⟩
   ·exact same
  ·exact same
 | name w h =>
  show Gd (iM s w h).2∧s.nxt≤(iM s w h).2.nxt∧(iM s w h).2.nxt≤s.nxt+1
  unfold iM
  split
  ·rename_i t e
   split
   ·exact ⟨⟨d.g.names (d.g.hand e),d.dy,d.dh,d.df,d.rd⟩,Int.le_refl _,by show s.nxt≤s.nxt+1;omega⟩
   ·exact same
  ·exact same
 | read h w =>
  show Gd (lZ s h w).2∧s.nxt≤(lZ s h w).2.nxt∧(lZ s h w).2.nxt≤s.nxt+1
  unfold lZ
  split
  ·split
   ·rename_i c2
    refine ⟨?_,by rw [Kp];exact Int.le_refl _,by rw [Kp];show s.nxt≤s.nxt+1;omega⟩
    have hi:w.toNat<s.names.length:=by rw [d.g.n8];omega
    have gd:s.names.getD w.toNat none=s.names[w.toNat]:=by simp [List.getD,hi]
    have mm:s.names[w.toNat]∈s.names:=List.getElem_mem hi
    rw [←gd] at mm
    cases e:s.names.getD w.toNat none with
    | none=>exact d.put (fun t e=>by cases e)
    | some t =>
     rw [e] at mm
     obtain ⟨ws,m⟩:=d.g.nn t mm
     show Gd (if t∈(mK s h (.th t)).de then oK (mK s h (.th t)) t else mK s h (.th t))
     have g2:Good (mK s h (.th t)):=d.g.put fun u z=>by cases z;exact ⟨ws,m⟩
     by_cases c:t∈s.de
     ·rw [if_pos (show t∈(mK s h (.th t)).de from c)]
      refine Gd.Zc ⟨g2,d.dy,d.df,d.rd⟩ c fun u hu=>?_
      rcases mB hu with hu|hu
      ·exact .inr (d.dh u hu)
      ·injection hu with hu;exact .inl hu
     ·rw [if_neg (show ¬t∈(mK s h (.th t)).de from c)]
      exact d.put fun u z=>by cases z;exact ⟨⟨ws,m⟩,c⟩
   ·exact same
  ·exact same
 | word h x =>
  show Gd (gY s h x).2∧s.nxt≤(gY s h x).2.nxt∧(gY s h x).2.nxt≤s.nxt+1
  unfold gY
  split
  ·rename_i t e
   split
   ·split
    ·exact same
    ·rename_i c
     exact ⟨⟨d.g.bM (d.g.hand e) c,d.dy,d.dh,d.df,d.rd⟩,Int.le_refl _,by show s.nxt≤s.nxt+1;omega⟩
   ·exact same
  ·exact same
 | small=>exact ⟨d.small,Int.le_refl _,by show s.nxt≤s.nxt+1;omega⟩
 | turn =>
  show Gd (oi s).2∧s.nxt≤(oi s).2.nxt∧(oi s).2.nxt≤s.nxt+1
  unfold oi
  split
  ·rename_i c
   rw [show MX s=(none,Oz s) from if_pos c]
   exact ⟨d.fin,Int.le_refl _,by show s.nxt≤s.nxt+1;omega⟩
  ·rename_i c
   rw [show Bk s=(none,MW (kf s)) from if_neg c]
   exact ⟨d.small.beg rfl,Int.le_refl _,by show s.nxt≤s.nxt+1;omega⟩
theorem gd0 {my:Bool} {room limit:Int}:Gd (s0 my room limit):=⟨good0,(fun t m=>nomatch m),(fun t _ m=>nomatch m),(fun u ws t m=>nomatch m),fun _=>rfl⟩
def Ly (K:W.Frag):Sp:=fun vs H Q _=>∃ (a:Addr) (ns:List Int),vs=[.ref a]∧SqL K H a (ns.map V.int)∧ns.length≤63∧∀ H',Q (.bl true) H'
structure Pl (s:HS) (fs:List (List Wd)):Prop where
 rel:∀ t ws,(t,ws)∈s.aS→fs.getD t.toNat []=ws
 nx:s.nxt=fs.length
theorem Pl.sub {s s':HS} {fs:List (List Wd)} (p:Pl s fs) (h:∀ t ws,(t,ws)∈s'.aS→(t,ws)∈s.aS) (n:s'.nxt=s.nxt):Pl s' fs:=⟨fun t ws m=>p.rel t ws (h t ws m),n.trans p.nx⟩
theorem Kq {s:HS} {n t:Int} {ws:List Wd} (m:(t,ws)∈(mkR s n).aS):(t,ws)∈s.aS:=by
 unfold mkR at m
 split at m
 ·exact (gp.mp m).1
 ·exact m
def ZA:Dd→Prop
 | .read _ _=>False
 | _=>True
def ZC:Dd→Bool
 | .make _ _=>true
 | _=>false
def ZD:Dd→Bool
 | .word _ _=>true
 | _=>false
theorem Zf {s:HS} {fs:List (List Wd)} (d:Gd s) (p:Pl s fs) {dd:Dd} (ok:dd.ok) (nr:ZA dd):match (dDo s dd).1 with
  | none=>el s.aH fs dd=none∧Pl (dDo s dd).2 (xh s.aH fs dd).2∧(dDo s dd).2.aH=(xh s.aH fs dd).1
  | some e=>Pl (dDo s dd).2 fs∧(dDo s dd).2.aH=s.aH∧(el s.aH fs dd=some e∨(e=.room∧ZC dd=true)∨(e=.words∧ZD dd=true)):=by
 have g:=d.g
 have fsf:∀ {h t:Int},wat s.aH h=some (.th t)→fs.getD t.toNat []=fld s t:=fun e=>p.rel _ _ (g.hand e)
 cases dd with
 | make h n =>
  obtain ⟨h8,n0,n6⟩:=ok
  have e:dDo s (.make h n)=(if held (mkR s n)+(n+1)>s.limit then (some .room,mkR s n) else (none,Hz (mkR s n) h n)):=by
   show kg s h n=_
   unfold kg
   rw [if_pos h8,if_pos ⟨n0,n6⟩]
  rw [e]
  split
  ·rename_i z
   split at z
   ·cases z
   ·rename_i c
    rw [if_neg c]
    refine ⟨rfl,⟨fun t ws m=>?_,?_⟩,?_⟩
    ·show (fs++[List.replicate n.toNat Wd.no]).getD t.toNat []=ws
     rcases List.mem_append.mp m with m|m
     ·have m:=Kq m
      have lt:=g.lt t ws m
      rw [p.nx] at lt
      rw [List.getD_eq_getElem?_getD,List.getElem?_append_left (by omega),←List.getD_eq_getElem?_getD]
      exact p.rel t ws m
     ·cases List.mem_singleton.mp m
      rw [me,p.nx,List.getD_eq_getElem?_getD,show ((fs.length:Int)).toNat=fs.length by omega,List.getElem?_append_right (Nat.le_refl _),Nat.sub_self]
      rfl
    ·show (mkR s n).nxt+1=((fs++[List.replicate n.toNat Wd.no]).length:Int)
     rw [me,p.nx,List.length_append,List.length_singleton]
     omega
    ·show (mkR s n).aH.set h.toNat (.th (mkR s n).nxt)=s.aH.set h.toNat (.th fs.length)
     rw [D3,me,p.nx]
  ·rename_i er z
   split at z
   ·rename_i c
    cases z
    rw [if_pos c]
    exact ⟨p.sub (fun t ws m=>Kq m) me,D3,.inr (.inl ⟨rfl,rfl⟩)⟩
   ·cases z
 | store g0 k h =>
  obtain ⟨g8,k0,k6,h8⟩:=ok
  show match (d7 s g0 k h).1 with|none=>_∧Pl (d7 s g0 k h).2 _∧(d7 s g0 k h).2.aH=_|some e=>Pl (d7 s g0 k h).2 fs∧(d7 s g0 k h).2.aH=s.aH∧_
  obtain ⟨w,ew,_⟩:=xm g.h8 h8
  cases e:wat s.aH g0 with
  | none=>simp only [d7,el,e];exact ⟨p,trivial,.inl trivial⟩
  | some wd =>
   cases wd with
   | no=>simp only [d7,el,e];exact ⟨p,trivial,.inl trivial⟩
   | num z=>simp only [d7,el,e];exact ⟨p,trivial,.inl trivial⟩
   | th t =>
    have ef:=fsf e
    have m:=g.hand e
    have lt:=g.lt _ _ m
    by_cases c:0≤k∧k<((fld s t).length:Int)
    ·simp only [d7,el,xh,e,ew,if_pos c,ef]
     rw [if_neg (by omega)]
     refine ⟨by first|rfl|trivial,⟨fun u ws mu=>?_,?_⟩,by first|rfl|trivial⟩
     ·obtain ⟨q,mq,eq⟩:=List.mem_map.mp mu
      rw [p.nx] at lt
      by_cases c2:q.1=t
      ·rw [if_pos c2] at eq
       cases eq
       rw [List.getD_eq_getElem?_getD,List.getElem?_set_self (by omega)]
       rfl
      ·rw [if_neg c2] at eq
       subst eq
       have lu:=g.lt _ _ mq
       rw [List.getD_eq_getElem?_getD,List.getElem?_set_ne (by omega),←List.getD_eq_getElem?_getD]
       exact p.rel _ _ mq
     ·show s.nxt=_
      rw [List.length_set]
      exact p.nx
    ·simp only [d7,el,e,ew,if_neg c,ef]
     rw [if_pos (by omega)]
     exact ⟨p,by trivial,.inl (by first|rfl|trivial)⟩
 | load h g0 k =>
  obtain ⟨h8,g8,k0,k6⟩:=ok
  show match (gX s h g0 k).1 with|none=>_∧Pl (gX s h g0 k).2 _∧(gX s h g0 k).2.aH=_|some e=>Pl (gX s h g0 k).2 fs∧(gX s h g0 k).2.aH=s.aH∧_
  cases e:wat s.aH g0 with
  | none=>simp only [gX,el,e,if_pos (show ok8 h from h8)];exact ⟨p,trivial,.inl trivial⟩
  | some wd =>
   cases wd with
   | no=>simp only [gX,el,e,if_pos (show ok8 h from h8)];exact ⟨p,trivial,.inl trivial⟩
   | num z=>simp only [gX,el,e,if_pos (show ok8 h from h8)];exact ⟨p,trivial,.inl trivial⟩
   | th t =>
    have ef:=fsf e
    by_cases c:0≤k∧k<((fld s t).length:Int)
    ·simp only [gX,el,xh,e,if_pos (show ok8 h from h8),if_pos c,ef]
     rw [if_neg (by omega)]
     exact ⟨rfl,⟨p.rel,p.nx⟩,rfl⟩
    ·simp only [gX,el,e,if_pos (show ok8 h from h8),if_neg c,ef]
     rw [if_pos (by omega)]
     exact ⟨p,by trivial,.inl (by first|rfl|trivial)⟩
 | copy h g0 =>
  obtain ⟨h8,g8⟩:=ok
  obtain ⟨w,ew,_⟩:=xm g.h8 g8
  have e:dDo s (.copy h g0)=(none,mK s h w):=by show pJ s h g0=_;simp only [pJ,if_pos (show ok8 h from h8),ew]
  rw [e]
  refine ⟨rfl,⟨fun t ws m=>?_,?_⟩,?_⟩
  ·show (xh s.aH fs (.copy h g0)).2.getD t.toNat []=ws
   simp only [xh,ew]
   exact p.rel t ws m
  ·simp only [xh,ew];exact p.nx
  ·simp only [xh,ew];rfl
 | drop h =>
  have e:dDo s (.drop h)=(none,mK s h .no):=by show si s h=_;simp only [si,if_pos (show ok8 h from ok)]
  rw [e]
  exact ⟨rfl,⟨p.rel,p.nx⟩,rfl⟩
 | number h z =>
  have e:dDo s (.number h z)=(none,mK s h (.num z)):=by show ig s h z=_;simp only [ig,if_pos (show ok8 h from ok.1),if_pos (JA ok.2.1 ok.2.2)]
  rw [e]
  exact ⟨rfl,⟨p.rel,p.nx⟩,rfl⟩
 | name w h =>
  obtain ⟨w8,h8⟩:=ok
  show match (iM s w h).1 with|none=>_∧Pl (iM s w h).2 _∧(iM s w h).2.aH=_|some e=>Pl (iM s w h).2 fs∧(iM s w h).2.aH=s.aH∧_
  cases e:wat s.aH h with
  | none=>simp only [iM,el,e];exact ⟨p,trivial,.inl trivial⟩
  | some wd =>
   cases wd with
   | no=>simp only [iM,el,e];exact ⟨p,trivial,.inl trivial⟩
   | num z=>simp only [iM,el,e];exact ⟨p,trivial,.inl trivial⟩
   | th t =>
    simp only [iM,el,xh,e,if_pos (show ok8 w from w8)]
    exact ⟨trivial,⟨p.rel,p.nx⟩,trivial⟩
 | read h w=>exact nr.elim
 | word h z =>
  obtain ⟨h8,z0,z1⟩:=ok
  show match (gY s h z).1 with|none=>_∧Pl (gY s h z).2 _∧(gY s h z).2.aH=_|some e=>Pl (gY s h z).2 fs∧(gY s h z).2.aH=s.aH∧_
  cases e:wat s.aH h with
  | none=>simp only [gY,el,e];exact ⟨p,trivial,.inl trivial⟩
  | some wd =>
   cases wd with
   | no=>simp only [gY,el,e];exact ⟨p,trivial,.inl trivial⟩
   | num z=>simp only [gY,el,e];exact ⟨p,trivial,.inl trivial⟩
   | th t =>
    by_cases c:s.bM.lookup t=none∧12≤s.bM.length
    ·simp only [gY,el,e,if_pos (JA z0 z1),if_pos c]
     exact ⟨p,trivial,.inr (.inr ⟨trivial,rfl⟩)⟩
    ·simp only [gY,el,xh,e,if_pos (JA z0 z1),if_neg c]
     exact ⟨trivial,⟨p.rel,p.nx⟩,trivial⟩
 | small=>exact ⟨rfl,p.sub (fun t ws m=>(gp.mp m).1) rfl,rfl⟩
 | turn =>
  show match (oi s).1 with|none=>_∧Pl (oi s).2 _∧(oi s).2.aH=_|some e=>Pl (oi s).2 fs∧(oi s).2.aH=s.aH∧_
  by_cases c:s.rnd=true
  ·rw [show oi s=(none,Oz s) from (if_pos c).trans (if_pos c)]
   exact ⟨rfl,p.sub (fun t ws m=>(gp.mp m).1) rfl,rfl⟩
  ·rw [show oi s=(none,MW (kf s)) from (if_neg c).trans (if_neg c)]
   exact ⟨rfl,p.sub (fun t ws m=>(gp.mp m).1) rfl,rfl⟩
structure KM (D:Ad) (H:Hp) (x:Addr) (A:HA) (s:HS) (lh lf:Addr) (hx:List V) (rs:List Addr) (rx:Nat→List V) (ws:List Wd) (fs:List (List Wd)) (ld:Addr) (dv:List V):Prop where
 j:IH D H x A s
 m:LM H lh lf hx rs rx ws fs
 dl:H ld=some (.lst dv)
 ds:∀ v∈dv,∃ q dd,v=.ref q∧H q=some (.tup (Dd.its dd))∧dd.ok
 a1:∀ b,LFo lh lf rs b→¬bX x A s b
 a4:¬bX x A s ld
 n2:¬LFo lh lf rs ld
section
variable {D:Ad} {H H':Hp} {x:Addr} {A A':HA} {s s':HS} {lh lf:Addr} {hx hx':List V} {rs rs':List Addr} {rx rx':Nat→List V} {ws ws':List Wd} {fs fs':List (List Wd)} {ld:Addr} {dv:List V}
theorem LM.lst {H:Hp} (M:LM H lh lf hx rs rx ws fs) {b:Addr} (f:LFo lh lf rs b):∃ xs,H b=some (.lst xs):=by
 rcases f with rfl|rfl|f
 ·exact ⟨_,M.h⟩
 ·exact ⟨_,M.f⟩
 ·obtain ⟨i,hi,rfl⟩:=List.getElem_of_mem f
  exact ⟨_,(M.fr i (by rw [←M.fl];exact hi)).1⟩
theorem KM.same (Z:KM D H x A s lh lf hx rs rx ws fs ld dv) (k:aG H H'):KM D H' x A s lh lf hx rs rx ws fs ld dv :=
 ⟨Z.j.same k,Z.m.same k,k _ _ Z.dl,fun v m=>by obtain ⟨q,dd,e,h,ok⟩:=Z.ds v m;exact ⟨q,dd,e,k _ _ h,ok⟩,Z.a1,Z.a4,Z.n2⟩
theorem KM.heap (Z:KM D H x A s lh lf hx rs rx ws fs ld dv) (J:IH D H' x A' s') (fr:Fr (bX x A s) H (bX x A' s') H'):KM D H' x A' s' lh lf hx rs rx ws fs ld dv :=
 ⟨J,Z.m.keep (fun b u f q=>fr.ext b u (Z.a1 b f) q) fr.tup,(fr.out Z.a4 Z.dl).1,fun v m=>by obtain ⟨q,dd,e,h,ok⟩:=Z.ds v m;exact ⟨q,dd,e,fr.tup _ _ h,ok⟩,
  fun b f=>by obtain ⟨xs,q⟩:=Z.m.lst f;exact (fr.out (Z.a1 b f) q).2,(fr.out Z.a4 Z.dl).2,Z.n2⟩
theorem KM.fol (Z:KM D H x A s lh lf hx rs rx ws fs ld dv) (M:LM H' lh lf hx' rs' rx' ws' fs') (fr:LFr lh lf rs H rs' H'):KM D H' x A s lh lf hx' rs' rx' ws' fs' ld dv:=by
 refine ⟨Z.j.keep (fun b u f q=>fr.ext b u (fun l=>Z.a1 b l f) q) fr.tup,M,fr.ext _ _ Z.n2 Z.dl,fun v m=>by obtain ⟨q,dd,e,h,ok⟩:=Z.ds v m;exact ⟨q,dd,e,fr.tup _ _ h,ok⟩,fun b f=>?_,Z.a4,fun f=>?_⟩
 ·rcases f with f|f|f
  ·exact Z.a1 b (.inl f)
  ·exact Z.a1 b (.inr (.inl f))
  ·rcases fr.grow b f with f|f
   ·exact Z.a1 b (.inr (.inr f))
   ·exact Z.j.fresh f
 ·rcases f with f|f|f
  ·exact Z.n2 (.inl f)
  ·exact Z.n2 (.inr (.inl f))
  ·rcases fr.grow ld f with f|f
   ·exact Z.n2 (.inr (.inr f))
   ·rw [Z.dl] at f;cases f
end
theorem inw {w due:Option Er} (h:w=due∨w=some .room∨w=some .words):inV (wdV w) [wdV due,.str "NoRoom",.str "TooManyWords"]=true:=by
 rcases h with rfl|rfl|rfl
 ·cases w with
  | none=>rfl
  | some e=>cases e<;>kernel_rfl
 ·cases due with
  | none=>kernel_rfl
  | some e=>cases e<;>kernel_rfl
 ·cases due with
  | none=>kernel_rfl
  | some e=>cases e<;>kernel_rfl
theorem Kr (w:Option Er):j5 (wdV w)=true:=by cases w<;>rfl
theorem Nz (w:Option Er) (z:Str):WW (wdV w) (.str z)=true:=by cases w<;>rfl
theorem NA {w:Option Er} {e:Er} (h:decide (wdV w=.str (FG e))=true):w=some e:=by
 have h:=of_decide_eq_true h
 cases w with
 | none=>cases h
 | some f =>
  injection h with h
  cases e<;>cases f<;>first|rfl|exact absurd h (by decide +kernel)
theorem OF {ws:List Wd} {fs:List (List Wd)} (dd:Dd):el ws fs dd≠some .room:=by
 cases dd<;>simp only [el]<;>(intro z;first|cases z|(split at z<;>first|cases z|(split at z<;>cases z)))
theorem Mr {ws:List Wd} {fs:List (List Wd)} (dd:Dd):el ws fs dd≠some .words:=by
 cases dd<;>simp only [el]<;>(intro z;first|cases z|(split at z<;>first|cases z|(split at z<;>cases z)))
abbrev FH:List Str:=["script", "heap", "hands", "fields", "deed", "due", "word"]
theorem sL:aA FH ["script"] (au iL):=⟨rfl,rfl,rfl,by decide +kernel,rfl,by decide +kernel,by decide +kernel⟩
theorem WL (F:Fun K "law" "law" iL D.rZ D.Iu) (T:Txt K mg D)
  (nu:Ok P w K mg base 6 D.fQ D.ku ["script"] (Km D K))
  (lA:Ok P w K mg base 3 D.cq D.jH ["script", "most"] (HP K))
  (iX:Ok P w K mg base 2 D.cI D.gP ["hands", "fields", "deed"] (Kn))
  (nv:Ok P w K mg base 10 D.fP D.kr ["hall", "deed"] (Kl D))
  (iY:Ok P w K mg base 1 D.cJ D.gQ ["hands", "fields", "deed"] (M4))
  (hG:Ok P w K mg base 8 D.bU D.fJ ["hall", "hands", "fields"] (Ko D)):Ok P w K mg base 11 D.rZ D.Iu ["script"] (Ly K):=by
 refine ⟨?_,F.binds (ps:=["script"]) fun _ _ _ _ _ _ us hl=>match us,hl with|[_],_=>rfl⟩
 refine F.okE sL (fun vs H Q E h=>?_) (fun cdv A' outer s' H vs Q E hr h=>?_)
 ·obtain ⟨a,ns,rfl,_⟩:=h
  rfl
 ·obtain ⟨a,ns,rfl,hS,hlen,k⟩:=h
  have S0:PS (cxE P w K mg base FH "law" (au iL) D.rZ cdv A' outer s' H E).nox ((bF iL).getD 0 (.Pass ⟨0,0,0,0⟩)) _:=(bp (i:=1) sL.nd rfl (Or.inl rfl) (br nu.g (hr.mono (by decide)) rfl T.Gg T.rg nu.b .nil iT (ab (pv 0) ao)))
  have S1:PS (cxE P w K mg base FH "law" (au iL) D.rZ cdv A' outer s' H E).nox ((bF iL).getD 1 (.Pass ⟨0,0,0,0⟩)) _:=(bp (i:=2) sL.nd rfl (Or.inl rfl) (dD CS (jM (ab gS ao)) aq))
  have S2:PS (cxE P w K mg base FH "law" (au iL) D.rZ cdv A' outer s' H E).nox ((bF iL).getD 2 (.Pass ⟨0,0,0,0⟩)) _:=(bp (i:=3) sL.nd rfl (Or.inl rfl) (jM ao))
  have S3:PS (cxE P w K mg base FH "law" (au iL) D.rZ cdv A' outer s' H E).nox ((bF iL).getD 3 (.Pass ⟨0,0,0,0⟩)) _:=(kO PassesOwn.never rfl (qd (br lA.g (hr.mono (by decide)) rfl T.El T.pb lA.b .nil iT (ab (pv 0) (ab aq ao)))) (fK (i:=4) sL.nd rfl (Or.inl rfl))
    (aj (bB (aI gK (aJ aF (pv 4) aq (fun _ _=>rfl)) aK (aU _))
     (ai (bp (i:=4) sL.nd rfl (Or.inl rfl) (fg (ab aK (ab (aJ aF (pv 4) aq (fun _ _=>rfl)) (ab (aJ aF (pv 4) aq (fun _ _=>rfl)) ao))))))
     aP)
    (aj (bp (i:=5) sL.nd rfl (Or.inl rfl) (br iX.g (hr.mono (by decide)) rfl T.Ap T.kI iX.b .nil iT (ab (pv 2) (ab (pv 3) (ab (pv 4) ao)))))
    (aj (bp (i:=6) sL.nd rfl (Or.inl rfl) (br nv.g (hr.mono (by decide)) rfl T.Gf T.rf nv.b .nil iT (ab (pv 1) (ab (pv 4) ao))))
    (aj (bB (aI Ea (pv 6) (fg (ab (pv 5) (ab aK (ab aK ao)))) (by with_unfolding_all rfl))
     (ai (aX pD))
     aP)
    (aj (bB (PW.pt (pw_or (PW.pt (pw_and (aI gK (pv 6) aK (aU _)) (pw_and1 (aI Ag (aJ aF (pv 4) aq (fun _ _=>rfl)) aK (aU _))))) (pw_or1 (PW.pt (pw_and (aI gK (pv 6) aK (aU _)) (pw_and1 (aI Ag (aJ aF (pv 4) aq (fun _ _=>rfl)) aK (aU _))))))))
     (ai (aX pD))
     aP)
    (aj (bB (aI Fz (pv 6) gS (aU _))
     (ai (aM (br iY.g (hr.mono (by decide)) rfl T.Aq T.kJ iY.b .nil iT (ab (pv 2) (ab (pv 3) (ab (pv 4) ao))))))
     aP)
    (ai (bB (lV (oB (br hG.g (hr.mono (by decide)) rfl T.uT T.jr hG.b .nil iT (ab (pv 1) (ab (pv 2) (ab (pv 3) ao))))))
     (ai (aX pD))
     aP)))))))))
  have S4:PS (cxE P w K mg base FH "law" (au iL) D.rZ cdv A' outer s' H E).nox ((bF iL).getD 4 (.Pass ⟨0,0,0,0⟩)) _:=(aX pD)
  have hb:bF iL=[(bF iL).getD 0 (.Pass ⟨0,0,0,0⟩),(bF iL).getD 1 (.Pass ⟨0,0,0,0⟩),(bF iL).getD 2 (.Pass ⟨0,0,0,0⟩),(bF iL).getD 3 (.Pass ⟨0,0,0,0⟩),(bF iL).getD 4 (.Pass ⟨0,0,0,0⟩)]:=rfl
  generalize (bF iL).getD 0 (.Pass ⟨0,0,0,0⟩)=st0 at S0 hb
  generalize (bF iL).getD 1 (.Pass ⟨0,0,0,0⟩)=st1 at S1 hb
  generalize (bF iL).getD 2 (.Pass ⟨0,0,0,0⟩)=st2 at S2 hb
  generalize (bF iL).getD 3 (.Pass ⟨0,0,0,0⟩)=st3 at S3 hb
  generalize (bF iL).getD 4 (.Pass ⟨0,0,0,0⟩)=st4 at S4 hb
  generalize bF iL=bd at hb ⊢
  subst hb
  refine ⟨_,(PSs.nox (aj S0 (aj S1 (aj S2 (aj S3 (ai S4)))))),?_⟩
  refine ⟨_,rfl,a,ns,rfl,hS,fun x A room limit H1 s1 F0 J0 _=>?_⟩
  refine ⟨by show 1≤sizeLine;decide,fun p1 hp1=>⟨p1,8,_,rfl,rfl,ag,by decide,by decide,by show 1*8≤sizeLine;decide,fun lh hlh=>?_⟩⟩
  refine ⟨by show 0≤sizeLine;decide,fun lf hlf=>?_⟩
  have a1:=aG.upd (o:=.lst [V.non]) hp1
  have a2:=aG.upd (o:=.lst (List.replicate 8 V.non)) hlh
  have a3:=aG.upd (o:=.lst ([]:List V)) hlf
  have c1:=(a1.trans a2).trans a3
  have zlh:=a3 _ _ (ag (o:=.lst (List.replicate 8 V.non)))
  have zlf:=JT a3
  have flh:H1 lh=none:=aG.none a1 hlh
  have flf:H1 lf=none:=aG.none (a1.trans a2) hlf
  have nhf:lh≠lf:=ar (ag (o:=.lst (List.replicate 8 V.non))) hlf
  refine ⟨_,rfl,a,ns,120,rfl,(s1.trans c1).seq hS,hlen,fun ld dv HF sF hld zld ldv zds=>?_⟩
  have nld:∀ {b:Addr} {u:HO},upd (upd (upd H1 p1 (.lst [V.non])) lh (.lst (List.replicate 8 V.non))) lf (.lst ([]:List V)) b=some u→ld≠b:=fun q=>Ne.symm (ar q hld)
  have Z0:KM D HF x A (s0 (decide (room>0)) room limit) lh lf (List.replicate 8 V.non) [] (fun _=>[]) (s0 (decide (room>0)) room limit).aH [] ld dv :=
   ⟨(J0.same c1).same sF,⟨sF _ _ zlh,Rel.nil,rfl,sF _ _ zlf,rfl,(fun i hi=>absurd hi (by show ¬i<0;omega)),nhf,(fun r m=>by cases m),List.Pairwise.nil,by show 0≤10000;decide,(fun w m=>by cases m),(fun t m=>by have:=List.eq_of_mem_replicate m;cases this),(fun w m=>by cases m)⟩,zld,zds,
    (fun b f=>by
     rcases f with rfl|rfl|f
     ·exact J0.fresh flh
     ·exact J0.fresh flf
     ·cases f),J0.fresh (aG.none c1 hld),(fun f=>by
     rcases f with f|f|f
     ·exact nld zlh f
     ·exact nld zlf f
     ·cases f)⟩
  clear zlh zlf a1 a2 a3 hp1 hlh hlf nld
  refine ⟨ld,rfl,⟨_,SqL.of zld⟩,CD (K:=K) (a:=ld) (xs:=dv) (fun i σ Hx=>∃ A s hx rs rx fs v4 v5 v6,σ=[some (.ref a),some (.ref x),some (.ref lh),some (.ref lf),v4,v5,v6]∧KM D Hx x A s lh lf hx rs rx s.aH fs ld dv∧Gd s∧Pl s fs∧s.nxt≤i)
   ⟨A,_,_,_,_,_,none,none,none,rfl,Z0,gd0,⟨(fun t ws m=>nomatch m),rfl⟩,Int.le_refl _⟩ (fun i σ Hx _ ⟨_,_,_,_,_,_,_,_,_,_,Z,_⟩=>SqL.of Z.dl) ?_ ?_⟩
  ·rintro i v σ Hx hi ⟨A,s,hx,rs,rx,fs,v4,v5,v6,rfl,Z,Gs,pl,sn⟩
   have hil:i<dv.length:=(List.getElem?_eq_some_iff.mp hi).1
   obtain ⟨q,dd,rfl,hq,ok⟩:=Z.ds v (List.mem_of_getElem? hi)
   simp only [kS]
   refine je fun N hN=>?_
   have few:s.nxt<10000:=by omega
   have main:∀ (q:Addr) (dd:Dd) (Hy:Hp),aG Hx Hy→Hy q=some (.tup (Dd.its dd))→dd.ok→ZA dd→N [some (.ref a),some (.ref x),some (.ref lh),some (.ref lf),some (.ref q),v5,v6] Hy:=by
    intro q dd Hy sy hq ok nr
    refine hN _ _ ?_
    have Zy:=Z.same sy
    refine ⟨_,rfl,_,rfl,_,rfl,lh,lf,hx,rs,rx,s.aH,fs,q,dd,rfl,Zy.m,hq,ok,fun H1 s1=>?_⟩
    have Z1:=Zy.same s1
    replace hq:=s1 _ _ hq
    refine ⟨_,rfl,_,rfl,x,A,s,q,dd,rfl,Z1.j,Gs,few,hq,ok,fun A3 H3 J3 fr=>?_⟩
    have Z3:=Z1.heap J3 fr
    have hq3:=fr.tup _ _ hq
    obtain ⟨G3,n3,n4⟩:=Ze Gs few ok
    have pd:=Zf Gs pl ok nr
    obtain ⟨s',es'⟩:∃ s',(dDo s dd).2=s':=⟨_,rfl⟩
    rw [es'] at Z3 G3 n3 n4 pd J3 fr
    obtain ⟨w,ew⟩:∃ w,(dDo s dd).1=w:=⟨_,rfl⟩
    rw [ew] at pd ⊢
    have aaN:w=el s.aH fs dd∨w=some .room∨w=some .words:=by
     cases w with
     | none=>exact .inl pd.1.symm
     | some e =>
      rcases pd.2.2 with z|⟨z,_⟩|⟨z,_⟩
      ·exact .inl z.symm
      ·exact .inr (.inl (by rw [z]))
      ·exact .inr (.inr (by rw [z]))
    refine ⟨_,rfl,_,rfl,by show 3≤sizeLine;decide,fun tq htq=>⟨tq,_,rfl,.inr (SqT.of ag),Kr w,(by show (j5 (wdV (el s.aH fs dd))&&true)=true;rw [Kr];rfl),_,rfl,xA (by rw [inw aaN];rfl) ?_⟩⟩
    have s4:=aG.upd (o:=.tup [wdV (el s.aH fs dd),.str "NoRoom",.str "TooManyWords"]) htq
    have Z4:=Z3.same s4
    replace hq3:=s4 _ _ hq3
    obtain ⟨H4,e4⟩:∃ H4,upd H3 tq (.tup [wdV (el s.aH fs dd),.str "NoRoom",.str "TooManyWords"])=H4:=⟨_,rfl⟩
    rw [e4] at Z4 hq3
    simp only [Nk]
    rw [e4]
    clear e4 s4
    refine je fun N2 hN2=>?_
    have go2:N2 [some (.ref a),some (.ref x),some (.ref lh),some (.ref lf),some (.ref q),some (wdV (el s.aH fs dd)),some (wdV w)] H4:=by
     refine hN2 _ _ ?_
     refine je fun N3 hN3=>?_
     have go3:∀ (hx:List V) (rs:List Addr) (rx:Nat→List V) (fs':List (List Wd)) (H5:Hp),KM D H5 x A3 s' lh lf hx rs rx s'.aH fs' ld dv→Pl s' fs'→N3 [some (.ref a),some (.ref x),some (.ref lh),some (.ref lf),some (.ref q),some (wdV (el s.aH fs dd)),some (wdV w)] H5:=by
      intro hx rs rx fs' H5 Z5 p5
      refine hN3 _ _ ?_
      exact ⟨_,rfl,_,rfl,_,rfl,x,A3,s',lh,lf,hx,rs,rx,fs',rfl,Z5.j,G3.g,Z5.m,p5.rel,fun H6 s6=>⟨true,rfl,fY ⟨A3,s',hx,rs,rx,fs',_,_,_,rfl,Z5.same s6,G3,p5,by omega⟩⟩⟩
     cases w with
     | some e =>
      obtain ⟨p1,ph,_⟩:=pd
      rw [←ph] at Z4
      exact ⟨_,rfl,rfl,_,rfl,av (fun h=>absurd (of_decide_eq_true h) (by intro z;cases z)) (fun _=>go3 _ _ _ _ _ Z4 p1)⟩
     | none =>
      obtain ⟨p0,p1,ph⟩:=pd
      refine ⟨_,rfl,rfl,_,rfl,av (fun _=>?_) (fun h=>absurd (by simp [wdV]) h)⟩
      refine ⟨_,rfl,_,rfl,_,rfl,lh,lf,hx,rs,rx,s.aH,fs,q,dd,rfl,Z4.m,hq3,ok,p0,(by have:=pl.nx;omega),fun hx' rs' rx' H5 M5 l5=>?_⟩
      have Z5:=Z4.fol M5 l5
      rw [←ph] at Z5
      exact go3 _ _ _ _ _ Z5 p1
    refine ⟨_,rfl,Nz w _,_,rfl,av (fun h1=>?_) (fun h1=>fY ⟨_,rfl,Nz w _,_,rfl,av (fun h2=>?_) (fun _=>fY go2)⟩)⟩
    ·have e1:w=some .room:=NA (e:=.room) h1
     have mk:ZC dd=true:=by
      subst e1
      rcases pd.2.2 with z|⟨_,z⟩|⟨z,_⟩
      ·exact absurd z (OF dd)
      ·exact z
      ·cases z
     cases dd with
     | make h n =>
      replace hq3:H4 q=some (.tup [.str "make",.int h,.int n]):=hq3
      exact ⟨_,rfl,q,_,0,.str "make",rfl,rfl,SqT.of hq3,rfl,rfl,_,rfl,av (fun z=>absurd z (by decide +kernel)) (fun _=>⟨_,rfl,Nz w _,_,rfl,av (fun h2=>absurd (NA (e:=.words) h2) (by rw [e1];intro z;cases z)) (fun _=>fY go2)⟩)⟩
     | _=>cases mk
    ·have e1:w=some .words:=NA (e:=.words) h2
     have mk:ZD dd=true:=by
      subst e1
      rcases pd.2.2 with z|⟨z,_⟩|⟨_,z⟩
      ·exact absurd z (Mr dd)
      ·cases z
      ·exact z
     cases dd with
     | word h n =>
      replace hq3:H4 q=some (.tup [.str "word",.int h,.int n]):=hq3
      exact ⟨_,rfl,q,_,0,.str "word",rfl,rfl,SqT.of hq3,rfl,rfl,_,rfl,av (fun z=>absurd z (by decide +kernel)) (fun _=>go2)⟩
     | _=>cases mk
   cases dd with
   | read h w =>
    replace hq:Hx q=some (.tup [.str "read",.int h,.int w]):=hq
    refine ⟨_,rfl,q,_,0,.str "read",rfl,rfl,SqT.of hq,rfl,rfl,_,rfl,av (fun _=>?_) (fun z=>absurd (by decide +kernel) z)⟩
    refine ⟨_,rfl,q,_,1,.int h,rfl,rfl,SqT.of hq,rfl,_,rfl,q,_,2,.int w,rfl,rfl,SqT.of hq,rfl,by show 3≤sizeLine;decide,fun q2 hq2=>?_⟩
    exact main q2 (.copy h w) _ (aG.upd hq2) ag ok trivial
   | make h n =>
    replace hq:Hx q=some (.tup [.str "make",.int h,.int n]):=hq
    exact ⟨_,rfl,q,_,0,.str "make",rfl,rfl,SqT.of hq,rfl,rfl,_,rfl,av (fun z=>absurd z (by decide +kernel)) (fun _=>main q (.make h n) _ (fun _ _ z=>z) hq ok trivial)⟩
   | store g kk h =>
    replace hq:Hx q=some (.tup [.str "store",.int g,.int kk,.int h]):=hq
    exact ⟨_,rfl,q,_,0,.str "store",rfl,rfl,SqT.of hq,rfl,rfl,_,rfl,av (fun z=>absurd z (by decide +kernel)) (fun _=>main q (.store g kk h) _ (fun _ _ z=>z) hq ok trivial)⟩
   | load h g kk =>
    replace hq:Hx q=some (.tup [.str "load",.int h,.int g,.int kk]):=hq
    exact ⟨_,rfl,q,_,0,.str "load",rfl,rfl,SqT.of hq,rfl,rfl,_,rfl,av (fun z=>absurd z (by decide +kernel)) (fun _=>main q (.load h g kk) _ (fun _ _ z=>z) hq ok trivial)⟩
   | copy h g =>
    replace hq:Hx q=some (.tup [.str "copy",.int h,.int g]):=hq
    exact ⟨_,rfl,q,_,0,.str "copy",rfl,rfl,SqT.of hq,rfl,rfl,_,rfl,av (fun z=>absurd z (by decide +kernel)) (fun _=>main q (.copy h g) _ (fun _ _ z=>z) hq ok trivial)⟩
   | drop h =>
    replace hq:Hx q=some (.tup [.str "drop",.int h]):=hq
    exact ⟨_,rfl,q,_,0,.str "drop",rfl,rfl,SqT.of hq,rfl,rfl,_,rfl,av (fun z=>absurd z (by decide +kernel)) (fun _=>main q (.drop h) _ (fun _ _ z=>z) hq ok trivial)⟩
   | number h z =>
    replace hq:Hx q=some (.tup [.str "number",.int h,.int z]):=hq
    exact ⟨_,rfl,q,_,0,.str "number",rfl,rfl,SqT.of hq,rfl,rfl,_,rfl,av (fun z=>absurd z (by decide +kernel)) (fun _=>main q (.number h z) _ (fun _ _ z=>z) hq ok trivial)⟩
   | name w h =>
    replace hq:Hx q=some (.tup [.str "name",.int w,.int h]):=hq
    exact ⟨_,rfl,q,_,0,.str "name",rfl,rfl,SqT.of hq,rfl,rfl,_,rfl,av (fun z=>absurd z (by decide +kernel)) (fun _=>main q (.name w h) _ (fun _ _ z=>z) hq ok trivial)⟩
   | word h z =>
    replace hq:Hx q=some (.tup [.str "word",.int h,.int z]):=hq
    exact ⟨_,rfl,q,_,0,.str "word",rfl,rfl,SqT.of hq,rfl,rfl,_,rfl,av (fun z=>absurd z (by decide +kernel)) (fun _=>main q (.word h z) _ (fun _ _ z=>z) hq ok trivial)⟩
   | small  =>
    replace hq:Hx q=some (.tup [.str "small"]):=hq
    exact ⟨_,rfl,q,_,0,.str "small",rfl,rfl,SqT.of hq,rfl,rfl,_,rfl,av (fun z=>absurd z (by decide +kernel)) (fun _=>main q (.small) _ (fun _ _ z=>z) hq ok trivial)⟩
   | turn  =>
    replace hq:Hx q=some (.tup [.str "turn"]):=hq
    exact ⟨_,rfl,q,_,0,.str "turn",rfl,rfl,SqT.of hq,rfl,rfl,_,rfl,av (fun z=>absurd z (by decide +kernel)) (fun _=>main q (.turn) _ (fun _ _ z=>z) hq ok trivial)⟩
  ·rintro σ Hx ⟨A,s,hx,rs,rx,fs,v4,v5,v6,rfl,Z,Gs,pl,sn⟩
   exact k Hx
end
end K14
end
section
namespace K14
open PySem L2 LX
open PySem.W
section
variable {K:Frag}
def LK (K:Frag) (n q:Str) (s:Stmt) (f:Addr):Prop:=(∃ d,Fun K n q s f d)∧keepIn K (.ref f)=true∧isFn K (.ref f)=true
theorem LK.mk {n q:Str} {s:Stmt} {f:Addr} {od an:Option Addr} {sl:Array (Option Value)} {oc kV dc pm cd ct:Value} (h1:K.lookup f=some ⟨oc,od,.func (fnOf n q (qe s) (bF s) (au s) .none kV dc pm an cd ct),sl⟩) (h2:codeIn K cd q=true) (h3:keepIn K (.ref f)=true) (h4:isFn K (.ref f)=true):LK K n q s f:=⟨⟨_,Wh (st:=s) h1 h2 h3⟩,h3,h4⟩
def FI (K:Frag) (c:Addr) (n:Str) (f:Addr):Prop:=findIn K (.ref c) n=some (some (.ref f))
def NF (K:Frag) (c:Addr) (n:Str):Prop:=findIn K (.ref c) n=some none
structure PK (K:Frag) (c:Addr):Prop where
 g:plainGet K c Str.empty=true
 d:hasDictIn K c=true
 o:plainOver K c=true
 s:findIn K (.ref c) "__setattr__" = some (some (.builtin "object.__setattr__"))
 k:keepIn K (.ref c)=true
structure EK (K:Frag) (b e i:Addr):Prop where
 x:FD K e=true
 a:findIn K (.ref e) "__getattribute__" = some (some (.builtin "BaseException.__getattribute__"))
 t:findIn K (.ref e) "__getattr__" = some none
 c:findIn K (.ref e) "__class__" = some (some (.builtin "object.__class__"))
 i:findIn K (.ref e) "__init__" = some (some (.ref i))
 k:keepIn K (.ref e)=true
 v:kitOne K (.ref e) (.type "ValueError")=some true
 s:mroIn K e (.ref b)=some true
end
theorem all_mk {l:OpenLaw} {w:World} {K:Frag} {h:Heap} {mg:Str→Option Value} {fa aR cc bg dA dE bA hR fR fS aW aL aD aY aa ak cg cj bQ bR cH ba ck cn c5 cE hU fW bN bc cC b8 cp cN bL bS dS fL dQ dO eK fM aZ bG cO bY eB bH cP cu bZ b9 bO eR dP eS eT cZ eU bD eV bt cF a6 bj dH bI cQ cR cS cv b4 cT cU bE cw dq bJ fH e7 cx c6 fO eC fP eD cI cJ bU fQ cq rZ:Addr} {Cj kU ka kW kX kY ju:Tok} (X:K.In h) (G:h.Ns mainGlobals mg) (hfa:mg "law" = some (.ref fa))
  (nH:nsIn K mainGlobals "HeapError" = some (some (.ref aR)))
  (xH:FD K aR=true)
  (BH:nsIn K mainGlobals "number_value" = some (some (.ref c5)))
  (Dm:nsIn K mainGlobals "thing_value" = some (some (.ref cE)))
  (Li:nsIn K mainGlobals "kind_of" = some (some (.ref hU)))
  (IU:nsIn K mainGlobals "words_of" = some (some (.ref fW)))
  (yr:nsIn K mainGlobals "look_at_number" = some (some (.ref bN)))
  (BI:nsIn K mainGlobals "look_at_hand" = some (some (.ref bc)))
  (BJ:nsIn K mainGlobals "look_at_name" = some (some (.ref cC)))
  (AI:nsIn K mainGlobals "look_at_field" = some (some (.ref b8)))
  (yt:nsIn K mainGlobals "look_at_limits" = some (some (.ref cp)))
  (EI:nsIn K mainGlobals "last_steps" = some (some (.ref eB)))
  (Dn:nsIn K mainGlobals "thing_among" = some (some (.ref dH)))
  (BK:nsIn K mainGlobals "_law_numbers" = some (some (.ref c6)))
  (Gw:nsIn K mainGlobals "_law_deed" = some (some (.ref fO)))
  (EJ:nsIn K mainGlobals "_law_plain" = some (some (.ref eC)))
  (Gx:nsIn K mainGlobals "_law_done" = some (some (.ref fP)))
  (EL:nsIn K mainGlobals "_law_thing" = some (some (.ref eD)))
  (AJ:nsIn K mainGlobals "_law_word_due" = some (some (.ref cI)))
  (AK:nsIn K mainGlobals "_law_followed" = some (some (.ref cJ)))
  (vC:nsIn K mainGlobals "_law_asks_right" = some (some (.ref bU)))
  (Gy:nsIn K mainGlobals "_law_heap" = some (some (.ref fQ)))
  (EM:nsIn K mainGlobals "_law_deeds" = some (some (.ref cq)))
  (RZ:nsIn K mainGlobals "law" = some (some (.ref rZ)))
  (Ms:nsIn K mainGlobals "Hands" = some (some (.ref aW)))
  (rK:PK K aW)
  (Mt:FI K aW "__init__" cN)
  (CJ:makesIn K aW=true)
  (rL:NF K aW "words_held")
  (yu:FI K aW "word_in" bL)
  (tM:FI K aW "all_words" bS)
  (EN:FI K aW "put" dS)
  (Dp:FI K aW "copy" fL)
  (AL:FI K aW "number" dQ)
  (Dq:FI K aW "kind" dO)
  (BL:FI K aW "value" eK)
  (Dr:FI K aW "same" fM)
  (tN:FI K aW "thing_due" aZ)
  (EO:nsIn K mainGlobals "WordTable" = some (some (.ref aL)))
  (jJ:PK K aL)
  (ER:FI K aL "__init__" bG)
  (oU:makesIn K aL=true)
  (mR:NF K aL "words_borne")
  (nM:NF K aL "words_said")
  (vD:FI K aL "bear" cO)
  (rM:FI K aL "settle" bY)
  (ES:nsIn K mainGlobals "NameTable" = some (some (.ref aD)))
  (jK:PK K aD)
  (ET:FI K aD "__init__" bH)
  (oV:makesIn K aD=true)
  (mh:NF K aD "things_named")
  (vE:FI K aD "name" cP)
  (tO:FI K aD "named" cu)
  (rN:FI K aD "settle" bZ)
  (OG:nsIn K mainGlobals "Heap" = some (some (.ref aY)))
  (yv:PK K aY)
  (OH:FI K aY "__init__" b9)
  (JU:makesIn K aY=true)
  (rO:NF K aY "makes_young")
  (yw:NF K aY "in_hands")
  (tP:NF K aY "weak_names")
  (tQ:NF K aY "last_words")
  (rP:NF K aY "fields_held")
  (qw:NF K aY "young_things")
  (tR:NF K aY "next_thing")
  (vF:FI K aY "add_thing" bO)
  (EU:FI K aY "load" eR)
  (Ds:FI K aY "store" dP)
  (EV:FI K aY "copy" eS)
  (EW:FI K aY "drop" eT)
  (BM:FI K aY "number" cZ)
  (EX:FI K aY "name" eU)
  (tS:FI K aY "read_thing" bD)
  (EY:FI K aY "word" eV)
  (rQ:FI K aY "small_round" bt)
  (BN:FI K aY "let_go" cF)
  (rR:FI K aY "words_among" a6)
  (vG:FI K aY "led_among" bj)
  (OI:readsIn K aY (.type "type")=true)
  (OJ:findCls K (.ref aY) (.type "type") "__init__" = some (.val (.ref b9)))
  (OK:specialIn K (.ref aY) "__getattribute__" = some (some (.builtin "type.__getattribute__")))
  (EZ:nsIn K mainGlobals "IdealHeap" = some (some (.ref aa)))
  (jL:PK K aa)
  (E0:FI K aa "__init__" bI)
  (oW:makesIn K aa=true)
  (mS:NF K aa "makes_young")
  (pW:NF K aa "in_hands")
  (nN:NF K aa "weak_names")
  (nO:NF K aa "last_words")
  (mT:NF K aa "fields_held")
  (mj:NF K aa "young_things")
  (nP:NF K aa "next_thing")
  (nQ:NF K aa "young_room")
  (tT:NF K aa "limit")
  (lB:NF K aa "doomed_things")
  (pX:NF K aa "in_round")
  (oz:FI K aa "add_thing" bO)
  (vH:FI K aa "load" eR)
  (tU:FI K aa "store" dP)
  (vI:FI K aa "copy" eS)
  (vJ:FI K aa "drop" eT)
  (rS:FI K aa "number" cZ)
  (vK:FI K aa "name" eU)
  (nR:FI K aa "read_thing" bD)
  (vL:FI K aa "word" eV)
  (mU:FI K aa "small_round" bt)
  (rT:FI K aa "let_go" cF)
  (mV:FI K aa "words_among" a6)
  (oA:FI K aa "led_among" bj)
  (vM:FI K aa "make" cQ)
  (vN:FI K aa "read" cR)
  (vO:FI K aa "kind" cS)
  (tV:FI K aa "value" cv)
  (rU:FI K aa "fields" b4)
  (vP:FI K aa "same" cT)
  (vQ:FI K aa "held" cU)
  (tW:FI K aa "small" bE)
  (tX:FI K aa "begin" cw)
  (yx:FI K aa "end" dq)
  (pY:FI K aa "round_on" bJ)
  (tY:FI K aa "hands" fH)
  (rV:FI K aa "things" e7)
  (tZ:FI K aa "spare" cx)
  (IV:nsIn K mainGlobals "BadCount" = some (some (.ref cc)))
  (fi0:FI K cc "__init__" ak)
  (gH:EK K aR cc ak)
  (Gz:FI K cc "called" bR)
  (Lj:nsIn K mainGlobals "BadHand" = some (some (.ref bg)))
  (iE:EK K aR bg ak)
  (IW:FI K bg "called" cg)
  (Lk:nsIn K mainGlobals "BadName" = some (some (.ref dA)))
  (iF:EK K aR dA ak)
  (IX:FI K dA "called" cj)
  (IY:nsIn K mainGlobals "BadField" = some (some (.ref dE)))
  (gI:EK K aR dE ak)
  (GA:FI K dE "called" bQ)
  (BO:nsIn K mainGlobals "TooManyWords" = some (some (.ref bA)))
  (dz:EK K aR bA ak)
  (AM:FI K bA "called" ba)
  (Mu:nsIn K mainGlobals "NoRoom" = some (some (.ref hR)))
  (jg:EK K aR hR ak)
  (Ll:FI K hR "called" cH)
  (Lm:nsIn K mainGlobals "RoundOn" = some (some (.ref fR)))
  (iG:EK K aR fR ak)
  (IZ:FI K fR "called" ck)
  (Ln:nsIn K mainGlobals "NoRound" = some (some (.ref fS)))
  (iH:EK K aR fS ak)
  (I0:FI K fS "called" cn)
  (qx:LK K "__init__" "HeapError.__init__" hV ak)
  (yy:LK K "called" "BadHand.called" nU cg)
  (yz:LK K "called" "BadName.called" nV cj)
  (vR:LK K "called" "BadField.called" mC bQ)
  (vS:LK K "called" "BadCount.called" mD bR)
  (AN:LK K "called" "NoRoom.called" pE cH)
  (pZ:LK K "called" "TooManyWords.called" jN ba)
  (yA:LK K "called" "RoundOn.called" nW ck)
  (yB:LK K "called" "NoRound.called" nX cn)
  (BP:LK K "number_value" "number_value" lM c5)
  (Dt:LK K "thing_value" "thing_value" nB cE)
  (Lo:LK K "kind_of" "kind_of" zM hU)
  (Ja:LK K "words_of" "words_of" uz fW)
  (yC:LK K "look_at_number" "look_at_number" jQ bN)
  (BQ:LK K "look_at_hand" "look_at_hand" lN bc)
  (BR:LK K "look_at_name" "look_at_name" lO cC)
  (AO:LK K "look_at_field" "look_at_field" kB b8)
  (yD:LK K "look_at_limits" "look_at_limits" jR cp)
  (yE:LK K "__init__" "Hands.__init__" jS cN)
  (AQ:LK K "word_in" "Hands.word_in" kC bL)
  (vT:LK K "all_words" "Hands.all_words" jh bS)
  (GB:LK K "put" "Hands.put" qR dS)
  (E1:LK K "copy" "Hands.copy" oM fL)
  (BS:LK K "number" "Hands.number" lP dQ)
  (E3:LK K "kind" "Hands.kind" oN dO)
  (Du:LK K "value" "Hands.value" nC eK)
  (E4:LK K "same" "Hands.same" oO fM)
  (vU:LK K "thing_due" "Hands.thing_due" ji aZ)
  (qy:LK K "__init__" "WordTable.__init__" hW bG)
  (yF:LK K "bear" "WordTable.bear" jT cO)
  (t9:LK K "settle" "WordTable.settle" iZ bY)
  (E5:LK K "last_steps" "last_steps" oP eB)
  (qz:LK K "__init__" "NameTable.__init__" hX bH)
  (yG:LK K "name" "NameTable.name" jU cP)
  (vV:LK K "named" "NameTable.named" jj cu)
  (ua:LK K "settle" "NameTable.settle" gy bZ)
  (AR:LK K "__init__" "Heap.__init__" kD b9)
  (yI:LK K "add_thing" "Heap.add_thing" jV bO)
  (GC:LK K "load" "Heap.load" qS eR)
  (E6:LK K "store" "Heap.store" oQ dP)
  (GD:LK K "copy" "Heap.copy" qT eS)
  (GF:LK K "drop" "Heap.drop" qU eT)
  (Dv:LK K "number" "Heap.number" nD cZ)
  (GG:LK K "name" "Heap.name" qV eU)
  (vW:LK K "read_thing" "Heap.read_thing" jk bD)
  (GH:LK K "word" "Heap.word" qW eV)
  (ub:LK K "small_round" "Heap.small_round" gz bt)
  (Dw:LK K "let_go" "Heap.let_go" nE cF)
  (uc:LK K "words_among" "Heap.words_among" gA a6)
  (yJ:LK K "led_among" "Heap.led_among" fZ bj)
  (Dx:LK K "thing_among" "thing_among" nF dH)
  (qA:LK K "__init__" "IdealHeap.__init__" hZ bI)
  (yK:LK K "make" "IdealHeap.make" jW cQ)
  (yL:LK K "read" "IdealHeap.read" jX cR)
  (yM:LK K "kind" "IdealHeap.kind" jY cS)
  (vX:LK K "value" "IdealHeap.value" jl cv)
  (ud:LK K "fields" "IdealHeap.fields" i0 b4)
  (yN:LK K "same" "IdealHeap.same" jZ cT)
  (yO:LK K "held" "IdealHeap.held" j0 cU)
  (vY:LK K "small" "IdealHeap.small" jm bE)
  (vZ:LK K "begin" "IdealHeap.begin" jn cw)
  (AS:LK K "end" "IdealHeap.end" kF dq)
  (qB:LK K "round_on" "IdealHeap.round_on" h9 bJ)
  (v8:LK K "hands" "IdealHeap.hands" uG fH)
  (ue:LK K "things" "IdealHeap.things" sQ e7)
  (v9:LK K "spare" "IdealHeap.spare" jo cx)
  (BU:LK K "_law_numbers" "_law_numbers" lQ c6)
  (GI:LK K "_law_deed" "_law_deed" qX fO)
  (E7:LK K "_law_plain" "_law_plain" oR eC)
  (GJ:LK K "_law_done" "_law_done" qY fP)
  (E8:LK K "_law_thing" "_law_thing" oS eD)
  (AU:LK K "_law_word_due" "_law_word_due" kG cI)
  (AV:LK K "_law_followed" "_law_followed" kH cJ)
  (wa:LK K "_law_asks_right" "_law_asks_right" jq bU)
  (GK:LK K "_law_heap" "_law_heap" qZ fQ)
  (E9:LK K "_law_deeds" "_law_deeds" bw cq)
  (Zg:LK K "law" "law" iL rZ)
  (ql:nsIn K mainGlobals "len" = some none)
  (sA:nsIn K mainGlobals "range" = some none)
  (CZ:nsIn K mainGlobals "list" = some none)
  (CK:nsIn K mainGlobals "sorted" = some none)
  (Nu:nsIn K mainGlobals "sum" = some none)
  (Nv:nsIn K mainGlobals "abs" = some none)
  (pe:nsIn K mainGlobals "isinstance" = some none)
  (Ju:nsIn K mainGlobals "bool" = some none)
  (mY:nsIn K mainGlobals "enumerate" = some none)
  (pj:nsIn K mainGlobals "ValueError" = some none)
  (Co:nsIn K mainGlobals "HANDS" = some (some (.int 8 Cj)))
  (k7:nsIn K mainGlobals "WEAK_NAMES" = some (some (.int 8 kU)))
  (nJ:nsIn K mainGlobals "MOST_FIELDS" = some (some (.int 6 ka)))
  (k8:nsIn K mainGlobals "LEAST_ROOM" = some (some (.int 7 kW)))
  (pk:nsIn K mainGlobals "MOST_YOUNG" = some (some (.int 64 kX)))
  (pq:nsIn K mainGlobals "MOST_LIMIT" = some (some (.int 400 kY)))
  (jw:nsIn K mainGlobals "MOST_BEARERS" = some (some (.int 12 ju))) :
  ∃ fd:FuncData,(∀ (s:Shared) (v:Value),BindsTo s fd ⟨[v],[]⟩ [("script",v)])∧∀ base:Heap,K.In base→base.Ns mainGlobals mg→xI l.prog w K mg base (CXE l.prog w) 11 fa fd ["script"] (Ly K):=by
 have e:=(mg_of X G RZ).symm.trans hfa
 cases e
 obtain ⟨cdH,_,yH⟩:=l8 xH
 obtain ⟨zX,GL,uE⟩:=l8 gH.x
 obtain ⟨Cy,Jb,zO⟩:=l8 iE.x
 obtain ⟨Cz,Jd,zP⟩:=l8 iF.x
 obtain ⟨zY,GN,uF⟩:=l8 gI.x
 obtain ⟨pK,AW,lU⟩:=l8 dz.x
 obtain ⟨D8,Lp,CN⟩:=l8 jg.x
 obtain ⟨CA,Je,zQ⟩:=l8 iG.x
 obtain ⟨CB,Jf,zR⟩:=l8 iH.x
 have su:∀ {D:Addr} {cd:ClassData},clsIn K D=some cd→gL K D cd→mroIn K D (.ref aR)=some true→∃ cd,gL K D cd∧cd.mro.contains (.ref aR)=true:=fun {D cd} hc y sb=>⟨cd,y,by
  unfold mroIn at sb
  rw [hc,Option.bind_some,if_neg (by rw [y.xv];decide)] at sb
  exact Option.some.inj sb⟩
 have m:=fun {n:Str} {v:Value} (q:nsIn K mainGlobals n=some (some v))=>mg_of X G q
 obtain ⟨⟨aB,qC⟩,FJ,bK⟩:=qx
 obtain ⟨⟨eE,yP⟩,yQ,yR⟩:=yy
 obtain ⟨⟨eF,yS⟩,yT,yU⟩:=yz
 obtain ⟨⟨dX,wc⟩,we,wg⟩:=vR
 obtain ⟨⟨dY,wj⟩,wk,wm⟩:=vS
 obtain ⟨⟨fq,AX⟩,AY,AZ⟩:=AN
 obtain ⟨⟨cz,p9⟩,qa,qb⟩:=pZ
 obtain ⟨⟨eG,yV⟩,yW,yX⟩:=yA
 obtain ⟨⟨eI,yY⟩,yZ,y8⟩:=yB
 obtain ⟨⟨ia,BV⟩,lR,LN⟩:=BP
 obtain ⟨⟨fT,Dy⟩,iS,M6⟩:=Dt
 obtain ⟨⟨lY,Lq⟩,se,WO⟩:=Lo
 obtain ⟨⟨j9,Jg⟩,pG,R0⟩:=Ja
 obtain ⟨⟨eJ,y9⟩,ie,Ks⟩:=yC
 obtain ⟨⟨b7,BW⟩,da,LO⟩:=BQ
 obtain ⟨⟨gr,BX⟩,jv,LP⟩:=BR
 obtain ⟨⟨ft,A0⟩,iU,Lz⟩:=AO
 obtain ⟨⟨f7,za⟩,j1,Kt⟩:=yD
 obtain ⟨⟨f9,zb⟩,Ku,zc⟩:=yE
 obtain ⟨⟨dj,A5⟩,A7,A8⟩:=AQ
 obtain ⟨⟨dZ,wo⟩,wq,wx⟩:=vT
 obtain ⟨⟨gG,GO⟩,GP,GQ⟩:=GB
 obtain ⟨⟨jB,Fb⟩,Fc,Fd⟩:=E1
 obtain ⟨⟨ib,BY⟩,BZ,B7⟩:=BS
 obtain ⟨⟨gJ,Fe⟩,Ff,Fg⟩:=E3
 obtain ⟨⟨iP,Dz⟩,DA,DB⟩:=Du
 obtain ⟨⟨jC,Fh⟩,Fi,Fj⟩:=E4
 obtain ⟨⟨bT,wz⟩,wA,wB⟩:=vU
 obtain ⟨⟨dF,qD⟩,FK,qE⟩:=qy
 obtain ⟨⟨gb,zd⟩,ze,zg⟩:=yF
 obtain ⟨⟨eW,uf⟩,ug,uh⟩:=t9
 obtain ⟨⟨jD,Fl⟩,oX,NJ⟩:=E5
 obtain ⟨⟨dG,qF⟩,FL,qG⟩:=qz
 obtain ⟨⟨gc,zh⟩,zi,zj⟩:=yG
 obtain ⟨⟨fD,wC⟩,wD,wF⟩:=vV
 obtain ⟨⟨eX,ui⟩,uj,uk⟩:=ua
 obtain ⟨⟨gN,A9⟩,Ba,Bb⟩:=AR
 obtain ⟨⟨gf,zk⟩,oa,oe⟩:=yI
 obtain ⟨⟨ki,GR⟩,zZ,z6⟩:=GC
 obtain ⟨⟨jE,Fm⟩,xi,xj⟩:=E6
 obtain ⟨⟨kj,GS⟩,z7,z8⟩:=GD
 obtain ⟨⟨km,GU⟩,z9,Aa⟩:=GF
 obtain ⟨⟨iQ,DC⟩,sM,sN⟩:=Dv
 obtain ⟨⟨kn,GV⟩,Ab,Ac⟩:=GG
 obtain ⟨⟨fE,wG⟩,mO,mP⟩:=vW
 obtain ⟨⟨ko,GW⟩,Ae,Af⟩:=GH
 obtain ⟨⟨eY,um⟩,lI,lJ⟩:=ub
 obtain ⟨⟨gU,DD⟩,sO,sP⟩:=Dw
 obtain ⟨⟨dB,uo⟩,lK,lL⟩:=uc
 obtain ⟨⟨dC,zl⟩,og,oh⟩:=yJ
 obtain ⟨⟨iR,DE⟩,kb,M7⟩:=Dx
 obtain ⟨⟨dI,qH⟩,FN,qI⟩:=qA
 obtain ⟨⟨gh,zm⟩,zo,zp⟩:=yK
 obtain ⟨⟨gi,zq⟩,zr,zt⟩:=yL
 obtain ⟨⟨gj,zu⟩,zw,zA⟩:=yM
 obtain ⟨⟨fF,wH⟩,wI,wJ⟩:=vX
 obtain ⟨⟨eZ,uq⟩,ur,uu⟩:=ud
 obtain ⟨⟨gk,zB⟩,zC,zD⟩:=yN
 obtain ⟨⟨gm,zE⟩,zF,zG⟩:=yO
 obtain ⟨⟨cX,wK⟩,wL,wM⟩:=vY
 obtain ⟨⟨fG,wN⟩,wO,wQ⟩:=vZ
 obtain ⟨⟨gO,Bc⟩,Bd,Be⟩:=AS
 obtain ⟨⟨dJ,qJ⟩,qK,qL⟩:=qB
 obtain ⟨⟨mE,Jm⟩,wR,wU⟩:=v8
 obtain ⟨⟨lC,HW⟩,uv,uw⟩:=ue
 obtain ⟨⟨fI,wV⟩,wW,wX⟩:=v9
 obtain ⟨⟨ic,B8⟩,lS,LQ⟩:=BU
 obtain ⟨⟨kq,GX⟩,rb,Rj⟩:=GI
 obtain ⟨⟨jF,Fn⟩,oY,NK⟩:=E7
 obtain ⟨⟨kr,GY⟩,rf,Rk⟩:=GJ
 obtain ⟨⟨jG,Fo⟩,jI,NL⟩:=E8
 obtain ⟨⟨gP,Bf⟩,kI,LA⟩:=AU
 obtain ⟨⟨gQ,Bg⟩,kJ,LB⟩:=AV
 obtain ⟨⟨fJ,wY⟩,jr,Jn⟩:=wa
 obtain ⟨⟨ku,GZ⟩,rg,Rl⟩:=GK
 obtain ⟨⟨jH,Fp⟩,pb,NM⟩:=E9
 obtain ⟨⟨Iu,R1⟩,RR,aaY⟩:=Zg
 let D:Ad:=⟨aR,cc,bg,dA,dE,bA,hR,fR,fS,aW,aL,aD,aY,aa,ak,aB,cg,eE,cj,eF,bQ,dX,bR,dY,cH,fq,ba,cz,ck,eG,cn,eI,c5,ia,cE,fT,hU,lY,fW,j9,bN,eJ,bc,b7,cC,gr,b8,ft,cp,f7,cN,f9,bL,dj,bS,dZ,dS,gG,fL,jB,dQ,ib,dO,gJ,eK,iP,fM,jC,aZ,bT,bG,dF,cO,gb,bY,eW,eB,jD,bH,dG,cP,gc,cu,fD,bZ,eX,b9,gN,bO,gf,eR,ki,dP,jE,eS,kj,eT,km,cZ,iQ,eU,kn,bD,fE,eV,ko,bt,eY,cF,gU,a6,dB,bj,dC,dH,iR,bI,dI,cQ,gh,cR,gi,cS,gj,cv,fF,b4,eZ,cT,gk,cU,gm,bE,cX,cw,fG,dq,gO,bJ,dJ,fH,mE,e7,lC,cx,fI,c6,ic,fO,kq,eC,jF,fP,kr,eD,jG,cI,gP,cJ,gQ,bU,fJ,fQ,ku,cq,jH,fa,Iu,Cj,kU,ka,kW,kX,kY,ju⟩
 have T:Txt K mg D:=⟨⟨cdH,yH⟩,m nH,m IV,⟨⟨zX,uE⟩,⟨gH.a,gH.t⟩,gH.c⟩,⟨⟨zX,uE⟩,gH.i,bK,gH.k⟩,gH.v,su GL uE gH.s,⟨Gz,wm,wk⟩,m Lj,⟨⟨Cy,zO⟩,⟨iE.a,iE.t⟩,iE.c⟩,⟨⟨Cy,zO⟩,iE.i,bK,iE.k⟩,iE.v,su Jb zO iE.s,⟨IW,yR,yQ⟩,m Lk,⟨⟨Cz,zP⟩,⟨iF.a,iF.t⟩,iF.c⟩,⟨⟨Cz,zP⟩,iF.i,bK,iF.k⟩,iF.v,su Jd zP iF.s,⟨IX,yU,yT⟩,m IY,⟨⟨zY,uF⟩,⟨gI.a,gI.t⟩,gI.c⟩,⟨⟨zY,uF⟩,gI.i,bK,gI.k⟩,gI.v,su GN uF gI.s,⟨GA,wg,we⟩,m BO,⟨⟨pK,lU⟩,⟨dz.a,dz.t⟩,dz.c⟩,⟨⟨pK,lU⟩,dz.i,bK,dz.k⟩,dz.v,su AW lU dz.s,⟨AM,qb,qa⟩,m Mu,⟨⟨D8,CN⟩,⟨jg.a,jg.t⟩,jg.c⟩,⟨⟨D8,CN⟩,jg.i,bK,jg.k⟩,jg.v,su Lp CN jg.s,⟨Ll,AZ,AY⟩,m Lm,⟨⟨CA,zQ⟩,⟨iG.a,iG.t⟩,iG.c⟩,⟨⟨CA,zQ⟩,iG.i,bK,iG.k⟩,iG.v,su Je zQ iG.s,⟨IZ,yX,yW⟩,m Ln,⟨⟨CB,zR⟩,⟨iH.a,iH.t⟩,iH.c⟩,⟨⟨CB,zR⟩,iH.i,bK,iH.k⟩,iH.v,su Jf zR iH.s,⟨I0,y8,yZ⟩,m Ms,⟨rK.g,rK.d,rK.o,rK.s⟩,⟨CJ,Mt,zc,rK.k⟩,rL,⟨yu,A8,A7⟩,⟨tM,wx,wq⟩,⟨EN,GQ,GP⟩,⟨Dp,Fd,Fc⟩,⟨AL,B7,BZ⟩,⟨Dq,Fg,Ff⟩,⟨BL,DB,DA⟩,⟨Dr,Fj,Fi⟩,⟨tN,wB,wA⟩,m EO,⟨jJ.g,jJ.d,jJ.o,jJ.s⟩,⟨oU,ER,qE,jJ.k⟩,mR,nM,⟨vD,zg,ze⟩,⟨rM,uh,ug⟩,m ES,⟨jK.g,jK.d,jK.o,jK.s⟩,⟨oV,ET,qG,jK.k⟩,mh,⟨vE,zj,zi⟩,⟨tO,wF,wD⟩,⟨rN,uk,uj⟩,m OG,⟨yv.g,yv.d,yv.o,yv.s⟩,⟨JU,OH,Bb,yv.k⟩,rO,yw,tP,tQ,rP,qw,tR,⟨vF,oe,oa⟩,⟨EU,z6,zZ⟩,⟨Ds,xj,xi⟩,⟨EV,z8,z7⟩,⟨EW,Aa,z9⟩,⟨BM,sN,sM⟩,⟨EX,Ac,Ab⟩,⟨tS,mP,mO⟩,⟨EY,Af,Ae⟩,⟨rQ,lJ,lI⟩,⟨BN,sP,sO⟩,⟨rR,lL,lK⟩,⟨vG,oh,og⟩,⟨OI,OJ,OK,Ba⟩,m EZ,⟨jL.g,jL.d,jL.o,jL.s⟩,⟨oW,E0,qI,jL.k⟩,mS,pW,nN,nO,mT,mj,nP,nQ,tT,lB,pX,⟨oz,oe,oa⟩,⟨vH,z6,zZ⟩,⟨tU,xj,xi⟩,⟨vI,z8,z7⟩,⟨vJ,Aa,z9⟩,⟨rS,sN,sM⟩,⟨vK,Ac,Ab⟩,⟨nR,mP,mO⟩,⟨vL,Af,Ae⟩,⟨mU,lJ,lI⟩,⟨rT,sP,sO⟩,⟨mV,lL,lK⟩,⟨oA,oh,og⟩,⟨vM,zp,zo⟩,⟨vN,zt,zr⟩,⟨vO,zA,zw⟩,⟨tV,wJ,wI⟩,⟨rU,uu,ur⟩,⟨vP,zD,zC⟩,⟨vQ,zG,zF⟩,⟨tW,wM,wL⟩,⟨tX,wQ,wO⟩,⟨yx,Be,Bd⟩,⟨pY,qL,qK⟩,⟨tY,wU,wR⟩,⟨rV,uw,uv⟩,⟨tZ,wX,wW⟩,m BH,lR,m Dm,iS,m Li,se,m IU,pG,m yr,ie,m BI,da,m BJ,jv,m AI,iU,m yt,j1,m EI,oX,m Dn,kb,m BK,lS,m Gw,rb,m EJ,oY,m Gx,rf,m EL,jI,m AJ,kI,m AK,kJ,m vC,jr,m Gy,rg,m EM,pb,m RZ,RR,mg_none_of X G ql,mg_none_of X G sA,mg_none_of X G CZ,mg_none_of X G CK,mg_none_of X G Nu,mg_none_of X G Nv,mg_none_of X G pe,mg_none_of X G Ju,mg_none_of X G mY,mg_none_of X G pj,m Co,m k7,m nJ,m k8,m pk,m pq,m jw⟩
 refine ⟨Iu,fun s v=>?_,fun base _ _=>?_⟩
 ·obtain ⟨_,_,_,_,_,_,_,_,_,e,_⟩:=R1.ex
  rw [e]
  exact .of_eq rfl
 have ah:=pN (P:=l.prog) (w:=w) (mg:=mg) (base:=base) qC T
 have d9:=sW (P:=l.prog) (w:=w) (mg:=mg) (base:=base) wj T
 have eN:=uU (P:=l.prog) (w:=w) (mg:=mg) (base:=base) yP T
 have eO:=uV (P:=l.prog) (w:=w) (mg:=mg) (base:=base) yS T
 have d8:=sX (P:=l.prog) (w:=w) (mg:=mg) (base:=base) wc T
 have cA:=ot (P:=l.prog) (w:=w) (mg:=mg) (base:=base) p9 T
 have fA:=xS (P:=l.prog) (w:=w) (mg:=mg) (base:=base) AX T
 have eP:=uW (P:=l.prog) (w:=w) (mg:=mg) (base:=base) yV T
 have eQ:=uX (P:=l.prog) (w:=w) (mg:=mg) (base:=base) yY T
 have jf:=IM (P:=l.prog) (w:=w) (mg:=mg) (base:=base) Lq T
 have az:=As (P:=l.prog) (w:=w) (mg:=mg) (base:=base) BW T ah
 have dR:=Av (P:=l.prog) (w:=w) (mg:=mg) (base:=base) BX T ah
 have iu:=Gi (P:=l.prog) (w:=w) (mg:=mg) (base:=base) Jg T ah
 have du:=xU (P:=l.prog) (w:=w) (mg:=mg) (base:=base) A0 T ah
 have cV:=uZ (P:=l.prog) (w:=w) (mg:=mg) (base:=base) y9 T ah
 have jy:=Ay (P:=l.prog) (w:=w) (mg:=mg) (base:=base) BV T cV
 have cb:=Bx (P:=l.prog) (w:=w) (mg:=mg) (base:=base) Dy T ah
 have ir:=u1 (P:=l.prog) (w:=w) (mg:=mg) (base:=base) za T ah
 have iq:=u4 (P:=l.prog) (w:=w) (mg:=mg) (base:=base) zb T
 have fu:=pP (P:=l.prog) (w:=w) (mg:=mg) (base:=base) qF T
 have aO:=xZ (P:=l.prog) (w:=w) (mg:=mg) (base:=base) A5 T az
 have bW:=En (P:=l.prog) (w:=w) (mg:=mg) (base:=base) GO T az
 have lg:=C2 (P:=l.prog) (w:=w) (mg:=mg) (base:=base) Fb T az aO
 have jz:=AB (P:=l.prog) (w:=w) (mg:=mg) (base:=base) BY T az jy
 have cL:=C3 (P:=l.prog) (w:=w) (mg:=mg) (base:=base) Fe T jf aO
 have ke:=BA (P:=l.prog) (w:=w) (mg:=mg) (base:=base) Dz T ah cL
 have aC:=sZ (P:=l.prog) (w:=w) (mg:=mg) (base:=base) wz T ah cL
 have lj:=C6 (P:=l.prog) (w:=w) (mg:=mg) (base:=base) Fh T aO
 have cy:=tj (P:=l.prog) (w:=w) (mg:=mg) (base:=base) wo T
 have il:=u9 (P:=l.prog) (w:=w) (mg:=mg) (base:=base) zh T dR
 have gZ:=tu (P:=l.prog) (w:=w) (mg:=mg) (base:=base) wC T dR
 have fv:=pR (P:=l.prog) (w:=w) (mg:=mg) (base:=base) qD T
 have ip:=ve (P:=l.prog) (w:=w) (mg:=mg) (base:=base) zd T ah
 have m7:=Eu (P:=l.prog) (w:=w) (mg:=mg) (base:=base) GS T lg
 have m9:=Ex (P:=l.prog) (w:=w) (mg:=mg) (base:=base) GU T bW
 have kh:=BC (P:=l.prog) (w:=w) (mg:=mg) (base:=base) DC T jz
 have ng:=Ey (P:=l.prog) (w:=w) (mg:=mg) (base:=base) GV T aC il
 have nj:=Ez (P:=l.prog) (w:=w) (mg:=mg) (base:=base) GW T aC cV ip
 have mZ:=EA (P:=l.prog) (w:=w) (mg:=mg) (base:=base) GR T az aC du bW
 have lp:=C8 (P:=l.prog) (w:=w) (mg:=mg) (base:=base) Fm T aC aO du
 have iV:=yc (P:=l.prog) (w:=w) (mg:=mg) (base:=base) A9 T iq fu fv
 have fB:=pT (P:=l.prog) (w:=w) (mg:=mg) (base:=base) qH T ir iV
 have iy:=vg (P:=l.prog) (w:=w) (mg:=mg) (base:=base) zk T cb bW
 have g4:=tw (P:=l.prog) (w:=w) (mg:=mg) (base:=base) wG T az gZ bW cb
 have b6:=rC (P:=l.prog) (w:=w) (mg:=mg) (base:=base) uo T iu
 have iw:=vj (P:=l.prog) (w:=w) (mg:=mg) (base:=base) zE T b6
 have iC:=vm (P:=l.prog) (w:=w) (mg:=mg) (base:=base) zu T cL
 have g9:=tE (P:=l.prog) (w:=w) (mg:=mg) (base:=base) wH T ke
 have iD:=vq (P:=l.prog) (w:=w) (mg:=mg) (base:=base) zB T lj
 have gE:=rE (P:=l.prog) (w:=w) (mg:=mg) (base:=base) uq T aC
 have ll:=De (P:=l.prog) (w:=w) (mg:=mg) (base:=base) Fl T
 have gW:=BE (P:=l.prog) (w:=w) (mg:=mg) (base:=base) DE T jf
 have bo:=vt (P:=l.prog) (w:=w) (mg:=mg) (base:=base) zl T gW ll
 have gB:=rG (P:=l.prog) (w:=w) (mg:=mg) (base:=base) ui T
 have gC:=rH (P:=l.prog) (w:=w) (mg:=mg) (base:=base) uf T
 have eM:=BF (P:=l.prog) (w:=w) (mg:=mg) (base:=base) DD T gB gC
 have gD:=rJ (P:=l.prog) (w:=w) (mg:=mg) (base:=base) um T cy bo eM
 have a5:=tI (P:=l.prog) (w:=w) (mg:=mg) (base:=base) wK T gD
 have g7:=tJ (P:=l.prog) (w:=w) (mg:=mg) (base:=base) wN T ah a5 cy bo
 have iW:=yj (P:=l.prog) (w:=w) (mg:=mg) (base:=base) Bc T ah eM
 have fz:=pV (P:=l.prog) (w:=w) (mg:=mg) (base:=base) qJ T
 have g5:=tK (P:=l.prog) (w:=w) (mg:=mg) (base:=base) wV T cb bo
 have iA:=vz (P:=l.prog) (w:=w) (mg:=mg) (base:=base) zm T ah az iu b6 a5 iw iy
 have iB:=vA (P:=l.prog) (w:=w) (mg:=mg) (base:=base) zq T g4 g5
 have jA:=AF (P:=l.prog) (w:=w) (mg:=mg) (base:=base) B8 T
 have nk:=ED (P:=l.prog) (w:=w) (mg:=mg) (base:=base) GX T
 have lr:=Di (P:=l.prog) (w:=w) (mg:=mg) (base:=base) Fn T iA lp mZ m7 m9 kh ng iB nj a5 fz iW g7
 have nv:=EF (P:=l.prog) (w:=w) (mg:=mg) (base:=base) GY T lr eN eO d8 d9 fA cA eP eQ
 have nu:=EG (P:=l.prog) (w:=w) (mg:=mg) (base:=base) GZ T fB
 have lA:=Dj (P:=l.prog) (w:=w) (mg:=mg) (base:=base) Fp T nk jA
 have fN:=Dk (P:=l.prog) (w:=w) (mg:=mg) (base:=base) Fo T
 have iX:=yo (P:=l.prog) (w:=w) (mg:=mg) (base:=base) Bf T fN
 have iY:=yq (P:=l.prog) (w:=w) (mg:=mg) (base:=base) Bg T
 have hG:=tL (P:=l.prog) (w:=w) (mg:=mg) (base:=base) wY T iC g9 gE iD
 exact (WL (P:=l.prog) (w:=w) (mg:=mg) (base:=base) R1 T nu lA iX nv iY hG).g
theorem walk {l:OpenLaw} {q:Program} {loose:List Str} {XP:(Str→Option Value)→Heap→Prop} {YP:World→Heap→Prop} {d:DefRec} {K:Params→Frag} (hn:l.most=some 63) (hdf:d.params.defaults=[])
  (hY:∀ (w:World) (h:Heap),YP w h→(K w.params).In h)
  (F:∀ (w:World) (mg:Str→Option Value) (fa:Addr) (h:Heap),(K w.params).In h→h.Ns mainGlobals mg→mg d.name=some (.ref fa) →
   ∃ fd:FuncData,(∀ (s:Shared) (u:Value),BindsTo s fd ⟨[u],[]⟩ [("script",u)])∧∀ base:Heap,(K w.params).In base→base.Ns mainGlobals mg→xI l.prog w (K w.params) mg base (CXE l.prog w) 11 fa fd ["script"] (Ly (K w.params))) :
  WalkO q loose XP YP l.row.toRowW d [] (fun f vs=>PySem.call f vs) :=
 L2.NZ (n:=63) (k:=11) (x := "script") (CX:=fun w=>CXE l.prog w) (sp:=fun w=>Ly (K w.params)) hn (by decide) hdf ⟨rfl,by decide,by decide⟩ hY F (fun _ _ a ns hl _ hS=>⟨a,ns,rfl,hS,hl,fun _=>rfl⟩) fun _ _ _ _ _ z=>YS z
end K14
namespace K14
open PySem PySem.W L2 PySem.PyData
section
abbrev OO:=Params→Obj
def oF (n q:Str) (s:Stmt) (m:Value) (r:Addr):Obj:=⟨.type "function",none,.func (fnOf n q (qe s) (bF s) (au s) .none .none .none m none (.ref r) .none),#[]⟩
def oG (n q:Str) (s:Stmt):Obj:=⟨.none,none,.func ⟨n,q,qe s,.stmts (bF s),au s,0,[],.none,.none,.none,.none,none,.none,.none,0⟩,#[]⟩
def oT (l:List Value):Obj:=⟨.type "tuple",none,.seq (List.toArray l) 0,#[]⟩
def kE (P:Params) (x:Str) (n:Tok) (v:Value):DictEntry:=⟨keyHash P x,.str x n,v⟩
def oC (n:Str) (t:Tok) (q:Str) (l a b c d:Int) (r:Addr) (e:Int) (f g h i:Addr) (z:Int) (u:Tok):Obj:=⟨.type "code",none,.fields (List.toArray [.str n t,.str q (t+1),.str "/claim/cut.py" (t+2),.int l 0,.int a 0,.int b 0,.int c 0,.int d 0,.ref r,.bool true,.int e 0,.ref f,.none,.ref g,.ref h,.ref i,.int z 0,.int l 0,.str "/claim/cut.py" u]),#[]⟩
def spl:List (Params→Obj)→List (Params→Obj)×List (Params→Obj)
 | []=>([],[])
 | [a]=>([a],[])
 | a::b::r=>(a::(spl r).1,b::(spl r).2)
def mkT (P:Params):Nat→List (Params→Obj)→BT
 | 0,_=>.nil
 | _+1,[]=>.nil
 | n+1,x::r=>.node (x P) (mkT P n (spl r).1) (mkT P n (spl r).2)
def lf (x:Obj):BT:=.node x .nil .nil
abbrev nd:=@BT.node
noncomputable def o0:OO:=fun P=>⟨(.type "dict"),none,(.dict (List.toArray [kE P "__name__" 1 (.str "builtins" 160),kE P "__doc__" 2 (.builtin "builtins.__doc__:str#opaque"),kE P "__package__" 3 (.builtin "builtins.__package__:str#opaque"),kE P "__loader__" 4 (.builtin "builtins.__loader__:shared#opaque"),kE P "__spec__" 5 (.builtin "builtins.__spec__#opaque"),kE P "__build_class__" 6 (.builtin "__build_class__"),kE P "__import__" 7 (.builtin "__import__"),kE P "abs" 8 (.builtin "abs"),kE P "all" 9 (.builtin "all"),kE P "any" 10 (.builtin "any"),kE P "ascii" 11 (.builtin "ascii"),kE P "bin" 12 (.builtin "bin"),kE P "breakpoint" 13 (.builtin "breakpoint"),kE P "callable" 14 (.builtin "callable"),kE P "chr" 15 (.builtin "chr"),kE P "compile" 16 (.builtin "compile"),kE P "delattr" 17 (.builtin "delattr"),kE P "dir" 18 (.builtin "dir"),kE P "divmod" 19 (.builtin "divmod"),kE P "eval" 20 (.builtin "eval"),kE P "exec" 21 (.builtin "exec"),kE P "format" 22 (.builtin "format"),kE P "getattr" 23 (.builtin "getattr"),kE P "globals" 24 (.builtin "globals"),kE P "hasattr" 25 (.builtin "hasattr"),kE P "hash" 26 (.builtin "hash"),kE P "hex" 27 (.builtin "hex"),kE P "id" 28 (.builtin "id"),kE P "input" 29 (.builtin "input"),kE P "isinstance" 30 (.builtin "isinstance"),kE P "issubclass" 31 (.builtin "issubclass"),kE P "iter" 32 (.builtin "iter"),kE P "aiter" 33 (.builtin "aiter"),kE P "len" 34 (.builtin "len"),kE P "locals" 35 (.builtin "locals"),kE P "max" 36 (.builtin "max"),kE P "min" 37 (.builtin "min"),kE P "next" 38 (.builtin "next"),kE P "anext" 39 (.builtin "anext"),kE P "oct" 40 (.builtin "oct"),kE P "ord" 41 (.builtin "ord"),kE P "pow" 42 (.builtin "pow"),kE P "print" 43 (.builtin "print"),kE P "repr" 44 (.builtin "repr"),kE P "round" 45 (.builtin "round"),kE P "setattr" 46 (.builtin "setattr"),kE P "sorted" 47 (.builtin "sorted"),kE P "sum" 48 (.builtin "sum"),kE P "vars" 49 (.builtin "vars"),kE P "None" 50 .none,kE P "Ellipsis" 51 .ellipsis,kE P "NotImplemented" 52 .notImplemented,kE P "False" 53 (.bool false),kE P "True" 54 (.bool true),kE P "bool" 55 (.type "bool"),kE P "memoryview" 56 (.type "memoryview"),kE P "bytearray" 57 (.type "bytearray"),kE P "bytes" 58 (.type "bytes"),kE P "classmethod" 59 (.type "classmethod"),kE P "complex" 60 (.type "complex"),kE P "dict" 61 (.type "dict"),kE P "enumerate" 62 (.type "enumerate"),kE P "filter" 63 (.type "filter"),kE P "float" 64 (.type "float"),kE P "frozenset" 65 (.type "frozenset"),kE P "property" 66 (.type "property"),kE P "int" 67 (.type "int"),kE P "list" 68 (.type "list"),kE P "map" 69 (.type "map"),kE P "object" 70 (.type "object"),kE P "range" 71 (.type "range"),kE P "reversed" 72 (.type "reversed"),kE P "set" 73 (.type "set"),kE P "slice" 74 (.type "slice"),kE P "staticmethod" 75 (.type "staticmethod"),kE P "str" 76 (.type "str"),kE P "super" 77 (.type "super"),kE P "tuple" 78 (.type "tuple"),kE P "type" 79 (.type "type"),kE P "zip" 80 (.type "zip"),kE P "__debug__" 81 (.bool true),kE P "BaseException" 82 (.type "BaseException"),kE P "BaseExceptionGroup" 83 (.type "BaseExceptionGroup"),kE P "Exception" 84 (.type "Exception"),kE P "GeneratorExit" 85 (.type "GeneratorExit"),kE P "KeyboardInterrupt" 86 (.type "KeyboardInterrupt"),kE P "SystemExit" 87 (.type "SystemExit"),kE P "ArithmeticError" 88 (.type "ArithmeticError"),kE P "AssertionError" 89 (.type "AssertionError"),kE P "AttributeError" 90 (.type "AttributeError"),kE P "BufferError" 91 (.type "BufferError"),kE P "EOFError" 92 (.type "EOFError"),kE P "ImportError" 93 (.type "ImportError"),kE P "LookupError" 94 (.type "LookupError"),kE P "MemoryError" 95 (.type "MemoryError"),kE P "NameError" 96 (.type "NameError"),kE P "OSError" 97 (.type "OSError"),kE P "ReferenceError" 98 (.type "ReferenceError"),kE P "RuntimeError" 99 (.type "RuntimeError"),kE P "StopAsyncIteration" 100 (.type "StopAsyncIteration"),kE P "StopIteration" 101 (.type "StopIteration"),kE P "SyntaxError" 102 (.type "SyntaxError"),kE P "SystemError" 103 (.type "SystemError"),kE P "TypeError" 104 (.type "TypeError"),kE P "ValueError" 105 (.type "ValueError"),kE P "Warning" 106 (.type "Warning"),kE P "FloatingPointError" 107 (.type "FloatingPointError"),kE P "OverflowError" 108 (.type "OverflowError"),kE P "ZeroDivisionError" 109 (.type "ZeroDivisionError"),kE P "BytesWarning" 110 (.type "BytesWarning"),kE P "DeprecationWarning" 111 (.type "DeprecationWarning"),kE P "EncodingWarning" 112 (.type "EncodingWarning"),kE P "FutureWarning" 113 (.type "FutureWarning"),kE P "ImportWarning" 114 (.type "ImportWarning"),kE P "PendingDeprecationWarning" 115 (.type "PendingDeprecationWarning"),kE P "ResourceWarning" 116 (.type "ResourceWarning"),kE P "RuntimeWarning" 117 (.type "RuntimeWarning"),kE P "SyntaxWarning" 118 (.type "SyntaxWarning"),kE P "UnicodeWarning" 119 (.type "UnicodeWarning"),kE P "UserWarning" 120 (.type "UserWarning"),kE P "BlockingIOError" 121 (.type "BlockingIOError"),kE P "ChildProcessError" 122 (.type "ChildProcessError"),kE P "ConnectionError" 123 (.type "ConnectionError"),kE P "FileExistsError" 124 (.type "FileExistsError"),kE P "FileNotFoundError" 125 (.type "FileNotFoundError"),kE P "InterruptedError" 126 (.type "InterruptedError"),kE P "IsADirectoryError" 127 (.type "IsADirectoryError"),kE P "NotADirectoryError" 128 (.type "NotADirectoryError"),kE P "PermissionError" 129 (.type "PermissionError"),kE P "ProcessLookupError" 130 (.type "ProcessLookupError"),kE P "TimeoutError" 131 (.type "TimeoutError"),kE P "IndentationError" 132 (.type "IndentationError"),kE P "_IncompleteInputError" 133 (.type "_IncompleteInputError"),kE P "IndexError" 134 (.type "IndexError"),kE P "KeyError" 135 (.type "KeyError"),kE P "ModuleNotFoundError" 136 (.type "ModuleNotFoundError"),kE P "NotImplementedError" 137 (.type "NotImplementedError"),kE P "PythonFinalizationError" 138 (.type "PythonFinalizationError"),kE P "RecursionError" 139 (.type "RecursionError"),kE P "UnboundLocalError" 140 (.type "UnboundLocalError"),kE P "UnicodeError" 141 (.type "UnicodeError"),kE P "BrokenPipeError" 142 (.type "BrokenPipeError"),kE P "ConnectionAbortedError" 143 (.type "ConnectionAbortedError"),kE P "ConnectionRefusedError" 144 (.type "ConnectionRefusedError"),kE P "ConnectionResetError" 145 (.type "ConnectionResetError"),kE P "TabError" 146 (.type "TabError"),kE P "UnicodeDecodeError" 147 (.type "UnicodeDecodeError"),kE P "UnicodeEncodeError" 148 (.type "UnicodeEncodeError"),kE P "UnicodeTranslateError" 149 (.type "UnicodeTranslateError"),kE P "ExceptionGroup" 150 (.type "ExceptionGroup"),kE P "EnvironmentError" 151 (.type "OSError"),kE P "IOError" 152 (.type "OSError"),kE P "open" 153 (.builtin "open"),kE P "quit" 154 (.builtin "builtins.quit#opaque"),kE P "exit" 155 (.builtin "builtins.exit#opaque"),kE P "copyright" 156 (.builtin "builtins.copyright#opaque"),kE P "credits" 157 (.builtin "builtins.credits#opaque"),kE P "license" 158 (.builtin "builtins.license#opaque"),kE P "help" 159 (.builtin "builtins.help#opaque")]) 159),#[]⟩
noncomputable def o1:OO:=fun P=>⟨(.type "dict"),none,(.dict (List.toArray [kE P "builtins" 162 (.ref 4),kE P "__main__" 163 (.ref 5)]) 2),#[]⟩
noncomputable def o2:OO:=fun _=>⟨.none,none,(.dict #[] 0),#[]⟩
noncomputable def o3:OO:=fun P=>⟨(.type "dict"),none,(.dict (List.toArray [kE P "__name__" 165 (.str "__main__" 164),kE P "__doc__" 166 .none,kE P "__package__" 167 .none,kE P "__loader__" 168 (.builtin "__main__.__loader__#opaque"),kE P "__spec__" 169 .none,kE P "__annotations__" 170 (.ref 6),kE P "__builtins__" 171 (.ref 4),kE P "__file__" 173 (.str "/claim/cut.py" 172),kE P "__cached__" 174 .none]) 9),#[]⟩
noncomputable def o4:OO:=fun _=>⟨(.type "module"),(.some 0),.plain,#[]⟩
noncomputable def o5:OO:=fun _=>⟨(.type "module"),(.some 3),.plain,#[]⟩
noncomputable def o6:OO:=fun _=>⟨(.type "dict"),none,(.dict #[] 0),#[]⟩
noncomputable def o7:OO:=fun _=>⟨(.type "tuple"),none,(.seq #[] 0),#[]⟩
noncomputable def o8:OO:=fun _=>⟨.none,none,(.fields #[]),#[]⟩
noncomputable def o9:OO:=fun _=>⟨(.type "code"),none,(.fields (List.toArray [(.str "<module>" 176),(.str "<module>" 177),(.str "/claim/cut.py" 178),(.int 1 0),(.int 0 0),(.int 0 0),(.int 0 0),(.int 0 0),(.ref 7),(.bool false),(.int 175 0),(.ref 8),.none,.none,.none,.none,(.int 179 0),(.int 1 0),(.str "/claim/cut.py" 180)])),#[]⟩
noncomputable def o10:OO:=fun _=>⟨(.type "frame"),none,.plain,(List.toArray [(.some (.ref 9)),(.some (.ref 3)),(.some (.ref 3)),none,(.some (.str "__main__" 164)),none,(.some (.ref 0))])⟩
noncomputable def o11:OO:=fun _=>⟨(.type "code"),none,(.fields (List.toArray [(.str "<module>" 182),(.str "<module>" 183),(.str "/claim/cut.py" 184),(.int 1 0),(.int 0 0),(.int 0 0),(.int 0 0),(.int 0 0),(.ref 11),(.bool false),(.int 181 0),(.ref 12),.none,.none,.none,.none,(.int 185 0),(.int 1 0),(.str "/claim/cut.py" 186)])),#[]⟩
noncomputable def o12:OO:=fun _=>⟨(.type "frame"),none,.plain,(List.toArray [(.some (.ref 13)),(.some (.ref 3)),(.some (.ref 3)),none,(.some (.str "__main__" 164)),none,(.some (.ref 0))])⟩
noncomputable def o13:OO:=fun P=>⟨(.type "dict"),none,(.dict (List.toArray [kE P "__name__" 165 (.str "stillheap.errors" 194),kE P "__doc__" 166 .none,kE P "__package__" 167 .none,kE P "__loader__" 168 (.builtin "__main__.__loader__#opaque"),kE P "__spec__" 169 .none,kE P "__annotations__" 170 (.ref 6),kE P "__builtins__" 171 (.ref 4),kE P "__file__" 173 (.str "/claim/cut.py" 172),kE P "__cached__" 174 .none,kE P "_wall" 193 (.ref 21),kE P "HeapError" 228 (.ref 45),kE P "BadHand" 251 (.ref 65),kE P "BadName" 274 (.ref 84),kE P "BadField" 297 (.ref 103),kE P "BadCount" 320 (.ref 122),kE P "NoRoom" 343 (.ref 141),kE P "TooManyWords" 366 (.ref 160),kE P "RoundOn" 389 (.ref 179)]) 18),#[]⟩
noncomputable def o14:OO:=fun _=>⟨.none,none,(.fields (List.toArray [(.int 1 0),(.int 0 0),(.ref 20),(.int 5 0),(.int 0 0),(.ref 27),(.int 12 0),(.int 0 0),(.ref 54),(.int 16 0),(.int 0 0),(.ref 73),(.int 20 0),(.int 0 0),(.ref 92),(.int 24 0),(.int 0 0),(.ref 111),(.int 28 0),(.int 0 0),(.ref 130),(.int 32 0),(.int 0 0),(.ref 149),(.int 36 0),(.int 0 0),(.ref 168)])),#[]⟩
noncomputable def o15:OO:=fun _=>oT [(.str "k" 190)]
noncomputable def o16:OO:=fun _=>oG "_wall" "_wall" (top 0)
noncomputable def o17:OO:=fun _=>oC "_wall" 187 "_wall" 1 1 0 0 3 15 181 16 17 18 19 191 192
noncomputable def o18:OO:=fun _=>oF "_wall" "_wall" (top 0) (.str "__main__" 164) 20
noncomputable def o19:OO:=fun _=>oT [(.type "ValueError")]
noncomputable def o20:OO:=fun _=>⟨(.type "builtin_function_or_method"),none,(.fields (List.toArray [(.builtin "type.__prepare__"),(.type "type")])),#[]⟩
noncomputable def o21:OO:=fun P=>⟨(.type "dict"),none,(.dict (List.toArray [kE P "__module__" 203 (.str "stillheap.errors" 194),kE P "__qualname__" 205 (.str "HeapError" 204),kE P "__firstlineno__" 207 (.int 5 206),kE P "__init__" 215 (.ref 35),kE P "called" 222 (.ref 42),kE P "__static_attributes__" 223 (.ref 43)]) 6),#[]⟩
noncomputable def o22:OO:=fun _=>⟨.none,none,(.fields (List.toArray [(.int 7 0),(.int 4 0),(.ref 34),(.int 10 0),(.int 4 0),(.ref 41)])),#[]⟩
noncomputable def o23:OO:=fun _=>⟨(.type "code"),none,(.fields (List.toArray [(.str "HeapError" 198),(.str "HeapError" 199),(.str "/claim/cut.py" 200),(.int 5 0),(.int 0 0),(.int 0 0),(.int 0 0),(.int 0 0),(.ref 25),(.bool false),(.int 181 0),(.ref 26),.none,.none,.none,.none,(.int 201 0),(.int 5 0),(.str "/claim/cut.py" 202)])),#[]⟩
noncomputable def o24:OO:=fun _=>⟨(.type "frame"),none,.plain,(List.toArray [(.some (.ref 27)),(.some (.ref 3)),(.some (.ref 24)),none,(.some (.str "stillheap.errors" 194)),none,(.some (.ref 0))])⟩
noncomputable def o25:OO:=fun _=>oT [(.str "self" 211),(.str "text" 212)]
noncomputable def o26:OO:=fun _=>oG "__init__" "HeapError.__init__" (inClass (top 2) 0)
noncomputable def o27:OO:=fun _=>oC "__init__" 208 "HeapError.__init__" 7 2 0 0 3 29 181 30 31 32 33 213 214
noncomputable def o28:OO:=fun _=>oF "__init__" "HeapError.__init__" (inClass (top 2) 0) (.str "stillheap.errors" 194) 34
noncomputable def o29:OO:=fun _=>oT [(.str "self" 219)]
noncomputable def o30:OO:=fun _=>oG "called" "HeapError.called" (inClass (top 2) 1)
noncomputable def o31:OO:=fun _=>oC "called" 216 "HeapError.called" 10 1 0 0 3 36 181 37 38 39 40 220 221
noncomputable def o32:OO:=fun _=>oF "called" "HeapError.called" (inClass (top 2) 1) (.str "stillheap.errors" 194) 41
noncomputable def o33:OO:=fun P=>⟨(.type "dict"),none,(.dict (List.toArray [kE P "__module__" 203 (.str "stillheap.errors" 194),kE P "__firstlineno__" 207 (.int 5 206),kE P "__init__" 215 (.ref 35),kE P "called" 222 (.ref 42),kE P "__static_attributes__" 223 (.ref 43),kE P "__weakref__" 225 (.ref 46),kE P "__doc__" 226 .none]) 3),#[]⟩
noncomputable def o34:OO:=fun _=>⟨(.type "type"),none,(.cls ⟨"HeapError",[(.type "ValueError")],[(.ref 45),(.type "ValueError"),(.type "Exception"),(.type "BaseException"),(.type "object")],44, "HeapError",true,[],[(.ref 65),(.ref 84),(.ref 103),(.ref 122),(.ref 141),(.ref 160),(.ref 179)],false,none,false⟩),(List.toArray [(.some (.ref 22)),none,(.some (.str "HeapError" 196)),(.some (.str "HeapError" 204)),(.some (.builtin "ValueError.__new__")),(.some (.bool true))])⟩
noncomputable def o35:OO:=fun _=>⟨(.type "getset_descriptor"),none,(.fields (List.toArray [(.str "__weakref__" 224),(.ref 45),(.builtin "ExceptionGroup.__weakref__"),.none])),#[]⟩
noncomputable def o36:OO:=fun _=>⟨(.type "super"),none,(.fields (List.toArray [(.ref 45),(.ref 45),(.ref 45)])),#[]⟩
noncomputable def o37:OO:=fun _=>⟨(.type "builtin_function_or_method"),none,(.fields (List.toArray [(.builtin "object.__init_subclass__"),(.ref 45)])),#[]⟩
noncomputable def o38:OO:=fun _=>oT [(.ref 45)]
noncomputable def o39:OO:=fun P=>⟨(.type "dict"),none,(.dict (List.toArray [kE P "__module__" 236 (.str "stillheap.errors" 194),kE P "__qualname__" 238 (.str "BadHand" 237),kE P "__firstlineno__" 240 (.int 12 239),kE P "called" 247 (.ref 62),kE P "__static_attributes__" 248 (.ref 63)]) 5),#[]⟩
noncomputable def o40:OO:=fun _=>⟨.none,none,(.fields (List.toArray [(.int 14 0),(.int 4 0),(.ref 61)])),#[]⟩
noncomputable def o41:OO:=fun _=>⟨(.type "code"),none,(.fields (List.toArray [(.str "BadHand" 231),(.str "BadHand" 232),(.str "/claim/cut.py" 233),(.int 12 0),(.int 0 0),(.int 0 0),(.int 0 0),(.int 0 0),(.ref 52),(.bool false),(.int 181 0),(.ref 53),.none,.none,.none,.none,(.int 234 0),(.int 12 0),(.str "/claim/cut.py" 235)])),#[]⟩
noncomputable def o42:OO:=fun _=>⟨(.type "frame"),none,.plain,(List.toArray [(.some (.ref 54)),(.some (.ref 3)),(.some (.ref 51)),none,(.some (.str "stillheap.errors" 194)),none,(.some (.ref 0))])⟩
noncomputable def o43:OO:=fun _=>oT [(.str "self" 244)]
noncomputable def o44:OO:=fun _=>oG "called" "BadHand.called" (inClass (top 3) 0)
noncomputable def o45:OO:=fun _=>oC "called" 241 "BadHand.called" 14 1 0 0 3 56 181 57 58 59 60 245 246
noncomputable def o46:OO:=fun _=>oF "called" "BadHand.called" (inClass (top 3) 0) (.str "stillheap.errors" 194) 61
noncomputable def o47:OO:=fun P=>⟨(.type "dict"),none,(.dict (List.toArray [kE P "__module__" 236 (.str "stillheap.errors" 194),kE P "__firstlineno__" 240 (.int 12 239),kE P "called" 247 (.ref 62),kE P "__static_attributes__" 248 (.ref 63),kE P "__doc__" 249 .none]) 2),#[]⟩
noncomputable def o48:OO:=fun _=>⟨(.type "type"),none,(.cls ⟨"BadHand",[(.ref 45)],[(.ref 65),(.ref 45),(.type "ValueError"),(.type "Exception"),(.type "BaseException"),(.type "object")],64, "BadHand",true,[],[],false,none,false⟩),(List.toArray [(.some (.ref 49)),none,(.some (.str "BadHand" 229)),(.some (.str "BadHand" 237)),(.some (.builtin "ValueError.__new__")),(.some (.bool true))])⟩
noncomputable def o49:OO:=fun _=>⟨(.type "super"),none,(.fields (List.toArray [(.ref 65),(.ref 65),(.ref 65)])),#[]⟩
noncomputable def o50:OO:=fun _=>⟨(.type "builtin_function_or_method"),none,(.fields (List.toArray [(.builtin "object.__init_subclass__"),(.ref 65)])),#[]⟩
noncomputable def o51:OO:=fun P=>⟨(.type "dict"),none,(.dict (List.toArray [kE P "__module__" 259 (.str "stillheap.errors" 194),kE P "__qualname__" 261 (.str "BadName" 260),kE P "__firstlineno__" 263 (.int 16 262),kE P "called" 270 (.ref 81),kE P "__static_attributes__" 271 (.ref 82)]) 5),#[]⟩
noncomputable def o52:OO:=fun _=>⟨.none,none,(.fields (List.toArray [(.int 18 0),(.int 4 0),(.ref 80)])),#[]⟩
noncomputable def o53:OO:=fun _=>⟨(.type "code"),none,(.fields (List.toArray [(.str "BadName" 254),(.str "BadName" 255),(.str "/claim/cut.py" 256),(.int 16 0),(.int 0 0),(.int 0 0),(.int 0 0),(.int 0 0),(.ref 71),(.bool false),(.int 181 0),(.ref 72),.none,.none,.none,.none,(.int 257 0),(.int 16 0),(.str "/claim/cut.py" 258)])),#[]⟩
noncomputable def o54:OO:=fun _=>⟨(.type "frame"),none,.plain,(List.toArray [(.some (.ref 73)),(.some (.ref 3)),(.some (.ref 70)),none,(.some (.str "stillheap.errors" 194)),none,(.some (.ref 0))])⟩
noncomputable def o55:OO:=fun _=>oT [(.str "self" 267)]
noncomputable def o56:OO:=fun _=>oG "called" "BadName.called" (inClass (top 4) 0)
noncomputable def o57:OO:=fun _=>oC "called" 264 "BadName.called" 18 1 0 0 3 75 181 76 77 78 79 268 269
noncomputable def o58:OO:=fun _=>oF "called" "BadName.called" (inClass (top 4) 0) (.str "stillheap.errors" 194) 80
noncomputable def o59:OO:=fun P=>⟨(.type "dict"),none,(.dict (List.toArray [kE P "__module__" 259 (.str "stillheap.errors" 194),kE P "__firstlineno__" 263 (.int 16 262),kE P "called" 270 (.ref 81),kE P "__static_attributes__" 271 (.ref 82),kE P "__doc__" 272 .none]) 2),#[]⟩
noncomputable def o60:OO:=fun _=>⟨(.type "type"),none,(.cls ⟨"BadName",[(.ref 45)],[(.ref 84),(.ref 45),(.type "ValueError"),(.type "Exception"),(.type "BaseException"),(.type "object")],83, "BadName",true,[],[],false,none,false⟩),(List.toArray [(.some (.ref 68)),none,(.some (.str "BadName" 252)),(.some (.str "BadName" 260)),(.some (.builtin "ValueError.__new__")),(.some (.bool true))])⟩
noncomputable def o61:OO:=fun _=>⟨(.type "super"),none,(.fields (List.toArray [(.ref 84),(.ref 84),(.ref 84)])),#[]⟩
noncomputable def o62:OO:=fun _=>⟨(.type "builtin_function_or_method"),none,(.fields (List.toArray [(.builtin "object.__init_subclass__"),(.ref 84)])),#[]⟩
noncomputable def o63:OO:=fun P=>⟨(.type "dict"),none,(.dict (List.toArray [kE P "__module__" 282 (.str "stillheap.errors" 194),kE P "__qualname__" 284 (.str "BadField" 283),kE P "__firstlineno__" 286 (.int 20 285),kE P "called" 293 (.ref 100),kE P "__static_attributes__" 294 (.ref 101)]) 5),#[]⟩
noncomputable def o64:OO:=fun _=>⟨.none,none,(.fields (List.toArray [(.int 22 0),(.int 4 0),(.ref 99)])),#[]⟩
noncomputable def o65:OO:=fun _=>⟨(.type "code"),none,(.fields (List.toArray [(.str "BadField" 277),(.str "BadField" 278),(.str "/claim/cut.py" 279),(.int 20 0),(.int 0 0),(.int 0 0),(.int 0 0),(.int 0 0),(.ref 90),(.bool false),(.int 181 0),(.ref 91),.none,.none,.none,.none,(.int 280 0),(.int 20 0),(.str "/claim/cut.py" 281)])),#[]⟩
noncomputable def o66:OO:=fun _=>⟨(.type "frame"),none,.plain,(List.toArray [(.some (.ref 92)),(.some (.ref 3)),(.some (.ref 89)),none,(.some (.str "stillheap.errors" 194)),none,(.some (.ref 0))])⟩
noncomputable def o67:OO:=fun _=>oT [(.str "self" 290)]
noncomputable def o68:OO:=fun _=>oG "called" "BadField.called" (inClass (top 5) 0)
noncomputable def o69:OO:=fun _=>oC "called" 287 "BadField.called" 22 1 0 0 3 94 181 95 96 97 98 291 292
noncomputable def o70:OO:=fun _=>oF "called" "BadField.called" (inClass (top 5) 0) (.str "stillheap.errors" 194) 99
noncomputable def o71:OO:=fun P=>⟨(.type "dict"),none,(.dict (List.toArray [kE P "__module__" 282 (.str "stillheap.errors" 194),kE P "__firstlineno__" 286 (.int 20 285),kE P "called" 293 (.ref 100),kE P "__static_attributes__" 294 (.ref 101),kE P "__doc__" 295 .none]) 2),#[]⟩
noncomputable def o72:OO:=fun _=>⟨(.type "type"),none,(.cls ⟨"BadField",[(.ref 45)],[(.ref 103),(.ref 45),(.type "ValueError"),(.type "Exception"),(.type "BaseException"),(.type "object")],102, "BadField",true,[],[],false,none,false⟩),(List.toArray [(.some (.ref 87)),none,(.some (.str "BadField" 275)),(.some (.str "BadField" 283)),(.some (.builtin "ValueError.__new__")),(.some (.bool true))])⟩
noncomputable def o73:OO:=fun _=>⟨(.type "super"),none,(.fields (List.toArray [(.ref 103),(.ref 103),(.ref 103)])),#[]⟩
noncomputable def o74:OO:=fun _=>⟨(.type "builtin_function_or_method"),none,(.fields (List.toArray [(.builtin "object.__init_subclass__"),(.ref 103)])),#[]⟩
noncomputable def o75:OO:=fun P=>⟨(.type "dict"),none,(.dict (List.toArray [kE P "__module__" 305 (.str "stillheap.errors" 194),kE P "__qualname__" 307 (.str "BadCount" 306),kE P "__firstlineno__" 309 (.int 24 308),kE P "called" 316 (.ref 119),kE P "__static_attributes__" 317 (.ref 120)]) 5),#[]⟩
noncomputable def o76:OO:=fun _=>⟨.none,none,(.fields (List.toArray [(.int 26 0),(.int 4 0),(.ref 118)])),#[]⟩
noncomputable def o77:OO:=fun _=>⟨(.type "code"),none,(.fields (List.toArray [(.str "BadCount" 300),(.str "BadCount" 301),(.str "/claim/cut.py" 302),(.int 24 0),(.int 0 0),(.int 0 0),(.int 0 0),(.int 0 0),(.ref 109),(.bool false),(.int 181 0),(.ref 110),.none,.none,.none,.none,(.int 303 0),(.int 24 0),(.str "/claim/cut.py" 304)])),#[]⟩
noncomputable def o78:OO:=fun _=>⟨(.type "frame"),none,.plain,(List.toArray [(.some (.ref 111)),(.some (.ref 3)),(.some (.ref 108)),none,(.some (.str "stillheap.errors" 194)),none,(.some (.ref 0))])⟩
noncomputable def o79:OO:=fun _=>oT [(.str "self" 313)]
noncomputable def o80:OO:=fun _=>oG "called" "BadCount.called" (inClass (top 6) 0)
noncomputable def o81:OO:=fun _=>oC "called" 310 "BadCount.called" 26 1 0 0 3 113 181 114 115 116 117 314 315
noncomputable def o82:OO:=fun _=>oF "called" "BadCount.called" (inClass (top 6) 0) (.str "stillheap.errors" 194) 118
noncomputable def o83:OO:=fun P=>⟨(.type "dict"),none,(.dict (List.toArray [kE P "__module__" 305 (.str "stillheap.errors" 194),kE P "__firstlineno__" 309 (.int 24 308),kE P "called" 316 (.ref 119),kE P "__static_attributes__" 317 (.ref 120),kE P "__doc__" 318 .none]) 2),#[]⟩
noncomputable def o84:OO:=fun _=>⟨(.type "type"),none,(.cls ⟨"BadCount",[(.ref 45)],[(.ref 122),(.ref 45),(.type "ValueError"),(.type "Exception"),(.type "BaseException"),(.type "object")],121, "BadCount",true,[],[],false,none,false⟩),(List.toArray [(.some (.ref 106)),none,(.some (.str "BadCount" 298)),(.some (.str "BadCount" 306)),(.some (.builtin "ValueError.__new__")),(.some (.bool true))])⟩
noncomputable def o85:OO:=fun _=>⟨(.type "super"),none,(.fields (List.toArray [(.ref 122),(.ref 122),(.ref 122)])),#[]⟩
noncomputable def o86:OO:=fun _=>⟨(.type "builtin_function_or_method"),none,(.fields (List.toArray [(.builtin "object.__init_subclass__"),(.ref 122)])),#[]⟩
noncomputable def o87:OO:=fun P=>⟨(.type "dict"),none,(.dict (List.toArray [kE P "__module__" 328 (.str "stillheap.errors" 194),kE P "__qualname__" 330 (.str "NoRoom" 329),kE P "__firstlineno__" 332 (.int 28 331),kE P "called" 339 (.ref 138),kE P "__static_attributes__" 340 (.ref 139)]) 5),#[]⟩
noncomputable def o88:OO:=fun _=>⟨.none,none,(.fields (List.toArray [(.int 30 0),(.int 4 0),(.ref 137)])),#[]⟩
noncomputable def o89:OO:=fun _=>⟨(.type "code"),none,(.fields (List.toArray [(.str "NoRoom" 323),(.str "NoRoom" 324),(.str "/claim/cut.py" 325),(.int 28 0),(.int 0 0),(.int 0 0),(.int 0 0),(.int 0 0),(.ref 128),(.bool false),(.int 181 0),(.ref 129),.none,.none,.none,.none,(.int 326 0),(.int 28 0),(.str "/claim/cut.py" 327)])),#[]⟩
noncomputable def o90:OO:=fun _=>⟨(.type "frame"),none,.plain,(List.toArray [(.some (.ref 130)),(.some (.ref 3)),(.some (.ref 127)),none,(.some (.str "stillheap.errors" 194)),none,(.some (.ref 0))])⟩
noncomputable def o91:OO:=fun _=>oT [(.str "self" 336)]
noncomputable def o92:OO:=fun _=>oG "called" "NoRoom.called" (inClass (top 7) 0)
noncomputable def o93:OO:=fun _=>oC "called" 333 "NoRoom.called" 30 1 0 0 3 132 181 133 134 135 136 337 338
noncomputable def o94:OO:=fun _=>oF "called" "NoRoom.called" (inClass (top 7) 0) (.str "stillheap.errors" 194) 137
noncomputable def o95:OO:=fun P=>⟨(.type "dict"),none,(.dict (List.toArray [kE P "__module__" 328 (.str "stillheap.errors" 194),kE P "__firstlineno__" 332 (.int 28 331),kE P "called" 339 (.ref 138),kE P "__static_attributes__" 340 (.ref 139),kE P "__doc__" 341 .none]) 2),#[]⟩
noncomputable def o96:OO:=fun _=>⟨(.type "type"),none,(.cls ⟨"NoRoom",[(.ref 45)],[(.ref 141),(.ref 45),(.type "ValueError"),(.type "Exception"),(.type "BaseException"),(.type "object")],140, "NoRoom",true,[],[],false,none,false⟩),(List.toArray [(.some (.ref 125)),none,(.some (.str "NoRoom" 321)),(.some (.str "NoRoom" 329)),(.some (.builtin "ValueError.__new__")),(.some (.bool true))])⟩
noncomputable def o97:OO:=fun _=>⟨(.type "super"),none,(.fields (List.toArray [(.ref 141),(.ref 141),(.ref 141)])),#[]⟩
noncomputable def o98:OO:=fun _=>⟨(.type "builtin_function_or_method"),none,(.fields (List.toArray [(.builtin "object.__init_subclass__"),(.ref 141)])),#[]⟩
noncomputable def o99:OO:=fun P=>⟨(.type "dict"),none,(.dict (List.toArray [kE P "__module__" 351 (.str "stillheap.errors" 194),kE P "__qualname__" 353 (.str "TooManyWords" 352),kE P "__firstlineno__" 355 (.int 32 354),kE P "called" 362 (.ref 157),kE P "__static_attributes__" 363 (.ref 158)]) 5),#[]⟩
noncomputable def OL:OO:=fun _=>⟨.none,none,(.fields (List.toArray [(.int 34 0),(.int 4 0),(.ref 156)])),#[]⟩
noncomputable def OM:OO:=fun _=>⟨(.type "code"),none,(.fields (List.toArray [(.str "TooManyWords" 346),(.str "TooManyWords" 347),(.str "/claim/cut.py" 348),(.int 32 0),(.int 0 0),(.int 0 0),(.int 0 0),(.int 0 0),(.ref 147),(.bool false),(.int 181 0),(.ref 148),.none,.none,.none,.none,(.int 349 0),(.int 32 0),(.str "/claim/cut.py" 350)])),#[]⟩
noncomputable def ON:OO:=fun _=>⟨(.type "frame"),none,.plain,(List.toArray [(.some (.ref 149)),(.some (.ref 3)),(.some (.ref 146)),none,(.some (.str "stillheap.errors" 194)),none,(.some (.ref 0))])⟩
noncomputable def M8:OO:=fun _=>oT [(.str "self" 359)]
noncomputable def OP:OO:=fun _=>oG "called" "TooManyWords.called" (inClass (top 8) 0)
noncomputable def M9:OO:=fun _=>oC "called" 356 "TooManyWords.called" 34 1 0 0 3 151 181 152 153 154 155 360 361
noncomputable def Na:OO:=fun _=>oF "called" "TooManyWords.called" (inClass (top 8) 0) (.str "stillheap.errors" 194) 156
noncomputable def Nb:OO:=fun P=>⟨(.type "dict"),none,(.dict (List.toArray [kE P "__module__" 351 (.str "stillheap.errors" 194),kE P "__firstlineno__" 355 (.int 32 354),kE P "called" 362 (.ref 157),kE P "__static_attributes__" 363 (.ref 158),kE P "__doc__" 364 .none]) 2),#[]⟩
noncomputable def Nc:OO:=fun _=>⟨(.type "type"),none,(.cls ⟨"TooManyWords",[(.ref 45)],[(.ref 160),(.ref 45),(.type "ValueError"),(.type "Exception"),(.type "BaseException"),(.type "object")],159, "TooManyWords",true,[],[],false,none,false⟩),(List.toArray [(.some (.ref 144)),none,(.some (.str "TooManyWords" 344)),(.some (.str "TooManyWords" 352)),(.some (.builtin "ValueError.__new__")),(.some (.bool true))])⟩
noncomputable def OQ:OO:=fun _=>⟨(.type "super"),none,(.fields (List.toArray [(.ref 160),(.ref 160),(.ref 160)])),#[]⟩
noncomputable def OR:OO:=fun _=>⟨(.type "builtin_function_or_method"),none,(.fields (List.toArray [(.builtin "object.__init_subclass__"),(.ref 160)])),#[]⟩
noncomputable def OS:OO:=fun P=>⟨(.type "dict"),none,(.dict (List.toArray [kE P "__module__" 374 (.str "stillheap.errors" 194),kE P "__qualname__" 376 (.str "RoundOn" 375),kE P "__firstlineno__" 378 (.int 36 377),kE P "called" 385 (.ref 176),kE P "__static_attributes__" 386 (.ref 177)]) 5),#[]⟩
noncomputable def OT:OO:=fun _=>⟨.none,none,(.fields (List.toArray [(.int 38 0),(.int 4 0),(.ref 175)])),#[]⟩
noncomputable def OU:OO:=fun _=>⟨(.type "code"),none,(.fields (List.toArray [(.str "RoundOn" 369),(.str "RoundOn" 370),(.str "/claim/cut.py" 371),(.int 36 0),(.int 0 0),(.int 0 0),(.int 0 0),(.int 0 0),(.ref 166),(.bool false),(.int 181 0),(.ref 167),.none,.none,.none,.none,(.int 372 0),(.int 36 0),(.str "/claim/cut.py" 373)])),#[]⟩
noncomputable def OV:OO:=fun _=>⟨(.type "frame"),none,.plain,(List.toArray [(.some (.ref 168)),(.some (.ref 3)),(.some (.ref 165)),none,(.some (.str "stillheap.errors" 194)),none,(.some (.ref 0))])⟩
noncomputable def Nd:OO:=fun _=>oT [(.str "self" 382)]
noncomputable def OW:OO:=fun _=>oG "called" "RoundOn.called" (inClass (top 9) 0)
noncomputable def Nf:OO:=fun _=>oC "called" 379 "RoundOn.called" 38 1 0 0 3 170 181 171 172 173 174 383 384
noncomputable def Ng:OO:=fun _=>oF "called" "RoundOn.called" (inClass (top 9) 0) (.str "stillheap.errors" 194) 175
noncomputable def Nh:OO:=fun P=>⟨(.type "dict"),none,(.dict (List.toArray [kE P "__module__" 374 (.str "stillheap.errors" 194),kE P "__firstlineno__" 378 (.int 36 377),kE P "called" 385 (.ref 176),kE P "__static_attributes__" 386 (.ref 177),kE P "__doc__" 387 .none]) 2),#[]⟩
noncomputable def Ni:OO:=fun _=>⟨(.type "type"),none,(.cls ⟨"RoundOn",[(.ref 45)],[(.ref 179),(.ref 45),(.type "ValueError"),(.type "Exception"),(.type "BaseException"),(.type "object")],178, "RoundOn",true,[],[],false,none,false⟩),(List.toArray [(.some (.ref 163)),none,(.some (.str "RoundOn" 367)),(.some (.str "RoundOn" 375)),(.some (.builtin "ValueError.__new__")),(.some (.bool true))])⟩
noncomputable def OX:OO:=fun _=>⟨(.type "super"),none,(.fields (List.toArray [(.ref 179),(.ref 179),(.ref 179)])),#[]⟩
noncomputable def OY:OO:=fun _=>⟨(.type "builtin_function_or_method"),none,(.fields (List.toArray [(.builtin "object.__init_subclass__"),(.ref 179)])),#[]⟩
noncomputable def aaO:OO:=fun P=>⟨(.type "dict"),none,(.dict (List.toArray [kE P "__name__" 165 (.str "stillheap.heaps" 752),kE P "__doc__" 166 .none,kE P "__package__" 167 .none,kE P "__loader__" 168 (.builtin "__main__.__loader__#opaque"),kE P "__spec__" 169 .none,kE P "__annotations__" 170 (.ref 6),kE P "__builtins__" 171 (.ref 4),kE P "__file__" 173 (.str "/claim/cut.py" 172),kE P "__cached__" 174 .none,kE P "_wall" 193 (.ref 21),kE P "HeapError" 228 (.ref 45),kE P "BadHand" 251 (.ref 65),kE P "BadName" 274 (.ref 84),kE P "BadField" 297 (.ref 103),kE P "BadCount" 320 (.ref 122),kE P "NoRoom" 343 (.ref 141),kE P "TooManyWords" 366 (.ref 160),kE P "RoundOn" 389 (.ref 179),kE P "NoRound" 412 (.ref 198),kE P "HANDS" 416 (.int 8 415),kE P "WEAK_NAMES" 418 (.int 8 417),kE P "MOST_FIELDS" 420 (.int 6 419),kE P "LEAST_ROOM" 422 (.int 7 421),kE P "MOST_YOUNG" 424 (.int 64 423),kE P "MOST_LIMIT" 426 (.int 400 425),kE P "number_value" 433 (.ref 207),kE P "thing_value" 440 (.ref 214),kE P "kind_of" 447 (.ref 221),kE P "words_of" 454 (.ref 228),kE P "look_at_number" 461 (.ref 235),kE P "look_at_hand" 468 (.ref 242),kE P "look_at_name" 475 (.ref 249),kE P "look_at_field" 483 (.ref 256),kE P "look_at_limits" 491 (.ref 263),kE P "Hands" 597 (.ref 343),kE P "MOST_BEARERS" 601 (.int 12 600),kE P "WordTable" 677 (.ref 406),kE P "last_steps" 691 (.ref 417),kE P "NameTable" 751 (.ref 460)]) 39),#[]⟩
noncomputable def aaP:OO:=fun _=>⟨.none,none,(.fields (List.toArray [(.int 1 0),(.int 0 0),(.ref 20),(.int 5 0),(.int 0 0),(.ref 27),(.int 12 0),(.int 0 0),(.ref 54),(.int 16 0),(.int 0 0),(.ref 73),(.int 20 0),(.int 0 0),(.ref 92),(.int 24 0),(.int 0 0),(.ref 111),(.int 28 0),(.int 0 0),(.ref 130),(.int 32 0),(.int 0 0),(.ref 149),(.int 36 0),(.int 0 0),(.ref 168),(.int 40 0),(.int 0 0),(.ref 187),(.int 51 0),(.int 0 0),(.ref 206),(.int 54 0),(.int 0 0),(.ref 213),(.int 58 0),(.int 0 0),(.ref 220),(.int 60 0),(.int 0 0),(.ref 227),(.int 64 0),(.int 0 0),(.ref 234),(.int 67 0),(.int 0 0),(.ref 241),(.int 70 0),(.int 0 0),(.ref 248),(.int 73 0),(.int 0 0),(.ref 255),(.int 76 0),(.int 0 0),(.ref 262),(.int 82 0),(.int 0 0),(.ref 269),(.int 124 0),(.int 0 0),(.ref 353),(.int 152 0),(.int 0 0),(.ref 416),(.int 167 0),(.int 0 0),(.ref 423)])),#[]⟩
noncomputable def OZ:OO:=fun _=>⟨(.type "type"),none,(.cls ⟨"HeapError",[(.type "ValueError")],[(.ref 45),(.type "ValueError"),(.type "Exception"),(.type "BaseException"),(.type "object")],44, "HeapError",true,[],[(.ref 65),(.ref 84),(.ref 103),(.ref 122),(.ref 141),(.ref 160),(.ref 179),(.ref 198)],false,none,false⟩),(List.toArray [(.some (.ref 22)),none,(.some (.str "HeapError" 196)),(.some (.str "HeapError" 204)),(.some (.builtin "ValueError.__new__")),(.some (.bool true))])⟩
noncomputable def R3:OO:=fun P=>⟨(.type "dict"),none,(.dict (List.toArray [kE P "__module__" 397 (.str "stillheap.errors" 194),kE P "__qualname__" 399 (.str "NoRound" 398),kE P "__firstlineno__" 401 (.int 40 400),kE P "called" 408 (.ref 195),kE P "__static_attributes__" 409 (.ref 196)]) 5),#[]⟩
noncomputable def R4:OO:=fun _=>⟨.none,none,(.fields (List.toArray [(.int 42 0),(.int 4 0),(.ref 194)])),#[]⟩
noncomputable def R5:OO:=fun _=>⟨(.type "code"),none,(.fields (List.toArray [(.str "NoRound" 392),(.str "NoRound" 393),(.str "/claim/cut.py" 394),(.int 40 0),(.int 0 0),(.int 0 0),(.int 0 0),(.int 0 0),(.ref 185),(.bool false),(.int 181 0),(.ref 186),.none,.none,.none,.none,(.int 395 0),(.int 40 0),(.str "/claim/cut.py" 396)])),#[]⟩
noncomputable def R6:OO:=fun _=>⟨(.type "frame"),none,.plain,(List.toArray [(.some (.ref 187)),(.some (.ref 3)),(.some (.ref 184)),none,(.some (.str "stillheap.errors" 194)),none,(.some (.ref 0))])⟩
noncomputable def O0:OO:=fun _=>oT [(.str "self" 405)]
noncomputable def R7:OO:=fun _=>oG "called" "NoRound.called" (inClass (top 10) 0)
noncomputable def O1:OO:=fun _=>oC "called" 402 "NoRound.called" 42 1 0 0 3 189 181 190 191 192 193 406 407
noncomputable def O2:OO:=fun _=>oF "called" "NoRound.called" (inClass (top 10) 0) (.str "stillheap.errors" 194) 194
noncomputable def O3:OO:=fun P=>⟨(.type "dict"),none,(.dict (List.toArray [kE P "__module__" 397 (.str "stillheap.errors" 194),kE P "__firstlineno__" 401 (.int 40 400),kE P "called" 408 (.ref 195),kE P "__static_attributes__" 409 (.ref 196),kE P "__doc__" 410 .none]) 2),#[]⟩
noncomputable def O4:OO:=fun _=>⟨(.type "type"),none,(.cls ⟨"NoRound",[(.ref 45)],[(.ref 198),(.ref 45),(.type "ValueError"),(.type "Exception"),(.type "BaseException"),(.type "object")],197, "NoRound",true,[],[],false,none,false⟩),(List.toArray [(.some (.ref 182)),none,(.some (.str "NoRound" 390)),(.some (.str "NoRound" 398)),(.some (.builtin "ValueError.__new__")),(.some (.bool true))])⟩
noncomputable def R8:OO:=fun _=>⟨(.type "super"),none,(.fields (List.toArray [(.ref 198),(.ref 198),(.ref 198)])),#[]⟩
noncomputable def R9:OO:=fun _=>⟨(.type "builtin_function_or_method"),none,(.fields (List.toArray [(.builtin "object.__init_subclass__"),(.ref 198)])),#[]⟩
noncomputable def O5:OO:=fun _=>oT [(.str "x" 430)]
noncomputable def Sa:OO:=fun _=>oG "number_value" "number_value" (top 18)
noncomputable def O6:OO:=fun _=>oC "number_value" 427 "number_value" 51 1 0 0 3 201 181 202 203 204 205 431 432
noncomputable def O7:OO:=fun _=>oF "number_value" "number_value" (top 18) (.str "stillheap.values" 413) 206
noncomputable def O8:OO:=fun _=>oT [(.str "t" 437)]
noncomputable def Sb:OO:=fun _=>oG "thing_value" "thing_value" (top 19)
noncomputable def O9:OO:=fun _=>oC "thing_value" 434 "thing_value" 54 1 0 0 3 208 181 209 210 211 212 438 439
noncomputable def Pa:OO:=fun _=>oF "thing_value" "thing_value" (top 19) (.str "stillheap.values" 413) 213
noncomputable def Pb:OO:=fun _=>oT [(.str "value" 444)]
noncomputable def Sd:OO:=fun _=>oG "kind_of" "kind_of" (top 20)
noncomputable def Pc:OO:=fun _=>oC "kind_of" 441 "kind_of" 58 1 0 0 3 215 181 216 217 218 219 445 446
noncomputable def Pd:OO:=fun _=>oF "kind_of" "kind_of" (top 20) (.str "stillheap.values" 413) 220
noncomputable def Pe:OO:=fun _=>oT [(.str "fields" 451)]
noncomputable def Se:OO:=fun _=>oG "words_of" "words_of" (top 21)
noncomputable def Pf:OO:=fun _=>oC "words_of" 448 "words_of" 60 1 0 0 3 222 181 223 224 225 226 452 453
noncomputable def Pg:OO:=fun _=>oF "words_of" "words_of" (top 21) (.str "stillheap.values" 413) 227
noncomputable def Ph:OO:=fun _=>oT [(.str "x" 458)]
noncomputable def Sf:OO:=fun _=>oG "look_at_number" "look_at_number" (top 22)
noncomputable def Pj:OO:=fun _=>oC "look_at_number" 455 "look_at_number" 64 1 0 0 3 229 181 230 231 232 233 459 460
noncomputable def Pk:OO:=fun _=>oF "look_at_number" "look_at_number" (top 22) (.str "stillheap.values" 413) 234
noncomputable def Pm:OO:=fun _=>oT [(.str "h" 465)]
noncomputable def Sg:OO:=fun _=>oG "look_at_hand" "look_at_hand" (top 23)
noncomputable def Pn:OO:=fun _=>oC "look_at_hand" 462 "look_at_hand" 67 1 0 0 3 236 181 237 238 239 240 466 467
noncomputable def Po:OO:=fun _=>oF "look_at_hand" "look_at_hand" (top 23) (.str "stillheap.values" 413) 241
noncomputable def Pp:OO:=fun _=>oT [(.str "w" 472)]
noncomputable def Sh:OO:=fun _=>oG "look_at_name" "look_at_name" (top 24)
noncomputable def Pq:OO:=fun _=>oC "look_at_name" 469 "look_at_name" 70 1 0 0 3 243 181 244 245 246 247 473 474
noncomputable def Pr:OO:=fun _=>oF "look_at_name" "look_at_name" (top 24) (.str "stillheap.values" 413) 248
noncomputable def Pt:OO:=fun _=>oT [(.str "k" 479),(.str "fields" 480)]
noncomputable def Si:OO:=fun _=>oG "look_at_field" "look_at_field" (top 25)
noncomputable def Pu:OO:=fun _=>oC "look_at_field" 476 "look_at_field" 73 2 0 0 3 250 181 251 252 253 254 481 482
noncomputable def Pw:OO:=fun _=>oF "look_at_field" "look_at_field" (top 25) (.str "stillheap.values" 413) 255
noncomputable def Px:OO:=fun _=>oT [(.str "young" 487),(.str "limit" 488)]
noncomputable def Sj:OO:=fun _=>oG "look_at_limits" "look_at_limits" (top 26)
noncomputable def Py:OO:=fun _=>oC "look_at_limits" 484 "look_at_limits" 76 2 0 0 3 257 181 258 259 260 261 489 490
noncomputable def Pz:OO:=fun _=>oF "look_at_limits" "look_at_limits" (top 26) (.str "stillheap.values" 413) 262
noncomputable def Sk:OO:=fun P=>⟨(.type "dict"),none,(.dict (List.toArray [kE P "__module__" 501 (.str "stillheap.hands" 492),kE P "__qualname__" 503 (.str "Hands" 502),kE P "__firstlineno__" 505 (.int 82 504),kE P "__init__" 512 (.ref 277),kE P "word_in" 520 (.ref 284),kE P "all_words" 527 (.ref 291),kE P "put" 536 (.ref 298),kE P "copy" 545 (.ref 305),kE P "number" 554 (.ref 312),kE P "kind" 563 (.ref 319),kE P "value" 571 (.ref 326),kE P "same" 580 (.ref 333),kE P "thing_due" 588 (.ref 340),kE P "__static_attributes__" 590 (.ref 341)]) 14),#[]⟩
noncomputable def Sl:OO:=fun _=>⟨.none,none,(.fields (List.toArray [(.int 84 0),(.int 4 0),(.ref 276),(.int 87 0),(.int 4 0),(.ref 283),(.int 91 0),(.int 4 0),(.ref 290),(.int 94 0),(.int 4 0),(.ref 297),(.int 98 0),(.int 4 0),(.ref 304),(.int 102 0),(.int 4 0),(.ref 311),(.int 106 0),(.int 4 0),(.ref 318),(.int 110 0),(.int 4 0),(.ref 325),(.int 115 0),(.int 4 0),(.ref 332),(.int 118 0),(.int 4 0),(.ref 339)])),#[]⟩
noncomputable def Sn:OO:=fun _=>⟨(.type "code"),none,(.fields (List.toArray [(.str "Hands" 496),(.str "Hands" 497),(.str "/claim/cut.py" 498),(.int 82 0),(.int 0 0),(.int 0 0),(.int 0 0),(.int 0 0),(.ref 267),(.bool false),(.int 181 0),(.ref 268),.none,.none,.none,.none,(.int 499 0),(.int 82 0),(.str "/claim/cut.py" 500)])),#[]⟩
noncomputable def So:OO:=fun _=>⟨(.type "frame"),none,.plain,(List.toArray [(.some (.ref 269)),(.some (.ref 3)),(.some (.ref 266)),none,(.some (.str "stillheap.hands" 492)),none,(.some (.ref 0))])⟩
noncomputable def PB:OO:=fun _=>oT [(.str "self" 509)]
noncomputable def Sq:OO:=fun _=>oG "__init__" "Hands.__init__" (inClass (top 28) 0)
noncomputable def PD:OO:=fun _=>oC "__init__" 506 "Hands.__init__" 84 1 0 0 3 271 181 272 273 274 275 510 511
noncomputable def PH:OO:=fun _=>oF "__init__" "Hands.__init__" (inClass (top 28) 0) (.str "stillheap.hands" 492) 276
noncomputable def PJ:OO:=fun _=>oT [(.str "self" 516),(.str "h" 517)]
noncomputable def Sr:OO:=fun _=>oG "word_in" "Hands.word_in" (inClass (top 28) 1)
noncomputable def PL:OO:=fun _=>oC "word_in" 513 "Hands.word_in" 87 2 0 0 3 278 181 279 280 281 282 518 519
noncomputable def PM:OO:=fun _=>oF "word_in" "Hands.word_in" (inClass (top 28) 1) (.str "stillheap.hands" 492) 283
noncomputable def PN:OO:=fun _=>oT [(.str "self" 524)]
noncomputable def Ss:OO:=fun _=>oG "all_words" "Hands.all_words" (inClass (top 28) 2)
noncomputable def PQ:OO:=fun _=>oC "all_words" 521 "Hands.all_words" 91 1 0 0 3 285 181 286 287 288 289 525 526
noncomputable def PR:OO:=fun _=>oF "all_words" "Hands.all_words" (inClass (top 28) 2) (.str "stillheap.hands" 492) 290
noncomputable def PU:OO:=fun _=>oT [(.str "self" 531),(.str "h" 532),(.str "word" 533)]
noncomputable def Su:OO:=fun _=>oG "put" "Hands.put" (inClass (top 28) 3)
noncomputable def PV:OO:=fun _=>oC "put" 528 "Hands.put" 94 3 0 0 3 292 181 293 294 295 296 534 535
noncomputable def PX:OO:=fun _=>oF "put" "Hands.put" (inClass (top 28) 3) (.str "stillheap.hands" 492) 297
noncomputable def PY:OO:=fun _=>oT [(.str "self" 540),(.str "h" 541),(.str "g" 542)]
noncomputable def Sv:OO:=fun _=>oG "copy" "Hands.copy" (inClass (top 28) 4)
noncomputable def PZ:OO:=fun _=>oC "copy" 537 "Hands.copy" 98 3 0 0 3 299 181 300 301 302 303 543 544
noncomputable def P0:OO:=fun _=>oF "copy" "Hands.copy" (inClass (top 28) 4) (.str "stillheap.hands" 492) 304
noncomputable def P1:OO:=fun _=>oT [(.str "self" 549),(.str "h" 550),(.str "x" 551)]
noncomputable def Sw:OO:=fun _=>oG "number" "Hands.number" (inClass (top 28) 5)
noncomputable def P8:OO:=fun _=>oC "number" 546 "Hands.number" 102 3 0 0 3 306 181 307 308 309 310 552 553
noncomputable def P9:OO:=fun _=>oF "number" "Hands.number" (inClass (top 28) 5) (.str "stillheap.hands" 492) 311
noncomputable def Qa:OO:=fun _=>oT [(.str "self" 558),(.str "h" 559),(.str "kind" 560)]
noncomputable def Sx:OO:=fun _=>oG "kind" "Hands.kind" (inClass (top 28) 6)
noncomputable def Qb:OO:=fun _=>oC "kind" 555 "Hands.kind" 106 2 0 0 3 313 181 314 315 316 317 561 562
noncomputable def Qc:OO:=fun _=>oF "kind" "Hands.kind" (inClass (top 28) 6) (.str "stillheap.hands" 492) 318
noncomputable def Qd:OO:=fun _=>oT [(.str "self" 567),(.str "h" 568)]
noncomputable def Sy:OO:=fun _=>oG "value" "Hands.value" (inClass (top 28) 7)
noncomputable def Qe:OO:=fun _=>oC "value" 564 "Hands.value" 110 2 0 0 3 320 181 321 322 323 324 569 570
noncomputable def Qf:OO:=fun _=>oF "value" "Hands.value" (inClass (top 28) 7) (.str "stillheap.hands" 492) 325
noncomputable def Qg:OO:=fun _=>oT [(.str "self" 575),(.str "h" 576),(.str "g" 577)]
noncomputable def Sz:OO:=fun _=>oG "same" "Hands.same" (inClass (top 28) 8)
noncomputable def Qh:OO:=fun _=>oC "same" 572 "Hands.same" 115 3 0 0 3 327 181 328 329 330 331 578 579
noncomputable def Qi:OO:=fun _=>oF "same" "Hands.same" (inClass (top 28) 8) (.str "stillheap.hands" 492) 332
noncomputable def Qj:OO:=fun _=>oT [(.str "self" 584),(.str "h" 585)]
noncomputable def SA:OO:=fun _=>oG "thing_due" "Hands.thing_due" (inClass (top 28) 9)
noncomputable def Qk:OO:=fun _=>oC "thing_due" 581 "Hands.thing_due" 118 2 0 0 3 334 181 335 336 337 338 586 587
noncomputable def Ql:OO:=fun _=>oF "thing_due" "Hands.thing_due" (inClass (top 28) 9) (.str "stillheap.hands" 492) 339
noncomputable def Qm:OO:=fun _=>oT [(.str "words_held" 589)]
noncomputable def Qn:OO:=fun P=>⟨(.type "dict"),none,(.dict (List.toArray [kE P "__module__" 501 (.str "stillheap.hands" 492),kE P "__firstlineno__" 505 (.int 82 504),kE P "__init__" 512 (.ref 277),kE P "word_in" 520 (.ref 284),kE P "all_words" 527 (.ref 291),kE P "put" 536 (.ref 298),kE P "copy" 545 (.ref 305),kE P "number" 554 (.ref 312),kE P "kind" 563 (.ref 319),kE P "value" 571 (.ref 326),kE P "same" 580 (.ref 333),kE P "thing_due" 588 (.ref 340),kE P "__static_attributes__" 590 (.ref 341),kE P "__dict__" 592 (.ref 344),kE P "__weakref__" 594 (.ref 345),kE P "__doc__" 595 .none]) 4),#[]⟩
noncomputable def Qo:OO:=fun _=>⟨(.type "type"),none,(.cls ⟨"Hands",[(.type "object")],[(.ref 343),(.type "object")],342, "Hands",true,[],[],false,none,false⟩),(List.toArray [none,none,(.some (.str "Hands" 494)),(.some (.str "Hands" 502)),(.some (.builtin "object.__new__")),(.some (.bool true))])⟩
noncomputable def Qp:OO:=fun _=>⟨(.type "getset_descriptor"),none,(.fields (List.toArray [(.str "__dict__" 591),(.ref 343),(.builtin "function.__dict__"),(.builtin "function.__dict__#set")])),#[]⟩
noncomputable def Qq:OO:=fun _=>⟨(.type "getset_descriptor"),none,(.fields (List.toArray [(.str "__weakref__" 593),(.ref 343),(.builtin "ExceptionGroup.__weakref__"),.none])),#[]⟩
noncomputable def SD:OO:=fun _=>⟨(.type "super"),none,(.fields (List.toArray [(.ref 343),(.ref 343),(.ref 343)])),#[]⟩
noncomputable def SE:OO:=fun _=>⟨(.type "builtin_function_or_method"),none,(.fields (List.toArray [(.builtin "object.__init_subclass__"),(.ref 343)])),#[]⟩
noncomputable def SF:OO:=fun P=>⟨(.type "dict"),none,(.dict (List.toArray [kE P "__module__" 609 (.str "stillheap.lastwords" 598),kE P "__qualname__" 611 (.str "WordTable" 610),kE P "__firstlineno__" 613 (.int 124 612),kE P "__init__" 620 (.ref 361),kE P "bear" 629 (.ref 368),kE P "word_of" 637 (.ref 375),kE P "bearers" 644 (.ref 382),kE P "settle" 653 (.ref 389),kE P "take" 660 (.ref 396),kE P "said" 667 (.ref 403),kE P "__static_attributes__" 670 (.ref 404)]) 11),#[]⟩
noncomputable def SG:OO:=fun _=>⟨.none,none,(.fields (List.toArray [(.int 126 0),(.int 4 0),(.ref 360),(.int 130 0),(.int 4 0),(.ref 367),(.int 135 0),(.int 4 0),(.ref 374),(.int 138 0),(.int 4 0),(.ref 381),(.int 141 0),(.int 4 0),(.ref 388),(.int 146 0),(.int 4 0),(.ref 395),(.int 149 0),(.int 4 0),(.ref 402)])),#[]⟩
noncomputable def SH:OO:=fun _=>⟨(.type "code"),none,(.fields (List.toArray [(.str "WordTable" 604),(.str "WordTable" 605),(.str "/claim/cut.py" 606),(.int 124 0),(.int 0 0),(.int 0 0),(.int 0 0),(.int 0 0),(.ref 351),(.bool false),(.int 181 0),(.ref 352),.none,.none,.none,.none,(.int 607 0),(.int 124 0),(.str "/claim/cut.py" 608)])),#[]⟩
noncomputable def SI:OO:=fun _=>⟨(.type "frame"),none,.plain,(List.toArray [(.some (.ref 353)),(.some (.ref 3)),(.some (.ref 350)),none,(.some (.str "stillheap.lastwords" 598)),none,(.some (.ref 0))])⟩
noncomputable def Qr:OO:=fun _=>oT [(.str "self" 617)]
noncomputable def SJ:OO:=fun _=>oG "__init__" "WordTable.__init__" (inClass (top 31) 0)
noncomputable def Qs:OO:=fun _=>oC "__init__" 614 "WordTable.__init__" 126 1 0 0 3 355 181 356 357 358 359 618 619
noncomputable def Qt:OO:=fun _=>oF "__init__" "WordTable.__init__" (inClass (top 31) 0) (.str "stillheap.lastwords" 598) 360
noncomputable def Qu:OO:=fun _=>oT [(.str "self" 624),(.str "t" 625),(.str "x" 626)]
noncomputable def SK:OO:=fun _=>oG "bear" "WordTable.bear" (inClass (top 31) 1)
noncomputable def Qv:OO:=fun _=>oC "bear" 621 "WordTable.bear" 130 3 0 0 3 362 181 363 364 365 366 627 628
noncomputable def Qw:OO:=fun _=>oF "bear" "WordTable.bear" (inClass (top 31) 1) (.str "stillheap.lastwords" 598) 367
noncomputable def Qx:OO:=fun _=>oT [(.str "self" 633),(.str "t" 634)]
noncomputable def SM:OO:=fun _=>oG "word_of" "WordTable.word_of" (inClass (top 31) 2)
noncomputable def Qy:OO:=fun _=>oC "word_of" 630 "WordTable.word_of" 135 2 0 0 3 369 181 370 371 372 373 635 636
noncomputable def Qz:OO:=fun _=>oF "word_of" "WordTable.word_of" (inClass (top 31) 2) (.str "stillheap.lastwords" 598) 374
noncomputable def QA:OO:=fun _=>oT [(.str "self" 641)]
noncomputable def SN:OO:=fun _=>oG "bearers" "WordTable.bearers" (inClass (top 31) 3)
noncomputable def QB:OO:=fun _=>oC "bearers" 638 "WordTable.bearers" 138 1 0 0 3 376 181 377 378 379 380 642 643
noncomputable def QC:OO:=fun _=>oF "bearers" "WordTable.bearers" (inClass (top 31) 3) (.str "stillheap.lastwords" 598) 381
noncomputable def QD:OO:=fun _=>oT [(.str "self" 648),(.str "things" 649),(.str "t" 650)]
noncomputable def SO:OO:=fun _=>oG "settle" "WordTable.settle" (inClass (top 31) 4)
noncomputable def QE:OO:=fun _=>oC "settle" 645 "WordTable.settle" 141 2 0 0 3 383 181 384 385 386 387 651 652
noncomputable def QF:OO:=fun _=>oF "settle" "WordTable.settle" (inClass (top 31) 4) (.str "stillheap.lastwords" 598) 388
noncomputable def QG:OO:=fun _=>oT [(.str "self" 657)]
noncomputable def SQ:OO:=fun _=>oG "take" "WordTable.take" (inClass (top 31) 5)
noncomputable def QH:OO:=fun _=>oC "take" 654 "WordTable.take" 146 1 0 0 3 390 181 391 392 393 394 658 659
noncomputable def QI:OO:=fun _=>oF "take" "WordTable.take" (inClass (top 31) 5) (.str "stillheap.lastwords" 598) 395
noncomputable def QJ:OO:=fun _=>oT [(.str "self" 664)]
noncomputable def SR:OO:=fun _=>oG "said" "WordTable.said" (inClass (top 31) 6)
noncomputable def QK:OO:=fun _=>oC "said" 661 "WordTable.said" 149 1 0 0 3 397 181 398 399 400 401 665 666
noncomputable def QL:OO:=fun _=>oF "said" "WordTable.said" (inClass (top 31) 6) (.str "stillheap.lastwords" 598) 402
noncomputable def QM:OO:=fun _=>oT [(.str "words_borne" 668),(.str "words_said" 669)]
noncomputable def QN:OO:=fun P=>⟨(.type "dict"),none,(.dict (List.toArray [kE P "__module__" 609 (.str "stillheap.lastwords" 598),kE P "__firstlineno__" 613 (.int 124 612),kE P "__init__" 620 (.ref 361),kE P "bear" 629 (.ref 368),kE P "word_of" 637 (.ref 375),kE P "bearers" 644 (.ref 382),kE P "settle" 653 (.ref 389),kE P "take" 660 (.ref 396),kE P "said" 667 (.ref 403),kE P "__static_attributes__" 670 (.ref 404),kE P "__dict__" 672 (.ref 407),kE P "__weakref__" 674 (.ref 408),kE P "__doc__" 675 .none]) 4),#[]⟩
noncomputable def QO:OO:=fun _=>⟨(.type "type"),none,(.cls ⟨"WordTable",[(.type "object")],[(.ref 406),(.type "object")],405, "WordTable",true,[],[],false,none,false⟩),(List.toArray [none,none,(.some (.str "WordTable" 602)),(.some (.str "WordTable" 610)),(.some (.builtin "object.__new__")),(.some (.bool true))])⟩
noncomputable def QP:OO:=fun _=>⟨(.type "getset_descriptor"),none,(.fields (List.toArray [(.str "__dict__" 671),(.ref 406),(.builtin "function.__dict__"),(.builtin "function.__dict__#set")])),#[]⟩
noncomputable def QQ:OO:=fun _=>⟨(.type "getset_descriptor"),none,(.fields (List.toArray [(.str "__weakref__" 673),(.ref 406),(.builtin "ExceptionGroup.__weakref__"),.none])),#[]⟩
noncomputable def SS:OO:=fun _=>⟨(.type "super"),none,(.fields (List.toArray [(.ref 406),(.ref 406),(.ref 406)])),#[]⟩
noncomputable def SU:OO:=fun _=>⟨(.type "builtin_function_or_method"),none,(.fields (List.toArray [(.builtin "object.__init_subclass__"),(.ref 406)])),#[]⟩
noncomputable def QR:OO:=fun _=>oT [(.str "view" 683),(.str "steps" 684),(.str "place" 685),(.str "thing" 686),(.str "met" 687),(.str "done" 688)]
noncomputable def SV:OO:=fun _=>oG "last_steps" "last_steps" (top 33)
noncomputable def QS:OO:=fun _=>oC "last_steps" 680 "last_steps" 152 1 0 0 3 411 181 412 413 414 415 689 690
noncomputable def QT:OO:=fun _=>oF "last_steps" "last_steps" (top 33) (.str "stillheap.reach" 678) 416
noncomputable def SW:OO:=fun P=>⟨(.type "dict"),none,(.dict (List.toArray [kE P "__module__" 701 (.str "stillheap.weaknames" 692),kE P "__qualname__" 703 (.str "NameTable" 702),kE P "__firstlineno__" 705 (.int 167 704),kE P "__init__" 712 (.ref 431),kE P "name" 721 (.ref 438),kE P "named" 729 (.ref 445),kE P "all_named" 736 (.ref 452),kE P "settle" 742 (.ref 457),kE P "__static_attributes__" 744 (.ref 458)]) 9),#[]⟩
noncomputable def SX:OO:=fun _=>⟨.none,none,(.fields (List.toArray [(.int 169 0),(.int 4 0),(.ref 430),(.int 172 0),(.int 4 0),(.ref 437),(.int 176 0),(.int 4 0),(.ref 444),(.int 180 0),(.int 4 0),(.ref 451),(.int 183 0),(.int 4 0),(.ref 456)])),#[]⟩
noncomputable def SY:OO:=fun _=>⟨(.type "code"),none,(.fields (List.toArray [(.str "NameTable" 696),(.str "NameTable" 697),(.str "/claim/cut.py" 698),(.int 167 0),(.int 0 0),(.int 0 0),(.int 0 0),(.int 0 0),(.ref 421),(.bool false),(.int 181 0),(.ref 422),.none,.none,.none,.none,(.int 699 0),(.int 167 0),(.str "/claim/cut.py" 700)])),#[]⟩
noncomputable def S5:OO:=fun _=>⟨(.type "frame"),none,.plain,(List.toArray [(.some (.ref 423)),(.some (.ref 3)),(.some (.ref 420)),none,(.some (.str "stillheap.weaknames" 692)),none,(.some (.ref 0))])⟩
noncomputable def QU:OO:=fun _=>oT [(.str "self" 709)]
noncomputable def S6:OO:=fun _=>oG "__init__" "NameTable.__init__" (inClass (top 35) 0)
noncomputable def QV:OO:=fun _=>oC "__init__" 706 "NameTable.__init__" 169 1 0 0 3 425 181 426 427 428 429 710 711
noncomputable def QW:OO:=fun _=>oF "__init__" "NameTable.__init__" (inClass (top 35) 0) (.str "stillheap.weaknames" 692) 430
noncomputable def QX:OO:=fun _=>oT [(.str "self" 716),(.str "w" 717),(.str "t" 718)]
noncomputable def S7:OO:=fun _=>oG "name" "NameTable.name" (inClass (top 35) 1)
noncomputable def QY:OO:=fun _=>oC "name" 713 "NameTable.name" 172 3 0 0 3 432 181 433 434 435 436 719 720
noncomputable def QZ:OO:=fun _=>oF "name" "NameTable.name" (inClass (top 35) 1) (.str "stillheap.weaknames" 692) 437
noncomputable def Q0:OO:=fun _=>oT [(.str "self" 725),(.str "w" 726)]
noncomputable def S8:OO:=fun _=>oG "named" "NameTable.named" (inClass (top 35) 2)
noncomputable def Q1:OO:=fun _=>oC "named" 722 "NameTable.named" 176 2 0 0 3 439 181 440 441 442 443 727 728
noncomputable def Q2:OO:=fun _=>oF "named" "NameTable.named" (inClass (top 35) 2) (.str "stillheap.weaknames" 692) 444
noncomputable def Q3:OO:=fun _=>oT [(.str "self" 733)]
noncomputable def S9:OO:=fun _=>oG "all_named" "NameTable.all_named" (inClass (top 35) 3)
noncomputable def Q4:OO:=fun _=>oC "all_named" 730 "NameTable.all_named" 180 1 0 0 3 446 181 447 448 449 450 734 735
noncomputable def Q5:OO:=fun _=>oF "all_named" "NameTable.all_named" (inClass (top 35) 3) (.str "stillheap.weaknames" 692) 451
noncomputable def Ta:OO:=fun _=>oG "settle" "NameTable.settle" (inClass (top 35) 4)
noncomputable def Q7:OO:=fun _=>⟨(.type "code"),none,(.fields (List.toArray [(.str "settle" 737),(.str "NameTable.settle" 738),(.str "/claim/cut.py" 739),(.int 183 0),(.int 2 0),(.int 0 0),(.int 0 0),(.int 3 0),(.ref 453),(.bool true),(.int 181 0),(.ref 454),.none,.none,.none,(.ref 455),(.int 740 0),(.int 183 0),(.str "/claim/cut.py" 741)])),#[]⟩
noncomputable def Q8:OO:=fun _=>oF "settle" "NameTable.settle" (inClass (top 35) 4) (.str "stillheap.weaknames" 692) 456
noncomputable def Q9:OO:=fun _=>oT [(.str "things_named" 743)]
noncomputable def Ra:OO:=fun P=>⟨(.type "dict"),none,(.dict (List.toArray [kE P "__module__" 701 (.str "stillheap.weaknames" 692),kE P "__firstlineno__" 705 (.int 167 704),kE P "__init__" 712 (.ref 431),kE P "name" 721 (.ref 438),kE P "named" 729 (.ref 445),kE P "all_named" 736 (.ref 452),kE P "settle" 742 (.ref 457),kE P "__static_attributes__" 744 (.ref 458),kE P "__dict__" 746 (.ref 461),kE P "__weakref__" 748 (.ref 462),kE P "__doc__" 749 .none]) 4),#[]⟩
noncomputable def Rb:OO:=fun _=>⟨(.type "type"),none,(.cls ⟨"NameTable",[(.type "object")],[(.ref 460),(.type "object")],459, "NameTable",true,[],[],false,none,false⟩),(List.toArray [none,none,(.some (.str "NameTable" 694)),(.some (.str "NameTable" 702)),(.some (.builtin "object.__new__")),(.some (.bool true))])⟩
noncomputable def Rf:OO:=fun _=>⟨(.type "getset_descriptor"),none,(.fields (List.toArray [(.str "__dict__" 745),(.ref 460),(.builtin "function.__dict__"),(.builtin "function.__dict__#set")])),#[]⟩
noncomputable def Rg:OO:=fun _=>⟨(.type "getset_descriptor"),none,(.fields (List.toArray [(.str "__weakref__" 747),(.ref 460),(.builtin "ExceptionGroup.__weakref__"),.none])),#[]⟩
noncomputable def Tb:OO:=fun _=>⟨(.type "super"),none,(.fields (List.toArray [(.ref 460),(.ref 460),(.ref 460)])),#[]⟩
noncomputable def Tc:OO:=fun _=>⟨(.type "builtin_function_or_method"),none,(.fields (List.toArray [(.builtin "object.__init_subclass__"),(.ref 460)])),#[]⟩
noncomputable def aaQ:OO:=fun P=>⟨(.type "dict"),none,(.dict (List.toArray [kE P "__name__" 165 (.str "law_stillheap_k14_whole_an_endless_heap" 1142),kE P "__doc__" 166 .none,kE P "__package__" 167 .none,kE P "__loader__" 168 (.builtin "__main__.__loader__#opaque"),kE P "__spec__" 169 .none,kE P "__annotations__" 170 (.ref 6),kE P "__builtins__" 171 (.ref 4),kE P "__file__" 173 (.str "/claim/cut.py" 172),kE P "__cached__" 174 .none,kE P "_wall" 193 (.ref 21),kE P "HeapError" 228 (.ref 45),kE P "BadHand" 251 (.ref 65),kE P "BadName" 274 (.ref 84),kE P "BadField" 297 (.ref 103),kE P "BadCount" 320 (.ref 122),kE P "NoRoom" 343 (.ref 141),kE P "TooManyWords" 366 (.ref 160),kE P "RoundOn" 389 (.ref 179),kE P "NoRound" 412 (.ref 198),kE P "HANDS" 416 (.int 8 415),kE P "WEAK_NAMES" 418 (.int 8 417),kE P "MOST_FIELDS" 420 (.int 6 419),kE P "LEAST_ROOM" 422 (.int 7 421),kE P "MOST_YOUNG" 424 (.int 64 423),kE P "MOST_LIMIT" 426 (.int 400 425),kE P "number_value" 433 (.ref 207),kE P "thing_value" 440 (.ref 214),kE P "kind_of" 447 (.ref 221),kE P "words_of" 454 (.ref 228),kE P "look_at_number" 461 (.ref 235),kE P "look_at_hand" 468 (.ref 242),kE P "look_at_name" 475 (.ref 249),kE P "look_at_field" 483 (.ref 256),kE P "look_at_limits" 491 (.ref 263),kE P "Hands" 597 (.ref 343),kE P "MOST_BEARERS" 601 (.int 12 600),kE P "WordTable" 677 (.ref 406),kE P "last_steps" 691 (.ref 417),kE P "NameTable" 751 (.ref 460),kE P "Heap" 928 (.ref 587),kE P "thing_among" 936 (.ref 598),kE P "IdealHeap" 1141 (.ref 769),kE P "_law_numbers" 1155 (.ref 778),kE P "_law_deed" 1167 (.ref 785),kE P "_law_plain" 1175 (.ref 792),kE P "_law_done" 1185 (.ref 799),kE P "_law_thing" 1194 (.ref 806),kE P "_law_word_due" 1205 (.ref 813),kE P "_law_followed" 1214 (.ref 820)]) 49),#[]⟩
noncomputable def aaR:OO:=fun _=>⟨.none,none,(.fields (List.toArray [(.int 1 0),(.int 0 0),(.ref 20),(.int 5 0),(.int 0 0),(.ref 27),(.int 12 0),(.int 0 0),(.ref 54),(.int 16 0),(.int 0 0),(.ref 73),(.int 20 0),(.int 0 0),(.ref 92),(.int 24 0),(.int 0 0),(.ref 111),(.int 28 0),(.int 0 0),(.ref 130),(.int 32 0),(.int 0 0),(.ref 149),(.int 36 0),(.int 0 0),(.ref 168),(.int 40 0),(.int 0 0),(.ref 187),(.int 51 0),(.int 0 0),(.ref 206),(.int 54 0),(.int 0 0),(.ref 213),(.int 58 0),(.int 0 0),(.ref 220),(.int 60 0),(.int 0 0),(.ref 227),(.int 64 0),(.int 0 0),(.ref 234),(.int 67 0),(.int 0 0),(.ref 241),(.int 70 0),(.int 0 0),(.ref 248),(.int 73 0),(.int 0 0),(.ref 255),(.int 76 0),(.int 0 0),(.ref 262),(.int 82 0),(.int 0 0),(.ref 269),(.int 124 0),(.int 0 0),(.ref 353),(.int 152 0),(.int 0 0),(.ref 416),(.int 167 0),(.int 0 0),(.ref 423),(.int 186 0),(.int 0 0),(.ref 470),(.int 275 0),(.int 0 0),(.ref 597),(.int 280 0),(.int 0 0),(.ref 604),(.int 378 0),(.int 0 0),(.ref 777),(.int 390 0),(.int 0 0),(.ref 784),(.int 403 0),(.int 0 0),(.ref 791),(.int 428 0),(.int 0 0),(.ref 798),(.int 435 0),(.int 0 0),(.ref 805),(.int 438 0),(.int 0 0),(.ref 812),(.int 455 0),(.int 0 0),(.ref 819)])),#[]⟩
noncomputable def Xa:OO:=fun P=>⟨(.type "dict"),none,(.dict (List.toArray [kE P "__module__" 761 (.str "stillheap.heaps" 752),kE P "__qualname__" 763 (.str "Heap" 762),kE P "__firstlineno__" 765 (.int 186 764),kE P "__init__" 773 (.ref 478),kE P "add_thing" 783 (.ref 485),kE P "load" 794 (.ref 492),kE P "store" 806 (.ref 499),kE P "copy" 815 (.ref 506),kE P "drop" 823 (.ref 513),kE P "number" 832 (.ref 520),kE P "name" 842 (.ref 527),kE P "read_thing" 852 (.ref 534),kE P "word" 862 (.ref 541),kE P "small_round" 868 (.ref 546),kE P "let_go" 877 (.ref 553),kE P "look_at_held" 885 (.ref 560),kE P "field_value" 894 (.ref 567),kE P "counts_held" 901 (.ref 574),kE P "words_among" 907 (.ref 579),kE P "led_among" 913 (.ref 584),kE P "__static_attributes__" 921 (.ref 585)]) 21),#[]⟩
noncomputable def Xb:OO:=fun _=>⟨.none,none,(.fields (List.toArray [(.int 188 0),(.int 4 0),(.ref 477),(.int 197 0),(.int 4 0),(.ref 484),(.int 205 0),(.int 4 0),(.ref 491),(.int 211 0),(.int 4 0),(.ref 498),(.int 217 0),(.int 4 0),(.ref 505),(.int 220 0),(.int 4 0),(.ref 512),(.int 223 0),(.int 4 0),(.ref 519),(.int 226 0),(.int 4 0),(.ref 526),(.int 230 0),(.int 4 0),(.ref 533),(.int 236 0),(.int 4 0),(.ref 540),(.int 241 0),(.int 4 0),(.ref 545),(.int 252 0),(.int 4 0),(.ref 552),(.int 258 0),(.int 4 0),(.ref 559),(.int 261 0),(.int 4 0),(.ref 566),(.int 264 0),(.int 4 0),(.ref 573),(.int 267 0),(.int 4 0),(.ref 578),(.int 270 0),(.int 4 0),(.ref 583)])),#[]⟩
noncomputable def Xc:OO:=fun _=>⟨(.type "code"),none,(.fields (List.toArray [(.str "Heap" 756),(.str "Heap" 757),(.str "/claim/cut.py" 758),(.int 186 0),(.int 0 0),(.int 0 0),(.int 0 0),(.int 0 0),(.ref 468),(.bool false),(.int 181 0),(.ref 469),.none,.none,.none,.none,(.int 759 0),(.int 186 0),(.str "/claim/cut.py" 760)])),#[]⟩
noncomputable def Xd:OO:=fun _=>⟨(.type "frame"),none,.plain,(List.toArray [(.some (.ref 470)),(.some (.ref 3)),(.some (.ref 467)),none,(.some (.str "stillheap.heaps" 752)),none,(.some (.ref 0))])⟩
noncomputable def Td:OO:=fun _=>oT [(.str "self" 769),(.str "makes_young" 770)]
noncomputable def Xe:OO:=fun _=>oG "__init__" "Heap.__init__" (inClass (top 37) 0)
noncomputable def Tf:OO:=fun _=>oC "__init__" 766 "Heap.__init__" 188 2 0 0 3 472 181 473 474 475 476 771 772
noncomputable def Tg:OO:=fun _=>oF "__init__" "Heap.__init__" (inClass (top 37) 0) (.str "stillheap.heaps" 752) 477
noncomputable def Th:OO:=fun _=>oT [(.str "self" 777),(.str "h" 778),(.str "n" 779),(.str "t" 780)]
noncomputable def Xf:OO:=fun _=>oG "add_thing" "Heap.add_thing" (inClass (top 37) 1)
noncomputable def Ti:OO:=fun _=>oC "add_thing" 774 "Heap.add_thing" 197 3 0 0 3 479 181 480 481 482 483 781 782
noncomputable def Tj:OO:=fun _=>oF "add_thing" "Heap.add_thing" (inClass (top 37) 1) (.str "stillheap.heaps" 752) 484
noncomputable def Tn:OO:=fun _=>oT [(.str "self" 787),(.str "h" 788),(.str "g" 789),(.str "k" 790),(.str "fields" 791)]
noncomputable def Xg:OO:=fun _=>oG "load" "Heap.load" (inClass (top 37) 2)
noncomputable def To:OO:=fun _=>oC "load" 784 "Heap.load" 205 4 0 0 3 486 181 487 488 489 490 792 793
noncomputable def Tp:OO:=fun _=>oF "load" "Heap.load" (inClass (top 37) 2) (.str "stillheap.heaps" 752) 491
noncomputable def Tq:OO:=fun _=>oT [(.str "self" 798),(.str "g" 799),(.str "k" 800),(.str "h" 801),(.str "fields" 802),(.str "value" 803)]
noncomputable def Xh:OO:=fun _=>oG "store" "Heap.store" (inClass (top 37) 3)
noncomputable def Tr:OO:=fun _=>oC "store" 795 "Heap.store" 211 4 0 0 3 493 181 494 495 496 497 804 805
noncomputable def Ts:OO:=fun _=>oF "store" "Heap.store" (inClass (top 37) 3) (.str "stillheap.heaps" 752) 498
noncomputable def Tt:OO:=fun _=>oT [(.str "self" 810),(.str "h" 811),(.str "g" 812)]
noncomputable def Xi:OO:=fun _=>oG "copy" "Heap.copy" (inClass (top 37) 4)
noncomputable def Tu:OO:=fun _=>oC "copy" 807 "Heap.copy" 217 3 0 0 3 500 181 501 502 503 504 813 814
noncomputable def Tv:OO:=fun _=>oF "copy" "Heap.copy" (inClass (top 37) 4) (.str "stillheap.heaps" 752) 505
noncomputable def Tw:OO:=fun _=>oT [(.str "self" 819),(.str "h" 820)]
noncomputable def Xj:OO:=fun _=>oG "drop" "Heap.drop" (inClass (top 37) 5)
noncomputable def Tx:OO:=fun _=>oC "drop" 816 "Heap.drop" 220 2 0 0 3 507 181 508 509 510 511 821 822
noncomputable def Tz:OO:=fun _=>oF "drop" "Heap.drop" (inClass (top 37) 5) (.str "stillheap.heaps" 752) 512
noncomputable def TB:OO:=fun _=>oT [(.str "self" 827),(.str "h" 828),(.str "x" 829)]
noncomputable def Xk:OO:=fun _=>oG "number" "Heap.number" (inClass (top 37) 6)
noncomputable def TC:OO:=fun _=>oC "number" 824 "Heap.number" 223 3 0 0 3 514 181 515 516 517 518 830 831
noncomputable def TH:OO:=fun _=>oF "number" "Heap.number" (inClass (top 37) 6) (.str "stillheap.heaps" 752) 519
noncomputable def TJ:OO:=fun _=>oT [(.str "self" 836),(.str "w" 837),(.str "h" 838),(.str "t" 839)]
noncomputable def Xl:OO:=fun _=>oG "name" "Heap.name" (inClass (top 37) 7)
noncomputable def TK:OO:=fun _=>oC "name" 833 "Heap.name" 226 3 0 0 3 521 181 522 523 524 525 840 841
noncomputable def TL:OO:=fun _=>oF "name" "Heap.name" (inClass (top 37) 7) (.str "stillheap.heaps" 752) 526
noncomputable def TM:OO:=fun _=>oT [(.str "self" 846),(.str "h" 847),(.str "w" 848),(.str "t" 849)]
noncomputable def Xm:OO:=fun _=>oG "read_thing" "Heap.read_thing" (inClass (top 37) 8)
noncomputable def TN:OO:=fun _=>oC "read_thing" 843 "Heap.read_thing" 230 3 0 0 3 528 181 529 530 531 532 850 851
noncomputable def TQ:OO:=fun _=>oF "read_thing" "Heap.read_thing" (inClass (top 37) 8) (.str "stillheap.heaps" 752) 533
noncomputable def TR:OO:=fun _=>oT [(.str "self" 856),(.str "h" 857),(.str "x" 858),(.str "t" 859)]
noncomputable def Xn:OO:=fun _=>oG "word" "Heap.word" (inClass (top 37) 9)
noncomputable def TU:OO:=fun _=>oC "word" 853 "Heap.word" 236 3 0 0 3 535 181 536 537 538 539 860 861
noncomputable def TV:OO:=fun _=>oF "word" "Heap.word" (inClass (top 37) 9) (.str "stillheap.heaps" 752) 540
noncomputable def Xo:OO:=fun _=>oG "small_round" "Heap.small_round" (inClass (top 37) 10)
noncomputable def TX:OO:=fun _=>⟨(.type "code"),none,(.fields (List.toArray [(.str "small_round" 863),(.str "Heap.small_round" 864),(.str "/claim/cut.py" 865),(.int 241 0),(.int 1 0),(.int 0 0),(.int 0 0),(.int 3 0),(.ref 542),(.bool true),(.int 181 0),(.ref 543),.none,.none,.none,(.ref 544),(.int 866 0),(.int 241 0),(.str "/claim/cut.py" 867)])),#[]⟩
noncomputable def TY:OO:=fun _=>oF "small_round" "Heap.small_round" (inClass (top 37) 10) (.str "stillheap.heaps" 752) 545
noncomputable def TZ:OO:=fun _=>oT [(.str "self" 872),(.str "gone" 873),(.str "t" 874)]
noncomputable def Xp:OO:=fun _=>oG "let_go" "Heap.let_go" (inClass (top 37) 11)
noncomputable def T1:OO:=fun _=>oC "let_go" 869 "Heap.let_go" 252 2 0 0 3 547 181 548 549 550 551 875 876
noncomputable def T2:OO:=fun _=>oF "let_go" "Heap.let_go" (inClass (top 37) 11) (.str "stillheap.heaps" 752) 552
noncomputable def T3:OO:=fun _=>oT [(.str "self" 881),(.str "t" 882)]
noncomputable def Xq:OO:=fun _=>oG "look_at_held" "Heap.look_at_held" (inClass (top 37) 12)
noncomputable def T4:OO:=fun _=>oC "look_at_held" 878 "Heap.look_at_held" 258 2 0 0 3 554 181 555 556 557 558 883 884
noncomputable def T5:OO:=fun _=>oF "look_at_held" "Heap.look_at_held" (inClass (top 37) 12) (.str "stillheap.heaps" 752) 559
noncomputable def T6:OO:=fun _=>oT [(.str "self" 889),(.str "t" 890),(.str "k" 891)]
noncomputable def Xr:OO:=fun _=>oG "field_value" "Heap.field_value" (inClass (top 37) 13)
noncomputable def T7:OO:=fun _=>oC "field_value" 886 "Heap.field_value" 261 3 0 0 3 561 181 562 563 564 565 892 893
noncomputable def T8:OO:=fun _=>oF "field_value" "Heap.field_value" (inClass (top 37) 13) (.str "stillheap.heaps" 752) 566
noncomputable def T9:OO:=fun _=>oT [(.str "self" 898)]
noncomputable def Xs:OO:=fun _=>oG "counts_held" "Heap.counts_held" (inClass (top 37) 14)
noncomputable def Ua:OO:=fun _=>oC "counts_held" 895 "Heap.counts_held" 264 1 0 0 3 568 181 569 570 571 572 899 900
noncomputable def Ub:OO:=fun _=>oF "counts_held" "Heap.counts_held" (inClass (top 37) 14) (.str "stillheap.heaps" 752) 573
noncomputable def Xu:OO:=fun _=>oG "words_among" "Heap.words_among" (inClass (top 37) 15)
noncomputable def Uc:OO:=fun _=>⟨(.type "code"),none,(.fields (List.toArray [(.str "words_among" 902),(.str "Heap.words_among" 903),(.str "/claim/cut.py" 904),(.int 267 0),(.int 2 0),(.int 0 0),(.int 0 0),(.int 3 0),(.ref 575),(.bool true),(.int 181 0),(.ref 576),.none,.none,.none,(.ref 577),(.int 905 0),(.int 267 0),(.str "/claim/cut.py" 906)])),#[]⟩
noncomputable def Ud:OO:=fun _=>oF "words_among" "Heap.words_among" (inClass (top 37) 15) (.str "stillheap.heaps" 752) 578
noncomputable def Xv:OO:=fun _=>oG "led_among" "Heap.led_among" (inClass (top 37) 16)
noncomputable def Ue:OO:=fun _=>⟨(.type "code"),none,(.fields (List.toArray [(.str "led_among" 908),(.str "Heap.led_among" 909),(.str "/claim/cut.py" 910),(.int 270 0),(.int 3 0),(.int 0 0),(.int 0 0),(.int 3 0),(.ref 580),(.bool true),(.int 181 0),(.ref 581),.none,.none,.none,(.ref 582),(.int 911 0),(.int 270 0),(.str "/claim/cut.py" 912)])),#[]⟩
noncomputable def Ug:OO:=fun _=>oF "led_among" "Heap.led_among" (inClass (top 37) 16) (.str "stillheap.heaps" 752) 583
noncomputable def Uh:OO:=fun _=>oT [(.str "fields_held" 914),(.str "in_hands" 915),(.str "last_words" 916),(.str "makes_young" 917),(.str "next_thing" 918),(.str "weak_names" 919),(.str "young_things" 920)]
noncomputable def Ui:OO:=fun P=>⟨(.type "dict"),none,(.dict (List.toArray [kE P "__module__" 761 (.str "stillheap.heaps" 752),kE P "__firstlineno__" 765 (.int 186 764),kE P "__init__" 773 (.ref 478),kE P "add_thing" 783 (.ref 485),kE P "load" 794 (.ref 492),kE P "store" 806 (.ref 499),kE P "copy" 815 (.ref 506),kE P "drop" 823 (.ref 513),kE P "number" 832 (.ref 520),kE P "name" 842 (.ref 527),kE P "read_thing" 852 (.ref 534),kE P "word" 862 (.ref 541),kE P "small_round" 868 (.ref 546),kE P "let_go" 877 (.ref 553),kE P "look_at_held" 885 (.ref 560),kE P "field_value" 894 (.ref 567),kE P "counts_held" 901 (.ref 574),kE P "words_among" 907 (.ref 579),kE P "led_among" 913 (.ref 584),kE P "__static_attributes__" 921 (.ref 585),kE P "__dict__" 923 (.ref 588),kE P "__weakref__" 925 (.ref 589),kE P "__doc__" 926 .none]) 4),#[]⟩
noncomputable def Uj:OO:=fun _=>⟨(.type "type"),none,(.cls ⟨"Heap",[(.type "object")],[(.ref 587),(.type "object")],586, "Heap",true,[],[(.ref 769)],false,none,false⟩),(List.toArray [none,none,(.some (.str "Heap" 754)),(.some (.str "Heap" 762)),(.some (.builtin "object.__new__")),(.some (.bool true))])⟩
noncomputable def Uk:OO:=fun _=>⟨(.type "getset_descriptor"),none,(.fields (List.toArray [(.str "__dict__" 922),(.ref 587),(.builtin "function.__dict__"),(.builtin "function.__dict__#set")])),#[]⟩
noncomputable def Ul:OO:=fun _=>⟨(.type "getset_descriptor"),none,(.fields (List.toArray [(.str "__weakref__" 924),(.ref 587),(.builtin "ExceptionGroup.__weakref__"),.none])),#[]⟩
noncomputable def Xw:OO:=fun _=>⟨(.type "super"),none,(.fields (List.toArray [(.ref 587),(.ref 587),(.ref 587)])),#[]⟩
noncomputable def Xx:OO:=fun _=>⟨(.type "builtin_function_or_method"),none,(.fields (List.toArray [(.builtin "object.__init_subclass__"),(.ref 587)])),#[]⟩
noncomputable def Um:OO:=fun _=>oT [(.str "value" 932),(.str "things" 933)]
noncomputable def Xy:OO:=fun _=>oG "thing_among" "thing_among" (top 38)
noncomputable def Uo:OO:=fun _=>oC "thing_among" 929 "thing_among" 275 2 0 0 3 592 181 593 594 595 596 934 935
noncomputable def Up:OO:=fun _=>oF "thing_among" "thing_among" (top 38) (.str "stillheap.heaps" 752) 597
noncomputable def Uq:OO:=fun _=>oT [(.ref 587)]
noncomputable def Xz:OO:=fun P=>⟨(.type "dict"),none,(.dict (List.toArray [kE P "__module__" 946 (.str "stillheap.ideal" 937),kE P "__qualname__" 948 (.str "IdealHeap" 947),kE P "__firstlineno__" 950 (.int 280 949),kE P "__init__" 959 (.ref 612),kE P "make" 969 (.ref 619),kE P "read" 979 (.ref 626),kE P "take" 986 (.ref 633),kE P "kind" 994 (.ref 640),kE P "value" 1002 (.ref 647),kE P "fields" 1010 (.ref 654),kE P "same" 1019 (.ref 661),kE P "held" 1026 (.ref 668),kE P "small" 1033 (.ref 675),kE P "begin" 1042 (.ref 682),kE P "end" 1050 (.ref 689),kE P "round_on" 1057 (.ref 696),kE P "hands" 1064 (.ref 703),kE P "names" 1071 (.ref 710),kE P "things" 1078 (.ref 717),kE P "fields_of" 1086 (.ref 724),kE P "is_old" 1094 (.ref 731),kE P "word_of" 1102 (.ref 738),kE P "doomed" 1109 (.ref 745),kE P "said" 1116 (.ref 752),kE P "made" 1123 (.ref 759),kE P "spare" 1133 (.ref 766),kE P "__static_attributes__" 1138 (.ref 767)]) 27),#[]⟩
noncomputable def XA:OO:=fun _=>⟨.none,none,(.fields (List.toArray [(.int 282 0),(.int 4 0),(.ref 611),(.int 290 0),(.int 4 0),(.ref 618),(.int 299 0),(.int 4 0),(.ref 625),(.int 304 0),(.int 4 0),(.ref 632),(.int 307 0),(.int 4 0),(.ref 639),(.int 310 0),(.int 4 0),(.ref 646),(.int 313 0),(.int 4 0),(.ref 653),(.int 316 0),(.int 4 0),(.ref 660),(.int 319 0),(.int 4 0),(.ref 667),(.int 322 0),(.int 4 0),(.ref 674),(.int 325 0),(.int 4 0),(.ref 681),(.int 335 0),(.int 4 0),(.ref 688),(.int 343 0),(.int 4 0),(.ref 695),(.int 346 0),(.int 4 0),(.ref 702),(.int 349 0),(.int 4 0),(.ref 709),(.int 352 0),(.int 4 0),(.ref 716),(.int 355 0),(.int 4 0),(.ref 723),(.int 358 0),(.int 4 0),(.ref 730),(.int 361 0),(.int 4 0),(.ref 737),(.int 364 0),(.int 4 0),(.ref 744),(.int 367 0),(.int 4 0),(.ref 751),(.int 370 0),(.int 4 0),(.ref 758),(.int 373 0),(.int 4 0),(.ref 765)])),#[]⟩
noncomputable def XB:OO:=fun _=>⟨(.type "code"),none,(.fields (List.toArray [(.str "IdealHeap" 941),(.str "IdealHeap" 942),(.str "/claim/cut.py" 943),(.int 280 0),(.int 0 0),(.int 0 0),(.int 0 0),(.int 0 0),(.ref 602),(.bool false),(.int 181 0),(.ref 603),.none,.none,.none,.none,(.int 944 0),(.int 280 0),(.str "/claim/cut.py" 945)])),#[]⟩
noncomputable def XC:OO:=fun _=>⟨(.type "frame"),none,.plain,(List.toArray [(.some (.ref 604)),(.some (.ref 3)),(.some (.ref 601)),none,(.some (.str "stillheap.ideal" 937)),none,(.some (.ref 0))])⟩
noncomputable def Ur:OO:=fun _=>oT [(.str "self" 954),(.str "young" 955),(.str "limit" 956)]
noncomputable def XD:OO:=fun _=>oG "__init__" "IdealHeap.__init__" (inClass (top 40) 0)
noncomputable def Us:OO:=fun _=>oC "__init__" 951 "IdealHeap.__init__" 282 3 0 0 3 606 181 607 608 609 610 957 958
noncomputable def Ut:OO:=fun _=>oF "__init__" "IdealHeap.__init__" (inClass (top 40) 0) (.str "stillheap.ideal" 937) 611
noncomputable def Uu:OO:=fun _=>oT [(.str "self" 963),(.str "h" 964),(.str "n" 965),(.str "size" 966)]
noncomputable def XE:OO:=fun _=>oG "make" "IdealHeap.make" (inClass (top 40) 1)
noncomputable def Uv:OO:=fun _=>oC "make" 960 "IdealHeap.make" 290 3 0 0 3 613 181 614 615 616 617 967 968
noncomputable def Uw:OO:=fun _=>oF "make" "IdealHeap.make" (inClass (top 40) 1) (.str "stillheap.ideal" 937) 618
noncomputable def Ux:OO:=fun _=>oT [(.str "self" 973),(.str "h" 974),(.str "w" 975),(.str "t" 976)]
noncomputable def XF:OO:=fun _=>oG "read" "IdealHeap.read" (inClass (top 40) 2)
noncomputable def Uy:OO:=fun _=>oC "read" 970 "IdealHeap.read" 299 3 0 0 3 620 181 621 622 623 624 977 978
noncomputable def Uz:OO:=fun _=>oF "read" "IdealHeap.read" (inClass (top 40) 2) (.str "stillheap.ideal" 937) 625
noncomputable def UA:OO:=fun _=>oT [(.str "self" 983)]
noncomputable def XG:OO:=fun _=>oG "take" "IdealHeap.take" (inClass (top 40) 3)
noncomputable def UB:OO:=fun _=>oC "take" 980 "IdealHeap.take" 304 1 0 0 3 627 181 628 629 630 631 984 985
noncomputable def UC:OO:=fun _=>oF "take" "IdealHeap.take" (inClass (top 40) 3) (.str "stillheap.ideal" 937) 632
noncomputable def UD:OO:=fun _=>oT [(.str "self" 990),(.str "h" 991)]
noncomputable def XH:OO:=fun _=>oG "kind" "IdealHeap.kind" (inClass (top 40) 4)
noncomputable def UE:OO:=fun _=>oC "kind" 987 "IdealHeap.kind" 307 2 0 0 3 634 181 635 636 637 638 992 993
noncomputable def UG:OO:=fun _=>oF "kind" "IdealHeap.kind" (inClass (top 40) 4) (.str "stillheap.ideal" 937) 639
noncomputable def UH:OO:=fun _=>oT [(.str "self" 998),(.str "h" 999)]
noncomputable def XI:OO:=fun _=>oG "value" "IdealHeap.value" (inClass (top 40) 5)
noncomputable def UI:OO:=fun _=>oC "value" 995 "IdealHeap.value" 310 2 0 0 3 641 181 642 643 644 645 1000 1001
noncomputable def UJ:OO:=fun _=>oF "value" "IdealHeap.value" (inClass (top 40) 5) (.str "stillheap.ideal" 937) 646
noncomputable def UK:OO:=fun _=>oT [(.str "self" 1006),(.str "h" 1007)]
noncomputable def XJ:OO:=fun _=>oG "fields" "IdealHeap.fields" (inClass (top 40) 6)
noncomputable def UL:OO:=fun _=>oC "fields" 1003 "IdealHeap.fields" 313 2 0 0 3 648 181 649 650 651 652 1008 1009
noncomputable def UM:OO:=fun _=>oF "fields" "IdealHeap.fields" (inClass (top 40) 6) (.str "stillheap.ideal" 937) 653
noncomputable def UN:OO:=fun _=>oT [(.str "self" 1014),(.str "h" 1015),(.str "g" 1016)]
noncomputable def XM:OO:=fun _=>oG "same" "IdealHeap.same" (inClass (top 40) 7)
noncomputable def UO:OO:=fun _=>oC "same" 1011 "IdealHeap.same" 316 3 0 0 3 655 181 656 657 658 659 1017 1018
noncomputable def UP:OO:=fun _=>oF "same" "IdealHeap.same" (inClass (top 40) 7) (.str "stillheap.ideal" 937) 660
noncomputable def UQ:OO:=fun _=>oT [(.str "self" 1023)]
noncomputable def XN:OO:=fun _=>oG "held" "IdealHeap.held" (inClass (top 40) 8)
noncomputable def UR:OO:=fun _=>oC "held" 1020 "IdealHeap.held" 319 1 0 0 3 662 181 663 664 665 666 1024 1025
noncomputable def US:OO:=fun _=>oF "held" "IdealHeap.held" (inClass (top 40) 8) (.str "stillheap.ideal" 937) 667
noncomputable def UT:OO:=fun _=>oT [(.str "self" 1030)]
noncomputable def XO:OO:=fun _=>oG "small" "IdealHeap.small" (inClass (top 40) 9)
noncomputable def UU:OO:=fun _=>oC "small" 1027 "IdealHeap.small" 322 1 0 0 3 669 181 670 671 672 673 1031 1032
noncomputable def UW:OO:=fun _=>oF "small" "IdealHeap.small" (inClass (top 40) 9) (.str "stillheap.ideal" 937) 674
noncomputable def UX:OO:=fun _=>oT [(.str "self" 1037),(.str "kept" 1038),(.str "t" 1039)]
noncomputable def XQ:OO:=fun _=>oG "begin" "IdealHeap.begin" (inClass (top 40) 10)
noncomputable def UY:OO:=fun _=>oC "begin" 1034 "IdealHeap.begin" 325 1 0 0 3 676 181 677 678 679 680 1040 1041
noncomputable def UZ:OO:=fun _=>oF "begin" "IdealHeap.begin" (inClass (top 40) 10) (.str "stillheap.ideal" 937) 681
noncomputable def U0:OO:=fun _=>oT [(.str "self" 1046),(.str "gone" 1047)]
noncomputable def XR:OO:=fun _=>oG "end" "IdealHeap.end" (inClass (top 40) 11)
noncomputable def U1:OO:=fun _=>oC "end" 1043 "IdealHeap.end" 335 1 0 0 3 683 181 684 685 686 687 1048 1049
noncomputable def U2:OO:=fun _=>oF "end" "IdealHeap.end" (inClass (top 40) 11) (.str "stillheap.ideal" 937) 688
noncomputable def U3:OO:=fun _=>oT [(.str "self" 1054)]
noncomputable def XS:OO:=fun _=>oG "round_on" "IdealHeap.round_on" (inClass (top 40) 12)
noncomputable def U4:OO:=fun _=>oC "round_on" 1051 "IdealHeap.round_on" 343 1 0 0 3 690 181 691 692 693 694 1055 1056
noncomputable def U5:OO:=fun _=>oF "round_on" "IdealHeap.round_on" (inClass (top 40) 12) (.str "stillheap.ideal" 937) 695
noncomputable def U6:OO:=fun _=>oT [(.str "self" 1061)]
noncomputable def XT:OO:=fun _=>oG "hands" "IdealHeap.hands" (inClass (top 40) 13)
noncomputable def U7:OO:=fun _=>oC "hands" 1058 "IdealHeap.hands" 346 1 0 0 3 697 181 698 699 700 701 1062 1063
noncomputable def U8:OO:=fun _=>oF "hands" "IdealHeap.hands" (inClass (top 40) 13) (.str "stillheap.ideal" 937) 702
noncomputable def U9:OO:=fun _=>oT [(.str "self" 1068)]
noncomputable def XU:OO:=fun _=>oG "names" "IdealHeap.names" (inClass (top 40) 14)
noncomputable def Va:OO:=fun _=>oC "names" 1065 "IdealHeap.names" 349 1 0 0 3 704 181 705 706 707 708 1069 1070
noncomputable def Vb:OO:=fun _=>oF "names" "IdealHeap.names" (inClass (top 40) 14) (.str "stillheap.ideal" 937) 709
noncomputable def Vc:OO:=fun _=>oT [(.str "self" 1075)]
noncomputable def XW:OO:=fun _=>oG "things" "IdealHeap.things" (inClass (top 40) 15)
noncomputable def Vd:OO:=fun _=>oC "things" 1072 "IdealHeap.things" 352 1 0 0 3 711 181 712 713 714 715 1076 1077
noncomputable def Ve:OO:=fun _=>oF "things" "IdealHeap.things" (inClass (top 40) 15) (.str "stillheap.ideal" 937) 716
noncomputable def Vf:OO:=fun _=>oT [(.str "self" 1082),(.str "t" 1083)]
noncomputable def XX:OO:=fun _=>oG "fields_of" "IdealHeap.fields_of" (inClass (top 40) 16)
noncomputable def Vg:OO:=fun _=>oC "fields_of" 1079 "IdealHeap.fields_of" 355 2 0 0 3 718 181 719 720 721 722 1084 1085
noncomputable def Vh:OO:=fun _=>oF "fields_of" "IdealHeap.fields_of" (inClass (top 40) 16) (.str "stillheap.ideal" 937) 723
noncomputable def Vi:OO:=fun _=>oT [(.str "self" 1090),(.str "t" 1091)]
noncomputable def XY:OO:=fun _=>oG "is_old" "IdealHeap.is_old" (inClass (top 40) 17)
noncomputable def Vj:OO:=fun _=>oC "is_old" 1087 "IdealHeap.is_old" 358 2 0 0 3 725 181 726 727 728 729 1092 1093
noncomputable def Vk:OO:=fun _=>oF "is_old" "IdealHeap.is_old" (inClass (top 40) 17) (.str "stillheap.ideal" 937) 730
noncomputable def Vm:OO:=fun _=>oT [(.str "self" 1098),(.str "t" 1099)]
noncomputable def XZ:OO:=fun _=>oG "word_of" "IdealHeap.word_of" (inClass (top 40) 18)
noncomputable def Vn:OO:=fun _=>oC "word_of" 1095 "IdealHeap.word_of" 361 2 0 0 3 732 181 733 734 735 736 1100 1101
noncomputable def Vo:OO:=fun _=>oF "word_of" "IdealHeap.word_of" (inClass (top 40) 18) (.str "stillheap.ideal" 937) 737
noncomputable def Vp:OO:=fun _=>oT [(.str "self" 1106)]
noncomputable def X0:OO:=fun _=>oG "doomed" "IdealHeap.doomed" (inClass (top 40) 19)
noncomputable def Vq:OO:=fun _=>oC "doomed" 1103 "IdealHeap.doomed" 364 1 0 0 3 739 181 740 741 742 743 1107 1108
noncomputable def Vr:OO:=fun _=>oF "doomed" "IdealHeap.doomed" (inClass (top 40) 19) (.str "stillheap.ideal" 937) 744
noncomputable def Vs:OO:=fun _=>oT [(.str "self" 1113)]
noncomputable def X2:OO:=fun _=>oG "said" "IdealHeap.said" (inClass (top 40) 20)
noncomputable def Vt:OO:=fun _=>oC "said" 1110 "IdealHeap.said" 367 1 0 0 3 746 181 747 748 749 750 1114 1115
noncomputable def Vu:OO:=fun _=>oF "said" "IdealHeap.said" (inClass (top 40) 20) (.str "stillheap.ideal" 937) 751
noncomputable def Vv:OO:=fun _=>oT [(.str "self" 1120)]
noncomputable def X3:OO:=fun _=>oG "made" "IdealHeap.made" (inClass (top 40) 21)
noncomputable def Vw:OO:=fun _=>oC "made" 1117 "IdealHeap.made" 370 1 0 0 3 753 181 754 755 756 757 1121 1122
noncomputable def Vx:OO:=fun _=>oF "made" "IdealHeap.made" (inClass (top 40) 21) (.str "stillheap.ideal" 937) 758
noncomputable def Vy:OO:=fun _=>oT [(.str "self" 1127),(.str "t" 1128),(.str "spared" 1129),(.str "other" 1130)]
noncomputable def X4:OO:=fun _=>oG "spare" "IdealHeap.spare" (inClass (top 40) 22)
noncomputable def Vz:OO:=fun _=>oC "spare" 1124 "IdealHeap.spare" 373 2 0 0 3 760 181 761 762 763 764 1131 1132
noncomputable def VA:OO:=fun _=>oF "spare" "IdealHeap.spare" (inClass (top 40) 22) (.str "stillheap.ideal" 937) 765
noncomputable def VB:OO:=fun _=>oT [(.str "doomed_things" 1134),(.str "in_round" 1135),(.str "limit" 1136),(.str "young_room" 1137)]
noncomputable def VC:OO:=fun P=>⟨(.type "dict"),none,(.dict (List.toArray [kE P "__module__" 946 (.str "stillheap.ideal" 937),kE P "__firstlineno__" 950 (.int 280 949),kE P "__init__" 959 (.ref 612),kE P "make" 969 (.ref 619),kE P "read" 979 (.ref 626),kE P "take" 986 (.ref 633),kE P "kind" 994 (.ref 640),kE P "value" 1002 (.ref 647),kE P "fields" 1010 (.ref 654),kE P "same" 1019 (.ref 661),kE P "held" 1026 (.ref 668),kE P "small" 1033 (.ref 675),kE P "begin" 1042 (.ref 682),kE P "end" 1050 (.ref 689),kE P "round_on" 1057 (.ref 696),kE P "hands" 1064 (.ref 703),kE P "names" 1071 (.ref 710),kE P "things" 1078 (.ref 717),kE P "fields_of" 1086 (.ref 724),kE P "is_old" 1094 (.ref 731),kE P "word_of" 1102 (.ref 738),kE P "doomed" 1109 (.ref 745),kE P "said" 1116 (.ref 752),kE P "made" 1123 (.ref 759),kE P "spare" 1133 (.ref 766),kE P "__static_attributes__" 1138 (.ref 767),kE P "__doc__" 1139 .none]) 2),#[]⟩
noncomputable def VD:OO:=fun _=>⟨(.type "type"),none,(.cls ⟨"IdealHeap",[(.ref 587)],[(.ref 769),(.ref 587),(.type "object")],768, "IdealHeap",true,[],[],false,none,false⟩),(List.toArray [(.some (.ref 599)),none,(.some (.str "IdealHeap" 939)),(.some (.str "IdealHeap" 947)),(.some (.builtin "object.__new__")),(.some (.bool true))])⟩
noncomputable def X5:OO:=fun _=>⟨(.type "super"),none,(.fields (List.toArray [(.ref 769),(.ref 769),(.ref 769)])),#[]⟩
noncomputable def X6:OO:=fun _=>⟨(.type "builtin_function_or_method"),none,(.fields (List.toArray [(.builtin "object.__init_subclass__"),(.ref 769)])),#[]⟩
noncomputable def VE:OO:=fun _=>oT [(.str "script" 1147),(.str "most" 1148),(.str "found" 1149),(.str "k" 1150),(.str "near" 1151),(.str "turn" 1152)]
noncomputable def X7:OO:=fun _=>oG "_law_numbers" "_law_numbers" (top 42)
noncomputable def VF:OO:=fun _=>oC "_law_numbers" 1144 "_law_numbers" 378 2 0 0 3 772 181 773 774 775 776 1153 1154
noncomputable def VG:OO:=fun _=>oF "_law_numbers" "_law_numbers" (top 42) (.str "law_stillheap_k14_whole_an_endless_heap" 1142) 777
noncomputable def VH:OO:=fun _=>oT [(.str "number" 1159),(.str "a" 1160),(.str "b" 1161),(.str "c" 1162),(.str "kind" 1163),(.str "some" 1164)]
noncomputable def X8:OO:=fun _=>oG "_law_deed" "_law_deed" (top 43)
noncomputable def VI:OO:=fun _=>oC "_law_deed" 1156 "_law_deed" 390 1 0 0 3 779 181 780 781 782 783 1165 1166
noncomputable def VJ:OO:=fun _=>oF "_law_deed" "_law_deed" (top 43) (.str "law_stillheap_k14_whole_an_endless_heap" 1142) 784
noncomputable def VL:OO:=fun _=>oT [(.str "hall" 1171),(.str "deed" 1172)]
noncomputable def X9:OO:=fun _=>oG "_law_plain" "_law_plain" (top 44)
noncomputable def VM:OO:=fun _=>oC "_law_plain" 1168 "_law_plain" 403 2 0 0 3 786 181 787 788 789 790 1173 1174
noncomputable def VN:OO:=fun _=>oF "_law_plain" "_law_plain" (top 44) (.str "law_stillheap_k14_whole_an_endless_heap" 1142) 791
noncomputable def VO:OO:=fun _=>oT [(.str "hall" 1179),(.str "deed" 1180),(.str "word" 1181),(.str "e" 1182)]
noncomputable def Yb:OO:=fun _=>oG "_law_done" "_law_done" (top 45)
noncomputable def VP:OO:=fun _=>oC "_law_done" 1176 "_law_done" 428 2 0 0 3 793 181 794 795 796 797 1183 1184
noncomputable def VQ:OO:=fun _=>oF "_law_done" "_law_done" (top 45) (.str "law_stillheap_k14_whole_an_endless_heap" 1142) 798
noncomputable def VR:OO:=fun _=>oT [(.str "hands" 1189),(.str "h" 1190),(.str "value" 1191)]
noncomputable def Yc:OO:=fun _=>oG "_law_thing" "_law_thing" (top 46)
noncomputable def VS:OO:=fun _=>oC "_law_thing" 1186 "_law_thing" 435 2 0 0 3 800 181 801 802 803 804 1192 1193
noncomputable def VT:OO:=fun _=>oF "_law_thing" "_law_thing" (top 46) (.str "law_stillheap_k14_whole_an_endless_heap" 1142) 805
noncomputable def VU:OO:=fun _=>oT [(.str "hands" 1198),(.str "fields" 1199),(.str "deed" 1200),(.str "g" 1201),(.str "k" 1202)]
noncomputable def Yd:OO:=fun _=>oG "_law_word_due" "_law_word_due" (top 47)
noncomputable def VV:OO:=fun _=>oC "_law_word_due" 1195 "_law_word_due" 438 3 0 0 3 807 181 808 809 810 811 1203 1204
noncomputable def VW:OO:=fun _=>oF "_law_word_due" "_law_word_due" (top 47) (.str "law_stillheap_k14_whole_an_endless_heap" 1142) 812
noncomputable def VX:OO:=fun _=>oT [(.str "hands" 1209),(.str "fields" 1210),(.str "deed" 1211)]
noncomputable def Ye:OO:=fun _=>oG "_law_followed" "_law_followed" (top 48)
noncomputable def VY:OO:=fun _=>oC "_law_followed" 1206 "_law_followed" 455 3 0 0 3 814 181 815 816 817 818 1212 1213
noncomputable def VZ:OO:=fun _=>oF "_law_followed" "_law_followed" (top 48) (.str "law_stillheap_k14_whole_an_endless_heap" 1142) 819
noncomputable def Yg:OO:=fun P=>⟨(.type "dict"),none,(.dict (List.toArray [kE P "__name__" 165 (.str "law_stillheap_k14_whole_an_endless_heap" 1142),kE P "__doc__" 166 .none,kE P "__package__" 167 .none,kE P "__loader__" 168 (.builtin "__main__.__loader__#opaque"),kE P "__spec__" 169 .none,kE P "__annotations__" 170 (.ref 6),kE P "__builtins__" 171 (.ref 4),kE P "__file__" 173 (.str "/claim/cut.py" 172),kE P "__cached__" 174 .none,kE P "_wall" 193 (.ref 21),kE P "HeapError" 228 (.ref 45),kE P "BadHand" 251 (.ref 65),kE P "BadName" 274 (.ref 84),kE P "BadField" 297 (.ref 103),kE P "BadCount" 320 (.ref 122),kE P "NoRoom" 343 (.ref 141),kE P "TooManyWords" 366 (.ref 160),kE P "RoundOn" 389 (.ref 179),kE P "NoRound" 412 (.ref 198),kE P "HANDS" 416 (.int 8 415),kE P "WEAK_NAMES" 418 (.int 8 417),kE P "MOST_FIELDS" 420 (.int 6 419),kE P "LEAST_ROOM" 422 (.int 7 421),kE P "MOST_YOUNG" 424 (.int 64 423),kE P "MOST_LIMIT" 426 (.int 400 425),kE P "number_value" 433 (.ref 207),kE P "thing_value" 440 (.ref 214),kE P "kind_of" 447 (.ref 221),kE P "words_of" 454 (.ref 228),kE P "look_at_number" 461 (.ref 235),kE P "look_at_hand" 468 (.ref 242),kE P "look_at_name" 475 (.ref 249),kE P "look_at_field" 483 (.ref 256),kE P "look_at_limits" 491 (.ref 263),kE P "Hands" 597 (.ref 343),kE P "MOST_BEARERS" 601 (.int 12 600),kE P "WordTable" 677 (.ref 406),kE P "last_steps" 691 (.ref 417),kE P "NameTable" 751 (.ref 460),kE P "Heap" 928 (.ref 587),kE P "thing_among" 936 (.ref 598),kE P "IdealHeap" 1141 (.ref 769),kE P "_law_numbers" 1155 (.ref 778),kE P "_law_deed" 1167 (.ref 785),kE P "_law_plain" 1175 (.ref 792),kE P "_law_done" 1185 (.ref 799),kE P "_law_thing" 1194 (.ref 806),kE P "_law_word_due" 1205 (.ref 813),kE P "_law_followed" 1214 (.ref 820),kE P "_law_asks_right" 1228 (.ref 827),kE P "_law_heap" 1236 (.ref 834),kE P "_law_deeds" 1242 (.ref 839),kE P "law" 1255 (.ref 846)]) 53),#[]⟩
noncomputable def ZE:OO:=fun _=>⟨.none,none,(.fields (List.toArray [(.int 1 0),(.int 0 0),(.ref 20),(.int 5 0),(.int 0 0),(.ref 27),(.int 12 0),(.int 0 0),(.ref 54),(.int 16 0),(.int 0 0),(.ref 73),(.int 20 0),(.int 0 0),(.ref 92),(.int 24 0),(.int 0 0),(.ref 111),(.int 28 0),(.int 0 0),(.ref 130),(.int 32 0),(.int 0 0),(.ref 149),(.int 36 0),(.int 0 0),(.ref 168),(.int 40 0),(.int 0 0),(.ref 187),(.int 51 0),(.int 0 0),(.ref 206),(.int 54 0),(.int 0 0),(.ref 213),(.int 58 0),(.int 0 0),(.ref 220),(.int 60 0),(.int 0 0),(.ref 227),(.int 64 0),(.int 0 0),(.ref 234),(.int 67 0),(.int 0 0),(.ref 241),(.int 70 0),(.int 0 0),(.ref 248),(.int 73 0),(.int 0 0),(.ref 255),(.int 76 0),(.int 0 0),(.ref 262),(.int 82 0),(.int 0 0),(.ref 269),(.int 124 0),(.int 0 0),(.ref 353),(.int 152 0),(.int 0 0),(.ref 416),(.int 167 0),(.int 0 0),(.ref 423),(.int 186 0),(.int 0 0),(.ref 470),(.int 275 0),(.int 0 0),(.ref 597),(.int 280 0),(.int 0 0),(.ref 604),(.int 378 0),(.int 0 0),(.ref 777),(.int 390 0),(.int 0 0),(.ref 784),(.int 403 0),(.int 0 0),(.ref 791),(.int 428 0),(.int 0 0),(.ref 798),(.int 435 0),(.int 0 0),(.ref 805),(.int 438 0),(.int 0 0),(.ref 812),(.int 455 0),(.int 0 0),(.ref 819),(.int 469 0),(.int 0 0),(.ref 826),(.int 487 0),(.int 0 0),(.ref 833),(.int 492 0),(.int 0 0),(.ref 838),(.int 495 0),(.int 0 0),(.ref 845)])),#[]⟩
noncomputable def Yh:OO:=fun _=>oT [(.str "hall" 1218),(.str "hands" 1219),(.str "fields" 1220),(.str "h" 1221),(.str "value" 1222),(.str "due" 1223),(.str "g" 1224),(.str "told" 1225)]
noncomputable def ZF:OO:=fun _=>oG "_law_asks_right" "_law_asks_right" (top 49)
noncomputable def Yi:OO:=fun _=>oC "_law_asks_right" 1215 "_law_asks_right" 469 3 0 0 3 821 181 822 823 824 825 1226 1227
noncomputable def Yj:OO:=fun _=>oF "_law_asks_right" "_law_asks_right" (top 49) (.str "law_stillheap_k14_whole_an_endless_heap" 1142) 826
noncomputable def Yk:OO:=fun _=>oT [(.str "script" 1232),(.str "head" 1233)]
noncomputable def ZG:OO:=fun _=>oG "_law_heap" "_law_heap" (top 50)
noncomputable def Yl:OO:=fun _=>oC "_law_heap" 1229 "_law_heap" 487 1 0 0 3 828 181 829 830 831 832 1234 1235
noncomputable def Ym:OO:=fun _=>oF "_law_heap" "_law_heap" (top 50) (.str "law_stillheap_k14_whole_an_endless_heap" 1142) 833
noncomputable def ZH:OO:=fun _=>oG "_law_deeds" "_law_deeds" (top 51)
noncomputable def Yn:OO:=fun _=>⟨(.type "code"),none,(.fields (List.toArray [(.str "_law_deeds" 1237),(.str "_law_deeds" 1238),(.str "/claim/cut.py" 1239),(.int 492 0),(.int 2 0),(.int 0 0),(.int 0 0),(.int 3 0),(.ref 835),(.bool true),(.int 181 0),(.ref 836),.none,.none,.none,(.ref 837),(.int 1240 0),(.int 492 0),(.str "/claim/cut.py" 1241)])),#[]⟩
noncomputable def Yo:OO:=fun _=>oF "_law_deeds" "_law_deeds" (top 51) (.str "law_stillheap_k14_whole_an_endless_heap" 1142) 838
noncomputable def Yp:OO:=fun _=>oT [(.str "script" 1246),(.str "heap" 1247),(.str "hands" 1248),(.str "fields" 1249),(.str "deed" 1250),(.str "due" 1251),(.str "word" 1252)]
noncomputable def ZI:OO:=fun _=>oG "law" "law" (top 52)
noncomputable def Yq:OO:=fun _=>oC "law" 1243 "law" 495 1 0 0 3 840 181 841 842 843 844 1253 1254
noncomputable def Yr:OO:=fun _=>oF "law" "law" (top 52) (.str "law_stillheap_k14_whole_an_endless_heap" 1142) 845
noncomputable def hTa (P:Params):BT:=mkT P 12 (o0::o1::o2::o3::o4::o5::o6::o7::o8::o9::o10::o7::o8::o11::o12::[])
noncomputable def hSa (w:World) (os:OsState):SharedT:=⟨hTa w.params,15,⟨[],[],[],0,[],[],false,(List.toArray []),[],0,false,false,false,0,[2000,10,10],false,0,true,[],[],0,false⟩,#[],⟨0,0,0,0⟩,187,os⟩
noncomputable def hTb (P:Params):BT:=mkT P 12 (o0::o1::o2::o3::o4::o5::o6::o7::o8::o9::o10::o7::o8::o11::o12::[])
noncomputable def hSb (w:World) (os:OsState):SharedT:=⟨hTb w.params,15,⟨[],[],[],0,[],[],false,(List.toArray []),[],0,false,false,false,0,[2000,10,10],false,0,true,[],[],0,false⟩,#[],⟨0,0,0,0⟩,187,os⟩
noncomputable def hT0 (P:Params):BT:=mkT P 12 (o0::o1::o2::o13::o4::o5::o6::o7::o8::o9::o10::o7::o14::o11::o12::o7::o8::o15::o7::o16::o17::o18::o19::o20::o21::o7::o22::o23::o24::o7::o8::o25::o7::o26::o27::o28::o7::o8::o29::o7::o30::o31::o32::o7::o33::o34::o35::o36::o37::o38::o20::o39::o7::o40::o41::o42::o7::o8::o43::o7::o44::o45::o46::o7::o47::o48::o49::o50::o38::o20::o51::o7::o52::o53::o54::o7::o8::o55::o7::o56::o57::o58::o7::o59::o60::o61::o62::o38::o20::o63::o7::o64::o65::o66::o7::o8::o67::o7::o68::o69::o70::o7::o71::o72::o73::o74::o38::o20::o75::o7::o76::o77::o78::o7::o8::o79::o7::o80::o81::o82::o7::o83::o84::o85::o86::o38::o20::o87::o7::o88::o89::o90::o7::o8::o91::o7::o92::o93::o94::o7::o95::o96::o97::o98::o38::o20::o99::o7::OL::OM::ON::o7::o8::M8::o7::OP::M9::Na::o7::Nb::Nc::OQ::OR::o38::o20::OS::o7::OT::OU::OV::o7::o8::Nd::o7::OW::Nf::Ng::o7::Nh::Ni::OX::OY::[])
noncomputable def hS0 (w:World) (os:OsState):SharedT:=⟨hT0 w.params,182,⟨[],[],[],0,[],[],false,(List.toArray []),[],0,false,false,false,0,[2000,10,10],false,0,true,[],[],0,false⟩,#[],⟨0,0,0,0⟩,390,os⟩
noncomputable def hT1 (P:Params):BT:=mkT P 12 (o0::o1::o2::aaO::o4::o5::o6::o7::o8::o9::o10::o7::aaP::o11::o12::o7::o8::o15::o7::o16::o17::o18::o19::o20::o21::o7::o22::o23::o24::o7::o8::o25::o7::o26::o27::o28::o7::o8::o29::o7::o30::o31::o32::o7::o33::OZ::o35::o36::o37::o38::o20::o39::o7::o40::o41::o42::o7::o8::o43::o7::o44::o45::o46::o7::o47::o48::o49::o50::o38::o20::o51::o7::o52::o53::o54::o7::o8::o55::o7::o56::o57::o58::o7::o59::o60::o61::o62::o38::o20::o63::o7::o64::o65::o66::o7::o8::o67::o7::o68::o69::o70::o7::o71::o72::o73::o74::o38::o20::o75::o7::o76::o77::o78::o7::o8::o79::o7::o80::o81::o82::o7::o83::o84::o85::o86::o38::o20::o87::o7::o88::o89::o90::o7::o8::o91::o7::o92::o93::o94::o7::o95::o96::o97::o98::o38::o20::o99::o7::OL::OM::ON::o7::o8::M8::o7::OP::M9::Na::o7::Nb::Nc::OQ::OR::o38::o20::OS::o7::OT::OU::OV::o7::o8::Nd::o7::OW::Nf::Ng::o7::Nh::Ni::OX::OY::o38::o20::R3::o7::R4::R5::R6::o7::o8::O0::o7::R7::O1::O2::o7::O3::O4::R8::R9::o7::o8::O5::o7::Sa::O6::O7::o7::o8::O8::o7::Sb::O9::Pa::o7::o8::Pb::o7::Sd::Pc::Pd::o7::o8::Pe::o7::Se::Pf::Pg::o7::o8::Ph::o7::Sf::Pj::Pk::o7::o8::Pm::o7::Sg::Pn::Po::o7::o8::Pp::o7::Sh::Pq::Pr::o7::o8::Pt::o7::Si::Pu::Pw::o7::o8::Px::o7::Sj::Py::Pz::o7::o20::Sk::o7::Sl::Sn::So::o7::o8::PB::o7::Sq::PD::PH::o7::o8::PJ::o7::Sr::PL::PM::o7::o8::PN::o7::Ss::PQ::PR::o7::o8::PU::o7::Su::PV::PX::o7::o8::PY::o7::Sv::PZ::P0::o7::o8::P1::o7::Sw::P8::P9::o7::o8::Qa::o7::Sx::Qb::Qc::o7::o8::Qd::o7::Sy::Qe::Qf::o7::o8::Qg::o7::Sz::Qh::Qi::o7::o8::Qj::o7::SA::Qk::Ql::Qm::Qn::Qo::Qp::Qq::SD::SE::o7::o20::SF::o7::SG::SH::SI::o7::o8::Qr::o7::SJ::Qs::Qt::o7::o8::Qu::o7::SK::Qv::Qw::o7::o8::Qx::o7::SM::Qy::Qz::o7::o8::QA::o7::SN::QB::QC::o7::o8::QD::o7::SO::QE::QF::o7::o8::QG::o7::SQ::QH::QI::o7::o8::QJ::o7::SR::QK::QL::QM::QN::QO::QP::QQ::SS::SU::o7::o8::QR::o7::SV::QS::QT::o7::o20::SW::o7::SX::SY::S5::o7::o8::QU::o7::S6::QV::QW::o7::o8::QX::o7::S7::QY::QZ::o7::o8::Q0::o7::S8::Q1::Q2::o7::o8::Q3::o7::S9::Q4::Q5::o7::o8::Ta::Q7::Q8::Q9::Ra::Rb::Rf::Rg::Tb::Tc::[])
noncomputable def hS1 (w:World) (os:OsState):SharedT:=⟨hT1 w.params,465,⟨[],[],[],0,[],[],false,(List.toArray []),[],0,false,false,false,0,[2000,10,10],false,0,true,[],[],0,false⟩,#[],⟨0,0,0,0⟩,754,os⟩
noncomputable def hT2 (P:Params):BT:=mkT P 12 (o0::o1::o2::aaQ::o4::o5::o6::o7::o8::o9::o10::o7::aaR::o11::o12::o7::o8::o15::o7::o16::o17::o18::o19::o20::o21::o7::o22::o23::o24::o7::o8::o25::o7::o26::o27::o28::o7::o8::o29::o7::o30::o31::o32::o7::o33::OZ::o35::o36::o37::o38::o20::o39::o7::o40::o41::o42::o7::o8::o43::o7::o44::o45::o46::o7::o47::o48::o49::o50::o38::o20::o51::o7::o52::o53::o54::o7::o8::o55::o7::o56::o57::o58::o7::o59::o60::o61::o62::o38::o20::o63::o7::o64::o65::o66::o7::o8::o67::o7::o68::o69::o70::o7::o71::o72::o73::o74::o38::o20::o75::o7::o76::o77::o78::o7::o8::o79::o7::o80::o81::o82::o7::o83::o84::o85::o86::o38::o20::o87::o7::o88::o89::o90::o7::o8::o91::o7::o92::o93::o94::o7::o95::o96::o97::o98::o38::o20::o99::o7::OL::OM::ON::o7::o8::M8::o7::OP::M9::Na::o7::Nb::Nc::OQ::OR::o38::o20::OS::o7::OT::OU::OV::o7::o8::Nd::o7::OW::Nf::Ng::o7::Nh::Ni::OX::OY::o38::o20::R3::o7::R4::R5::R6::o7::o8::O0::o7::R7::O1::O2::o7::O3::O4::R8::R9::o7::o8::O5::o7::Sa::O6::O7::o7::o8::O8::o7::Sb::O9::Pa::o7::o8::Pb::o7::Sd::Pc::Pd::o7::o8::Pe::o7::Se::Pf::Pg::o7::o8::Ph::o7::Sf::Pj::Pk::o7::o8::Pm::o7::Sg::Pn::Po::o7::o8::Pp::o7::Sh::Pq::Pr::o7::o8::Pt::o7::Si::Pu::Pw::o7::o8::Px::o7::Sj::Py::Pz::o7::o20::Sk::o7::Sl::Sn::So::o7::o8::PB::o7::Sq::PD::PH::o7::o8::PJ::o7::Sr::PL::PM::o7::o8::PN::o7::Ss::PQ::PR::o7::o8::PU::o7::Su::PV::PX::o7::o8::PY::o7::Sv::PZ::P0::o7::o8::P1::o7::Sw::P8::P9::o7::o8::Qa::o7::Sx::Qb::Qc::o7::o8::Qd::o7::Sy::Qe::Qf::o7::o8::Qg::o7::Sz::Qh::Qi::o7::o8::Qj::o7::SA::Qk::Ql::Qm::Qn::Qo::Qp::Qq::SD::SE::o7::o20::SF::o7::SG::SH::SI::o7::o8::Qr::o7::SJ::Qs::Qt::o7::o8::Qu::o7::SK::Qv::Qw::o7::o8::Qx::o7::SM::Qy::Qz::o7::o8::QA::o7::SN::QB::QC::o7::o8::QD::o7::SO::QE::QF::o7::o8::QG::o7::SQ::QH::QI::o7::o8::QJ::o7::SR::QK::QL::QM::QN::QO::QP::QQ::SS::SU::o7::o8::QR::o7::SV::QS::QT::o7::o20::SW::o7::SX::SY::S5::o7::o8::QU::o7::S6::QV::QW::o7::o8::QX::o7::S7::QY::QZ::o7::o8::Q0::o7::S8::Q1::Q2::o7::o8::Q3::o7::S9::Q4::Q5::o7::o8::Ta::Q7::Q8::Q9::Ra::Rb::Rf::Rg::Tb::Tc::o7::o20::Xa::o7::Xb::Xc::Xd::o7::o8::Td::o7::Xe::Tf::Tg::o7::o8::Th::o7::Xf::Ti::Tj::o7::o8::Tn::o7::Xg::To::Tp::o7::o8::Tq::o7::Xh::Tr::Ts::o7::o8::Tt::o7::Xi::Tu::Tv::o7::o8::Tw::o7::Xj::Tx::Tz::o7::o8::TB::o7::Xk::TC::TH::o7::o8::TJ::o7::Xl::TK::TL::o7::o8::TM::o7::Xm::TN::TQ::o7::o8::TR::o7::Xn::TU::TV::o7::o8::Xo::TX::TY::o7::o8::TZ::o7::Xp::T1::T2::o7::o8::T3::o7::Xq::T4::T5::o7::o8::T6::o7::Xr::T7::T8::o7::o8::T9::o7::Xs::Ua::Ub::o7::o8::Xu::Uc::Ud::o7::o8::Xv::Ue::Ug::Uh::Ui::Uj::Uk::Ul::Xw::Xx::o7::o8::Um::o7::Xy::Uo::Up::Uq::o20::Xz::o7::XA::XB::XC::o7::o8::Ur::o7::XD::Us::Ut::o7::o8::Uu::o7::XE::Uv::Uw::o7::o8::Ux::o7::XF::Uy::Uz::o7::o8::UA::o7::XG::UB::UC::o7::o8::UD::o7::XH::UE::UG::o7::o8::UH::o7::XI::UI::UJ::o7::o8::UK::o7::XJ::UL::UM::o7::o8::UN::o7::XM::UO::UP::o7::o8::UQ::o7::XN::UR::US::o7::o8::UT::o7::XO::UU::UW::o7::o8::UX::o7::XQ::UY::UZ::o7::o8::U0::o7::XR::U1::U2::o7::o8::U3::o7::XS::U4::U5::o7::o8::U6::o7::XT::U7::U8::o7::o8::U9::o7::XU::Va::Vb::o7::o8::Vc::o7::XW::Vd::Ve::o7::o8::Vf::o7::XX::Vg::Vh::o7::o8::Vi::o7::XY::Vj::Vk::o7::o8::Vm::o7::XZ::Vn::Vo::o7::o8::Vp::o7::X0::Vq::Vr::o7::o8::Vs::o7::X2::Vt::Vu::o7::o8::Vv::o7::X3::Vw::Vx::o7::o8::Vy::o7::X4::Vz::VA::VB::VC::VD::X5::X6::o7::o8::VE::o7::X7::VF::VG::o7::o8::VH::o7::X8::VI::VJ::o7::o8::VL::o7::X9::VM::VN::o7::o8::VO::o7::Yb::VP::VQ::o7::o8::VR::o7::Yc::VS::VT::o7::o8::VU::o7::Yd::VV::VW::o7::o8::VX::o7::Ye::VY::VZ::[])
noncomputable def hS2 (w:World) (os:OsState):SharedT:=⟨hT2 w.params,821,⟨[],[],[],0,[],[],false,(List.toArray []),[],0,false,false,false,0,[2000,10,10],false,0,true,[],[],0,false⟩,#[],⟨0,0,0,0⟩,1215,os⟩
noncomputable def hT3 (P:Params):BT:=mkT P 12 (o0::o1::o2::Yg::o4::o5::o6::o7::o8::o9::o10::o7::ZE::o11::o12::o7::o8::o15::o7::o16::o17::o18::o19::o20::o21::o7::o22::o23::o24::o7::o8::o25::o7::o26::o27::o28::o7::o8::o29::o7::o30::o31::o32::o7::o33::OZ::o35::o36::o37::o38::o20::o39::o7::o40::o41::o42::o7::o8::o43::o7::o44::o45::o46::o7::o47::o48::o49::o50::o38::o20::o51::o7::o52::o53::o54::o7::o8::o55::o7::o56::o57::o58::o7::o59::o60::o61::o62::o38::o20::o63::o7::o64::o65::o66::o7::o8::o67::o7::o68::o69::o70::o7::o71::o72::o73::o74::o38::o20::o75::o7::o76::o77::o78::o7::o8::o79::o7::o80::o81::o82::o7::o83::o84::o85::o86::o38::o20::o87::o7::o88::o89::o90::o7::o8::o91::o7::o92::o93::o94::o7::o95::o96::o97::o98::o38::o20::o99::o7::OL::OM::ON::o7::o8::M8::o7::OP::M9::Na::o7::Nb::Nc::OQ::OR::o38::o20::OS::o7::OT::OU::OV::o7::o8::Nd::o7::OW::Nf::Ng::o7::Nh::Ni::OX::OY::o38::o20::R3::o7::R4::R5::R6::o7::o8::O0::o7::R7::O1::O2::o7::O3::O4::R8::R9::o7::o8::O5::o7::Sa::O6::O7::o7::o8::O8::o7::Sb::O9::Pa::o7::o8::Pb::o7::Sd::Pc::Pd::o7::o8::Pe::o7::Se::Pf::Pg::o7::o8::Ph::o7::Sf::Pj::Pk::o7::o8::Pm::o7::Sg::Pn::Po::o7::o8::Pp::o7::Sh::Pq::Pr::o7::o8::Pt::o7::Si::Pu::Pw::o7::o8::Px::o7::Sj::Py::Pz::o7::o20::Sk::o7::Sl::Sn::So::o7::o8::PB::o7::Sq::PD::PH::o7::o8::PJ::o7::Sr::PL::PM::o7::o8::PN::o7::Ss::PQ::PR::o7::o8::PU::o7::Su::PV::PX::o7::o8::PY::o7::Sv::PZ::P0::o7::o8::P1::o7::Sw::P8::P9::o7::o8::Qa::o7::Sx::Qb::Qc::o7::o8::Qd::o7::Sy::Qe::Qf::o7::o8::Qg::o7::Sz::Qh::Qi::o7::o8::Qj::o7::SA::Qk::Ql::Qm::Qn::Qo::Qp::Qq::SD::SE::o7::o20::SF::o7::SG::SH::SI::o7::o8::Qr::o7::SJ::Qs::Qt::o7::o8::Qu::o7::SK::Qv::Qw::o7::o8::Qx::o7::SM::Qy::Qz::o7::o8::QA::o7::SN::QB::QC::o7::o8::QD::o7::SO::QE::QF::o7::o8::QG::o7::SQ::QH::QI::o7::o8::QJ::o7::SR::QK::QL::QM::QN::QO::QP::QQ::SS::SU::o7::o8::QR::o7::SV::QS::QT::o7::o20::SW::o7::SX::SY::S5::o7::o8::QU::o7::S6::QV::QW::o7::o8::QX::o7::S7::QY::QZ::o7::o8::Q0::o7::S8::Q1::Q2::o7::o8::Q3::o7::S9::Q4::Q5::o7::o8::Ta::Q7::Q8::Q9::Ra::Rb::Rf::Rg::Tb::Tc::o7::o20::Xa::o7::Xb::Xc::Xd::o7::o8::Td::o7::Xe::Tf::Tg::o7::o8::Th::o7::Xf::Ti::Tj::o7::o8::Tn::o7::Xg::To::Tp::o7::o8::Tq::o7::Xh::Tr::Ts::o7::o8::Tt::o7::Xi::Tu::Tv::o7::o8::Tw::o7::Xj::Tx::Tz::o7::o8::TB::o7::Xk::TC::TH::o7::o8::TJ::o7::Xl::TK::TL::o7::o8::TM::o7::Xm::TN::TQ::o7::o8::TR::o7::Xn::TU::TV::o7::o8::Xo::TX::TY::o7::o8::TZ::o7::Xp::T1::T2::o7::o8::T3::o7::Xq::T4::T5::o7::o8::T6::o7::Xr::T7::T8::o7::o8::T9::o7::Xs::Ua::Ub::o7::o8::Xu::Uc::Ud::o7::o8::Xv::Ue::Ug::Uh::Ui::Uj::Uk::Ul::Xw::Xx::o7::o8::Um::o7::Xy::Uo::Up::Uq::o20::Xz::o7::XA::XB::XC::o7::o8::Ur::o7::XD::Us::Ut::o7::o8::Uu::o7::XE::Uv::Uw::o7::o8::Ux::o7::XF::Uy::Uz::o7::o8::UA::o7::XG::UB::UC::o7::o8::UD::o7::XH::UE::UG::o7::o8::UH::o7::XI::UI::UJ::o7::o8::UK::o7::XJ::UL::UM::o7::o8::UN::o7::XM::UO::UP::o7::o8::UQ::o7::XN::UR::US::o7::o8::UT::o7::XO::UU::UW::o7::o8::UX::o7::XQ::UY::UZ::o7::o8::U0::o7::XR::U1::U2::o7::o8::U3::o7::XS::U4::U5::o7::o8::U6::o7::XT::U7::U8::o7::o8::U9::o7::XU::Va::Vb::o7::o8::Vc::o7::XW::Vd::Ve::o7::o8::Vf::o7::XX::Vg::Vh::o7::o8::Vi::o7::XY::Vj::Vk::o7::o8::Vm::o7::XZ::Vn::Vo::o7::o8::Vp::o7::X0::Vq::Vr::o7::o8::Vs::o7::X2::Vt::Vu::o7::o8::Vv::o7::X3::Vw::Vx::o7::o8::Vy::o7::X4::Vz::VA::VB::VC::VD::X5::X6::o7::o8::VE::o7::X7::VF::VG::o7::o8::VH::o7::X8::VI::VJ::o7::o8::VL::o7::X9::VM::VN::o7::o8::VO::o7::Yb::VP::VQ::o7::o8::VR::o7::Yc::VS::VT::o7::o8::VU::o7::Yd::VV::VW::o7::o8::VX::o7::Ye::VY::VZ::o7::o8::Yh::o7::ZF::Yi::Yj::o7::o8::Yk::o7::ZG::Yl::Ym::o7::o8::ZH::Yn::Yo::o7::o8::Yp::o7::ZI::Yq::Yr::[])
noncomputable def hS3 (w:World) (os:OsState):SharedT:=⟨hT3 w.params,847,⟨[],[],[],0,[],[],false,(List.toArray []),[],0,false,false,false,0,[2000,10,10],false,0,true,[],[],0,false⟩,#[],⟨0,0,0,0⟩,1256,os⟩
noncomputable def hTf (P:Params):BT:=mkT P 12 (o0::o1::o2::Yg::o4::o5::o6::o7::o8::o9::o10::o7::ZE::o11::o12::o7::o8::o15::o7::o16::o17::o18::o19::o20::o21::o7::o22::o23::o24::o7::o8::o25::o7::o26::o27::o28::o7::o8::o29::o7::o30::o31::o32::o7::o33::OZ::o35::o36::o37::o38::o20::o39::o7::o40::o41::o42::o7::o8::o43::o7::o44::o45::o46::o7::o47::o48::o49::o50::o38::o20::o51::o7::o52::o53::o54::o7::o8::o55::o7::o56::o57::o58::o7::o59::o60::o61::o62::o38::o20::o63::o7::o64::o65::o66::o7::o8::o67::o7::o68::o69::o70::o7::o71::o72::o73::o74::o38::o20::o75::o7::o76::o77::o78::o7::o8::o79::o7::o80::o81::o82::o7::o83::o84::o85::o86::o38::o20::o87::o7::o88::o89::o90::o7::o8::o91::o7::o92::o93::o94::o7::o95::o96::o97::o98::o38::o20::o99::o7::OL::OM::ON::o7::o8::M8::o7::OP::M9::Na::o7::Nb::Nc::OQ::OR::o38::o20::OS::o7::OT::OU::OV::o7::o8::Nd::o7::OW::Nf::Ng::o7::Nh::Ni::OX::OY::o38::o20::R3::o7::R4::R5::R6::o7::o8::O0::o7::R7::O1::O2::o7::O3::O4::R8::R9::o7::o8::O5::o7::Sa::O6::O7::o7::o8::O8::o7::Sb::O9::Pa::o7::o8::Pb::o7::Sd::Pc::Pd::o7::o8::Pe::o7::Se::Pf::Pg::o7::o8::Ph::o7::Sf::Pj::Pk::o7::o8::Pm::o7::Sg::Pn::Po::o7::o8::Pp::o7::Sh::Pq::Pr::o7::o8::Pt::o7::Si::Pu::Pw::o7::o8::Px::o7::Sj::Py::Pz::o7::o20::Sk::o7::Sl::Sn::So::o7::o8::PB::o7::Sq::PD::PH::o7::o8::PJ::o7::Sr::PL::PM::o7::o8::PN::o7::Ss::PQ::PR::o7::o8::PU::o7::Su::PV::PX::o7::o8::PY::o7::Sv::PZ::P0::o7::o8::P1::o7::Sw::P8::P9::o7::o8::Qa::o7::Sx::Qb::Qc::o7::o8::Qd::o7::Sy::Qe::Qf::o7::o8::Qg::o7::Sz::Qh::Qi::o7::o8::Qj::o7::SA::Qk::Ql::Qm::Qn::Qo::Qp::Qq::SD::SE::o7::o20::SF::o7::SG::SH::SI::o7::o8::Qr::o7::SJ::Qs::Qt::o7::o8::Qu::o7::SK::Qv::Qw::o7::o8::Qx::o7::SM::Qy::Qz::o7::o8::QA::o7::SN::QB::QC::o7::o8::QD::o7::SO::QE::QF::o7::o8::QG::o7::SQ::QH::QI::o7::o8::QJ::o7::SR::QK::QL::QM::QN::QO::QP::QQ::SS::SU::o7::o8::QR::o7::SV::QS::QT::o7::o20::SW::o7::SX::SY::S5::o7::o8::QU::o7::S6::QV::QW::o7::o8::QX::o7::S7::QY::QZ::o7::o8::Q0::o7::S8::Q1::Q2::o7::o8::Q3::o7::S9::Q4::Q5::o7::o8::Ta::Q7::Q8::Q9::Ra::Rb::Rf::Rg::Tb::Tc::o7::o20::Xa::o7::Xb::Xc::Xd::o7::o8::Td::o7::Xe::Tf::Tg::o7::o8::Th::o7::Xf::Ti::Tj::o7::o8::Tn::o7::Xg::To::Tp::o7::o8::Tq::o7::Xh::Tr::Ts::o7::o8::Tt::o7::Xi::Tu::Tv::o7::o8::Tw::o7::Xj::Tx::Tz::o7::o8::TB::o7::Xk::TC::TH::o7::o8::TJ::o7::Xl::TK::TL::o7::o8::TM::o7::Xm::TN::TQ::o7::o8::TR::o7::Xn::TU::TV::o7::o8::Xo::TX::TY::o7::o8::TZ::o7::Xp::T1::T2::o7::o8::T3::o7::Xq::T4::T5::o7::o8::T6::o7::Xr::T7::T8::o7::o8::T9::o7::Xs::Ua::Ub::o7::o8::Xu::Uc::Ud::o7::o8::Xv::Ue::Ug::Uh::Ui::Uj::Uk::Ul::Xw::Xx::o7::o8::Um::o7::Xy::Uo::Up::Uq::o20::Xz::o7::XA::XB::XC::o7::o8::Ur::o7::XD::Us::Ut::o7::o8::Uu::o7::XE::Uv::Uw::o7::o8::Ux::o7::XF::Uy::Uz::o7::o8::UA::o7::XG::UB::UC::o7::o8::UD::o7::XH::UE::UG::o7::o8::UH::o7::XI::UI::UJ::o7::o8::UK::o7::XJ::UL::UM::o7::o8::UN::o7::XM::UO::UP::o7::o8::UQ::o7::XN::UR::US::o7::o8::UT::o7::XO::UU::UW::o7::o8::UX::o7::XQ::UY::UZ::o7::o8::U0::o7::XR::U1::U2::o7::o8::U3::o7::XS::U4::U5::o7::o8::U6::o7::XT::U7::U8::o7::o8::U9::o7::XU::Va::Vb::o7::o8::Vc::o7::XW::Vd::Ve::o7::o8::Vf::o7::XX::Vg::Vh::o7::o8::Vi::o7::XY::Vj::Vk::o7::o8::Vm::o7::XZ::Vn::Vo::o7::o8::Vp::o7::X0::Vq::Vr::o7::o8::Vs::o7::X2::Vt::Vu::o7::o8::Vv::o7::X3::Vw::Vx::o7::o8::Vy::o7::X4::Vz::VA::VB::VC::VD::X5::X6::o7::o8::VE::o7::X7::VF::VG::o7::o8::VH::o7::X8::VI::VJ::o7::o8::VL::o7::X9::VM::VN::o7::o8::VO::o7::Yb::VP::VQ::o7::o8::VR::o7::Yc::VS::VT::o7::o8::VU::o7::Yd::VV::VW::o7::o8::VX::o7::Ye::VY::VZ::o7::o8::Yh::o7::ZF::Yi::Yj::o7::o8::Yk::o7::ZG::Yl::Ym::o7::o8::ZH::Yn::Yo::o7::o8::Yp::o7::ZI::Yq::Yr::[])
noncomputable def hSf (w:World) (os:OsState):SharedT:=⟨hTf w.params,847,⟨[],[],[],0,[],[],false,(List.toArray []),[],0,false,false,false,0,[2000,10,10],false,0,true,[],[],0,false⟩,#[],⟨0,0,0,0⟩,1256,os⟩
def Nj:Env:={scope:=(PySem.Challenge.pw_stillheap_k14_whole_an_endless_heap).main.scope,locals:=mainNs,globals:=mainNs,cells:=[],code:=(.ref 13),frame:=some 14}
def hG0:List Stmt:=[top 0,top 1,top 2,top 3,top 4,top 5,top 6,top 7,top 8,top 9]
def hG1:List Stmt:=[top 10,top 11,top 12,top 13,top 14,top 15,top 16,top 17,top 18,top 19,top 20,top 21,top 22,top 23,top 24,top 25,top 26,top 27,top 28,top 29,top 30,top 31,top 32,top 33,top 34,top 35,top 36]
def hG2:List Stmt:=[top 37,top 38,top 39,top 40,top 41,top 42,top 43,top 44,top 45,top 46,top 47,top 48]
def hG3:List Stmt:=[top 49,top 50,top 51,top 52]
def hB:List Stmt:=hG0++(hG1++(hG2++(hG3++[])))
def hC:Code:=.body hB Nj
abbrev hF:List Frame:=[topFrame ⟨0,0,0,0⟩]
theorem aaS (w:World) (os:OsState):topGo treeTable PySem.Challenge.pw_stillheap_k14_whole_an_endless_heap w 11 (.some (.ref 6)) 12 ⟨boot_heap w.params,#[],boot_drawn,boot_toks,os⟩ (topStub PySem.Challenge.pw_stillheap_k14_whole_an_endless_heap)=some ((hSa w os).abs,⟨denote treeTable hC,hC,⟨0,0,0,0⟩,hF⟩):=by kernel_rfl
theorem aaT (w:World) (os:OsState):segRun treeTable PySem.Challenge.pw_stillheap_k14_whole_an_endless_heap w 11 (.some (.ref 6)) 1 1 (hSa w os).abs (blockOf hB Nj hC ⟨0,0,0,0⟩ hF)=some (.next,(hSb w os).abs,hC,⟨0,0,0,0⟩):=by kernel_rfl
theorem hR0 (w:World) (os:OsState):segRunT treeTable PySem.Challenge.pw_stillheap_k14_whole_an_endless_heap w 11 (.some (.ref 6)) 1 1988 (hSb w os) (piecesOf hG0 Nj hC ⟨0,0,0,0⟩ hF)=some (.next,hS0 w os,hC,⟨36,0,39,24⟩):=by kernel_rfl
theorem hR1 (w:World) (os:OsState):segRunT treeTable PySem.Challenge.pw_stillheap_k14_whole_an_endless_heap w 11 (.some (.ref 6)) 1 1929 (hS0 w os) (piecesOf hG1 Nj hC ⟨36,0,39,24⟩ hF)=some (.next,hS1 w os,hC,⟨185,0,185,8⟩):=by kernel_rfl
theorem hR2 (w:World) (os:OsState):segRunT treeTable PySem.Challenge.pw_stillheap_k14_whole_an_endless_heap w 11 (.some (.ref 6)) 1 1971 (hS1 w os) (piecesOf hG2 Nj hC ⟨185,0,185,8⟩ hF)=some (.next,hS2 w os,hC,⟨455,0,468,44⟩):=by kernel_rfl
theorem hR3 (w:World) (os:OsState):segRunT treeTable PySem.Challenge.pw_stillheap_k14_whole_an_endless_heap w 11 (.some (.ref 6)) 1 128 (hS2 w os) (piecesOf hG3 Nj hC ⟨455,0,468,44⟩ hF)=some (.next,hS3 w os,hC,⟨495,0,512,15⟩):=by kernel_rfl
theorem aaU (w:World) (os:OsState):topRun treeTable PySem.Challenge.pw_stillheap_k14_whole_an_endless_heap w 11 (.some (.ref 6)) 2 (hS3 w os).abs ⟨doneF .next,hC,⟨495,0,512,15⟩,hF⟩=some (hSf w os).abs:=by kernel_rfl
theorem aaV (w:World) (os:OsState):topRun treeTable PySem.Challenge.pw_stillheap_k14_whole_an_endless_heap w 11 (.some (.ref 6)) (12+(1+(1988+(1929+(1971+(128+2)))))) ⟨boot_heap w.params,#[],boot_drawn,boot_toks,os⟩ (topStub PySem.Challenge.pw_stillheap_k14_whole_an_endless_heap)=some (hSf w os).abs:=go_top (aaS w os) (piece_block (aaT w os) (piece_app (segRun_of (hR0 w os)) (piece_app (segRun_of (hR1 w os)) (piece_app (segRun_of (hR2 w os)) (piece_app (segRun_of (hR3 w os)) (aaU w os))))))
noncomputable def hK (P:Params):Frag:=(nat_lit 2,o2 P)::(nat_lit 3,Yg P)::(nat_lit 15,o7 P)::(nat_lit 17,o15 P)::(nat_lit 18,o7 P)::(nat_lit 20,o17 P)::(nat_lit 21,o18 P)::(nat_lit 22,o19 P)::(nat_lit 29,o7 P)::(nat_lit 31,o25 P)::(nat_lit 32,o7 P)::(nat_lit 34,o27 P)::(nat_lit 35,o28 P)::(nat_lit 36,o7 P)::(nat_lit 38,o29 P)::(nat_lit 39,o7 P)::(nat_lit 41,o31 P)::(nat_lit 42,o32 P)::(nat_lit 43,o7 P)::(nat_lit 44,o33 P)::(nat_lit 45,OZ P)::(nat_lit 46,o35 P)::(nat_lit 49,o38 P)::(nat_lit 56,o7 P)::(nat_lit 58,o43 P)::(nat_lit 59,o7 P)::(nat_lit 61,o45 P)::(nat_lit 62,o46 P)::(nat_lit 63,o7 P)::(nat_lit 64,o47 P)::(nat_lit 65,o48 P)::(nat_lit 68,o38 P)::(nat_lit 75,o7 P)::(nat_lit 77,o55 P)::(nat_lit 78,o7 P)::(nat_lit 80,o57 P)::(nat_lit 81,o58 P)::(nat_lit 82,o7 P)::(nat_lit 83,o59 P)::(nat_lit 84,o60 P)::(nat_lit 87,o38 P)::(nat_lit 94,o7 P)::(nat_lit 96,o67 P)::(nat_lit 97,o7 P)::(nat_lit 99,o69 P)::(nat_lit 100,o70 P)::(nat_lit 101,o7 P)::(nat_lit 102,o71 P)::(nat_lit 103,o72 P)::(nat_lit 106,o38 P)::(nat_lit 113,o7 P)::(nat_lit 115,o79 P)::(nat_lit 116,o7 P)::(nat_lit 118,o81 P)::(nat_lit 119,o82 P)::(nat_lit 120,o7 P)::(nat_lit 121,o83 P)::(nat_lit 122,o84 P)::(nat_lit 125,o38 P)::(nat_lit 132,o7 P)::(nat_lit 134,o91 P)::(nat_lit 135,o7 P)::(nat_lit 137,o93 P)::(nat_lit 138,o94 P)::(nat_lit 139,o7 P)::(nat_lit 140,o95 P)::(nat_lit 141,o96 P)::(nat_lit 144,o38 P)::(nat_lit 151,o7 P)::(nat_lit 153,M8 P)::(nat_lit 154,o7 P)::(nat_lit 156,M9 P)::(nat_lit 157,Na P)::(nat_lit 158,o7 P)::(nat_lit 159,Nb P)::(nat_lit 160,Nc P)::(nat_lit 163,o38 P)::(nat_lit 170,o7 P)::(nat_lit 172,Nd P)::(nat_lit 173,o7 P)::(nat_lit 175,Nf P)::(nat_lit 176,Ng P)::(nat_lit 177,o7 P)::(nat_lit 178,Nh P)::(nat_lit 179,Ni P)::(nat_lit 182,o38 P)::(nat_lit 189,o7 P)::(nat_lit 191,O0 P)::(nat_lit 192,o7 P)::(nat_lit 194,O1 P)::(nat_lit 195,O2 P)::(nat_lit 196,o7 P)::(nat_lit 197,O3 P)::(nat_lit 198,O4 P)::(nat_lit 201,o7 P)::(nat_lit 203,O5 P)::(nat_lit 204,o7 P)::(nat_lit 206,O6 P)::(nat_lit 207,O7 P)::(nat_lit 208,o7 P)::(nat_lit 210,O8 P)::(nat_lit 211,o7 P)::(nat_lit 213,O9 P)::(nat_lit 214,Pa P)::(nat_lit 215,o7 P)::(nat_lit 217,Pb P)::(nat_lit 218,o7 P)::(nat_lit 220,Pc P)::(nat_lit 221,Pd P)::(nat_lit 222,o7 P)::(nat_lit 224,Pe P)::(nat_lit 225,o7 P)::(nat_lit 227,Pf P)::(nat_lit 228,Pg P)::(nat_lit 229,o7 P)::(nat_lit 231,Ph P)::(nat_lit 232,o7 P)::(nat_lit 234,Pj P)::(nat_lit 235,Pk P)::(nat_lit 236,o7 P)::(nat_lit 238,Pm P)::(nat_lit 239,o7 P)::(nat_lit 241,Pn P)::(nat_lit 242,Po P)::(nat_lit 243,o7 P)::(nat_lit 245,Pp P)::(nat_lit 246,o7 P)::(nat_lit 248,Pq P)::(nat_lit 249,Pr P)::(nat_lit 250,o7 P)::(nat_lit 252,Pt P)::(nat_lit 253,o7 P)::(nat_lit 255,Pu P)::(nat_lit 256,Pw P)::(nat_lit 257,o7 P)::(nat_lit 259,Px P)::(nat_lit 260,o7 P)::(nat_lit 262,Py P)::(nat_lit 263,Pz P)::(nat_lit 271,o7 P)::(nat_lit 273,PB P)::(nat_lit 274,o7 P)::(nat_lit 276,PD P)::(nat_lit 277,PH P)::(nat_lit 278,o7 P)::(nat_lit 280,PJ P)::(nat_lit 281,o7 P)::(nat_lit 283,PL P)::(nat_lit 284,PM P)::(nat_lit 285,o7 P)::(nat_lit 287,PN P)::(nat_lit 288,o7 P)::(nat_lit 290,PQ P)::(nat_lit 291,PR P)::(nat_lit 292,o7 P)::(nat_lit 294,PU P)::(nat_lit 295,o7 P)::(nat_lit 297,PV P)::(nat_lit 298,PX P)::(nat_lit 299,o7 P)::(nat_lit 301,PY P)::(nat_lit 302,o7 P)::(nat_lit 304,PZ P)::(nat_lit 305,P0 P)::(nat_lit 306,o7 P)::(nat_lit 308,P1 P)::(nat_lit 309,o7 P)::(nat_lit 311,P8 P)::(nat_lit 312,P9 P)::(nat_lit 313,o7 P)::(nat_lit 315,Qa P)::(nat_lit 316,o7 P)::(nat_lit 318,Qb P)::(nat_lit 319,Qc P)::(nat_lit 320,o7 P)::(nat_lit 322,Qd P)::(nat_lit 323,o7 P)::(nat_lit 325,Qe P)::(nat_lit 326,Qf P)::(nat_lit 327,o7 P)::(nat_lit 329,Qg P)::(nat_lit 330,o7 P)::(nat_lit 332,Qh P)::(nat_lit 333,Qi P)::(nat_lit 334,o7 P)::(nat_lit 336,Qj P)::(nat_lit 337,o7 P)::(nat_lit 339,Qk P)::(nat_lit 340,Ql P)::(nat_lit 341,Qm P)::(nat_lit 342,Qn P)::(nat_lit 343,Qo P)::(nat_lit 344,Qp P)::(nat_lit 345,Qq P)::(nat_lit 355,o7 P)::(nat_lit 357,Qr P)::(nat_lit 358,o7 P)::(nat_lit 360,Qs P)::(nat_lit 361,Qt P)::(nat_lit 362,o7 P)::(nat_lit 364,Qu P)::(nat_lit 365,o7 P)::(nat_lit 367,Qv P)::(nat_lit 368,Qw P)::(nat_lit 369,o7 P)::(nat_lit 371,Qx P)::(nat_lit 372,o7 P)::(nat_lit 374,Qy P)::(nat_lit 375,Qz P)::(nat_lit 376,o7 P)::(nat_lit 378,QA P)::(nat_lit 379,o7 P)::(nat_lit 381,QB P)::(nat_lit 382,QC P)::(nat_lit 383,o7 P)::(nat_lit 385,QD P)::(nat_lit 386,o7 P)::(nat_lit 388,QE P)::(nat_lit 389,QF P)::(nat_lit 390,o7 P)::(nat_lit 392,QG P)::(nat_lit 393,o7 P)::(nat_lit 395,QH P)::(nat_lit 396,QI P)::(nat_lit 397,o7 P)::(nat_lit 399,QJ P)::(nat_lit 400,o7 P)::(nat_lit 402,QK P)::(nat_lit 403,QL P)::(nat_lit 404,QM P)::(nat_lit 405,QN P)::(nat_lit 406,QO P)::(nat_lit 407,QP P)::(nat_lit 408,QQ P)::(nat_lit 411,o7 P)::(nat_lit 413,QR P)::(nat_lit 414,o7 P)::(nat_lit 416,QS P)::(nat_lit 417,QT P)::(nat_lit 425,o7 P)::(nat_lit 427,QU P)::(nat_lit 428,o7 P)::(nat_lit 430,QV P)::(nat_lit 431,QW P)::(nat_lit 432,o7 P)::(nat_lit 434,QX P)::(nat_lit 435,o7 P)::(nat_lit 437,QY P)::(nat_lit 438,QZ P)::(nat_lit 439,o7 P)::(nat_lit 441,Q0 P)::(nat_lit 442,o7 P)::(nat_lit 444,Q1 P)::(nat_lit 445,Q2 P)::(nat_lit 446,o7 P)::(nat_lit 448,Q3 P)::(nat_lit 449,o7 P)::(nat_lit 451,Q4 P)::(nat_lit 452,Q5 P)::(nat_lit 453,o7 P)::(nat_lit 456,Q7 P)::(nat_lit 457,Q8 P)::(nat_lit 458,Q9 P)::(nat_lit 459,Ra P)::(nat_lit 460,Rb P)::(nat_lit 461,Rf P)::(nat_lit 462,Rg P)::(nat_lit 472,o7 P)::(nat_lit 474,Td P)::(nat_lit 475,o7 P)::(nat_lit 477,Tf P)::(nat_lit 478,Tg P)::(nat_lit 479,o7 P)::(nat_lit 481,Th P)::(nat_lit 482,o7 P)::(nat_lit 484,Ti P)::(nat_lit 485,Tj P)::(nat_lit 486,o7 P)::(nat_lit 488,Tn P)::(nat_lit 489,o7 P)::(nat_lit 491,To P)::(nat_lit 492,Tp P)::(nat_lit 493,o7 P)::(nat_lit 495,Tq P)::(nat_lit 496,o7 P)::(nat_lit 498,Tr P)::(nat_lit 499,Ts P)::(nat_lit 500,o7 P)::(nat_lit 502,Tt P)::(nat_lit 503,o7 P)::(nat_lit 505,Tu P)::(nat_lit 506,Tv P)::(nat_lit 507,o7 P)::(nat_lit 509,Tw P)::(nat_lit 510,o7 P)::(nat_lit 512,Tx P)::(nat_lit 513,Tz P)::(nat_lit 514,o7 P)::(nat_lit 516,TB P)::(nat_lit 517,o7 P)::(nat_lit 519,TC P)::(nat_lit 520,TH P)::(nat_lit 521,o7 P)::(nat_lit 523,TJ P)::(nat_lit 524,o7 P)::(nat_lit 526,TK P)::(nat_lit 527,TL P)::(nat_lit 528,o7 P)::(nat_lit 530,TM P)::(nat_lit 531,o7 P)::(nat_lit 533,TN P)::(nat_lit 534,TQ P)::(nat_lit 535,o7 P)::(nat_lit 537,TR P)::(nat_lit 538,o7 P)::(nat_lit 540,TU P)::(nat_lit 541,TV P)::(nat_lit 542,o7 P)::(nat_lit 545,TX P)::(nat_lit 546,TY P)::(nat_lit 547,o7 P)::(nat_lit 549,TZ P)::(nat_lit 550,o7 P)::(nat_lit 552,T1 P)::(nat_lit 553,T2 P)::(nat_lit 554,o7 P)::(nat_lit 556,T3 P)::(nat_lit 557,o7 P)::(nat_lit 559,T4 P)::(nat_lit 560,T5 P)::(nat_lit 561,o7 P)::(nat_lit 563,T6 P)::(nat_lit 564,o7 P)::(nat_lit 566,T7 P)::(nat_lit 567,T8 P)::(nat_lit 568,o7 P)::(nat_lit 570,T9 P)::(nat_lit 571,o7 P)::(nat_lit 573,Ua P)::(nat_lit 574,Ub P)::(nat_lit 575,o7 P)::(nat_lit 578,Uc P)::(nat_lit 579,Ud P)::(nat_lit 580,o7 P)::(nat_lit 583,Ue P)::(nat_lit 584,Ug P)::(nat_lit 585,Uh P)::(nat_lit 586,Ui P)::(nat_lit 587,Uj P)::(nat_lit 588,Uk P)::(nat_lit 589,Ul P)::(nat_lit 592,o7 P)::(nat_lit 594,Um P)::(nat_lit 595,o7 P)::(nat_lit 597,Uo P)::(nat_lit 598,Up P)::(nat_lit 599,Uq P)::(nat_lit 606,o7 P)::(nat_lit 608,Ur P)::(nat_lit 609,o7 P)::(nat_lit 611,Us P)::(nat_lit 612,Ut P)::(nat_lit 613,o7 P)::(nat_lit 615,Uu P)::(nat_lit 616,o7 P)::(nat_lit 618,Uv P)::(nat_lit 619,Uw P)::(nat_lit 620,o7 P)::(nat_lit 622,Ux P)::(nat_lit 623,o7 P)::(nat_lit 625,Uy P)::(nat_lit 626,Uz P)::(nat_lit 627,o7 P)::(nat_lit 629,UA P)::(nat_lit 630,o7 P)::(nat_lit 632,UB P)::(nat_lit 633,UC P)::(nat_lit 634,o7 P)::(nat_lit 636,UD P)::(nat_lit 637,o7 P)::(nat_lit 639,UE P)::(nat_lit 640,UG P)::(nat_lit 641,o7 P)::(nat_lit 643,UH P)::(nat_lit 644,o7 P)::(nat_lit 646,UI P)::(nat_lit 647,UJ P)::(nat_lit 648,o7 P)::(nat_lit 650,UK P)::(nat_lit 651,o7 P)::(nat_lit 653,UL P)::(nat_lit 654,UM P)::(nat_lit 655,o7 P)::(nat_lit 657,UN P)::(nat_lit 658,o7 P)::(nat_lit 660,UO P)::(nat_lit 661,UP P)::(nat_lit 662,o7 P)::(nat_lit 664,UQ P)::(nat_lit 665,o7 P)::(nat_lit 667,UR P)::(nat_lit 668,US P)::(nat_lit 669,o7 P)::(nat_lit 671,UT P)::(nat_lit 672,o7 P)::(nat_lit 674,UU P)::(nat_lit 675,UW P)::(nat_lit 676,o7 P)::(nat_lit 678,UX P)::(nat_lit 679,o7 P)::(nat_lit 681,UY P)::(nat_lit 682,UZ P)::(nat_lit 683,o7 P)::(nat_lit 685,U0 P)::(nat_lit 686,o7 P)::(nat_lit 688,U1 P)::(nat_lit 689,U2 P)::(nat_lit 690,o7 P)::(nat_lit 692,U3 P)::(nat_lit 693,o7 P)::(nat_lit 695,U4 P)::(nat_lit 696,U5 P)::(nat_lit 697,o7 P)::(nat_lit 699,U6 P)::(nat_lit 700,o7 P)::(nat_lit 702,U7 P)::(nat_lit 703,U8 P)::(nat_lit 704,o7 P)::(nat_lit 706,U9 P)::(nat_lit 707,o7 P)::(nat_lit 709,Va P)::(nat_lit 710,Vb P)::(nat_lit 711,o7 P)::(nat_lit 713,Vc P)::(nat_lit 714,o7 P)::(nat_lit 716,Vd P)::(nat_lit 717,Ve P)::(nat_lit 718,o7 P)::(nat_lit 720,Vf P)::(nat_lit 721,o7 P)::(nat_lit 723,Vg P)::(nat_lit 724,Vh P)::(nat_lit 725,o7 P)::(nat_lit 727,Vi P)::(nat_lit 728,o7 P)::(nat_lit 730,Vj P)::(nat_lit 731,Vk P)::(nat_lit 732,o7 P)::(nat_lit 734,Vm P)::(nat_lit 735,o7 P)::(nat_lit 737,Vn P)::(nat_lit 738,Vo P)::(nat_lit 739,o7 P)::(nat_lit 741,Vp P)::(nat_lit 742,o7 P)::(nat_lit 744,Vq P)::(nat_lit 745,Vr P)::(nat_lit 746,o7 P)::(nat_lit 748,Vs P)::(nat_lit 749,o7 P)::(nat_lit 751,Vt P)::(nat_lit 752,Vu P)::(nat_lit 753,o7 P)::(nat_lit 755,Vv P)::(nat_lit 756,o7 P)::(nat_lit 758,Vw P)::(nat_lit 759,Vx P)::(nat_lit 760,o7 P)::(nat_lit 762,Vy P)::(nat_lit 763,o7 P)::(nat_lit 765,Vz P)::(nat_lit 766,VA P)::(nat_lit 767,VB P)::(nat_lit 768,VC P)::(nat_lit 769,VD P)::(nat_lit 772,o7 P)::(nat_lit 774,VE P)::(nat_lit 775,o7 P)::(nat_lit 777,VF P)::(nat_lit 778,VG P)::(nat_lit 779,o7 P)::(nat_lit 781,VH P)::(nat_lit 782,o7 P)::(nat_lit 784,VI P)::(nat_lit 785,VJ P)::(nat_lit 786,o7 P)::(nat_lit 788,VL P)::(nat_lit 789,o7 P)::(nat_lit 791,VM P)::(nat_lit 792,VN P)::(nat_lit 793,o7 P)::(nat_lit 795,VO P)::(nat_lit 796,o7 P)::(nat_lit 798,VP P)::(nat_lit 799,VQ P)::(nat_lit 800,o7 P)::(nat_lit 802,VR P)::(nat_lit 803,o7 P)::(nat_lit 805,VS P)::(nat_lit 806,VT P)::(nat_lit 807,o7 P)::(nat_lit 809,VU P)::(nat_lit 810,o7 P)::(nat_lit 812,VV P)::(nat_lit 813,VW P)::(nat_lit 814,o7 P)::(nat_lit 816,VX P)::(nat_lit 817,o7 P)::(nat_lit 819,VY P)::(nat_lit 820,VZ P)::(nat_lit 821,o7 P)::(nat_lit 823,Yh P)::(nat_lit 824,o7 P)::(nat_lit 826,Yi P)::(nat_lit 827,Yj P)::(nat_lit 828,o7 P)::(nat_lit 830,Yk P)::(nat_lit 831,o7 P)::(nat_lit 833,Yl P)::(nat_lit 834,Ym P)::(nat_lit 835,o7 P)::(nat_lit 838,Yn P)::(nat_lit 839,Yo P)::(nat_lit 840,o7 P)::(nat_lit 842,Yp P)::(nat_lit 843,o7 P)::(nat_lit 845,Yq P)::(nat_lit 846,Yr P)::[]
def hAs:List Addr:=[2,3,15,17,18,20,21,22,29,31,32,34,35,36,38,39,41,42,43,44,45,46,49,56,58,59,61,62,63,64,65,68,75,77,78,80,81,82,83,84,87,94,96,97,99,100,101,102,103,106,113,115,116,118,119,120,121,122,125,132,134,135,137,138,139,140,141,144,151,153,154,156,157,158,159,160,163,170,172,173,175,176,177,178,179,182,189,191,192,194,195,196,197,198,201,203,204,206,207,208,210,211,213,214,215,217,218,220,221,222,224,225,227,228,229,231,232,234,235,236,238,239,241,242,243,245,246,248,249,250,252,253,255,256,257,259,260,262,263,271,273,274,276,277,278,280,281,283,284,285,287,288,290,291,292,294,295,297,298,299,301,302,304,305,306,308,309,311,312,313,315,316,318,319,320,322,323,325,326,327,329,330,332,333,334,336,337,339,340,341,342,343,344,345,355,357,358,360,361,362,364,365,367,368,369,371,372,374,375,376,378,379,381,382,383,385,386,388,389,390,392,393,395,396,397,399,400,402,403,404,405,406,407,408,411,413,414,416,417,425,427,428,430,431,432,434,435,437,438,439,441,442,444,445,446,448,449,451,452,453,456,457,458,459,460,461,462,472,474,475,477,478,479,481,482,484,485,486,488,489,491,492,493,495,496,498,499,500,502,503,505,506,507,509,510,512,513,514,516,517,519,520,521,523,524,526,527,528,530,531,533,534,535,537,538,540,541,542,545,546,547,549,550,552,553,554,556,557,559,560,561,563,564,566,567,568,570,571,573,574,575,578,579,580,583,584,585,586,587,588,589,592,594,595,597,598,599,606,608,609,611,612,613,615,616,618,619,620,622,623,625,626,627,629,630,632,633,634,636,637,639,640,641,643,644,646,647,648,650,651,653,654,655,657,658,660,661,662,664,665,667,668,669,671,672,674,675,676,678,679,681,682,683,685,686,688,689,690,692,693,695,696,697,699,700,702,703,704,706,707,709,710,711,713,714,716,717,718,720,721,723,724,725,727,728,730,731,732,734,735,737,738,739,741,742,744,745,746,748,749,751,752,753,755,756,758,759,760,762,763,765,766,767,768,769,772,774,775,777,778,779,781,782,784,785,786,788,789,791,792,793,795,796,798,799,800,802,803,805,806,807,809,810,812,813,814,816,817,819,820,821,823,824,826,827,828,830,831,833,834,835,838,839,840,842,843,845,846]
theorem qM (P:Params):hAs=(hK P).map (·.1):=rfl
def hQ:Program:={PySem.Challenge.pw_stillheap_k14_whole_an_endless_heap with main:={(PySem.Challenge.pw_stillheap_k14_whole_an_endless_heap).main with body:=[top 0,top 2,top 3,top 4,top 5,top 6,top 7,top 8,top 9,top 10,top 12,top 13,top 14,top 15,top 16,top 17,top 18,top 19,top 20,top 21,top 22,top 23,top 24,top 25,top 26,top 28,top 30,top 31,top 33,top 35,top 37,top 38,top 40,top 42,top 43,top 44,top 45,top 46,top 47,top 48,top 49,top 50,top 51,top 52]}}
def hLo:List Str:=[]
theorem Zh (w:World):(fencedOpening treeTable PySem.Challenge.pw_stillheap_k14_whole_an_endless_heap w 12150).map (fun s=>(s.heap,s.gens,s.drawn,s.toks))=some (boot_heap w.params,#[],boot_drawn,boot_toks):=by kernel_rfl
theorem Zi (w:World):((boot_heap w.params).isNs mainGlobals&&(#[]:Array GenState).size == 0,(boot_heap w.params).objs.size,(boot_heap w.params).nsMap mainGlobals "__annotations__")=(true,11,((.some (.ref 6)):Option Value)):=by kernel_rfl
abbrev hXt (s:Shared):Bool:=xlAt hQ [] s&&recOk (RowW.records (OpenRow.toRowW (OpenLaw.row PySem.Challenge.rw_stillheap_k14_whole_an_endless_heap))) s
theorem WM (w:World):(fun os:OsState=>((staticsOk (importedModules (PySem.Challenge.pw_stillheap_k14_whole_an_endless_heap).main.body) (boot_heap w.params) (absHeap (hTf w.params) 847 ⟨[],[],[],0,[],[],false,(List.toArray []),[],0,false,false,false,0,[2000,10,10],false,0,true,[],[],0,false⟩)&&namesBound PySem.Challenge.pw_stillheap_k14_whole_an_endless_heap (absHeap (hTf w.params) 847 ⟨[],[],[],0,[],[],false,(List.toArray []),[],0,false,false,false,0,[2000,10,10],false,0,true,[],[],0,false⟩)&&gensDone ⟨absHeap (hTf w.params) 847 ⟨[],[],[],0,[],[],false,(List.toArray []),[],0,false,false,false,0,[2000,10,10],false,0,true,[],[],0,false⟩,#[],⟨0,0,0,0⟩,1256,os⟩&&laidKept (boot_heap w.params) (absHeap (hTf w.params) 847 ⟨[],[],[],0,[],[],false,(List.toArray []),[],0,false,false,false,0,[2000,10,10],false,0,true,[],[],0,false⟩)),
  openSeen hQ hLo (importedModules (PySem.Challenge.pw_stillheap_k14_whole_an_endless_heap).main.body) hXt true ⟨absHeap (hTf w.params) 847 ⟨[],[],[],0,[],[],false,(List.toArray []),[],0,false,false,false,0,[2000,10,10],false,0,true,[],[],0,false⟩,#[],⟨0,0,0,0⟩,1256,os⟩,Hook.obs (kHook hK hAs qM) ⟨absHeap (hTf w.params) 847 ⟨[],[],[],0,[],[],false,(List.toArray []),[],0,false,false,false,0,[2000,10,10],false,0,true,[],[],0,false⟩,#[],⟨0,0,0,0⟩,1256,os⟩))=fun _=>(true,openGood hQ hLo,Hook.val (kHook hK hAs qM) w):=by kernel_rfl
theorem Zj:LeftO PySem.Challenge.pw_stillheap_k14_whole_an_endless_heap hQ hLo hXt (Hook.obs (kHook hK hAs qM)) (Hook.val (kHook hK hAs qM)) 12150 :=
 LeftO.of_pieces (H₁:=fun P=>absHeap (hTf P) 847 ⟨[],[],[],0,[],[],false,(List.toArray []),[],0,false,false,false,0,[2000,10,10],false,0,true,[],[],0,false⟩) Zh Zi aaV (by rfl) WM
end
end K14
end
section
open PySem PySem.W PyProof.Rows
set_option maxRecDepth 100000 in
set_option maxHeartbeats 0 in
theorem PySem.Challenge.cw_stillheap_k14_whole_an_endless_heap_holds : PySem.Challenge.rw_stillheap_k14_whole_an_endless_heap.Holds := by
 w_on;o_law
 refine holds_open (q:=K14.hQ) (loose:=K14.hLo) (Xt:=fun s=>xlAt K14.hQ [] s&&recOk (RowW.records (OpenRow.toRowW (OpenLaw.row PySem.Challenge.rw_stillheap_k14_whole_an_endless_heap))) s)
  (XP:=XL K14.hQ []) (Yf:=Hook.obs (kHook K14.hK K14.hAs K14.qM)) (Ya:=Hook.val (kHook K14.hK K14.hAs K14.qM)) (YP:=Hook.says (kHook K14.hK K14.hAs K14.qM)) (N:=12150)
  ?hl (Hook.of (kHook K14.hK K14.hAs K14.qM)) (Hook.keeps (kHook K14.hK K14.hAs K14.qM))
  (fun s e=>xl_of s (Bool.and_eq_true_iff.mp e).1) XL.keeps (by rfl) (by rfl) (by rfl)
  (fun s e=>recFacts_of (Bool.and_eq_true_iff.mp e).2) (by rfl) (by first|assumption|decide +kernel)
  (by decide +kernel) ⟨rfl,rfl,rfl,rfl,rfl,by decide +kernel⟩ ?hw ?hc
 (case hl=>exact K14.Zj)
 (case hw=>w_witness2)
 k_fill
 refine K14.walk (l:=PySem.Challenge.rw_stillheap_k14_whole_an_endless_heap) rfl rfl (fun w h Y=>PySem.W.kIn_of Y) ?F
 case F =>
  intro w mg fa h KX G hmg
  refine' K14.all_mk KX G hmg ?_ ?_ ?_ ?_ ?_ ?_ ?_ ?_ ?_ ?_ ?_ ?_ ?_ ?_ ?_ ?_ ?_ ?_ ?_ ?_ ?_ ?_ ?_ ?_ ?_ ?_ ?_ ?_ ?_ ?_ ?_ ?_ ?_ ?_ ?_ ?_ ?_ ?_ ?_ ?_ ?_ ?_ ?_ ?_ ?_ ?_ ?_ ?_ ?_ ?_ ?_ ?_ ?_ ?_ ?_ ?_ ?_ ?_ ?_ ?_ ?_ ?_ ?_ ?_ ?_ ?_ ?_ ?_ ?_ ?_ ?_ ?_ ?_ ?_ ?_ ?_ ?_ ?_ ?_ ?_ ?_ ?_ ?_ ?_ ?_ ?_ ?_ ?_ ?_ ?_ ?_ ?_ ?_ ?_ ?_ ?_ ?_ ?_ ?_ ?_ ?_ ?_ ?_ ?_ ?_ ?_ ?_ ?_ ?_ ?_ ?_ ?_ ?_ ?_ ?_ ?_ ?_ ?_ ?_ ?_ ?_ ?_ ?_ ?_ ?_ ?_ ?_ ?_ ?_ ?_ ?_ ?_ ?_ ?_ ?_ ?_ ?_ ?_ ?_ ?_ ?_ ?_ ?_ ?_ ?_ ?_ ?_ ?_ ?_ ?_ ?_ ?_ ?_ ?_ ?_ ?_ ?_ ?_ ?_ ?_ ?_ ?_ ?_ ?_ ?_ ?_ ?_ ?_ ?_ ?_ ?_ ?_ ?_ ?_ ?_ ?_ ?_ ?_ ?_ ?_ ?_ ?_ ?_ ?_ ?_ ?_ ?_ ?_ ?_ ?_ ?_ ?_ ?_ ?_ ?_ ?_ ?_ ?_ ?_ ?_ ?_ ?_ ?_ ?_ ?_ ?_ ?_ ?_ ?_ ?_ ?_ ?_ ?_ ?_ ?_ ?_ ?_ ?_ ?_ ?_ ?_ ?_ ?_ ?_ ?_ ?_ ?_ ?_ ?_ ?_ ?_ ?_ ?_ ?_ ?_ ?_ ?_ ?_ ?_ ?_ ?_ ?_
  all_goals first
   | k_is
   | (unfold K14.FI;k_is)
   | (unfold K14.NF;k_is)
   | (refine' K14.LK.mk ?la ?lb ?lc ?ld;(case la=>k_is);(case lb=>k_is);(case lc=>k_is);(case ld=>k_is))
   | kernel_rfl
   | (refine' K14.PK.mk ?_ ?_ ?_ ?_ ?_<;>k_is)
   | (refine' K14.EK.mk ?_ ?_ ?_ ?_ ?_ ?_ ?_ ?_<;>first|k_is|kernel_rfl)
   | skip
end
