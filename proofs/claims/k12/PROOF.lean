import PyProof.Rows.All
import Wide.All
import OpenK.AllK
import Wide.FinOn
import PyProof.EqAt
import PyProof.EqKinds
import PyProof.TupleCall
import OpenK.KCls
import PyProof.ExcClass2
import PyProof.ExcBaseAll.ValueError
import PyProof.ExcArgs
import PyProof.Rows.Exc
import KE.KIsAll
import PyProof.StationsW
import PyProof.EnumFor
import PyProof.EnumStmt
import PyProof.EnumMake
import PyProof.NeKinds
import PyProof.Rows.SumAny
import KE.KDictSum
import PyProof.Rows.SortWalk
import PyProof.Rows.Range3
import PyProof.Rows.SetFrom
import KE.KEqDict
import PyProof.Rows.DictUnroll
import KE.KRevSl
import PyProof.AutoListH
import PyProof.AttrMiss
import KE.KRevIter
import PyProof.SeqI3
import Wide.Seal
import PySem.Challenge.RW_stillheap_k12_rooms
set_option Elab.async false
set_option linter.all false
set_option maxRecDepth 100000
set_option maxHeartbeats 4000000
set_option exponentiation.threshold 4000
section
namespace L2
open PySem PySem.Spec PyProof.Rows
abbrev Key:=Sum Int Str
def rn:Key→Value→Bool
  | .inl k,v=>Value.isInt k v
  | .inr x,v=>Value.isStrOf x v
def abV (w:World):Key→Int
  | .inl k=>hashInt k
  | .inr x=>hashStr w x
theorem cg:∀ {k:Key} {v:Value},rn k v=true→(∃ i t,k=Sum.inl i∧v=Value.int i t)∨(∃ x t,k=Sum.inr x∧v=Value.str x t)
  | .inl i,v,h=>by
    obtain ⟨t,e⟩:=Value.isInt_shape (k:=i) (v:=v) h
    exact .inl ⟨i,t,rfl,e⟩
  | .inr x,v,h=>by
    obtain ⟨t,e⟩:=Value.isStrOf_shape (x:=x) (v:=v) h
    exact .inr ⟨x,t,rfl,e⟩
theorem N6 (i:Int) (t:Tok):rn (.inl i) (.int i t)=true:=by simp [rn,Value.isInt]
theorem N7 (x:Str) (t:Tok):rn (.inr x) (.str x t)=true:=by simp [rn,Value.isStrOf]
theorem XH (a b:Int):decide ((Sum.inl a:Key)=Sum.inl b)=(a == b):=by
  by_cases e:a=b
  · subst e;simp
  · have h:¬(Sum.inl a:Key)=Sum.inl b:=fun q=>e (Sum.inl.inj q)
    rw [decide_eq_false h]
    exact (beq_eq_false_iff_ne.mpr e).symm
theorem XI (a b:Str):decide ((Sum.inr a:Key)=Sum.inr b)=decide (a=b):=by
  by_cases e:a=b
  · subst e;simp
  · have h:¬(Sum.inr a:Key)=Sum.inr b:=fun q=>e (Sum.inr.inj q)
    rw [decide_eq_false h,decide_eq_false e]
theorem XJ (a:Int) (b:Str):decide ((Sum.inl a:Key)=Sum.inr b)=false:=decide_eq_false (fun q=>nomatch q)
theorem XM (a:Str) (b:Int):decide ((Sum.inr a:Key)=Sum.inl b)=false:=decide_eq_false (fun q=>nomatch q)
def c5 (prog:Program) (w:World):PySem.KeyKind prog w Key where
  is:=rn
  hash:=abV w
  inj:=fun v a b ha hb=>by
    rcases cg ha with ⟨i,t,rfl,rfl⟩|⟨x,t,rfl,rfl⟩
    · rcases cg hb with ⟨j,u,rfl,e⟩|⟨y,u,rfl,e⟩
      · injection e with e1 _;rw [e1]
      · exact nomatch e
    · rcases cg hb with ⟨j,u,rfl,e⟩|⟨y,u,rfl,e⟩
      · exact nomatch e
      · injection e with e1 _;rw [e1]
  byValue:=fun k v h=>by
    rcases cg h with ⟨i,t,rfl,rfl⟩|⟨x,t,rfl,rfl⟩<;>rfl
  pyHash:=fun hv h=>by
    rcases cg hv with ⟨i,t,rfl,rfl⟩|⟨x,t,rfl,rfl⟩
    · exact wpAny_pyHash_int h
    · exact wpAny_pyHash_str h
  eqBool:=fun hu hv h=>by
    rcases cg hu with ⟨i,t,rfl,rfl⟩|⟨x,t,rfl,rfl⟩
    · rcases cg hv with ⟨j,u,rfl,rfl⟩|⟨y,u,rfl,rfl⟩
      · rw [XH] at h;exact wpAny_eqBool_int h
      · rw [XJ] at h;exact SeqAt.EqAt.int_str i t y u _ _ _ _ h
    · rcases cg hv with ⟨j,u,rfl,rfl⟩|⟨y,u,rfl,rfl⟩
      · rw [XM] at h;exact SeqAt.EqAt.str_int x t j u _ _ _ _ h
      · rw [XI] at h;exact wpAny_eqBool_str h
  «strs» := fun k x t v h=>by
    rcases cg h with ⟨i,u,rfl,e⟩|⟨y,u,rfl,e⟩
    · exact nomatch e
    · injection e with e1 _
      subst e1
      cases v<;>rfl
theorem JU (prog:Program) (w:World) (i:Int) (t:Tok):(c5 prog w).is (.inl i) (.int i t)=true:=N6 i t
theorem JV (prog:Program) (w:World) (x:Str) (t:Tok):(c5 prog w).is (.inr x) (.str x t)=true:=N7 x t
end L2
namespace L2
open PySem PySem.Spec PyProof.Rows
inductive V where
  | non|bl (b:Bool)|int (i:Int)|str (x:Str)|byt (b:Array UInt8)|flt (b:UInt64)|ref (a:Addr)|ty (n:String)
  deriving DecidableEq
def RelV:V→Value→Prop
  | .non,u=>u=Value.none
  | .bl b,u=>u=Value.bool b
  | .int i,u=>∃ t,u=Value.int i t
  | .str x,u=>∃ t,u=Value.str x t
  | .byt b,u=>∃ t,u=Value.bytes b t
  | .flt b,u=>∃ t,u=Value.float b t
  | .ref a,u=>u=Value.ref a
  | .ty n,u=>u=Value.type n
abbrev Vals:List V→List Value→Prop:=Paired RelV
theorem Vals.length {xs:List V} {us:List Value} (r:Vals xs us):xs.length=us.length:=Paired.length r
theorem Vals.get:∀ {xs:List V} {us:List Value} {i:Nat} {x:V},Vals xs us→xs[i]?=some x→∃ u,us[i]?=some u∧RelV x u
  | _,_,_,_,.nil,e=>by simp at e
  | _,_,0,_,.cons r _,e=>by simp at e;subst e;exact ⟨_,rfl,r⟩
  | _,_,i+1,x,.cons _ t,e=>by
    obtain ⟨u,h1,h2⟩:=Vals.get (i:=i) (x:=x) t (by simpa using e)
    exact ⟨u,by simpa using h1,h2⟩
theorem Vals.set {x:V} {u:Value} (r:RelV x u):∀ {xs:List V} {us:List Value} (i:Nat),Vals xs us→Vals (xs.set i x) (us.set i u)
  | _,_,_,.nil=>.nil
  | _,_,0,.cons _ t=>.cons r t
  | _,_,i+1,.cons q t=>.cons q (Vals.set r i t)
theorem Vals.append:∀ {xs ys:List V} {us ws:List Value},Vals xs us→Vals ys ws→Vals (xs++ys) (us++ws)
  | _,_,_,_,.nil,s=>s
  | _,_,_,_,.cons r t,s=>.cons r (Vals.append t s)
theorem Vals.take:∀ {xs:List V} {us:List Value} (n:Nat),Vals xs us→Vals (xs.take n) (us.take n)
  | _,_,0,_=>.nil
  | _,_,_+1,.nil=>.nil
  | _,_,n+1,.cons r t=>.cons r (Vals.take n t)
theorem Vals.drop:∀ {xs:List V} {us:List Value} (n:Nat),Vals xs us→Vals (xs.drop n) (us.drop n)
  | _,_,0,r=>r
  | _,_,_+1,.nil=>.nil
  | _,_,n+1,.cons _ t=>Vals.drop n t
def xO:Option V→Option Value→Prop
  | some v,some u=>RelV v u
  | none,none=>True
  | _,_=>False
def KV {κ:Type}:List (κ×V)→List (κ×Value)→Prop:=Paired fun (p:κ×V) (q:κ×Value)=>p.1=q.1∧RelV p.2 q.2
def kV:Key→V
  | .inl i=>.int i
  | .inr x=>.str x
inductive HO where
  | lst (xs:List V)
  | tup (xs:List V)
  | dK (kvs:List (Key×V))|dT (kvs:List (List Key×V))
  | set (S:Int→Bool) (n:Nat)
  | ins (C dx:Addr) (fs:List (Str×V))
  | own (x:Addr)
  | xd (fs:List (Str×V))
  | met (f x:Addr)
  | rng (lo hi:Int)
  | frz (o:Obj) (u:HO)
  | tbl (ps:Array Value)
  | ext (φ:Heap→Prop)
abbrev Hp:=Addr→Option HO
def upd (H:Hp) (a:Addr) (o:HO):Hp:=fun b=>if b=a then some o else H b
theorem ah {H:Hp} {a:Addr} {o:HO}:upd H a o a=some o:=by unfold upd;rw [if_pos rfl]
theorem af {H:Hp} {a b:Addr} {o:HO} (h:b≠a):upd H a o b=H b:=by unfold upd;rw [if_neg h]
theorem aw {H:Hp} {a b:Addr} {o u:HO} (h:H a=some o) (h':H b=some u) (d:o≠u):a≠b:=by
  intro e;subst e;rw [h] at h';exact d (Option.some.inj h')
theorem au {H:Hp} {a b:Addr} {o:HO} (h:H a=some o) (h':H b=none):a≠b:=by
  intro e;subst e;rw [h] at h';cases h'
section
variable (P:Program) (w:World)
def hV (H:Hp) (h:Heap) (a:Addr):HO→Prop
  | .lst xs=>xs.length≤sizeLine∧∃ (its:List Value) (n:Nat),Vals xs its∧h.get? a=some {cls:=.type "list",data:=.seq its.toArray n}
  | .tup xs=>xs.length≤sizeLine∧∃ its:List Value,Vals xs its∧IsTup h a its.toArray
  | .dK kvs=>kvs.length≤sizeLine∧(a == sysModules)=false∧∃ vs,KV kvs vs∧h.DictOf (c5 P w) a vs
  | .dT kvs=>kvs.length≤sizeLine∧(a == sysModules)=false∧∃ xs:List (List Key×Addr×Value),
      Paired (fun (p:List Key×V) (q:List Key×Addr×Value)=>p.1=q.1∧H q.2.1=some (.tup (p.1.map kV))∧RelV p.2 q.2.2) kvs xs ∧
      ∃ o es ep,h.get? a=some o∧o.ExactDict∧o.data=.dict es ep∧es.toList=xs.map (entryOfKey (tupleKind (c5 P w)))∧(xs.map (·.1)).Nodup
  | .set S n=>h.SetOf (intKind P w) a S n
  | .ins C dx fs=>H dx=some (.own a)∧fs.length≤1000∧dx≠a∧h.get? a=some (PySem.W.instObj C dx) ∧
      ∃ mA,h.Ns1 dx mA∧(∀ f,xO (fs.lookup f) (mA f))∧PySem.Within mA (fs.map (·.1))
  | .own _=>∃ o,h.get? a=some o
  | .xd fs=>∃ mA,h.Ns1 a mA∧∀ f,xO (fs.lookup f) (mA f)
  | .rng lo hi=>∃ t u v,h.get? a=some {cls:=.type "range",data:=.fields #[.int lo t,.int hi u,.int 1 v]}
  | .frz o u=>h.get? a=some o∧hV H h a u
  | .tbl ps=>h.get? a=some {cls:=.none,data:=.fields ps}
  | .met f x=>h.get? a=some (PySem.W.methodObj (.ref f) (.ref x))
  | .ext φ=>φ h∧(∃ o,h.get? a=some o)∧∀ h1 h2:Heap,φ h1→(∀ o,h1.get? a=some o→h2.get? a=some o)→φ h2
def HOk (H:Hp) (h:Heap):Prop:=∀ a o,H a=some o→hV P w H h a o
end
section
variable {P:Program} {w:World} {H H':Hp} {h h':Heap} {a:Addr} {o:HO}
theorem hV.lt (x:hV P w H h a o):a<h.objs.size:=by
  cases o with
  | lst xs=>obtain ⟨_,_,_,_,e⟩:=x;exact Heap.lt_size e
  | tup xs=>obtain ⟨_,_,_,p⟩:=x;exact p.lt
  | dK kvs=>obtain ⟨_,_,_,_,o,_,_,e,_⟩:=x;exact Heap.lt_size e
  | dT kvs=>obtain ⟨_,_,_,_,o,_,_,e,_⟩:=x;exact Heap.lt_size e
  | set S n=>obtain ⟨o,_,_,_,e,_⟩:=x;exact Heap.lt_size e
  | ins C dx fs=>obtain ⟨_,_,_,e,_⟩:=x;exact Heap.lt_size e
  | own y=>obtain ⟨_,e⟩:=x;exact Heap.lt_size e
  | xd fs=>obtain ⟨_,⟨_,_,_,e,_⟩,_⟩:=x;exact Heap.lt_size e
  | rng lo hi=>obtain ⟨_,_,_,e⟩:=x;exact Heap.lt_size e
  | frz ob u=>obtain ⟨e,_⟩:=x;exact Heap.lt_size e
  | tbl ps=>exact Heap.lt_size (show h.get? a=some _ from x)
  | met f y=>exact Heap.lt_size (show h.get? a=some _ from x)
  | ext φ=>obtain ⟨_,⟨_,e⟩,_⟩:=x;exact Heap.lt_size e
theorem Paired.Yy {α β:Type} {F G:α→β→Prop}:∀ {l₁:List α} {l₂:List β},Paired F l₁ l₂→(∀ a b,F a b→G a b)→Paired G l₁ l₂
  | _,_,.nil,_=>.nil
  | _,_,.cons r t,f=>.cons (f _ _ r) (Paired.Yy t f)
theorem hV.Jb (x:hV P w H h a o) (k:∀ b u,(b=a∨H b=some (.own a))→h.get? b=some u→h'.get? b=some u)
    (ho:∀ b,H b=some (.own a)→H' b=some (.own a)) (ht:∀ b xs,H b=some (.tup xs)→H' b=some (.tup xs)):hV P w H' h' a o:=by
  induction o with
  | lst xs=>obtain ⟨z,its,n,r,e⟩:=x;exact ⟨z,its,n,r,k _ _ (.inl rfl) e⟩
  | tup xs=>obtain ⟨z,its,r,ob,e,c⟩:=x;exact ⟨z,its,r,ob,k _ _ (.inl rfl) e,c⟩
  | dK kvs=>obtain ⟨z,y,vs,r,ob,es,ep,e,c⟩:=x;exact ⟨z,y,vs,r,ob,es,ep,k _ _ (.inl rfl) e,c⟩
  | dT kvs =>
    obtain ⟨z,y,xs,r,ob,es,ep,e,c⟩:=x
    exact ⟨z,y,xs,Paired.Yy r fun p q z=>⟨z.1,ht _ _ z.2.1,z.2.2⟩,ob,es,ep,k _ _ (.inl rfl) e,c⟩
  | set S n=>obtain ⟨ob,es,ep,t,e,c⟩:=x;exact ⟨ob,es,ep,t,k _ _ (.inl rfl) e,c⟩
  | ins C dx fs =>
    obtain ⟨d,z,ne,e,mA,⟨od,es,ep,e2,c⟩,r⟩:=x
    exact ⟨ho _ d,z,ne,k _ _ (.inl rfl) e,mA,⟨od,es,ep,k _ _ (.inr d) e2,c⟩,r⟩
  | own y=>obtain ⟨ob,e⟩:=x;exact ⟨ob,k _ _ (.inl rfl) e⟩
  | xd fs=>obtain ⟨mA,⟨od,es,ep,e,c⟩,r⟩:=x;exact ⟨mA,⟨od,es,ep,k _ _ (.inl rfl) e,c⟩,r⟩
  | rng lo hi=>obtain ⟨t,u,v,e⟩:=x;exact ⟨t,u,v,k _ _ (.inl rfl) e⟩
  | frz ob u ih=>obtain ⟨e,q⟩:=x;exact ⟨k _ _ (.inl rfl) e,ih q⟩
  | tbl ps =>
    have e:h.get? a=some {cls:=.none,data:=.fields ps}:=x
    show h'.get? a=some {cls:=.none,data:=.fields ps}
    exact k a _ (.inl rfl) e
  | met f y =>
    have e:h.get? a=some (PySem.W.methodObj (.ref f) (.ref y)):=x
    show h'.get? a=some (PySem.W.methodObj (.ref f) (.ref y))
    exact k a _ (.inl rfl) e
  | ext φ=>obtain ⟨p,⟨o,e⟩,st⟩:=x;exact ⟨st _ _ p fun o q=>k _ _ (.inl rfl) q,⟨o,k _ _ (.inl rfl) e⟩,st⟩
theorem HOk.lt (x:HOk P w H h) (e:H a=some o):a<h.objs.size:=(x a o e).lt
theorem HOk.fresh (x:HOk P w H h) (e:h.objs.size≤a):H a=none:=by
  cases q:H a with
  | none=>rfl
  | some u=>exact absurd (Nat.lt_of_lt_of_le (x.lt q) e) (Nat.lt_irrefl _)
theorem HOk.kept (x:HOk P w H h) (k:∀ b u,h.get? b=some u→h'.get? b=some u):HOk P w H h':=fun a o e =>
  (x a o e).Jb (fun b u _ q=>k b u q) (fun _ q=>q) fun _ _ q=>q
theorem HOk.laid (x:HOk P w H h) (k:∀ b u,h.get? b=some u→h'.get? b=some u) (hp:h.objs.size≤a) (new:hV P w (upd H a o) h' a o):HOk P w (upd H a o) h':=fun b u e=>by
  have hn:=x.fresh hp
  by_cases hb:b=a
  · subst hb;rw [ah] at e;cases e;exact new
  · rw [af hb] at e
    exact (x b u e).Jb (fun c v _ q=>k c v q) (fun c q=>by rw [af (au q hn)];exact q) fun c xs q=>by rw [af (au q hn)];exact q
end
def Rd (H:Hp) (a:Addr) (u:HO):Prop:=H a=some u∨∃ o,H a=some (.frz o u)
theorem Rd.ok {P:Program} {w:World} {H:Hp} {h:Heap} {a:Addr} {u:HO} (r:Rd H a u) (x:HOk P w H h):hV P w H h a u:=by
  rcases r with r|⟨o,r⟩
  · exact x a u r
  · obtain ⟨_,q⟩:=x a _ r
    exact q
def Mut:Option HO→Prop
  | some (.lst _)=>True
  | some (.dK _)=>True
  | some (.dT _)=>True
  | some (.set _ _)=>True
  | some (.ins _ _ _)=>True
  | some (.ext _)=>True
  | _=>False
section
variable {P:Program} {w:World} {H:Hp} {h h':Heap} {x e:Addr} {o':HO}
theorem HOk.write (ok:HOk P w H h) (mu:Mut (H x)) (he:e=x∨H e=some (.own x)) (k:∀ b u,b≠e→h.get? b=some u→h'.get? b=some u) (heo:∃ u,h'.get? e=some u)
    (new:hV P w (upd H x o') h' x o'):HOk P w (upd H x o') h':=fun b u q=>by
  have abW:∀ c y,H c=some (.own y)→c≠x:=fun c y r z=>by subst z;rw [r] at mu;exact mu
  have acT:∀ c xs,H c=some (.tup xs)→c≠x:=fun c xs r z=>by subst z;rw [r] at mu;exact mu
  by_cases hb:b=x
  · subst hb;rw [ah] at q;cases q;exact new
  · rw [af hb] at q
    by_cases hbe:b=e
    · have q':H b=some (.own x):=by
        rcases he with z|z
        · exact absurd (hbe.trans z) hb
        · rw [hbe];exact z
      rw [q] at q';cases q'
      obtain ⟨v,hv⟩:=heo
      exact ⟨v,by rw [hbe];exact hv⟩
    · refine (ok b u q).Jb (fun c v hc r=>k c v ?_ r) (fun c r=>by rw [af (abW c b r)];exact r) fun c xs r=>by rw [af (acT c xs r)];exact r
      rcases hc with rfl|hc
      · exact hbe
      · rintro rfl
        rcases he with z|z
        · exact abW c b hc z
        · rw [hc] at z;cases z;exact hb rfl
end
structure Un (fs ex:List Addr) (H H':Hp) (h h':Heap):Prop where
  keep:∀ b o,h.get? b=some o→H b=none→b∉fs→b∉ex→h'.get? b=some o
  slot:∀ b o,h.get? b=some o→H b=none→b∈fs→b∉ex→∃ sl,h'.get? b=some {o with slots:=sl}
  free:∀ b o,h.get? b=some o→H b=none→b∉ex→H' b=none
  there:∀ b o,h.get? b=some o→b∉ex→∃ o',h'.get? b=some o'
  AD:∀ b xs,H b=some (.tup xs)→H' b=some (.tup xs)
  Ez:∀ b o u,H b=some (.frz o u)→H' b=some (.frz o u)
  Fi:∀ b ps,H b=some (.tbl ps)→∃ more,H' b=some (.tbl (ps++more))
section
variable {fs fs' ex ex':List Addr} {H H1 H2:Hp} {h h1 h2 h':Heap} {a x e:Addr} {o:HO}
theorem Un.any (u:Un fs ex H H1 h h1) {b:Addr} {ob:Obj} (q:h.get? b=some ob) (n:H b=none) (hx:b∉ex):∃ sl,h1.get? b=some {ob with slots:=sl}:=by
  by_cases hb:b∈fs
  · exact u.slot b ob q n hb hx
  · exact ⟨ob.slots,u.keep b ob q n hb hx⟩
theorem Un.kept (k:∀ b u,h.get? b=some u→h'.get? b=some u):Un fs ex H H h h' :=
  ⟨fun b ob q _ _ _=>k b ob q,fun b ob q _ _ _=>⟨ob.slots,k b ob q⟩,fun _ _ _ n _=>n,fun b ob q _=>⟨ob,k b ob q⟩,fun _ _ q=>q,fun _ _ _ q=>q,fun _ ps q=>⟨#[],by rw [q];simp⟩⟩
theorem Un.refl:Un fs ex H H h h:=Un.kept fun _ _ q=>q
theorem Un.laid (k:∀ b u,h.get? b=some u→h'.get? b=some u) (hp:h.objs.size≤a) (hn:H a=none):Un fs ex H (upd H a o) h h' where
  keep:=fun b u q _ _ _=>k b u q
  slot:=fun b u q _ _ _=>⟨u.slots,k b u q⟩
  free:=fun b u q n _=>by rw [af (Nat.ne_of_lt (Nat.lt_of_lt_of_le (Heap.lt_size q) hp))];exact n
  there:=fun b u q _=>⟨u,k b u q⟩
  AD:=fun b xs q=>by rw [af (au q hn)];exact q
  Ez:=fun b u xs q=>by rw [af (au q hn)];exact q
  Fi:=fun b ps q=>⟨#[],by rw [af (au q hn),q];simp⟩
theorem Un.write (mu:Mut (H x)) (he:e=x∨H e=some (.own x)) (k:∀ b u,b≠e→h.get? b=some u→h'.get? b=some u) (heo:∃ u,h'.get? e=some u):Un fs ex H (upd H x o) h h':=by
  have hx:∀ b,H b=none→b≠x:=fun b n z=>by subst z;rw [n] at mu;exact mu
  have hb:∀ b,H b=none→b≠e:=fun b n z=>by
    subst z
    rcases he with r|r
    · exact hx b n r
    · rw [n] at r;cases r
  have hm:∀ b u,H b=some u→¬Mut (some u)→b≠x:=fun b u q nm z=>by subst z;rw [q] at mu;exact nm mu
  refine ⟨fun b u q n _ _=>k b u (hb b n) q,fun b u q n _ _=>⟨u.slots,k b u (hb b n) q⟩,fun b u q n _=>by rw [af (hx b n)];exact n,fun b u q _=>?_,
    fun b xs q=>by rw [af (hm b _ q fun z=>z)];exact q,fun b u xs q=>by rw [af (hm b _ q fun z=>z)];exact q,fun b ps q=>⟨#[],by rw [af (hm b _ q fun z=>z),q];simp⟩⟩
  by_cases hbe:b=e
  · subst hbe;exact heo
  · exact ⟨u,k b u hbe q⟩
end
def trk (h:Heap) (H:Hp):List Addr:=(List.range h.objs.size).filter fun a=>(H a).isSome
def LW (h:Heap) (H:Hp):Heap:=PySem.W.hideAll h (trk h H)
theorem N8 (h:Heap) (H:Hp):(LW h H).objs.size=h.objs.size:=PySem.W.hideAll_size _ _
theorem Pg {h:Heap} {H:Hp} {b:Addr} {o:Obj} (e:h.get? b=some o) (n:H b=none):(LW h H).get? b=some o :=
  PySem.W.hideAll_get _ e fun hm=>by
    have q:(H b).isSome=true:=(List.mem_filter.mp hm).2
    rw [n] at q;simp at q
theorem Ro {h:Heap} {H:Hp} {b:Addr} {o:Obj} (e:(LW h H).get? b=some o):h.get? b=some o∧H b=none:=by
  have e':h.get? b=some o:=PySem.W.of_hideAll (trk h H) e
  refine ⟨e',?_⟩
  cases q:H b with
  | none=>rfl
  | some x =>
    have hm:b∈trk h H:=List.mem_filter.mpr ⟨List.mem_range.mpr (Heap.lt_size e'),by simp [q]⟩
    have z:(LW h H).get? b=none:=PySem.W.hideAll_none (trk h H) hm
    rw [z] at e;cases e
end L2
namespace L2
open PySem PySem.Spec PyProof.Rows
structure Mod (K:W.Frag) (mg:Str→Option Value) (base:Heap):Prop where
  kin:K.In base
  glob:base.Ns mainGlobals mg
  blt:∃ mb,base.Ns builtinsNs mb∧∀ x:Str,x ≠ "__name__" → mb x=bootBuiltins x
  nolimit:base.NoLimit
structure Cx where
  prog:Program
  w:World
  K:W.Frag
  mg:Str→Option Value
  base:Heap
  A:Around
  N:List Str
  s₀:Shared
  H₀:Hp
  env:Env
  outer:List Env
  stack:List Env
  ex:List Addr
  fn:Str→Bool
  calm:Bool
  pn:List (Addr×Obj)
  xe:Value→Shared→Prop
def frs (l:List Env):List Addr:=l.filterMap (·.frame)
abbrev Cx.fs (X:Cx):List Addr:=frs X.outer
def Vis (sc:Scope) (x:Str):Prop:=sc.names.lookup x=some .local∨sc.names.lookup x=some .cell∨sc.names.lookup x=some .free
def Loc (sc:Scope) (x:Str):Prop:=sc.names.lookup x=some .local∨sc.names.lookup x=some .cell
def Look (env:Env) (h:Heap) (m:Str→Option Value) (x:Str) (u:Value):Prop :=
  (env.kindOf x=some .local∧m x=some u)∨((env.kindOf x=some .cell∨env.kindOf x=some .free)∧∃ c,env.cells.lookup x=some c∧h.IsCell c (some u))
structure Cx.Ok (X:Cx):Prop where
  mod:Mod X.K X.mg X.base
  kind:X.env.scope.kind=.function
  glob:X.env.globals=mainGlobals
  blt:X.env.builtins=builtinsNs
  above:X.s₀.heap.objs.size≤X.env.locals
  inj:∀ x y c,X.env.cells.lookup x=some c→X.env.cells.lookup y=some c→x=y
  has:∀ x,(X.env.kindOf x=some .cell∨X.env.kindOf x=some .free)→∃ c,X.env.cells.lookup x=some c
  cab:∀ x c,X.fn x=true→X.env.cells.lookup x=some c→X.s₀.heap.objs.size≤c
  hd:X.calm=true→X.A.handled=none
  frames:X.A.frames=some X.stack
  stk:X.stack=X.outer∨(X.stack=X.env::X.outer∧X.env.frame=some X.env.locals)
  exf:∀ b∈X.ex,b≠X.env.locals∧∀ x c,X.env.cells.lookup x=some c→c≠b
  bs:∀ b o,X.base.get? b=some o→X.s₀.heap.get? b=some o∧X.H₀ b=none
  bsz:X.base.objs.size≤X.s₀.heap.objs.size
  LY:∀ b o,X.base.get? b=some o→b∉X.ex
  Nf:∀ b∈X.ex,b∉X.fs
  Bf:X.s₀.heap.FunFrames X.base X.outer
  frf:∀ b∈X.fs,X.H₀ b=none
structure Inv (X:Cx) (pins:List (Addr×Obj)) (σ:List (Option V)) (H:Hp) (s:Shared):Prop where
  ok:X.Ok
  os:s.os=X.s₀.os
  bare:AllBare s.gens
  base:Un X.fs X.ex X.H₀ H X.s₀.heap s.heap
  loc:∃ m,s.heap.Ns X.env.locals m∧∀ (i:Nat) (x:Str) (v:V),X.N[i]?=some x→σ[i]?=some (some v)→Vis X.env.scope x→∃ u,RelV v u∧Look X.env s.heap m x u
  cell:∀ x c,X.env.cells.lookup x=some c→∃ v,s.heap.IsCell c v
  free:H X.env.locals=none
  mj:∀ x c,X.env.cells.lookup x=some c→H c=none
  pin:∀ p∈X.pn++pins,s.heap.get? p.1=some p.2∧H p.1=none∧p.1≠X.env.locals∧p.1∉X.fs∧∀ v,p.2.data≠.cell v
  hok:HOk X.prog X.w H s.heap
  len:σ.length=X.N.length
section
variable {X:Cx} {pins:List (Addr×Obj)} {σ:List (Option V)} {H H':Hp} {s:Shared} {h':Heap}
theorem Cx.Ok.acU (ok:X.Ok) {b:Addr} {o:Obj} (e:X.base.get? b=some o):b∉X.fs:=fun hb=>by
  have:=(ok.Bf.mem hb).1
  rw [e] at this;cases this
theorem Inv.bs (I:Inv X pins σ H s):∀ b o,X.base.get? b=some o→s.heap.get? b=some o∧H b=none:=fun b o e =>
  ⟨I.base.keep b o (I.ok.bs b o e).1 (I.ok.bs b o e).2 (I.ok.acU e) (I.ok.LY b o e),I.base.free b o (I.ok.bs b o e).1 (I.ok.bs b o e).2 (I.ok.LY b o e)⟩
theorem Inv.bk (I:Inv X pins σ H s):∀ b o,X.base.get? b=some o→s.heap.get? b=some o:=fun b o e=>(I.bs b o e).1
theorem Inv.mod (I:Inv X pins σ H s):Mod X.K X.mg X.base:=I.ok.mod
theorem Inv.kIn (I:Inv X pins σ H s):X.K.In s.heap:=I.ok.mod.kin.keeps I.bk
theorem Inv.lt (I:Inv X pins σ H s):X.env.locals<s.heap.objs.size:=let ⟨_,hn,_⟩:=I.loc;hn.lt
theorem Inv.sz (I:Inv X pins σ H s):X.s₀.heap.objs.size≤s.heap.objs.size:=Nat.le_trans I.ok.above (Nat.le_of_lt I.lt)
theorem Inv.acV (I:Inv X pins σ H s) {a:Addr} (h:s.heap.objs.size≤a):a∉X.fs:=fun hb=>by
  obtain ⟨_,o,ho,_⟩:=I.ok.Bf.mem hb
  exact absurd (Nat.lt_of_lt_of_le (Heap.lt_size ho) (Nat.le_trans I.sz h)) (Nat.lt_irrefl _)
theorem Inv.cne (I:Inv X pins σ H s):∀ x c,X.env.cells.lookup x=some c→c≠X.env.locals:=fun x c e z=>by
  obtain ⟨v,o,ho,hd⟩:=I.cell x c e
  obtain ⟨m,⟨o',es,ep,ho',hd',_⟩,_⟩:=I.loc
  rw [z,ho'] at ho;cases ho;rw [hd'] at hd;cases hd
theorem Inv.Bf (I:Inv X pins σ H s):s.heap.FunFrames X.base X.outer:=by
  have all:∀ (l:List Env),(∀ b∈frs l,b∈X.fs)→X.s₀.heap.FunFrames X.base l→s.heap.FunFrames X.base l:=by
    intro l
    induction l with
    | nil=>intro _ _;trivial
    | cons env r ih =>
      intro hs hl
      obtain ⟨hk,⟨L,o,hf,hn,ho,hd⟩,hr⟩:=hl
      have hL:L∈X.fs:=hs L (by unfold frs;rw [List.filterMap_cons,hf];exact List.mem_cons_self)
      obtain ⟨sl,e⟩:=I.base.slot L o ho (I.ok.frf L hL) hL fun z=>I.ok.Nf L z hL
      exact ⟨hk,⟨L,_,hf,hn,e,hd⟩,ih (fun b hb=>hs b (by unfold frs;rw [List.filterMap_cons,hf];exact List.mem_cons_of_mem _ hb)) hr⟩
  exact all X.outer (fun _ hb=>hb) I.ok.Bf
theorem Inv.stack (I:Inv X pins σ H s):s.heap.FunFrames X.base X.stack:=by
  rcases I.ok.stk with e|⟨e,hf⟩
  · rw [e];exact I.Bf
  · rw [e]
    obtain ⟨m,hn,_⟩:=I.loc
    refine .cons (by rw [I.ok.kind];decide) hf hn ?_ I.Bf
    exact Heap.get?_none_of_le (Nat.le_trans I.ok.bsz I.ok.above)
theorem Inv.vv (I:Inv X pins σ H s):∀ b∈frs X.stack,b∈X.env.locals::X.fs:=fun b hb=>by
  rcases I.ok.stk with e|⟨e,hf⟩
  · rw [e] at hb;exact List.mem_cons_of_mem _ hb
  · rw [e] at hb
    unfold frs at hb
    rw [List.filterMap_cons,hf] at hb
    exact hb
theorem Inv.Bg (I:Inv X pins σ H s):∀ b∈frs X.stack,H b=none:=fun b hb=>by
  rcases List.mem_cons.mp (I.vv b hb) with e|hb
  · rw [e];exact I.free
  · obtain ⟨_,o,ho,_⟩:=I.ok.Bf.mem hb
    exact I.base.free b o ho (I.ok.frf b hb) fun z=>I.ok.Nf b z hb
theorem Inv.step {g':Array GenState} {t':Nat} {d':Drawn} {ch:List Addr} (I:Inv X pins σ H s)
    (hch:∀ b∈ch,(b∈X.ex∨X.s₀.heap.objs.size≤b)∧b≠X.env.locals∧(∀ x c,X.env.cells.lookup x=some c→c≠b)∧∀ p∈X.pn++pins,p.1≠b)
    (keep:∀ b o,b≠X.env.locals→b∉X.fs→b∉ch→s.heap.get? b=some o→H b=none→h'.get? b=some o)
    (slot:∀ b o,b≠X.env.locals→b∈X.fs→b∉ch→s.heap.get? b=some o→H b=none→∃ sl,h'.get? b=some {o with slots:=sl}) (free:∀ b o,b∉ch→s.heap.get? b=some o→H b=none→H' b=none)
    (there:∀ b o,b∉ch→s.heap.get? b=some o→∃ o',h'.get? b=some o')
    (AD:∀ b xs,H b=some (.tup xs)→H' b=some (.tup xs)) (Ez:∀ b o u,H b=some (.frz o u)→H' b=some (.frz o u)) (Fi:∀ b ps,H b=some (.tbl ps)→∃ more,H' b=some (.tbl (ps++more)))
    (ns:∀ m,s.heap.Ns X.env.locals m→h'.Ns X.env.locals m) (hok:HOk X.prog X.w H' h') (hg:AllBare g') :
    Inv X pins σ H' {s with heap:=h',gens:=g',drawn:=d',toks:=t'}:=by
  have neL:∀ b o,X.s₀.heap.get? b=some o→b≠X.env.locals:=fun b o e=>Nat.ne_of_lt (Nat.lt_of_lt_of_le (Heap.lt_size e) I.ok.above)
  have neC:∀ b o,X.s₀.heap.get? b=some o→b∉X.ex→b∉ch:=fun b o e hx hb=>by
    rcases (hch b hb).1 with z|z
    · exact hx z
    · exact absurd (Nat.lt_of_lt_of_le (Heap.lt_size e) z) (Nat.lt_irrefl _)
  have cellK:∀ x c,X.env.cells.lookup x=some c→∀ v,s.heap.IsCell c v→h'.IsCell c v:=fun x c e v ⟨o,ho,hd⟩=>by
    have nch:c∉ch:=fun z=>(hch c z).2.2.1 x c e rfl
    by_cases hc:c∈X.fs
    · obtain ⟨sl,q⟩:=slot c o (I.cne x c e) hc nch ho (I.mj x c e)
      exact ⟨_,q,hd⟩
    · exact ⟨o,keep c o (I.cne x c e) hc nch ho (I.mj x c e),hd⟩
  refine ⟨I.ok,I.os,hg,⟨fun b o e n hb hx=>?_,fun b o e n hb hx=>?_,fun b o e n hx=>?_,fun b o e hx=>?_,fun b xs e=>AD b xs (I.base.AD b xs e),fun b o xs e=>Ez b o xs (I.base.Ez b o xs e),fun b ps e=>?_⟩,?_,fun x c e=>?_,?_,fun x c e=>?_,fun p hp=>?_,hok,I.len⟩
  · exact keep b o (neL b o e) hb (neC b o e hx) (I.base.keep b o e n hb hx) (I.base.free b o e n hx)
  · obtain ⟨sl,e1⟩:=I.base.slot b o e n hb hx
    obtain ⟨sl',e2⟩:=slot b _ (neL b o e) hb (neC b o e hx) e1 (I.base.free b o e n hx)
    exact ⟨sl',e2⟩
  · obtain ⟨o',e1⟩:=I.base.there b o e hx
    exact free b o' (neC b o e hx) e1 (I.base.free b o e n hx)
  · obtain ⟨o',e1⟩:=I.base.there b o e hx
    exact there b o' (neC b o e hx) e1
  · obtain ⟨m1,e1⟩:=I.base.Fi b ps e
    obtain ⟨m2,e2⟩:=Fi b _ e1
    exact ⟨m1++m2,by rw [e2,Array.append_assoc]⟩
  · obtain ⟨m,hn,hl⟩:=I.loc
    refine ⟨m,ns m hn,fun i x v e1 e2 e3=>?_⟩
    obtain ⟨u,r,l⟩:=hl i x v e1 e2 e3
    refine ⟨u,r,?_⟩
    rcases l with l|⟨k,c,e,z⟩
    · exact .inl l
    · exact .inr ⟨k,c,e,cellK x c e _ z⟩
  · obtain ⟨v,z⟩:=I.cell x c e
    exact ⟨v,cellK x c e v z⟩
  · obtain ⟨m,⟨o,_,_,ho,_⟩,_⟩:=I.loc
    exact free _ o (fun z=>(hch _ z).2.1 rfl) ho I.free
  · obtain ⟨v,o,ho,hd⟩:=I.cell x c e
    exact free c o (fun z=>(hch c z).2.2.1 x c e rfl) ho (I.mj x c e)
  · obtain ⟨e,n,ne,nf,d⟩:=I.pin p hp
    have nch:p.1∉ch:=fun z=>(hch p.1 z).2.2.2 p hp rfl
    exact ⟨keep p.1 p.2 ne nf nch e n,free p.1 p.2 nch e n,ne,nf,d⟩
theorem Inv.un {t':Nat} (I:Inv X pins σ H s) (u:Un X.fs [] H H' s.heap h') (hok:HOk X.prog X.w H' h'):Inv X pins σ H' {s with heap:=h',toks:=t'}:=by
  obtain ⟨m,⟨o,es,ep,ho,r⟩,_⟩:=id I.loc
  obtain ⟨sl,hL⟩:=u.any ho I.free (by simp)
  exact I.step (g':=s.gens) (d':=s.drawn) (ch:=[]) (fun _ z=>nomatch z) (fun b o _ hb _ e n=>u.keep b o e n hb (by simp)) (fun b o _ hb _ e n=>u.slot b o e n hb (by simp)) (fun b o _ e n=>u.free b o e n (by simp)) (fun b o _ e=>u.there b o e (by simp)) u.AD u.Ez u.Fi (fun m' hm=>by
    obtain ⟨o',es',ep',ho',r'⟩:=hm
    rw [ho] at ho';cases ho'
    exact ⟨_,es',ep',hL,r'⟩) hok I.bare
theorem Inv.call {g':Array GenState} {t':Nat} {d':Drawn} {ch:List Addr} (I:Inv X pins σ H s) (u:Un (frs X.stack) ch H H' s.heap h') (hok:HOk X.prog X.w H' h') (hg:AllBare g')
    (hch:∀ b∈ch,(b∈X.ex∨X.s₀.heap.objs.size≤b)∧b≠X.env.locals∧(∀ x c,X.env.cells.lookup x=some c→c≠b)∧∀ p∈X.pn++pins,p.1≠b) :
    Inv X pins σ H' {s with heap:=h',gens:=g',drawn:=d',toks:=t'}:=by
  obtain ⟨m,⟨o,es,ep,ho,r⟩,_⟩:=id I.loc
  obtain ⟨sl,hL⟩:=u.any ho I.free fun z=>(hch _ z).2.1 rfl
  exact I.step (ch:=ch) hch (fun b o hL hb hc e n=>u.keep b o e n (fun z=>(List.mem_cons.mp (I.vv b z)).elim hL hb) hc) (fun b o _ _ hc e n=>u.any e n hc) (fun b o hc e n=>u.free b o e n hc) (fun b o hc e=>u.there b o e hc) u.AD u.Ez u.Fi (fun m' hm=>by
    obtain ⟨o',es',ep',ho',r'⟩:=hm
    rw [ho] at ho';cases ho'
    exact ⟨_,es',ep',hL,r'⟩) hok hg
theorem Inv.turned {t':Nat} {it:Addr} (I:Inv X pins σ H s) (k:∀ b o,b≠it→s.heap.get? b=some o→h'.get? b=some o) (hn:H it=none) (hL:it≠X.env.locals)
    (h1:it∈X.ex∨X.s₀.heap.objs.size≤it) (h2:∀ x c,X.env.cells.lookup x=some c→c≠it) (h3:∀ p∈X.pn++pins,p.1≠it):Inv X pins σ H {s with heap:=h',toks:=t'}:=by
  have nit:∀ b u,H b=some u→b≠it:=fun b u e z=>by rw [z,hn] at e;cases e
  refine I.step (g':=s.gens) (d':=s.drawn) (ch:=[it]) (fun b hb=>?_) (fun b o _ _ hc e _=>k b o (fun z=>hc (by simp [z])) e) (fun b o _ _ hc e _=>⟨o.slots,k b o (fun z=>hc (by simp [z])) e⟩) (fun _ _ _ _ n=>n)
    (fun b o hc e=>⟨o,k b o (fun z=>hc (by simp [z])) e⟩) (fun _ _ e=>e) (fun _ _ _ e=>e) (fun b ps e=>⟨#[],by rw [e];simp⟩) (fun m hm=>?_) (fun b u e=>?_) I.bare
  · have e:b=it:=by simpa using hb
    subst e
    exact ⟨h1,hL,h2,h3⟩
  · obtain ⟨o,es,ep,ho,r⟩:=hm
    exact ⟨o,es,ep,k _ o (Ne.symm hL) ho,r⟩
  · refine (I.hok b u e).Jb (fun c v hc q=>k c v ?_ q) (fun _ q=>q) fun _ _ q=>q
    rcases hc with z|z
    · rw [z];exact nit b u e
    · exact nit c _ z
theorem Inv.tok (I:Inv X pins σ H s) (t:Nat):Inv X pins σ H {s with toks:=t}:=I.un (h':=s.heap) (t':=t) Un.refl I.hok
theorem Inv.kept {t':Nat} (I:Inv X pins σ H s) (k:∀ b u,s.heap.get? b=some u→h'.get? b=some u):Inv X pins σ H {s with heap:=h',toks:=t'}:=I.un (Un.kept k) (I.hok.kept k)
theorem Inv.laid {a:Addr} {o:HO} {t':Nat} (I:Inv X pins σ H s) (k:∀ b u,s.heap.get? b=some u→h'.get? b=some u) (hp:s.heap.objs.size≤a) (new:hV X.prog X.w (upd H a o) h' a o) :
    Inv X pins σ (upd H a o) {s with heap:=h',toks:=t'}:=I.un (Un.laid k hp (I.hok.fresh hp)) (I.hok.laid k hp new)
theorem Inv.write {x e:Addr} {o:HO} {t':Nat} (I:Inv X pins σ H s) (mu:Mut (H x)) (he:e=x∨H e=some (.own x)) (k:∀ b u,b≠e→s.heap.get? b=some u→h'.get? b=some u) (heo:∃ u,h'.get? e=some u)
    (new:hV X.prog X.w (upd H x o) h' x o):Inv X pins σ (upd H x o) {s with heap:=h',toks:=t'}:=I.un (Un.write mu he k heo) (I.hok.write mu he k heo new)
theorem Inv.Ng {LZ:List (Addr×Obj)} (I:Inv X pins σ H s) (h:∀ p∈LZ,s.heap.get? p.1=some p.2∧H p.1=none∧p.1≠X.env.locals∧p.1∉X.fs∧∀ v,p.2.data≠.cell v):Inv X LZ σ H s :=
  ⟨I.ok,I.os,I.bare,I.base,I.loc,I.cell,I.free,I.mj,fun p hp=>(List.mem_append.mp hp).elim (fun z=>I.pin p (List.mem_append_left _ z)) (h p),I.hok,I.len⟩
theorem FN {N:List Str} (hN:N.Nodup) {i j:Nat} {x:Str} (a:N[i]?=some x) (b:N[j]?=some x):i=j:=by
  obtain ⟨h1,e1⟩:=List.getElem?_eq_some_iff.mp a
  obtain ⟨h2,e2⟩:=List.getElem?_eq_some_iff.mp b
  exact (List.getElem_inj hN).mp (e1.trans e2.symm)
theorem N9 {M:Model} {A:Around} {E:Value→Shared→Prop} {i:Nat} {x:Str} {v:V} {u:Value} {Q:Unit→Shared→Prop} (I:Inv X pins σ H s) (hN:X.N.Nodup) (hi:X.N[i]?=some x) (hx:Loc X.env.scope x) (r:RelV v u)
    (h:∀ s',Inv X pins (σ.set i (some v)) H s'→(∃ a,Heap.SameBut a s.heap s'.heap∧(a=X.env.locals∨X.env.cells.lookup x=some a))→Q () s') (hf:X.fn x=true∨X.env.scope.names.lookup x=some .local:=by first|exact .inl rfl|exact .inr rfl|assumption):wpAny M A (storeName X.env x u) Q E s:=by
  obtain ⟨m,hn,hl⟩:=id I.loc
  have Yz:(X.env.scope.kind == .class||(X.env.scope.kind == .module&&X.env.locals != X.env.globals))=false:=by rw [I.ok.kind];rfl
  have hiσ:i<σ.length:=by rw [I.len];exact (List.getElem?_eq_some_iff.mp hi).1
  have cne:=I.cne
  have tracked:∀ {a:Addr} {h':Heap},(∃ o,s.heap.get? a=some o∧H a=none)→Heap.SameBut a s.heap h'→HOk X.prog X.w H h':=fun {a h'} ha hs b ob e=>by
    obtain ⟨_,_,UL⟩:=ha
    refine (I.hok b ob e).Jb (fun c w' hc q=>(hs.2 c ?_).trans q) (fun _ q=>q) fun _ _ q=>q
    rintro rfl
    rcases hc with rfl|hc
    · rw [UL] at e;cases e
    · rw [UL] at hc;cases hc
  rcases hx with hk|hk
  · refine wpAny_storeName_local hk hn (fun h' hn' hs=>?_) Yz
    obtain ⟨oL,_,_,hoL,_⟩:=id hn
    refine h _ ⟨I.ok,I.os,I.bare,⟨fun b o e n hb hx=>?_,fun b o e n hb hx=>?_,I.base.free,fun b o e hx=>?_,I.base.AD,I.base.Ez,I.base.Fi⟩,⟨_,hn',fun j y v' e1 e2 e3=>?_⟩,fun y c e=>?_,I.free,I.mj,fun p hp=>?_,tracked ⟨oL,hoL,I.free⟩ hs,by simpa using I.len⟩ ⟨_,hs,.inl rfl⟩
    · exact (hs.2 b (Nat.ne_of_lt (Nat.lt_of_lt_of_le (Heap.lt_size e) I.ok.above))).trans (I.base.keep b o e n hb hx)
    · obtain ⟨sl,e1⟩:=I.base.slot b o e n hb hx
      exact ⟨sl,(hs.2 b (Nat.ne_of_lt (Nat.lt_of_lt_of_le (Heap.lt_size e) I.ok.above))).trans e1⟩
    · obtain ⟨o',e1⟩:=I.base.there b o e hx
      exact ⟨o',(hs.2 b (Nat.ne_of_lt (Nat.lt_of_lt_of_le (Heap.lt_size e) I.ok.above))).trans e1⟩
    · by_cases hj:j=i
      · subst hj
        rw [hi] at e1;cases e1
        rw [List.getElem?_set_self hiσ] at e2
        cases e2
        exact ⟨u,r,.inl ⟨hk,by simp⟩⟩
      · rw [List.getElem?_set_ne (Ne.symm hj)] at e2
        obtain ⟨u',r',q⟩:=hl j y v' e1 e2 e3
        refine ⟨u',r',?_⟩
        rcases q with ⟨k,e⟩|⟨k,c,e,z⟩
        · refine .inl ⟨k,?_⟩
          have:y≠x:=fun e=>hj (FN hN e1 (e ▸ hi))
          simp [this,e]
        · exact .inr ⟨k,c,e,z.sameBut hs (cne y c e)⟩
    · obtain ⟨w',z⟩:=I.cell y c e
      exact ⟨w',z.sameBut hs (cne y c e)⟩
    · obtain ⟨e,n,ne,nf,d⟩:=I.pin p hp
      exact ⟨(hs.2 p.1 ne).trans e,n,ne,nf,d⟩
  · have hfn:X.fn x=true:=by
      rcases hf with z|z
      · exact z
      · rw [z] at hk;cases hk
    obtain ⟨c,hc⟩:=I.ok.has x (.inl hk)
    obtain ⟨w',z⟩:=I.cell x c hc
    refine wpAny_storeName_cell I.ok.kind hk hc z (fun h' hc' hs=>?_)
    obtain ⟨oc,hoc,acW⟩:=id z
    refine h {s with heap:=h'} ⟨I.ok,I.os,I.bare,⟨fun b o e n hb hx=>?_,fun b o e n hb hx=>?_,I.base.free,fun b o e hx=>?_,I.base.AD,I.base.Ez,I.base.Fi⟩,⟨m,hn.sameBut hs (Ne.symm (cne x c hc)),fun j y v' e1 e2 e3=>?_⟩,fun y c' e=>?_,I.free,I.mj,fun p hp=>?_,tracked ⟨oc,hoc,I.mj x c hc⟩ hs,by simpa using I.len⟩ ⟨c,hs,.inr hc⟩
    · exact (hs.2 b (Nat.ne_of_lt (Nat.lt_of_lt_of_le (Heap.lt_size e) (I.ok.cab x c hfn hc)))).trans (I.base.keep b o e n hb hx)
    · obtain ⟨sl,e1⟩:=I.base.slot b o e n hb hx
      exact ⟨sl,(hs.2 b (Nat.ne_of_lt (Nat.lt_of_lt_of_le (Heap.lt_size e) (I.ok.cab x c hfn hc)))).trans e1⟩
    · obtain ⟨o',e1⟩:=I.base.there b o e hx
      exact ⟨o',(hs.2 b (Nat.ne_of_lt (Nat.lt_of_lt_of_le (Heap.lt_size e) (I.ok.cab x c hfn hc)))).trans e1⟩
    · by_cases hj:j=i
      · subst hj
        rw [hi] at e1;cases e1
        rw [List.getElem?_set_self hiσ] at e2
        cases e2
        exact ⟨u,r,.inr ⟨.inl hk,c,hc,hc'⟩⟩
      · rw [List.getElem?_set_ne (Ne.symm hj)] at e2
        obtain ⟨u',r',q⟩:=hl j y v' e1 e2 e3
        refine ⟨u',r',?_⟩
        rcases q with q|⟨k,c',e,z'⟩
        · exact .inl q
        · refine .inr ⟨k,c',e,z'.sameBut hs ?_⟩
          rintro rfl
          exact hj (FN hN e1 (I.ok.inj _ _ _ e hc ▸ hi))
    · by_cases hcc:c'=c
      · subst hcc;exact ⟨_,hc'⟩
      · obtain ⟨w2,z2⟩:=I.cell y c' e
        exact ⟨w2,z2.sameBut hs hcc⟩
    · obtain ⟨e,n,ne,nf,d⟩:=I.pin p hp
      refine ⟨(hs.2 p.1 ?_).trans e,n,ne,nf,d⟩
      intro q
      rw [q,hoc] at e
      have q':oc=p.2:=Option.some.inj e
      exact d w' (by rw [←q'];exact acW)
theorem AS {M:Model} {A:Around} {E:Value→Shared→Prop} {i:Nat} {x:Str} {v:V} {u:Value} {Q:Unit→Shared→Prop} (I:Inv X pins σ H s) (hN:X.N.Nodup) (hi:X.N[i]?=some x) (hx:Loc X.env.scope x) (r:RelV v u)
    (h:∀ s',Inv X pins (σ.set i (some v)) H s'→Q () s') (hf:X.fn x=true∨X.env.scope.names.lookup x=some .local:=by first|exact .inl rfl|exact .inr rfl|assumption):wpAny M A (storeName X.env x u) Q E s :=
  N9 I hN hi hx r (fun s' I' _=>h s' I') hf
theorem Inv.Jv {s':Shared} {ch:List Addr} (I:Inv X pins σ H s) (ho:s'.os=s.os) (u:Un (frs X.stack) ch H H' s.heap s'.heap) (hok:HOk X.prog X.w H' s'.heap) (hg:AllBare s'.gens)
    (hch:∀ b∈ch,(b∈X.ex∨X.s₀.heap.objs.size≤b)∧b≠X.env.locals∧(∀ x c,X.env.cells.lookup x=some c→c≠b)∧∀ p∈X.pn++pins,p.1≠b):Inv X pins σ H' s':=by
  obtain ⟨h',g',d',t',o'⟩:=s'
  have e:o'=s.os:=ho
  subst e
  exact I.call (g':=g') (t':=t') (d':=d') u hok hg hch
end
abbrev XK:=Value→Option Addr→Hp→Prop
abbrev St:=List (Option V)
abbrev VK:=V→Hp→Prop
abbrev TE:=St→Hp→VK→Prop
abbrev TT:=St→Hp→(Bool→Hp→Prop)→Prop
abbrev TA:=St→Hp→(List V→Hp→Prop)→Prop
structure Ends where
  nx:St→Hp→Prop
  rt:VK
  bk:St→Hp→Prop:=fun _ _=>False
  ct:St→Hp→Prop:=fun _ _=>False
abbrev TS:=Ends→St→Hp→Prop
def EP (X:Cx) (pins:List (Addr×Obj)) (σ:St) (Q:VK) (u:Value) (s':Shared):Prop:=∃ v H',Inv X pins σ H' s'∧RelV v u∧Q v H'
def TP (X:Cx) (pins:List (Addr×Obj)) (σ:St) (Q:Bool→Hp→Prop) (b:Bool) (s':Shared):Prop:=∃ H',Inv X pins σ H' s'∧Q b H'
def AP (X:Cx) (pins:List (Addr×Obj)) (σ:St) (Q:List V→Hp→Prop) (us:List Value) (s':Shared):Prop:=∃ vs H',Inv X pins σ H' s'∧Vals vs us∧Q vs H'
def SP (X:Cx) (pins:List (Addr×Obj)) (D:Ends) (f:Flow) (s':Shared):Prop :=
  match f with
  | .next=>∃ σ' H',Inv X pins σ' H' s'∧D.nx σ' H'
  | .brk=>∃ σ' H',Inv X pins σ' H' s'∧D.bk σ' H'
  | .cont=>∃ σ' H',Inv X pins σ' H' s'∧D.ct σ' H'
  | .ret u=>∃ v σ' H',Inv X pins σ' H' s'∧RelV v u∧D.rt v H'
def PE (X:Cx) (e:Expr) (t:TE):Prop :=
  ∀ (pins:List (Addr×Obj)) (s:Shared) (σ:St) (H:Hp) (Q:VK),Inv X pins σ H s→t σ H Q→wpAny (model X.prog X.w) X.A (eval e X.env) (EP X pins σ Q) X.xe s
def PT (X:Cx) (e:Expr) (t:TT):Prop :=
  ∀ (pins:List (Addr×Obj)) (s:Shared) (σ:St) (H:Hp) (Q:Bool→Hp→Prop),Inv X pins σ H s→t σ H Q→wpAny (model X.prog X.w) X.A (isTrue e X.env (eval e X.env)) (TP X pins σ Q) X.xe s
def PW (X:Cx) (e:Expr) (t:TT):Prop :=
  ∀ (whole:Sem Value) (pins:List (Addr×Obj)) (s:Shared) (σ:St) (H:Hp) (Q:Bool→Hp→Prop),Inv X pins σ H s→t σ H Q→wpAny (model X.prog X.w) X.A (isTrue e X.env whole) (TP X pins σ Q) X.xe s
theorem PW.pt {X:Cx} {e:Expr} {t:TT} (h:PW X e t):PT X e t:=h _
def PA (X:Cx) (es:List Expr) (t:TA):Prop :=
  ∀ (pos:Pos) (pins:List (Addr×Obj)) (s:Shared) (σ:St) (H:Hp) (Q:List V→Hp→Prop),Inv X pins σ H s→t σ H Q→wpAny (model X.prog X.w) X.A (spliced (backTo pos (starEach es X.env))) (AP X pins σ Q) X.xe s
def PS (X:Cx) (st:Stmt) (t:TS):Prop :=
  ∀ (pins:List (Addr×Obj)) (s:Shared) (σ:St) (H:Hp) (D:Ends),Inv X pins σ H s→t D σ H→wpAny (model X.prog X.w) X.A (exec st X.env) (SP X pins D) X.xe s
def PSs (X:Cx) (st:List Stmt) (t:TS):Prop :=
  ∀ (pins:List (Addr×Obj)) (s:Shared) (σ:St) (H:Hp) (D:Ends),Inv X pins σ H s→t D σ H→wpAny (model X.prog X.w) X.A (execs st X.env) (SP X pins D) X.xe s
theorem thn {α:Type} {t:Sem α} {Q Q':α→Shared→Prop} {M:Model} {A:Around} {E:Value→Shared→Prop} {s:Shared} (h:wpAny M A t Q E s) (hQ:∀ a s,Q a s→Q' a s):wpAny M A t Q' E s:=wpAny_mono h hQ fun _ _ x=>x
end L2
namespace L2
open PySem PySem.Spec PyProof.Rows
section
variable {X:Cx}
def YA (i:Nat):TE:=fun σ H Q=>∃ v,σ[i]?=some (some v)∧Q v H
def tC (v:V):TE:=fun _ H Q=>Q v H
theorem XN {i:Nat} {x:Str} {pos:Pos} (hN:X.N[i]?=some x) (hv:Vis X.env.scope x) (hd:(x == ("__debug__" : Str))=false:=by decide) (hcd:(x == ("__classdict__" : Str))=false:=by decide):PE X (.Name x pos) (YA i):=by
  intro pins s σ H Q I h
  obtain ⟨v,e,h⟩:=h
  obtain ⟨m,hn,hl⟩:=I.loc
  obtain ⟨u,r,l⟩:=hl i x v hN e hv
  have fin:EP X pins σ Q u s:=⟨v,H,I,r,h⟩
  rcases l with ⟨hk,hm⟩|⟨hk,c,hc,OR⟩
  · exact wpAny_Name (wpAny_loadName_local I.ok.kind hk hn hm fin) hd
  · rcases hk with hk|hk
    · exact wpAny_Name (wpAny_loadName_cell I.ok.kind hk hc OR fin) hd
    · exact wpAny_Name (wpAny_loadName_free I.ok.kind hk hc OR fin hcd) hd
theorem ar {i j pos}:PE X (.Constant (.int i) j pos) (tC (.int i)):=fun _ _ _ H _ I h=>wpAny_Constant_int ⟨.int i,H,I.tok _,⟨_,rfl⟩,h⟩
theorem vk {b j pos}:PE X (.Constant (.bool b) j pos) (tC (.bl b)):=fun _ _ _ H _ I h=>Constant_bool ⟨.bl b,H,I,rfl,h⟩
theorem j2 {j pos}:PE X (.Constant .none j pos) (tC .non):=fun _ _ _ H _ I h=>Constant_none ⟨.non,H,I,rfl,h⟩
theorem bq {x j pos}:PE X (.Constant (.str x) j pos) (tC (.str x)):=fun _ _ _ H _ I h=>Calls.Constant_str ⟨.str x,H,I.tok _,⟨_,rfl⟩,h⟩
def Gl (X:Cx) (x:Str):Prop:=X.env.kindOf x=some .globalImplicit
theorem sE {E:Value→Shared→Prop} {pins:List (Addr×Obj)} {s:Shared} {σ:St} {H:Hp} {x:Str} {u:Value} {pos:Pos} {Q:Value→Shared→Prop} (I:Inv X pins σ H s) (hg:Gl X x) (hm:X.mg x=some u) (h:Q u s)
    (hd:(x == ("__debug__" : Str))=false:=by decide):wpAny (model X.prog X.w) X.A (eval (.Name x pos) X.env) Q E s :=
  Calls.Name_function_global I.ok.kind hg (Calls.loadGlobal_global (by rw [I.ok.glob];exact I.mod.glob.keeps I.bk) hm h) hd
theorem F6 {E:Value→Shared→Prop} {pins:List (Addr×Obj)} {s:Shared} {σ:St} {H:Hp} {x:Str} {u:Value} {pos:Pos} {Q:Value→Shared→Prop} (I:Inv X pins σ H s) (hg:Gl X x) (hm:X.mg x=none) (hv:bootBuiltins x=some u) (h:Q u s)
    (hn:x ≠ "__name__" := by decide) (hd:(x == ("__debug__" : Str))=false:=by decide):wpAny (model X.prog X.w) X.A (eval (.Name x pos) X.env) Q E s:=by
  obtain ⟨mb,h1,h2⟩:=I.mod.blt
  exact Calls.Name_function_global I.ok.kind hg (Calls.loadGlobal_builtin (by rw [I.ok.glob];exact I.mod.glob.keeps I.bk) hm (by rw [I.ok.blt];exact h1.keeps I.bk) ((h2 x hn).trans hv) h) hd
theorem kY {x:Str} {v:V} {u:Value} {pos:Pos} (hg:Gl X x) (hm:X.mg x=some u) (r:RelV v u) (hd:(x == ("__debug__" : Str))=false:=by decide):PE X (.Name x pos) (tC v) :=
  fun _ _ _ H _ I h=>sE I hg hm ⟨v,H,I,r,h⟩ hd
variable {a b:Expr} {ta tb:TE} {pos:Pos}
def PC (X:Cx) (op:CmpOp) (a b:Expr) (t:TE):Prop :=
  ∀ (pins:List (Addr×Obj)) (s:Shared) (σ:St) (H:Hp) (Q:VK),Inv X pins σ H s→t σ H Q →
    wpAny (model X.prog X.w) X.A (eval a X.env) (fun v s₁=>wpAny (model X.prog X.w) X.A (eval b X.env) (fun u s₂=>wpAny (model X.prog X.w) X.A (compareOp op v u) (EP X pins σ Q) X.xe s₂) X.xe s₁) X.xe s
def tB (t:TE):TT:=fun σ H Q=>t σ H fun x H1=>∃ c,x=.bl c∧Q c H1
theorem XO {op:CmpOp} {t:TE} (h:PC X op a b t) (h1:behindInMarks op b=false:=by first|exact nobehind _ (by decide) (by decide)|rfl):PE X (.Compare a [op] [b] pos) t:=fun pins s σ H Q I hw=>wpAny_Compare1 (h pins s σ H Q I hw) h1
theorem qD {op:CmpOp} {t:TE} (h:PC X op a b t) (h1:behindInMarks op b=false:=by first|exact nobehind _ (by decide) (by decide)|rfl):PT X (.Compare a [op] [b] pos) (tB t):=by
  intro pins s σ H Q I hw
  refine wpAny_isTrue_Compare1 (thn (h pins s σ H _ I hw) fun v s1 h1=>thn h1 fun u s2 h2=>thn h2 fun c s3 ⟨x,H1,I1,r1,q1⟩=>?_) h1
  obtain ⟨d,rfl,q⟩:=q1
  cases r1
  exact wpAny_truthy_bool ⟨H1,I1,q⟩
theorem vw {e:Expr} {t:TE} (h:PE X e t) (he:∀ whole,isTrue e X.env whole=(do let v ←whole;standAt e.pos;holding [v] (truthy v)):=by intro _;rfl):PT X e (tB t):=by
  intro pins s σ H Q I hw
  refine isTrue_plain (thn (h pins s σ H _ I hw) fun v s1 ⟨x,H1,I1,r1,q1⟩=>?_) (he _)
  obtain ⟨d,rfl,q⟩:=q1
  cases r1
  exact wpAny_truthy_bool ⟨H1,I1,q⟩
variable {tA tB':TT} {rest:List Expr}
def acX (t u:TT):TT:=fun σ H Q=>t σ H fun c H1=>if c=true then u σ H1 Q else Q false H1
def tOr (t u:TT):TT:=fun σ H Q=>t σ H fun c H1=>if c=true then Q true H1 else u σ H1 Q
def acY (t:TT):TT:=fun σ H Q=>t σ H fun c H1=>Q (!c) H1
theorem pw_and1 (ha:PT X a tA):PW X (.BoolOp .And [a] pos) tA:=by
  intro wh pins s σ H Q I h
  refine isTrue_and (thn (ha pins s σ H Q I h) fun c s1 e=>?_)
  cases c with
  | true=>exact isTrue_and_nil e
  | false=>exact e
theorem pw_or1 (ha:PT X a tA):PW X (.BoolOp .Or [a] pos) tA:=by
  intro wh pins s σ H Q I h
  refine isTrue_or (thn (ha pins s σ H Q I h) fun c s1 e=>?_)
  cases c with
  | false=>exact isTrue_or_nil e
  | true=>exact e
theorem pw_and (ha:PT X a tA) (hb:PW X (.BoolOp .And (b::rest) pos) tB'):PW X (.BoolOp .And (a::b::rest) pos) (acX tA tB'):=by
  intro wh pins s σ H Q I h
  refine isTrue_and (thn (ha pins s σ H _ I h) fun c s1 ⟨H1,I1,q1⟩=>?_)
  cases c with
  | true=>exact hb wh pins s1 σ H1 Q I1 q1
  | false=>exact ⟨H1,I1,q1⟩
theorem pw_or (ha:PT X a tA) (hb:PW X (.BoolOp .Or (b::rest) pos) tB'):PW X (.BoolOp .Or (a::b::rest) pos) (tOr tA tB'):=by
  intro wh pins s σ H Q I h
  refine isTrue_or (thn (ha pins s σ H _ I h) fun c s1 ⟨H1,I1,q1⟩=>?_)
  cases c with
  | true=>exact ⟨H1,I1,q1⟩
  | false=>exact hb wh pins s1 σ H1 Q I1 q1
theorem qE (ha:PT X a tA):PT X (.UnaryOp .Not a pos) (acY tA):=by
  intro pins s σ H Q I h
  exact isTrue_not (ha pins s σ H (fun c H1=>Q (!c) H1) I h)
def aa4 (ta tb:TE):TE:=fun σ H Q=>ta σ H fun x H1=>∃ c,x=.bl c∧if c=true then tb σ H1 Q else Q (.bl false) H1
theorem Qe {op} {t:TE} (h:PE X a t):PE X (.BoolOp op [a] pos) t:=fun pins s σ H Q I hw=>BoolOp_one (h pins s σ H Q I hw)
theorem Qf (ha:PE X a ta) (hb:PE X (.BoolOp .And (b::rest) pos) tb):PE X (.BoolOp .And (a::b::rest) pos) (aa4 ta tb):=by
  intro pins s σ H Q I h
  refine BoolOp_and (thn (ha pins s σ H _ I h) fun v s1 ⟨x,H1,I1,r1,q1⟩=>?_)
  obtain ⟨c,rfl,q1⟩:=q1
  cases r1
  refine wpAny_truthy_bool ?_
  cases c with
  | true=>exact hb pins s1 σ H1 Q I1 q1
  | false=>exact ⟨.bl false,H1,I1,rfl,q1⟩
def tIf (t:TT) (ta tb:TE):TE:=fun σ H Q=>t σ H fun c H1=>if c=true then ta σ H1 Q else tb σ H1 Q
theorem AU {c:Expr} (hc:PT X c tA) (ha:PE X a ta) (hb:PE X b tb):PE X (.IfExp c a b pos) (tIf tA ta tb):=by
  intro pins s σ H Q I h
  refine wpAny_IfExp (thn (hc pins s σ H _ I h) fun d s1 ⟨H1,I1,q1⟩=>?_)
  cases d with
  | true=>exact ha pins s1 σ H1 Q I1 q1
  | false=>exact hb pins s1 σ H1 Q I1 q1
end
end L2
namespace L2
open PySem PySem.Spec PyProof.Rows
def SqL (K:W.Frag) (H:Hp) (a:Addr) (xs:List V):Prop :=
  Rd H a (.lst xs) ∨
    ∃ (o:Obj) (its:Array Value) (n:Nat),K.lookup a=some o∧o.cls=.type "list" ∧ o.dict=none∧o.data=.seq its n∧its.size≤sizeLine∧Vals xs its.toList
def SqT (K:W.Frag) (H:Hp) (a:Addr) (xs:List V):Prop :=
  Rd H a (.tup xs) ∨
    ∃ (o:Obj) (its:Array Value) (n:Nat),K.lookup a=some o∧o.cls=.type "tuple" ∧ o.data=.seq its n∧its.size≤sizeLine∧Vals xs its.toList
def acZ:Value→Option V
  | .none=>some .non
  | .bool b=>some (.bl b)
  | .int i _=>some (.int i)
  | .str x _=>some (.str x)
  | .bytes b _=>some (.byt b)
  | .float b _=>some (.flt b)
  | .ref a=>some (.ref a)
  | .type n=>some (.ty n)
  | _=>none
theorem RelV.abs {x:V} {u:Value} (r:RelV x u):acZ u=some x:=by
  cases x with
  | non=>cases r;rfl
  | bl _=>cases r;rfl
  | int _=>obtain ⟨t,rfl⟩:=r;rfl
  | str _=>obtain ⟨t,rfl⟩:=r;rfl
  | byt _=>obtain ⟨t,rfl⟩:=r;rfl
  | flt _=>obtain ⟨t,rfl⟩:=r;rfl
  | ref _=>cases r;rfl
  | ty _=>cases r;rfl
theorem RelV.inj {x y:V} {u:Value} (r:RelV x u) (q:RelV y u):x=y:=Option.some.inj (r.abs.symm.trans q.abs)
theorem Vals.inj:∀ {xs ys:List V} {us:List Value},Vals xs us→Vals ys us→xs=ys
  | _,_,_,.nil,.nil=>rfl
  | _,_,_,.cons r t,.cons r' t'=>by rw [r.inj r',Vals.inj t t']
section
variable {X:Cx} {pins:List (Addr×Obj)} {σ:St} {H:Hp} {s:Shared} {a:Addr} {xs ys:List V}
theorem SqL.of {K:W.Frag} (h:H a=some (.lst xs)):SqL K H a xs:=.inl (.inl h)
theorem SqT.of {K:W.Frag} (h:H a=some (.tup xs)):SqT K H a xs:=.inl (.inl h)
theorem Inv.list (I:Inv X pins σ H s) (h:SqL X.K H a xs):∃ its:List Value,Vals xs its∧PlainL s.heap a its.toArray∧xs.length≤sizeLine:=by
  rcases h with h|⟨o,its,n,hk,hc,hd,hs,hz,r⟩
  · obtain ⟨z,its,n,r,e⟩:=h.ok I.hok
    exact ⟨its,r,⟨_,n,e,rfl,rfl,rfl⟩,z⟩
  · refine ⟨its.toList,r,⟨o,n,I.kIn a o hk,hc,hd,by simpa using hs⟩,?_⟩
    have e:=r.length
    simp only [Array.length_toList] at e
    omega
theorem Inv.tuple (I:Inv X pins σ H s) (h:SqT X.K H a xs):∃ its:List Value,Vals xs its∧IsTup s.heap a its.toArray∧xs.length≤sizeLine:=by
  rcases h with h|⟨o,its,n,hk,hc,hs,hz,r⟩
  · obtain ⟨z,its,r,p⟩:=h.ok I.hok
    exact ⟨its,r,p,z⟩
  · refine ⟨its.toList,r,⟨o,I.kIn a o hk,hc,n,by simpa using hs⟩,?_⟩
    have e:=r.length
    simp only [Array.length_toList] at e
    omega
theorem Inv.K8 (I:Inv X pins σ H s) (h:SqL X.K H a xs) (h':SqL X.K H a ys):xs=ys:=by
  obtain ⟨its,r,⟨o,n,e,_,_,d⟩,_⟩:=I.list h
  obtain ⟨GX,r',⟨o',n',e',_,_,d'⟩,_⟩:=I.list h'
  rw [e] at e';cases e'
  rw [d] at d'
  injection d' with d1 _
  have:its=GX:=by simpa using congrArg Array.toList d1
  subst this
  exact r.inj r'
end
abbrev Cx.Jd (X:Cx) (E:Value→Shared→Prop):Cx:={X with xe:=E}
abbrev Cx.nox (X:Cx):Cx:=X.Jd fun _ _=>False
theorem Cx.Ok.Jd {X:Cx} (ok:X.Ok) (E:Value→Shared→Prop):(X.Jd E).Ok :=
  ⟨ok.mod,ok.kind,ok.glob,ok.blt,ok.above,ok.inj,ok.has,ok.cab,ok.hd,ok.frames,ok.stk,ok.exf,ok.bs,ok.bsz,ok.LY,ok.Nf,ok.Bf,ok.frf⟩
theorem Cx.Ok.sL {X:Cx} {E:Value→Shared→Prop} (ok:(X.Jd E).Ok):X.Ok :=
  ⟨ok.mod,ok.kind,ok.glob,ok.blt,ok.above,ok.inj,ok.has,ok.cab,ok.hd,ok.frames,ok.stk,ok.exf,ok.bs,ok.bsz,ok.LY,ok.Nf,ok.Bf,ok.frf⟩
section
variable {X:Cx} {pins:List (Addr×Obj)} {σ:St} {H:Hp} {s:Shared} {E:Value→Shared→Prop}
theorem Inv.Jd (I:Inv X pins σ H s) (E:Value→Shared→Prop):Inv (X.Jd E) pins σ H s:=⟨I.ok.Jd E,I.os,I.bare,I.base,I.loc,I.cell,I.free,I.mj,I.pin,I.hok,I.len⟩
theorem Inv.sL (I:Inv (X.Jd E) pins σ H s):Inv X pins σ H s:=⟨I.ok.sL,I.os,I.bare,I.base,I.loc,I.cell,I.free,I.mj,I.pin,I.hok,I.len⟩
theorem SP.sL {D:Ends} {f:Flow} {s':Shared} (h:SP (X.Jd E) pins D f s'):SP X pins D f s':=by
  cases f with
  | next=>obtain ⟨σ',H',I,q⟩:=h;exact ⟨σ',H',I.sL,q⟩
  | brk=>obtain ⟨σ',H',I,q⟩:=h;exact ⟨σ',H',I.sL,q⟩
  | cont=>obtain ⟨σ',H',I,q⟩:=h;exact ⟨σ',H',I.sL,q⟩
  | ret u=>obtain ⟨v,σ',H',I,r,q⟩:=h;exact ⟨v,σ',H',I.sL,r,q⟩
theorem PSs.nox {st:List Stmt} {t:TS} (h:PSs X.nox st t):PSs X st t:=fun pins s σ H D I hw =>
  wpAny_mono (h pins s σ H D (I.Jd _) hw) (fun _ _ q=>q.sL) fun _ _ z=>False.elim z
end
section
variable {X:Cx} {st:Stmt} {rest:List Stmt} {t u:TS} {e:Expr} {te:TE} {pos:Pos}
def aa5:TS:=fun D σ H=>D.nx σ H
def Je (t u:TS):TS:=fun D σ H=>t {D with nx:=u D} σ H
theorem bC:PSs X [] aa5:=fun _ _ σ H _ I h=>wpAny_execs_nil ⟨σ,H,I,h⟩
theorem ao (h1:PS X st t) (h2:PSs X rest u):PSs X (st::rest) (Je t u):=by
  intro pins s σ H D I h
  refine wpAny_execs_cons (thn (h1 pins s σ H {D with nx:=u D} I h) fun f s1 q=>?_)
  cases f with
  | next =>
    obtain ⟨σ',H',I',q⟩:=q
    exact h2 pins s1 σ' H' D I' q
  | ret v=>exact q
  | brk=>exact q
  | cont=>exact q
theorem ai (h1:PS X st t):PSs X [st] t:=by
  intro pins s σ H D I h
  refine wpAny_execs_cons (thn (h1 pins s σ H D I h) fun f s1 q=>?_)
  cases f with
  | next=>exact wpAny_execs_nil q
  | ret v=>exact q
  | brk=>exact q
  | cont=>exact q
theorem Inv.quiet {pins:List (Addr×Obj)} {σ:St} {H:Hp} {s:Shared} (I:Inv X pins σ H s):interactive X.env=false:=by simp [interactive,I.ok.kind]
def aa6 (te:TE):TS:=fun D σ H=>te σ H fun _ H1=>D.nx σ H1
theorem aH (he:PE X e te) (hs:swapsWith e none pos.line X.env=pure false:=by rfl):PS X (.Expr e pos) (aa6 te):=by
  intro pins s σ H D I h
  exact wpAny_Expr_any (thn (he pins s σ H _ I h) fun v s1 ⟨x,H1,I1,r1,q1⟩=>⟨σ,H1,I1,q1⟩) I.quiet hs
def ac0 (te:TE):TS:=fun D σ H=>te σ H D.rt
theorem aP (he:PE X e te):PS X (.Return (some e) pos) (ac0 te):=by
  intro pins s σ H D I h
  exact wpAny_Return_some (thn (he pins s σ H _ I h) fun v s1 ⟨x,H1,I1,r1,q1⟩=>⟨x,σ,H1,I1,r1,q1⟩)
def abX (c:TT) (t u:TS):TS:=fun D σ H=>c σ H fun b H1=>if b=true then t D σ H1 else u D σ H1
theorem di {c:Expr} {a b:List Stmt} {tc:TT} (hc:PT X c tc) (ha:PSs X a t) (hb:PSs X b u):PS X (.If c a b pos) (abX tc t u):=by
  intro pins s σ H D I h
  refine wpAny_If (thn (hc pins s σ H _ I h) fun d s1 ⟨H1,I1,q1⟩=>?_)
  cases d with
  | true=>exact ha pins s1 σ H1 D I1 q1
  | false=>exact hb pins s1 σ H1 D I1 q1
end
abbrev TG:=V→St→Hp→(St→Hp→Prop)→Prop
abbrev TGs:=List V→St→Hp→(St→Hp→Prop)→Prop
def PG (X:Cx) (target:Expr) (t:TG):Prop :=
  ∀ (pins:List (Addr×Obj)) (s:Shared) (σ:St) (H:Hp) (v:V) (u:Value) (Q:St→Hp→Prop),Inv X pins σ H s→RelV v u→t v σ H Q →
    wpAny (model X.prog X.w) X.A (assign target X.env u) (fun _ s'=>∃ σ' H',Inv X pins σ' H' s'∧Q σ' H') X.xe s
def PGs (X:Cx) (ts:List Expr) (t:TGs):Prop :=
  ∀ (pins:List (Addr×Obj)) (s:Shared) (σ:St) (H:Hp) (vs:List V) (us:List Value) (Q:St→Hp→Prop),Inv X pins σ H s→Vals vs us→t vs σ H Q →
    wpAny (model X.prog X.w) X.A (assignInOrder ((assignEach ts X.env).map (·.2)) us) (fun _ s'=>∃ σ' H',Inv X pins σ' H' s'∧Q σ' H') X.xe s
abbrev YB:=V→V→V→Hp→(Hp→Prop)→Prop
def abY (X:Cx) (t:YB):Prop :=
  ∀ (pins:List (Addr×Obj)) (s:Shared) (σ:St) (H:Hp) (o i v:V) (ov iv u:Value) (Q:Hp→Prop),Inv X pins σ H s→RelV o ov→RelV i iv→RelV v u→t o i v H Q →
    wpAny (model X.prog X.w) X.A (setItem ov iv u) (fun _ s'=>∃ H',Inv X pins σ H' s'∧Q H') X.xe s
abbrev TIp:=V→V→Hp→VK→Prop
def PIp (X:Cx) (op:Operator) (t:TIp):Prop :=
  ∀ (pins:List (Addr×Obj)) (s:Shared) (σ:St) (H:Hp) (x y:V) (v u:Value) (Q:VK),Inv X pins σ H s→RelV x v→RelV y u→t x y H Q →
    wpAny (model X.prog X.w) X.A (inplaceOp op v u) (EP X pins σ Q) X.xe s
section
variable {X:Cx} {pos:Pos}
def qh (i:Nat):TG:=fun v σ H Q=>Q (σ.set i (some v)) H
theorem fH {i:Nat} {x:Str} (hN:X.N.Nodup) (hi:X.N[i]?=some x) (hx:Loc X.env.scope x) (hf:X.fn x=true∨X.env.scope.names.lookup x=some .local:=by first|exact .inl rfl|exact .inr rfl|assumption):PG X (.Name x pos) (qh i):=by
  intro pins s σ H v u Q I r h
  exact wpAny_assign_Name (AS I hN hi hx r (fun s' I'=>⟨_,H,I',h⟩) hf)
def ac1:TGs:=fun vs σ H Q=>vs=[]∧Q σ H
def aa7 (t:TG) (u:TGs):TGs:=fun vs σ H Q=>∃ v r,vs=v::r∧t v σ H fun σ' H'=>u r σ' H' Q
theorem Jf:PGs X [] ac1:=by
  intro pins s σ H vs us Q I r h
  obtain ⟨e,h⟩:=h
  subst e
  cases r
  exact assignInOrder_nil ⟨σ,H,I,h⟩
theorem qF {e:Expr} {es:List Expr} {t:TG} {u:TGs} (h1:PG X e t) (h2:PGs X es u)
    (hs:(assignEach (e::es) X.env).map (·.2)=assign e X.env::(assignEach es X.env).map (·.2):=by rfl):PGs X (e::es) (aa7 t u):=by
  intro pins s σ H vs us Q I r h
  obtain ⟨v,vr,e1,h⟩:=h
  subst e1
  cases r with
  | cons r rr =>
    rw [hs]
    refine assignInOrder_cons (thn (h1 pins s σ H _ _ _ I r h) fun _ s1 ⟨σ1,H1,I1,q1⟩=>?_)
    exact h2 pins s1 σ1 H1 _ _ Q I1 rr q1
def ac2 (K:W.Frag) (n:Nat) (t:TGs):TG:=fun v σ H Q=>∃ a xs,v=.ref a∧SqT K H a xs∧xs.length=n∧t xs σ H Q
theorem MX {es:List Expr} {k:Nat} {t:TGs} {n:Nat} (hc:X.calm=true) (h:PGs X es t)
    (hn:(assignEach es X.env).length=n:=by rfl) (hst:(assignEach es X.env).findIdx? (·.1)=none:=by rfl):PG X (.Tuple es k pos) (ac2 X.K n t):=by
  intro pins s σ H v u Q I r hw
  obtain ⟨a,xs,e1,hq,hl,hw⟩:=hw
  subst e1
  cases r
  obtain ⟨its,rv,ht,hz⟩:=I.tuple hq
  refine assign_Tuple_tuple (I.ok.hd hc) ht (by simp [hn,←hl,rv.length]) hst fun h' hx=>?_
  have I1:Inv X pins σ H {s with heap:=h'}:=I.kept (t':=s.toks) fun b o e=>hx b o (Nat.ne_of_lt (Heap.lt_size e)) e
  exact h pins _ σ H xs _ Q I1 (by simpa using rv) hw
def ac3 (to ti:TE) (t:YB):TG:=fun v σ H Q=>to σ H fun o H1=>ti σ H1 fun i H2=>t o i v H2 fun H3=>Q σ H3
theorem F7 {o i:Expr} {to ti:TE} {t:YB} (ho:PE X o to) (hi:PE X i ti) (hs:abY X t)
    (ha:∀ v,assign (.Subscript o i pos) X.env v=(do
      let ov ←holding [v] (eval o X.env)
      let iv ←holding [v,ov] (eval i X.env)
      standAt pos
      holding [v,ov,iv] (setItem ov iv v)
      release [v,ov,iv] []):=by intro _;rfl):PG X (.Subscript o i pos) (ac3 to ti t):=by
  intro pins s σ H v u Q I r h
  rw [ha]
  refine wpAny_bind (wpAny_holding (thn (ho pins s σ H _ I h) fun ov s1 ⟨x,H1,I1,r1,q1⟩=>?_))
  refine wpAny_bind (wpAny_holding (thn (hi pins s1 σ H1 _ I1 q1) fun iv s2 ⟨y,H2,I2,r2,q2⟩=>?_))
  refine wpAny_bind (wpAny_standAt (wpAny_bind (wpAny_holding (thn (hs pins s2 σ H2 x y v ov iv u _ I2 r1 r2 r q2) fun _ s3 ⟨H3,I3,q3⟩=>?_))))
  exact wpAny_release ⟨σ,H3,I3,q3⟩
def O3 (te:TE) (g:TG):TS:=fun D σ H=>te σ H fun x H1=>g x σ H1 D.nx
theorem F8 {tg e:Expr} {te:TE} {g:TG} (he:PE X e te) (hg:PG X tg g) (hs:swapsWithSole [tg] e pos.line X.env=pure false:=by rfl) (hw:swappedStores [tg] e X.env=pure none:=by rfl)
    (h1:(assignEach [tg] X.env).map (·.2)=[assign tg X.env]:=by rfl):PS X (.Assign [tg] e pos) (O3 te g):=by
  intro pins s σ H D I h
  refine wpAny_Assign_stores (thn (he pins s σ H _ I h) fun v s1 ⟨x,H1,I1,r1,q1⟩=>?_) hs hw
  rw [h1]
  exact thn (hg pins s1 σ H1 x v _ I1 r1 q1) fun _ s2 q=>q
theorem bN {i:Nat} {x:Str} {e:Expr} {te:TE} {pos':Pos} (hN:X.N.Nodup) (hi:X.N[i]?=some x) (hx:Loc X.env.scope x) (he:PE X e te) (hs:swapsWith e (some (.Name x pos')) pos.line X.env=pure false:=by rfl) (hf:X.fn x=true∨X.env.scope.names.lookup x=some .local:=by first|exact .inl rfl|exact .inr rfl|assumption) :
    PS X (.Assign [.Name x pos'] e pos) (O3 te (qh i)):=by
  intro pins s σ H D I h
  refine wpAny_Assign_Name (thn (he pins s σ H _ I h) fun v s1 ⟨y,H1,I1,r1,q1⟩=>?_) hs
  exact AS I1 hN hi hx r1 (fun s2 I2=>⟨_,H1,I2,q1⟩) hf
def ac4 (i:Nat) (te:TE) (ti:TIp):TS:=fun D σ H=>∃ x,σ[i]?=some (some x)∧te σ H fun y H1=>ti x y H1 fun z H2=>D.nx (σ.set i (some z)) H2
theorem XQ {i:Nat} {x:Str} {e:Expr} {te:TE} {op:Operator} {ti:TIp} {pos':Pos} (hN:X.N.Nodup) (hi:X.N[i]?=some x) (hx:Loc X.env.scope x) (he:PE X e te) (ho:PIp X op ti) (hf:X.fn x=true∨X.env.scope.names.lookup x=some .local:=by first|exact .inl rfl|exact .inr rfl|assumption) :
    PS X (.AugAssign (.Name x pos') op e pos) (ac4 i te ti):=by
  intro pins s σ H D I h
  obtain ⟨v,e1,h⟩:=h
  obtain ⟨m,hn,hl⟩:=I.loc
  have vis:Vis X.env.scope x:=by rcases hx with k|k;exact .inl k;exact .inr (.inl k)
  obtain ⟨u,r,l⟩:=hl i x v hi e1 vis
  refine wpAny_AugAssign_Name ?_
  have go:wpAny (model X.prog X.w) X.A (eval e X.env) (fun w s₂=>wpAny (model X.prog X.w) X.A (inplaceOp op u w) (fun r s₃=>wpAny (model X.prog X.w) X.A (storeName X.env x r) (fun _=>SP X pins D .next) X.xe s₃) X.xe s₂) X.xe s:=by
    refine thn (he pins s σ H _ I h) fun w s1 ⟨y,H1,I1,r1,q1⟩=>?_
    refine thn (ho pins s1 σ H1 v y u w _ I1 r r1 q1) fun z s2 ⟨zv,H2,I2,r2,q2⟩=>?_
    exact AS I2 hN hi hx r2 (fun s3 I3=>⟨_,H2,I3,q2⟩) hf
  rcases l with ⟨hk,hm⟩|⟨hk,c,hc,OR⟩
  · exact wpAny_loadName_local I.ok.kind hk hn hm go
  · rcases hk with hk|hk
    · exact wpAny_loadName_cell I.ok.kind hk hc OR go
    · rcases hx with k|k
      · have:X.env.scope.names.lookup x=some .free:=hk
        rw [k] at this;cases this
      · have:X.env.scope.names.lookup x=some .free:=hk
        rw [k] at this;cases this
def ipI (f:Int→Int→Int):TIp:=fun x y H Q=>∃ i j,x=.int i∧y=.int j∧Q (.int (f i j)) H
theorem XR:PIp X .Add (ipI fun i j=>i+j):=by
  intro pins s σ H x y v u Q I r1 r2 h
  obtain ⟨i,j,e1,e2,q⟩:=h
  subst e1;subst e2
  obtain ⟨t,rfl⟩:=r1
  obtain ⟨t',rfl⟩:=r2
  exact iadd_int ⟨.int _,H,I.tok _,⟨_,rfl⟩,q⟩
end
section
variable {X:Cx} {pos:Pos}
def XS (c:TT) (tb:TS):TS:=fun D σ H=>∃ W:Nat→St→Hp→Prop,(∃ m,W m σ H)∧∀ m σ H,W m σ H →
  c σ H fun b H1=>if b=true then ∃ N:St→Hp→Prop,(∀ σ' H',N σ' H'→∃ m',m'<m∧W m' σ' H')∧tb {D with nx:=N,ct:=N,bk:=D.nx} σ H1 else D.nx σ H1
theorem Ph {c:Expr} {body:List Stmt} {tc:TT} {tb:TS} (hp:PassesOwn (model X.prog X.w) X.A X.env X.xe) (hc:PT X c tc) (hb:PSs X body tb):PS X (.While c body [] pos) (XS tc tb):=by
  intro pins s σ H D I h
  obtain ⟨W,⟨m0,w0⟩,turn⟩:=h
  refine wpAny_While (codeAny_whileLoop (fun n s'=>∃ σ' H',Inv X pins σ' H' s'∧W n σ' H') ?_ m0 ⟨σ,H,I,w0⟩)
  rintro n s1 ⟨σ1,H1,I1,w1⟩
  refine wpAny_passesOwn hp (thn (hc pins s1 σ1 H1 _ I1 (turn n σ1 H1 w1)) fun b s2 ⟨H2,I2,q2⟩=>?_)
  cases b with
  | true =>
    obtain ⟨N,hN,q2⟩:=q2
    rw [if_pos rfl]
    refine wpAny_passesOwn hp (thn (hb pins s2 σ1 H2 _ I2 q2) fun f s3 q3=>?_)
    cases f with
    | next =>
      obtain ⟨σ3,H3,I3,n3⟩:=q3
      obtain ⟨m',hm,w3⟩:=hN σ3 H3 n3
      exact ⟨m',hm,σ3,H3,I3,w3⟩
    | cont =>
      obtain ⟨σ3,H3,I3,n3⟩:=q3
      obtain ⟨m',hm,w3⟩:=hN σ3 H3 n3
      exact ⟨m',hm,σ3,H3,I3,w3⟩
    | brk=>exact q3
    | ret v=>exact q3
  | false =>
    rw [if_neg Bool.false_ne_true]
    exact wpAny_execs_nil ⟨σ1,H2,I2,q2⟩
end
structure It where
  go:Nat→Hp→Prop
  yld:Nat→Hp→V→Hp→Prop
  stop:Nat→Hp→Prop
def Bh (X:Cx) (pins:List (Addr×Obj)) (H:Hp) (b:Addr):Prop :=
  H b=none∧b≠X.env.locals∧b∉X.fs∧(b∈X.ex∨X.s₀.heap.objs.size≤b)∧(∀ x c,X.env.cells.lookup x=some c→c≠b)∧∀ p∈X.pn++pins,p.1≠b
theorem Inv.Qg {X:Cx} {pins:List (Addr×Obj)} {σ:St} {H H':Hp} {s:Shared} {b:Addr} (I:Inv X pins σ H s) (hb:s.heap.objs.size≤b) (hn:H' b=none):Bh X pins H' b:=by
  refine ⟨hn,Nat.ne_of_gt (Nat.lt_of_lt_of_le I.lt hb),I.acV hb,.inr (Nat.le_trans I.sz hb),fun x c e z=>?_,fun p hp z=>?_⟩
  · obtain ⟨v,q⟩:=I.cell x c e
    exact absurd (Nat.lt_of_lt_of_le q.lt (by rw [z];exact hb)) (Nat.lt_irrefl _)
  · exact absurd (Nat.lt_of_lt_of_le (Heap.lt_size (I.pin p hp).1) (by rw [z];exact hb)) (Nat.lt_irrefl _)
structure Turn (P:Program) (w:World) (K:W.Frag) (tg:Expr) (J:It) (fp:List Addr) (it:Addr) (tn:Nat→Heap→Prop):Prop where
  mem:it∈fp
  obj:∀ i h,tn i h→∀ b∈fp,∃ o,h.get? b=some o∧∀ v,o.data≠.cell v
  keep:∀ i h h',tn i h→(∀ b∈fp,∀ o,h.get? b=some o→h'.get? b=some o)→tn i h'
  item:∀ (X:Cx),X.prog=P→X.w=w→X.K=K→X.calm=true→∀ (i:Nat) (pins:List (Addr×Obj)) (s:Shared) (σ:St) (H:Hp) (E:Value→Shared→Prop),Inv X pins σ H s→(∀ b∈fp,Bh X pins H b)→tn i s.heap→J.go i H →
    wpAny (model P w) X.A (pyNext (.ref it)) (fun r s1=>∃ u,r=some u ∧
      wpAny (model P w) X.A (letOwnedTupleGo tg (.ref it) u) (fun _ s2=>∃ x H',Inv X pins σ H' s2∧RelV x u∧J.yld i H x H'∧tn (i+1) s2.heap∧∀ b∈fp,H' b=none) E s1) E s
  done:∀ (X:Cx),X.prog=P→X.w=w→X.K=K→X.calm=true→∀ (i:Nat) (pins:List (Addr×Obj)) (s:Shared) (σ:St) (H:Hp) (E:Value→Shared→Prop),Inv X pins σ H s→(∀ b∈fp,Bh X pins H b)→tn i s.heap→J.stop i H →
    wpAny (model P w) X.A (pyNext (.ref it)) (fun r s1=>r=none∧Inv X pins σ H s1) E s
  self:∀ (A:Around) (i:Nat) (s:Shared) (Q:Value→Shared→Prop) (E:Value→Shared→Prop),tn i s.heap→Q (.ref it) s→wpAny (model P w) A (pyIter (.ref it)) Q E s
abbrev TI:=St→Hp→(It→Hp→Prop)→Prop
def PIE (X:Cx) (pins:List (Addr×Obj)) (σ:St) (tg:Expr) (R:It→Hp→Prop) (itv:Value) (s2:Shared):Prop :=
  ∃ (it:Addr) (fp:List Addr) (tn:Nat→Heap→Prop) (J:It) (H':Hp),itv=.ref it∧Inv X pins σ H' s2∧Turn X.prog X.w X.K tg J fp it tn∧tn 0 s2.heap∧(∀ b∈fp,Bh X pins H' b)∧R J H'
def PI (X:Cx) (tg iter:Expr) (wi:TI):Prop :=
  ∀ (pins:List (Addr×Obj)) (s:Shared) (σ:St) (H:Hp) (R:It→Hp→Prop),Inv X pins σ H s→wi σ H R →
    wpAny (model X.prog X.w) X.A (eval iter X.env) (fun v s1=>wpAny (model X.prog X.w) X.A (pyIter v) (PIE X pins σ tg R) X.xe s1) X.xe s
theorem UM {M:Model} {A:Around} {E:Value→Shared→Prop} {s:Shared} {tg:Expr} {it:Addr} {u:Value} {o:Obj} {n:String} {vs:Array Value} {Q:Unit→Shared→Prop} (ho:s.heap.get? it=some o) (hc:o.cls=.type n) (hd:o.data=.fields vs)
    (hn:["enumerate", "zip", "dict_itemiterator", "dict_reverseitemiterator", "odict_iterator", "itertools.zip_longest", "itertools.pairwise"].contains n=false) (hQ:Q () s):wpAny M A (letOwnedTupleGo tg (.ref it) u) Q E s:=by
  unfold letOwnedTupleGo
  cases tg<;>first
    | exact wpAny_pure hQ
    | (cases u<;>first
        | exact wpAny_pure hQ
        | (refine wpAny_bind (wpAny_load ho ?_)
           rw [hc,hd]
           show wpAny M A (if (["enumerate", "zip", "dict_itemiterator", "dict_reverseitemiterator", "odict_iterator", "itertools.zip_longest", "itertools.pairwise"].contains n&&vs[0]? == some (rawInt _))=true then _ else _) Q E s
           rw [if_neg (by intro h;rw [hn,Bool.false_and] at h;cases h)]
           exact wpAny_pure hQ))
def Itl (K:W.Frag) (a:Addr):It :=
  ⟨fun i H=>∃ xs x,SqL K H a xs∧xs[i]?=some x,fun i H x H'=>H'=H∧∀ xs,SqL K H a xs→xs[i]?=some x,fun i H=>∃ xs,SqL K H a xs∧xs.length≤i⟩
def Itr (lo:Int) (n:Nat):It:=⟨fun i _=>i<n,fun i H x H'=>H'=H∧x=.int (lo+i),fun i _=>n≤i⟩
theorem Oa {P:Program} {w:World} {K:W.Frag} {tg:Expr} (a it:Addr):Turn P w K tg (Itl K a) [it] it (fun i h=>h.IsListIter it a i) where
  mem:=by simp
  obj:=fun i h st b hb=>by
    have e:b=it:=by simpa using hb
    subst e
    obtain ⟨o,e,c,d⟩:=st
    exact ⟨o,e,fun v z=>by rw [d] at z;cases z⟩
  keep:=fun i h h' st k=>st.at fun o e=>k it (by simp) o e
  item:=by
    intro X hP hw hK hc i pins s σ H E I hf st hg
    subst hP hw hK
    obtain ⟨xs,x,hq,hx⟩:=hg
    obtain ⟨its,rv,p,hz⟩:=I.list hq
    obtain ⟨u,hu,ru⟩:=rv.get hx
    obtain ⟨f0,f1,f2,f3,f4,f5⟩:=hf it (by simp)
    refine wpAny_pyNext_list_item st p.isList (x:=u) (by simpa using hu) fun h' st' sb=>?_
    have I1:Inv X pins σ H {s with heap:=h'}:=I.turned (t':=s.toks) (fun b o hb e=>(sb.2 b hb).trans e) f0 f1 f3 f4 f5
    obtain ⟨o,e,c,d⟩:=id st'
    exact ⟨u,rfl,UM (s:={s with heap:=h'}) e c d (by decide) ⟨x,H,I1,ru,⟨rfl,fun ys hy=>by rw [I.K8 hy hq];exact hx⟩,st',fun b hb=>(hf b hb).1⟩⟩
  done:=by
    intro X hP hw hK hc i pins s σ H E I hf st hg
    subst hP hw hK
    obtain ⟨xs,hq,hx⟩:=hg
    obtain ⟨its,rv,p,hz⟩:=I.list hq
    obtain ⟨f0,f1,f2,f3,f4,f5⟩:=hf it (by simp)
    have hl:=rv.length
    exact wpAny_pyNext_list_end (I.ok.hd hc) st p.isList (by simp;omega) fun h' eb=>⟨rfl,I.turned (t':=s.toks) (fun b o hb e=>eb b o hb e) f0 f1 f3 f4 f5⟩
  self:=fun _ _ _ _ _ st h=>wpAny_pyIter_listiter st h
theorem L0 {P:Program} {w:World} {K:W.Frag} {tg:Expr} (it:Addr) (lo:Int) (n:Nat):Turn P w K tg (Itr lo n) [it] it (fun i h=>IsRangeIter h it (lo+(i:Nat)*1) ((n:Int)-(i:Nat)) 1) where
  mem:=by simp
  obj:=fun i h st b hb=>by
    have e:b=it:=by simpa using hb
    subst e
    exact ⟨_,st,fun v z=>by
      have z':Data.fields _=Data.cell v:=z
      cases z'⟩
  keep:=fun i h h' st k=>k it (by simp) _ st
  item:=by
    intro X hP hw hK hc i pins s σ H E I hf st hg
    subst hP hw hK
    obtain ⟨f0,f1,f2,f3,f4,f5⟩:=hf it (by simp)
    have W:=Walks.range (prog:=X.prog) (w:=X.w) (I.ok.hd hc) it lo 1 n
    refine W.item i s _ _ hg st fun v h' tk hv st' kk=>?_
    obtain ⟨t,rfl⟩:=hv
    have I1:Inv X pins σ H {s with heap:=h',toks:=tk}:=I.turned (fun b o hb e=>kk b o (by simpa using hb) e) f0 f1 f3 f4 f5
    refine ⟨_,rfl,UM (s:={s with heap:=h',toks:=tk}) (n := "range_iterator") st' rfl rfl (by decide) ⟨.int (lo+i),H,I1,⟨t,?_⟩,⟨rfl,rfl⟩,st',fun b hb=>(hf b hb).1⟩⟩
    rw [Int.mul_one]
  done:=by
    intro X hP hw hK hc i pins s σ H E I hf st hg
    subst hP hw hK
    obtain ⟨f0,f1,f2,f3,f4,f5⟩:=hf it (by simp)
    exact wpAny_pyNext_range_end (I.ok.hd hc) st (by have:n≤i:=hg;omega) fun h' eb=>⟨rfl,I.turned (t':=s.toks) (fun b o hb e=>eb b o hb e) f0 f1 f3 f4 f5⟩
  self:=fun _ _ _ _ _ st h=>wpAny_pyIter_rangeiter st h
end L2
namespace L2
open PySem PySem.Spec PyProof.Rows
section
variable {X:Cx} {tg:Expr}
def aa8 (K:W.Frag) (tl:TE):TI:=fun σ H R=>tl σ H fun x H1=>∃ a,x=.ref a∧(∃ xs,SqL K H1 a xs)∧R (Itl K a) H1
theorem pS {l:Expr} {tl:TE} (hl:PE X l tl):PI X tg l (aa8 X.K tl):=by
  intro pins s σ H R I h
  refine thn (hl pins s σ H _ I h) fun v s1 ⟨x,H1,I1,r1,q1⟩=>?_
  obtain ⟨a,e,⟨xs,hq⟩,q⟩:=q1
  subst e
  cases r1
  obtain ⟨its,rv,p,hz⟩:=I1.list hq
  refine wpAny_pyIter_list p.isList ?_
  refine ⟨s1.heap.objs.size,[s1.heap.objs.size],_,_,H1,rfl,I1.kept (t':=s1.toks) fun b o e=>Heap.get?_push_of_some _ e,Oa a _,⟨_,Heap.get?_push_size _ rfl,rfl,rfl⟩,fun b hb=>?_,q⟩
  have e:b=s1.heap.objs.size:=by simpa using hb
  subst e
  exact I1.Qg (Nat.le_refl _) (I1.hok.fresh (Nat.le_refl _))
theorem Pj {pins:List (Addr×Obj)} {σ:St} {H:Hp} {s:Shared} {R:It→Hp→Prop} {E:Value→Shared→Prop} {lo hi:Int} {t u v:Tok} {tk:Nat} (I:Inv X pins σ H s) (h1:-(2 ^ 62)≤lo) (h2:lo<2 ^ 62) (h3:-(2 ^ 62)≤hi) (h4:hi<2 ^ 62)
    (q:R (Itr lo (hi-lo).toNat) H):wpAny (model X.prog X.w) X.A (pyIter (.ref s.heap.objs.size)) (PIE X pins σ tg R) E {s with heap:=s.heap.push {cls:=.type "range",data:=.fields #[.int lo t,.int hi u,.int 1 v]},toks:=tk}:=by
  refine wpAny_pyIter_range (IsRange.new ..) (small_one h1 h2 h3 h4) ?_
  have I1:Inv X pins σ H {s with heap:=s.heap.push {cls:=.type "range",data:=.fields #[.int lo t,.int hi u,.int 1 v]},toks:=tk}:=I.kept fun b o e=>Heap.get?_push_of_some _ e
  refine ⟨(s.heap.push {cls:=.type "range",data:=.fields #[.int lo t,.int hi u,.int 1 v]}).objs.size,[(s.heap.push {cls:=.type "range",data:=.fields #[.int lo t,.int hi u,.int 1 v]}).objs.size],_,_,H,rfl,
    I1.kept (t':=tk) fun b o e=>Heap.get?_push_of_some _ e,L0 _ lo (hi-lo).toNat,?_,fun b hb=>?_,q⟩
  · have e1:lo+((0:Nat):Int)*1=lo:=by simp
    have e2:(((hi-lo).toNat:Nat):Int)-((0:Nat):Int)=Builtin.Range.rangeSize lo hi 1:=by rw [rangeSize_one];split<;>omega
    show IsRangeIter _ _ (lo+((0:Nat):Int)*1) ((((hi-lo).toNat:Nat):Int)-((0:Nat):Int)) 1
    rw [e1,e2]
    exact Heap.get?_push_size _ rfl
  · have e:b=(s.heap.push {cls:=.type "range",data:=.fields #[.int lo t,.int hi u,.int 1 v]}).objs.size:=by simpa using hb
    subst e
    exact I1.Qg (Nat.le_refl _) (I1.hok.fresh (Nat.le_refl _))
def aa9 (ta:TA):TI:=fun σ H R=>ta σ H fun vs H1=>∃ j:Int,vs=[.int j]∧-(2 ^ 62)≤j∧j<2 ^ 62∧R (Itr 0 j.toNat) H1
theorem GY {a:Expr} {ta:TA} {p pos:Pos} (hg:Gl X "range") (hm:X.mg "range" = none) (ha:PA X [a] ta) (hs:starEach [a] X.env=[(false,eval a X.env)]:=by rfl):PI X tg (.Call (.Name "range" p) [a] [] pos) (aa9 ta):=by
  intro pins s σ H R I h
  refine Call_ (F6 I hg hm boot_range (PyProof.Rows.callWith_type1 (thn (ha pos pins s σ H _ I h) fun us s1 ⟨vs,H1,I1,r1,q1⟩=>?_) hs rfl))
  obtain ⟨j,e,q1,q2,q⟩:=q1
  subst e
  cases r1 with
  | cons r rr =>
    cases rr
    obtain ⟨t,rfl⟩:=r
    exact call_range_1 (Pj I1 (by omega) (by omega) q1 q2 (by simpa using q))
def ac5 (wi:TI) (g:TG) (tb:TS):TS:=fun D σ H=>wi σ H fun J H1=>∃ W:Nat→Nat→St→Hp→Prop,(∃ m,W 0 m σ H1)∧∀ i m σ H,W i m σ H →
  (J.stop i H∧D.nx σ H)∨(J.go i H∧∃ N:St→Hp→Prop,(∀ σ' H',N σ' H'→∃ m',m'<m∧W (i+1) m' σ' H')∧∀ x H',J.yld i H x H'→g x σ H' fun σ2 H2=>tb {D with nx:=N,ct:=N,bk:=D.nx} σ2 H2)
def Et (fp:List Addr) (h:Heap):List (Addr×Obj):=fp.filterMap fun b=>(h.get? b).map fun o=>(b,o)
theorem fA {fp:List Addr} {h:Heap} {b:Addr} {o:Obj} (hb:b∈fp) (e:h.get? b=some o):(b,o)∈Et fp h:=List.mem_filterMap.mpr ⟨b,hb,by rw [e];rfl⟩
theorem Ob {fp:List Addr} {h:Heap} {p:Addr×Obj} (hp:p∈Et fp h):p.1∈fp∧h.get? p.1=some p.2:=by
  obtain ⟨b,hb,e⟩:=List.mem_filterMap.mp hp
  cases q:h.get? b with
  | none=>rw [q] at e;cases e
  | some o =>
    rw [q] at e
    have e':(b,o)=p:=Option.some.inj e
    subst e'
    exact ⟨hb,q⟩
theorem Inv.pinned {pins:List (Addr×Obj)} {σ:St} {H:Hp} {s:Shared} {fp:List Addr} (I:Inv X pins σ H s) (hf:∀ b∈fp,Bh X pins H b) (ho:∀ b∈fp,∃ o,s.heap.get? b=some o∧∀ v,o.data≠.cell v):Inv X (pins++Et fp s.heap) σ H s :=
  I.Ng fun p hp=>(List.mem_append.mp hp).elim (fun z=>I.pin p (List.mem_append_right _ z)) fun z=>by
    obtain ⟨hb,e⟩:=Ob z
    obtain ⟨f0,f1,f2,_⟩:=hf p.1 hb
    obtain ⟨o,e',d⟩:=ho p.1 hb
    rw [e] at e';cases e'
    exact ⟨e,f0,f1,f2,d⟩
theorem Inv.kX {pins pl:List (Addr×Obj)} {σ:St} {H:Hp} {s:Shared} (I:Inv X (pins++pl) σ H s):Inv X pins σ H s:=I.Ng fun p hp=>I.pin p (List.mem_append_right _ (List.mem_append_left _ hp))
theorem pw {iter:Expr} {body:List Stmt} {wi:TI} {g:TG} {tb:TS} {pos:Pos} (hp:PassesOwn (model X.prog X.w) X.A X.env X.xe) (hc:X.calm=true) (hi:PI X tg iter wi) (hg:PG X tg g) (hb:PSs X body tb)
    (hs:∀ x,foldedSetIterable iter X.env x=pure x:=by intro _;rfl):PS X (.For tg iter body [] pos) (ac5 wi g tb):=by
  intro pins s σ H D I h
  refine wpAny_For (thn (hi pins s σ H _ I h) fun v s1 h1=>thn h1 fun itv s2 h2=>?_) hs
  obtain ⟨it,fp,tn,J,H2,e,I2,T,st2,f2,W,⟨m0,w0⟩,turn⟩:=h2
  subst e
  have xP:∀ {H':Hp},(∀ b∈fp,H' b=none)→∀ b∈fp,Bh X pins H' b:=fun hn b hb=>⟨hn b hb,(f2 b hb).2⟩
  refine codeAny_forLoop_any (fun n s'=>∃ i σ' H',Inv X pins σ' H' s'∧tn i s'.heap∧(∀ b∈fp,H' b=none)∧W i n σ' H') ?_ m0 ⟨0,σ,H2,I2,st2,fun b hb=>(f2 b hb).1,w0⟩
  rintro n s3 ⟨i,σ3,H3,I3,st3,fr3,w3⟩
  rcases turn i n σ3 H3 w3 with ⟨stop,qn⟩|⟨go,N,hN,step⟩
  · refine wpAny_passesOwn hp (thn (T.done X rfl rfl rfl hc i pins s3 σ3 H3 X.xe I3 (xP fr3) st3 stop) fun r s4 ⟨hr,I4⟩=>?_)
    subst hr
    exact wpAny_execs_nil ⟨σ3,H3,I4,qn⟩
  · refine wpAny_passesOwn hp (thn (T.item X rfl rfl rfl hc i pins s3 σ3 H3 X.xe I3 (xP fr3) st3 go) fun r s4 ⟨u,hr,h4⟩=>?_)
    subst hr
    refine wpAny_passesOwn hp (thn h4 fun _ s5 ⟨x,H5,I5,r5,y5,st5,fr5⟩=>?_)
    have I5':=I5.pinned (xP fr5) (T.obj _ _ st5)
    refine wpAny_passesOwn hp (thn (hg _ s5 σ3 H5 x u _ I5' r5 (step x H5 y5)) fun _ s6 ⟨σ6,H6,I6,q6⟩=>?_)
    refine wpAny_passesOwn hp (thn (hb _ s6 σ6 H6 _ I6 q6) fun f s7 q7=>?_)
    have again:∀ {σ7:St} {H7:Hp},Inv X (pins++Et fp s5.heap) σ7 H7 s7→N σ7 H7→∃ m,m<n∧∃ i σ' H',Inv X pins σ' H' s7∧tn i s7.heap∧(∀ b∈fp,H' b=none)∧W i m σ' H':=fun {σ7 H7} I7 n7=>by
      obtain ⟨m',hm,w7⟩:=hN σ7 H7 n7
      refine ⟨m',hm,i+1,σ7,H7,I7.kX,T.keep _ _ _ st5 fun b hb o e=>(I7.pin (b,o) (List.mem_append_right _ (List.mem_append_right _ (fA hb e)))).1,fun b hb=>?_,w7⟩
      obtain ⟨o,e,d⟩:=T.obj _ _ st5 b hb
      exact (I7.pin (b,o) (List.mem_append_right _ (List.mem_append_right _ (fA hb e)))).2.1
    cases f with
    | next=>obtain ⟨σ7,H7,I7,n7⟩:=q7;exact again I7 n7
    | cont=>obtain ⟨σ7,H7,I7,n7⟩:=q7;exact again I7 n7
    | brk=>obtain ⟨σ7,H7,I7,q7⟩:=q7;exact ⟨σ7,H7,I7.kX,q7⟩
    | ret v=>obtain ⟨x7,σ7,H7,I7,r7,q7⟩:=q7;exact ⟨x7,σ7,H7,I7.kX,r7,q7⟩
end
theorem K9 {K:W.Frag} {a:Addr} {xs:List V} {g:TG} {tb:TS} {D:Ends} {σ:St} {H:Hp} (Pv:Nat→St→Hp→Prop) (h0:Pv 0 σ H) (hl:∀ i σ H,i≤xs.length→Pv i σ H→SqL K H a xs)
    (hs:∀ i x σ H,xs[i]?=some x→Pv i σ H→g x σ H fun σ2 H2=>tb {D with nx:=Pv (i+1),ct:=Pv (i+1),bk:=D.nx} σ2 H2) (hd:∀ σ H,Pv xs.length σ H→D.nx σ H) :
    ∃ W:Nat→Nat→St→Hp→Prop,(∃ m,W 0 m σ H)∧∀ i m σ H,W i m σ H →
      ((Itl K a).stop i H∧D.nx σ H)∨((Itl K a).go i H∧∃ N:St→Hp→Prop,(∀ σ' H',N σ' H'→∃ m',m'<m∧W (i+1) m' σ' H')∧∀ x H',(Itl K a).yld i H x H'→g x σ H' fun σ2 H2=>tb {D with nx:=N,ct:=N,bk:=D.nx} σ2 H2):=by
  refine ⟨fun i m σ H=>m=xs.length-i∧i≤xs.length∧Pv i σ H,⟨xs.length,by simp,Nat.zero_le _,h0⟩,?_⟩
  rintro i m σ H ⟨rfl,hi,p⟩
  have q:=hl i σ H hi p
  by_cases hlt:i<xs.length
  · refine .inr ⟨⟨xs,xs[i],q,by simp [hlt]⟩,Pv (i+1),fun σ' H' p'=>⟨xs.length-(i+1),by omega,rfl,hlt,p'⟩,fun x H' y=>?_⟩
    obtain ⟨e,y⟩:=y
    subst e
    exact hs i x σ _ (y xs q) p
  · have e:i=xs.length:=by omega
    subst e
    exact .inl ⟨⟨xs,q,Nat.le_refl _⟩,hd σ H p⟩
theorem GZ {lo:Int} {n:Nat} {g:TG} {tb:TS} {D:Ends} {σ:St} {H:Hp} (Pv:Nat→St→Hp→Prop) (h0:Pv 0 σ H)
    (hs:∀ i σ H,i<n→Pv i σ H→g (.int (lo+i)) σ H fun σ2 H2=>tb {D with nx:=Pv (i+1),ct:=Pv (i+1),bk:=D.nx} σ2 H2) (hd:∀ σ H,Pv n σ H→D.nx σ H) :
    ∃ W:Nat→Nat→St→Hp→Prop,(∃ m,W 0 m σ H)∧∀ i m σ H,W i m σ H →
      ((Itr lo n).stop i H∧D.nx σ H)∨((Itr lo n).go i H∧∃ N:St→Hp→Prop,(∀ σ' H',N σ' H'→∃ m',m'<m∧W (i+1) m' σ' H')∧∀ x H',(Itr lo n).yld i H x H'→g x σ H' fun σ2 H2=>tb {D with nx:=N,ct:=N,bk:=D.nx} σ2 H2):=by
  refine ⟨fun i m σ H=>m=n-i∧i≤n∧Pv i σ H,⟨n,by simp,Nat.zero_le _,h0⟩,?_⟩
  rintro i m σ H ⟨rfl,hi,p⟩
  by_cases hlt:i<n
  · refine .inr ⟨hlt,Pv (i+1),fun σ' H' p'=>⟨n-(i+1),by omega,rfl,hlt,p'⟩,fun x H' y=>?_⟩
    obtain ⟨e,y⟩:=y
    subst e y
    exact hs i σ _ hlt p
  · have e:i=n:=by omega
    subst e
    exact .inl ⟨Nat.le_refl _,hd σ H p⟩
end L2
namespace L2
open PySem PySem.Spec PyProof.Rows
abbrev R2:=V→V→Hp→VK→Prop
def OpR (X:Cx) (f:Value→Value→Sem Value) (r:R2):Prop :=
  ∀ (pins:List (Addr×Obj)) (s:Shared) (σ:St) (H:Hp) (x y:V) (v u:Value) (Q:VK),Inv X pins σ H s→RelV x v→RelV y u→r x y H Q →
    wpAny (model X.prog X.w) X.A (f v u) (EP X pins σ Q) X.xe s
def xQ (X:Cx) (f:Value) (r:List V→Hp→VK→Prop):Prop :=
  ∀ (pins:List (Addr×Obj)) (s:Shared) (σ:St) (H:Hp) (xs:List V) (us:List Value) (Q:VK),Inv X pins σ H s→Vals xs us→r xs H Q →
    wpAny (model X.prog X.w) X.A (call f us) (EP X pins σ Q) X.xe s
def tOp (r:R2) (ta tb:TE):TE:=fun σ H Q=>ta σ H fun x H1=>tb σ H1 fun y H2=>r x y H2 Q
def rI (C:Int→Int→Prop) (g:Int→Int→V):R2:=fun x y H Q=>∃ i j,x=.int i∧y=.int j∧C i j∧Q (g i j) H
def rI0 (g:Int→Int→V):R2:=fun x y H Q=>∃ i j,x=.int i∧y=.int j∧Q (g i j) H
section
variable {X:Cx} {a b c:Expr} {ta tb tc:TE} {pos:Pos}
theorem YC (ha:PE X a ta) (hb:PE X b tb) {pins:List (Addr×Obj)} {s:Shared} {σ:St} {H:Hp} {R:V→V→Hp→Prop} (I:Inv X pins σ H s)
    (h:ta σ H fun x H1=>tb σ H1 fun y H2=>R x y H2) {Q:Value→Shared→Prop} {f:Value→Value→Sem Value}
    (hf:∀ v u s2 x y H2,Inv X pins σ H2 s2→RelV x v→RelV y u→R x y H2→wpAny (model X.prog X.w) X.A (f v u) Q X.xe s2) :
    wpAny (model X.prog X.w) X.A (eval a X.env) (fun v s₁=>wpAny (model X.prog X.w) X.A (eval b X.env) (fun u s₂=>wpAny (model X.prog X.w) X.A (f v u) Q X.xe s₂) X.xe s₁) X.xe s:=by
  refine thn (ha pins s σ H _ I h) fun v s1 ⟨x,H1,I1,r1,q1⟩=>?_
  refine thn (hb pins s1 σ H1 _ I1 q1) fun u s2 ⟨y,H2,I2,r2,q2⟩=>?_
  exact hf v u s2 x y H2 I2 r1 r2 q2
theorem bR {op:Operator} {r:R2} (ho:OpR X (binaryOp op) r) (ha:PE X a ta) (hb:PE X b tb):PE X (.BinOp a op b pos) (tOp r ta tb):=by
  intro pins s σ H Q I h
  exact wpAny_BinOp (YC ha hb I h fun v u s2 x y H2 I2 rx ry q=>ho pins s2 σ H2 x y v u Q I2 rx ry q)
theorem opI {f:Value→Value→Sem Value} {C:Int→Int→Prop} {g:Int→Int→Int}
    (rule:∀ (i j:Int) (t u:Tok) (s:Shared) (Q:Value→Shared→Prop) (E:Value→Shared→Prop),C i j→Q (.int (g i j) s.toks) {s with toks:=s.toks+1}→wpAny (model X.prog X.w) X.A (f (.int i t) (.int j u)) Q E s) :
    OpR X f (rI C fun i j=>.int (g i j)):=by
  intro pins s σ H x y v u Q I rx ry h
  obtain ⟨i,j,rfl,rfl,hc,q⟩:=h
  obtain ⟨t,rfl⟩:=rx
  obtain ⟨t',rfl⟩:=ry
  exact rule i j t t' s _ _ hc ⟨.int (g i j),H,I.tok _,⟨_,rfl⟩,q⟩
theorem abZ {f:Value→Value→Sem Value} {g:Int→Int→Int}
    (rule:∀ (i j:Int) (t u:Tok) (s:Shared) (Q:Value→Shared→Prop) (E:Value→Shared→Prop),Q (.int (g i j) s.toks) {s with toks:=s.toks+1}→wpAny (model X.prog X.w) X.A (f (.int i t) (.int j u)) Q E s) :
    OpR X f (rI0 fun i j=>.int (g i j)):=by
  intro pins s σ H x y v u Q I rx ry h
  obtain ⟨i,j,rfl,rfl,q⟩:=h
  obtain ⟨t,rfl⟩:=rx
  obtain ⟨t',rfl⟩:=ry
  exact rule i j t t' s _ _ ⟨.int (g i j),H,I.tok _,⟨_,rfl⟩,q⟩
theorem UN {f:Value→Value→Sem Value} {g:Int→Int→Bool}
    (rule:∀ (i j:Int) (t u:Tok) (s:Shared) (Q:Value→Shared→Prop) (E:Value→Shared→Prop),Q (.bool (g i j)) s→wpAny (model X.prog X.w) X.A (f (.int i t) (.int j u)) Q E s) :
    OpR X f (rI0 fun i j=>.bl (g i j)):=by
  intro pins s σ H x y v u Q I rx ry h
  obtain ⟨i,j,rfl,rfl,q⟩:=h
  obtain ⟨t,rfl⟩:=rx
  obtain ⟨t',rfl⟩:=ry
  exact rule i j t t' s _ _ ⟨.bl (g i j),H,I,rfl,q⟩
def ac6 (i j:Int):Prop:=0<j∧j<1073741824
def ac7 (i j:Int):Prop:=0≤j∧j≤1000000∧i.natAbs<2 ^ 64
def YD (i j:Int):Prop:=(-(2 ^ 64)<i∧i<2 ^ 64)∨(-(2 ^ 64)<j∧j<2 ^ 64)
theorem YD.ok {i j:Int} (h:YD i j):IntMulOk i j:=by
  rcases h with ⟨h1,h2⟩|⟨h1,h2⟩
  · exact .of_left (intBits_le_64 h1 h2)
  · exact .of_right (intBits_le_64 h1 h2)
theorem mP:OpR X (binaryOp .Add) (rI0 fun i j=>.int (i+j)):=abZ fun _ _ _ _ _ _ _ q=>add_int q
theorem MY:OpR X (binaryOp .Sub) (rI0 fun i j=>.int (i-j)):=abZ fun _ _ _ _ _ _ _ q=>sub_int q
theorem Jw:OpR X (binaryOp .Mult) (rI YD fun i j=>.int (i*j)):=opI fun _ _ _ _ _ _ _ hc q=>mul_int q hc.ok
theorem mF:OpR X (binaryOp .FloorDiv) (rI ac6 fun i j=>.int (i/j)):=opI fun i j _ _ _ _ _ hc q=>by
  have h1:(0:Int)<j:=hc.1
  have h2:j<1073741824:=hc.2
  exact floordiv_int (by omega) (by rw [Int.fdiv_eq_ediv_of_nonneg i (by omega)];exact q) (.inl (PyProof.noPylong_small (by omega)))
theorem iI:OpR X (binaryOp .Mod) (rI (fun _ j=>0<j) fun i j=>.int (i%j)):=opI fun i j _ _ _ _ _ hc q=>by
  have h1:(0:Int)<j:=hc
  exact mod_int' (by omega) (by rw [Int.fmod_eq_emod_of_nonneg i (by omega)];exact q)
theorem XT:OpR X (binaryOp .Pow) (rI ac7 fun i j=>.int (i ^ j.toNat)):=opI fun _ _ _ _ _ _ _ hc q=>pow_int_small hc.1 hc.2.1 hc.2.2 q
end
def YE:V→V→Bool
  | .non,.non=>true|.non,.int _=>true|.int _,.non=>true|.non,.bl _=>true|.bl _,.non=>true|.non,.str _=>true|.str _,.non=>true
  | .int _,.int _=>true|.bl _,.bl _=>true|.str _,.str _=>true|.byt _,.byt _=>true
  | .int _,.str _=>true|.str _,.int _=>true|.bl _,.str _=>true|.str _,.bl _=>true
  | _,_=>false
def rEq:R2:=fun x y H Q=>YE x y=true∧Q (.bl (decide (x=y))) H
def rNe:R2:=fun x y H Q=>YE x y=true∧Q (.bl (!decide (x=y))) H
theorem Nh {i j:Int}:decide (V.int i=V.int j)=(i == j):=by
  rw [Bool.eq_iff_iff]
  simp
theorem Qh {i j:Bool}:decide (V.bl i=V.bl j)=(i == j):=by
  rw [Bool.eq_iff_iff]
  simp
theorem Ni {i j:Str}:decide (V.str i=V.str j)=(i == j):=by
  rw [Bool.eq_iff_iff]
  simp
theorem Nj {i j:Array UInt8}:decide (V.byt i=V.byt j)=(i.toList == j.toList):=by
  rw [Bool.eq_iff_iff]
  cases i
  cases j
  simp
section
variable {X:Cx} {a b c:Expr} {ta tb tc:TE} {pos:Pos}
theorem dR {pins:List (Addr×Obj)} {σ:St} {H:Hp} {s:Shared} {Q:VK} {k k':Bool} (I:Inv X pins σ H s) (q:Q (.bl k) H) (e:k=k'):EP X pins σ Q (.bool k') s:=by
  subst e
  exact ⟨.bl k,H,I,rfl,q⟩
theorem og:OpR X (compareOp .Eq) rEq:=by
  intro pins s σ H x y v u Q I rx ry h
  obtain ⟨hs,q⟩:=h
  cases x with
  | non =>
    cases rx
    cases y with
    | non=>cases ry;exact PySem.EqNone.eq_none_none (dR I q (by simp))
    | bl j=>cases ry;exact PySem.EqNone.eq_none_bool (dR I q (by simp))
    | int j=>obtain ⟨t',rfl⟩:=ry;exact PySem.EqNone.eq_none_int (dR I q (by simp))
    | str j=>obtain ⟨t',rfl⟩:=ry;exact PySem.EqNone.eq_none_str (dR I q (by simp))
    | _=>exact absurd (show false=true from hs) Bool.false_ne_true
  | bl i =>
    cases rx
    cases y with
    | non=>cases ry;exact PySem.EqNone.eq_bool_none (dR I q (by simp))
    | bl j=>cases ry;exact eq_bool (dR I q Qh)
    | str j=>obtain ⟨t',rfl⟩:=ry;exact PySem.EqMixed.eq_bool_str (dR I q (by simp))
    | _=>exact absurd (show false=true from hs) Bool.false_ne_true
  | int i =>
    obtain ⟨t,rfl⟩:=rx
    cases y with
    | non=>cases ry;exact PySem.EqNone.eq_int_none (dR I q (by simp))
    | int j=>obtain ⟨t',rfl⟩:=ry;exact eq_int (dR I q Nh)
    | str j=>obtain ⟨t',rfl⟩:=ry;exact PySem.EqMixed.eq_int_str (dR I q (by simp))
    | _=>exact absurd (show false=true from hs) Bool.false_ne_true
  | str i =>
    obtain ⟨t,rfl⟩:=rx
    cases y with
    | non=>cases ry;exact PySem.EqNone.eq_str_none (dR I q (by simp))
    | bl j=>cases ry;exact PySem.EqMixed.eq_str_bool (dR I q (by simp))
    | int j=>obtain ⟨t',rfl⟩:=ry;exact PySem.EqMixed.eq_str_int (dR I q (by simp))
    | str j=>obtain ⟨t',rfl⟩:=ry;exact eq_str (dR I q Ni)
    | _=>exact absurd (show false=true from hs) Bool.false_ne_true
  | byt i =>
    obtain ⟨t,rfl⟩:=rx
    cases y with
    | byt j=>obtain ⟨t',rfl⟩:=ry;exact PySem.W.eq_bytes (dR I q Nj)
    | _=>exact absurd (show false=true from hs) Bool.false_ne_true
  | _=>cases y<;>exact absurd (show false=true from hs) Bool.false_ne_true
theorem L1:OpR X (compareOp .NotEq) rNe:=by
  intro pins s σ H x y v u Q I rx ry h
  obtain ⟨hs,q⟩:=h
  cases x with
  | non =>
    cases rx
    cases y with
    | non=>cases ry;exact PySem.EqNone.ne_none_none (dR I q (by simp))
    | bl j=>cases ry;exact PySem.EqNone.ne_none_bool (dR I q (by simp))
    | int j=>obtain ⟨t',rfl⟩:=ry;exact PySem.EqNone.ne_none_int (dR I q (by simp))
    | str j=>obtain ⟨t',rfl⟩:=ry;exact PySem.EqNone.ne_none_str (dR I q (by simp))
    | _=>exact absurd (show false=true from hs) Bool.false_ne_true
  | bl i =>
    cases rx
    cases y with
    | non=>cases ry;exact PySem.EqNone.ne_bool_none (dR I q (by simp))
    | bl j=>cases ry;exact ne_bool (dR I q (congrArg not Qh))
    | str j=>obtain ⟨t',rfl⟩:=ry;exact PySem.EqMixed.ne_bool_str (dR I q (by simp))
    | _=>exact absurd (show false=true from hs) Bool.false_ne_true
  | int i =>
    obtain ⟨t,rfl⟩:=rx
    cases y with
    | non=>cases ry;exact PySem.EqNone.ne_int_none (dR I q (by simp))
    | int j=>obtain ⟨t',rfl⟩:=ry;exact ne_int (dR I q (congrArg not Nh))
    | str j=>obtain ⟨t',rfl⟩:=ry;exact PySem.EqMixed.ne_int_str (dR I q (by simp))
    | _=>exact absurd (show false=true from hs) Bool.false_ne_true
  | str i =>
    obtain ⟨t,rfl⟩:=rx
    cases y with
    | non=>cases ry;exact PySem.EqNone.ne_str_none (dR I q (by simp))
    | bl j=>cases ry;exact PySem.EqMixed.ne_str_bool (dR I q (by simp))
    | int j=>obtain ⟨t',rfl⟩:=ry;exact PySem.EqMixed.ne_str_int (dR I q (by simp))
    | str j=>obtain ⟨t',rfl⟩:=ry;exact ne_str (dR I q (congrArg not Ni))
    | _=>exact absurd (show false=true from hs) Bool.false_ne_true
  | byt i =>
    obtain ⟨t,rfl⟩:=rx
    cases y with
    | byt j=>obtain ⟨t',rfl⟩:=ry;exact PySem.W.ne_bytes (dR I q (congrArg not Nj))
    | _=>exact absurd (show false=true from hs) Bool.false_ne_true
  | _=>cases y<;>exact absurd (show false=true from hs) Bool.false_ne_true
theorem Fj:OpR X (compareOp .Lt) (rI0 fun i j=>.bl (decide (i<j))):=UN fun _ _ _ _ _ _ _ q=>lt_int q
theorem DK:OpR X (compareOp .LtE) (rI0 fun i j=>.bl (decide (i≤j))):=UN fun _ _ _ _ _ _ _ q=>le_int q
theorem AV:OpR X (compareOp .Gt) (rI0 fun i j=>.bl (decide (j<i))):=UN fun _ _ _ _ _ _ _ q=>gt_int q
theorem aba:OpR X (compareOp .GtE) (rI0 fun i j=>.bl (decide (j≤i))):=UN fun _ _ _ _ _ _ _ q=>ge_int q
theorem MZ:OpR X (compareOp .Is) (fun x y H Q=>y=.non∧Q (.bl (decide (x=.non))) H):=by
  intro pins s σ H x y v u Q I rx ry h
  obtain ⟨rfl,q⟩:=h
  cases ry
  refine is_none_gen (dR I q ?_)
  cases x<;>first
    | (cases rx;rfl)
    | (obtain ⟨t,rfl⟩:=rx;rfl)
theorem Nk:OpR X (compareOp .IsNot) (fun x y H Q=>y=.non∧Q (.bl (!decide (x=.non))) H):=by
  intro pins s σ H x y v u Q I rx ry h
  obtain ⟨rfl,q⟩:=h
  cases ry
  refine isnot_none_gen (dR I q ?_)
  cases x<;>first
    | (cases rx;rfl)
    | (obtain ⟨t,rfl⟩:=rx;rfl)
theorem bJ (b:Expr) {op:CmpOp} (h:op≠.In:=by decide) (h2:op≠.NotIn:=by decide):behindInMarks op b=false:=by
  have e1:(op == CmpOp.In)=false:=by cases op<;>first|rfl|exact absurd rfl h
  have e2:(op == CmpOp.NotIn)=false:=by cases op<;>first|rfl|exact absurd rfl h2
  cases b<;>simp [behindInMarks,e1,e2]
theorem vx {op:CmpOp} {r:R2} (ho:OpR X (compareOp op) r) (ha:PE X a ta) (hb:PE X b tb) (hm:behindInMarks op b=false):PE X (.Compare a [op] [b] pos) (tOp r ta tb):=by
  intro pins s σ H Q I h
  exact wpAny_Compare1 (YC ha hb I h fun v u s2 x y H2 I2 rx ry q=>ho pins s2 σ H2 x y v u Q I2 rx ry q) hm
def UO (t:TE):TT:=fun σ H Q=>t σ H fun x H'=>∃ k,x=.bl k∧Q k H'
theorem aW {op:CmpOp} {r:R2} (ho:OpR X (compareOp op) r) (ha:PE X a ta) (hb:PE X b tb) (hm:behindInMarks op b=false):PT X (.Compare a [op] [b] pos) (UO (tOp r ta tb)):=by
  intro pins s σ H Q I h
  refine wpAny_isTrue_Compare1 (thn (ha pins s σ H _ I h) fun v s1 ⟨x,H1,I1,r1,q1⟩=>thn (hb pins s1 σ H1 _ I1 q1) fun u s2 ⟨y,H2,I2,r2,q2⟩ =>
    thn (ho pins s2 σ H2 x y v u _ I2 r1 r2 q2) fun c s3 ⟨z,H3,I3,r3,k,e,q3⟩=>?_) hm
  subst e
  cases r3
  exact wpAny_truthy_bool ⟨H3,I3,q3⟩
def XU (r r':R2) (ta tb tc:TE):TE:=fun σ H Q=>ta σ H fun x H1=>tb σ H1 fun y H2=>r x y H2 fun z H3=>∃ k,z=.bl k ∧
  (if k=true then tc σ H3 fun w' H4=>r' y w' H4 Q else Q (.bl false) H3)
theorem qG {op op':CmpOp} {r r':R2} (ho:OpR X (compareOp op) r) (ho':OpR X (compareOp op') r') (ha:PE X a ta) (hb:PE X b tb) (hc:PE X c tc)
    (hm:lastMarks [op,op'] [b,c]=false:=by with_unfolding_all rfl):PT X (.Compare a [op,op'] [b,c] pos) (UO (XU r r' ta tb tc)):=by
  intro pins s σ H Q I h
  refine isTrue_chain (thn (ha pins s σ H _ I h) fun v s1 ⟨x,H1,I1,r1,q1⟩=>test_link (thn (hb pins s1 σ H1 _ I1 q1) fun u s2 ⟨y,H2,I2,r2,q2⟩ =>
    thn (ho pins s2 σ H2 x y v u _ I2 r1 r2 q2) fun d s3 ⟨z,H3,I3,r3,k,e,q3⟩=>?_)) hm
  subst e
  cases r3
  refine wpAny_truthy_bool ?_
  cases k with
  | false =>
    obtain ⟨k',e',q'⟩:=q3
    cases e'
    exact ite_ff ⟨H3,I3,q'⟩
  | true =>
    refine ite_tt (test_last (thn (hc pins s3 σ H3 _ I3 q3) fun w' s4 ⟨z',H4,I4,r4,q4⟩=>thn (ho' pins s4 σ H4 y z' u w' _ I4 r2 r4 q4) fun d' s5 ⟨z2,H5,I5,r5,k2,e2,q5⟩=>?_))
    subst e2
    cases r5
    exact wpAny_truthy_bool ⟨H5,I5,q5⟩
theorem Jz:(sizeLine:Nat)<2 ^ 63:=by rw [sizeLine_eq];decide
theorem vals1 {x:V} {us:List Value} (r:Vals [x] us):∃ u,us=[u]∧RelV x u:=by
  cases r with
  | cons r1 r2=>cases r2;exact ⟨_,rfl,r1⟩
theorem Pk:xQ X (.builtin "abs") (fun xs H Q=>∃ i,xs=[.int i]∧Q (.int (if i<0 then -i else i)) H):=by
  intro pins s σ H xs us Q I r h
  obtain ⟨i,rfl,q⟩:=h
  obtain ⟨u,rfl,t,rfl⟩:=vals1 r
  exact call_abs_int fun u tk=>⟨.int (if i<0 then -i else i),H,I.tok _,⟨_,rfl⟩,q⟩
end
end L2
namespace L2
open PySem PySem.Spec PyProof.Rows
structure O4 (h:Heap) (x dx C:Addr) (mA:Str→Option Value):Prop where
  obj:h.get? x=some (PySem.W.instObj C dx)
  ns:h.Ns1 dx mA
  ne:dx≠x
theorem Oc {h:Heap} {dx:Addr} {mA:Str→Option Value} (n:h.Ns1 dx mA):∃ od,h.get? dx=some od∧∀ name,PySem.W.lookIn name od=some (mA name):=by
  obtain ⟨o,es,ep,ho,hd,hk,_,hm⟩:=n
  refine ⟨o,ho,fun name=>?_⟩
  have e:=hm name
  unfold nsFind findBy at e
  rw [←Array.find?_toList] at e
  unfold PySem.W.lookIn
  rw [hd]
  dsimp only
  split
  · rename_i y q
    rw [q] at e
    exact congrArg some e
  · rename_i q
    rw [q] at e
    have a:es.toList.any (·.refKey)=false:=by
      rw [List.any_eq_false]
      intro y hy
      obtain ⟨z,t,ac8⟩:=hk y (Array.mem_toList_iff.mp hy)
      simp [DictEntry.refKey,ac8]
    have a':¬es.toList.any (·.refKey)=true:=by rw [a];exact Bool.false_ne_true
    rw [if_neg a']
    exact congrArg some e
theorem O4.look {h:Heap} {x dx C:Addr} {mA:Str→Option Value} (I:O4 h x dx C mA):∃ od,PySem.W.InstAt h x (PySem.W.instObj C dx) C (some od)∧∀ name,PySem.W.lookIn name od=some (mA name) :=
  let ⟨od,ho,hl⟩:=Oc I.ns
  ⟨od,⟨I.obj,rfl,rfl,ho⟩,hl⟩
section
variable {prog:Program} {w:World} {A:Around} {E:Value→Shared→Prop} {s:Shared} {K:W.Frag} {x dx C f:Addr} {mA:Str→Option Value} {name:Str} {v:Value}
theorem get_map {expr:Bool} {Q:Value→Shared→Prop} (X:K.In s.heap) (I:O4 s.heap x dx C mA) (hg:PySem.W.plainGet K C name=true) (hh:PySem.W.hasDictIn K C=true)
    (ha:PySem.W.findIn K (.ref C) name=some none) (hv:mA name=some v) (hv':PySem.W.handedIn v=true) (h:Q v {s with toks:=s.toks+1}) :
    wpAny (model prog w) A (getAttr (.ref x) name expr) Q E s:=by
  obtain ⟨od,J,hl⟩:=I.look
  exact PySem.W.get_value X J (PySem.W.plainGet_of hg).1 (PySem.W.findObj_own hh ha rfl (by rw [hl,hv])) hv' h
theorem Pl {pl:Sem Bool} {Q:Value×List Value→Shared→Prop} (X:K.In s.heap) (I:O4 s.heap x dx C mA) (hg:PySem.W.plainGet K C name=true)
    (hf:PySem.W.findIn K (.ref C) name=some (some (.ref f))) (ht:PySem.W.isFn K (.ref f)=true) (hv:mA name=none) (h:Q (.ref f,[.ref x]) s) :
    wpAny (model prog w) A (getMethod (.ref x) name pl) Q E s:=by
  obtain ⟨od,J,hl⟩:=I.look
  exact PySem.W.method_fn X J (PySem.W.plainGet_of hg).1 (PySem.W.plainGet_of hg).2 hf (beq_iff_eq.mp ht) (by show (PySem.W.lookIn name od).map (·.isSome)=some false;rw [hl,hv];rfl) h
theorem Rq {ns:List Str} {Q:Unit→Shared→Prop} (X:K.In s.heap) (I:O4 s.heap x dx C mA)
    (hs:PySem.W.findIn K (.ref C) "__setattr__" = some (some (.builtin "object.__setattr__"))) (hp:PySem.W.plainOver K C=true) (ht:PySem.W.takerIn K C name=some none) (hh:PySem.W.hasDictIn K C=true)
    (hw:PySem.Within mA ns) (hsz:ns.length≤sizeLine)
    (h:∀ h',O4 h' x dx C (fun y=>if y=name then some v else mA y)→Heap.SameBut dx s.heap h'→Q () {s with heap:=h',toks:=s.toks+2}) :
    wpAny (model prog w) A (setAttr (.ref x) name v) Q E s:=by
  obtain ⟨od,J,hl⟩:=I.look
  refine PySem.W.set_plain X J hs (PySem.W.osa_open (s:={s with toks:=s.toks+1}) (r:=none) X J hp ht fun b=>?_)
  obtain ⟨cd,hc,hd'⟩:=PySem.W.any_some hh
  have hx:s.heap.get? x=some ⟨.ref C,some dx,.plain,#[]⟩:=I.obj
  refine wpAny_bind (wpAny_pure (wpAny_bind (wpAny_bind (wpAny_loadPart hx (wpAny_bind (PySem.W.Looks.here (s:={s with toks:=s.toks+1}) (PySem.W.looks_clsIn X hc) ?_))))))
  rw [hd']
  refine wpAny_pure (a:=some dx) (wpAny_bind (wpAny_pure (wpAny_bind ?_)))
  refine wpAny_nsSet1 (s:={s with toks:=s.toks+1}) I.ns fun h' hn2 hs2=>?_
  obtain ⟨oD,esD,epD,hoD,hdD,hcD⟩:=hn2.count (PySem.Within.cons name v hw)
  refine wpAny_bind (wpAny_lookBehind hoD (by rw [hdD];exact pastItsLine_dict (Nat.le_trans hcD (by rw [List.length_cons];omega))) ?_)
  exact wpAny_pure (h _ ⟨(hs2.2 _ (Ne.symm I.ne)).trans I.obj,hn2,I.ne⟩ hs2)
theorem Pm {R:Result→Shared→Prop} {vs:List Value} {kw:List (Str×Value)} (X:K.In s.heap) (hm:PySem.W.makesIn K C=true)
    (hi:PySem.W.findIn K (.ref C) "__init__" = some (some (.ref f))) (hf:PySem.W.typeIn K (.ref f)=some (.type "function"))
    (h:codeAny (model prog w) (A.under (.builtin "type.__call__" ⟨.ref C::vs,kw⟩)) (.call (.ref f) ⟨.ref (s.heap.objs.size+1)::vs,kw⟩) (PySem.W.InitBack (s.heap.objs.size+1) R)
      {s with heap:=(s.heap.push PySem.W.emptyDict).push (PySem.W.instObj C s.heap.objs.size)}) :
    codeAny (model prog w) A (.call (.ref C) ⟨vs,kw⟩) R s:=by
  obtain ⟨hh,g,d,t,os⟩:=s
  exact PySem.W.make_core (PySem.W.makes_of X hm) (PySem.W.looks_findIn X hi) (fun self=>PySem.W.bind_fn X self hf) (.inl rfl) h
end
def iB (f:Str) (v:V):List (Str×V)→List (Str×V)
  | []=>[(f,v)]
  | (g,x)::r=>if g=f then (g,v)::r else (g,x)::iB f v r
theorem Dq (f g:Str) (v:V):∀ fs:List (Str×V),(iB f v fs).lookup g=if g=f then some v else fs.lookup g
  | []=>by
    show List.lookup g [(f,v)]=_
    by_cases h:g=f
    · have hb:(g == f)=true:=beq_iff_eq.mpr h
      simp only [List.lookup,hb,if_pos h]
    · have hb:(g == f)=false:=beq_eq_false_iff_ne.mpr h
      simp only [List.lookup,hb,if_neg h]
  | (k,x)::r=>by
    have ih:=Dq f g v r
    rw [show iB f v ((k,x)::r)=(if k=f then (k,v)::r else (k,x)::iB f v r) from rfl]
    by_cases hk:k=f
    · rw [if_pos hk]
      by_cases h:g=k
      · have hb:(g == k)=true:=beq_iff_eq.mpr h
        simp only [List.lookup,hb,if_pos (h.trans hk)]
      · have hb:(g == k)=false:=beq_eq_false_iff_ne.mpr h
        simp only [List.lookup,hb,if_neg (fun e:g=f=>h (e.trans hk.symm))]
    · rw [if_neg hk]
      by_cases h:g=k
      · have hb:(g == k)=true:=beq_iff_eq.mpr h
        simp only [List.lookup,hb,if_neg (fun e:g=f=>hk (h.symm.trans e))]
      · have hb:(g == k)=false:=beq_eq_false_iff_ne.mpr h
        simp only [List.lookup,hb]
        exact ih
theorem Dg (f:Str) (v:V):∀ fs:List (Str×V),f∈(iB f v fs).map (·.1)∧∀ g,g∈fs.map (·.1)→g∈(iB f v fs).map (·.1)
  | []=>⟨by simp [iB],fun g h=>by simp at h⟩
  | (k,x)::r=>by
    obtain ⟨i1,i2⟩:=Dg f v r
    rw [show iB f v ((k,x)::r)=(if k=f then (k,v)::r else (k,x)::iB f v r) from rfl]
    by_cases hk:k=f
    · rw [if_pos hk]
      subst hk
      exact ⟨by simp,fun g h=>by simpa using h⟩
    · rw [if_neg hk]
      refine ⟨?_,fun g h=>?_⟩
      · rw [List.map_cons]
        exact List.mem_cons_of_mem _ i1
      · rw [List.map_cons] at h ⊢
        rcases List.mem_cons.mp h with e|e
        · exact List.mem_cons.mpr (.inl e)
        · exact List.mem_cons_of_mem _ (i2 g e)
theorem Dr (f:Str) (v:V):∀ fs:List (Str×V),(iB f v fs).length≤fs.length+1
  | []=>by simp [iB]
  | (k,x)::r=>by
    have ih:=Dr f v r
    rw [show iB f v ((k,x)::r)=(if k=f then (k,v)::r else (k,x)::iB f v r) from rfl]
    by_cases hk:k=f
    · rw [if_pos hk,List.length_cons,List.length_cons];omega
    · rw [if_neg hk,List.length_cons,List.length_cons];omega
theorem xO.some_of {v:V} {o:Option Value} (r:xO (some v) o):∃ u,o=some u∧RelV v u:=by
  cases o with
  | none=>exact (show False from r).elim
  | some u=>exact ⟨u,rfl,r⟩
theorem xO.none_of {o:Option Value} (r:xO none o):o=none:=by
  cases o with
  | none=>rfl
  | some u=>exact (show False from r).elim
theorem Od {v:V} {u:Value} (r:RelV v u):PySem.W.handedIn u=true:=by
  cases v with
  | non=>cases (show u=Value.none from r);rfl
  | bl b=>cases (show u=Value.bool b from r);rfl
  | int i=>obtain ⟨t,e⟩:=(show ∃ t,u=Value.int i t from r);cases e;rfl
  | str x=>obtain ⟨t,e⟩:=(show ∃ t,u=Value.str x t from r);cases e;rfl
  | byt b=>obtain ⟨t,e⟩:=(show ∃ t,u=Value.bytes b t from r);cases e;rfl
  | flt b=>obtain ⟨t,e⟩:=(show ∃ t,u=Value.float b t from r);cases e;rfl
  | ref a=>cases (show u=Value.ref a from r);rfl
  | ty n=>cases (show u=Value.type n from r);rfl
section
variable {P:Program} {w:World} {H H':Hp} {h h':Heap} {a C dx:Addr} {fs fs':List (Str×V)}
theorem Jg (hok:HOk P w H h) (e:H a=some (.ins C dx fs)):∃ mA,O4 h a dx C mA∧(∀ f,xO (fs.lookup f) (mA f))∧PySem.Within mA (fs.map (·.1))∧fs.length≤1000∧H dx=some (.own a):=by
  obtain ⟨d,z,ne,ob,mA,n,r,q⟩:=(show hV P w H h a (.ins C dx fs) from hok a _ e)
  exact ⟨mA,⟨ob,n,ne⟩,r,q,z,d⟩
end
structure Cls (K:W.Frag) (C:Addr):Prop where
  pg:PySem.W.plainGet K C Str.empty=true
  hd:PySem.W.hasDictIn K C=true
  po:PySem.W.plainOver K C=true
  sa:PySem.W.findIn K (.ref C) "__setattr__" = some (some (.builtin "object.__setattr__"))
theorem Cls.get {K:W.Frag} {C:Addr} (c:Cls K C) (f:Str):PySem.W.plainGet K C f=true:=c.pg
def e7 (K:W.Frag) (C:Addr) (f:Str):Prop:=PySem.W.findIn K (.ref C) f=some none
theorem e7.abb {K:W.Frag} {C:Addr} {f:Str} (n:e7 K C f):PySem.W.takerIn K C f=some none:=by
  unfold PySem.W.takerIn
  rw [show PySem.W.findIn K (.ref C) f=some none from n]
  rfl
structure Meth (K:W.Frag) (C:Addr) (m:Str) (f:Addr):Prop where
  at_:PySem.W.findIn K (.ref C) m=some (some (.ref f))
  fn:PySem.W.isFn K (.ref f)=true
  kp:PySem.W.keepIn K (.ref f)=true
section
variable {X:Cx} {pins:List (Addr×Obj)} {σ:St} {H:Hp} {s:Shared} {a C dx:Addr} {fs:List (Str×V)} {f:Str} {v:V} {A:Around} {E:Value→Shared→Prop}
theorem L3 {b:Bool} {Q:Value→Shared→Prop} (I:Inv X pins σ H s) (e:H a=some (.ins C dx fs)) (c:Cls X.K C) (n:e7 X.K C f) (l:fs.lookup f=some v)
    (h:∀ u s',Inv X pins σ H s'→RelV v u→Q u s'):wpAny (model X.prog X.w) A (getAttr (.ref a) f b) Q E s:=by
  obtain ⟨mA,O,r,_,_,_⟩:=Jg I.hok e
  obtain ⟨u,hu,ru⟩:=xO.some_of (v:=v) (o:=mA f) (by rw [←l];exact r f)
  exact get_map I.kIn O (c.get f) c.hd n hu (Od ru) (h u _ (I.tok _) ru)
theorem Fl {m:Str} {g:Addr} {pl:Sem Bool} {Q:Value×List Value→Shared→Prop} (I:Inv X pins σ H s) (e:H a=some (.ins C dx fs)) (c:Cls X.K C) (k:Meth X.K C m g) (l:fs.lookup m=none)
    (h:Q (.ref g,[.ref a]) s):wpAny (model X.prog X.w) A (getMethod (.ref a) m pl) Q E s:=by
  obtain ⟨mA,O,r,_,_,_⟩:=Jg I.hok e
  have hn:mA m=none:=xO.none_of (by rw [←l];exact r m)
  exact Pl I.kIn O (c.get m) k.at_ k.fn hn h
theorem L4 {y:V} {u:Value} {Q:Unit→Shared→Prop} (I:Inv X pins σ H s) (e:H a=some (.ins C dx fs)) (c:Cls X.K C) (n:e7 X.K C f) (hl:fs.length<1000) (ry:RelV y u)
    (h:∀ s',Inv X pins σ (upd H a (.ins C dx (iB f y fs))) s'→Q () s'):wpAny (model X.prog X.w) A (setAttr (.ref a) f u) Q E s:=by
  obtain ⟨mA,O,r,wi,_,ho⟩:=Jg I.hok e
  have hz:(fs.map (·.1)).length≤sizeLine:=by rw [List.length_map,sizeLine_eq];omega
  refine Rq I.kIn O c.sa c.po n.abb c.hd wi hz fun h' O' sb=>h _ ?_
  have hd:∃ o,h'.get? dx=some o:=let ⟨o,_,_,e',_⟩:=O'.ns;⟨o,e'⟩
  refine I.write (x:=a) (e:=dx) (by rw [e];exact True.intro) (.inr ho) (fun b q hb z=>(sb.2 b hb).trans z) hd ?_
  refine ⟨by rw [af O.ne];exact ho,?_,O.ne,O'.obj,_,O'.ns,fun g=>?_,fun g hg=>?_⟩
  · have:=Dr f y fs;omega
  · show xO ((iB f y fs).lookup g) (if g=f then some u else mA g)
    rw [Dq]
    by_cases q:g=f
    · rw [if_pos q,if_pos q];exact ry
    · rw [if_neg q,if_neg q];exact r g
  · by_cases q:g=f
    · rw [q];exact (Dg f y fs).1
    · refine (Dg f y fs).2 g (wi g fun z=>hg ?_)
      show (if g=f then some u else mA g)=none
      rw [if_neg q];exact z
theorem Inv.made (I:Inv X pins σ H s):Inv X pins σ (upd (upd H s.heap.objs.size (.own (s.heap.objs.size+1))) (s.heap.objs.size+1) (.ins C s.heap.objs.size []))
    {s with heap:=(s.heap.push PySem.W.emptyDict).push (PySem.W.instObj C s.heap.objs.size)}:=by
  have e1:(s.heap.push PySem.W.emptyDict).get? s.heap.objs.size=some PySem.W.emptyDict:=Heap.get?_push_size s.heap rfl
  have e2:((s.heap.push PySem.W.emptyDict).push (PySem.W.instObj C s.heap.objs.size)).get? (s.heap.objs.size+1)=some (PySem.W.instObj C s.heap.objs.size):=by
    have:=Heap.get?_push_size (s.heap.push PySem.W.emptyDict) (o:=PySem.W.instObj C s.heap.objs.size) rfl
    rwa [Heap.size_push] at this
  have e3:(s.heap.push PySem.W.emptyDict).Ns s.heap.objs.size (fun _=>none):=⟨PySem.W.emptyDict,#[],_,e1,rfl,(fun e he=>absurd he (by simp)),fun _=>rfl⟩
  have I1:=I.laid (a:=s.heap.objs.size) (o:=.own (s.heap.objs.size+1)) (h':=s.heap.push PySem.W.emptyDict) (t':=s.toks) (fun b u q=>Heap.get?_push_of_some _ q) (Nat.le_refl _) ⟨_,e1⟩
  refine I1.laid (a:=s.heap.objs.size+1) (o:=.ins C s.heap.objs.size []) (t':=s.toks) (fun b u q=>Heap.get?_push_of_some _ q) (Nat.le_of_eq (Heap.size_push _ _)) ?_
  have ne:s.heap.objs.size≠s.heap.objs.size+1:=Nat.ne_of_lt (Nat.lt_succ_self _)
  refine ⟨by rw [af ne,ah],Nat.zero_le _,ne,e2,fun _=>none,(Heap.Ns1.of_empty e3).at fun o q=>Heap.get?_push_of_some _ q,fun _=>True.intro,fun y hy=>absurd rfl hy⟩
theorem Rr {prog:Program} {w:World} {env:Env} {e:Expr} {f:Str} {pos:Pos} {s:Shared} {Q:Value→Shared→Prop} (hb:attributeBase e f env (eval e env)=eval e env)
    (h:wpAny (model prog w) A (eval e env) (fun o s₁=>wpAny (model prog w) A (getAttr o f true) Q E s₁) E s):wpAny (model prog w) A (eval (.Attribute e f pos) env) Q E s :=
  Attribute_any_ h (by rw [arm_eval_Attribute,hb])
end
def ab0 (K:W.Frag) (ta:TE) (f:Str):TE:=fun σ H Q=>ta σ H fun x H1=>∃ a C dx fs v,x=.ref a∧H1 a=some (.ins C dx fs)∧Cls K C∧e7 K C f∧fs.lookup f=some v∧Q v H1
def ac9 (K:W.Frag) (ta tv:TE) (f:Str):TS:=fun D σ H=>tv σ H fun y H1=>ta σ H1 fun x H2=>∃ a C dx fs,x=.ref a∧H2 a=some (.ins C dx fs)∧Cls K C∧e7 K C f∧fs.length<1000 ∧
  D.nx σ (upd H2 a (.ins C dx (iB f y fs)))
section
variable {X:Cx} {o e value:Expr} {f:Str} {pos pos' ada:Pos} {ta tv:TE}
theorem aG (he:PE X e ta) (hb:attributeBase e f X.env (eval e X.env)=eval e X.env):PE X (.Attribute e f pos) (ab0 X.K ta f):=by
  intro pins s σ H Q I h
  refine Rr hb (thn (he pins s σ H _ I h) fun u s1 ⟨x,H1,I1,rx,a,C,dx,fs,v,ex,ea,c,n,l,q⟩=>?_)
  subst ex
  obtain rfl:u=Value.ref a:=rx
  exact L3 I1 ea c n l fun u' s2 I2 ru=>⟨v,H1,I2,ru,q⟩
theorem iq (ha:PE X o ta) (hv:PE X value tv) (hs:swapsWith value (some (.Attribute o f pos')) pos.line X.env=pure false):PS X (.Assign [.Attribute o f pos'] value pos) (ac9 X.K ta tv f):=by
  intro pins s σ H D I h
  refine plainObj_wpAny_Assign_Attribute (thn (hv pins s σ H _ I h) fun u s1 ⟨y,H1,I1,ry,q⟩=>thn (ha pins s1 σ H1 _ I1 q) fun ov s2 ⟨x,H2,I2,rx,a,C,dx,fs,ex,ea,c,n,l,q2⟩=>?_) hs
  subst ex
  obtain rfl:ov=Value.ref a:=rx
  exact L4 I2 ea c n l ry fun s3 I3=>⟨σ,_,I3,q2⟩
end
section
variable {X:Cx} {pins:List (Addr×Obj)} {σ:St} {H:Hp} {s:Shared} {A:Around} {E:Value→Shared→Prop} {Q:Value→Shared→Prop} {c:Value} {b:Bool}
end
end L2
namespace L2
open PySem PySem.Spec PyProof.Rows
structure mR (k:Nat) (A:Around):Prop where
  hd:A.handled=none
  dp:A.depth+3*k+5<recursionLimit
  un:A.units+16*k+200<cLine
theorem mR.mono {j k:Nat} {A:Around} (r:mR k A) (h:j≤k):mR j A:=⟨r.hd,by have:=r.dp;omega,by have:=r.un;omega⟩
theorem mR.deeper {k:Nat} {A:Around} (r:mR (k+1) A) (env:Env):mR k (A.deeper env) :=
  ⟨r.hd,by have:=r.dp;show A.depth+1+3*k+5<_;omega,by have:=r.un;show A.units+3+16*k+200<_;omega⟩
theorem L5 {A:Around} {C:Addr} {us:List Value} {kw:List (Str×Value)}:(A.under (.builtin "type.__call__" ⟨.ref C::us,kw⟩)).depth=A.depth+1:=by
  first|rfl|simp [Around.under,Code.weight,Code.isCreation,Code.isGuard,Code.isCaller,Code.frames,Code.isFrame,guardIds]
theorem L6 {A:Around} {C:Addr} {us:List Value} {kw:List (Str×Value)}:(A.under (.builtin "type.__call__" ⟨.ref C::us,kw⟩)).units=A.units+1:=by
  first|rfl|simp [Around.under,Code.cUnits,Code.frames,Code.isFrame]
theorem mR.make {k:Nat} {A:Around} (r:mR (k+1) A) (C:Addr) (us:List Value) (kw:List (Str×Value)):mR k (A.under (.builtin "type.__call__" ⟨.ref C::us,kw⟩)) :=
  ⟨r.hd,by have:=r.dp;rw [L5];omega,by have:=r.un;rw [L6];omega⟩
theorem mR.depth {k:Nat} {A:Around} (r:mR k A):A.depth<recursionLimit:=by have:=r.dp;omega
theorem mR.units {k:Nat} {A:Around} (r:mR k A):A.units+64<cLine:=by have:=r.un;omega
def O5:TA:=fun _ H Q=>Q [] H
def rq (ta:TE) (tr:TA):TA:=fun σ H Q=>ta σ H fun x H1=>tr σ H1 fun xs H2=>Q (x::xs) H2
section
variable {X:Cx} {e:Expr} {es:List Expr} {te:TE} {t:TA} {pos:Pos}
theorem ak:PA X [] O5:=fun _ _ _ _ H Q I h=>Calls.spliced_nil ⟨[],H,I,.nil,h⟩
theorem ab (ha:PE X e te) (hr:PA X es t) (hs:starEach (e::es) X.env=(false,eval e X.env)::starEach es X.env:=by rfl):PA X (e::es) (rq te t):=by
  intro pos pins s σ H Q I h
  rw [hs]
  show wpAny _ _ (spliced ((false,eval e X.env)::backTo pos (starEach es X.env))) _ _ s
  refine Calls.spliced_cons (thn (ha pins s σ H _ I h) fun u s1 ⟨x,H1,I1,r1,q1⟩=>?_)
  exact thn (hr pos pins s1 σ H1 _ I1 q1) fun us s2 ⟨xs,H2,I2,r2,q2⟩=>⟨x::xs,H2,I2,.cons r1 r2,q2⟩
def UP (t:TA):TE:=fun σ H Q=>t σ H fun xs H1=>xs.length≤sizeLine∧∀ p,H1 p=none→Q (.ref p) (upd H1 p (.tup xs))
def ab1 (t:TA):TE:=fun σ H Q=>t σ H fun xs H1=>xs.length≤sizeLine∧∀ p,H1 p=none→Q (.ref p) (upd H1 p (.lst xs))
theorem fI {x1} (h:PA X es t):PE X (.Tuple es x1 pos) (UP t):=by
  intro pins s σ H Q I hq
  refine wpAny_Tuple_spliced (thn (h pos pins s σ H _ I hq) fun us s1 ⟨xs,H1,I1,r,z,q⟩=>⟨by rw [←r.length];exact z,?_⟩)
  have hf:H1 s1.heap.objs.size=none:=I1.hok.fresh (Nat.le_refl _)
  refine ⟨.ref s1.heap.objs.size,upd H1 s1.heap.objs.size (.tup xs),I1.laid (t':=s1.toks) (fun b u e=>Heap.get?_push_of_some _ e) (Nat.le_refl _) ?_,rfl,q _ hf⟩
  exact ⟨z,us,r,⟨_,Heap.get?_push_size _ rfl,rfl,_,rfl⟩⟩
theorem hR (h:PA X es t):PE X (.List es pos) (ab1 t):=by
  intro pins s σ H Q I hq
  refine wpAny_List_spliced (thn (h pos pins s σ H _ I hq) fun us s1 ⟨xs,H1,I1,r,z,q⟩=>⟨by rw [←r.length];exact z,?_⟩)
  have hf:H1 s1.heap.objs.size=none:=I1.hok.fresh (Nat.le_refl _)
  refine ⟨.ref s1.heap.objs.size,upd H1 s1.heap.objs.size (.lst xs),I1.laid (t':=s1.toks) (fun b u e=>Heap.get?_push_of_some _ e) (Nat.le_refl _) ?_,rfl,q _ hf⟩
  exact ⟨z,us,0,r,Heap.get?_push_size _ rfl⟩
end
abbrev Sp:=List V→Hp→VK→XK→Prop
abbrev CXT:=List Env→Hp→Shared→XK→Value→Shared→Prop
structure L7 (P:Program) (w:World) (K:W.Frag) (mg:Str→Option Value) (base:Heap) (A:Around) (outer:List Env) (s:Shared) (H:Hp):Prop where
  frames:A.frames=some outer
  mod:Mod K mg base
  bs:∀ b o,base.get? b=some o→s.heap.get? b=some o∧H b=none
  bsz:base.objs.size≤s.heap.objs.size
  Bf:s.heap.FunFrames base outer
  frf:∀ b∈frs outer,H b=none
  hok:HOk P w H s.heap
  bare:AllBare s.gens
def CE (outer:List Env) (P:Program) (w:World) (H:Hp) (s:Shared) (Q:VK) (u:Value) (s':Shared):Prop :=
  ∃ v H',s'.os=s.os∧AllBare s'.gens∧Un (frs outer) [] H H' s.heap s'.heap∧HOk P w H' s'.heap∧RelV v u∧Q v H'
def CR (CX:CXT) (outer:List Env) (P:Program) (w:World) (H:Hp) (s:Shared) (Q:VK) (E:XK) (r:Result) (s':Shared):Prop :=
  match r with
  | .ok (.ret u)=>CE outer P w H s Q u s'
  | .ok _=>False
  | .error e=>CX outer H s E e s'
structure Bi (P:Program) (w:World) (K:W.Frag) (mg:Str→Option Value) (base:Heap) (CX:CXT) (k:Nat) (f:Addr) (fd:FuncData) (ps:List Str) (sp:Sp):Prop where
  len:∀ vs H Q E,sp vs H Q E→vs.length=ps.length
  run:∀ (A:Around) (outer:List Env) (s:Shared) (H:Hp) (args:Args) (us:List Value) (vs:List V) (Q:VK) (E:XK),mR k A→L7 P w K mg base A outer s H→BindsTo s fd args (ps.zip us)→Vals vs us→sp vs H Q E →
    codeAny (model P w) A (.call (.ref f) args) (CR CX outer P w H s Q E) s
theorem L7.make {P:Program} {w:World} {K:W.Frag} {mg:Str→Option Value} {base:Heap} {A:Around} {outer:List Env} {s:Shared} {H:Hp} (e:L7 P w K mg base A outer s H) (C:Addr) (us:List Value) (kw:List (Str×Value)) :
    L7 P w K mg base (A.under (.builtin "type.__call__" ⟨.ref C::us,kw⟩)) outer s H:=⟨by first|exact e.frames|(simpa [Around.under,Code.envs,Code.isFrame,pushEnvs] using e.frames),e.mod,e.bs,e.bsz,e.Bf,e.frf,e.hok,e.bare⟩
section
variable {X:Cx} {pins:List (Addr×Obj)} {σ:St} {H:Hp} {s s':Shared}
theorem Inv.UQ (I:Inv X pins σ H s):L7 X.prog X.w X.K X.mg X.base X.A X.stack s H :=
  ⟨I.ok.frames,I.ok.mod,I.bs,Nat.le_trans I.ok.bsz I.sz,I.stack,I.Bg,I.hok,I.bare⟩
theorem Inv.after {Q:VK} {u:Value} (I:Inv X pins σ H s) (h:CE X.stack X.prog X.w H s Q u s'):EP X pins σ Q u s':=by
  obtain ⟨v,H',os,bare,un,hok,r,q⟩:=h
  obtain ⟨hh,g,d,t,os'⟩:=s'
  obtain rfl:os'=s.os:=os
  exact ⟨v,H',I.call (h':=hh) (g':=g) (d':=d) (t':=t) (ch:=[]) un hok bare (fun b z=>absurd z (by simp)),r,q⟩
end
def UR (C:Addr) (sp:Sp) (dvs:List V) (E:XK) (t:TA):TE:=fun σ H Q=>t σ H fun vs H1=>∀ x dx,H1 x=none→H1 dx=none→dx≠x →
  sp (.ref x::(vs++dvs)) (upd (upd H1 dx (.own x)) x (.ins C dx [])) (fun v H2=>v=.non∧Q (.ref x) H2) E
def Binds (K:W.Frag) (fd:FuncData) (ps:List Str) (ds:List Value):Prop :=
  ∀ (s:Shared) (us:List Value),K.In s.heap→(us++ds).length=ps.length→BindsTo s fd ⟨us,[]⟩ (ps.zip (us++ds))
theorem Binds.all {K:W.Frag} {fd:FuncData} {ps:List Str} (h:∀ us:List Value,us.length=ps.length→bindArgs fd ⟨us,[]⟩=pure (ps.zip us)):Binds K fd ps []:=fun s us _ hl=>by
  rw [List.append_nil] at hl ⊢
  exact .of_eq (h us hl)
def Passes (CX:CXT) (X:Cx) (E:XK):Prop:=∀ (pins:List (Addr×Obj)) (σ:St) (H:Hp) (s:Shared) (e:Value) (s':Shared),Inv X pins σ H s→CX X.stack H s E e s'→X.xe e s'
section
variable {X:Cx} {CX:CXT} {k:Nat} {f C:Addr} {fd:FuncData} {ps:List Str} {sp:Sp} {dvs:List V} {ds:List Value} {E:XK} {x m:Str} {p pos apos:Pos} {e o:Expr} {es:List Expr} {ta:TE} {t:TA}
structure Mk (K:W.Frag) (C f:Addr):Prop where
  makes:PySem.W.makesIn K C=true
  init:PySem.W.findIn K (.ref C) "__init__" = some (some (.ref f))
  fn:PySem.W.isFn K (.ref f)=true
  kp:PySem.W.keepIn K (.ref C)=true
theorem La {pins:List (Addr×Obj)} {σ:St} {H:Hp} {s:Shared} {Q:VK} {us:List Value} {vs:List V} (M:Mk X.K C f) (F:Bi X.prog X.w X.K X.mg X.base CX k f fd ps sp) (hr:mR (k+1) X.A) (hb:Binds X.K fd ps ds) (hd:Vals dvs ds)
    (hx:Passes CX X E) (I:Inv X pins σ H s) (r:Vals vs us)
    (h:∀ x dx,H x=none→H dx=none→dx≠x→sp (.ref x::(vs++dvs)) (upd (upd H dx (.own x)) x (.ins C dx [])) (fun v H2=>v=.non∧Q (.ref x) H2) E) :
    wpAny (model X.prog X.w) X.A (call (.ref C) us) (EP X pins σ Q) X.xe s:=by
  have hq:=h (s.heap.objs.size+1) s.heap.objs.size (I.hok.fresh (Nat.le_succ _)) (I.hok.fresh (Nat.le_refl _)) (Nat.ne_of_lt (Nat.lt_succ_self _))
  have I2:=Inv.made (C:=C) I
  have r2:Vals (V.ref (s.heap.objs.size+1)::(vs++dvs)) (Value.ref (s.heap.objs.size+1)::(us++ds)):=.cons rfl (r.append hd)
  have hl:(Value.ref (s.heap.objs.size+1)::us++ds).length=ps.length:=by
    have e:=r2.length
    rw [F.len _ _ _ _ hq] at e
    exact e.symm
  refine wpAny_call (Pm (f:=f) I.kIn M.makes M.init (beq_iff_eq.mp M.fn) (codeAny_mono (F.run _ X.stack _ _ ⟨Value.ref (s.heap.objs.size+1)::us,[]⟩ (Value.ref (s.heap.objs.size+1)::(us++ds)) _ _ E (hr.make C us [])
    (I2.UQ.make C us []) (hb _ (Value.ref (s.heap.objs.size+1)::us) I2.kIn hl) r2 hq) fun r s' hq'=>?_))
  cases r with
  | error e=>exact hx pins σ _ _ e s' I2 hq'
  | ok fl =>
    cases fl with
    | ret u =>
      obtain ⟨v,H',I3,rv,ev,q3⟩:=I2.after hq'
      subst ev
      exact ⟨rv,⟨V.ref (s.heap.objs.size+1),H',I3,rfl,q3⟩⟩
    | next=>exact False.elim hq'
    | brk=>exact False.elim hq'
    | cont=>exact False.elim hq'
theorem Rt (M:Mk X.K C f) (F:Bi X.prog X.w X.K X.mg X.base CX k f fd ps sp) (hr:mR (k+1) X.A) (hg:Gl X x) (hm:X.mg x=some (.ref C)) (hb:Binds X.K fd ps ds) (hd:Vals dvs ds) (hx:Passes CX X E)
    (ha:PA X (e::es) t) (hdb:(x == ("__debug__" : Str))=false:=by decide) (he:starEach (e::es) X.env=(false,eval e X.env)::starEach es X.env:=by rfl) (hpl:(backTo pos (starEach es X.env)).any (·.1)=false:=by rfl) :
    PE X (.Call (.Name x p) (e::es) [] pos) (UR C sp dvs E t):=by
  intro pins s σ H Q I h
  refine wpAny_Call_Name_kw (sE I hg hm ?_ hdb)
  refine PySem.W.callWith_K (h₀:=X.base) I.ok.mod.kin M.kp (thn (ha pos pins s σ H _ I h) fun us s1 ⟨vs,H1,I1,r,q⟩=>⟨I1.kIn,?_⟩) he hpl
  exact La M F hr hb hd hx I1 r q
theorem FO (M:Mk X.K C f) (F:Bi X.prog X.w X.K X.mg X.base CX k f fd ps sp) (hr:mR (k+1) X.A) (hg:Gl X x) (hm:X.mg x=some (.ref C)) (hb:Binds X.K fd ps ds) (hd:Vals dvs ds) (hx:Passes CX X E)
    (hdb:(x == ("__debug__" : Str))=false:=by decide):PE X (.Call (.Name x p) [] [] pos) (UR C sp dvs E O5):=by
  intro pins s σ H Q I h
  refine wpAny_Call_Name_kw (sE I hg hm ?_ hdb)
  exact PySem.W.callWith_K0 I.kIn M.kp (La (us:=[]) M F hr hb hd hx I .nil h)
end
section
variable {X:Cx} {CX:CXT} {k:Nat} {f C:Addr} {fd:FuncData} {ps ks:List Str} {sp:Sp} {E:XK} {x m:Str} {p pos apos aea:Pos} {e o:Expr} {es:List Expr} {kws:List Keyword} {te ta:TE} {t tk:TA} {nm:Option Str}
variable {g:List Value→List Value→List Value} {gV:List V→List V→List V}
end
structure av (N P:List Str) (sc:Scope):Prop where
  kind:sc.kind=.function
  co:sc.isCoroutine=false
  gen:sc.isGenerator=false
  nd:N.Nodup
  pre:N.take P.length=P
  par:∀ x∈P,sc.names.lookup x=some .local∨sc.names.lookup x=some .cell
  XW:∀ y∈sc.names,y.2≠.free
theorem G0 {kindOf:Str→Option NameKind} {x:Str}:∀ {binds:List (Str×Value)} {m:Str→Option Value},(∀ v,(x,v)∉binds)→bindL kindOf binds m x=m x
  | [],_,_=>rfl
  | (n,v)::r,m,h=>by
    unfold bindL
    rw [G0 fun w hw=>h w (List.mem_cons_of_mem _ hw)]
    split
    · have:x≠n:=by rintro rfl;exact h v List.mem_cons_self
      simp [this]
    · rfl
theorem G4 {kindOf:Str→Option NameKind} {x:Str}:∀ {binds:List (Str×Value)} {m:Str→Option Value},(∀ v,(x,v)∉binds)→bindC kindOf binds m x=m x
  | [],_,_=>rfl
  | (n,v)::r,m,h=>by
    unfold bindC
    rw [G4 fun w hw=>h w (List.mem_cons_of_mem _ hw)]
    split
    · rfl
    · have:x≠n:=by rintro rfl;exact h v List.mem_cons_self
      simp [this]
theorem G5 {kindOf:Str→Option NameKind} {x:Str} {v:Value}:∀ {P:List Str} {vs:List Value} {i:Nat} {m:Str→Option Value},P.Nodup→P[i]?=some x→vs[i]?=some v→kindOf x=some .local →
    bindL kindOf (P.zip vs) m x=some v
  | [],_,_,_,_,h,_,_=>by simp at h
  | _::_,[],_,_,_,_,h,_=>by simp at h
  | p::P,w::vs,0,m,nd,h1,h2,hk=>by
    simp at h1 h2;subst h1;subst h2
    show bindL kindOf ((p,w)::P.zip vs) m p=_
    unfold bindL
    rw [G0 fun v hv=>(List.nodup_cons.mp nd).1 (List.of_mem_zip hv).1,if_pos hk]
    simp
  | p::P,w::vs,i+1,m,nd,h1,h2,hk=>by
    show bindL kindOf ((p,w)::P.zip vs) m x=_
    unfold bindL
    exact G5 (i:=i) (List.nodup_cons.mp nd).2 (by simpa using h1) (by simpa using h2) hk
theorem G6 {kindOf:Str→Option NameKind} {x:Str} {v:Value}:∀ {P:List Str} {vs:List Value} {i:Nat} {m:Str→Option Value},P.Nodup→P[i]?=some x→vs[i]?=some v→kindOf x≠some .local →
    bindC kindOf (P.zip vs) m x=some v
  | [],_,_,_,_,h,_,_=>by simp at h
  | _::_,[],_,_,_,_,h,_=>by simp at h
  | p::P,w::vs,0,m,nd,h1,h2,hk=>by
    simp at h1 h2;subst h1;subst h2
    show bindC kindOf ((p,w)::P.zip vs) m p=_
    unfold bindC
    rw [G4 fun v hv=>(List.nodup_cons.mp nd).1 (List.of_mem_zip hv).1,if_neg hk]
    simp
  | p::P,w::vs,i+1,m,nd,h1,h2,hk=>by
    show bindC kindOf ((p,w)::P.zip vs) m x=_
    unfold bindC
    exact G6 (i:=i) (List.nodup_cons.mp nd).2 (by simpa using h1) (by simpa using h2) hk
def start (N:List Str) (vs:List V):St:=vs.map some++List.replicate (N.length-vs.length) none
def O6 (CX:CXT) (P:Program) (w:World) (K:W.Frag) (mg:Str→Option Value) (base:Heap) (N:List Str) (qual:Str) (scope:Scope) (f:Addr) (cd:Value) (A:Around) (outer:List Env) (s:Shared) (H:Hp) (E:XK):Cx where
  prog:=P
  w:=w
  K:=K
  mg:=mg
  base:=base
  A:=A.deeper (envOfC qual scope s.heap.objs.size f cd)
  N:=N
  s₀:=s
  H₀:=H
  env:=envOfC qual scope s.heap.objs.size f cd
  outer:=outer
  stack:=envOfC qual scope s.heap.objs.size f cd::outer
  ex:=[]
  calm:=true
  fn:=fun _=>true
  pn:=[]
  xe:=fun e s'=>wpAny (model P w) (A.deeper (envOfC qual scope s.heap.objs.size f cd)) (leaving (envOfC qual scope s.heap.objs.size f cd) e) (fun _ s''=>CX outer H s E e s'') (fun e' s''=>CX outer H s E e' s'') s'
theorem Lb {sc:Scope} {n:Nat} {x:Str} (h:sc.names.lookup x=some .cell):∃ c,(cellsFrom n sc.names []).lookup x=some c:=by
  have q:=PySem.W.cellsFrom_some sc.names n [] (.inl h)
  exact Option.isSome_iff_exists.mp q
theorem G7 {CX:CXT} {P:Program} {w:World} {K:W.Frag} {mg:Str→Option Value} {base:Heap} {N ps:List Str} {qual:Str} {scope:Scope} {f:Addr} {cd:Value} {A:Around} {outer:List Env} {s s1:Shared} {H:Hp} {E:XK} {us:List Value} {vs:List V}
    (S:av N ps scope) (hd:A.handled=none) (e0:L7 P w K mg base A outer s H) (hl:vs.length=ps.length) (r:Vals vs us)
    (x:InCallC s s.heap.objs.size (bindL (envOfC qual scope s.heap.objs.size f cd).kindOf (ps.zip us) fun _=>none) (cellsFrom (s.heap.objs.size+1) scope.names []) (bindC (envOfC qual scope s.heap.objs.size f cd).kindOf (ps.zip us) fun _=>none) s1) :
    Inv (O6 CX P w K mg base N qual scope f cd A outer s H E) [] (start N vs) H s1:=by
  have hpl:ps.length≤N.length:=by have:=congrArg List.length S.pre;rw [List.length_take] at this;omega
  obtain ⟨h1,tk,rfl,hk⟩:=x.done
  have noA:∀ b:Addr,b∉(O6 CX P w K mg base N qual scope f cd A outer s H E).ex:=fun b z=>absurd (show b∈([]:List Addr) from z) (by simp)
  refine ⟨⟨e0.mod,S.kind,rfl,rfl,Nat.le_refl _,fun y z c h1 h2=>?_,fun y hy=>?_,fun y c _ h=>?_,fun _=>hd,Around.frames_deeper e0.frames,.inr ⟨rfl,rfl⟩,fun b z=>absurd z (noA b),e0.bs,e0.bsz,fun b _ _=>noA b,fun b z=>absurd z (noA b),e0.Bf,e0.frf⟩,
    rfl,e0.bare,Un.kept hk,⟨_,x.toInCall.ns,fun i y v h1 h2 h3=>?_⟩,fun y c h=>⟨_,x.cell y c h⟩,e0.hok.fresh (Nat.le_refl _),fun y c h=>?_,fun p hp=>absurd (show p∈([]:List (Addr×Obj)) from hp) (by simp),e0.hok.kept hk,?_⟩
  · exact name_of_addr x.apart (PySem.mem_of_lookup h1) (PySem.mem_of_lookup h2)
  · have hy:scope.names.lookup y=some .cell∨scope.names.lookup y=some .free:=hy
    rcases hy with hy|hy
    · exact Lb hy
    · exact absurd rfl (S.XW _ (PySem.mem_of_lookup hy))
  · exact Nat.le_of_lt (x.above y c (PySem.mem_of_lookup h))
  · have hi:i<vs.length:=by
      unfold start at h2
      by_cases hi:i<vs.length
      · exact hi
      · rw [List.getElem?_append_right (by simpa using hi)] at h2
        rw [List.getElem?_replicate] at h2
        split at h2<;>cases h2
    have ha:vs[i]?=some v:=by
      unfold start at h2
      rw [List.getElem?_append_left (by simpa using hi),List.getElem?_map] at h2
      cases e:vs[i]? with
      | none=>rw [e] at h2;cases h2
      | some a=>rw [e] at h2;cases h2;rfl
    obtain ⟨u,hu,rv⟩:=r.get ha
    have hp:ps[i]?=some y:=by
      rw [←S.pre,List.getElem?_take_of_lt (by omega)];exact h1
    have ndP:ps.Nodup:=by rw [←S.pre];exact S.nd.sublist (List.take_sublist _ _)
    refine ⟨u,rv,?_⟩
    rcases S.par y (List.mem_of_getElem? hp) with k|k
    · exact .inl ⟨k,G5 ndP hp hu k⟩
    · obtain ⟨c,e⟩:=Lb (n:=s.heap.objs.size+1) k
      refine .inr ⟨.inl k,c,e,?_⟩
      have q:=x.cell y c e
      rw [G6 ndP hp hu (by show scope.names.lookup y≠_;rw [k];decide)] at q
      exact q
  · exact e0.hok.fresh (Nat.le_of_lt (x.above y c (PySem.mem_of_lookup h)))
  · unfold start
    show _=N.length
    rw [List.length_append,List.length_map,List.length_replicate]
    omega
theorem abc {CX:CXT} {P:Program} {w:World} {K:W.Frag} {mg:Str→Option Value} {base:Heap} {k:Nat} {f:Addr} {name qual:Str} {params:Arguments} {body:List Stmt} {scope:Scope} {dV kV doc pm cdv ct oc:Value} {an od:Option Addr}
    {osl:Array (Option Value)} {N ps:List Str} {sp:Sp} (lk:K.lookup f=some ⟨oc,od,.func (PySem.W.fnOf name qual params body scope dV kV doc pm an cdv ct),osl⟩) (hcd:PySem.W.codeIn K cdv qual=true) (S:av N ps scope)
    (len:∀ vs H Q E,sp vs H Q E→vs.length=ps.length)
    (GS:∀ (A:Around) (outer:List Env) (s:Shared) (H:Hp) (vs:List V) (Q:VK) (E:XK),mR k (A.deeper (envOfC qual scope s.heap.objs.size f cdv))→sp vs H Q E →
      ∃ t,PSs (O6 CX P w K mg base N qual scope f cdv A outer s H E) body t∧t {nx:=fun _ H'=>Q .non H',rt:=Q} (start N vs) H) :
    Bi P w K mg base CX (k+1) f (PySem.W.fnOf name qual params body scope dV kV doc pm an cdv ct) ps sp:=by
  refine ⟨len,fun A outer s H args us vs Q E hr e0 hb r hsp=>?_⟩
  have hl:=len _ _ _ _ hsp
  have KX:K.In s.heap:=e0.mod.kin.keeps fun b o e=>(e0.bs b o e).1
  have lim:s.heap.NoLimit:=e0.mod.nolimit.keeps fun b o e=>(e0.bs b o e).1
  have QZ:∀ y∈ps.zip us,scope.names.lookup y.1=some .local∨(scope.names.lookup y.1=some .cell∧((cellsFrom (s.heap.objs.size+1) scope.names []).lookup y.1).isSome=true):=fun ⟨n,v⟩ hy=>by
    rcases S.par n (List.of_mem_zip hy).1 with q|q
    · exact .inl q
    · exact .inr ⟨q,PySem.W.cellsFrom_some _ _ _ (.inl q)⟩
  refine codeAny_call_function hr.depth (KX _ _ lk) rfl S.co S.gen rfl (PySem.W.codeRec_of KX hcd) (hb _ _ _ _ ?_)
  refine wpAny_newFunctionEnv_cells S.kind QZ fun env he s1 x=>?_
  subst he
  refine ⟨lim.keeps x.toInCall.keep,codeAny_func ?_⟩
  obtain ⟨t,ht,hq⟩:=GS A outer s H vs Q E (hr.deeper _) hsp
  have I:Inv (O6 CX P w K mg base N qual scope f cdv A outer s H E) [] (start N vs) H s1:=G7 S hr.hd e0 hl r x
  refine wpAny_mono (ht [] s1 (start N vs) H _ I hq) (fun fl s' hs=>?_) fun e s' hs=>hs
  have fin:∀ {σ':St} {H':Hp} {v:V} {u:Value},Inv (O6 CX P w K mg base N qual scope f cdv A outer s H E) [] σ' H' s'→RelV v u→Q v H'→CE outer P w H s Q u s' :=
    fun {σ' H' v u} J rv q=>⟨v,H',J.os,J.bare,J.base,J.hok,rv,q⟩
  cases fl with
  | ret u =>
    obtain ⟨v,σ',H',J,rv,q⟩:=hs
    exact fin J rv q
  | next =>
    obtain ⟨σ',H',J,q⟩:=hs
    exact fin (v:=V.non) (u:=Value.none) J rfl q
  | brk =>
    obtain ⟨_,_,_,q⟩:=hs
    exact False.elim q
  | cont =>
    obtain ⟨_,_,_,q⟩:=hs
    exact False.elim q
end L2
namespace L2
open PySem PySem.Spec PyProof.Rows
section
variable {X:Cx} {x:Str} {p pos:Pos} {e:Expr} {es:List Expr} {t:TA} {id T:String} {r:List V→Hp→VK→Prop}
def tCB (r:List V→Hp→VK→Prop) (t:TA):TE:=fun σ H Q=>t σ H fun vs H1=>r vs H1 Q
theorem fX (hc:xQ X (.builtin id) r) (hg:Gl X x) (hm:X.mg x=none) (hv:bootBuiltins x=some (.builtin id)) (ha:PA X (e::es) t) (hn:x ≠ "__name__" := by decide) (hdb:(x == ("__debug__" : Str))=false:=by decide)
    (he:starEach (e::es) X.env=(false,eval e X.env)::starEach es X.env:=by rfl) (hpl:(backTo pos (starEach es X.env)).any (·.1)=false:=by rfl):PE X (.Call (.Name x p) (e::es) [] pos) (tCB r t):=by
  intro pins s σ H Q I h
  refine wpAny_Call_Name_kw (F6 I hg hm hv ?_ hn hdb)
  exact PyProof.Rows.callWith_builtin1 (thn (ha pos pins s σ H _ I h) fun us s1 ⟨vs,H1,I1,r1,q1⟩=>hc pins s1 σ H1 vs us Q I1 r1 q1) he hpl
theorem nX (hc:xQ X (.type T) r) (hg:Gl X x) (hm:X.mg x=none) (hv:bootBuiltins x=some (.type T)) (ha:PA X (e::es) t) (hn:x ≠ "__name__" := by decide) (hdb:(x == ("__debug__" : Str))=false:=by decide)
    (he:starEach (e::es) X.env=(false,eval e X.env)::starEach es X.env:=by rfl) (hpl:(backTo pos (starEach es X.env)).any (·.1)=false:=by rfl):PE X (.Call (.Name x p) (e::es) [] pos) (tCB r t):=by
  intro pins s σ H Q I h
  refine wpAny_Call_Name_kw (F6 I hg hm hv ?_ hn hdb)
  exact PyProof.Rows.callWith_type1 (thn (ha pos pins s σ H _ I h) fun us s1 ⟨vs,H1,I1,r1,q1⟩=>hc pins s1 σ H1 vs us Q I1 r1 q1) he hpl
end
end L2
namespace HT
open PySem PyProof.Rows
section
open PySem.SeqAt
open PySem.AutoSeq1 (wpAny_loadPart')
open PySem.MeetsSeq PySem.MeetsSeq2 PySem.MeetsSeq3
end
section
variable {prog:Program} {w:World} {A:Around} {E:Value→Shared→Prop} {s:Shared}
def sIx (n d:Nat):Option Int→Nat
  | none=>d
  | some v=>if v<0 then (v+(n:Int)).toNat else min v.toNat n
theorem Lc (n d:Nat):sIx n d none=d:=rfl
end
end HT
namespace L2
open PySem PySem.Spec PyProof.Rows
abbrev TO:=St→Hp→(Option Int→Hp→Prop)→Prop
def PO (X:Cx) (e:Option Expr) (t:TO):Prop :=
  ∀ (pins:List (Addr×Obj)) (s:Shared) (σ:St) (H:Hp) (Q:Option Int→Hp→Prop),Inv X pins σ H s→t σ H Q →
    wpAny (model X.prog X.w) X.A (evalPart e X.env) (fun u s'=>∃ o H',Inv X pins σ H' s'∧IsPart u o∧Q o H') X.xe s
def Ru:TO:=fun _ H Q=>Q none H
def abd (t:TE):TO:=fun σ H Q=>t σ H fun x H1=>∃ i,x=.int i∧Q (some i) H1
theorem intsAre_of {ns:List Int}:∀ {us:List Value},Vals (ns.map V.int) us→IntsAre us ns:=by
  induction ns with
  | nil=>intro us r;rw [List.map_nil] at r;cases r;exact .nil
  | cons n ns ih =>
    intro us r
    rw [List.map_cons] at r
    cases r with
    | cons r1 r2 =>
      obtain ⟨t,e⟩:=r1
      subst e
      exact .cons n t (ih r2)
section
variable {X:Cx} {e:Expr} {te:TE} {lo hi:Option Expr} {tl th:TO} {pos p2:Pos}
theorem Jh:PO X none Ru:=by
  intro pins s σ H Q I h
  rw [evalPart_none]
  exact wpAny_pure ⟨none,H,I,.none,h⟩
theorem Ji (h:PE X e te):PO X (some e) (abd te):=by
  intro pins s σ H Q I hw
  rw [evalPart_some]
  refine thn (h pins s σ H _ I hw) fun u s1 ⟨x,H1,I1,r1,q1⟩=>?_
  obtain ⟨i,rfl,q⟩:=q1
  obtain ⟨t,rfl⟩:=r1
  exact ⟨some i,H1,I1,.int i t,q⟩
def SlR (X:Cx) (r:V→Option Int→Option Int→Hp→VK→Prop):Prop :=
  ∀ (pins:List (Addr×Obj)) (s:Shared) (σ:St) (H:Hp) (x:V) (v vl vu:Value) (lo hi:Option Int) (sl:Addr) (Q:VK),Inv X pins σ H s→RelV x v→s.heap.IsSliceOf sl vl vu .none→IsPart vl lo→IsPart vu hi→r x lo hi H Q →
    ∃ T id,typeLookup (.type T) "__getitem__" = pure (some (.builtin id))∧s.TypeIs v T∧wpAny (model X.prog X.w) X.A (getItem v (.ref sl)) (EP X pins σ Q) X.xe s
def tSl (r:V→Option Int→Option Int→Hp→VK→Prop) (te:TE) (tl th:TO):TE:=fun σ H Q=>te σ H fun x H1=>tl σ H1 fun l H2=>th σ H2 fun u H3=>r x l u H3 Q
theorem FP {r:V→Option Int→Option Int→Hp→VK→Prop} (hr:SlR X r) (he:PE X e te) (hl:PO X lo tl) (hu:PO X hi th):PE X (.Subscript e (.Slice lo hi none p2) pos) (tSl r te tl th):=by
  intro pins s σ H Q I h
  refine Subscript_ (thn (he pins s σ H _ I h) fun v s1 ⟨x,H1,I1,r1,q1⟩=>?_)
  refine wpAny_Slice (thn (hl pins s1 σ H1 _ I1 q1) fun vl s2 ⟨l,H2,I2,pl,q2⟩=>thn (hu pins s2 σ H2 _ I2 q2) fun vu s3 ⟨u,H3,I3,pu,q3⟩=>?_)
  rw [evalPart_none]
  refine wpAny_pure ?_
  have I4:Inv X pins σ H3 {s3 with heap:=s3.heap.push {cls:=.type "slice",data:=.fields #[vl,vu,.none]}}:=I3.kept (t':=s3.toks) fun b ob q=>Heap.get?_push_of_some _ q
  obtain ⟨T,id,hT,ht,hg⟩:=hr pins {s3 with heap:=s3.heap.push {cls:=.type "slice",data:=.fields #[vl,vu,.none]}} σ H3 x v vl vu l u s3.heap.objs.size Q I4 r1 (Heap.IsSliceOf.new ..) pl pu q3
  show wpAny (model X.prog X.w) X.A (subscriptTail e (.Slice lo hi none p2) v (.ref s3.heap.objs.size)) (EP X pins σ Q) X.xe {s3 with heap:=s3.heap.push {cls:=.type "slice",data:=.fields #[vl,vu,.none]}}
  exact tail_any (ops:=[.ref s3.heap.objs.size,v]) ht hT hg (by with_unfolding_all rfl)
def vz (xs:List V) (lo hi:Option Int):List V:=(xs.drop (HT.sIx xs.length 0 lo)).take (HT.sIx xs.length xs.length hi-HT.sIx xs.length 0 lo)
theorem oU (xs:List V) (lo hi:Option Int):(vz xs lo hi).length≤xs.length:=by
  unfold vz
  rw [List.length_take,List.length_drop]
  omega
end
end L2
namespace L2
open PySem PySem.Spec PyProof.Rows
def ixN (n:Nat) (i:Int):Option Nat:=if 0≤i then (if i<n then some i.toNat else none) else if -(n:Int)≤i then some (i+n).toNat else none
def atI {α:Type} (xs:List α) (i:Int):Option α:=(ixN xs.length i).bind fun j=>xs[j]?
theorem Nl {n:Nat} {i:Int} {j:Nat} (h:ixN n i=some j):seqIndex? i n=some j∧j<n∧-(n:Int)≤i∧i<n:=by
  unfold ixN at h
  by_cases h0:0≤i
  · rw [if_pos h0] at h
    by_cases h1:i<n
    · rw [if_pos h1] at h
      have e:i.toNat=j:=Option.some.inj h
      exact ⟨by rw [seqIndex_of h0 h1,e],by omega,by omega,h1⟩
    · rw [if_neg h1] at h;cases h
  · rw [if_neg h0] at h
    by_cases h1:-(n:Int)≤i
    · rw [if_pos h1] at h
      have e:(i+n).toNat=j:=Option.some.inj h
      exact ⟨by rw [seqIndex_neg (by omega) h1,e],by omega,h1,by omega⟩
    · rw [if_neg h1] at h;cases h
theorem Nm {α:Type} {xs:List α} {i:Int} {v:α} (h:atI xs i=some v):∃ j,seqIndex? i xs.length=some j∧xs[j]?=some v∧j<xs.length∧-(xs.length:Int)≤i∧i<xs.length:=by
  unfold atI at h
  cases e:ixN xs.length i with
  | none=>rw [e] at h;cases h
  | some j =>
    rw [e] at h
    obtain ⟨h1,h2,h3,h4⟩:=Nl e
    exact ⟨j,h1,h,h2,h3,h4⟩
theorem vA {α:Type} {xs:List α} {j:Nat} {v:α} (h:xs[j]?=some v):atI xs (j:Int)=some v:=by
  have hj:j<xs.length:=(List.getElem?_eq_some_iff.mp h).1
  have e:ixN xs.length (j:Int)=some j:=by
    unfold ixN
    rw [if_pos (by omega),if_pos (by omega)];simp
  unfold atI;rw [e];exact h
def Rv (b:Expr):Prop:=∀ o i,subscripted b false o i=operate [o,i] (getItem o i)
def IxR (X:Cx) (r:R2):Prop :=
  ∀ (value slice:Expr) (pins:List (Addr×Obj)) (s:Shared) (σ:St) (H:Hp) (x y:V) (v u:Value) (Q:VK),Inv X pins σ H s→RelV x v→RelV y u→r x y H Q →
    subscripted slice false v u=operate [v,u] (getItem v u)→wpAny (model X.prog X.w) X.A (subscriptTail value slice v u) (EP X pins σ Q) X.xe s
def MtR (X:Cx) (id:String) (r:V→List V→Hp→VK→Prop):Prop :=
  ∀ (pins:List (Addr×Obj)) (s:Shared) (σ:St) (H:Hp) (x:V) (xs:List V) (v:Value) (us:List Value) (Q:VK),Inv X pins σ H s→RelV x v→Vals xs us→r x xs H Q →
    wpAny (model X.prog X.w) X.A (call (.builtin id) (v::us)) (EP X pins σ Q) X.xe s
section
variable {X:Cx} {a b:Expr} {ta tb:TE} {pos:Pos}
theorem br {r:R2} (hr:IxR X r) (ha:PE X a ta) (hb:PE X b tb) (hs:Rv b):PE X (.Subscript a b pos) (tOp r ta tb):=by
  intro pins s σ H Q I h
  exact Subscript_ (YC ha hb I h fun v u s2 x y H2 I2 rx ry q=>hr a b pins s2 σ H2 x y v u Q I2 rx ry q (hs _ _))
def adb (K:W.Frag):R2:=fun x y H Q=>∃ p xs i v,x=.ref p∧y=.int i∧SqL K H p xs∧atI xs i=some v∧Q v H
def ade (K:W.Frag):R2:=fun x y H Q=>∃ p xs i v,x=.ref p∧y=.int i∧SqT K H p xs∧atI xs i=some v∧Q v H
theorem ck:IxR X (adb X.K):=by
  intro value slice pins s σ H x y v u Q I rx ry h hs
  obtain ⟨p,xs,i,z,rfl,rfl,hq,he,q⟩:=h
  cases rx
  obtain ⟨t,rfl⟩:=ry
  obtain ⟨its,r,pl,hz⟩:=I.list hq
  obtain ⟨j,h1,h2,h3,h4,h5⟩:=Nm he
  obtain ⟨w,ew,rw'⟩:=r.get h2
  have hl:=r.length
  have hn:=Jz
  have fin:EP X pins σ Q w s:=⟨z,H,I,rw',q⟩
  by_cases h0:0≤i
  · have hj:i.toNat=j:=by
      rw [seqIndex_of h0 h5] at h1
      exact Option.some.inj h1
    exact item_listR pl.isList h0 (by omega) (by rw [hj];simpa using ew) fin hs
  · have hj:(i+(its.toArray.size:Int)).toNat=j:=by
      rw [seqIndex_neg (by omega) h4] at h1
      rw [List.size_toArray,←hl]
      exact Option.some.inj h1
    exact subscriptTail_builtinR (x:=w) pl.isList.typeIs slot_list_getitem.lookup
      (wpAny_getItem_list_neg (Q:=fun r s'=>r=w∧EP X pins σ Q r s') pl.isList (by omega) (by rw [List.size_toArray]<;>omega) (by omega) (by rw [hj];simpa using ew) ⟨rfl,fin⟩) hs
theorem cn:IxR X (ade X.K):=by
  intro value slice pins s σ H x y v u Q I rx ry h hs
  obtain ⟨p,xs,i,z,rfl,rfl,hq,he,q⟩:=h
  cases rx
  obtain ⟨t,rfl⟩:=ry
  obtain ⟨its,r,pl,hz⟩:=I.tuple hq
  obtain ⟨j,h1,h2,h3,h4,h5⟩:=Nm he
  obtain ⟨w,ew,rw'⟩:=r.get h2
  have hl:=r.length
  have hn:=Jz
  have fin:EP X pins σ Q w s:=⟨z,H,I,rw',q⟩
  exact subscriptTail_builtinR (x:=w) pl.typeIs slot_tuple_getitem.lookup
    (getItem_tuple (j:=j) (Q:=fun r s'=>r=w∧EP X pins σ Q r s') pl (by omega) (by omega) (by rw [List.size_toArray,←hl];exact h1) (by simpa using ew) ⟨rfl,fin⟩) hs
theorem L8 (its:List Value) (n j:Nat) (u:Value):Obj.mapSeq (·.setIfInBounds j u) {cls:=.type "list",data:=.seq its.toArray n}={cls:=.type "list",data:=.seq (its.set j u).toArray n}:=by
  simp [Obj.mapSeq]
theorem Inv.lst {pins:List (Addr×Obj)} {σ:St} {H:Hp} {s:Shared} {p:Addr} {xs:List V} (I:Inv X pins σ H s) (h:H p=some (.lst xs)) :
    ∃ (its:List Value) (n:Nat),Vals xs its∧s.heap.get? p=some {cls:=.type "list",data:=.seq its.toArray n}∧xs.length≤sizeLine:=by
  obtain ⟨z,its,n,r,e⟩:=I.hok p _ h
  exact ⟨its,n,r,e,z⟩
theorem Inv.XX {pins:List (Addr×Obj)} {σ:St} {H:Hp} {s:Shared} {p:Addr} {xs ys:List V} {its GX:List Value} {n n':Nat} {f:Obj→Obj} (I:Inv X pins σ H s) (h:H p=some (.lst xs))
    (ho:s.heap.get? p=some {cls:=.type "list",data:=.seq its.toArray n}) (hf:f {cls:=.type "list",data:=.seq its.toArray n}={cls:=.type "list",data:=.seq GX.toArray n'}) (r:Vals ys GX) (hz:ys.length≤sizeLine) (t:Nat) :
    Inv X pins σ (upd H p (.lst ys)) {s with heap:=s.heap.update p f,toks:=t}:=by
  have e:(s.heap.update p f).get? p=some {cls:=.type "list",data:=.seq GX.toArray n'}:=by
    rw [Heap.get?_update_self f ho (by rw [hf]<;>rfl),hf]
  refine I.write (x:=p) (e:=p) (by rw [h];trivial) (.inl rfl) (fun b u hb q=>(Heap.get?_update_other _ _ (Ne.symm hb)).trans q) ⟨_,e⟩ ?_
  exact ⟨hz,GX,n',r,e⟩
def abe:V→V→V→Hp→(Hp→Prop)→Prop:=fun o i v H Q=>∃ p xs k j,o=.ref p∧i=.int k∧H p=some (.lst xs)∧ixN xs.length k=some j∧Q (upd H p (.lst (xs.set j v)))
theorem set_list:abY X abe:=by
  intro pins s σ H o i v ov iv u Q I ro ri rv h
  obtain ⟨p,xs,k,j,rfl,rfl,hp,hj,q⟩:=h
  cases ro
  obtain ⟨t,rfl⟩:=ri
  obtain ⟨its,n,r,ho,hz⟩:=I.lst hp
  obtain ⟨h1,h2,h3,h4⟩:=Nl hj
  have hl:=r.length
  have hn:=Jz
  have I':Inv X pins σ (upd H p (.lst (xs.set j v))) {s with heap:=s.heap.update p (Obj.mapSeq (·.setIfInBounds j u))} :=
    I.XX hp ho (L8 its n j u) (r.set rv j) (by rw [List.length_set];exact hz) s.toks
  by_cases h0:0≤k
  · have hk:k.toNat=j:=by
      rw [seqIndex_of h0 h4] at h1
      exact Option.some.inj h1
    exact PySem.W.ki_setAt ho h0 (by omega) (by rw [List.size_toArray,←hl];exact h4) (by rw [hk];exact ⟨_,I',q⟩)
  · have hk:(k+(its.toArray.size:Int)).toNat=j:=by
      rw [seqIndex_neg (by omega) h3] at h1
      rw [List.size_toArray,←hl]
      exact Option.some.inj h1
    exact PySem.W.ki_setBack ho (by omega) (by rw [List.size_toArray,←hl];exact h3) (by omega) (by rw [hk];exact ⟨_,I',q⟩)
theorem Hw (lo hi:Option Int) (n:Nat):(sliceBounds lo hi none n).1=((HT.sIx n 0 lo:Nat):Int)∧(sliceBounds lo hi none n).2.1=((HT.sIx n n hi:Nat):Int)∧(sliceBounds lo hi none n).2.2=1:=by
  refine ⟨?_,?_,rfl⟩
  · cases lo with
    | none=>simp [sliceBounds,HT.sIx]
    | some i =>
      simp only [sliceBounds,HT.sIx,Option.getD_none,show (1:Int)>0 by decide,if_true]
      by_cases h:i<0
      · simp only [h,if_true]<;>omega
      · simp only [h,if_false]<;>omega
  · cases hi with
    | none=>simp [sliceBounds,HT.sIx]
    | some i =>
      simp only [sliceBounds,HT.sIx,Option.getD_none,show (1:Int)>0 by decide,if_true]
      by_cases h:i<0
      · simp only [h,if_true]<;>omega
      · simp only [h,if_false]<;>omega
theorem F9 (its:List Value) (lo hi:Option Int):slicePick its.toArray lo hi none=((its.drop (HT.sIx its.length 0 lo)).take (HT.sIx its.length its.length hi-HT.sIx its.length 0 lo)).toArray:=by
  obtain ⟨h1,h2,h3⟩:=Hw lo hi its.toArray.size
  unfold slicePick
  rw [h1,h2,h3]
  simp only [sliceRange_one,pick_run,List.size_toArray]<;>rfl
def adf (K:W.Frag):V→Option Int→Option Int→Hp→VK→Prop:=fun x lo hi H Q=>∃ a xs,x=.ref a∧SqL K H a xs∧∀ p,H p=none→Q (.ref p) (upd H p (.lst (vz xs lo hi)))
theorem Jj:SlR X (adf X.K):=by
  intro pins s σ H x v vl vu lo hi sl Q I rx hs pl pu h
  obtain ⟨a,xs,rfl,hx,q⟩:=h
  cases rx
  obtain ⟨its,r,ht,hz⟩:=I.list hx
  have hlen:=r.length
  refine ⟨"list",_,slot_list_getitem.lookup,ht.isList.typeIs,?_⟩
  refine wpAny_getItem_list_slice ht.isList hs pl pu .none (by simp) ?_ (by rw [List.size_toArray]<;>omega)
  rw [F9,←hlen]
  refine ⟨.ref s.heap.objs.size,_,I.laid (t':=s.toks) (o:=.lst (vz xs lo hi)) (fun b ob q=>Heap.get?_push_of_some _ q) (Nat.le_refl _) ?_,rfl,q _ (I.hok.fresh (Nat.le_refl _))⟩
  exact ⟨Nat.le_trans (oU xs lo hi) hz,_,0,(r.drop (HT.sIx xs.length 0 lo)).take (HT.sIx xs.length xs.length hi-HT.sIx xs.length 0 lo),Heap.get?_push_size _ rfl⟩
def mx:V→Bool
  | .non=>true
  | .bl _=>true
  | .int _=>true
  | .str _=>true
  | _=>false
def eqV:V→V→Bool
  | .non,.non=>true
  | .bl a,.bl b=>a == b
  | .bl a,.int b=>(if a then 1 else 0) == b
  | .int a,.bl b=>a == (if b then 1 else 0)
  | .int a,.int b=>a == b
  | .str a,.str b=>a == b
  | _,_=>false
theorem M0 {A:Around} {s:Shared} {y x:V} {u v:Value} (ry:RelV y u) (rx:RelV x v) (fy:mx y=true) (fx:mx x=true):SeqAt.EqAt A s u v (eqV y x):=by
  cases y with
  | non =>
    cases ry
    cases x with
    | non=>cases rx;exact SeqAt.EqAt.same _
    | bl b=>cases rx;exact SeqAt.EqAt.none_bool b
    | int b=>obtain ⟨t,rfl⟩:=rx;exact SeqAt.EqAt.none_int b t
    | str b=>obtain ⟨t,rfl⟩:=rx;exact SeqAt.EqAt.none_str b t
    | _=>exact absurd (show false=true from fx) Bool.false_ne_true
  | bl a =>
    cases ry
    cases x with
    | non=>cases rx;exact SeqAt.EqAt.bool_none a
    | bl b=>cases rx;exact SeqAt.EqAt.bool_bool a b
    | int b=>obtain ⟨t,rfl⟩:=rx;exact SeqAt.EqAt.bool_int a b t
    | str b=>obtain ⟨t,rfl⟩:=rx;exact SeqAt.EqAt.bool_str a b t
    | _=>exact absurd (show false=true from fx) Bool.false_ne_true
  | int a =>
    obtain ⟨t',rfl⟩:=ry
    cases x with
    | non=>cases rx;exact SeqAt.EqAt.int_none a t'
    | bl b=>cases rx;exact SeqAt.EqAt.int_bool a t' b
    | int b=>obtain ⟨t,rfl⟩:=rx;exact SeqAt.EqAt.int_int a t' b t
    | str b=>obtain ⟨t,rfl⟩:=rx;exact SeqAt.EqAt.int_str a t' b t
    | _=>exact absurd (show false=true from fx) Bool.false_ne_true
  | str a =>
    obtain ⟨t',rfl⟩:=ry
    cases x with
    | non=>cases rx;exact SeqAt.EqAt.str_none a t'
    | bl b=>cases rx;exact SeqAt.EqAt.str_bool a t' b
    | int b=>obtain ⟨t,rfl⟩:=rx;exact SeqAt.EqAt.str_int a t' b t
    | str b=>obtain ⟨t,rfl⟩:=rx;exact SeqAt.EqAt.str_str a t' b t
    | _=>exact absurd (show false=true from fx) Bool.false_ne_true
  | _=>exact absurd (show false=true from fy) Bool.false_ne_true
def eqU (x:V) (u:Value):Bool:=match u with
  | .none=>eqV .non x
  | .bool b=>eqV (.bl b) x
  | .int i _=>eqV (.int i) x
  | .str z _=>eqV (.str z) x
  | _=>false
theorem Qi {x y:V} {u:Value} (r:RelV y u) (f:mx y=true):eqU x u=eqV y x:=by
  cases y with
  | non=>cases r;rfl
  | bl b=>cases r;rfl
  | int i=>obtain ⟨t,rfl⟩:=r;rfl
  | str z=>obtain ⟨t,rfl⟩:=r;rfl
  | _=>exact absurd (show false=true from f) Bool.false_ne_true
theorem Jk {x:V}:∀ {xs:List V} {us:List Value},Vals xs us→xs.all mx=true→us.any (eqU x)=xs.any fun y=>eqV y x
  | _,_,.nil,_=>rfl
  | y::xs,u::us,.cons r t,f=>by
    rw [List.all_cons,Bool.and_eq_true] at f
    rw [List.any_cons,List.any_cons,Qi r f.1,Jk t f.2]
theorem FQ {A:Around} {s:Shared} {x:V} {v:Value} (rx:RelV x v) (fx:mx x=true):∀ {xs:List V} {us:List Value},Vals xs us→xs.all mx=true→∀ u∈us,SeqAt.EqAt A s u v (eqU x u)
  | _,_,.nil,_=>fun u hu=>by cases hu
  | y::xs,u::us,.cons r t,f=>fun u' hu=>by
    rw [List.all_cons,Bool.and_eq_true] at f
    rcases List.mem_cons.mp hu with rfl|hu
    · rw [Qi r f.1];exact M0 r rx f.1 fx
    · exact FQ rx fx t f.2 u' hu
def inV (x:V) (xs:List V):Bool:=xs.any fun y=>eqV y x
def rIn (K:W.Frag) (neg:Bool):R2:=fun x y H Q=>∃ p xs,y=.ref p∧(SqL K H p xs∨SqT K H p xs)∧mx x=true∧xs.all mx=true∧Q (.bl (if neg then !inV x xs else inV x xs)) H
theorem G8:OpR X (compareOp .In) (rIn X.K false):=by
  intro pins s σ H x y v u Q I rx ry h
  obtain ⟨p,xs,rfl,hq,fx,fs,q⟩:=h
  cases ry
  rcases hq with hq|hq
  · obtain ⟨its,r,pl,hz⟩:=I.list hq
    refine SeqAt.in_listAt (eqU x) pl.isList (fun w hw=>FQ rx fx r fs w (by simpa using hw)) ⟨.bl _,H,I,rfl,?_⟩
    rw [show its.toArray.any (eqU x)=its.any (eqU x) by simp,Jk r fs]
    exact q
  · obtain ⟨its,r,pl,hz⟩:=I.tuple hq
    refine SeqAt.in_tupleAt (eqU x) pl (fun w hw=>FQ rx fx r fs w (by simpa using hw)) ⟨.bl _,H,I,rfl,?_⟩
    rw [show its.toArray.any (eqU x)=its.any (eqU x) by simp,Jk r fs]
    exact q
theorem gI:xQ X (.builtin "len") (fun xs H Q=>∃ p ys,xs=[.ref p]∧(SqL X.K H p ys∨SqT X.K H p ys)∧Q (.int ys.length) H):=by
  intro pins s σ H xs us Q I r h
  obtain ⟨p,ys,rfl,hq,q⟩:=h
  obtain ⟨u,rfl,rx⟩:=vals1 r
  cases rx
  have hn:=Jz
  rcases hq with hq|hq
  · obtain ⟨its,r',pl,hz⟩:=I.list hq
    have hlen:=r'.length
    exact Calls.call_len_list pl.isList (by simp only [List.size_toArray]<;>omega) ⟨.int ys.length,H,I.tok _,⟨s.toks+1,by rw [List.size_toArray,hlen]⟩,q⟩
  · obtain ⟨its,r',pl,hz⟩:=I.tuple hq
    have hlen:=r'.length
    exact len_tuple pl (by simp only [List.size_toArray]<;>omega) ⟨.int ys.length,H,I.tok _,⟨s.toks+1,by rw [List.size_toArray,hlen]⟩,q⟩
theorem mS:xQ X (.type "list") (fun xs H Q=>∃ p ys,xs=[.ref p]∧(SqL X.K H p ys∨SqT X.K H p ys)∧∀ l,H l=none→Q (.ref l) (upd H l (.lst ys))):=by
  intro pins s σ H xs us Q I r h
  obtain ⟨p,ys,rfl,hq,q⟩:=h
  obtain ⟨u,rfl,rx⟩:=vals1 r
  cases rx
  have fin:∀ (its:List Value),Vals ys its→ys.length≤sizeLine→∀ (h':Heap) (c':Nat),(∀ b o',s.heap.get? b=some o'→h'.get? b=some o') →
      h'.get? s.heap.objs.size=some {cls:=.type "list",dict:=none,data:=.seq its.toArray c',slots:=#[]}→EP X pins σ Q (.ref s.heap.objs.size) {s with heap:=h'}:=fun its r' hz h' c' kp e =>
    ⟨.ref s.heap.objs.size,_,I.laid (t':=s.toks) kp (Nat.le_refl _) (show hV X.prog X.w _ h' _ (.lst ys) from ⟨hz,its,c',r',e⟩),rfl,q _ (I.hok.fresh (Nat.le_refl _))⟩
  rcases hq with hq|hq
  · obtain ⟨its,r',pl,hz⟩:=I.list hq
    have hlen:=r'.length
    obtain ⟨o,ho,hc,n,hd⟩:=pl.isList
    exact call_list_seq p (.inl rfl) ho hc hd (fun h' c' kp e=>fin its r' hz h' c' kp e) (by simp only [List.size_toArray]<;>omega)
  · obtain ⟨its,r',pl,hz⟩:=I.tuple hq
    have hlen:=r'.length
    obtain ⟨o,ho,hc,n,hd⟩:=pl
    exact call_list_seq p (.inr rfl) ho hc hd (fun h' c' kp e=>fin its r' hz h' c' kp e) (by simp only [List.size_toArray]<;>omega)
def tyV (K:W.Frag) (T:String) (x:V) (H:Hp):Prop:=match x with
  | .str _=>T = "str"
  | .int _=>T = "int"
  | .ref p=>(T = "list" ∧ ∃ xs,SqL K H p xs)∨(T = "tuple" ∧ ∃ o,K.lookup p=some o∧o.cls=.type "tuple" ∧ o.dict=none) ∨
      (T = "dict" ∧ ((∃ kvs,H p=some (.dK kvs))∨∃ kvs,H p=some (.dT kvs)))∨(T = "set" ∧ ∃ S n,H p=some (.set S n))
  | _=>False
theorem XY {pins:List (Addr×Obj)} {σ:St} {H:Hp} {s:Shared} {T:String} {x:V} {v:Value} (I:Inv X pins σ H s) (r:RelV x v) (ty:tyV X.K T x H) :
    s.TypeIs v T∧∀ a,v=.ref a→∃ ob,s.heap.get? a=some ob∧ob.dict=none:=by
  cases x with
  | str z =>
    obtain ⟨t,rfl⟩:=r
    cases (show T = "str" from ty)
    exact ⟨typeIs_str s z t,fun _ e=>nomatch e⟩
  | int i =>
    obtain ⟨t,rfl⟩:=r
    cases (show T = "int" from ty)
    exact ⟨typeIs_int s i t,fun _ e=>nomatch e⟩
  | ref p =>
    cases r
    rcases ty with ⟨rfl,xs,hq⟩|⟨rfl,o,hk,hc,hd⟩|⟨rfl,hk⟩|⟨rfl,S,n,hk⟩
    · obtain ⟨its,_,pl,_⟩:=I.list hq
      refine ⟨pl.isList.typeIs,fun a e=>?_⟩
      cases e
      obtain ⟨o,n,e,c,hd,_⟩:=pl
      exact ⟨o,e,hd⟩
    · refine ⟨⟨o,I.kIn p o hk,hc⟩,fun a e=>?_⟩
      cases e
      exact ⟨o,I.kIn _ o hk,hd⟩
    · have z:∃ o,s.heap.get? p=some o∧o.ExactDict:=by
        rcases hk with ⟨kvs,hk⟩|⟨kvs,hk⟩
        · obtain ⟨_,_,_,_,o,_,_,e,ex,_⟩:=I.hok p _ hk
          exact ⟨o,e,ex⟩
        · obtain ⟨_,_,_,_,o,_,_,e,ex,_⟩:=I.hok p _ hk
          exact ⟨o,e,ex⟩
      obtain ⟨o,e,ex⟩:=z
      refine ⟨⟨o,e,ex.1⟩,fun a e2=>?_⟩
      cases e2
      exact ⟨o,e,ex.2.1⟩
    · obtain ⟨o,_,_,_,e,ex,_⟩:=I.hok p _ hk
      refine ⟨⟨o,e,ex.1⟩,fun a e2=>?_⟩
      cases e2
      exact ⟨o,e,ex.2.1⟩
  | _=>exact False.elim ty
def tBM (K:W.Frag) (T:String) (r:V→List V→Hp→VK→Prop) (to:TE) (t:TA):TE:=fun σ H Q=>to σ H fun x H1=>tyV K T x H1∧t σ H1 fun xs H2=>r x xs H2 Q
variable {o e:Expr} {es:List Expr} {to:TE} {t:TA} {name:Str} {apos Bj:Pos} {T id:String} {r:V→List V→Hp→VK→Prop}
theorem OS (pa:PlainAttrs T) (slot:Slot T name id) (hty:typeOf (.builtin id)=pure (.type "method_descriptor")) (hm:MtR X id r) (ho:PE X o to) (ha:PA X (e::es) t)
    (abf:attributeBase o name X.env (eval o X.env)=eval o X.env:=by rfl)
    (Rw:((backTo Bj (starEach (e::es) X.env)).all (fun x=>!x.1)&&(backToKw Bj (keywordEach [] X.env)).all (fun x=>x.1.isSome)
      && decide ((e::es).length+([]:List Keyword).length+(if ([]:List Keyword).isEmpty then 0 else 1)<30))=true:=by rfl)
    (abg:(apos.endLine == Bj.line)=true:=by rfl) (hs:starEach (e::es) X.env=(false,eval e X.env)::starEach es X.env:=by rfl) (XZ:(backTo Bj (starEach es X.env)).any (·.1)=false:=by rfl) :
    PE X (.Call (.Attribute o name apos) (e::es) [] Bj) (tBM X.K T r to t):=by
  intro pins s σ H Q I h
  refine wpAny_Call_method_late abf Rw abg rfl (thn (ho pins s σ H _ I h) fun v s1 ⟨x,H1,I1,r1,ty,q1⟩=>?_)
  obtain ⟨h1,h2⟩:=XY I1 r1 ty
  refine ⟨T,id,pa,slot,hty,h1,h2,?_⟩
  have hA:=ha Bj pins s1 σ H1 _ I1 q1
  rw [hs] at hA ⊢
  refine Calls.callWith_builtin (by show (false||(backTo Bj (starEach es X.env)).any (·.1))=false;rw [XZ]<;>rfl) (Calls.evalArgs_plain ?_)
  exact thn hA fun us s2 ⟨vs,H2,I2,r2,q2⟩=>hm pins s2 σ H2 x vs v us Q I2 r1 r2 q2
end
end L2
namespace L2
open PySem PySem.Spec PyProof.Rows
def MtM (X:Cx) (id:String) (r:V→List V→Hp→VK→Prop):Prop :=
  ∀ (pins:List (Addr×Obj)) (s:Shared) (σ:St) (H:Hp) (x:V) (xs:List V) (v:Value) (us:List Value) (Q:VK),Inv X pins σ H s→RelV x v→Vals xs us→r x xs H Q →
    wpAny (model X.prog X.w) X.A (call (.builtin id) (v::us)) (EP X pins σ Q) X.xe s
theorem Vals.one:∀ {x:V} {us:List Value},Vals [x] us→∃ u,us=[u]∧RelV x u
  | _,_,.cons r .nil=>⟨_,rfl,r⟩
theorem Vals.rep {xs:List V} {us:List Value} (h:Vals xs us):∀ k:Nat,Vals (List.replicate k xs).flatten (List.replicate k us).flatten
  | 0=>.nil
  | k+1=>by
    rw [List.replicate_succ,List.replicate_succ,List.flatten_cons,List.flatten_cons]
    exact Vals.append h (Vals.rep h k)
theorem foldl_rep (its:List Value):∀ (k:Nat) (acc:List Value),
    List.foldl (fun x1 x2=>x1++x2) acc.toArray (List.replicate k its.toArray)=(acc++(List.replicate k its).flatten).toArray
  | 0,acc=>by simp
  | k+1,acc=>by
    have e:acc.toArray++its.toArray=(acc++its).toArray:=by simp
    have e2:(acc++its)++(List.replicate k its).flatten=acc++(List.replicate (k+1) its).flatten:=by
      rw [List.replicate_succ,List.flatten_cons,List.append_assoc]
    rw [←e2,←foldl_rep its k (acc++its),←e,List.replicate_succ,List.foldl_cons]
section
variable {X:Cx} {pins:List (Addr×Obj)} {σ:St} {H:Hp} {s:Shared} {l b:Addr} {xs ys zs:List V}
theorem Inv.ab2 {its GX:List Value} {n:Nat} {f:Array Value→Array Value} {t':Nat} (I:Inv X pins σ H s) (hH:H l=some (.lst xs))
    (e:s.heap.get? l=some {cls:=.type "list",data:=.seq its.toArray n}) (hf:f its.toArray=GX.toArray) (hv:Vals ys GX) (hz:ys.length≤sizeLine) :
    Inv X pins σ (upd H l (.lst ys)) {s with heap:=s.heap.update l (Obj.mapSeq f),toks:=t'}:=by
  have q:=PySem.IsL.update e f
  rw [hf] at q
  refine I.write (x:=l) (e:=l) (by rw [hH];exact trivial) (.inl rfl) (fun b' u hb hu=>(Heap.get?_update_other s.heap (Obj.mapSeq f) (Ne.symm hb)).trans hu) ⟨_,q⟩ ?_
  exact ⟨hz,GX,_,hv,q⟩
theorem Inv.Qj {its:List Value} {t':Nat} (I:Inv X pins σ H s) (hv:Vals ys its) (hz:ys.length≤sizeLine) :
    Inv X pins σ (upd H s.heap.objs.size (.lst ys)) {s with heap:=s.heap.push {cls:=.type "list",data:=.seq its.toArray},toks:=t'} :=
  I.laid (fun _ _ q=>Heap.get?_push_of_some _ q) (Nat.le_refl _) ⟨hz,its,0,hv,Heap.get?_push_size _ rfl⟩
theorem Inv.fresh (I:Inv X pins σ H s):H s.heap.objs.size=none:=I.hok.fresh (Nat.le_refl _)
theorem Inv.US (I:Inv X pins σ H s) (hH:H l=some (.lst xs)):xs.length≤sizeLine∧∃ (its:List Value) (n:Nat),Vals xs its∧xs.length=its.length∧s.heap.get? l=some {cls:=.type "list",data:=.seq its.toArray n}:=by
  obtain ⟨z,its,n,r,e⟩:=I.hok l _ hH
  exact ⟨z,its,n,r,r.length,e⟩
theorem Ld {n:Nat} (h:n≤sizeLine):Builtin.List.listTooLong n=false:=by
  unfold Builtin.List.listTooLong
  exact decide_eq_false (by omega)
end
section
variable {X:Cx}
def Rx:V→List V→Hp→VK→Prop:=fun x vs H Q=>∃ l xs y,x=.ref l∧vs=[y]∧H l=some (.lst xs)∧xs.length<sizeLine∧Q .non (upd H l (.lst (xs++[y])))
theorem vm:MtM X "list.append" Rx:=by
  intro pins s σ H x vs v us Q I rx rv h
  obtain ⟨l,xs,y,rfl,rfl,hH,hz,q⟩:=h
  cases rx
  obtain ⟨u,rfl,ru⟩:=rv.one
  obtain ⟨z,its,n,r,hl,e⟩:=I.US hH
  refine call_meets F.slot_list_append ⟨_,e,rfl⟩ F.entry_list_append (F.args_list_append_2 _ _) (PySem.list_append l its.toArray n u (by rw [List.size_toArray];omega)) ⟨e,?_⟩
  refine ⟨.non,_,I.ab2 (GX:=its++[u]) hH e (by simp) (r.append (.cons ru .nil)) ?_,rfl,q⟩
  rw [List.length_append,List.length_singleton]
  omega
def Ry:V→List V→Hp→VK→Prop:=fun x vs H Q=>∃ l b xs zs,x=.ref l∧vs=[.ref b]∧H l=some (.lst xs)∧H b=some (.lst zs)∧xs.length+zs.length≤sizeLine∧Q .non (upd H l (.lst (xs++zs)))
theorem Oe:MtM X "list.extend" Ry:=by
  intro pins s σ H x vs v us Q I rx rv h
  obtain ⟨l,b,xs,zs,rfl,rfl,hH,hB,hz,q⟩:=h
  cases rx
  obtain ⟨u,rfl,ru⟩:=rv.one
  cases ru
  obtain ⟨z,its,n,r,hl,e⟩:=I.US hH
  obtain ⟨z2,UT,n2,r2,hl2,e2⟩:=I.US hB
  have hsz:its.toArray.size+UT.toArray.size≤sizeLine:=by rw [List.size_toArray,List.size_toArray];omega
  have Q0:¬(!its.toArray.isEmpty&&Builtin.List.listTooLong (its.toArray.size+UT.toArray.size))=true:=by
    rw [Ld hsz,Bool.and_false]
    exact Bool.false_ne_true
  refine call_meets F.slot_list_extend ⟨_,e,rfl⟩ F.entry_list_extend (F.args_list_extend_2 _ _)
    (AutoSeq1.list_extend_list_list_0 l its.toArray n b UT.toArray n2 Q0 (by rw [List.size_toArray];omega) (by omega)) ⟨e,e2,?_⟩
  refine ⟨.non,_,I.ab2 (GX:=its++UT) hH e (by simp) (r.append r2) ?_,rfl,q⟩
  rw [List.length_append]
  omega
def adg:R2:=fun x y H Q=>∃ l k xs,x=.ref l∧y=.int k∧H l=some (.lst xs)∧-(2 ^ 63)≤k∧k<2 ^ 63∧xs.length*k.toNat≤sizeLine ∧
  ∀ p,H p=none→Q (.ref p) (upd H p (.lst (List.replicate k.toNat xs).flatten))
theorem len_rep {α:Type} (xs:List α) (k:Nat):(List.replicate k xs).flatten.length=k*xs.length:=by
  induction k with
  | zero=>simp
  | succ k ih=>rw [List.replicate_succ,List.flatten_cons,List.length_append,ih,Nat.succ_mul,Nat.add_comm]
theorem JA:OpR X (binaryOp .Mult) adg:=by
  intro pins s σ H x y v u Q I rx ry h
  obtain ⟨l,k,xs,rfl,rfl,hH,h1,h2,hz,q⟩:=h
  cases rx
  obtain ⟨t,rfl⟩:=ry
  obtain ⟨z,its,n,r,hl,e⟩:=I.US hH
  have hlen:its.toArray.size*k.toNat≤sizeLine:=by rw [List.size_toArray,←hl];exact hz
  have adh:¬its.toArray.size*k.toNat>(2 ^ 63-1)/8:=by
    have:(sizeLine:Nat)≤(2 ^ 63-1)/8:=by decide
    omega
  have adi:¬(!Builtin.List.listFitsIndex k)=true:=by
    rw [fitsIndex_both h1 h2]
    exact Bool.false_ne_true
  have Q0:¬Builtin.List.listTooLong (its.toArray.size*k.toNat)=true:=by
    rw [Ld hlen]
    exact Bool.false_ne_true
  have adj:List.foldl (fun x1 x2=>x1++x2) #[] (List.replicate (if its.toArray.isEmpty=true then 0 else k.toNat) its.toArray)=(List.replicate k.toNat its).flatten.toArray:=by
    have f0:∀ m:Nat,List.foldl (fun x1 x2=>x1++x2) #[] (List.replicate m its.toArray)=(List.replicate m its).flatten.toArray:=fun m=>by
      have:=foldl_rep its m []
      rw [List.nil_append] at this
      exact this
    rw [f0]
    cases its with
    | nil=>simp
    | cons a r'=>rw [if_neg (by simp)]
  refine wpAny_binaryOp_repeat_ref (T := "list") (U := "int") (by decide) ⟨_,e,rfl⟩ (fun s'=>typeIs_int s' k t) noFill_list_mul F.fills_int_mul F.slot_int_rmul repeat_list F.slot_int_index.lookup
    (call_meets F.slot_int_rmul (typeIs_int s k t) F.entry_int_rmul (F.args_int_rmul_2 _ _) (int___rmul___int_list k t l its.toArray n)
      ⟨e,rfl,⟨_,e,rfl⟩,call_meets F.slot_list_mul ⟨_,e,rfl⟩ F.entry_list_mul (F.args_list_mul_2 _ _) (AutoListH.list___mul___list_int_3 l its.toArray n k t adi adh Q0) ⟨e,?_⟩⟩)
  rw [adj]
  exact ⟨.ref _,_,I.Qj (t':=s.toks) (r.rep k.toNat) (by rw [len_rep,Nat.mul_comm];exact hz),rfl,q _ I.fresh⟩
end
section
variable {prog:Program} {w:World} {A:Around} {E:Value→Shared→Prop} {s:Shared}
end
section
variable {X:Cx}
end
end L2
namespace Att
open PySem PySem.W PySem.Calls PyProof.Rows
theorem DL {P:Params} {h:Heap}:∀ (ns:List Int) (vs:List Value),WellAll P h vs (ns.map WData.int)→IntsAre vs ns:=by
  intro ns
  induction ns with
  | nil =>
    intro vs w
    rw [List.map_nil] at w
    cases w
    exact .nil
  | cons n ns ih =>
    intro vs w
    rw [List.map_cons] at w
    cases w with
    | cons a b =>
      cases a
      exact .cons _ _ (ih _ b)
theorem Of {l:OpenLaw} {n:Nat} (hn:l.most=some n) {P:Params} {h:Heap} {args:List WData} {vals:List Value}
    (UU:l.row.toRowW.claim.pre args=true) (hwl:WellAll P h vals args) :
    ∃ a vs ns,vals=[Value.ref a]∧args=[WData.list (ns.map WData.int)]∧h.get? a=some {cls:=.type "list",data:=.seq vs.toArray}∧IntsAre vs ns∧ns.length≤n:=by
  have hsh:WShape.hasAll [] args [.list .int]=true:=(pre_splitW UU).1
  have hc:l.pre.holds [] {args:=args}=true:=(pre_splitW UU).2
  obtain ⟨d,r,rfl,h1,h2⟩:=hasAllW_cons hsh
  obtain rfl:=hasAllW_nil h2
  obtain ⟨xs,rfl,h3⟩:=hasW_list h1
  obtain ⟨ns,rfl⟩:=items_int h3
  have hlen:ns.length≤n:=by
    unfold OpenLaw.pre at hc
    have h4:(WTm.not (.lt (.lit (.int (n:Int))) (.len (.arg 0)))).holds [] {args:=[.list (ns.map .int)]}=true:=by
      have h4:=(holds_andW hc).1
      rw [hn] at h4
      exact h4
    have h5:=condW_of h4 (w_not (w_lt w_lit (w_len_list (w_arg rfl))))
    rw [List.length_map] at h5
    refine Nat.le_of_not_lt fun q=>?_
    have q':(n:Int)<((ns.length:Nat):Int):=by omega
    first
      | (rw [decide_eq_true q'] at h5;exact absurd h5 (by decide))
      | (simp at h5;omega)
  cases hwl with
  | cons w1 w2 =>
    cases w2
    cases w1 with
    | list ho EA=>exact ⟨_,_,ns,rfl,rfl,ho,DL ns _ EA,hlen⟩
theorem Og (l:OpenLaw) (args:List WData):l.row.toRowW.claim.post args (.bool true) args=true :=
  postW_of (r:=l.row.toRowW) (X:=(true == true))
    (show WShape.has [] (.bool true) .bool=true by first|rfl|decide|simp [WShape.has,WShape.arms,WShape.armsAll])
    (show (WTm.eq .res (.lit (.bool true))).value [] {args:=args,res:=some (.bool true),after:=args}=some (.bool (true == true)) from w_eq_bool (w_res rfl) w_lit) rfl
theorem JW {l:OpenLaw} {n:Nat} {q:Program} {loose:List Str} {XP:(Str→Option Value)→Heap→Prop} {YP:World→Heap→Prop} {d:DefRec}
    (hn:l.most=some n) (hdf:d.params.defaults=[])
    (call:∀ (w:World) (s₀ s₁:Shared) (mg mb:Str→Option Value) (fa:Addr) (o:Obj) (pm cd doc:Value) (a:Addr) (vs:List Value) (ns:List Int),
      Ground q loose [] XP w s₀ mg mb s₁.heap→YP w s₁.heap →
      s₁.heap.get? fa=some o→o.data=.func (docDef d.name d.params d.body d.scope pm cd doc)→s₁.heap.CodeRec cd d.name→mg d.name=some (.ref fa) →
      s₁.heap.get? a=some {cls:=.type "list",data:=.seq vs.toArray}→IntsAre vs ns→ns.length≤n→s₁.gens=#[] →
      codeAny (model l.prog w) callerA (.call (.ref fa) ⟨[.ref a],[]⟩) (fun r s'=>r=.ok (.ret (.bool true))∧OldK s₁.heap s'.heap∧s'.os=s₁.os∧AllBare s'.gens) s₁) :
    WalkO q loose XP YP l.row.toRowW d [] (fun f vs=>PySem.call f vs):=by
  intro w s₀ s₁ mg mb G Y fa o pm cd doc dV kV ho hd hcd hD hmg hg args vals as UU hlay hrd hwl hlo
  obtain rfl:dV=.none:=Dflts.none hD hdf
  obtain rfl:kV=.none:=Dflts.noKw hD
  obtain ⟨a,vs,ns,rfl,rfl,YF,hints,hlen⟩:=Of hn UU hwl
  refine enter_call (codeAny_mono (call w s₀ s₁ mg mb fa o pm cd doc a vs ns G Y ho (fd_plain hd) hcd hmg YF hints hlen hg) fun r s' hq=>?_)
  obtain ⟨rfl,h2,h3,h4⟩:=hq
  exact ⟨.inl ⟨.bool true,.bool true,[],rfl,fun _=>rfl,.bool true,Og l _,fun _=>⟨List.Pairwise.nil,fun _ hm=>(nomatch hm)⟩⟩,h2,h3,h4⟩
section
variable {prog:Program} {w:World} {A:Around} {E:Value→Shared→Prop} {s:Shared} {K:Frag}
end
end Att
namespace L2
open PySem PySem.Spec PyProof.Rows
theorem qj:∀ {vs:List Value} {ns:List Int},IntsAre vs ns→Vals (ns.map V.int) vs
  | _,_,.nil=>.nil
  | _,_,.cons n t h=>.cons ⟨t,rfl⟩ (qj h)
def YG (H:Hp):Prop:=∀ b,H b=none∨∃ o xs,H b=some (.frz o (.lst xs))
theorem Pn {P:Program} {w:World} {K:W.Frag} {mg mb:Str→Option Value} {CX:CXT} {k:Nat} {fa a:Addr} {fd:FuncData} {x:Str} {sp:Sp} {s₁:Shared} {vs:List Value} {ns:List Int}
    (KX:K.In s₁.heap) (hns:s₁.heap.Ns mainGlobals mg) (hb:s₁.heap.Ns builtinsNs mb) (hbb:∀ x:Str,x ≠ "__name__" → mb x=bootBuiltins x) (adk:s₁.heap.NoLimit) (hg:s₁.gens=#[])
    (ha:s₁.heap.get? a=some {cls:=.type "list",data:=.seq vs.toArray}) (hi:IntsAre vs ns) (hl:ns.length≤sizeLine) (hr:mR k callerA)
    (F:∀ base:Heap,K.In base→base.Ns mainGlobals mg→Bi P w K mg base CX k fa fd [x] sp) (abh:∀ (s:Shared) (u:Value),BindsTo s fd ⟨[u],[]⟩ [(x,u)])
    (hsp:∀ H:Hp,YG H→SqL K H a (ns.map V.int)→sp [.ref a] H (fun v _=>v=.bl true) fun _ _ _=>False)
    (hCX:∀ H e s',CX [] H s₁ (fun _ _ _=>False) e s'→False) :
    codeAny (model P w) callerA (.call (.ref fa) ⟨[.ref a],[]⟩) (fun r s'=>r=.ok (.ret (.bool true))∧OldK s₁.heap s'.heap∧s'.os=s₁.os∧AllBare s'.gens) s₁:=by
  have rv:=qj hi
  have adl:=hi.length
  have core:∀ H:Hp,YG H→SqL K H a (ns.map V.int)→HOk P w H s₁.heap→(∀ b,H b≠none→b=a)→(H a≠none→K.lookup a=none) →
      codeAny (model P w) callerA (.call (.ref fa) ⟨[.ref a],[]⟩) (fun r s'=>r=.ok (.ret (.bool true))∧OldK s₁.heap s'.heap∧s'.os=s₁.os∧AllBare s'.gens) s₁:=by
    intro H hO hS hok hA hK
    have Nn:∀ {b:Addr} {o:Obj},s₁.heap.get? b=some o→H b=none→(LW s₁.heap H).get? b=some o:=fun e n=>Pg e n
    have noA:∀ {b:Addr} {o:Obj} {es:Array DictEntry} {ep:Nat},s₁.heap.get? b=some o→o.data=.dict es ep→H b=none:=fun {b o es ep} e d=>by
      cases q:H b with
      | none=>rfl
      | some u =>
        have e':b=a:=hA b (by rw [q];simp)
        subst e'
        rw [ha] at e;cases e
        have d':Data.seq vs.toArray _=Data.dict es ep:=d
        cases d'
    have nsK:∀ {b:Addr} {m:Str→Option Value},s₁.heap.Ns b m→(LW s₁.heap H).Ns b m:=fun {b m} ⟨o,es,ep,e,d,r⟩=>⟨o,es,ep,Nn e (noA e d),d,r⟩
    have hKb:K.In (LW s₁.heap H):=fun b o e=>Nn (KX b o e) (by
      cases q:H b with
      | none=>rfl
      | some u =>
        have e':b=a:=hA b (by rw [q];simp)
        subst e'
        rw [hK (by rw [q];simp)] at e;cases e)
    have hM:Mod K mg (LW s₁.heap H):=⟨hKb,nsK hns,⟨mb,nsK hb,hbb⟩,let ⟨mc,h1,h2⟩:=adk;⟨mc,nsK h1,h2⟩⟩
    have e0:L7 P w K mg (LW s₁.heap H) callerA [] s₁ H:=⟨rfl,hM,fun b o e=>Ro e,Nat.le_of_eq (N8 _ _),trivial,fun b hb=>absurd (show b∈([]:List Addr) from hb) (by simp),hok,.of_eq hg⟩
    refine codeAny_mono ((F _ hKb (nsK hns)).run callerA [] s₁ H ⟨[.ref a],[]⟩ [.ref a] [.ref a] _ _ hr e0 (abh s₁ (.ref a)) (.cons rfl .nil) (hsp H hO hS)) fun r s' h=>?_
    cases r with
    | error e=>exact (hCX H e s' h).elim
    | ok fl =>
      cases fl with
      | next=>exact False.elim h
      | brk=>exact False.elim h
      | cont=>exact False.elim h
      | ret u =>
        obtain ⟨v,H',os,bare,un,adn,r',q⟩:=h
        have q':v=.bl true:=q
        subst q'
        obtain rfl:u=Value.bool true:=r'
        refine ⟨rfl,OldK.of_keep fun b o e=>?_,os,bare⟩
        cases q:H b with
        | none=>exact un.keep b o e q (by intro z;exact absurd (show b∈([]:List Addr) from z) (by simp)) (by simp)
        | some u =>
          rcases hO b with z|⟨ob,xs,z⟩
          · rw [q] at z;cases z
          · have z2:=un.Ez b ob _ z
            obtain ⟨e1,_⟩:=hok b _ z
            obtain ⟨e2,_⟩:=adn b _ z2
            rw [e] at e1;cases e1
            exact e2
  cases hk:K.lookup a with
  | some o =>
    have e:=KX a o hk
    rw [ha] at e
    cases e
    refine core (fun _=>none) (fun _=>.inl rfl) (.inr ⟨_,vs.toArray,_,hk,rfl,rfl,rfl,by rw [List.size_toArray,adl];exact hl,by simpa using rv⟩) (fun b u z=>by have z':(none:Option HO)=some u:=z;cases z') (fun b z=>absurd rfl z) fun z=>absurd rfl z
  | none =>
    refine core (fun b=>if b=a then some (.frz {cls:=.type "list",data:=.seq vs.toArray} (.lst (ns.map V.int))) else none) (fun b=>?_) (.inl (.inr ⟨{cls:=.type "list",data:=.seq vs.toArray},if_pos rfl⟩)) (fun b u z=>?_) (fun b z=>?_) fun _=>hk
    · by_cases hb:b=a
      · exact .inr ⟨_,_,if_pos hb⟩
      · exact .inl (if_neg hb)
    · by_cases hb:b=a
      · have z':=(if_pos hb).symm.trans z
        cases z'
        subst hb
        exact ⟨ha,by rw [List.length_map];exact hl,vs,_,rv,ha⟩
      · have z':=(if_neg hb).symm.trans z
        cases z'
    · by_cases hb:b=a
      · exact hb
      · exact absurd (if_neg hb) z
end L2
namespace L2
open PySem PySem.Spec PyProof.Rows
theorem Rz {l:PySem.W.OpenLaw} {n k:Nat} {q:Program} {loose:List Str} {XP:(Str→Option Value)→Heap→Prop} {YP:World→Heap→Prop} {d:DefRec} {K:Params→W.Frag} {CX:World→CXT} {sp:World→Sp} {x:Str}
    (hn:l.most=some n) (hn2:n≤sizeLine) (hdf:d.params.defaults=[]) (hr:mR k callerA)
    (hY:∀ (w:World) (h:Heap),YP w h→(K w.params).In h)
    (F:∀ (w:World) (mg:Str→Option Value) (fa:Addr) (h:Heap),(K w.params).In h→h.Ns mainGlobals mg→mg d.name=some (.ref fa) →
      ∃ fd:FuncData,(∀ (s:Shared) (u:Value),BindsTo s fd ⟨[u],[]⟩ [(x,u)]) ∧
        ∀ base:Heap,(K w.params).In base→base.Ns mainGlobals mg→Bi l.prog w (K w.params) mg base (CX w) k fa fd [x] (sp w))
    (hsp:∀ (w:World) (H:Hp) (a:Addr) (ns:List Int),ns.length≤n→YG H→SqL (K w.params) H a (ns.map V.int)→sp w [.ref a] H (fun v _=>v=.bl true) fun _ _ _=>False)
    (hCX:∀ (w:World) (H:Hp) (s:Shared) (e:Value) (s':Shared),CX w [] H s (fun _ _ _=>False) e s'→False) :
    PySem.W.WalkO q loose XP YP l.row.toRowW d [] (fun f vs=>PySem.call f vs):=by
  refine Att.JW hn hdf fun w s₀ s₁ mg mb fa o pm cd doc a vs ns G Y ho hd hcd hmg YF hints hlen hg=>?_
  have KX:=hY w _ Y
  obtain ⟨fd,hb,hF⟩:=F w mg fa _ KX G.T.g hmg
  exact Pn KX G.T.g G.T.b G.T.builtins G.T.nolimit hg YF hints (Nat.le_trans hlen hn2) hr hF hb (fun H hO hS=>hsp w H a ns hlen hO hS) fun H e s'=>hCX w H s₁ e s'
end L2
namespace L2
open PySem PySem.Spec PyProof.Rows
def inClass (s:Stmt) (j:Nat):Stmt:=match s with
  | .ClassDef _ _ _ body _ _ _ _ _ _ _=>body.getD j (.Pass ⟨0,0,0,0⟩)
  | _=>.Pass ⟨0,0,0,0⟩
def sG (s:Stmt):Arguments:=match s with
  | .FunctionDef _ a _ _ _ _ _ _ _ _=>a
  | _=>{posonlyargs:=[],args:=[],vararg:=none,kwonlyargs:=[],kw_defaults:=[],kwarg:=none,defaults:=[]}
def bS (s:Stmt):List Stmt:=match s with
  | .FunctionDef _ _ b _ _ _ _ _ _ _=>b
  | _=>[]
def aq (s:Stmt):Scope:=match s with
  | .FunctionDef _ _ _ _ _ _ sc _ _ _=>sc
  | _=>{kind:=.function,names:=[],isGenerator:=false,isCoroutine:=false}
structure Fun (K:W.Frag) (x qual:Str) (st:Stmt) (f:Addr) (fd:FuncData):Prop where
  ex:∃ (oc:Value) (od:Option Addr) (kV doc pm:Value) (an:Option Addr) (cdv ct:Value) (osl:Array (Option Value)),
    fd=PySem.W.fnOf x qual (sG st) (bS st) (aq st) .none kV doc pm an cdv ct∧K.lookup f=some ⟨oc,od,.func fd,osl⟩∧PySem.W.codeIn K cdv qual=true
  kp:PySem.W.keepIn K (.ref f)=true
section
variable {P:Program} {w:World} {K:W.Frag} {mg:Str→Option Value} {base:Heap}
theorem Fun.binds {x qual:Str} {st:Stmt} {f:Addr} {fd:FuncData} {ps:List Str} (F:Fun K x qual st f fd)
    (h:∀ (kV doc pm:Value) (an:Option Addr) (cdv ct:Value) (us:List Value),us.length=ps.length→bindArgs (PySem.W.fnOf x qual (sG st) (bS st) (aq st) .none kV doc pm an cdv ct) ⟨us,[]⟩=pure (ps.zip us)):Binds K fd ps []:=by
  obtain ⟨oc,od,kV,doc,pm,an,cdv,ct,osl,rfl,lk,hcd⟩:=F.ex
  exact .all (h kV doc pm an cdv ct)
theorem X0 {x qual:Str} {st:Stmt} {f:Addr} {oc:Value} {od an:Option Addr} {osl:Array (Option Value)} {kV doc pm cdv ct:Value} (l:K.lookup f=some ⟨oc,od,.func (PySem.W.fnOf x qual (sG st) (bS st) (aq st) .none kV doc pm an cdv ct),osl⟩)
    (c:PySem.W.codeIn K cdv qual=true) (k:PySem.W.keepIn K (.ref f)=true):Fun K x qual st f (PySem.W.fnOf x qual (sG st) (bS st) (aq st) .none kV doc pm an cdv ct):=⟨⟨oc,od,kV,doc,pm,an,cdv,ct,osl,rfl,l,c⟩,k⟩
end
theorem lI {A:Around} {k:Nat} (hr:mR k A):A.units+1<cLine:=Nat.lt_of_le_of_lt (Nat.add_le_add_left (by decide:1≤64) _) hr.units
section
variable {X:Cx}
theorem pv (i:Nat) {x:Str} {pos:Pos} (hN:X.N[i]?=some x:=by rfl) (hv:Vis X.env.scope x:=by first|exact Or.inl rfl|exact Or.inr (Or.inl rfl)|exact Or.inr (Or.inr rfl)) (hd:(x == ("__debug__" : Str))=false:=by decide)
    (hcd:(x == ("__classdict__" : Str))=false:=by decide):PE X (.Name x pos) (YA i):=XN hN hv hd hcd
end
theorem rz {A B:Prop} (h:B):if false=true then A else B:=by
  rw [if_neg Bool.false_ne_true]
  exact h
theorem vB {A B:Prop} (h:A):if true=true then A else B:=by
  rw [if_pos rfl]
  exact h
theorem aQ {c A B:Prop} [Decidable c] (h1:c→A) (h2:¬c→B):if c then A else B:=by
  by_cases h:c
  · rw [if_pos h]
    exact h1 h
  · rw [if_neg h]
    exact h2 h
def aD (H H':Hp):Prop:=∀ b o,H b=some o→H' b=some o
theorem aD.trans {H H1 H2:Hp} (a:aD H H1) (b:aD H1 H2):aD H H2:=fun c o h=>b c o (a c o h)
theorem aD.seq {K:W.Frag} {H H':Hp} {a:Addr} {xs:List V} (e:aD H H') (h:SqL K H a xs):SqL K H' a xs:=by
  rcases h with (h|⟨o,h⟩)|h
  · exact .inl (.inl (e _ _ h))
  · exact .inl (.inr ⟨o,e _ _ h⟩)
  · exact .inr h
end L2
end
section
namespace L2
open PySem PySem.Spec PyProof.Rows
section
variable {κ:Type} [DecidableEq κ]
def lJ (kvs:List (κ×V)) (k:κ):Option V:=(kvs.find? fun kv=>decide (kv.1=k)).map (·.2)
def putK (kvs:List (κ×V)) (k:κ) (v:V):List (κ×V) :=
  if (kvs.any fun kv=>decide (kv.1=k))=true then kvs.map (fun kv=>if kv.1=k then (kv.1,v) else kv) else kvs++[(k,v)]
def sM (kvs:List (κ×V)) (k:κ):List (κ×V):=kvs.filter fun kv=>decide (kv.1≠k)
theorem oo {p:κ×V} {r:List (κ×V)} {k:κ} (e:p.1=k):lJ (p::r) k=some p.2:=by simp [lJ,List.find?_cons,e]
theorem oq {p:κ×V} {r:List (κ×V)} {k:κ} (e:¬p.1=k):lJ (p::r) k=lJ r k:=by simp [lJ,List.find?_cons,e]
theorem AW (k:κ):∀ kvs:List (κ×V),(kvs.any fun kv=>decide (kv.1=k))=(lJ kvs k).isSome
  | []=>rfl
  | p::r=>by
    rw [List.any_cons]
    by_cases e:p.1=k
    · simp only [oo e,decide_eq_true e,Bool.true_or,Option.isSome_some]
    · rw [oq e,decide_eq_false e,Bool.false_or];exact AW k r
theorem Ds (kvs:List (κ×V)) (k:κ) (v:V):(putK kvs k v).length≤kvs.length+1:=by
  unfold putK
  split
  · rw [List.length_map];omega
  · rw [List.length_append,List.length_cons,List.length_nil];omega
theorem AX {kvs:List (κ×V)} {k:κ} (v:V) (h:lJ kvs k=none):putK kvs k v=kvs++[(k,v)]:=by
  unfold putK
  rw [AW,h]
  exact if_neg (by decide)
theorem xO.nY {o:Option V} {u:Option Value} (r:xO o u):o.isSome=u.isSome:=by
  cases o with
  | none=>cases u with
    | none=>rfl
    | some _=>exact (show False from r).elim
  | some _=>cases u with
    | none=>exact (show False from r).elim
    | some _=>rfl
theorem xO.getD {o:Option V} {u:Option Value} {d:V} {d':Value} (r:xO o u) (rd:RelV d d'):RelV (o.getD d) (u.getD d'):=by
  cases o with
  | none=>cases u with
    | none=>exact rd
    | some _=>exact (show False from r).elim
  | some _=>cases u with
    | none=>exact (show False from r).elim
    | some _=>exact r
theorem KV.val {kvs:List (κ×V)} {vs:List (κ×Value)} (r:KV kvs vs) (k:κ):xO (lJ kvs k) (valueAt vs k):=by
  unfold KV at r
  induction r with
  | nil=>exact True.intro
  | @cons p q ps qs h t ih =>
    obtain ⟨h1,h2⟩:=h
    by_cases e:p.1=k
    · have e':q.1=k:=h1.symm.trans e
      have b:valueAt (q::qs) k=some q.2:=by simp [valueAt,List.find?_cons,e']
      rw [oo e,b];exact h2
    · have e':¬q.1=k:=fun z=>e (h1.trans z)
      have b:valueAt (q::qs) k=valueAt qs k:=by simp [valueAt,List.find?_cons,e']
      rw [oq e,b];exact ih
theorem KV.any {kvs:List (κ×V)} {vs:List (κ×Value)} (r:KV kvs vs) (k:κ):(kvs.any fun kv=>decide (kv.1=k))=vs.any fun kv=>decide (kv.1=k):=by
  unfold KV at r
  induction r with
  | nil=>rfl
  | cons h t ih=>rw [List.any_cons,List.any_cons,ih,h.1]
theorem KV.YH {kvs:List (κ×V)} {vs:List (κ×Value)} (r:KV kvs vs) (k:κ) {y:V} {u:Value} (ry:RelV y u) :
    KV (kvs.map fun kv=>if kv.1=k then (kv.1,y) else kv) (vs.map fun kv=>if kv.1=k then (kv.1,u) else kv):=by
  unfold KV at r ⊢
  induction r with
  | nil=>exact .nil
  | @cons p q ps qs h t ih =>
    rw [List.map_cons,List.map_cons]
    refine .cons ?_ ih
    obtain ⟨h1,h2⟩:=h
    by_cases e:p.1=k
    · rw [if_pos e,if_pos (h1.symm.trans e)];exact ⟨h1,ry⟩
    · rw [if_neg e,if_neg (fun z=>e (h1.trans z))];exact ⟨h1,h2⟩
theorem KV.put {kvs:List (κ×V)} {vs:List (κ×Value)} (r:KV kvs vs) (k:κ) {y:V} {u:Value} (ry:RelV y u):KV (putK kvs k y) (stored vs k u):=by
  unfold putK stored
  rw [r.any k]
  by_cases e:(vs.any fun kv=>decide (kv.1=k))=true
  · rw [if_pos e,if_pos e];exact r.YH k ry
  · rw [if_neg e,if_neg e];exact Paired.snoc r ⟨rfl,ry⟩
theorem KV.drop {kvs:List (κ×V)} {vs:List (κ×Value)} (r:KV kvs vs) (k:κ):KV (sM kvs k) (without vs k):=by
  unfold KV at r ⊢
  unfold sM without
  induction r with
  | nil=>exact .nil
  | @cons p q ps qs h t ih =>
    obtain ⟨h1,h2⟩:=h
    rw [List.filter_cons,List.filter_cons]
    by_cases e:p.1=k
    · have a:¬decide (p.1≠k)=true:=by simp [e]
      have b:¬decide (q.1≠k)=true:=by simp [h1.symm.trans e]
      rw [if_neg a,if_neg b];exact ih
    · have e':¬q.1=k:=fun z=>e (h1.trans z)
      have a:decide (p.1≠k)=true:=by simp [e]
      have b:decide (q.1≠k)=true:=by simp [e']
      rw [if_pos a,if_pos b];exact .cons ⟨h1,h2⟩ ih
theorem KV.keys {kvs:List (κ×V)} {vs:List (κ×Value)} (r:KV kvs vs):kvs.map (·.1)=vs.map (·.1):=by
  unfold KV at r
  induction r with
  | nil=>rfl
  | cons h t ih=>rw [List.map_cons,List.map_cons,ih,h.1]
theorem KV.length {kvs:List (κ×V)} {vs:List (κ×Value)} (r:KV kvs vs):kvs.length=vs.length:=Paired.length r
theorem Po (kvs:List (κ×V)) (k:κ):(sM kvs k).length≤kvs.length:=List.length_filter_le _ _
end
theorem Fm {P:Program} {w:World} {k:Key} {u:Value} (r:RelV (kV k) u):(c5 P w).is k u=true:=by
  cases k with
  | inl i=>obtain ⟨t,e⟩:=(show ∃ t,u=Value.int i t from r);subst e;exact JU P w i t
  | inr x=>obtain ⟨t,e⟩:=(show ∃ t,u=Value.str x t from r);subst e;exact JV P w x t
theorem G9 {P:Program} {w:World}:∀ {ks:List Key} {us:List Value},Vals (ks.map kV) us→ItemsAre (c5 P w) ks us
  | [],_,r=>by rw [List.map_nil] at r;cases r;exact .nil
  | k::ks,_,r=>by
    rw [List.map_cons] at r
    cases r with
    | cons h t=>exact .cons (Fm h) (G9 t)
abbrev KT (H:Hp):List (List Key×V)→List (List Key×Addr×Value)→Prop:=Paired fun p q=>p.1=q.1∧H q.2.1=some (.tup (p.1.map kV))∧RelV p.2 q.2.2
theorem KT.val {H:Hp} {kvs:List (List Key×V)} {xs:List (List Key×Addr×Value)} (r:KT H kvs xs) (k:List Key):xO (lJ kvs k) ((atKey xs k).map (·.2)):=by
  induction r with
  | nil=>exact True.intro
  | @cons p q ps qs h t ih =>
    obtain ⟨h1,_,h2⟩:=h
    by_cases e:p.1=k
    · have e':q.1=k:=h1.symm.trans e
      have b:atKey (q::qs) k=some q.2:=by simp [atKey,List.find?_cons,e']
      rw [oo e,b];exact h2
    · have e':¬q.1=k:=fun z=>e (h1.trans z)
      have b:atKey (q::qs) k=atKey qs k:=by simp [atKey,List.find?_cons,e']
      rw [oq e,b];exact ih
theorem KT.YH {H:Hp} {kvs:List (List Key×V)} {xs:List (List Key×Addr×Value)} (r:KT H kvs xs) (k:List Key) {y:V} {u:Value} (ry:RelV y u) :
    KT H (kvs.map fun kv=>if kv.1=k then (kv.1,y) else kv) (xs.map (putAt k u)):=by
  induction r with
  | nil=>exact .nil
  | @cons p q ps qs h t ih =>
    rw [List.map_cons,List.map_cons]
    refine .cons ?_ ih
    obtain ⟨h1,h2,h3⟩:=h
    unfold putAt
    by_cases e:p.1=k
    · rw [if_pos e,if_pos (h1.symm.trans e)];exact ⟨h1,h2,ry⟩
    · rw [if_neg e,if_neg (fun z=>e (h1.trans z))];exact ⟨h1,h2,h3⟩
theorem KT.put {H:Hp} {kvs:List (List Key×V)} {xs:List (List Key×Addr×Value)} (r:KT H kvs xs) (k:List Key) {b:Addr} {y:V} {u:Value} (hb:H b=some (.tup (k.map kV))) (ry:RelV y u) :
    KT H (putK kvs k y) (storedH xs k b u):=by
  have e:(kvs.any fun kv=>decide (kv.1=k))=(atKey xs k).isSome:=by
    rw [AW,(r.val k).nY,Option.isSome_map]
  unfold putK storedH
  rw [e]
  by_cases q:(atKey xs k).isSome=true
  · rw [if_pos q,if_pos q];exact r.YH k ry
  · rw [if_neg q,if_neg q];exact Paired.snoc r ⟨rfl,hb,ry⟩
theorem KT.keeps {H H':Hp} {kvs:List (List Key×V)} {xs:List (List Key×Addr×Value)} (r:KT H kvs xs) (ht:∀ b ys,H b=some (.tup ys)→H' b=some (.tup ys)):KT H' kvs xs :=
  Paired.Yy r fun _ _ z=>⟨z.1,ht _ _ z.2.1,z.2.2⟩
section
variable {P:Program} {w:World} {H:Hp} {h:Heap} {a:Addr}
theorem UW {u:HO} (ok:HOk P w H h) (e:Rd H a u):hV P w H h a u:=e.ok ok
theorem xR {kvs:List (Key×V)} (ok:HOk P w H h) (e:Rd H a (.dK kvs)):kvs.length≤sizeLine∧(a == sysModules)=false∧∃ vs,KV kvs vs∧h.DictOf (c5 P w) a vs :=
  show hV P w H h a (.dK kvs) from UW ok e
theorem Q1 {kvs:List (Key×V)} (ok:HOk P w H h) (e:H a=some (.dK kvs)):kvs.length≤sizeLine∧(a == sysModules)=false∧∃ vs,KV kvs vs∧h.DictOf (c5 P w) a vs:=xR ok (.inl e)
theorem Eu {ks:List Key} (ok:HOk P w H h) (e:H a=some (.tup (ks.map kV))):(tupleKind (c5 P w)).is h ks a:=by
  obtain ⟨_,its,r,o,h1,h2,n,h3⟩:=(show hV P w H h a (.tup (ks.map kV)) from ok a _ e)
  exact ⟨o,its.toArray,n,h1,h2,h3,by simpa using G9 r⟩
theorem GU {kvs:List (List Key×V)} (ok:HOk P w H h) (e:Rd H a (.dT kvs)):kvs.length≤sizeLine∧(a == sysModules)=false ∧
    ∃ xs,KT H kvs xs∧h.DictOfH (tupleKind (c5 P w)) a xs:=by
  obtain ⟨z,y,xs,r,o,es,ep,h1,h2,h3,h4,h5⟩:=(show hV P w H h a (.dT kvs) from UW ok e)
  refine ⟨z,y,xs,r,o,es,ep,h1,h2,h3,h4,fun x hx=>?_,h5⟩
  have all:∀ {l:List (List Key×V)} {m:List (List Key×Addr×Value)},KT H l m→∀ x∈m,(tupleKind (c5 P w)).is h x.1 x.2.1:=by
    intro l m q
    induction q with
    | nil=>intro x hx;exact nomatch hx
    | @cons p q ps qs hq t ih =>
      intro x hx
      rcases List.mem_cons.mp hx with e|hx
      · subst e
        exact Eu ok (by rw [←hq.1];exact hq.2.1)
      · exact ih x hx
  exact all r x hx
theorem abi {kvs:List (List Key×V)} (ok:HOk P w H h) (e:H a=some (.dT kvs)):kvs.length≤sizeLine∧(a == sysModules)=false ∧
    ∃ xs,KT H kvs xs∧h.DictOfH (tupleKind (c5 P w)) a xs:=GU ok (.inl e)
end
def pT (H:Hp) (a:Addr) (y:V) (r:Option V):Prop :=
  (∃ kvs k,Rd H a (.dK kvs)∧y=kV k∧r=lJ kvs k)∨∃ kvs k b,Rd H a (.dT kvs)∧y=.ref b∧H b=some (.tup (k.map kV))∧r=lJ kvs k
def Ha (H:Hp) (a:Addr) (y v:V) (H':Hp):Prop :=
  (∃ kvs k,H a=some (.dK kvs)∧y=kV k∧kvs.length<sizeLine∧H'=upd H a (.dK (putK kvs k v))) ∨
  ∃ kvs k b,H a=some (.dT kvs)∧y=.ref b∧H b=some (.tup (k.map kV))∧kvs.length<sizeLine∧H'=upd H a (.dT (putK kvs k v))
theorem pT.k {H:Hp} {a:Addr} {kvs:List (Key×V)} {k:Key} (e:H a=some (.dK kvs)):pT H a (kV k) (lJ kvs k):=.inl ⟨kvs,k,.inl e,rfl,rfl⟩
theorem Ha.k {H:Hp} {a:Addr} {kvs:List (Key×V)} {k:Key} {v:V} (e:H a=some (.dK kvs)) (hl:kvs.length<sizeLine):Ha H a (kV k) v (upd H a (.dK (putK kvs k v))):=.inl ⟨kvs,k,e,rfl,hl,rfl⟩
section
variable {X:Cx} {pins:List (Addr×Obj)} {σ:St} {H:Hp} {s:Shared} {a:Addr} {y v:V} {u r:Value} {o:Option V} {A:Around} {E:Value→Shared→Prop}
theorem Inv.big (I:Inv X pins σ H s):sysModules<s.heap.objs.size:=by
  have h:mainGlobals<s.heap.objs.size:=(I.mod.glob.keeps I.bk).lt
  exact Nat.lt_trans (by decide) h
theorem Oh {Q:Value→Shared→Prop} (hu:A.units+1<cLine) (I:Inv X pins σ H s) (g:pT H a y (some v)) (ry:RelV y u) (h:∀ w' s',Inv X pins σ H s'→RelV v w'→Q w' s') :
    wpAny (model X.prog X.w) A (getItem (.ref a) u) Q E s:=by
  rcases g with ⟨kvs,k,e,ey,l⟩|⟨kvs,k,b,e,ey,eb,l⟩
  · subst ey
    obtain ⟨z,hd,vs,rel,dd⟩:=xR I.hok e
    obtain ⟨w',hw,rw'⟩:=xO.some_of (v:=v) (o:=valueAt vs k) (by rw [l];exact rel.val k)
    exact wpAny_getItem_of (Fm ry) dd.mapOf hw (h w' _ (I.tok _) rw')
  · subst ey
    cases (show u=Value.ref b from ry)
    obtain ⟨z,hd,xs,rel,dd⟩:=GU I.hok e
    obtain ⟨w',hw,rw'⟩:=xO.some_of (v:=v) (o:=(atKey xs k).map (·.2)) (by rw [l];exact rel.val k)
    obtain ⟨p,hp,hp2⟩:=Option.map_eq_some_iff.mp hw
    refine wpAny_getItem_heap (tupleKind_room_in1 hu) (Eu I.hok eb) dd hp ?_
    rw [hp2]
    exact h w' _ (I.tok _) rw'
theorem ado {Q:Value→Shared→Prop} (hu:A.units+1<cLine) (I:Inv X pins σ H s) (g:pT H a y o) (ry:RelV y u) (h:∀ s',Inv X pins σ H s'→Q (.bool o.isSome) s') :
    wpAny (model X.prog X.w) A (compareOp .In u (.ref a)) Q E s:=by
  rcases g with ⟨kvs,k,e,ey,l⟩|⟨kvs,k,b,e,ey,eb,l⟩
  · subst ey
    obtain ⟨z,hd,vs,rel,dd⟩:=xR I.hok e
    refine wpAny_in_of (Fm ry) hd dd.mapOf ?_
    rw [←(rel.val k).nY,←l]
    exact h _ (I.tok _)
  · subst ey
    cases (show u=Value.ref b from ry)
    obtain ⟨z,hd,xs,rel,dd⟩:=GU I.hok e
    refine wpAny_in_heap (tupleKind_room_in1 hu) (Eu I.hok eb) hd dd ?_
    have q:=(rel.val k).nY
    rw [Option.isSome_map] at q
    rw [←q,←l]
    exact h _ (I.tok _)
theorem RA {Q:Value→Shared→Prop} (hu:A.units+1<cLine) (I:Inv X pins σ H s) (g:pT H a y o) (ry:RelV y u) (h:∀ s',Inv X pins σ H s'→Q (.bool (!o.isSome)) s') :
    wpAny (model X.prog X.w) A (compareOp .NotIn u (.ref a)) Q E s:=by
  rcases g with ⟨kvs,k,e,ey,l⟩|⟨kvs,k,b,e,ey,eb,l⟩
  · subst ey
    obtain ⟨z,hd,vs,rel,dd⟩:=xR I.hok e
    refine wpAny_notIn_of (Fm ry) hd dd.mapOf ?_
    rw [←(rel.val k).nY,←l]
    exact h _ (I.tok _)
  · subst ey
    cases (show u=Value.ref b from ry)
    obtain ⟨z,hd,xs,rel,dd⟩:=GU I.hok e
    refine wpAny_notIn_heap (tupleKind_room_in1 hu) (Eu I.hok eb) hd dd ?_
    have q:=(rel.val k).nY
    rw [Option.isSome_map] at q
    rw [←q,←l]
    exact h _ (I.tok _)
theorem Jl {h':Heap} {t':Nat} {ob:HO} (I:Inv X pins σ H s) (mu:Mut (H a)) (hs:Heap.SameBut a s.heap h') (he:∃ q,h'.get? a=some q) (new:hV X.prog X.w (upd H a ob) h' a ob) :
    Inv X pins σ (upd H a ob) {s with heap:=h',toks:=t'} :=
  I.write (x:=a) (e:=a) mu (.inl rfl) (fun b q hb z=>(hs.2 b hb).trans z) he new
theorem Qk {P:Program} {w:World} {H':Hp} {h':Heap} {kvs:List (Key×V)} {vs:List (Key×Value)} (z:kvs.length≤sizeLine) (hd:(a == sysModules)=false) (rel:KV kvs vs) (dd:h'.DictOf (c5 P w) a vs) :
    hV P w H' h' a (.dK kvs):=⟨z,hd,vs,rel,dd⟩
theorem Oi {H':Hp} {Q:Unit→Shared→Prop} (hu:A.units+1<cLine) (I:Inv X pins σ H s) (g:Ha H a y v H') (ry:RelV y u) (rv:RelV v r) (h:∀ s',Inv X pins σ H' s'→Q () s') :
    wpAny (model X.prog X.w) A (setItem (.ref a) u r) Q E s:=by
  rcases g with ⟨kvs,k,e,ey,l,eH⟩|⟨kvs,k,b,e,ey,eb,l,eH⟩
  · subst ey eH
    obtain ⟨z,hd,vs,rel,dd⟩:=Q1 I.hok e
    have hz:vs.length≤sizeLine:=by rw [←rel.length];exact z
    have hl:(putK kvs k v).length≤sizeLine:=by have:=Ds kvs k v;omega
    refine wpAny_setItem_pairs (hsz:=hz) (Fm ry) dd fun h' dd' hs=>h _ ?_
    have he:∃ q,h'.get? a=some q:=let ⟨q,_,_,hq,_⟩:=dd';⟨q,hq⟩
    exact Jl I (by rw [e];exact True.intro) hs he (Qk hl hd (rel.put k rv) dd')
  · subst ey eH
    cases (show u=Value.ref b from ry)
    obtain ⟨z,hd,xs,rel,dd⟩:=abi I.hok e
    have hz:xs.length≤sizeLine:=by rw [←Paired.length rel];exact z
    have hl:(putK kvs k v).length≤sizeLine:=by have:=Ds kvs k v;omega
    refine wpAny_setItem_heap (hsz:=hz) (tupleKind_room_in1 hu) (Eu I.hok eb) dd fun h' dd' hs=>h _ ?_
    obtain ⟨q,es,ep,hq,h2,h3,h4,_,h5⟩:=dd'
    refine Jl I (by rw [e];exact True.intro) hs ⟨q,hq⟩ ⟨hl,hd,_,(rel.put k eb rv).keeps fun c ys ec=>?_,q,es,ep,hq,h2,h3,h4,h5⟩
    rw [af (aw ec e (fun z=>nomatch z))]
    exact ec
end
section
variable {X:Cx} {pins:List (Addr×Obj)} {σ:St} {H:Hp} {s:Shared} {a:Addr} {kvs:List (Key×V)} {k:Key} {u:Value} {A:Around} {E:Value→Shared→Prop}
theorem abj {v:V} {more:List Value} {Q:Value→Shared→Prop} (I:Inv X pins σ H s) (e:H a=some (.dK kvs)) (ry:RelV (kV k) u) (l:lJ kvs k=some v) (hm:more=[]∨∃ x,more=[x])
    (h:∀ w' s',Inv X pins σ (upd H a (.dK (sM kvs k))) s'→RelV v w'→Q w' s'):wpAny (model X.prog X.w) A (call (.builtin "dict.pop") (.ref a::u::more)) Q E s:=by
  obtain ⟨z,hd,vs,rel,dd⟩:=Q1 I.hok e
  obtain ⟨w',hw,rw'⟩:=xO.some_of (v:=v) (o:=valueAt vs k) (by rw [←l];exact rel.val k)
  have hp:(keyPart u).isSome=true:=by
    cases k with
    | inl i=>obtain ⟨t,q⟩:=(show ∃ t,u=Value.int i t from ry);subst q;rfl
    | inr x=>obtain ⟨t,q⟩:=(show ∃ t,u=Value.str x t from ry);subst q;rfl
  have ha:argsOk "dict.pop" ⟨.ref a::u::more,[]⟩:=by
    rcases hm with q|⟨x,q⟩
    · subst q;exact PySem.F.args_dict_pop_2 _ _
    · subst q;exact PySem.F.args_dict_pop_3 _ _ _
  refine call_meetsIn PySem.F.slot_dict_pop dd.typeIs PySem.F.entry_dict_pop ha (meets_dict_pop_there (c5 X.prog X.w) a (Fm ry) more hm hp)
    ⟨vs,w',dd,by rw [←rel.length];exact z,hw,fun h' dd' hs=>h w' _ ?_ rw'⟩
  have he:∃ q,h'.get? a=some q:=let ⟨q,_,_,hq,_⟩:=dd';⟨q,hq⟩
  exact Jl I (by rw [e];exact True.intro) hs he (Qk (Nat.le_trans (Po kvs k) z) hd (rel.drop k) dd')
theorem abk {Q:Value→Shared→Prop} (I:Inv X pins σ H s) (e:Rd H a (.dK kvs)) (h:∀ t s',Inv X pins σ H s'→Q (.int kvs.length t) s'):wpAny (model X.prog X.w) A (call (.builtin "len") [.ref a]) Q E s:=by
  obtain ⟨z,hd,vs,rel,dd⟩:=xR I.hok e
  refine call_len_dict hd dd (by rw [←rel.length];rw [sizeLine_eq] at z;omega) ?_
  rw [←rel.length]
  exact h _ _ (I.tok _)
end
def ab3 (i:Expr):Prop:=∀ ov iv,subscripted i false ov iv=operate [ov,iv] (getItem ov iv)
theorem RB {prog:Program} {w:World} {A:Around} {E:Value→Shared→Prop} {s:Shared} {env:Env} {value slice:Expr} {pos:Pos} {T id:String} {Q:Value→Shared→Prop}
    (hl:typeLookup (.type T) "__getitem__" = pure (some (.builtin id))) (hs:ab3 slice)
    (h:wpAny (model prog w) A (eval value env) (fun o s₁=>wpAny (model prog w) A (eval slice env) (fun i s₂=>s₂.TypeIs o T∧wpAny (model prog w) A (getItem o i) Q E s₂) E s₁) E s) :
    wpAny (model prog w) A (eval (.Subscript value slice pos) env) Q E s:=by
  refine Subscript_ (wpAny_mono h (fun o s₁ h₁=>wpAny_mono h₁ (fun i s₂ h₂=>?_) fun _ _ x=>x) fun _ _ x=>x)
  obtain ⟨hT,h₂⟩:=h₂
  unfold subscriptTail
  refine wpAny_bind ?_
  rw [getitemInPython_of_ne hT.not_modules]
  refine wpAny_bind (wpAny_specialOf hT hl ?_)
  have fin:wpAny (model prog w) A (subscripted slice false o i) (fun r s₃=>wpAny (model prog w) A (letTemporaryGo value o r >>= fun _=>pure r) Q E s₃) E s₂:=by
    rw [hs o i]
    exact wpAny_operating (wpAny_mono h₂ (fun r s₃ h₃=>wpAny_bind (wpAny_letTemporaryGo (wpAny_pure h₃))) fun _ _ x=>x)
  first
    | exact wpAny_pure (wpAny_bind fin)
    | exact wpAny_bind (wpAny_pure (wpAny_bind fin))
    | exact wpAny_bind fin
theorem JX {X:Cx} {pins:List (Addr×Obj)} {σ:St} {H:Hp} {s:Shared} {a:Addr} {y:V} {o:Option V} (I:Inv X pins σ H s) (g:pT H a y o):s.TypeIs (.ref a) "dict" := by
  rcases g with ⟨kvs,k,e,_,_⟩|⟨kvs,k,b,e,_,_,_⟩
  · obtain ⟨_,_,vs,_,dd⟩:=xR I.hok e
    exact dd.typeIs
  · obtain ⟨_,_,xs,_,dd⟩:=GU I.hok e
    exact dd.typeIs
def abl (td ty:TE):TE:=fun σ H Q=>td σ H fun x H1=>ty σ H1 fun y H2=>∃ a v,x=.ref a∧pT H2 a y (some v)∧Q v H2
def adp (ty td:TE):TE:=fun σ H Q=>ty σ H fun y H1=>td σ H1 fun x H2=>∃ a o,x=.ref a∧pT H2 a y o∧Q (.bl o.isSome) H2
def RC (ty td:TE):TE:=fun σ H Q=>ty σ H fun y H1=>td σ H1 fun x H2=>∃ a o,x=.ref a∧pT H2 a y o∧Q (.bl (!o.isSome)) H2
def abm (td ty tv:TE):TS:=fun D σ H=>tv σ H fun v H1=>td σ H1 fun x H2=>ty σ H2 fun y H3=>∃ a H4,x=.ref a∧Ha H3 a y v H4∧D.nx σ H4
section
variable {X:Cx} {o i e value:Expr} {pos pos' ada:Pos} {td ty tv:TE}
theorem pU (hu:X.A.units+1<cLine) (ho:PE X o td) (hi:PE X i ty) (hs:ab3 i):PE X (.Subscript o i pos) (abl td ty):=by
  intro pins s σ H Q I h
  refine RB PySem.F.slot_dict_getitem.lookup hs (thn (ho pins s σ H _ I h) fun u s1 ⟨x,H1,I1,rx,q1⟩=>thn (hi pins s1 σ H1 _ I1 q1) fun iv s2 ⟨y,H2,I2,ry,a,v,ex,g,q2⟩=>?_)
  subst ex
  obtain rfl:u=Value.ref a:=rx
  exact ⟨JX I2 g,Oh hu I2 g ry fun w' s3 I3 rw'=>⟨v,H2,I3,rw',q2⟩⟩
theorem Ql (hu:X.A.units+1<cLine) (hi:PE X i ty) (ho:PE X o td):PC X .In i o (adp ty td):=by
  intro pins s σ H Q I h
  refine thn (hi pins s σ H _ I h) fun iv s1 ⟨y,H1,I1,ry,q1⟩=>thn (ho pins s1 σ H1 _ I1 q1) fun u s2 ⟨x,H2,I2,rx,a,ov,ex,g,q2⟩=>?_
  subst ex
  obtain rfl:u=Value.ref a:=rx
  exact ado hu I2 g ry fun s3 I3=>⟨.bl ov.isSome,H2,I3,rfl,q2⟩
theorem j7 (hu:X.A.units+1<cLine) (hi:PE X i ty) (ho:PE X o td):PC X .NotIn i o (RC ty td):=by
  intro pins s σ H Q I h
  refine thn (hi pins s σ H _ I h) fun iv s1 ⟨y,H1,I1,ry,q1⟩=>thn (ho pins s1 σ H1 _ I1 q1) fun u s2 ⟨x,H2,I2,rx,a,ov,ex,g,q2⟩=>?_
  subst ex
  obtain rfl:u=Value.ref a:=rx
  exact RA hu I2 g ry fun s3 I3=>⟨.bl (!ov.isSome),H2,I3,rfl,q2⟩
theorem sI (hu:X.A.units+1<cLine) (ho:PE X o td) (hi:PE X i ty) (hv:PE X value tv) (hs:swapsWith value (some (.Subscript o i pos')) pos.line X.env=pure false) :
    PS X (.Assign [.Subscript o i pos'] value pos) (abm td ty tv):=by
  intro pins s σ H D I h
  refine wpAny_Assign_Subscript (thn (hv pins s σ H _ I h) fun r s1 ⟨v,H1,I1,rv,q1⟩=>thn (ho pins s1 σ H1 _ I1 q1) fun u s2 ⟨x,H2,I2,rx,q2⟩=>thn (hi pins s2 σ H2 _ I2 q2) fun iv s3 ⟨y,H3,I3,ry,a,H4,ex,g,q3⟩=>?_) hs
  subst ex
  obtain rfl:u=Value.ref a:=rx
  exact Oi hu I3 g ry rv fun s4 I4=>⟨σ,H4,I4,q3⟩
end
theorem Pp {P:Program} {w:World} {H:Hp} (h:Heap) (hb:sysModules<h.objs.size):hV P w H (h.push {cls:=.type "dict",data:=.dict #[]}) h.objs.size (.dK []) :=
  ⟨Nat.zero_le _,beq_eq_false_iff_ne.mpr (Ne.symm (Nat.ne_of_lt hb)),[],.nil,Heap.DictOf.new h⟩
def X2:TE:=fun _ H Q=>∀ p,H p=none→Q (.ref p) (upd H p (.dK []))
section
variable {X:Cx} {pos:Pos}
theorem mG:PE X (.Dict [] [] pos) X2:=fun pins s σ H Q I h =>
  wpAny_Dict_empty ⟨.ref s.heap.objs.size,_,I.laid (a:=s.heap.objs.size) (o:=.dK []) (t':=s.toks) (fun _ _ q=>Heap.get?_push_of_some _ q) (Nat.le_refl _) (Pp s.heap I.big),rfl,h _ (I.hok.fresh (Nat.le_refl _))⟩
end
structure M1 (X:Cx) (o:Expr) (m:Str) (apos:Pos) (e:Expr) (Bj:Pos):Prop where
  base:attributeBase o m X.env (eval o X.env)=eval o X.env
  few:((backTo Bj (starEach [e] X.env)).all (fun x=>!x.1)&&(backToKw Bj (keywordEach [] X.env)).all (fun x=>x.1.isSome)
    && decide (([e]:List Expr).length+([]:List Keyword).length+(if ([]:List Keyword).isEmpty then 0 else 1)<30))=true
  line:(apos.endLine == Bj.line)=true
  trees:backTo Bj (starEach [e] X.env)=[(false,eval e X.env)]
def IsD (H:Hp) (a:Addr):Prop:=(∃ kvs,Rd H a (.dK kvs))∨∃ kvs,Rd H a (.dT kvs)
theorem Qm {X:Cx} {pins:List (Addr×Obj)} {σ:St} {H:Hp} {s:Shared} {a:Addr} (I:Inv X pins σ H s) (d:IsD H a) :
    s.TypeIs (.ref a) "dict" ∧ (∀ b,Value.ref a=.ref b→∃ ob,s.heap.get? b=some ob∧ob.dict=none)∧(a == sysModules)=false:=by
  rcases d with ⟨kvs,e⟩|⟨kvs,e⟩
  · obtain ⟨_,hd,vs,_,dd⟩:=xR I.hok e
    refine ⟨dd.typeIs,fun b q=>?_,hd⟩
    cases q
    obtain ⟨ob,_,_,h1,h2,_⟩:=dd
    exact ⟨ob,h1,h2.2.1⟩
  · obtain ⟨_,hd,xs,_,dd⟩:=GU I.hok e
    refine ⟨dd.typeIs,fun b q=>?_,hd⟩
    cases q
    obtain ⟨ob,_,_,h1,h2,_⟩:=dd
    exact ⟨ob,h1,h2.2.1⟩
section
variable {X:Cx} {pins:List (Addr×Obj)} {σ:St} {H:Hp} {s:Shared} {a:Addr} {y d:V} {u r:Value} {o:Option V} {A:Around} {E:Value→Shared→Prop}
theorem X3 {Q:Value→Shared→Prop} (hu:A.units+1<cLine) (I:Inv X pins σ H s) (g:pT H a y o) (ry:RelV y u) (h:∀ w' s',Inv X pins σ H s'→RelV (o.getD .non) w'→Q w' s') :
    wpAny (model X.prog X.w) A (call (.builtin "dict.get") [.ref a,u]) Q E s:=by
  rcases g with ⟨kvs,k,e,ey,l⟩|⟨kvs,k,b,e,ey,eb,l⟩
  · subst ey
    obtain ⟨z,hd,vs,rel,dd⟩:=xR I.hok e
    refine call_meetsIn PySem.F.slot_dict_get dd.typeIs PySem.F.entry_dict_get (PySem.F.args_dict_get_2 _ _) (meets_dict_get (c5 X.prog X.w) a (Fm ry) hd) ⟨_,dd.mapOf,h _ _ (I.tok _) ?_⟩
    rw [l]
    exact (rel.val k).getD rfl
  · subst ey
    cases (show u=Value.ref b from ry)
    obtain ⟨z,hd,xs,rel,dd⟩:=GU I.hok e
    refine call_meetsIn PySem.F.slot_dict_get dd.typeIs PySem.F.entry_dict_get (PySem.F.args_dict_get_2 _ _) (meetsH_dict_get (tupleKind (c5 X.prog X.w)) a b hd) ⟨tupleKind_room_in1 hu,k,xs,Eu I.hok eb,dd,h _ _ (I.tok _) ?_⟩
    rw [l]
    exact (rel.val k).getD rfl
end
def X4 (td ty:TE):TE:=fun σ H Q=>td σ H fun x H1=>∃ a,x=.ref a∧IsD H1 a∧ty σ H1 fun y H2=>∃ o,pT H2 a y o∧Q (o.getD .non) H2
def X5 (td ty:TE):TE:=fun σ H Q=>td σ H fun x H1=>∃ a,x=.ref a∧IsD H1 a∧ty σ H1 fun y H2=>∃ kvs k v,H2 a=some (.dK kvs)∧y=kV k∧lJ kvs k=some v∧Q v (upd H2 a (.dK (sM kvs k)))
section
variable {X:Cx} {o e f:Expr} {apos Bj:Pos} {td ty tx:TE}
theorem Pq (hu:X.A.units+1<cLine) (ho:PE X o td) (he:PE X e ty) (m:M1 X o "get" apos e Bj):PE X (.Call (.Attribute o "get" apos) [e] [] Bj) (X4 td ty):=by
  intro pins s σ H Q I h
  refine wpAny_Call_method m.base m.few m.line PySem.F.plainAttrs_dict PySem.F.slot_dict_get PySem.F.type_dict_get (thn (ho pins s σ H _ I h) fun u s1 ⟨x,H1,I1,rx,a,ex,d,q1⟩=>?_)
  subst ex
  obtain rfl:u=Value.ref a:=rx
  obtain ⟨t1,t2,_⟩:=Qm I1 d
  refine ⟨t1,t2,?_⟩
  rw [m.trees]
  refine Calls.callWith_builtin rfl (Calls.evalArgs_plain (Calls.spliced_cons (thn (he pins s1 σ H1 _ I1 q1) fun iv s2 ⟨y,H2,I2,ry,ov,g,q2⟩=>Calls.spliced_nil ?_)))
  exact X3 hu I2 g ry fun w' s3 I3 rw'=>⟨_,H2,I3,rw',q2⟩
theorem FR (ho:PE X o td) (he:PE X e ty) (m:M1 X o "pop" apos e Bj):PE X (.Call (.Attribute o "pop" apos) [e] [] Bj) (X5 td ty):=by
  intro pins s σ H Q I h
  refine wpAny_Call_method m.base m.few m.line PySem.F.plainAttrs_dict PySem.F.slot_dict_pop PySem.F.type_dict_pop (thn (ho pins s σ H _ I h) fun u s1 ⟨x,H1,I1,rx,a,ex,d,q1⟩=>?_)
  subst ex
  obtain rfl:u=Value.ref a:=rx
  obtain ⟨t1,t2,_⟩:=Qm I1 d
  refine ⟨t1,t2,?_⟩
  rw [m.trees]
  refine Calls.callWith_builtin rfl (Calls.evalArgs_plain (Calls.spliced_cons (thn (he pins s1 σ H1 _ I1 q1) fun iv s2 ⟨y,H2,I2,ry,kvs,k,v,ea,ey,l,q2⟩=>Calls.spliced_nil ?_)))
  subst ey
  exact abj I2 ea ry l (.inl rfl) fun w' s3 I3 rw'=>⟨v,_,I3,rw',q2⟩
end
section
variable {X:Cx} {pins:List (Addr×Obj)} {σ:St} {H:Hp} {s:Shared} {a:Addr} {kvs:List (Key×V)} {A:Around} {E:Value→Shared→Prop}
end
section
variable {X:Cx} {pins:List (Addr×Obj)} {σ:St} {H:Hp} {s:Shared} {a:Addr} {y:V} {u:Value} {A:Around} {E:Value→Shared→Prop}
end
end L2
namespace L2
open PySem PySem.Spec PyProof.Rows
section
variable {X:Cx}
theorem Oj:xQ X (.builtin "len") (fun xs H Q=>∃ a kvs,xs=[V.ref a]∧H a=some (.dK kvs)∧Q (.int kvs.length) H):=by
  intro pins s σ H xs us Q I r h
  obtain ⟨a,kvs,rfl,ha,q⟩:=h
  obtain ⟨u,rfl,ru⟩:=vals1 r
  cases ru
  exact abk I (.inl ha) fun t s' I'=>⟨.int kvs.length,H,I',⟨t,rfl⟩,q⟩
end
end L2
end
section
namespace LX
open PySem PySem.W
def fJ (c:Value) (od:Option Addr) (fs:Array Value) (sl:Array (Option Value)):Obj:={cls:=c,dict:=od,data:=.fields fs,slots:=sl}
def X6 (dd:Option Addr) (cd:ClassData) (k0 k1 k2 k3 k5:Option Value):Obj:={cls:=.type "type",dict:=dd,data:=.cls cd,slots:=#[k0,k1,k2,k3,some (.builtin "ValueError.__new__"),k5]}
structure iX (K:Frag) (C:Addr) (cd:ClassData):Prop where
 ob:∃ dd k0 k1 k2 k3 k5,K.lookup C=some (X6 dd cd k0 k1 k2 k3 k5)
 del:cd.hasDel=false
 line:∃ r,cd.mro=.ref C::r
 val:cd.mro.contains (.type "ValueError")=true
 bas:cd.mro.contains (.type "BaseException")=true
 obj:cd.mro.contains (.type "object")=true
 atr:cd.mro.contains (.type "AttributeError")=false
 nam:cd.mro.contains (.type "NameError")=false
def JB (K:Frag) (C:Addr):Bool:=match K.lookup C with
 | some ⟨.type "type",_,.cls cd,sl⟩=>(match cd.mro,sl.toList with
  | .ref D::_,[_,_,_,_,some (.builtin n),_]=>D == C&&n == "ValueError.__new__" && !cd.hasDel&&cd.mro.contains (.type "ValueError")&&cd.mro.contains (.type "BaseException") &&
    cd.mro.contains (.type "object")&&!cd.mro.contains (.type "AttributeError")&&!cd.mro.contains (.type "NameError")
  | _,_=>false)
 | _=>false
theorem mI {K:Frag} {C:Addr} (e:JB K C=true):∃ cd,clsIn K C=some cd∧iX K C cd:=by
 unfold JB at e
 split at e
 ·rename_i dd cd sl ho
  split at e
  ·rename_i D r k0 k1 k2 k3 n k5 hm hs
   simp only [Bool.and_eq_true,beq_iff_eq,Bool.not_eq_true'] at e
   obtain ⟨⟨⟨⟨⟨⟨⟨rfl,rfl⟩,e1⟩,e2⟩,e3⟩,e4⟩,e5⟩,e6⟩:=e
   obtain ⟨sl⟩:=sl
   simp only at hs
   subst hs
   exact ⟨cd,by unfold clsIn;rw [ho],⟨dd,k0,k1,k2,k3,k5,ho⟩,e1,⟨r,hm⟩,e2,e3,e4,e5,e6⟩
  ·cases e
 ·cases e
section
variable {K:Frag} {C:Addr} {cd:ClassData} {M:Model} {h:Heap}
theorem iX.cls (x:iX K C cd):clsIn K C=some cd:=by
 obtain ⟨dd,k0,k1,k2,k3,k5,e⟩:=x.ob
 unfold clsIn
 rw [e]
 rfl
theorem iX.FT (x:iX K C cd):cd.mro.isEmpty=false:=by
 obtain ⟨r,e⟩:=x.line
 rw [e]
 rfl
theorem iX.sub (x:iX K C cd) (X:K.In h) (v:Value):Looks M h (isSubtype (.ref C) v) (cd.mro.contains v) :=
 looks_mroIn X (by unfold mroIn;rw [x.cls,Option.bind_some,if_neg (by rw [x.FT];decide)])
theorem iX.mro (x:iX K C cd) (X:K.In h):Looks M h (mroOf (.ref C)) cd.mro:=(looks_clsIn X x.cls).andThen .now
theorem iX.typ (x:iX K C cd) (X:K.In h):Looks M h (typeOf (.ref C)) (.type "type"):=by
 obtain ⟨dd,k0,k1,k2,k3,k5,e⟩:=x.ob
 exact (Looks.ld (X _ _ e)).andThen .now
theorem iX.ab4 (x:iX K C cd) (X:K.In h):Looks M h (isType (.ref C)) true:=by
 obtain ⟨dd,k0,k1,k2,k3,k5,e⟩:=x.ob
 intro A Q E s k q
 unfold isType loadHead
 exact wpAny_bind (wpAny_loadPart (k _ _ (X _ _ e)) (wpAny_pure q))
theorem iX.madeBy (x:iX K C cd) (X:K.In h):Looks M h (Bind.madeBy (.ref C)) (some "ValueError.__new__"):=by
 obtain ⟨dd,k0,k1,k2,k3,k5,e⟩:=x.ob
 obtain ⟨r,hr⟩:=x.line
 intro A Q E s k q
 unfold Bind.madeBy
 refine wpAny_bind (x.mro X A _ E s k ?_)
 rw [hr,List.forIn_cons]
 refine wpAny_bind (wpAny_bind (wpAny_bind (wpAny_bind (wpAny_loadPart (k _ _ (X _ _ e)) (wpAny_pure ?_)))))
 exact wpAny_pure (wpAny_pure (wpAny_pure q))
theorem iX.static (x:iX K C cd) (X:K.In h):Looks M h (Bind.staticBase (.ref C)) (.ref C):=by
 obtain ⟨r,hr⟩:=x.line
 intro A Q E s k q
 unfold Bind.staticBase
 refine wpAny_bind (x.mro X A _ E s k ?_)
 rw [hr,List.forIn_cons]
 exact wpAny_bind (wpAny_bind (wpAny_bind (x.madeBy X A _ E s k (wpAny_pure (wpAny_pure (wpAny_pure q))))))
theorem RD:Manifest.canonical "ValueError.__new__" = Manifest.canonical "BaseException.__new__" := PySem.F.excBase_ValueError.canon
theorem iX.here (x:iX K C cd) (X:K.In h):Looks M h (Bind.madeHere "BaseException.__new__" (.ref C)) () :=
 (x.static X).andThen ((x.madeBy X).andThen (Looks.of_pure (by simp only [Option.map_some,RD,bne_self_eq_false,Bool.false_eq_true,if_false])))
end
def Back (x:Addr) (R:Result→Shared→Prop) (r:Result) (s':Shared):Prop:=match r with
 | .ok (.ret v)=>v=.none∧R (.ok (.ret (.ref x))) s'
 | .ok _=>False
 | .error e=>R (.error e) s'
abbrev M3 (C t:Addr):Obj:=fJ (.ref C) none #[.ref t,.none,.none,.none,.bool false,.none] #[]
abbrev vC (vs:List Value):Obj:={cls:=.type "tuple",data:=.seq vs.toArray}
abbrev pV (h:Heap) (C:Addr) (vs:List Value):Heap:=(h.push (vC vs)).push (M3 C h.objs.size)
section
variable {prog:Program} {w:World} {A:Around} {R:Result→Shared→Prop} {h:Heap} {g:Array GenState} {d:Drawn} {t:Nat} {os:OsState} {K:Frag} {C:Addr} {cd:ClassData} {vs:List Value}
theorem Pr (x:iX K C cd) (X:K.In h) (hv:vs.length≤sizeLine) (k:R (.ok (.ret (.ref (h.objs.size+1)))) ⟨pV h C vs,g,d,t,os⟩) :
  codeAny (model prog w) A (.call (.builtin "ValueError.__new__") ⟨.ref C::vs,[]⟩) R ⟨h,g,d,t,os⟩:=by
 have F:=PySem.F.excBase_ValueError
 have st:=x.static (M:=model prog w) X
 have ty:=x.ab4 (M:=model prog w) X
 have mb:=x.madeBy (M:=model prog w) X
 have hh:=x.here (M:=model prog w) X
 have s1:=x.sub (M:=model prog w) X (.type "ValueError")
 rw [x.val] at s1
 have s2:=x.sub (M:=model prog w) X (.type "AttributeError")
 rw [x.atr] at s2
 have s3:=x.sub (M:=model prog w) X (.type "NameError")
 rw [x.nam] at s3
 refine codeAny_call_builtin_code (Code.quiet_builtin _ F.quiet) ?_
 have star:=F.noStar
 simp only [checkBuiltinCall,F.newKind,F.newSplit,F.newRow]
 repeat (first|simp only [bne_self_eq_false,Bool.false_eq_true,if_false,Bool.not_true]|lk)
 refine codeAny_builtinAt F.entry ?_
 unfold Builtin.«BaseException.__new__»
 refine wpAt_bind ?_
 show wpAt _ _ _ (stack >>= _) _ _ _
 refine wpAt_bind (wpAt_stack fun p below=>wpAt_of_wpAny ?_)
 have ad7:=F.ends
 wp_walk
 refine wpAt_of_wpAny ?_
 rw [F.owner]
 repeat (first|simp only [bne_self_eq_false,Bool.false_eq_true,if_false,Bool.not_true]|lk)
 rw [if_neg (by rw [List.size_toArray];omega)]
 obtain ⟨dd,k0,k1,k2,k3,k5,ho⟩:=x.ob
 repeat lk
 refine nd_load (Heap.get?_push_of_some _ (Heap.get?_push_of_some _ (X _ _ ho))) (wpAny_pure (wpAny_pure ?_))
 rw [x.del,if_neg Bool.false_ne_true]
 refine wpAny_pure (wpAny_pure ?_)
 show R _ _
 rw [Heap.size_push]
 exact k
theorem Pt {f:Addr} (x:iX K C cd) (X:K.In h) (hi:findIn K (.ref C) "__init__" = some (some (.ref f))) (hf:typeIn K (.ref f)=some (.type "function")) (hv:vs.length≤sizeLine)
  (k:codeAny (model prog w) (A.under (.builtin "type.__call__" ⟨.ref C::vs,[]⟩)) (.call (.ref f) ⟨.ref (h.objs.size+1)::vs,[]⟩) (Back (h.objs.size+1) R) ⟨pV h C vs,g,d,t,os⟩) :
  codeAny (model prog w) A (.call (.ref C) ⟨vs,[]⟩) R ⟨h,g,d,t,os⟩:=by
 obtain ⟨dd,k0,k1,k2,k3,k5,ho⟩:=x.ob
 have hC:=X _ _ ho
 have ht:=x.typ (M:=model prog w) X
 refine codeAny_of_tree ?_
 show wpAny _ _ (callAny (.ref C) _) _ _ _
 refine nd_load hC ?_
 show wpAny _ _ (callAny.viaDunder (.ref C) _) _ _ _
 unfold callAny.viaDunder
 have sp:Looks (model prog w) h (specialOf (.ref C) "__call__") (some (.builtin "type.__call__")):=ht.andThen (Looks.of_pure tc_lookup)
 refine wpAny_bind (sp.at ?_)
 dsimp only
 rw [tc_bind]
 refine wpAny_bind (wpAny_pure (wpAny_bind (wpAny_pure ?_)))
 refine wpAny_pure (a:=Fin.again (.call (.builtin "type.__call__") ⟨.ref C::vs,[]⟩)) (And.intro rfl ?_)
 refine codeAny_call_builtin_at (Code.quiet_builtin _ (by decide +kernel)) entry_typeCall (check_slot tc_kind tc_split (ht.andThen (Looks.of_pure tc_sub)) (tc_args _ _ _) ?_)
 unfold Builtin.«type.__call__»
 have hm:=x.mro (M:=model prog w) X
 have em:=x.FT
 have mb:=x.madeBy (M:=model prog w) X
 repeat (first|simp only [em,Bool.false_eq_true,if_false]|with_reducible refine wpAny_call ?_|lk)
 refine Pr x X hv ?_
 have kp:∀ b o,h.get? b=some o→(pV h C vs).get? b=some o:=fun b o e=>Heap.get?_push_of_some _ (Heap.get?_push_of_some _ e)
 have X1:K.In (pV h C vs):=X.keeps kp
 have hx:(pV h C vs).get? (h.objs.size+1)=some (M3 C h.objs.size):=by heap_get
 have t1:Looks (model prog w) (pV h C vs) (typeOf (.ref (h.objs.size+1))) (.ref C):=(Looks.ld hx).andThen .now
 have s1:=x.sub (M:=model prog w) X1 (.ref C)
 obtain ⟨r,hr⟩:=x.line
 rw [show cd.mro.contains (.ref C)=true by rw [hr];simp] at s1
 have i1:=looks_findIn (M:=model prog w) X1 hi
 have b1:=bind_fn (M:=model prog w) X1 (.ref (h.objs.size+1)) hf
 unfold isInstance callSpecial? specialOf
 repeat (first|with_reducible refine wpAny_call ?_|lk)
 refine codeAny_mono k fun r s' z=>?_
 rcases r with e|(v|_|_|_)<;>first|exact z|exact z.elim|skip
 obtain ⟨rfl,z⟩:=z
 exact wpAny_pure (wpAny_pure z)
end
end LX
end
section
namespace LX
open PySem PySem.W
section
variable {prog:Program} {w:World} {A:Around} {E:Value→Shared→Prop} {h:Heap} {g:Array GenState} {d:Drawn} {t:Nat} {os:OsState} {K:Frag} {C e t0:Addr} {cd:ClassData} {vs:List Value} {od:Option Addr} {fs:Array Value} {sl:Array (Option Value)}
theorem FU {M:Model} (he:h.get? e=some (fJ (.ref C) od fs sl)):Looks M h (typeOf (.ref e)) (.ref C):=(Looks.ld he).andThen .now
theorem JY {Q:Value→Shared→Prop} (x:iX K C cd) (X:K.In h) (he:h.get? e=some (fJ (.ref C) od fs sl)) (h0:fs[0]?=some (.ref t0)) (hv:vs.length≤sizeLine)
  (k:Q .none ⟨(h.push (vC vs)).update e (Obj.mapFields (·.setIfInBounds 0 (.ref h.objs.size))),g,d,t,os⟩) :
  wpAny (model prog w) A (call (.builtin "ValueError.__init__") (.ref e::vs)) Q E ⟨h,g,d,t,os⟩:=by
 have F:=PySem.F.excBase_ValueError
 have ty:=FU (M:=model prog w) he
 have s1:=x.sub (M:=model prog w) X (.type "ValueError")
 rw [x.val] at s1
 obtain ⟨dd,k0,k1,k2,k3,k5,ho⟩:=x.ob
 have hC:h.get? C=some ⟨.type "type",dd,.cls cd,#[k0,k1,k2,k3,some (.builtin "ValueError.__new__"),k5]⟩:=X _ _ ho
 have star:=F.noStar
 refine wpAny_call (codeAny_call_builtin F.init.plain F.initEntry ?_)
 simp only [checkBuiltinCall,F.initKind,F.initSplit,F.initRow]
 unfold isInstance Bind.checkArgs
 refine wpAny_bind (wpAny_bind (ty.at (s1.at ?_)))
 simp only [Bool.false_eq_true,if_false,Bool.not_true]
 refine wpAny_bind (m:=Bind.printed "*" true _ _) ?_
 unfold Bind.printed Bind.receiverType typeNameWhole
 rw [if_neg (by decide)]
 dsimp only
 rw [if_neg (by decide)]
 refine wpAny_bind (ty.at ?_)
 refine wpAny_bind (wpAny_bind ((looks_clsIn X x.cls).at (wpAny_pure (wpAny_pure ?_))))
 refine wpAny_bind (m:=if ("ValueError" != "*")=true then pure "ValueError" else _) ?_
 rw [if_pos star]
 refine wpAny_pure (wpAny_onRaise ?_)
 show wpAny _ _ (Bind.check _ _ _ _ []) _ _ _
 rw [PyProof.Rows.check_varPos]
 refine wpAny_pure ?_
 unfold Builtin.«BaseException.__init__»
 dsimp only
 rw [if_neg (by simp)]
 unfold newTuple Builtin.BaseException.bexcPut
 have hsz:0<fs.size:=(Array.getElem?_eq_some_iff.mp h0).1
 have e1:=Heap.get?_push_of_some (h:=h) (vC vs) he
 refine wpAny_bind (wpAny_newObj_type ?_ (by show vs.toArray.size≤sizeLine;rw [List.size_toArray];exact hv))
 refine wpAny_bind (wpAny_bind (wpAny_field (s:=⟨h.push (vC vs),g,d,t,os⟩) e1 rfl h0 ?_))
 refine wpAny_bind (wpAny_setField (s:=⟨h.push (vC vs),g,d,t,os⟩) e1 rfl hsz ?_)
 exact wpAny_letGo (wpAny_pure k)
end
end LX
end
section
namespace LX
open PySem PySem.W
section
variable {prog:Program} {w:World} {A:Around} {E:Value→Shared→Prop} {s:Shared} {K:Frag}
theorem RE:findCls K (.type "ValueError") (.type "type") "__init__" = some (.val (.builtin "ValueError.__init__")):=by kernel_rfl
theorem UX:findIn K (.type "type") "__getattribute__" = some (some (.builtin "type.__getattribute__")):=by kernel_rfl
theorem Qn {M:Model} {h:Heap}:Looks M h (typeOf (.type "ValueError")) (.type "type"):=Looks.of_pure (by kernel_rfl)
theorem X7:subIn K (.type "type") (.type "type")=some true:=by kernel_rfl
theorem X8 {M:Model} {h:Heap}:Looks M h (opaqueClassAbove (.type "ValueError")) none:=Looks.of_pure (by kernel_rfl)
theorem RF {pl:Sem Bool} {Q:Value×List Value→Shared→Prop} (X:K.In s.heap) (k:Q (.builtin "ValueError.__init__",[]) {s with toks:=s.toks+1}) :
  wpAny (model prog w) A (getMethod (.type "ValueError") "__init__" pl) Q E s:=by
 have sp:Looks (model prog w) s.heap (specialOf (.type "ValueError") "__getattribute__") (some (.builtin "type.__getattribute__")):=Qn.andThen (looks_findIn X UX)
 unfold getMethod
 refine wpAny_bind (sp.here ?_)
 dsimp only
 rw [if_pos canon_tga]
 refine wpAny_bind (cls_open (hook:=none) X X8 Qn UX (Looks.of_pure (by kernel_rfl)) X7 RE ?_)
 refine wpAny_pure ?_
 show wpAny _ _ (handedOut _) _ _ _
 rw [handedOut_of (by kernel_rfl)]
 exact wpAny_pure (wpAny_pure k)
end
end LX
end
section
namespace LX
open PySem PySem.W
section
variable {prog:Program} {w:World} {A:Around} {E:Value→Shared→Prop} {s:Shared} {K:Frag} {env:Env}
def Ol (K:Frag) (E:Value→Shared→Prop) (v:Value) (s1:Shared):Prop :=
 ∃ (ea C:Addr) (cd:ClassData) (od:Option Addr) (fs:Array Value) (sl:Array (Option Value)),v=.ref ea∧s1.heap.get? ea=some (fJ (.ref C) od fs sl)∧fs[1]?=some .none∧iX K C cd∧K.In s1.heap∧E (.ref ea) s1
theorem Om {e:Expr} {pos:Pos} {Q:Flow→Shared→Prop} (hh:A.handled=none) (k:wpAny (model prog w) A (eval e env) (Ol K E) E s) :
  wpAny (model prog w) A (exec (.Raise (some e) none pos) env) Q E s:=by
 show wpAny (model prog w) A (do standAt pos;raiseStmt env (some (do let v ←eval e env;standAt pos;pure v)) none) Q E s
 refine wpAny_bind (wpAny_standAt ?_)
 unfold raiseStmt
 dsimp only
 refine wpAny_bind (wpAny_bind (wpAny_mono k (fun v s1 q=>wpAny_bind (wpAny_standAt (wpAny_pure ?_))) fun _ _ z=>z))
 obtain ⟨ea,C,cd,od,fs,sl,rfl,he,h1,x,X,hE⟩:=q
 obtain ⟨hp,g,d,tk,os⟩:=s1
 have ty:=FU (M:=model prog w) he
 have nt:Looks (model prog w) hp (isType (.ref ea)) false:=by
  intro A' Q' E' s' kk q
  unfold isType loadHead
  exact wpAny_bind (wpAny_loadPart (kk _ _ he) (wpAny_pure q))
 have sb:=x.sub (M:=model prog w) X (.type "BaseException")
 rw [x.bas] at sb
 have ct:=x.typ (M:=model prog w) X
 have f1:Looks (model prog w) hp (field (.ref ea) 1) .none:=looks_field he 1 h1
 refine wpAny_bind (wpAny_pure ?_)
 dsimp only
 refine wpAny_bind (wpAny_holding ?_)
 unfold excFromValue isExcClass isInstance
 repeat (first|simp only [Bool.false_eq_true,if_false,if_true]|lk)
 show wpAny _ _ handled _ _ _
 refine wpAny_handled ?_
 rw [hh]
 exact wpAny_throw hE
theorem JZ {ea C D:Addr} {cd cd':ClassData} {od:Option Addr} {fs:Array Value} {sl:Array (Option Value)} {h:Heap} {g:Array GenState} {d:Drawn} {t:Nat} {os:OsState} {Q:Bool→Shared→Prop} {M:Model} (x:iX K C cd) (y:iX K D cd') (X:K.In h)
  (he:h.get? ea=some (fJ (.ref C) od fs sl)) (q:Q (cd.mro.contains (.ref D)) ⟨h,g,d,t,os⟩):wpAny M A (excMatches (.ref ea) (.ref D)) Q E ⟨h,g,d,t,os⟩:=by
 have ty:=FU (M:=M) he
 have td:=y.typ (M:=M) X
 have ti:=y.ab4 (M:=M) X
 have tn:Looks M h (isSubtype (.type "type") (.type "tuple")) false:=Looks.of_pure tc_notTuple
 have yb:=y.sub (M:=M) X (.type "BaseException")
 rw [y.bas] at yb
 have xs:=x.sub (M:=M) X (.ref D)
 unfold excMatches isInstance isExcClass
 repeat (first|simp only [Bool.false_eq_true,if_false,if_true,Bool.not_true]|lk)
 cases hb:cd.mro.contains (.ref D) with
 | true =>
  rw [hb] at q
  simp only [if_true]
  repeat lk
  exact q
 | false =>
  rw [hb] at q
  simp only [Bool.false_eq_true,if_false]
  repeat lk
  exact q
theorem Oo {ea C:Addr} {fs:Array Value} {sl:Array (Option Value)} {h:Heap} (he:h.get? ea=some (fJ (.ref C) none fs sl)):InstAt h ea (fJ (.ref C) none fs sl) C none:=⟨he,rfl,rfl,True.intro⟩
theorem RG:(Manifest.canonical "BaseException.__getattribute__" != "object.__getattribute__")=false:=by decide +kernel
theorem Pu {ea C f:Addr} {ox:Obj} {od:Option Obj} {name:Str} {pl:Sem Bool} {Q:Value×List Value→Shared→Prop} (X:K.In s.heap) (I:InstAt s.heap ea ox C od)
  (hg:findIn K (.ref C) "__getattribute__" = some (some (.builtin "BaseException.__getattribute__"))) (hk:findIn K (.ref C) "__getattr__" = some none)
  (hf:findIn K (.ref C) name=some (some (.ref f))) (ht:typeIn K (.ref f)=some (.type "function")) (hs:shadowIn od name=some false) (k:Q (.ref f,[.ref ea]) s) :
  wpAny (model prog w) A (getMethod (.ref ea) name pl) Q E s:=by
 unfold getMethod specialOf
 refine wpAny_bind (wpAny_bind (I.type.here ((looks_findIn X hg).here ?_)))
 dsimp only
 rw [RG,if_neg Bool.false_ne_true]
 refine wpAny_bind (wpAny_bind (I.type.here ((looks_findIn X hk).here ?_)))
 refine wpAny_bind (wpAny_bind (I.type.here ((looks_findIn X hf).here (wpAny_bind ((looks_typeIn X ht).here ?_)))))
 rw [if_neg (by decide +kernel)]
 refine wpAny_bind (wpAny_loadPart I.at_ ?_)
 have hd:=I.dict
 cases e:ox.dict with
 | none=>exact wpAny_bind (wpAny_rule (wpAny_pure k))
 | some dx =>
  cases od with
  | none=>rw [e] at hd;exact hd.elim
  | some o =>
   rw [e] at hd
   obtain ⟨r,a,b⟩:=Option.map_eq_some_iff.mp hs
   refine wpAny_bind (wpAny_bind (wpAny_loadPart hd ?_))
   rw [nsLook_of a]
   refine wpAny_pure ?_
   rw [b]
   exact wpAny_bind (wpAny_rule (wpAny_pure k))
end
end LX
end
section
namespace LX
open PySem PySem.W
structure YI (K:Frag) (C:Addr):Prop where
 ga:findIn K (.ref C) "__getattribute__" = some (some (.builtin "BaseException.__getattribute__"))
 gt:findIn K (.ref C) "__getattr__" = some none
section
variable {prog:Program} {w:World} {A:Around} {E:Value→Shared→Prop} {h:Heap} {g:Array GenState} {d:Drawn} {t:Nat} {os:OsState} {K:Frag} {C ea:Addr} {cd:ClassData} {ox:Obj} {od:Option Obj} {name:Str}
end
end LX
end
section
namespace LX
open PySem PySem.W
section
variable {prog:Program} {w:World} {A:Around} {E:Value→Shared→Prop} {h:Heap} {g:Array GenState} {d:Drawn} {t:Nat} {os:OsState} {K:Frag} {C CH ea:Addr} {cd:ClassData} {fs:Array Value} {sl:Array (Option Value)} {name:Str} {v:Value}
end
end LX
end
section
namespace LX
open PySem
structure Kept (fr xs:List Addr) (h k:Heap):Prop where
 plain:∀ b o,h.get? b=some o→b∉fr→b∉xs→k.get? b=some o
 frame:∀ b o,h.get? b=some o→b∈fr→b∉xs→∃ sl,k.get? b=some {o with slots:=sl}
theorem Kept.trans {fr xs ys:List Addr} {h k m:Heap} (x:Kept fr xs h k) (y:Kept fr ys k m):Kept fr (xs++ys) h m where
 plain:=fun b o e hb hx=>y.plain b o (x.plain b o e hb fun z=>hx (List.mem_append_left _ z)) hb fun z=>hx (List.mem_append_right _ z)
 frame:=fun b o e hb hx=>by
  obtain ⟨sl,e1⟩:=x.frame b o e hb fun z=>hx (List.mem_append_left _ z)
  obtain ⟨sm,e2⟩:=y.frame b _ e1 hb fun z=>hx (List.mem_append_right _ z)
  exact ⟨sm,e2⟩
theorem Kept.weak {fr xs ys:List Addr} {h k:Heap} (x:Kept fr xs h k) (s:∀ b o,h.get? b=some o→b∈xs→b∈ys):Kept fr ys h k :=
 ⟨fun b o e hb hy=>x.plain b o e hb fun z=>hy (s b o e z),fun b o e hb hy=>x.frame b o e hb fun z=>hy (s b o e z)⟩
abbrev gP (l:List Env):List Addr:=l.filterMap (·.frame)
section
variable {M:Model} {A:Around} {E:Value→Shared→Prop} {s:Shared} {base:Heap} {env:Env} {outer:List Env} {L e:Addr} {c:Value} {od:Option Addr} {fs:Array Value} {sl:Array (Option Value)}
theorem Le {l:List Env} (F:s.heap.FunFrames base l) (he:s.heap.get? e=some (fJ c od fs sl)):e∉gP l:=fun z=>by
 obtain ⟨_,o,ho,hn⟩:=F.mem z
 rw [he] at ho
 cases ho
 exact hn fs rfl
theorem Fn {h:Heap} {a:Addr} {i:Nat} {x:Value} (ha:h.get? a=some (fJ c od fs sl)) :
  (h.update a (Obj.mapFields (·.setIfInBounds i x))).get? a=some (fJ c od (fs.setIfInBounds i x) sl):=Heap.get?_update_self _ ha rfl
theorem Fo {head:Value} {had:Bool} {Q:Unit→Shared→Prop} (hA:A.frames=some (env::outer)) (F:s.heap.FunFrames base (env::outer)) (hL:env.frame=some L)
  (he:s.heap.get? e=some (fJ c od fs sl)) (h1:1<fs.size)
  (k:∀ m T oc ts,s.heap.objs.size≤T→Kept (gP (env::outer)) [e] s.heap m→m.get? e=some (fJ c od (fs.setIfInBounds 1 (.ref T)) sl)→m.get? T=some (fJ oc none ts #[])→ts[3]?=some (rawInt L)→Q () {s with heap:=m}) :
  wpAny M A (do let a ←frameOf env;let pl ←entryPlaceOf L had;let b ←EntryCells.newEntry head a .none (rawInt L) .none pl;setField (.ref e) 1 b) Q E s:=by
 have ne:=Le F he
 refine wpAny_bind (wpAny_frameOf_fun hA F hL fun g hg=>?_)
 obtain ⟨g0,g1,g2⟩:=hg
 refine wpAny_bind (wpAny_entryPlaceOf fun pl hp=>?_)
 unfold EntryCells.newEntry newFields
 refine wpAny_bind (wpAny_newObj_type ?_ (hp.sizeOk5 _ _ _ _ _))
 have e1:g.get? e=some (fJ c od fs sl):=(g1 e ne).trans he
 have e2:=Heap.get?_push_of_some (h:=g) {cls:=.type "traceback",dict:=none,data:=.fields ([head,.ref L,.none,rawInt L,.none]++(if pl.isEmpty then List.replicate 6 Value.none else pl)).toArray} e1
 refine wpAny_setField e2 rfl h1 ?_
 have Te:g.objs.size≠e:=Nat.ne_of_gt (Heap.lt_size e1)
 refine k _ g.objs.size (.type "traceback") ([head,.ref L,.none,rawInt L,.none]++(if pl.isEmpty then List.replicate 6 Value.none else pl)).toArray (Nat.le_of_eq g0.symm) ⟨fun b o q hb hx=>?_,fun b o q hb hx=>?_⟩ (Fn e2) ?_ ?_
 ·have be:b≠e:=fun z=>hx (by rw [z];exact List.mem_singleton.mpr rfl)
  rw [Heap.get?_update_other _ _ (Ne.symm be)]
  exact Heap.get?_push_of_some _ ((g1 b hb).trans q)
 ·have be:b≠e:=fun z=>hx (by rw [z];exact List.mem_singleton.mpr rfl)
  obtain ⟨sm,q2⟩:=g2 b o q
  refine ⟨sm,?_⟩
  rw [Heap.get?_update_other _ _ (Ne.symm be)]
  exact Heap.get?_push_of_some _ q2
 ·rw [Heap.get?_update_other _ _ (Ne.symm Te)]
  exact Heap.get?_push_size g rfl
 ·first|(simp;done)|(rcases hp with rfl|⟨_,_,_,_,_,_,_,rfl⟩<;>simp)
inductive DM (h:Heap) (e:Addr) (fs:Array Value):Option Addr→Prop where
 | none (h1:fs[1]?=some .none):DM h e fs none
 | some {T:Addr} {oc:Value} {ts:Array Value} {d:Option Addr} {sl:Array (Option Value)} (h1:fs[1]?=some (.ref T)) (ne:T≠e) (hT:h.get? T=some (fJ oc d ts sl)) (h3:ts[3]?=some .none):DM h e fs (some T)
theorem DM.size {h:Heap} {fs:Array Value} {T:Option Addr} (t:DM h e fs T):1<fs.size:=by
 cases t with
 | none h1=>exact (Array.getElem?_eq_some_iff.mp h1).1
 | some h1=>exact (Array.getElem?_eq_some_iff.mp h1).1
theorem Np {T0:Option Addr} {Q:Unit→Shared→Prop} (hA:A.frames=some (env::outer)) (F:s.heap.FunFrames base (env::outer)) (hL:env.frame=some L) (he:s.heap.get? e=some (fJ c od fs sl)) (t:DM s.heap e fs T0)
  (k:∀ m T oc ts,s.heap.objs.size≤T→Kept (gP (env::outer)) (e::T0.toList) s.heap m→m.get? e=some (fJ c od (fs.setIfInBounds 1 (.ref T)) sl)→m.get? T=some (fJ oc none ts #[])→ts[3]?=some (rawInt L)→Q () {s with heap:=m}) :
  wpAny M A (noteFrame (.ref e) env) Q E s:=by
 unfold noteFrame
 simp only [hL]
 have h1s:=t.size
 cases t with
 | none h1 =>
  refine wpAny_bind (wpAny_field he rfl h1 ?_)
  rw [if_neg (by decide)]
  exact Fo hA F hL he h1s k
 | @some T oc ts d sm h1 ne hT h3 =>
  refine wpAny_bind (wpAny_field he rfl h1 ?_)
  rw [if_pos (show (Value.ref T != Value.none)=true by simp)]
  refine wpAny_bind (wpAny_field hT rfl h3 ?_)
  rw [if_neg (show ¬((Value.none == rawInt L)=true) by simp [rawInt])]
  have h3s:3<ts.size:=(Array.getElem?_eq_some_iff.mp h3).1
  refine wpAny_bind (wpAny_setField hT rfl h3s ?_)
  have oth:∀ b,b≠T→(s.heap.update T (Obj.mapFields (·.setIfInBounds 3 Value.none))).get? b=s.heap.get? b:=fun b hb=>Heap.get?_update_other _ _ (Ne.symm hb)
  have nT:=Le F hT
  have F1:(s.heap.update T (Obj.mapFields (·.setIfInBounds 3 Value.none))).FunFrames base (env::outer):=F.of_keeps fun b o hb hn=>⟨o,(oth b fun z=>by rw [z,hT] at hb;cases hb;exact hn ts rfl).trans hb,rfl⟩
  refine Fo (s:={s with heap:=s.heap.update T (Obj.mapFields (·.setIfInBounds 3 Value.none))}) hA F1 hL ((oth e (Ne.symm ne)).trans he) h1s fun m T' oc' ts' z1 z2 z3 z4 z5=>k m T' oc' ts' ?_ ?_ z3 z4 z5
  ·have zz:(s.heap.update T (Obj.mapFields (·.setIfInBounds 3 Value.none))).objs.size=s.heap.objs.size:=(Heap.SameBut.update (h:=s.heap) (a:=T) (f:=Obj.mapFields (·.setIfInBounds 3 Value.none))).1
   rw [←zz];exact z1
  ·have kk:Kept (gP (env::outer)) [T] s.heap (s.heap.update T (Obj.mapFields (·.setIfInBounds 3 Value.none))) :=
    ⟨fun b o q _ hx=>(oth b fun z=>hx (by rw [z];exact List.mem_singleton.mpr rfl)).trans q,fun b o q _ hx=>⟨o.slots,(oth b fun z=>hx (by rw [z];exact List.mem_singleton.mpr rfl)).trans q⟩⟩
   refine (kk.trans z2).weak fun b o _ q=>?_
   simp only [List.mem_append,List.mem_singleton] at q
   simp only [Option.toList_some,List.mem_cons,List.not_mem_nil,or_false]
   exact q.symm
theorem xS {T:Addr} {oc:Value} {ts:Array Value} {d:Option Addr} {sm:Array (Option Value)} {Q:Unit→Shared→Prop} (he:s.heap.get? e=some (fJ c od fs sl)) (h1:fs[1]?=some (.ref T)) (ne:T≠e)
  (hT:s.heap.get? T=some (fJ oc d ts sm)) (h3:3<ts.size)
  (k:∀ m,(∀ b o,b≠T→s.heap.get? b=some o→m.get? b=some o)→DM m e fs (some T)→m.get? e=some (fJ c od fs sl)→Q () {s with heap:=m}):wpAny M A (setFlight (.ref e) none) Q E s:=by
 unfold setFlight
 refine wpAny_bind (wpAny_field he rfl h1 ?_)
 rw [if_pos (show (Value.ref T != Value.none)=true by simp)]
 have oth:∀ b o,b≠T→s.heap.get? b=some o→(s.heap.update T (Obj.mapFields (·.setIfInBounds 3 Value.none))).get? b=some o:=fun b o hb q=>(Heap.get?_update_other _ _ (Ne.symm hb)).trans q
 exact wpAny_setField hT rfl h3 (k _ oth (.some h1 ne (Fn hT) (by simp [h3])) (oth e _ (Ne.symm ne) he))
theorem Qo {T0:Option Addr} {Q:Unit→Shared→Prop} (hA:A.frames=some (env::outer)) (F:s.heap.FunFrames base (env::outer)) (hL:env.frame=some L) (he:s.heap.get? e=some (fJ c od fs sl)) (t:DM s.heap e fs T0)
  (k:∀ m T fs',s.heap.objs.size≤T→Kept (gP (env::outer)) (e::T0.toList) s.heap m→m.get? e=some (fJ c od fs' sl)→fs'[0]?=fs[0]?→DM m e fs' (some T)→Q () {s with heap:=m}) :
  wpAny M A (leaving env (.ref e)) Q E s:=by
 unfold leaving
 refine wpAny_bind (Np hA F hL he t fun m T oc ts z1 z2 z3 z4 z5=>?_)
 have Te:T≠e:=Nat.ne_of_gt (Nat.lt_of_lt_of_le (Heap.lt_size he) z1)
 have f1:(fs.setIfInBounds 1 (Value.ref T))[1]?=some (.ref T):=by
  have:=t.size
  simp [this]
 refine xS (s:={s with heap:=m}) z3 f1 Te z4 (Array.getElem?_eq_some_iff.mp z5).1 fun m' q1 q2 q3=>k m' T _ z1 ⟨fun b o q hb hx=>?_,fun b o q hb hx=>?_⟩ q3 (by simp) q2
 ·exact q1 b o (Nat.ne_of_lt (Nat.lt_of_lt_of_le (Heap.lt_size q) z1)) (z2.plain b o q hb hx)
 ·obtain ⟨sm,r⟩:=z2.frame b o q hb hx
  exact ⟨sm,q1 b _ (Nat.ne_of_lt (Nat.lt_of_lt_of_le (Heap.lt_size q) z1)) r⟩
end
end LX
end
section
namespace L2
open PySem PySem.Spec PyProof.Rows LX
def ExP (fresh:Bool) (C e:Addr) (od:Option Addr) (h:Heap):Prop:=∃ fs sl t0,h.get? e=some (fJ (.ref C) od fs sl)∧fs[0]?=some (.ref t0)∧(fresh=true→fs[1]?=some .none)
def exo (fresh:Bool) (C e:Addr) (od:Option Addr):HO:=.ext (ExP fresh C e od)
section
variable {P:Program} {w:World} {H:Hp} {h:Heap} {b:Bool} {C e:Addr} {od:Option Addr}
theorem M4 (x:ExP b C e od h):hV P w H h e (exo b C e od):=by
 refine ⟨x,?_,fun h1 h2 p k=>?_⟩
 ·obtain ⟨fs,sl,t0,z,_⟩:=x
  exact ⟨_,z⟩
 ·obtain ⟨fs,sl,t0,z,r⟩:=p
  exact ⟨fs,sl,t0,k _ z,r⟩
theorem Fp (ok:HOk P w H h) (z:H e=some (exo b C e od)):ExP b C e od h:=(show hV P w H h e (exo b C e od) from ok e _ z).1
end
def del (H:Hp) (a:Addr):Hp:=fun b=>if b=a then none else H b
theorem Lf {H:Hp} {a:Addr}:del H a a=none:=by unfold del;rw [if_pos rfl]
theorem vD {H:Hp} {a b:Addr} (h:b≠a):del H a b=H b:=by unfold del;rw [if_neg h]
theorem Lg {H:Hp} {a b:Addr} {o:HO} (h:del H a b=some o):H b=some o∧b≠a:=by
 unfold del at h
 by_cases q:b=a
 ·rw [if_pos q] at h;cases h
 ·rw [if_neg q] at h;exact ⟨h,q⟩
section
variable {P:Program} {w:World} {H H':Hp} {h h':Heap} {a:Addr}
theorem HOk.keeps (ok:HOk P w H h) (k:∀ b u o,H b=some u→h.get? b=some o→h'.get? b=some o):HOk P w H h':=fun b u q =>
 (ok b u q).Jb (fun c v hc r=>by
  rcases hc with rfl|hc
  ·exact k c u v q r
  ·exact k c _ v hc r) (fun _ z=>z) fun _ _ z=>z
theorem HOk.del (ok:HOk P w H h) (ha:∀ y,H a≠some (.own y)) (hb:∀ xs,H a≠some (.tup xs)):HOk P w (del H a) h:=fun b u q=>by
 obtain ⟨q1,q2⟩:=Lg q
 refine (ok b u q1).Jb (fun _ _ _ r=>r) (fun c z=>?_) fun c xs z=>?_
 ·rw [vD fun e=>ha b (by rw [←e];exact z)];exact z
 ·rw [vD fun e=>hb xs (by rw [←e];exact z)];exact z
theorem HOk.add (ok:HOk P w H h) {o:HO} (ha:H a=none) (new:hV P w (upd H a o) h a o):HOk P w (upd H a o) h:=fun b u q=>by
 by_cases e:b=a
 ·subst e
  rw [ah] at q
  cases q
  exact new
 ·rw [af e] at q
  refine (ok b u q).Jb (fun _ _ _ r=>r) (fun c z=>?_) fun c xs z=>?_
  ·rw [af fun e=>by rw [e,ha] at z;cases z];exact z
  ·rw [af fun e=>by rw [e,ha] at z;cases z];exact z
end
theorem tT {h k base:Heap}:∀ {l:List Env},h.FunFrames base l→(∀ b∈frs l,∀ o,h.get? b=some o→∃ sl,k.get? b=some {o with slots:=sl})→k.FunFrames base l
 | [],_,_=>True.intro
 | env::r,⟨h1,⟨L,o,e1,e2,e3,e4⟩,h2⟩,q=>by
  have hm:L∈frs (env::r):=List.mem_filterMap.mpr ⟨env,List.mem_cons_self,e1⟩
  obtain ⟨sl,z⟩:=q L hm o e3
  refine ⟨h1,⟨L,_,e1,e2,z,e4⟩,tT h2 fun b hb o' z'=>q b ?_ o' z'⟩
  obtain ⟨x,hx,hy⟩:=List.mem_filterMap.mp hb
  exact List.mem_filterMap.mpr ⟨x,List.mem_cons_of_mem _ hx,hy⟩
structure Lies (P:Program) (w:World) (outer:List Env) (H H':Hp) (s:Shared) (ea C T:Addr) (od:Option Addr) (fs:Array Value) (sl:Array (Option Value)) (s':Shared):Prop where
 os:s'.os=s.os
 bare:AllBare s'.gens
 un:Un (frs outer) [] H H' s.heap s'.heap
 hok:HOk P w H' s'.heap
 UY:s.heap.get? ea=none
 adq:s.heap.get? T=none
 OT:H' ea=none
 abn:H' T=none
 at_:s'.heap.get? ea=some (fJ (.ref C) od fs sl)
 args:∃ t0,fs[0]?=some (.ref t0)
 trail:DM s'.heap ea fs (some T)
def CXE (P:Program) (w:World):CXT:=fun outer H s E e s'=>∃ ea C T od fs sl H',e=.ref ea∧Lies P w outer H H' s ea C T od fs sl s'∧E (.ref C) od H'
section
variable {X:Cx} {pins:List (Addr×Obj)} {σ:St} {H H':Hp} {s s':Shared} {ea C T:Addr} {od:Option Addr} {fs:Array Value} {sl:Array (Option Value)}
theorem Lies.frames (I:Inv X pins σ H s) (l:Lies X.prog X.w X.stack H H' s ea C T od fs sl s'):s'.heap.FunFrames X.base X.stack :=
 tT I.stack fun b hb o z=>l.un.any z (I.Bg b hb) (by simp)
theorem Lies.on {m:Heap} {t':Nat} (I:Inv X pins σ H s) (l:Lies X.prog X.w X.stack H H' s ea C T od fs sl s') (k:Kept (gP X.stack) [ea,T] s'.heap m) :
  Un (frs X.stack) [] H H' s.heap m∧HOk X.prog X.w H' m:=by
 have fr:∀ b,b∈frs X.stack→H' b=none:=fun b hb=>by
  obtain ⟨_,o,z,_⟩:=I.stack.mem hb
  exact l.un.free b o z (I.Bg b hb) (by simp)
 have ne:∀ b o,s.heap.get? b=some o→b∉[ea,T]:=fun b o z q=>by
  rcases List.mem_cons.mp q with e|q
  ·rw [e,l.UY] at z;cases z
  ·rw [List.mem_singleton.mp q,l.adq] at z;cases z
 refine ⟨⟨fun b o z n hb hx=>?_,fun b o z n hb hx=>?_,l.un.free,fun b o z hx=>?_,l.un.AD,l.un.Ez,l.un.Fi⟩,?_⟩
 ·exact k.plain b o (l.un.keep b o z n hb hx) hb (ne b o z)
 ·obtain ⟨s1,z1⟩:=l.un.slot b o z n hb hx
  obtain ⟨s2,z2⟩:=k.frame b _ z1 hb (ne b o z)
  exact ⟨s2,z2⟩
 ·obtain ⟨o1,z1⟩:=l.un.there b o z hx
  by_cases hb:b∈gP X.stack
  ·obtain ⟨s2,z2⟩:=k.frame b _ z1 hb (ne b o z)
   exact ⟨_,z2⟩
  ·exact ⟨_,k.plain b _ z1 hb (ne b o z)⟩
 ·refine l.hok.keeps fun b u o z q=>k.plain b o q (fun hb=>?_) fun hx=>?_
  ·rw [fr b hb] at z;cases z
  ·rcases List.mem_cons.mp hx with e|hx
   ·rw [e,l.OT] at z;cases z
   ·rw [List.mem_singleton.mp hx,l.abn] at z;cases z
end
end L2
end
section
namespace L2
open PySem PySem.Spec PyProof.Rows LX
section
variable {P:Program} {w:World} {K:W.Frag} {mg:Str→Option Value} {base:Heap} {N:List Str} {qual:Str} {scope:Scope} {f:Addr} {cdv:Value} {A:Around} {outer:List Env} {s₀:Shared} {H₀:Hp} {E₀:XK}
abbrev cxE (P:Program) (w:World) (K:W.Frag) (mg:Str→Option Value) (base:Heap) (N:List Str) (qual:Str) (scope:Scope) (f:Addr) (cdv:Value) (A:Around) (outer:List Env) (s₀:Shared) (H₀:Hp) (E₀:XK):Cx :=
 O6 (CXE P w) P w K mg base N qual scope f cdv A outer s₀ H₀ E₀
theorem L9 {pins:List (Addr×Obj)} {σ:St} {H H':Hp} {s s':Shared} {ea C T:Addr} {od:Option Addr} {fs:Array Value} {sl:Array (Option Value)} (I:Inv (cxE P w K mg base N qual scope f cdv A outer s₀ H₀ E₀) pins σ H s)
  (l:Lies P w (cxE P w K mg base N qual scope f cdv A outer s₀ H₀ E₀).stack H H' s ea C T od fs sl s') (hE:E₀ (.ref C) od H'):(cxE P w K mg base N qual scope f cdv A outer s₀ H₀ E₀).xe (.ref ea) s':=by
 refine Qo I.ok.frames (Lies.frames I l) rfl l.at_ l.trail fun m T' fs' z1 z2 z3 z4 z5=>?_
 obtain ⟨un,hok⟩:=l.on (t':=s'.toks) I z2
 have J:Inv (cxE P w K mg base N qual scope f cdv A outer s₀ H₀ E₀) pins σ H' {s' with heap:=m}:=I.Jv l.os un hok l.bare (fun b z=>absurd z (by simp))
 have old:∀ b o,s₀.heap.get? b=some o→∃ o',s.heap.get? b=some o':=fun b o z=>I.base.there b o z (List.not_mem_nil)
 have e0:s₀.heap.get? ea=none:=by
  cases q:s₀.heap.get? ea with
  | none=>rfl
  | some o =>
   obtain ⟨o',z⟩:=old ea o q
   rw [l.UY] at z;cases z
 have t0:s₀.heap.get? T'=none:=by
  cases q:s₀.heap.get? T' with
  | none=>rfl
  | some o =>
   obtain ⟨o1,y1⟩:=old T' o q
   obtain ⟨o2,y2⟩:=l.un.there T' o1 y1 (by simp)
   exact absurd (Heap.lt_size y2) (Nat.not_lt.mpr z1)
 obtain ⟨a0,ha⟩:=l.args
 exact ⟨ea,C,T',od,fs',sl,H',rfl,⟨J.os,J.bare,J.base,J.hok,e0,t0,l.OT,l.hok.fresh z1,z3,⟨a0,by rw [z4];exact ha⟩,z5⟩,hE⟩
theorem aL {E:XK} (hE:∀ c od H',E c od H'→E₀ c od H'):Passes (CXE P w) (cxE P w K mg base N qual scope f cdv A outer s₀ H₀ E₀) E:=fun pins σ H s e s' I h=>by
 obtain ⟨ea,C,T,od,fs,sl,H',rfl,l,q⟩:=h
 exact L9 I l (hE _ _ _ q)
theorem leave_new {pins:List (Addr×Obj)} {σ:St} {H:Hp} {s:Shared} {ea C:Addr} {od:Option Addr} (I:Inv (cxE P w K mg base N qual scope f cdv A outer s₀ H₀ E₀) pins σ H s) (h1:H ea=some (exo true C ea od)) (h0:H₀ ea=none)
  (hE:E₀ (.ref C) od (del H ea)):(cxE P w K mg base N qual scope f cdv A outer s₀ H₀ E₀).xe (.ref ea) s:=by
 obtain ⟨fs,sl,a0,z,ha,hf⟩:=Fp I.hok h1
 have frz:∀ b,b∈frs (cxE P w K mg base N qual scope f cdv A outer s₀ H₀ E₀).stack→H b=none:=I.Bg
 have e0:s₀.heap.get? ea=none:=by
  cases q:s₀.heap.get? ea with
  | none=>rfl
  | some o =>
   have:=I.base.free ea o q h0 List.not_mem_nil
   rw [h1] at this;cases this
 refine Qo I.ok.frames I.stack rfl z (.none (hf rfl)) fun m T' fs' z1 z2 z3 z4 z5=>?_
 have hd:HOk P w (del H ea) s.heap:=I.hok.del (fun y q=>by rw [h1] at q;cases q) fun xs q=>by rw [h1] at q;cases q
 have hm:HOk P w (del H ea) m:=hd.keeps fun b u o q r=>by
  obtain ⟨q1,q2⟩:=Lg q
  exact z2.plain b o r (fun hb=>by rw [frz b hb] at q1;cases q1) (by simpa using q2)
 have neE:∀ b o,s₀.heap.get? b=some o→b≠ea:=fun b o q r=>by rw [r,e0] at q;cases q
 have t0:s₀.heap.get? T'=none:=by
  cases q:s₀.heap.get? T' with
  | none=>rfl
  | some o =>
   obtain ⟨o2,y2⟩:=I.base.there T' o q List.not_mem_nil
   exact absurd (Heap.lt_size y2) (Nat.not_lt.mpr z1)
 have neL:∀ b o,s₀.heap.get? b=some o→b∈gP (cxE P w K mg base N qual scope f cdv A outer s₀ H₀ E₀).stack→b∈frs outer:=fun b o q hb=>by
  rcases List.mem_cons.mp (I.vv b hb) with r|r
  ·exact absurd (Heap.lt_size q) (by rw [r];exact Nat.not_lt.mpr I.ok.above)
  ·exact r
 have sub:∀ b,b∈frs outer→b∈gP (cxE P w K mg base N qual scope f cdv A outer s₀ H₀ E₀).stack:=fun b hb=>by
  obtain ⟨x,hx,hy⟩:=List.mem_filterMap.mp hb
  exact List.mem_filterMap.mpr ⟨x,List.mem_cons_of_mem _ hx,hy⟩
 refine ⟨ea,C,T',od,fs',sl,del H ea,rfl,⟨I.os,I.bare,⟨fun b o q n hb hx=>?_,fun b o q n hb hx=>?_,fun b o q n hx=>?_,fun b o q hx=>?_,fun b xs q=>?_,fun b o u q=>?_,fun b ps q=>?_⟩,hm,e0,t0,Lf,?_,z3,⟨a0,by rw [z4];exact ha⟩,z5⟩,hE⟩
 ·exact z2.plain b o (I.base.keep b o q n hb hx) (fun z=>hb (neL b o q z)) (by simpa using neE b o q)
 ·obtain ⟨s1,y1⟩:=I.base.slot b o q n hb hx
  obtain ⟨s2,y2⟩:=z2.frame b _ y1 (sub b hb) (by simpa using neE b o q)
  exact ⟨s2,y2⟩
 ·rw [vD (neE b o q)]
  exact I.base.free b o q n hx
 ·obtain ⟨o1,y1⟩:=I.base.there b o q hx
  by_cases hb:b∈gP (cxE P w K mg base N qual scope f cdv A outer s₀ H₀ E₀).stack
  ·obtain ⟨s2,y2⟩:=z2.frame b _ y1 hb (by simpa using neE b o q)
   exact ⟨_,y2⟩
  ·exact ⟨_,z2.plain b _ y1 hb (by simpa using neE b o q)⟩
 ·have r:=I.base.AD b xs q
  rw [vD fun e=>by rw [e,h1] at r;cases r];exact r
 ·have r:=I.base.Ez b o u q
  rw [vD fun e=>by rw [e,h1] at r;cases r];exact r
 ·obtain ⟨more,r⟩:=I.base.Fi b ps q
  exact ⟨more,by rw [vD fun e=>by rw [e,h1] at r;cases r];exact r⟩
 ·by_cases q:T'=ea
  ·rw [q];exact Lf
  ·rw [vD q];exact I.hok.fresh z1
end
end L2
end
section
namespace L2
open PySem PySem.Spec PyProof.Rows LX
theorem Fun.okE {P:Program} {w:World} {K:W.Frag} {mg:Str→Option Value} {base:Heap} {x qual:Str} {st:Stmt} {f:Addr} {fd:FuncData} {N ps:List Str} {k:Nat} {sp:Sp} (F:Fun K x qual st f fd) (S:av N ps (aq st)) (len:∀ vs H Q E,sp vs H Q E→vs.length=ps.length)
  (GS:∀ (cdv:Value) (A:Around) (outer:List Env) (s:Shared) (H:Hp) (vs:List V) (Q:VK) (E:XK),mR k (A.deeper (envOfC qual (aq st) s.heap.objs.size f cdv))→sp vs H Q E →
   ∃ t,PSs (cxE P w K mg base N qual (aq st) f cdv A outer s H E) (bS st) t∧t {nx:=fun _ H'=>Q .non H',rt:=Q} (start N vs) H):Bi P w K mg base (CXE P w) (k+1) f fd ps sp:=by
 obtain ⟨oc,od,kV,doc,pm,an,cdv,ct,osl,rfl,lk,hcd⟩:=F.ex
 exact abc lk hcd S len fun A outer s H vs Q E hr hsp=>GS cdv A outer s H vs Q E hr hsp
def Lh (X:Cx) (E:XK):Prop:=∀ (pins:List (Addr×Obj)) (σ:St) (H:Hp) (s:Shared) (ea C:Addr) (od:Option Addr),Inv X pins σ H s→H ea=some (exo true C ea od)→X.H₀ ea=none→E (.ref C) od (del H ea)→X.xe (.ref ea) s
theorem kS {P:Program} {w:World} {K:W.Frag} {mg:Str→Option Value} {base:Heap} {N:List Str} {qual:Str} {scope:Scope} {f:Addr} {cdv:Value} {A:Around} {outer:List Env} {s₀:Shared} {H₀:Hp} {E₀:XK} :
  Lh (cxE P w K mg base N qual scope f cdv A outer s₀ H₀ E₀) E₀:=fun _ _ _ _ _ _ _ I h1 h0 q=>leave_new I h1 h0 q
def X9 (H₀:Hp) (K:W.Frag) (E:XK) (te:TE):TS:=fun _ σ H=>te σ H fun v H1=>∃ ea C od,v=.ref ea∧H1 ea=some (exo true C ea od)∧(∃ cd,iX K C cd)∧H₀ ea=none∧E (.ref C) od (del H1 ea)
section
variable {X:Cx}
theorem gr {e:Expr} {te:TE} {pos:Pos} {E:XK} (hc:X.calm=true) (hx:Lh X E) (he:PE X e te):PS X (.Raise (some e) none pos) (X9 X.H₀ X.K E te):=by
 intro pins s σ H D I h
 refine Om (K:=X.K) (I.ok.hd hc) (thn (he pins s σ H _ I h) fun u s1 ⟨v,H1,I1,r,ea,C,od,ev,h1,⟨cd,xc⟩,h0,q⟩=>?_)
 subst ev
 obtain rfl:u=Value.ref ea:=r
 obtain ⟨fs,sl,a0,z,ha,hf⟩:=Fp I1.hok h1
 exact ⟨ea,C,cd,od,fs,sl,rfl,z,hf rfl,xc,I1.kIn,hx pins σ H1 s1 ea C od I1 h1 h0 q⟩
def jH (CX:CXT) (X:Cx) (EK:St→XK):Prop:=∀ (pins:List (Addr×Obj)) (σ:St) (H:Hp) (s:Shared) (e:Value) (s':Shared),Inv X pins σ H s→CX X.stack H s (EK σ) e s'→X.xe e s'
theorem Passes.x {CX:CXT} {E:XK} (h:Passes CX X E):jH CX X (fun _=>E):=fun pins σ H s e s' I q=>h pins σ H s e s' I q
def UZ (sp:Sp) (dvs:List V) (EK:St→XK) (t:TA):TE:=fun σ H Q=>t σ H fun vs H1=>sp (vs++dvs) H1 Q (EK σ)
def U0 (C:Addr) (m:Str) (sp:Sp) (dvs:List V) (EK:St→XK) (ta:TE) (t:TA):TE:=fun σ H Q=>ta σ H fun x H1=>∃ a dx fs,x=.ref a∧H1 a=some (.ins C dx fs)∧fs.lookup m=none ∧
 t σ H1 fun vs H2=>sp (x::(vs++dvs)) H2 Q (EK σ)
def ads (C:Addr) (sp:Sp) (EK:St→XK) (t:TA):TE:=fun σ H Q=>t σ H fun vs H1=>∀ ea,H1 ea=none→sp (.ref ea::vs) (upd H1 ea (exo true C ea none)) (fun v H2=>v=.non∧Q (.ref ea) H2) (EK σ)
variable {CX:CXT} {k:Nat} {f C:Addr} {fd:FuncData} {ps:List Str} {sp:Sp} {dvs:List V} {ds:List Value} {EK:St→XK} {x m:Str} {p pos apos:Pos} {e o:Expr} {es:List Expr} {ta:TE} {t:TA}
theorem U1 {pins:List (Addr×Obj)} {σ:St} {H:Hp} {s:Shared} {Q:VK} {us:List Value} {vs:List V} (F:Bi X.prog X.w X.K X.mg X.base CX k f fd ps sp) (hr:mR k X.A) (hb:Binds X.K fd ps ds) (hd:Vals dvs ds) (hx:jH CX X EK)
  (I:Inv X pins σ H s) (r:Vals vs us) (h:sp (vs++dvs) H Q (EK σ)):wpAny (model X.prog X.w) X.A (call (.ref f) us) (EP X pins σ Q) X.xe s:=by
 have r2:Vals (vs++dvs) (us++ds):=r.append hd
 have hl:(us++ds).length=ps.length:=by rw [←r2.length];exact F.len _ _ _ _ h
 refine wpAny_call (codeAny_mono (F.run X.A X.stack s H ⟨us,[]⟩ (us++ds) (vs++dvs) Q (EK σ) hr I.UQ (hb s us I.kIn hl) r2 h) fun r s' hq=>?_)
 cases r with
 | error e=>exact hx pins σ H s e s' I hq
 | ok fl =>
  cases fl with
  | ret u=>exact I.after hq
  | _=>exact False.elim hq
theorem aR (F:Bi X.prog X.w X.K X.mg X.base CX k f fd ps sp) (hr:mR k X.A) (hg:Gl X x) (hm:X.mg x=some (.ref f)) (hk:PySem.W.keepIn X.K (.ref f)=true) (hb:Binds X.K fd ps ds) (hd:Vals dvs ds) (hx:jH CX X EK)
  (ha:PA X (e::es) t) (hdb:(x == ("__debug__" : Str))=false:=by decide) (he:starEach (e::es) X.env=(false,eval e X.env)::starEach es X.env:=by rfl) (hpl:(backTo pos (starEach es X.env)).any (·.1)=false:=by rfl) :
  PE X (.Call (.Name x p) (e::es) [] pos) (UZ sp dvs EK t):=by
 intro pins s σ H Q I h
 refine wpAny_Call_Name_kw (sE I hg hm ?_ hdb)
 exact PySem.W.callWith_K (h₀:=X.base) I.ok.mod.kin hk (thn (ha pos pins s σ H _ I h) fun us s1 ⟨vs,H1,I1,r,q⟩=>⟨I1.kIn,U1 F hr hb hd hx I1 r q⟩) he hpl
theorem aK {pl:Sem Bool} (he:PE X o ta) (c:Cls X.K C) (hm:Meth X.K C m f) (F:Bi X.prog X.w X.K X.mg X.base CX k f fd ps sp) (hr:mR k X.A) (hb:Binds X.K fd ps ds) (hd:Vals dvs ds) (hx:jH CX X EK) (ha:PA X (e::es) t)
  (hst:starEach (e::es) X.env=(false,eval e X.env)::starEach es X.env:=by rfl) (hpl:(backTo pos (starEach es X.env)).any (·.1)=false:=by rfl)
  (ht:eval (.Call (.Attribute o m apos) (e::es) [] pos) X.env=(do
   let ov ←eval o X.env
   standAt apos.atName
   let (f,first) ←holding [ov] (getMethod ov m pl)
   callWith pos f first (backTo pos (starEach (e::es) X.env)) (backToKw pos (keywordEach [] X.env))):=by rfl) :
  PE X (.Call (.Attribute o m apos) (e::es) [] pos) (U0 C m sp dvs EK ta t):=by
 intro pins s σ H Q I h
 refine PySem.W.methodCall_KW (pl:=pl) (thn (he pins s σ H _ I h) fun u s1 ⟨x,H1,I1,rx,a,dx,fs,ex,ea,l,q⟩=>?_) ht
 subst ex
 obtain rfl:u=Value.ref a:=rx
 refine Fl I1 ea c hm l ?_
 exact PySem.W.callWith_K (first:=[.ref a]) (h₀:=X.base) I.ok.mod.kin hm.kp (thn (ha pos pins s1 σ H1 _ I1 q) fun us s2 ⟨vs,H2,I2,r,q2⟩=>⟨I2.kIn,U1 (us:=.ref a::us) (vs:=.ref a::vs) F hr hb hd hx I2 (.cons rfl r) q2⟩) hst hpl
theorem cN {pl:Sem Bool} (he:PE X o ta) (c:Cls X.K C) (hm:Meth X.K C m f) (F:Bi X.prog X.w X.K X.mg X.base CX k f fd ps sp) (hr:mR k X.A) (hb:Binds X.K fd ps ds) (hd:Vals dvs ds) (hx:jH CX X EK)
  (ht:eval (.Call (.Attribute o m apos) [] [] pos) X.env=(do
   let ov ←eval o X.env
   standAt apos.atName
   let (f,first) ←holding [ov] (getMethod ov m pl)
   callWith pos f first (backTo pos (starEach [] X.env)) (backToKw pos (keywordEach [] X.env))):=by rfl) :
  PE X (.Call (.Attribute o m apos) [] [] pos) (U0 C m sp dvs EK ta O5):=by
 intro pins s σ H Q I h
 refine PySem.W.methodCall_KW (pl:=pl) (thn (he pins s σ H _ I h) fun u s1 ⟨x,H1,I1,rx,a,dx,fs,ex,ea,l,q⟩=>?_) ht
 subst ex
 obtain rfl:u=Value.ref a:=rx
 refine Fl I1 ea c hm l ?_
 exact PySem.W.callWith_K0 (first:=[.ref a]) I1.kIn hm.kp (U1 (us:=[.ref a]) (vs:=[.ref a]) F hr hb hd hx I1 (.cons rfl .nil) q)
structure MkX (K:W.Frag) (C f:Addr):Prop where
 cls:∃ cd,iX K C cd
 init:PySem.W.findIn K (.ref C) "__init__" = some (some (.ref f))
 fn:PySem.W.isFn K (.ref f)=true
 kp:PySem.W.keepIn K (.ref C)=true
theorem RH {pins:List (Addr×Obj)} {σ:St} {H:Hp} {s:Shared} {Q:VK} {us:List Value} {vs:List V} (M:MkX X.K C f) (F:Bi X.prog X.w X.K X.mg X.base CX k f fd ps sp) (hr:mR (k+1) X.A) (hb:Binds X.K fd ps []) (hx:jH CX X EK) (hps:ps.length≤1000)
  (I:Inv X pins σ H s) (r:Vals vs us) (h:∀ ea,H ea=none→sp (.ref ea::vs) (upd H ea (exo true C ea none)) (fun v H2=>v=.non∧Q (.ref ea) H2) (EK σ)) :
  wpAny (model X.prog X.w) X.A (call (.ref C) us) (EP X pins σ Q) X.xe s:=by
 have hq:=h (s.heap.objs.size+1) (I.hok.fresh (Nat.le_succ _))
 obtain ⟨cd,xc⟩:=M.cls
 have r2:Vals (V.ref (s.heap.objs.size+1)::vs) (Value.ref (s.heap.objs.size+1)::us):=.cons rfl r
 have hl:(Value.ref (s.heap.objs.size+1)::us).length=ps.length:=by rw [←r2.length];exact F.len _ _ _ _ hq
 have hz:us.length≤sizeLine:=by rw [List.length_cons] at hl;rw [sizeLine_eq];omega
 have I2:Inv X pins σ (upd H (s.heap.objs.size+1) (exo true C (s.heap.objs.size+1) none)) {s with heap:=pV s.heap C us}:=by
  refine I.laid (t':=s.toks) (fun b u q=>Heap.get?_push_of_some _ (Heap.get?_push_of_some _ q)) (Nat.le_succ _) (M4 ⟨#[.ref s.heap.objs.size,.none,.none,.none,.bool false,.none],#[],s.heap.objs.size,?_,rfl,fun _=>rfl⟩)
  show (pV s.heap C us).get? (s.heap.objs.size+1)=some (M3 C s.heap.objs.size)
  heap_get
 obtain ⟨hh,g,d,tk,os⟩:=s
 refine wpAny_call (Pt xc I.kIn M.init (beq_iff_eq.mp M.fn) hz (codeAny_mono (F.run _ X.stack _ _ ⟨Value.ref (hh.objs.size+1)::us,[]⟩ (Value.ref (hh.objs.size+1)::us) _ _ (EK σ) (hr.make C us []) (I2.UQ.make C us [])
  (by have:=hb _ (Value.ref (hh.objs.size+1)::us) I2.kIn (by rw [List.append_nil];exact hl);rw [List.append_nil] at this;exact this) r2 hq) fun r s' hq'=>?_))
 cases r with
 | error e=>exact hx pins σ _ _ e s' I2 hq'
 | ok fl =>
  cases fl with
  | ret u =>
   obtain ⟨v,H',I3,rv,ev,q3⟩:=I2.after hq'
   subst ev
   exact ⟨rv,⟨V.ref (hh.objs.size+1),H',I3,rfl,q3⟩⟩
  | _=>exact False.elim hq'
theorem kT (M:MkX X.K C f) (F:Bi X.prog X.w X.K X.mg X.base CX k f fd ps sp) (hr:mR (k+1) X.A) (hg:Gl X x) (hm:X.mg x=some (.ref C)) (hb:Binds X.K fd ps []) (hx:jH CX X EK)
  (ha:PA X (e::es) t) (hps:ps.length≤1000:=by decide) (hdb:(x == ("__debug__" : Str))=false:=by decide) (he:starEach (e::es) X.env=(false,eval e X.env)::starEach es X.env:=by rfl) (hpl:(backTo pos (starEach es X.env)).any (·.1)=false:=by rfl) :
  PE X (.Call (.Name x p) (e::es) [] pos) (ads C sp EK t):=by
 intro pins s σ H Q I h
 refine wpAny_Call_Name_kw (sE I hg hm ?_ hdb)
 exact PySem.W.callWith_K (h₀:=X.base) I.ok.mod.kin M.kp (thn (ha pos pins s σ H _ I h) fun us s1 ⟨vs,H1,I1,r,q⟩=>⟨I1.kIn,RH M F hr hb hx hps I1 r q⟩) he hpl
end
end L2
end
section
namespace L2
open PySem PySem.Spec PyProof.Rows LX
theorem Pw {H:Hp} {a:Addr} {o:HO} (h:H a=some o):upd H a o=H:=by
 funext b
 by_cases e:b=a
 ·rw [e,ah,h]
 ·rw [af e]
section
variable {X:Cx}
def tVe (K:W.Frag) (t:TA):TE:=fun σ H Q=>t σ H fun vs H1=>∃ ea C od r,vs=.ref ea::r∧r.length≤1000∧H1 ea=some (exo true C ea od)∧(∃ cd,iX K C cd)∧Q .non H1
theorem abo {p apos pos:Pos} {e:Expr} {es:List Expr} {t:TA} {pl:Sem Bool} (hg:Gl X "ValueError") (hm:X.mg "ValueError" = none) (ha:PA X (e::es) t)
  (hst:starEach (e::es) X.env=(false,eval e X.env)::starEach es X.env:=by rfl) (hpl:(backTo pos (starEach es X.env)).any (·.1)=false:=by rfl)
  (ht:eval (.Call (.Attribute (.Name "ValueError" p) "__init__" apos) (e::es) [] pos) X.env=(do
   let ov ←eval (.Name "ValueError" p) X.env
   standAt apos.atName
   let (f,first) ←holding [ov] (getMethod ov "__init__" pl)
   callWith pos f first (backTo pos (starEach (e::es) X.env)) (backToKw pos (keywordEach [] X.env))):=by rfl) :
  PE X (.Call (.Attribute (.Name "ValueError" p) "__init__" apos) (e::es) [] pos) (tVe X.K t):=by
 intro pins s σ H Q I h
 refine PySem.W.methodCall_KW (pl:=pl) (F6 I hg hm PyProof.Rows.Boot.«ValueError» ?_) ht
 refine RF I.kIn ?_
 refine PyProof.Rows.callWith_builtin1 (thn (ha pos pins _ σ H _ (I.tok _) h) fun us s1 ⟨vs,H1,I1,r,ea,C,od,rr,ev,hl,h1,⟨cd,xc⟩,q⟩=>?_) hst hpl
 subst ev
 cases r with
 | @cons _ u _ us' r1 r2 =>
 obtain rfl:u=Value.ref ea:=r1
 obtain ⟨fs,sl,a0,z,ha,hf⟩:=Fp I1.hok h1
 have hz:us'.length≤sizeLine:=by rw [←r2.length,sizeLine_eq];omega
 have I2:Inv X pins σ H1 {s1 with heap:=s1.heap.push (vC us')}:=I1.kept (t':=s1.toks) fun b u q=>Heap.get?_push_of_some _ q
 have z2:=Heap.get?_push_of_some (h:=s1.heap) (vC us') z
 have hs0:0<fs.size:=(Array.getElem?_eq_some_iff.mp ha).1
 have I3:Inv X pins σ (upd H1 ea (exo true C ea od)) {s1 with heap:=(s1.heap.push (vC us')).update ea (Obj.mapFields (·.setIfInBounds 0 (.ref s1.heap.objs.size)))}:=by
  refine I2.write (x:=ea) (e:=ea) (t':=s1.toks) (by rw [h1];exact True.intro) (.inl rfl) (fun b u hb q=>(Heap.get?_update_other _ _ (Ne.symm hb)).trans q) ⟨_,Fn z2⟩ (M4 ⟨_,_,s1.heap.objs.size,Fn z2,by simp [hs0],fun _=>?_⟩)
  have:=hf rfl
  simpa using this
 rw [Pw h1] at I3
 obtain ⟨hh,g,d,tk,os⟩:=s1
 exact JY xc I1.kIn z ha hz ⟨.non,H1,I3,rfl,q⟩
abbrev TF:=St→Hp→(Hp→Prop)→Prop
def PF (X:Cx) (e:Expr) (t:TF):Prop :=
 ∀ (pins:List (Addr×Obj)) (s:Shared) (σ:St) (H:Hp) (Q:Hp→Prop),Inv X pins σ H s→t σ H Q→wpAny (model X.prog X.w) X.A (eval e X.env) (fun v s1=>∃ y tk H1,v=.str y tk∧y.length≤2000∧Inv X pins σ H1 s1∧Q H1) X.xe s
def PFs (X:Cx) (es:List Expr) (t:TF):Prop :=
 ∀ (out:Str) (pins:List (Addr×Obj)) (s:Shared) (σ:St) (H:Hp) (Q:V→Hp→Prop),out.length+2000*es.length≤100000→Inv X pins σ H s→t σ H (fun H1=>∀ y,y.length≤100000→Q (.str y) H1) →
  wpAny (model X.prog X.w) X.A (joinParts out (evalEach es X.env)) (EP X pins σ Q) X.xe s
def U2:TF:=fun _ H Q=>Q H
def adt (te:TE):TF:=fun σ H Q=>te σ H fun v H1=>∃ i,v=.int i∧i.natAbs.log2<1920∧Q H1
def Yb (t u:TF):TF:=fun σ H Q=>t σ H fun H1=>u σ H1 Q
theorem Li:(100000:Nat)≤sizeLine:=by rw [sizeLine_eq];omega
theorem ir {x j pos} (hl:x.length≤2000:=by decide +kernel):PF X (.Constant (.str x) j pos) U2:=fun _ _ _ H _ I h=>Calls.Constant_str ⟨_,_,H,rfl,hl,I.tok _,h⟩
theorem lK {e:Expr} {te:TE} {pos:Pos} (he:PE X e te):PF X (.FormattedValue e (-1) none pos) (adt te):=by
 intro pins s σ H Q I h
 refine FormattedValue_plain (thn (he pins s σ H _ I h) fun u s1 ⟨v,H1,I1,r,i,ev,hi,q⟩=>?_)
 subst ev
 obtain ⟨t,rfl⟩:=(show ∃ t,u=Value.int i t from r)
 exact formatField_int_small hi ⟨_,_,H1,rfl,Nat.le_trans (int_text_len_1921 hi) (by decide),I1.tok _,q⟩
theorem jI:PFs X [] U2:=fun out pins s σ H Q hl I h =>
 joinParts_nil ⟨.str out,H,I.tok _,⟨_,rfl⟩,h out (by simpa using hl)⟩ (Nat.le_trans (by simpa using hl) Li)
theorem bD {e:Expr} {es:List Expr} {t u:TF} (h1:PF X e t) (h2:PFs X es u):PFs X (e::es) (Yb t u):=by
 intro out pins s σ H Q hl I h
 rw [List.length_cons] at hl
 refine joinParts_consE (joinParts_cons (thn (h1 pins s σ H _ I h) fun v s1 ⟨y,tk,H1,ev,hy,I1,q⟩=>?_))
 subst ev
 have hz:(out++y).length+2000*es.length≤100000:=by rw [strLen_append];omega
 exact ⟨Nat.le_trans (by omega) Li,h2 (out++y) pins s1 σ H1 Q hz I1 q⟩
def abp (t:TF):TE:=fun σ H Q=>t σ H fun H1=>∀ y,y.length≤100000→Q (.str y) H1
theorem jJ {e e':Expr} {es:List Expr} {t:TF} {pos:Pos} (h:PFs X (e::e'::es) t) (hl:2000*(e::e'::es).length≤100000:=by decide):PE X (.JoinedStr (e::e'::es) pos) (abp t) :=
 fun pins s σ H Q I q=>JoinedStr_many (h Str.empty pins s σ H Q (by have z:Str.empty.length=0:=rfl;rw [z];omega) I q)
end
end L2
end
section
namespace L2
open PySem PySem.Spec PyProof.Rows LX
abbrev Cx.JC (X:Cx) (pins:List (Addr×Obj)) (E:Value→Shared→Prop):Cx:={X with xe:=E,pn:=X.pn++pins}
abbrev Cx.sN (X:Cx) (ea:Addr):Cx:={X with A:=X.A.mark (some (.ref ea)),calm:=false,xe:=fun _ _=>False}
section
variable {X:Cx} {pins:List (Addr×Obj)} {σ:St} {H:Hp} {s:Shared} {E:Value→Shared→Prop} {ea:Addr}
theorem Inv.JC (I:Inv X pins σ H s) (E:Value→Shared→Prop):Inv (X.JC pins E) [] σ H s :=
 ⟨⟨I.ok.mod,I.ok.kind,I.ok.glob,I.ok.blt,I.ok.above,I.ok.inj,I.ok.has,I.ok.cab,I.ok.hd,I.ok.frames,I.ok.stk,I.ok.exf,I.ok.bs,I.ok.bsz,I.ok.LY,I.ok.Nf,I.ok.Bf,I.ok.frf⟩,
  I.os,I.bare,I.base,I.loc,I.cell,I.free,I.mj,fun p hp=>I.pin p (by simpa using hp),I.hok,I.len⟩
theorem Inv.Bk {LZ:List (Addr×Obj)} (I:Inv (X.JC pins E) LZ σ H s):Inv X pins σ H s :=
 ⟨⟨I.ok.mod,I.ok.kind,I.ok.glob,I.ok.blt,I.ok.above,I.ok.inj,I.ok.has,I.ok.cab,I.ok.hd,I.ok.frames,I.ok.stk,I.ok.exf,I.ok.bs,I.ok.bsz,I.ok.LY,I.ok.Nf,I.ok.Bf,I.ok.frf⟩,
  I.os,I.bare,I.base,I.loc,I.cell,I.free,I.mj,fun p hp=>I.pin p (List.mem_append_left _ hp),I.hok,I.len⟩
theorem Inv.sN (I:Inv X pins σ H s) (ea:Addr):Inv (X.sN ea) pins σ H s :=
 ⟨⟨I.ok.mod,I.ok.kind,I.ok.glob,I.ok.blt,I.ok.above,I.ok.inj,I.ok.has,I.ok.cab,(fun z=>nomatch z),I.ok.frames,I.ok.stk,I.ok.exf,I.ok.bs,I.ok.bsz,I.ok.LY,I.ok.Nf,I.ok.Bf,I.ok.frf⟩,
  I.os,I.bare,I.base,I.loc,I.cell,I.free,I.mj,I.pin,I.hok,I.len⟩
theorem Inv.uncaught {Y:Cx} (I:Inv (Y.sN ea) pins σ H s) (ok:Y.Ok):Inv Y pins σ H s:=⟨ok,I.os,I.bare,I.base,I.loc,I.cell,I.free,I.mj,I.pin,I.hok,I.len⟩
theorem Inv.abq {o:HO} {c:Value} {od:Option Addr} {fs:Array Value} {sl:Array (Option Value)} (I:Inv X pins σ H s) (hn:H ea=none) (h0:X.s₀.heap.get? ea=none) (hr:s.heap.get? ea=some (fJ c od fs sl))
  (hp:∀ p∈X.pn++pins,p.1≠ea) (new:hV X.prog X.w (upd H ea o) s.heap ea o):Inv X pins σ (upd H ea o) s:=by
 have ne:∀ b u,H b=some u→b≠ea:=fun b u q e=>by rw [e,hn] at q;cases q
 refine ⟨I.ok,I.os,I.bare,⟨I.base.keep,I.base.slot,fun b u q n hx=>?_,I.base.there,fun b xs q=>?_,fun b u v q=>?_,fun b ps q=>?_⟩,I.loc,I.cell,?_,fun x c' q=>?_,fun p hq=>?_,I.hok.add hn new,I.len⟩
 ·rw [af fun e=>by rw [e,h0] at q;cases q]
  exact I.base.free b u q n hx
 ·have r:=I.base.AD b xs q
  rw [af (ne b _ r)];exact r
 ·have r:=I.base.Ez b u v q
  rw [af (ne b _ r)];exact r
 ·obtain ⟨more,r⟩:=I.base.Fi b ps q
  exact ⟨more,by rw [af (ne b _ r)];exact r⟩
 ·rw [af fun e=>?_]
  ·exact I.free
  ·obtain ⟨m,⟨oL,es,ep,ho,hd,_⟩,_⟩:=I.loc
   rw [e,hr] at ho
   cases ho
   cases hd
 ·rw [af fun e=>?_]
  ·exact I.mj x c' q
  ·obtain ⟨v,oc,ho,hd⟩:=I.cell x c' q
   rw [e,hr] at ho
   cases ho
   cases hd
 ·obtain ⟨e,n,z⟩:=I.pin p hq
  exact ⟨e,by rw [af (hp p hq)];exact n,z⟩
end
def Nq (i:Nat) (D:Ends):Ends:={nx:=fun σ H=>D.nx (σ.set i none) H,rt:=D.rt,bk:=fun σ H=>D.bk (σ.set i none) H,ct:=fun σ H=>D.ct (σ.set i none) H}
def Q2 (K:W.Frag) (Dc:Addr) (i:Nat) (ts:TS) (D:Ends):St→XK:=fun σ c od H=>∃ C cd,c=.ref C∧iX K C cd∧cd.mro.contains (.ref Dc)=true∧∀ ea,H ea=none→ts (Nq i D) (σ.set i (some (.ref ea))) (upd H ea (exo false C ea od))
def adu (K:W.Frag) (Dc:Addr) (i:Nat) (tb:(St→XK)→TS) (ts:TS):TS:=fun D σ H=>tb (Q2 K Dc i ts D) D σ H
section
variable {X:Cx}
theorem Px {pins:List (Addr×Obj)} {σ:St} {H:Hp} {s:Shared} {E:Value→Shared→Prop} {n:Str} {i:Nat} {pos:Pos} {Q:Unit→Shared→Prop} (I:Inv X pins σ H s) (hN:X.N.Nodup) (hi:X.N[i]?=some n) (hx:X.env.scope.names.lookup n=some .local)
  (k:∀ s',Inv X pins (σ.set i none) H s'→Q () s'):wpAny (model X.prog X.w) X.A (do bindName X.env n .none;unbindBehindTheSuite X.env n pos) Q E s:=by
 obtain ⟨m,hn,hl⟩:=id I.loc
 have Yz:(X.env.scope.kind == .class||(X.env.scope.kind == .module&&X.env.locals != X.env.globals))=false:=by rw [I.ok.kind];rfl
 refine wpAny_nameGoes_keeps hx hn Yz fun h' v hn' hs=>k _ ?_
 obtain ⟨oL,_,_,hoL,_⟩:=id hn
 have tr:HOk X.prog X.w H h':=I.hok.keeps fun b u o q r=>(hs.2 b fun e=>by rw [e,I.free] at q;cases q).trans r
 refine ⟨I.ok,I.os,I.bare,⟨fun b o e n hb hx=>?_,fun b o e n hb hx=>?_,I.base.free,fun b o e hx=>?_,I.base.AD,I.base.Ez,I.base.Fi⟩,⟨_,hn',fun j y v' e1 e2 e3=>?_⟩,fun y c e=>?_,I.free,I.mj,fun p hp=>?_,tr,by simpa using I.len⟩
 ·exact (hs.2 b (Nat.ne_of_lt (Nat.lt_of_lt_of_le (Heap.lt_size e) I.ok.above))).trans (I.base.keep b o e n hb hx)
 ·obtain ⟨sl,e1⟩:=I.base.slot b o e n hb hx
  exact ⟨sl,(hs.2 b (Nat.ne_of_lt (Nat.lt_of_lt_of_le (Heap.lt_size e) I.ok.above))).trans e1⟩
 ·obtain ⟨o',e1⟩:=I.base.there b o e hx
  exact ⟨o',(hs.2 b (Nat.ne_of_lt (Nat.lt_of_lt_of_le (Heap.lt_size e) I.ok.above))).trans e1⟩
 ·by_cases hj:j=i
  ·subst hj
   rw [List.getElem?_set] at e2
   simp only [if_true] at e2
   split at e2<;>cases e2
  ·rw [List.getElem?_set_ne (Ne.symm hj)] at e2
   obtain ⟨u',r',q⟩:=hl j y v' e1 e2 e3
   refine ⟨u',r',?_⟩
   rcases q with ⟨kk,e⟩|⟨kk,c,e,z⟩
   ·refine .inl ⟨kk,?_⟩
    have:y≠n:=fun e=>hj (FN hN e1 (e ▸ hi))
    simp [this,e]
   ·exact .inr ⟨kk,c,e,z.sameBut hs (I.cne y c e)⟩
 ·obtain ⟨w',z⟩:=I.cell y c e
  exact ⟨w',z.sameBut hs (I.cne y c e)⟩
 ·obtain ⟨e,n,ne,nf,d⟩:=I.pin p hp
  exact ⟨(hs.2 p.1 ne).trans e,n,ne,nf,d⟩
theorem Yc {body U3:List Stmt} {b₀:Stmt} {x n:Str} {np hpos pos:Pos} {i:Nat} {Dc:Addr} {cdD:ClassData} {tb:(St→XK)→TS} {ts:TS} (hex:X.ex=[]) (hst:X.stack=X.env::X.outer) (hfr:X.env.frame=some X.env.locals) (hg:Gl X x) (hm:X.mg x=some (.ref Dc))
  (hD:iX X.K Dc cdD) (hN:X.N.Nodup) (hi:X.N[i]?=some n) (hx:X.env.scope.names.lookup n=some .local)
  (hb:∀ (pins:List (Addr×Obj)) (E:Value→Shared→Prop) (EK:St→XK),jH (CXE X.prog X.w) (X.JC pins E) EK→PSs (X.JC pins E) body (tb EK))
  (hs:∀ ea,PSs (X.sN ea) (b₀::U3) ts) (hdb:(x == ("__debug__" : Str))=false:=by decide) :
  PS X (.Try body [.ExceptHandler (some (.Name x np)) (some n) (b₀::U3) hpos] [] [] pos) (adu X.K Dc i tb ts):=by
 intro pins s σ H D I h
 refine wpAny_Try_except ?_
 refine wpAny_mono (hb pins (fun e s₁=>∃ σ' H1 sc,Inv X pins σ' H1 sc∧CXE X.prog X.w X.stack H1 sc (Q2 X.K Dc i ts D σ') e s₁) (Q2 X.K Dc i ts D)
  (fun LZ σ' H1 sc e s' J q=>⟨σ',H1,sc,J.Bk,q⟩) [] s σ H D (I.JC _) h) (fun fl s1 q=>?_) fun e s1 q=>?_
 ·cases fl with
  | next =>
   obtain ⟨σ',H',J,q⟩:=q
   exact wpAny_execs_nil ⟨σ',H',J.Bk,q⟩
  | brk=>obtain ⟨σ',H',J,q⟩:=q;exact ⟨σ',H',J.Bk,q⟩
  | cont=>obtain ⟨σ',H',J,q⟩:=q;exact ⟨σ',H',J.Bk,q⟩
  | ret u=>obtain ⟨v,σ',H',J,r,q⟩:=q;exact ⟨v,σ',H',J.Bk,r,q⟩
 ·obtain ⟨σ',H1,sc,J,ea,Cv,T,od,fs,sl,H',rfl,l,C,cd,ec,xc,hmr,q⟩:=q
  cases ec
  have hA:X.A.frames=some (X.env::X.outer):=by rw [J.ok.frames,hst]
  have hF:s1.heap.FunFrames X.base (X.env::X.outer):=by rw [←hst];exact l.frames J
  have e0:X.s₀.heap.get? ea=none:=by
   cases z:X.s₀.heap.get? ea with
   | none=>rfl
   | some o =>
    obtain ⟨o',z'⟩:=J.base.there ea o z (by rw [hex];exact List.not_mem_nil)
    rw [l.UY] at z';cases z'
  have st:∀ (m:Heap) (tk:Nat),Kept (gP X.stack) [ea,T] s1.heap m→Inv X pins σ' H' {s1 with heap:=m,toks:=tk}:=fun m tk k=>by
   obtain ⟨un,hok⟩:=l.on (t':=s1.toks) J k
   exact J.Jv l.os un hok l.bare fun b z=>absurd z (by simp)
  have pn:∀ p∈X.pn++pins,p.1≠ea:=fun p hp e=>by
   obtain ⟨z,_⟩:=J.pin p hp
   rw [e,l.UY] at z;cases z
  refine Np hA hF hfr l.at_ l.trail fun m T' oc tsx z1 z2 z3 z4 z5=>?_
  have Te:T'≠ea:=Nat.ne_of_gt (Nat.lt_of_lt_of_le (Heap.lt_size l.at_) z1)
  have f1:(fs.setIfInBounds 1 (Value.ref T'))[1]?=some (.ref T'):=by
   have:=l.trail.size
   simp [this]
  have k1:Kept (gP X.stack) [ea,T] s1.heap m:=by rw [hst];exact z2
  refine xS (s:={s1 with heap:=m}) z3 f1 Te z4 (Array.getElem?_eq_some_iff.mp z5).1 fun m' q1 q2 q3=>?_
  have nT:∀ b o,s1.heap.get? b=some o→b≠T':=fun b o q=>Nat.ne_of_lt (Nat.lt_of_lt_of_le (Heap.lt_size q) z1)
  have k2:Kept (gP X.stack) [ea,T] s1.heap m':=⟨fun b o q hb hx=>q1 b o (nT b o q) (k1.plain b o q hb hx),fun b o q hb hx=>by
   obtain ⟨sm,r⟩:=k1.frame b o q hb hx
   exact ⟨sm,q1 b _ (nT b o q) r⟩⟩
  have J2:=st m' s1.toks k2
  refine wpAny_handleBy_cons (codeAny_handlers_test ?_) (by intro z;cases z)
  refine sE (X:=X.sN ea) (J2.sN ea) hg hm ?_ hdb
  refine JZ xc hD J2.kIn q3 ?_
  rw [hmr]
  refine codeAny_handlers_suite_as ?_
  cases q2 with
  | @some _ oc2 ts2 d2 sm2 y1 y2 y3 y4 =>
  refine xS (s:={s1 with heap:=m'}) q3 y1 y2 y3 (Array.getElem?_eq_some_iff.mp y4).1 fun m3 r1 r2 r3=>?_
  have k3:Kept (gP X.stack) [ea,T] s1.heap m3:=⟨fun b o q hb hx=>r1 b o (nT b o q) (k2.plain b o q hb hx),fun b o q hb hx=>by
   obtain ⟨sm,r⟩:=k2.frame b o q hb hx
   exact ⟨sm,r1 b _ (nT b o q) r⟩⟩
  have J3:=st m3 s1.toks k3
  obtain ⟨a0,ha⟩:=l.args
  have J4:Inv X pins σ' (upd H' ea (exo false Cv ea od)) {s1 with heap:=m3}:=J3.abq l.OT e0 r3 pn (M4 ⟨_,_,a0,r3,by simpa using ha,fun z=>nomatch z⟩)
  refine AS (X:=X.sN ea) (J4.sN ea) hN hi (.inl hx) (v:=.ref ea) rfl (fun s5 J5=>?_) (.inr hx)
  refine wpAny_mono (hs ea pins s5 _ _ (Nq i D) J5 (q ea l.OT)) (fun fl s6 w=>?_) fun _ _ z=>False.elim z
  have off:∀ {σ6:St} {H6:Hp} {Q6:Unit→Shared→Prop},Inv (X.sN ea) pins σ6 H6 s6→(∀ s7,Inv X pins (σ6.set i none) H6 s7→Q6 () s7)→wpAny (model X.prog X.w) X.A (do bindName X.env n .none;unbindBehindTheSuite X.env n hpos) Q6 X.xe s6 :=
   fun J6 k=>Px (J6.uncaught J.ok) hN hi hx k
  cases fl with
  | next=>obtain ⟨σ6,H6,J6,w⟩:=w;exact off J6 fun s7 J7=>⟨_,_,J7,w⟩
  | brk=>obtain ⟨σ6,H6,J6,w⟩:=w;exact off J6 fun s7 J7=>⟨_,_,J7,w⟩
  | cont=>obtain ⟨σ6,H6,J6,w⟩:=w;exact off J6 fun s7 J7=>⟨_,_,J7,w⟩
  | ret u=>obtain ⟨v,σ6,H6,J6,r,w⟩:=w;exact off J6 fun s7 J7=>⟨v,_,_,J7,r,w⟩
end
end L2
end
section
namespace L2
open PySem PySem.Spec PyProof.Rows LX
section
variable {X:Cx}
def abr (K:W.Frag):R2:=fun x y H Q=>∃ l b xs zs,x=.ref l∧y=.ref b∧SqL K H l xs∧SqL K H b zs∧xs.length+zs.length≤sizeLine∧∀ p,H p=none→Q (.ref p) (upd H p (.lst (xs++zs)))
theorem sJ:OpR X (binaryOp .Add) (abr X.K):=by
 intro pins s σ H x y v u Q I rx ry h
 obtain ⟨l,b,xs,zs,rfl,rfl,hx,hy,hz,q⟩:=h
 cases rx
 cases ry
 obtain ⟨vs,r1,⟨⟨c1,d1,da1,s1⟩,n1,e1,f1,_,g1⟩,_⟩:=I.list hx
 obtain ⟨ws,r2,⟨⟨c2,d2,da2,s2⟩,n2,e2,f2,_,g2⟩,_⟩:=I.list hy
 simp only at f1 g1 f2 g2
 subst f1 g1 f2 g2
 have hl:vs.length+ws.length≤sizeLine:=by rw [←r1.length,←r2.length];exact hz
 have ea:vs.toArray++ws.toArray=(vs++ws).toArray:=by simp
 refine concat_meets ⟨_,e1,rfl⟩ ⟨_,e2,rfl⟩ noFill_list_add seq_list_add PySem.F.slot_list_add PySem.F.entry_list_add (PySem.F.args_list_add_2 _ _) (list_addW l b vs.toArray ws.toArray n1 n2 d1 d2 s1 s2 (by simpa using hl)) ⟨e1,e2,?_⟩
 rw [ea]
 exact ⟨.ref _,_,I.Qj (t':=s.toks) (r1.append r2) (by rw [List.length_append];exact hz),rfl,q _ I.fresh⟩
end
theorem aD.upd {H:Hp} {a:Addr} {o:HO} (h:H a=none):aD H (L2.upd H a o):=fun b u q=>by rw [af fun e=>by rw [e,h] at q;cases q];exact q
structure Lj (K:W.Frag) (C:Addr):Prop where
 cls:∃ cd,iX K C cd
 get:YI K C
 own:PySem.W.findIn K (.ref C) "__class__" = some (some (.builtin "object.__class__"))
def Dt (K:W.Frag):Sp:=fun vs H Q _=>∃ ea C od x,vs=[.ref ea,x]∧H ea=some (exo true C ea od)∧(∃ cd,iX K C cd)∧Q .non H
theorem eJ {P:Program} {w:World} {X:Cx}:jH (CXE P w) X.nox (fun _ _ _ _=>False):=fun _ _ _ _ _ _ _ ⟨_,_,_,_,_,_,_,_,_,q⟩=>q.elim
theorem Oq {n:Int} (h:n.natAbs<2 ^ 1920):n.natAbs.log2<1920:=by
 by_cases z:n.natAbs=0
 ·rw [z];decide
 ·exact (Nat.log2_lt z).mpr h
theorem abt {P:Program} {w:World} {outer:List Env} {H:Hp} {s:Shared} {e:Value} {s':Shared} (h:CXE P w outer H s (fun _ _ _=>False) e s'):False:=by
 obtain ⟨_,_,_,_,_,_,_,_,_,q⟩:=h
 exact q
end L2
end
section
namespace L2
open PySem PySem.Spec PyProof.Rows LX
end L2
end
section
namespace L2
open PySem PySem.Spec PyProof.Rows LX
section
variable {X:Cx}
variable {o e value:Expr} {f:Str} {pos pos':Pos} {ta tv:TE}
structure U4 (K:W.Frag) (C:Addr) (m:Str) (f:Addr):Prop where
 rd:PySem.W.readsIn K C (.type "type")=true
 fc:PySem.W.findCls K (.ref C) (.type "type") m=some (.val (.ref f))
 ga:PySem.W.specialIn K (.ref C) "__getattribute__" = some (some (.builtin "type.__getattribute__"))
 kp:PySem.W.keepIn K (.ref f)=true
theorem Yd {CX:CXT} {k:Nat} {f C:Addr} {fd:FuncData} {ps:List Str} {sp:Sp} {EK:St→XK} {x m:Str} {p apos pos:Pos} {e:Expr} {es:List Expr} {t:TA} {pl:Sem Bool} (hg:Gl X x) (hm:X.mg x=some (.ref C)) (c:U4 X.K C m f) (F:Bi X.prog X.w X.K X.mg X.base CX k f fd ps sp) (hr:mR k X.A) (hb:Binds X.K fd ps [])
  (hx:jH CX X EK) (ha:PA X (e::es) t) (hdb:(x == ("__debug__" : Str))=false:=by decide) (hst:starEach (e::es) X.env=(false,eval e X.env)::starEach es X.env:=by rfl) (hpl:(backTo pos (starEach es X.env)).any (·.1)=false:=by rfl)
  (ht:eval (.Call (.Attribute (.Name x p) m apos) (e::es) [] pos) X.env=(do
   let ov ←eval (.Name x p) X.env
   standAt apos.atName
   let (f,first) ←holding [ov] (getMethod ov m pl)
   callWith pos f first (backTo pos (starEach (e::es) X.env)) (backToKw pos (keywordEach [] X.env))):=by rfl) :
  PE X (.Call (.Attribute (.Name x p) m apos) (e::es) [] pos) (UZ sp [] EK t):=by
 intro pins s σ H Q I h
 refine PySem.W.methodCall_KW (pl:=pl) (sE I hg hm ?_ hdb) ht
 refine PySem.W.method_cls I.kIn c.ga (PySem.W.cls_value I.kIn c.rd c.fc rfl ?_)
 exact PySem.W.callWith_K (first:=[]) (h₀:=X.base) I.ok.mod.kin c.kp (thn (ha pos pins _ σ H _ (I.tok _) h) fun us s1 ⟨vs,H1,I1,r,q⟩=>⟨I1.kIn,U1 F hr hb .nil hx I1 r q⟩) hst hpl
end
end L2
end
section
namespace L2
open PySem PySem.Spec PyProof.Rows LX
theorem AE {prog:Program} {w:World} {A:Around} {R:Result→Shared→Prop} {s:Shared} {elt target iter:Expr} {scope:Scope} {pos:Pos} {it acc:Value} {env:Env} (I:Nat→Shared→Prop)
  (turn:∀ n s,I n s→wpAny (model prog w) A (pyNext it) (fun r s₁=>match r with
   | none=>R (.ok .next) s₁
   | some v=>wpAny (model prog w) A (letOwnedTupleGo target it v) (fun _ s5=>wpAny (model prog w) A (assign target env v) (fun _ s₂=>wpAny (model prog w) A (eval elt env) (fun x s₃ =>
     wpAny (model prog w) A (call (.builtin "list.append") [acc,x]) (fun _ s₄=>∃ m,m<n∧I m s₄) (notedBy (model prog w) A env fun e s'=>R (.error e) s') s₃)
     (notedBy (model prog w) A env fun e s'=>R (.error e) s') s₂) (notedBy (model prog w) A env fun e s'=>R (.error e) s') s5) (notedBy (model prog w) A env fun e s'=>R (.error e) s') s₁) (notedBy (model prog w) A env fun e s'=>R (.error e) s') s)
  (n:Nat) (h:I n s):codeAny (model prog w) A (.compLoop (.ListComp elt [⟨target,iter,[],0⟩] scope pos) 0 it acc env) R s:=by
 refine codeAny_loop rfl I (fun n s hI=>?_) n h
 show wpAny _ _ ((compTurn (.ListComp elt [⟨target,iter,[],0⟩] scope pos) 0 it acc env).onRaise (fun x=>do noteFrame x env;theTreesLotGoes x)) _ _ s
 refine wpAny_noted ?_
 rw [compTurn_list1]
 refine wpAny_bind (wpAny_standAt (wpAny_bind (wpAny_mono (turn n s hI) (fun r s₁ h₁=>?_) fun _ _ h'=>h')))
 cases r with
 | none=>exact wpAny_pure h₁
 | some v =>
  refine wpAny_bind (wpAny_mono h₁ (fun _ s5 h5=>?_) fun _ _ h'=>h')
  exact wpAny_bind (wpAny_mono h5 (fun _ s₂ h₂=>wpAny_bind (wpAny_bind (wpAny_mono h₂ (fun x s₃ h₃=>wpAny_bind (wpAny_mono h₃
   (fun _ s₄ h₄=>wpAny_pure (wpAny_pure ⟨rfl,h₄⟩)) fun _ _ h'=>h')) fun _ _ h'=>h'))) fun _ _ h'=>h')
abbrev cxC (X:Cx) (scope:Scope) (cl:List (Str×Addr)) (NC:List Str) (C:Addr) (fp:List Addr) (s₀:Shared) (H₀:Hp):Cx :=
 {X with N:=NC,s₀:=s₀,H₀:=H₀,env:=compEnvC scope cl C X.env,outer:=X.stack,ex:=fp,fn:=fun _=>false,pn:=[],xe:=fun _ _=>False}
def rA (σ:St) (idx:List Nat):St:=idx.map fun i=>(σ[i]?).getD none
structure vE (X:Cx) (scope:Scope) (cl:List (Str×Addr)) (x:Str) (idx:List Nat) (NC:List Str):Prop where
 U5:closureFor scope X.env=pure cl
 sub:∀ y c,cl.lookup y=some c→X.env.cells.lookup y=some c
 has:∀ y,((relabel scope X.env).names.lookup y=some .cell∨(relabel scope X.env).names.lookup y=some .free)→∃ c,cl.lookup y=some c
 JD:∀ y∈scope.names,y.2≠.cell
 kind:scope.kind=.function
 loc:∀ y∈scope.names,y.2=.local→scope.names.lookup y.1=some .local
 xl:scope.names.lookup x=some .local
 nc:NC=x::idx.map fun i=>X.N.getD i x
 nd:NC.Nodup
 cap:∀ i∈idx,i<X.N.length∧((X.env.scope.names.lookup (X.N.getD i x)=some .cell∨X.env.scope.names.lookup (X.N.getD i x)=some .free)∧((relabel scope X.env).names.lookup (X.N.getD i x)=some .cell∨(relabel scope X.env).names.lookup (X.N.getD i x)=some .free))
section
variable {X:Cx} {scope:Scope} {cl:List (Str×Addr)} {x:Str} {idx:List Nat} {NC:List Str} {C:Addr} {fp:List Addr} {pins:List (Addr×Obj)} {σ:St} {H:Hp} {s:Shared}
theorem AY {h1:Heap} {t':Nat} (c:vE X scope cl x idx NC) (I:Inv X pins σ H s) (hf:∀ b∈fp,Bh X pins H b) (hlt:∀ b∈fp,b<s.heap.objs.size) (ns:h1.Ns s.heap.objs.size (fun _=>none))
  (k:∀ b o,s.heap.get? b=some o→h1.get? b=some o):Inv (cxC X scope cl NC s.heap.objs.size fp s H) [] (none::rA σ idx) H {s with heap:=h1,toks:=t'}:=by
 have sub:∀ b,b∈frs X.stack→b∈X.env.locals::X.fs:=I.vv
 refine ⟨⟨I.ok.mod,c.kind,I.ok.glob,I.ok.blt,Nat.le_refl _,fun y z a h1 h2=>I.ok.inj y z a (c.sub _ _ h1) (c.sub _ _ h2),c.has,fun y a z=>(by cases z),I.ok.hd,I.ok.frames,.inl rfl,fun b hb=>⟨Nat.ne_of_lt (hlt b hb),fun y a q=>(hf b hb).2.2.2.2.1 y a (c.sub _ _ q)⟩,
  fun b o q=>I.bs b o q,Nat.le_trans I.ok.bsz I.sz,fun b o q hb=>?_,fun b hb z=>?_,I.stack,I.Bg⟩,rfl,I.bare,Un.kept k,⟨_,ns,fun i y v e1 e2 e3=>?_⟩,fun y a q=>?_,I.hok.fresh (Nat.le_refl _),fun y a q=>I.mj _ _ (c.sub _ _ q),fun p hp=>(by cases hp),I.hok.keeps fun b u o _ q=>k b o q,?_⟩
 ·rcases (hf b hb).2.2.2.1 with z|z
  ·exact I.ok.LY b o q z
  ·exact absurd (Nat.lt_of_lt_of_le (Heap.lt_size (I.ok.bs b o q).1) z) (Nat.lt_irrefl _)
 ·rcases List.mem_cons.mp (sub b z) with r|r
  ·exact (hf b hb).2.1 r
  ·exact (hf b hb).2.2.1 r
 ·cases i with
  | zero=>cases e2
  | succ j =>
   have e1':(idx.map fun i=>X.N.getD i x)[j]?=some y:=by
    have:(cxC X scope cl NC s.heap.objs.size fp s H).N=NC:=rfl
    rw [this,c.nc] at e1
    exact e1
   have e2':(rA σ idx)[j]?=some (some v):=e2
   rw [List.getElem?_map] at e1'
   unfold rA at e2'
   rw [List.getElem?_map] at e2'
   cases ei:idx[j]? with
   | none=>rw [ei] at e1';cases e1'
   | some i =>
    rw [ei] at e1' e2'
    simp only [Option.map_some,Option.some.injEq] at e1' e2'
    obtain ⟨hi,h2,h3⟩:=c.cap i (List.mem_of_getElem? ei)
    rw [e1'] at h2 h3
    have hN:X.N[i]?=some y:=by
     rw [←e1']
     simp [List.getD,List.getElem?_eq_getElem hi]
    have hσ:σ[i]?=some (some v):=by
     cases q:σ[i]? with
     | none=>rw [q] at e2';cases e2'
     | some o=>rw [q] at e2';simp only [Option.getD_some] at e2';rw [e2']
    obtain ⟨m,hn,hl⟩:=I.loc
    obtain ⟨u,r,l⟩:=hl i y v hN hσ (h2.elim (fun z=>.inr (.inl z)) fun z=>.inr (.inr z))
    refine ⟨u,r,.inr ⟨h3,?_⟩⟩
    rcases l with ⟨l,_⟩|⟨_,a,ha,hc⟩
    ·exfalso
     have l':X.env.scope.names.lookup y=some .local:=l
     rcases h2 with z|z<;>(rw [l'] at z;cases z)
    ·obtain ⟨a',ha'⟩:=c.has y h3
     have:=c.sub _ _ ha'
     rw [ha] at this
     cases this
     exact ⟨a,ha',hc.keeps k⟩
 ·obtain ⟨v,z⟩:=I.cell _ _ (c.sub _ _ q)
  exact ⟨v,z.keeps k⟩
 ·show _=NC.length
  rw [c.nc]
  simp [rA]
def M5 (J:It) (D:Addr) (τ:St) (te:TE) (Q:VK) (H:Hp):Prop:=∃ W:Nat→Nat→List V→Hp→Prop,(∃ m,W 0 m [] H)∧∀ i m ys H2,W i m ys H2→H2 D=some (.lst ys) ∧
 ((J.stop i H2∧Q (.ref D) H2)∨(J.go i H2∧ys.length<sizeLine∧∃ N:List V→Hp→Prop,(∀ zs H',N zs H'→∃ m',m'<m∧W (i+1) m' zs H')∧∀ y H3,J.yld i H2 y H3→te (some y::τ) H3 fun v H4=>H4 D=some (.lst ys)∧N (ys++[v]) (upd H4 D (.lst (ys++[v])))))
def U6 (wi:TI) (idx:List Nat) (te:TE):TE:=fun σ H Q=>wi σ H fun J H1=>∀ D,H1 D=none→M5 J D (rA σ idx) te Q (upd H1 D (.lst []))
theorem AZ {X:Cx} {pins:List (Addr×Obj)} {σ:St} {H:Hp} {s:Shared} {D:Addr} {ys:List V} {v:V} {u:Value} (I:Inv X pins σ H s) (h:H D=some (.lst ys)) (hz:ys.length<sizeLine) (r:RelV v u) :
  wpAny (model X.prog X.w) X.A (call (.builtin "list.append") [.ref D,u]) (fun _ s'=>Inv X pins σ (upd H D (.lst (ys++[v]))) s') X.xe s:=by
 refine thn (vm pins s σ H (.ref D) [v] (.ref D) [u] (fun _ H'=>H'=upd H D (.lst (ys++[v]))) I rfl (.cons r .nil) ⟨D,ys,v,rfl,rfl,h,hz,rfl⟩) fun w s' ⟨_,H',I',_,e⟩=>?_
 rw [←e]
 exact I'
theorem Bl {elt iter:Expr} {px pos:Pos} {wi:TI} {te:TE} (c:vE X scope cl x idx NC) (hc:X.calm=true) (hi:PI X (.Name x px) iter wi) (he:∀ C fp s₀ H₀,PE (cxC X scope cl NC C fp s₀ H₀) elt te)
  (hs:∀ x,foldedSetIterable iter X.env x=pure x:=by intro _;rfl):PE X (.ListComp elt [⟨.Name x px,iter,[],0⟩] scope pos) (U6 wi idx te):=by
 intro pins s σ H Q I h
 rw [eval_ListComp]
 refine wpAny_comprehension_free (use:=none) rfl hs c.U5 c.kind c.loc (thn (hi pins s σ H _ I h) fun v s1 h1=>thn h1 fun itv s2 h2=>?_)
 obtain ⟨it,fp,tn,J,H2,rfl,I2,T,st2,f2,q⟩:=h2
 refine wpAny_newObj_type (wpAny_newFunctionEnv c.JD (by intro y hy;simp at hy) (fun h₁ hns₁ hsb₁=>?_) c.kind)
 dsimp only at hns₁ hsb₁ ⊢
 have I3:Inv X pins σ (upd H2 s2.heap.objs.size (.lst [])) {s2 with heap:=s2.heap.push {cls:=.type "list",data:=.seq ([]:List Value).toArray},toks:=s2.toks}:=I2.Qj (ys:=[]) (its:=[]) .nil (Nat.zero_le _)
 obtain ⟨W,⟨m0,w0⟩,turn⟩:=q s2.heap.objs.size I2.fresh
 generalize hD:s2.heap.objs.size=D at *
 generalize hH:s2.heap.push {cls:=.type "list",data:=.seq ([]:List Value).toArray}=h3 at *
 have Jm:∀ b∈fp,b<D:=fun b hb=>by
  obtain ⟨o,e,_⟩:=T.obj _ _ st2 b hb
  rw [←hD]
  exact Heap.lt_size e
 have hlt:∀ b∈fp,b<h3.objs.size:=fun b hb=>by
  rw [←hH,Heap.size_push,hD]
  exact Nat.lt_succ_of_lt (Jm b hb)
 have hf:∀ b∈fp,Bh X pins (upd H2 D (.lst [])) b:=fun b hb=>⟨by rw [af (Nat.ne_of_lt (Jm b hb))];exact (f2 b hb).1,(f2 b hb).2⟩
 have kp:∀ b o,h3.get? b=some o→h₁.get? b=some o:=fun b o e=>hsb₁.extBut b o (Nat.ne_of_lt (Heap.lt_size e)) (Heap.get?_push_of_some _ e)
 have I4:Inv (cxC X scope cl NC h3.objs.size fp {s2 with heap:=h3,toks:=s2.toks} (upd H2 D (.lst []))) [] (none::rA σ idx) (upd H2 D (.lst [])) {s2 with heap:=h₁,toks:=s2.toks+([]:List (Str×Value)).length} :=
  AY (s:={s2 with heap:=h3,toks:=s2.toks}) c I3 hf hlt hns₁ kp
 have xP:∀ {H':Hp},(∀ b∈fp,H' b=none)→∀ b∈fp,Bh (cxC X scope cl NC h3.objs.size fp {s2 with heap:=h3,toks:=s2.toks} (upd H2 D (.lst []))) [] H' b:=fun hn b hb =>
  ⟨hn b hb,Nat.ne_of_lt (hlt b hb),fun z=>(List.mem_cons.mp (I3.vv b z)).elim (hf b hb).2.1 (hf b hb).2.2.1,.inl hb,fun y a q=>(hf b hb).2.2.2.2.1 y a (c.sub _ _ q),fun p hp=>(by cases hp)⟩
 have st1:tn 0 h₁:=T.keep 0 _ _ st2 fun b hb o e=>kp b o (by rw [←hH];exact Heap.get?_push_of_some _ e)
 have loop:∀ s4:Shared,s4={s2 with heap:=h₁,toks:=s2.toks+([]:List (Str×Value)).length} →
   codeAny (model X.prog X.w) X.A (.compLoop (.ListComp elt [⟨.Name x px,iter,[],0⟩] scope pos) 0 (.ref it) (.ref D) (compEnvC scope cl h3.objs.size X.env)) (compPost (model X.prog X.w) X.A X.xe none (EP X pins σ Q) (.ref D) h3.objs.size) s4:=by
  rintro s4 rfl
  refine AE (fun n s'=>∃ i ys H' v0,Inv (cxC X scope cl NC h3.objs.size fp {s2 with heap:=h3,toks:=s2.toks} (upd H2 D (.lst []))) [] (v0::rA σ idx) H' s'∧tn i s'.heap∧(∀ b∈fp,H' b=none)∧W i n ys H')
   ?_ m0 ⟨0,[],_,none,I4,st1,fun b hb=>(hf b hb).1,w0⟩
  rintro n s5 ⟨i,ys,H5,v0,I5,st5,fr5,w5⟩
  obtain ⟨hDl,alt⟩:=turn i n ys H5 w5
  rcases alt with ⟨stop,qn⟩|⟨go,hz,N,hN,step⟩
  ·refine thn (T.done (cxC X scope cl NC h3.objs.size fp {s2 with heap:=h3,toks:=s2.toks} (upd H2 D (.lst []))) rfl rfl rfl hc i [] s5 _ H5 _ I5 (xP fr5) st5 stop) fun r s6 ⟨hr,I6⟩=>?_
   subst hr
   obtain ⟨m,ns6,_⟩:=id I6.loc
   refine ⟨m,ns6,fun h' hs'=>⟨.ref D,H5,?_,rfl,qn⟩⟩
   have J6:Inv X pins σ H5 s6:=I3.Jv (ch:=fp) I6.os I6.base I6.hok I6.bare fun b hb=>⟨(hf b hb).2.2.2.1,(hf b hb).2.1,(hf b hb).2.2.2.2.1,(hf b hb).2.2.2.2.2⟩
   refine J6.turned (t':=s6.toks) (it:=h3.objs.size) (fun b o hb e=>hs'.extBut b o hb e) I6.free (Nat.ne_of_gt I3.lt) (.inr I3.sz) (fun y a q z=>?_) (fun p hp z=>?_)
   ·obtain ⟨v,q'⟩:=I3.cell y a q
    exact absurd q'.lt (by rw [z];exact Nat.lt_irrefl _)
   ·exact absurd (Heap.lt_size (I3.pin p hp).1) (by rw [z];exact Nat.lt_irrefl _)
  ·refine thn (T.item (cxC X scope cl NC h3.objs.size fp {s2 with heap:=h3,toks:=s2.toks} (upd H2 D (.lst []))) rfl rfl rfl hc i [] s5 _ H5 _ I5 (xP fr5) st5 go) fun r s6 ⟨u,hr,h6⟩=>?_
   subst hr
   refine thn h6 fun _ s7 ⟨y,H7,I7,r7,y7,st7,fr7⟩=>?_
   have I7':=I7.pinned (xP fr7) (T.obj _ _ st7)
   have hnl:(relabel scope X.env).names.lookup x=some .local:=lookup_relabel_local c.xl
   refine wpAny_mono (fH (X:=cxC X scope cl NC h3.objs.size fp {s2 with heap:=h3,toks:=s2.toks} (upd H2 D (.lst []))) (i:=0) (x:=x) (pos:=px) c.nd (by show NC[0]?=some x;rw [c.nc];rfl) (.inl hnl) (.inr hnl) _ s7 _ H7 y u
    (fun σ' H'=>σ'=some y::rA σ idx∧H'=H7) I7' r7 ⟨rfl,rfl⟩) (fun _ s8 ⟨σ8,H8,I8,e8,e8'⟩=>?_) fun _ _ z=>z.elim
   subst e8 e8'
   refine wpAny_mono (he _ _ _ _ _ s8 _ H8 _ I8 (step y H8 y7)) (fun w s9 ⟨v,H9,I9,r9,hD9,n9⟩=>?_) fun _ _ z=>z.elim
   obtain ⟨m',hm,w9⟩:=hN _ _ n9
   refine wpAny_mono (AZ (X:=(cxC X scope cl NC h3.objs.size fp {s2 with heap:=h3,toks:=s2.toks} (upd H2 D (.lst [])))) I9 hD9 hz r9) (fun _ s10 I10=>?_) fun _ _ z=>z.elim
   refine ⟨m',hm,i+1,ys++[v],_,some y,I10.kX,T.keep _ _ _ st7 fun b hb o e=>(I10.pin (b,o) (List.mem_append_right _ (List.mem_append_right _ (fA hb e)))).1,fun b hb=>?_,w9⟩
   obtain ⟨o,e,d⟩:=T.obj _ _ st7 b hb
   exact (I10.pin (b,o) (List.mem_append_right _ (List.mem_append_right _ (fA hb e)))).2.1
 exact codeAny_compStart_list (loop _ rfl) (T.self _ 0 _ _ _ st1 (loop _ rfl))
end
end L2
end
section
namespace L2
open PySem PySem.Spec PyProof.Rows LX
section
variable {X:Cx}
theorem vF {prog:Program} {w:World} {A:Around} {R:Result→Shared→Prop} {s:Shared} {elt target iter c:Expr} {scope:Scope} {pos:Pos} {it acc:Value} {env:Env} (I:Nat→Shared→Prop)
  (turn:∀ n s,I n s→wpAny (model prog w) A (pyNext it) (fun r s₁=>match r with
   | none=>R (.ok .next) s₁
   | some v=>wpAny (model prog w) A (letOwnedTupleGo target it v) (fun _ s5=>wpAny (model prog w) A (assign target env v) (fun _ s₂=>wpAny (model prog w) A (isTrue c env (eval c env)) (fun ok s6=>if ok=true then wpAny (model prog w) A (eval elt env) (fun x s₃ =>
     wpAny (model prog w) A (call (.builtin "list.append") [acc,x]) (fun _ s₄=>∃ m,m<n∧I m s₄) (notedBy (model prog w) A env fun e s'=>R (.error e) s') s₃)
     (notedBy (model prog w) A env fun e s'=>R (.error e) s') s6 else ∃ m,m<n∧I m s6) (notedBy (model prog w) A env fun e s'=>R (.error e) s') s₂) (notedBy (model prog w) A env fun e s'=>R (.error e) s') s5) (notedBy (model prog w) A env fun e s'=>R (.error e) s') s₁) (notedBy (model prog w) A env fun e s'=>R (.error e) s') s)
  (n:Nat) (h:I n s):codeAny (model prog w) A (.compLoop (.ListComp elt [⟨target,iter,[c],0⟩] scope pos) 0 it acc env) R s:=by
 refine codeAny_loop rfl I (fun n s hI=>?_) n h
 show wpAny _ _ ((compTurn (.ListComp elt [⟨target,iter,[c],0⟩] scope pos) 0 it acc env).onRaise (fun x=>do noteFrame x env;theTreesLotGoes x)) _ _ s
 refine wpAny_noted ?_
 rw [compTurn_list]
 refine wpAny_bind (wpAny_standAt (wpAny_bind (wpAny_mono (turn n s hI) (fun r s₁ h₁=>?_) fun _ _ h'=>h')))
 cases r with
 | none=>exact wpAny_pure h₁
 | some v =>
  refine wpAny_bind (wpAny_mono h₁ (fun _ s5 h5=>?_) fun _ _ h'=>h')
  refine wpAny_bind (wpAny_mono h5 (fun _ s₂ h₂=>wpAny_bind (wpAny_mono (wpAny_tests_one h₂) (fun ok s₃ h₃=>?_) fun _ _ h'=>h')) fun _ _ h'=>h')
  cases ok with
  | false=>exact wpAny_pure ⟨rfl,h₃⟩
  | true =>
   exact wpAny_bind (wpAny_bind (wpAny_mono h₃ (fun x s₄ h₄=>wpAny_bind (wpAny_mono h₄ (fun _ s₅ h₅=>wpAny_pure (wpAny_pure ⟨rfl,h₅⟩)) fun _ _ h'=>h')) fun _ _ h'=>h'))
variable {scope:Scope} {cl:List (Str×Addr)} {x:Str} {idx:List Nat} {NC:List Str} {C:Addr} {fp:List Addr} {pins:List (Addr×Obj)} {σ:St} {H:Hp} {s:Shared}
def Qp (wi:TI) (idx:List Nat) (tc:TT) (te:TE):TE:=fun σ H Q=>wi σ H fun J H1=>∀ D,H1 D=none→∃ W:Nat→Nat→List V→Hp→Prop,(∃ m,W 0 m [] (upd H1 D (.lst [])))∧∀ i m ys H2,W i m ys H2→H2 D=some (.lst ys) ∧
 ((J.stop i H2∧Q (.ref D) H2)∨(J.go i H2∧ys.length<sizeLine∧∃ N:List V→Hp→Prop,(∀ zs H',N zs H'→∃ m',m'<m∧W (i+1) m' zs H')∧∀ y H3,J.yld i H2 y H3→tc (some y::rA σ idx) H3 fun b H4=>if b=true then te (some y::rA σ idx) H4 fun v H5=>H5 D=some (.lst ys)∧N (ys++[v]) (upd H5 D (.lst (ys++[v])))
  else N ys H4))
theorem Py {elt iter ct:Expr} {px pos:Pos} {wi:TI} {tc:TT} {te:TE} (c:vE X scope cl x idx NC) (hc:X.calm=true) (hi:PI X (.Name x px) iter wi) (ht:∀ C fp s₀ H₀,PT (cxC X scope cl NC C fp s₀ H₀) ct tc) (he:∀ C fp s₀ H₀,PE (cxC X scope cl NC C fp s₀ H₀) elt te)
  (hs:∀ x,foldedSetIterable iter X.env x=pure x:=by intro _;rfl):PE X (.ListComp elt [⟨.Name x px,iter,[ct],0⟩] scope pos) (Qp wi idx tc te):=by
 intro pins s σ H Q I h
 rw [eval_ListComp]
 refine wpAny_comprehension_free (use:=none) rfl hs c.U5 c.kind c.loc (thn (hi pins s σ H _ I h) fun v s1 h1=>thn h1 fun itv s2 h2=>?_)
 obtain ⟨it,fp,tn,J,H2,rfl,I2,T,st2,f2,q⟩:=h2
 refine wpAny_newObj_type (wpAny_newFunctionEnv c.JD (by intro y hy;simp at hy) (fun h₁ hns₁ hsb₁=>?_) c.kind)
 dsimp only at hns₁ hsb₁ ⊢
 have I3:Inv X pins σ (upd H2 s2.heap.objs.size (.lst [])) {s2 with heap:=s2.heap.push {cls:=.type "list",data:=.seq ([]:List Value).toArray},toks:=s2.toks}:=I2.Qj (ys:=[]) (its:=[]) .nil (Nat.zero_le _)
 obtain ⟨W,⟨m0,w0⟩,turn⟩:=q s2.heap.objs.size I2.fresh
 generalize hD:s2.heap.objs.size=D at *
 generalize hH:s2.heap.push {cls:=.type "list",data:=.seq ([]:List Value).toArray}=h3 at *
 have Jm:∀ b∈fp,b<D:=fun b hb=>by
  obtain ⟨o,e,_⟩:=T.obj _ _ st2 b hb
  rw [←hD]
  exact Heap.lt_size e
 have hlt:∀ b∈fp,b<h3.objs.size:=fun b hb=>by
  rw [←hH,Heap.size_push,hD]
  exact Nat.lt_succ_of_lt (Jm b hb)
 have hf:∀ b∈fp,Bh X pins (upd H2 D (.lst [])) b:=fun b hb=>⟨by rw [af (Nat.ne_of_lt (Jm b hb))];exact (f2 b hb).1,(f2 b hb).2⟩
 have kp:∀ b o,h3.get? b=some o→h₁.get? b=some o:=fun b o e=>hsb₁.extBut b o (Nat.ne_of_lt (Heap.lt_size e)) (Heap.get?_push_of_some _ e)
 have I4:Inv (cxC X scope cl NC h3.objs.size fp {s2 with heap:=h3,toks:=s2.toks} (upd H2 D (.lst []))) [] (none::rA σ idx) (upd H2 D (.lst [])) {s2 with heap:=h₁,toks:=s2.toks+([]:List (Str×Value)).length} :=
  AY (s:={s2 with heap:=h3,toks:=s2.toks}) c I3 hf hlt hns₁ kp
 have xP:∀ {H':Hp},(∀ b∈fp,H' b=none)→∀ b∈fp,Bh (cxC X scope cl NC h3.objs.size fp {s2 with heap:=h3,toks:=s2.toks} (upd H2 D (.lst []))) [] H' b:=fun hn b hb =>
  ⟨hn b hb,Nat.ne_of_lt (hlt b hb),fun z=>(List.mem_cons.mp (I3.vv b z)).elim (hf b hb).2.1 (hf b hb).2.2.1,.inl hb,fun y a q=>(hf b hb).2.2.2.2.1 y a (c.sub _ _ q),fun p hp=>(by cases hp)⟩
 have st1:tn 0 h₁:=T.keep 0 _ _ st2 fun b hb o e=>kp b o (by rw [←hH];exact Heap.get?_push_of_some _ e)
 have loop:∀ s4:Shared,s4={s2 with heap:=h₁,toks:=s2.toks+([]:List (Str×Value)).length} →
   codeAny (model X.prog X.w) X.A (.compLoop (.ListComp elt [⟨.Name x px,iter,[ct],0⟩] scope pos) 0 (.ref it) (.ref D) (compEnvC scope cl h3.objs.size X.env)) (compPost (model X.prog X.w) X.A X.xe none (EP X pins σ Q) (.ref D) h3.objs.size) s4:=by
  rintro s4 rfl
  refine vF (fun n s'=>∃ i ys H' v0,Inv (cxC X scope cl NC h3.objs.size fp {s2 with heap:=h3,toks:=s2.toks} (upd H2 D (.lst []))) [] (v0::rA σ idx) H' s'∧tn i s'.heap∧(∀ b∈fp,H' b=none)∧W i n ys H')
   ?_ m0 ⟨0,[],_,none,I4,st1,fun b hb=>(hf b hb).1,w0⟩
  rintro n s5 ⟨i,ys,H5,v0,I5,st5,fr5,w5⟩
  obtain ⟨hDl,alt⟩:=turn i n ys H5 w5
  rcases alt with ⟨stop,qn⟩|⟨go,hz,N,hN,step⟩
  ·refine thn (T.done (cxC X scope cl NC h3.objs.size fp {s2 with heap:=h3,toks:=s2.toks} (upd H2 D (.lst []))) rfl rfl rfl hc i [] s5 _ H5 _ I5 (xP fr5) st5 stop) fun r s6 ⟨hr,I6⟩=>?_
   subst hr
   obtain ⟨m,ns6,_⟩:=id I6.loc
   refine ⟨m,ns6,fun h' hs'=>⟨.ref D,H5,?_,rfl,qn⟩⟩
   have J6:Inv X pins σ H5 s6:=I3.Jv (ch:=fp) I6.os I6.base I6.hok I6.bare fun b hb=>⟨(hf b hb).2.2.2.1,(hf b hb).2.1,(hf b hb).2.2.2.2.1,(hf b hb).2.2.2.2.2⟩
   refine J6.turned (t':=s6.toks) (it:=h3.objs.size) (fun b o hb e=>hs'.extBut b o hb e) I6.free (Nat.ne_of_gt I3.lt) (.inr I3.sz) (fun y a q z=>?_) (fun p hp z=>?_)
   ·obtain ⟨v,q'⟩:=I3.cell y a q
    exact absurd q'.lt (by rw [z];exact Nat.lt_irrefl _)
   ·exact absurd (Heap.lt_size (I3.pin p hp).1) (by rw [z];exact Nat.lt_irrefl _)
  ·refine thn (T.item (cxC X scope cl NC h3.objs.size fp {s2 with heap:=h3,toks:=s2.toks} (upd H2 D (.lst []))) rfl rfl rfl hc i [] s5 _ H5 _ I5 (xP fr5) st5 go) fun r s6 ⟨u,hr,h6⟩=>?_
   subst hr
   refine thn h6 fun _ s7 ⟨y,H7,I7,r7,y7,st7,fr7⟩=>?_
   have I7':=I7.pinned (xP fr7) (T.obj _ _ st7)
   have hnl:(relabel scope X.env).names.lookup x=some .local:=lookup_relabel_local c.xl
   refine wpAny_mono (fH (X:=cxC X scope cl NC h3.objs.size fp {s2 with heap:=h3,toks:=s2.toks} (upd H2 D (.lst []))) (i:=0) (x:=x) (pos:=px) c.nd (by show NC[0]?=some x;rw [c.nc];rfl) (.inl hnl) (.inr hnl) _ s7 _ H7 y u
    (fun σ' H'=>σ'=some y::rA σ idx∧H'=H7) I7' r7 ⟨rfl,rfl⟩) (fun _ s8 ⟨σ8,H8,I8,e8,e8'⟩=>?_) fun _ _ z=>z.elim
   subst e8 e8'
   refine wpAny_mono (ht _ _ _ _ _ s8 _ H8 _ I8 (step y H8 y7)) (fun bb s11 ⟨H11,I11,q11⟩=>?_) fun _ _ z=>z.elim
   have fin:∀ {H12:Hp} {s12:Shared} {zs:List V} {m':Nat},Inv (cxC X scope cl NC h3.objs.size fp {s2 with heap:=h3,toks:=s2.toks} (upd H2 D (.lst []))) ([]++Et fp s7.heap) (some y::rA σ idx) H12 s12→m'<n→W (i+1) m' zs H12 →
     ∃ m,m<n∧∃ i ys H' v0,Inv (cxC X scope cl NC h3.objs.size fp {s2 with heap:=h3,toks:=s2.toks} (upd H2 D (.lst []))) [] (v0::rA σ idx) H' s12∧tn i s12.heap∧(∀ b∈fp,H' b=none)∧W i m ys H':=fun {H12 s12 zs m'} I12 hm w12=>by
    refine ⟨m',hm,i+1,zs,_,some y,I12.kX,T.keep _ _ _ st7 fun b hb o e=>(I12.pin (b,o) (List.mem_append_right _ (List.mem_append_right _ (fA hb e)))).1,fun b hb=>?_,w12⟩
    obtain ⟨o,e,d⟩:=T.obj _ _ st7 b hb
    exact (I12.pin (b,o) (List.mem_append_right _ (List.mem_append_right _ (fA hb e)))).2.1
   cases bb with
   | false =>
    obtain ⟨m',hm,w9⟩:=hN _ _ q11
    exact fin I11 hm w9
   | true =>
    refine wpAny_mono (he _ _ _ _ _ s11 _ H11 _ I11 q11) (fun w s9 ⟨v,H9,I9,r9,hD9,n9⟩=>?_) fun _ _ z=>z.elim
    obtain ⟨m',hm,w9⟩:=hN _ _ n9
    refine wpAny_mono (AZ (X:=(cxC X scope cl NC h3.objs.size fp {s2 with heap:=h3,toks:=s2.toks} (upd H2 D (.lst [])))) I9 hD9 hz r9) (fun _ s10 I10=>?_) fun _ _ z=>z.elim
    exact fin I10 hm w9
 exact codeAny_compStart_list (loop _ rfl) (T.self _ 0 _ _ _ st1 (loop _ rfl))
end
end L2
end
section
namespace L2
open PySem PySem.Spec PyProof.Rows LX
def Ite (K:W.Frag) (a:Addr):It :=
 ⟨fun i H=>∃ xs x,SqL K H a xs∧xs[i]?=some x,fun i H y H'=>∃ t x,H t=none∧y=.ref t∧(∀ xs,SqL K H a xs→xs[i]?=some x)∧H'=upd H t (.tup [.int (i:Int),x]),fun i H=>∃ xs,SqL K H a xs∧xs.length≤i⟩
theorem Ot {P:Program} {w:World} {K:W.Frag} {es:List Expr} {x1:Nat} {pos:Pos} (a it e:Addr) (hne:e≠it) :
  Turn P w K (.Tuple es x1 pos) (Ite K a) [e,it] e (fun i h=>∃ old,IsEnum h e it i old∧h.IsListIter it a i) where
 mem:=by simp
 obj:=fun i h st b hb=>by
  obtain ⟨old,h1,o,q,c,d⟩:=st
  rcases List.mem_cons.mp hb with z|z
  ·rw [z]
   exact ⟨_,h1,fun v z=>by
    have z':Data.fields _=Data.cell v:=z
    cases z'⟩
  ·rw [List.mem_singleton.mp z]
   exact ⟨o,q,fun v z=>by rw [d] at z;cases z⟩
 keep:=fun i h h' st k=>by
  obtain ⟨old,h1,h2⟩:=st
  exact ⟨old,k e (by simp) _ h1,h2.at fun o q=>k it (by simp) o q⟩
 item:=by
  intro X hP hw hK hc i pins s σ H E I hf st hg
  subst hP hw hK
  obtain ⟨xs,x,hq,hx⟩:=hg
  obtain ⟨its,rv,p,hz⟩:=I.list hq
  obtain ⟨u,hu,ru⟩:=rv.get hx
  obtain ⟨old,he,hit⟩:=st
  have fr:H s.heap.objs.size=none:=I.hok.fresh (Nat.le_refl _)
  refine wpAny_pyNext_enum_item he hit p.isList (x:=u) (by simpa using hu) hne fun h1 heo hit1 ht1 hz1 hk1=>⟨_,rfl,wpAny_letOwnedTupleGo_enum heo fun h2 he2 hs2=>?_⟩
  replace hs2:Heap.SameBut e h1 h2:=hs2
  have hel:e<s.heap.objs.size:=Heap.lt_size he
  have k2:∀ b o,b≠e→b≠it→s.heap.get? b=some o→h2.get? b=some o:=fun b o z1 z2 q=>(hs2.2 b z1).trans (hk1 b o z1 z2 q)
  have ht2:h2.get? s.heap.objs.size=some {cls:=.type "tuple",data:=.seq #[.int i s.toks,u]}:=(hs2.2 _ (Nat.ne_of_gt hel)).trans ht1
  have adv:h2.IsListIter it a (i+1):=hit1.extBut hs2.extBut (Ne.symm hne)
  have nt:∀ b o,s.heap.get? b=some o→b≠s.heap.objs.size:=fun b o q=>Nat.ne_of_lt (Heap.lt_size q)
  have nh:∀ b v,H b=some v→b≠s.heap.objs.size:=fun b v q=>au q fr
  have ne':∀ b v,H b=some v→b≠e∧b≠it:=fun b v q=>⟨au q (hf e (by simp)).1,au q (hf it (by simp)).1⟩
  refine ⟨.ref s.heap.objs.size,upd H s.heap.objs.size (.tup [.int (i:Int),x]),?_,rfl,⟨_,x,fr,rfl,fun ys hy=>by rw [I.K8 hy hq];exact hx,rfl⟩,⟨_,he2,adv⟩,fun b hb=>?_⟩
  ·refine Inv.step (s:=s) (h':=h2) (t':=s.toks+1) (H:=H) (g':=s.gens) (d':=s.drawn) (ch:=[e,it]) I (fun b hb=>⟨(hf b hb).2.2.2.1,(hf b hb).2.1,(hf b hb).2.2.2.2.1,(hf b hb).2.2.2.2.2⟩)
    (fun b o _ _ z q _=>k2 b o (fun y=>z (by simp [y])) (fun y=>z (by simp [y])) q) (fun b o _ _ z q _=>⟨o.slots,k2 b o (fun y=>z (by simp [y])) (fun y=>z (by simp [y])) q⟩)
    (fun b o _ q n=>by rw [af (nt b o q)];exact n) (fun b o z q=>⟨o,k2 b o (fun y=>z (by simp [y])) (fun y=>z (by simp [y])) q⟩)
    (fun b xs q=>by rw [af (nh b _ q)];exact q) (fun b o v q=>by rw [af (nh b _ q)];exact q) (fun b ps q=>⟨#[],by rw [af (nh b _ q),q];simp⟩) (fun m hm=>?_) (fun b v q=>?_) I.bare
   ·obtain ⟨o,es',ep,ho,r⟩:=hm
    exact ⟨o,es',ep,k2 _ o (Ne.symm (hf e (by simp)).2.1) (Ne.symm (hf it (by simp)).2.1) ho,r⟩
   ·by_cases z:b=s.heap.objs.size
    ·subst z
     rw [ah] at q
     cases q
     exact ⟨by show 2≤sizeLine;decide,[.int i s.toks,u],.cons ⟨_,rfl⟩ (.cons ru .nil),_,ht2,rfl,_,rfl⟩
    ·rw [af z] at q
     refine (I.hok b v q).Jb (fun c o hc w=>?_) (fun c w=>by rw [af (nh c _ w)];exact w) fun c xs w=>by rw [af (nh c _ w)];exact w
     rcases hc with y|y
     ·rw [y] at w ⊢
      exact k2 b o (ne' b v q).1 (ne' b v q).2 w
     ·exact k2 c o (ne' c _ y).1 (ne' c _ y).2 w
  ·have hb':b<s.heap.objs.size:=by
    rcases List.mem_cons.mp hb with z|z
    ·rw [z];exact hel
    ·rw [List.mem_singleton.mp z]
     obtain ⟨o,q,_⟩:=hit
     exact Heap.lt_size q
   rw [af (Nat.ne_of_lt hb')]
   exact (hf b hb).1
 done:=by
  intro X hP hw hK hc i pins s σ H E I hf st hg
  subst hP hw hK
  obtain ⟨xs,hq,hx⟩:=hg
  obtain ⟨its,rv,p,hz⟩:=I.list hq
  obtain ⟨f0,f1,f2,f3,f4,f5⟩:=hf it (by simp)
  have hl:=rv.length
  obtain ⟨old,he,hit⟩:=st
  exact wpAny_pyNext_enum_end (I.ok.hd hc) he hit p.isList (by simp;omega) fun h' eb=>⟨rfl,I.turned (t':=s.toks) (fun b o hb q=>eb b o hb q) f0 f1 f3 f4 f5⟩
 self:=fun A i s Q E st h=>by
  obtain ⟨old,he,hit⟩:=st
  exact wpAny_pyIter_enum he h
section
variable {X:Cx} {es:List Expr} {x1:Nat} {tp:Pos}
def abu (K:W.Frag) (ta:TA):TI:=fun σ H R=>ta σ H fun vs H1=>∃ a,vs=[.ref a]∧(∃ xs,SqL K H1 a xs)∧R (Ite K a) H1
theorem Jn {a:Expr} {ta:TA} {p pos:Pos} (hg:Gl X "enumerate") (hm:X.mg "enumerate" = none) (ha:PA X [a] ta) (hs:starEach [a] X.env=[(false,eval a X.env)]:=by rfl):PI X (.Tuple es x1 tp) (.Call (.Name "enumerate" p) [a] [] pos) (abu X.K ta):=by
 intro pins s σ H R I h
 refine Call_ (F6 I hg hm PyProof.Rows.Boot.«enumerate» (PyProof.Rows.callWith_type1 (thn (ha pos pins s σ H _ I h) fun us s1 ⟨vs,H1,I1,r1,q1⟩=>?_) hs rfl))
 obtain ⟨l,e,⟨xs,hq⟩,q⟩:=q1
 subst e
 cases r1 with
 | cons r rr =>
  cases rr
  cases r
  obtain ⟨its,rv,pl,hz⟩:=I1.list hq
  refine call_enumerate_list pl.isList fun h' he hit hsz hk=>?_
  refine wpAny_pyIter_enum he ?_
  refine ⟨s1.heap.objs.size+1,[s1.heap.objs.size+1,s1.heap.objs.size],_,_,H1,rfl,I1.kept (t':=s1.toks) hk,Ot l s1.heap.objs.size (s1.heap.objs.size+1) (Nat.succ_ne_self _),⟨_,he,hit⟩,fun b hb=>?_,q⟩
  have hb':s1.heap.objs.size≤b:=by
   rcases List.mem_cons.mp hb with z|z
   ·rw [z];exact Nat.le_succ _
   ·rw [List.mem_singleton.mp z]
    exact Nat.le_refl _
  exact I1.Qg hb' (I1.hok.fresh hb')
end
theorem FV {K:W.Frag} {a:Addr} {xs:List V} {g:TG} {tb:TS} {D:Ends} {σ:St} {H:Hp} (Pv:Nat→St→Hp→Prop) (h0:Pv 0 σ H) (hl:∀ i σ H,i≤xs.length→Pv i σ H→SqL K H a xs)
  (hs:∀ i x σ H t,xs[i]?=some x→Pv i σ H→H t=none→g (.ref t) σ (upd H t (.tup [.int (i:Int),x])) fun σ2 H2=>tb {D with nx:=Pv (i+1),ct:=Pv (i+1),bk:=D.nx} σ2 H2) (hd:∀ σ H,Pv xs.length σ H→D.nx σ H) :
  ∃ W:Nat→Nat→St→Hp→Prop,(∃ m,W 0 m σ H)∧∀ i m σ H,W i m σ H →
   ((Ite K a).stop i H∧D.nx σ H)∨((Ite K a).go i H∧∃ N:St→Hp→Prop,(∀ σ' H',N σ' H'→∃ m',m'<m∧W (i+1) m' σ' H')∧∀ x H',(Ite K a).yld i H x H'→g x σ H' fun σ2 H2=>tb {D with nx:=N,ct:=N,bk:=D.nx} σ2 H2):=by
 refine ⟨fun i m σ H=>m=xs.length-i∧i≤xs.length∧Pv i σ H,⟨xs.length,by simp,Nat.zero_le _,h0⟩,?_⟩
 rintro i m σ H ⟨rfl,hi,p⟩
 by_cases hlt:i<xs.length
 ·refine .inr ⟨⟨xs,xs[i],hl i σ H hi p,List.getElem?_eq_getElem hlt⟩,Pv (i+1),fun σ' H' p'=>⟨xs.length-(i+1),by omega,rfl,hlt,p'⟩,fun x H' y=>?_⟩
  obtain ⟨t,v,e1,e2,e3,e4⟩:=y
  subst e2 e4
  exact hs i v σ H t (e3 xs (hl i σ H hi p)) p e1
 ·have e:i=xs.length:=by omega
  subst e
  exact .inl ⟨⟨xs,hl _ σ H hi p,Nat.le_refl _⟩,hd σ H p⟩
end L2
namespace L2
open PySem
theorem qk {K:W.Frag} {a:Addr} {xs:List V} {te:TE} {Q:VK} {D:Addr} {τ:St} {H:Hp} (Pv:Nat→List V→Hp→Prop) (h0:Pv 0 [] H) (hD:∀ i ys H,i≤xs.length→Pv i ys H→H D=some (.lst ys)∧ys.length=i) (hl:∀ i ys H,i≤xs.length→Pv i ys H→SqL K H a xs) (hn:xs.length≤sizeLine)
  (hs:∀ i x ys H,xs[i]?=some x→Pv i ys H→te (some x::τ) H fun v H4=>H4 D=some (.lst ys)∧Pv (i+1) (ys++[v]) (upd H4 D (.lst (ys++[v])))) (hd:∀ ys H,Pv xs.length ys H→Q (.ref D) H):M5 (Itl K a) D τ te Q H:=by
 refine ⟨fun i m ys H=>m=xs.length-i∧i≤xs.length∧Pv i ys H,⟨xs.length,by simp,Nat.zero_le _,h0⟩,?_⟩
 rintro i m ys H2 ⟨rfl,hi,p⟩
 obtain ⟨hd1,hd2⟩:=hD i ys H2 hi p
 refine ⟨hd1,?_⟩
 by_cases hlt:i<xs.length
 ·refine .inr ⟨⟨xs,xs[i],hl i ys H2 hi p,List.getElem?_eq_getElem hlt⟩,by omega,Pv (i+1),fun zs H' p'=>⟨xs.length-(i+1),by omega,rfl,hlt,p'⟩,fun y H3 e=>?_⟩
  obtain ⟨e1,e2⟩:=e
  subst e1
  exact hs i y ys _ (e2 xs (hl i ys _ hi p)) p
 ·have e:i=xs.length:=by omega
  subst e
  exact .inl ⟨⟨xs,hl _ ys H2 hi p,Nat.le_refl _⟩,hd ys H2 p⟩
end L2
end
section
namespace L2
open PySem PySem.Spec PyProof.Rows LX
def U7 (sc:Scope) (names:List (Str×NameKind)):List (Str×NameKind):=names.map fun (n,k)=>if (k == .free&&sc.kind == .function&&sc.names.lookup n == some .cell) then (n,.cell) else (n,k)
def Q3 (sc scope:Scope) (x:Str) (ns N:List Str) (idx:List Nat):Prop :=
 (∀ y∈scope.names,y.2≠.cell)∧(∀ y∈scope.names,y.2=.local→scope.names.lookup y.1=some .local)∧scope.names.lookup x=some .local∧(∀ p∈U7 sc scope.names,p.2=.cell∨p.2=.free→p.1∈ns)∧(x::idx.map fun i=>N.getD i x).Nodup ∧
 ∀ i∈idx,i<N.length∧((sc.names.lookup (N.getD i x)=some .cell∨sc.names.lookup (N.getD i x)=some .free)∧((U7 sc scope.names).lookup (N.getD i x)=some .cell∨(U7 sc scope.names).lookup (N.getD i x)=some .free))
instance (sc scope:Scope) (x:Str) (ns N:List Str) (idx:List Nat):Decidable (Q3 sc scope x ns N idx):=by unfold Q3;infer_instance
theorem Du {y:Str}:∀ {cl:List (Str×Addr)},y∈cl.map (·.1)→∃ c,cl.lookup y=some c
 | [],h=>by simp at h
 | (n,c)::r,h=>by
  by_cases e:y=n
  ·exact ⟨c,by simp [List.lookup,e]⟩
  ·have h':y∈r.map (·.1):=by
    rw [List.map_cons] at h
    rcases List.mem_cons.mp h with z|z
    ·exact absurd z e
    ·exact z
   obtain ⟨c',q⟩:=Du h'
   have hb:(y == n)=false:=beq_eq_false_iff_ne.mpr e
   exact ⟨c',by simp only [List.lookup,hb];exact q⟩
theorem pW {X:Cx} {sc scope:Scope} {cl:List (Str×Addr)} {x:Str} {ns N:List Str} {idx:List Nat} (hsc:X.env.scope=sc) (hN:X.N=N) (hk:scope.kind=.function) (p:Q3 sc scope x ns N idx) (hn:cl.map (·.1)=ns)
  (abv:closureFor scope X.env=pure cl) (adw:∀ q∈cl,X.env.cells.lookup q.1=some q.2):vE X scope cl x idx (x::idx.map fun i=>N.getD i x):=by
 obtain ⟨p1,p2,p3,p4,p5,p6⟩:=p
 have re:(relabel scope X.env).names=U7 sc scope.names:=by subst hsc;rfl
 subst hsc hN hn
 refine ⟨abv,fun y c q=>adw (y,c) (PySem.mem_of_lookup q),fun y h=>?_,p1,hk,p2,p3,rfl,p5,fun i hi=>?_⟩
 ·rw [re] at h
  refine Du ?_
  rcases h with h|h
  ·exact p4 (y,.cell) (PySem.mem_of_lookup h) (.inl rfl)
  ·exact p4 (y,.free) (PySem.mem_of_lookup h) (.inr rfl)
 ·rw [re]
  exact p6 i hi
theorem A0 {P:Program} {w:World} {X:Cx}:jH (CXE P w) X (fun _ _ _ _=>False):=fun _ _ _ _ _ _ _ ⟨_,_,_,_,_,_,_,_,_,q⟩=>q.elim
end L2
end
section
namespace L2
open PySem PySem.Spec PyProof.Rows LX
section
variable {X:Cx} {scope:Scope} {cl:List (Str×Addr)} {x:Str} {idx:List Nat} {NC:List Str} {pins:List (Addr×Obj)} {σ:St} {H:Hp} {s:Shared}
theorem RI {i:Nat} {y:Str} {elt iter:Expr} {px py pos Nr:Pos} {wi:TI} {te:TE} (hN:X.N.Nodup) (hi':X.N[i]?=some y) (hx:X.env.scope.names.lookup y=some .local) (c:vE X scope cl x idx NC) (hc:X.calm=true) (hi:PI X (.Name x px) iter wi)
  (he:∀ C fp s₀ H₀,PE (cxC X scope cl NC C fp s₀ H₀) elt te) (hsw:swapsWith (.ListComp elt [⟨.Name x px,iter,[],0⟩] scope pos) (some (.Name y py)) Nr.line X.env=pure true:=by rfl)
  (hs:∀ x,foldedSetIterable iter X.env x=pure x:=by intro _;rfl):PS X (.Assign [.Name y py] (.ListComp elt [⟨.Name x px,iter,[],0⟩] scope pos) Nr) (O3 (U6 wi idx te) (qh i)):=by
 intro pins s σ H D0 I h
 rw [exec_Assign_Name_used _ _ _ _ hsw]
 refine wpAny_bind (wpAny_standAt (wpAny_bind ?_))
 show wpAny _ _ (do let _ ←comprehension (.ListComp elt [⟨.Name x px,iter,[],0⟩] scope pos) scope X.env _ (newList []) false (eval iter X.env) (some (assign (.Name y py) X.env))) _ _ s
 refine wpAny_bind (wpAny_mono (wpAny_comprehension_free (use:=some (assign (.Name y py) X.env)) (Q:=fun _ s'=>SP X pins D0 .next s') rfl hs c.U5 c.kind c.loc
  (thn (hi pins s σ H _ I h) fun v s1 h1=>thn h1 fun itv s2 h2=>?_)) (fun _ s' hq=>wpAny_pure (wpAny_pure hq)) fun _ _ e=>e)
 obtain ⟨it,fp,tn,J,H2,rfl,I2,T,st2,f2,q⟩:=h2
 refine wpAny_newObj_type (wpAny_newFunctionEnv c.JD (by intro y hy;simp at hy) (fun h₁ hns₁ hsb₁=>?_) c.kind)
 dsimp only at hns₁ hsb₁ ⊢
 have I3:Inv X pins σ (upd H2 s2.heap.objs.size (.lst [])) {s2 with heap:=s2.heap.push {cls:=.type "list",data:=.seq ([]:List Value).toArray},toks:=s2.toks}:=I2.Qj (ys:=[]) (its:=[]) .nil (Nat.zero_le _)
 obtain ⟨W,⟨m0,w0⟩,turn⟩:=q s2.heap.objs.size I2.fresh
 generalize hD:s2.heap.objs.size=D at *
 generalize hH:s2.heap.push {cls:=.type "list",data:=.seq ([]:List Value).toArray}=h3 at *
 have Jm:∀ b∈fp,b<D:=fun b hb=>by
  obtain ⟨o,e,_⟩:=T.obj _ _ st2 b hb
  rw [←hD]
  exact Heap.lt_size e
 have hlt:∀ b∈fp,b<h3.objs.size:=fun b hb=>by
  rw [←hH,Heap.size_push,hD]
  exact Nat.lt_succ_of_lt (Jm b hb)
 have hf:∀ b∈fp,Bh X pins (upd H2 D (.lst [])) b:=fun b hb=>⟨by rw [af (Nat.ne_of_lt (Jm b hb))];exact (f2 b hb).1,(f2 b hb).2⟩
 have kp:∀ b o,h3.get? b=some o→h₁.get? b=some o:=fun b o e=>hsb₁.extBut b o (Nat.ne_of_lt (Heap.lt_size e)) (Heap.get?_push_of_some _ e)
 have I4:Inv (cxC X scope cl NC h3.objs.size fp {s2 with heap:=h3,toks:=s2.toks} (upd H2 D (.lst []))) [] (none::rA σ idx) (upd H2 D (.lst [])) {s2 with heap:=h₁,toks:=s2.toks+([]:List (Str×Value)).length} :=
  AY (s:={s2 with heap:=h3,toks:=s2.toks}) c I3 hf hlt hns₁ kp
 have xP:∀ {H':Hp},(∀ b∈fp,H' b=none)→∀ b∈fp,Bh (cxC X scope cl NC h3.objs.size fp {s2 with heap:=h3,toks:=s2.toks} (upd H2 D (.lst []))) [] H' b:=fun hn b hb =>
  ⟨hn b hb,Nat.ne_of_lt (hlt b hb),fun z=>(List.mem_cons.mp (I3.vv b z)).elim (hf b hb).2.1 (hf b hb).2.2.1,.inl hb,fun y a q=>(hf b hb).2.2.2.2.1 y a (c.sub _ _ q),fun p hp=>(by cases hp)⟩
 have st1:tn 0 h₁:=T.keep 0 _ _ st2 fun b hb o e=>kp b o (by rw [←hH];exact Heap.get?_push_of_some _ e)
 have loop:∀ s4:Shared,s4={s2 with heap:=h₁,toks:=s2.toks+([]:List (Str×Value)).length} →
   codeAny (model X.prog X.w) X.A (.compLoop (.ListComp elt [⟨.Name x px,iter,[],0⟩] scope pos) 0 (.ref it) (.ref D) (compEnvC scope cl h3.objs.size X.env)) (compPost (model X.prog X.w) X.A X.xe (some (assign (.Name y py) X.env)) (fun _ s'=>SP X pins D0 .next s') (.ref D) h3.objs.size) s4:=by
  rintro s4 rfl
  refine AE (fun n s'=>∃ i ys H' v0,Inv (cxC X scope cl NC h3.objs.size fp {s2 with heap:=h3,toks:=s2.toks} (upd H2 D (.lst []))) [] (v0::rA σ idx) H' s'∧tn i s'.heap∧(∀ b∈fp,H' b=none)∧W i n ys H')
   ?_ m0 ⟨0,[],_,none,I4,st1,fun b hb=>(hf b hb).1,w0⟩
  rintro n s5 ⟨i5,ys,H5,v0,I5,st5,fr5,w5⟩
  obtain ⟨hDl,alt⟩:=turn i5 n ys H5 w5
  rcases alt with ⟨stop,qn⟩|⟨go,hz,N,hN',step⟩
  ·refine thn (T.done (cxC X scope cl NC h3.objs.size fp {s2 with heap:=h3,toks:=s2.toks} (upd H2 D (.lst []))) rfl rfl rfl hc i5 [] s5 _ H5 _ I5 (xP fr5) st5 stop) fun r s6 ⟨hr,I6⟩=>?_
   subst hr
   obtain ⟨m,ns6,_⟩:=id I6.loc
   have J6:Inv X pins σ H5 s6:=I3.Jv (ch:=fp) I6.os I6.base I6.hok I6.bare fun b hb=>⟨(hf b hb).2.2.2.1,(hf b hb).2.1,(hf b hb).2.2.2.2.1,(hf b hb).2.2.2.2.2⟩
   have fC:Bh X pins H5 h3.objs.size:=I3.Qg (Nat.le_refl _) I6.free
   obtain ⟨o,es,ep,ho,rr⟩:=ns6
   have od:∀ v,o.data≠.cell v:=fun v z=>by
    rw [rr.1] at z
    cases z
   show wpAny _ _ (assign (.Name y py) X.env (.ref D)) (fun _ s''=>∃ m,s''.heap.Ns h3.objs.size m∧∀ h',Heap.SameBut h3.objs.size s''.heap h'→SP X pins D0 .next {s'' with heap:=h'}) X.xe s6
   have J7:=J6.pinned (fp:=[h3.objs.size]) (fun b hb=>by rw [List.mem_singleton.mp hb];exact fC) (fun b hb=>by rw [List.mem_singleton.mp hb];exact ⟨o,ho,od⟩)
   refine wpAny_mono (fH (pos:=py) hN hi' (.inl hx) (.inr hx) _ s6 _ H5 (.ref D) (.ref D) D0.nx J7 rfl qn) (fun _ s7 ⟨σ7,H7,I7,q7⟩=>?_) (fun _ _ z=>z)
   have pC:=I7.pin (h3.objs.size,o) (List.mem_append_right _ (List.mem_append_right _ (fA (List.mem_singleton.mpr rfl) ho)))
   refine ⟨m,⟨o,es,ep,pC.1,rr⟩,fun h' hs'=>⟨σ7,H7,?_,q7⟩⟩
   exact I7.kX.turned (t':=s7.toks) (it:=h3.objs.size) (fun b o hb e=>hs'.extBut b o hb e) pC.2.1 fC.2.1 fC.2.2.2.1 fC.2.2.2.2.1 fC.2.2.2.2.2
  ·refine thn (T.item (cxC X scope cl NC h3.objs.size fp {s2 with heap:=h3,toks:=s2.toks} (upd H2 D (.lst []))) rfl rfl rfl hc i5 [] s5 _ H5 _ I5 (xP fr5) st5 go) fun r s6 ⟨u,hr,h6⟩=>?_
   subst hr
   refine thn h6 fun _ s7 ⟨y,H7,I7,r7,y7,st7,fr7⟩=>?_
   have I7':=I7.pinned (xP fr7) (T.obj _ _ st7)
   have hnl:(relabel scope X.env).names.lookup x=some .local:=lookup_relabel_local c.xl
   refine wpAny_mono (fH (X:=cxC X scope cl NC h3.objs.size fp {s2 with heap:=h3,toks:=s2.toks} (upd H2 D (.lst []))) (i:=0) (x:=x) (pos:=px) c.nd (by show NC[0]?=some x;rw [c.nc];rfl) (.inl hnl) (.inr hnl) _ s7 _ H7 y u
    (fun σ' H'=>σ'=some y::rA σ idx∧H'=H7) I7' r7 ⟨rfl,rfl⟩) (fun _ s8 ⟨σ8,H8,I8,e8,e8'⟩=>?_) fun _ _ z=>z.elim
   subst e8 e8'
   refine wpAny_mono (he _ _ _ _ _ s8 _ H8 _ I8 (step y H8 y7)) (fun w s9 ⟨v,H9,I9,r9,hD9,n9⟩=>?_) fun _ _ z=>z.elim
   obtain ⟨m',hm,w9⟩:=hN' _ _ n9
   refine wpAny_mono (AZ (X:=(cxC X scope cl NC h3.objs.size fp {s2 with heap:=h3,toks:=s2.toks} (upd H2 D (.lst [])))) I9 hD9 hz r9) (fun _ s10 I10=>?_) fun _ _ z=>z.elim
   refine ⟨m',hm,i5+1,ys++[v],_,some y,I10.kX,T.keep _ _ _ st7 fun b hb o e=>(I10.pin (b,o) (List.mem_append_right _ (List.mem_append_right _ (fA hb e)))).1,fun b hb=>?_,w9⟩
   obtain ⟨o,e,d⟩:=T.obj _ _ st7 b hb
   exact (I10.pin (b,o) (List.mem_append_right _ (List.mem_append_right _ (fA hb e)))).2.1
 exact codeAny_compStart_list (loop _ rfl) (T.self _ 0 _ _ _ st1 (loop _ rfl))
end
end L2
end
section
namespace L2
open PySem PySem.Spec PyProof.Rows LX
theorem Nu:∀ {us:List Value} {ks:List Int},us.length=ks.length→(∀ (j:Nat) (v:Value),us[j]?=some v→∃ t,v=Value.int (ks.getD j 0) t)→IntsAre us ks
 | [],[],_,_=>.nil
 | [],_::_,h,_=>by simp at h
 | _::_,[],h,_=>by simp at h
 | u::us,k::ks,h,f=>by
  obtain ⟨t,e⟩:=f 0 u rfl
  subst e
  exact .cons k t (Nu (by simpa using h) fun j v q=>f (j+1) v q)
section
variable {X:Cx}
theorem Hb {P:Program} {w:World} {vs:List (Key×Value)} {ks:List Int} {acc:Array Value} (hk:vs.map (·.1)=ks.map Sum.inl) (ha:acc.size=vs.length) (h:∀ (j:Nat) (v:Value),acc[j]?=some v→∃ k x,vs[j]?=some (k,x)∧(c5 P w).is k v=true):IntsAre acc.toList ks:=by
 have hl:vs.length=ks.length:=by
  have:=congrArg List.length hk
  simpa using this
 refine Nu (by rw [Array.length_toList];omega) fun j v e=>?_
 obtain ⟨k,x,h1,h2⟩:=h j v (by rw [←Array.getElem?_toList];exact e)
 have h3:(vs.map (·.1))[j]?=some k:=by rw [List.getElem?_map,h1];rfl
 rw [hk,List.getElem?_map] at h3
 obtain ⟨i,hi,rfl⟩:=Option.map_eq_some_iff.mp h3
 have h4:rn (.inl i) v=true:=h2
 rcases cg h4 with ⟨i',t,e1,e2⟩|⟨y,t,e1,_⟩
 ·injection e1 with e1
  subst e1
  exact ⟨t,by rw [e2];simp [List.getD,hi]⟩
 ·cases e1
end
theorem Hd {xs ys:List Int} (p:xs.Perm ys) (hx:xs.Pairwise (·≤·)) (hy:ys.Pairwise (·≤·)):xs=ys :=
 p.eq_of_pairwise (fun a b _ _ h1 h2=>Int.le_antisymm h1 h2) hx hy
theorem Qq {v:V} (h:mx v=true):eqV v v=true:=by
 cases v with
 | non=>rfl
 | bl b=>cases b<;>rfl
 | int n=>simp [eqV]
 | str z=>simp [eqV]
 | _=>exact absurd (show false=true from h) Bool.false_ne_true
section
variable {X:Cx}
end
end L2
end
section
namespace L2
open PySem PySem.Spec PyProof.Rows LX
section
variable {X:Cx} {tg:Expr}
theorem PS.nox {st:Stmt} {t:TS} (h:PS X.nox st t):PS X st t:=fun pins s σ H D I hw =>
 wpAny_mono (h pins s σ H D (I.Jd _) hw) (fun _ _ q=>q.sL) fun _ _ z=>False.elim z
end
end L2
end
section
namespace L2
open PySem PySem.Spec PyProof.Rows LX
section
variable {X:Cx} {scope:Scope} {cl:List (Str×Addr)} {x:Str} {idx:List Nat} {NC:List Str} {pins:List (Addr×Obj)} {σ:St} {H:Hp} {s:Shared}
theorem Pz {i:Nat} {y:Str} {elt iter ct:Expr} {px py pos Nr:Pos} {wi:TI} {tc:TT} {te:TE} (hN:X.N.Nodup) (hi':X.N[i]?=some y) (hx:X.env.scope.names.lookup y=some .local) (c:vE X scope cl x idx NC) (hc:X.calm=true) (hi:PI X (.Name x px) iter wi)
  (ht:∀ C fp s₀ H₀,PT (cxC X scope cl NC C fp s₀ H₀) ct tc) (he:∀ C fp s₀ H₀,PE (cxC X scope cl NC C fp s₀ H₀) elt te) (hsw:swapsWith (.ListComp elt [⟨.Name x px,iter,[ct],0⟩] scope pos) (some (.Name y py)) Nr.line X.env=pure true:=by rfl)
  (hs:∀ x,foldedSetIterable iter X.env x=pure x:=by intro _;rfl):PS X (.Assign [.Name y py] (.ListComp elt [⟨.Name x px,iter,[ct],0⟩] scope pos) Nr) (O3 (Qp wi idx tc te) (qh i)):=by
 intro pins s σ H D0 I h
 rw [exec_Assign_Name_used _ _ _ _ hsw]
 refine wpAny_bind (wpAny_standAt (wpAny_bind ?_))
 show wpAny _ _ (do let _ ←comprehension (.ListComp elt [⟨.Name x px,iter,[ct],0⟩] scope pos) scope X.env _ (newList []) false (eval iter X.env) (some (assign (.Name y py) X.env))) _ _ s
 refine wpAny_bind (wpAny_mono (wpAny_comprehension_free (use:=some (assign (.Name y py) X.env)) (Q:=fun _ s'=>SP X pins D0 .next s') rfl hs c.U5 c.kind c.loc
  (thn (hi pins s σ H _ I h) fun v s1 h1=>thn h1 fun itv s2 h2=>?_)) (fun _ s' hq=>wpAny_pure (wpAny_pure hq)) fun _ _ e=>e)
 obtain ⟨it,fp,tn,J,H2,rfl,I2,T,st2,f2,q⟩:=h2
 refine wpAny_newObj_type (wpAny_newFunctionEnv c.JD (by intro y hy;simp at hy) (fun h₁ hns₁ hsb₁=>?_) c.kind)
 dsimp only at hns₁ hsb₁ ⊢
 have I3:Inv X pins σ (upd H2 s2.heap.objs.size (.lst [])) {s2 with heap:=s2.heap.push {cls:=.type "list",data:=.seq ([]:List Value).toArray},toks:=s2.toks}:=I2.Qj (ys:=[]) (its:=[]) .nil (Nat.zero_le _)
 obtain ⟨W,⟨m0,w0⟩,turn⟩:=q s2.heap.objs.size I2.fresh
 generalize hD:s2.heap.objs.size=D at *
 generalize hH:s2.heap.push {cls:=.type "list",data:=.seq ([]:List Value).toArray}=h3 at *
 have Jm:∀ b∈fp,b<D:=fun b hb=>by
  obtain ⟨o,e,_⟩:=T.obj _ _ st2 b hb
  rw [←hD]
  exact Heap.lt_size e
 have hlt:∀ b∈fp,b<h3.objs.size:=fun b hb=>by
  rw [←hH,Heap.size_push,hD]
  exact Nat.lt_succ_of_lt (Jm b hb)
 have hf:∀ b∈fp,Bh X pins (upd H2 D (.lst [])) b:=fun b hb=>⟨by rw [af (Nat.ne_of_lt (Jm b hb))];exact (f2 b hb).1,(f2 b hb).2⟩
 have kp:∀ b o,h3.get? b=some o→h₁.get? b=some o:=fun b o e=>hsb₁.extBut b o (Nat.ne_of_lt (Heap.lt_size e)) (Heap.get?_push_of_some _ e)
 have I4:Inv (cxC X scope cl NC h3.objs.size fp {s2 with heap:=h3,toks:=s2.toks} (upd H2 D (.lst []))) [] (none::rA σ idx) (upd H2 D (.lst [])) {s2 with heap:=h₁,toks:=s2.toks+([]:List (Str×Value)).length} :=
  AY (s:={s2 with heap:=h3,toks:=s2.toks}) c I3 hf hlt hns₁ kp
 have xP:∀ {H':Hp},(∀ b∈fp,H' b=none)→∀ b∈fp,Bh (cxC X scope cl NC h3.objs.size fp {s2 with heap:=h3,toks:=s2.toks} (upd H2 D (.lst []))) [] H' b:=fun hn b hb =>
  ⟨hn b hb,Nat.ne_of_lt (hlt b hb),fun z=>(List.mem_cons.mp (I3.vv b z)).elim (hf b hb).2.1 (hf b hb).2.2.1,.inl hb,fun y a q=>(hf b hb).2.2.2.2.1 y a (c.sub _ _ q),fun p hp=>(by cases hp)⟩
 have st1:tn 0 h₁:=T.keep 0 _ _ st2 fun b hb o e=>kp b o (by rw [←hH];exact Heap.get?_push_of_some _ e)
 have loop:∀ s4:Shared,s4={s2 with heap:=h₁,toks:=s2.toks+([]:List (Str×Value)).length} →
   codeAny (model X.prog X.w) X.A (.compLoop (.ListComp elt [⟨.Name x px,iter,[ct],0⟩] scope pos) 0 (.ref it) (.ref D) (compEnvC scope cl h3.objs.size X.env)) (compPost (model X.prog X.w) X.A X.xe (some (assign (.Name y py) X.env)) (fun _ s'=>SP X pins D0 .next s') (.ref D) h3.objs.size) s4:=by
  rintro s4 rfl
  refine vF (fun n s'=>∃ i ys H' v0,Inv (cxC X scope cl NC h3.objs.size fp {s2 with heap:=h3,toks:=s2.toks} (upd H2 D (.lst []))) [] (v0::rA σ idx) H' s'∧tn i s'.heap∧(∀ b∈fp,H' b=none)∧W i n ys H')
   ?_ m0 ⟨0,[],_,none,I4,st1,fun b hb=>(hf b hb).1,w0⟩
  rintro n s5 ⟨i5,ys,H5,v0,I5,st5,fr5,w5⟩
  obtain ⟨hDl,alt⟩:=turn i5 n ys H5 w5
  rcases alt with ⟨stop,qn⟩|⟨go,hz,N,hN',step⟩
  ·refine thn (T.done (cxC X scope cl NC h3.objs.size fp {s2 with heap:=h3,toks:=s2.toks} (upd H2 D (.lst []))) rfl rfl rfl hc i5 [] s5 _ H5 _ I5 (xP fr5) st5 stop) fun r s6 ⟨hr,I6⟩=>?_
   subst hr
   obtain ⟨m,ns6,_⟩:=id I6.loc
   have J6:Inv X pins σ H5 s6:=I3.Jv (ch:=fp) I6.os I6.base I6.hok I6.bare fun b hb=>⟨(hf b hb).2.2.2.1,(hf b hb).2.1,(hf b hb).2.2.2.2.1,(hf b hb).2.2.2.2.2⟩
   have fC:Bh X pins H5 h3.objs.size:=I3.Qg (Nat.le_refl _) I6.free
   obtain ⟨o,es,ep,ho,rr⟩:=ns6
   have od:∀ v,o.data≠.cell v:=fun v z=>by
    rw [rr.1] at z
    cases z
   show wpAny _ _ (assign (.Name y py) X.env (.ref D)) (fun _ s''=>∃ m,s''.heap.Ns h3.objs.size m∧∀ h',Heap.SameBut h3.objs.size s''.heap h'→SP X pins D0 .next {s'' with heap:=h'}) X.xe s6
   have J7:=J6.pinned (fp:=[h3.objs.size]) (fun b hb=>by rw [List.mem_singleton.mp hb];exact fC) (fun b hb=>by rw [List.mem_singleton.mp hb];exact ⟨o,ho,od⟩)
   refine wpAny_mono (fH (pos:=py) hN hi' (.inl hx) (.inr hx) _ s6 _ H5 (.ref D) (.ref D) D0.nx J7 rfl qn) (fun _ s7 ⟨σ7,H7,I7,q7⟩=>?_) (fun _ _ z=>z)
   have pC:=I7.pin (h3.objs.size,o) (List.mem_append_right _ (List.mem_append_right _ (fA (List.mem_singleton.mpr rfl) ho)))
   refine ⟨m,⟨o,es,ep,pC.1,rr⟩,fun h' hs'=>⟨σ7,H7,?_,q7⟩⟩
   exact I7.kX.turned (t':=s7.toks) (it:=h3.objs.size) (fun b o hb e=>hs'.extBut b o hb e) pC.2.1 fC.2.1 fC.2.2.2.1 fC.2.2.2.2.1 fC.2.2.2.2.2
  ·refine thn (T.item (cxC X scope cl NC h3.objs.size fp {s2 with heap:=h3,toks:=s2.toks} (upd H2 D (.lst []))) rfl rfl rfl hc i5 [] s5 _ H5 _ I5 (xP fr5) st5 go) fun r s6 ⟨u,hr,h6⟩=>?_
   subst hr
   refine thn h6 fun _ s7 ⟨y,H7,I7,r7,y7,st7,fr7⟩=>?_
   have I7':=I7.pinned (xP fr7) (T.obj _ _ st7)
   have hnl:(relabel scope X.env).names.lookup x=some .local:=lookup_relabel_local c.xl
   refine wpAny_mono (fH (X:=cxC X scope cl NC h3.objs.size fp {s2 with heap:=h3,toks:=s2.toks} (upd H2 D (.lst []))) (i:=0) (x:=x) (pos:=px) c.nd (by show NC[0]?=some x;rw [c.nc];rfl) (.inl hnl) (.inr hnl) _ s7 _ H7 y u
    (fun σ' H'=>σ'=some y::rA σ idx∧H'=H7) I7' r7 ⟨rfl,rfl⟩) (fun _ s8 ⟨σ8,H8,I8,e8,e8'⟩=>?_) fun _ _ z=>z.elim
   subst e8 e8'
   refine wpAny_mono (ht _ _ _ _ _ s8 _ H8 _ I8 (step y H8 y7)) (fun bb s11 ⟨H11,I11,q11⟩=>?_) fun _ _ z=>z.elim
   have fin:∀ {H12:Hp} {s12:Shared} {zs:List V} {m':Nat},Inv (cxC X scope cl NC h3.objs.size fp {s2 with heap:=h3,toks:=s2.toks} (upd H2 D (.lst []))) ([]++Et fp s7.heap) (some y::rA σ idx) H12 s12→m'<n→W (i5+1) m' zs H12 →
     ∃ m,m<n∧∃ i ys H' v0,Inv (cxC X scope cl NC h3.objs.size fp {s2 with heap:=h3,toks:=s2.toks} (upd H2 D (.lst []))) [] (v0::rA σ idx) H' s12∧tn i s12.heap∧(∀ b∈fp,H' b=none)∧W i m ys H':=fun {H12 s12 zs m'} I12 hm w12=>by
    refine ⟨m',hm,i5+1,zs,_,some y,I12.kX,T.keep _ _ _ st7 fun b hb o e=>(I12.pin (b,o) (List.mem_append_right _ (List.mem_append_right _ (fA hb e)))).1,fun b hb=>?_,w12⟩
    obtain ⟨o,e,d⟩:=T.obj _ _ st7 b hb
    exact (I12.pin (b,o) (List.mem_append_right _ (List.mem_append_right _ (fA hb e)))).2.1
   cases bb with
   | false =>
    obtain ⟨m',hm,w9⟩:=hN' _ _ q11
    exact fin I11 hm w9
   | true =>
    refine wpAny_mono (he _ _ _ _ _ s11 _ H11 _ I11 q11) (fun w s9 ⟨v,H9,I9,r9,hD9,n9⟩=>?_) fun _ _ z=>z.elim
    obtain ⟨m',hm,w9⟩:=hN' _ _ n9
    refine wpAny_mono (AZ (X:=(cxC X scope cl NC h3.objs.size fp {s2 with heap:=h3,toks:=s2.toks} (upd H2 D (.lst [])))) I9 hD9 hz r9) (fun _ s10 I10=>?_) fun _ _ z=>z.elim
    exact fin I10 hm w9
 exact codeAny_compStart_list (loop _ rfl) (T.self _ 0 _ _ _ st1 (loop _ rfl))
def Jo (J:It) (D:Addr) (τ:St) (tc:TT) (te:TE) (Q:VK) (H:Hp):Prop:=∃ W:Nat→Nat→List V→Hp→Prop,(∃ m,W 0 m [] H)∧∀ i m ys H2,W i m ys H2→H2 D=some (.lst ys) ∧
 ((J.stop i H2∧Q (.ref D) H2)∨(J.go i H2∧ys.length<sizeLine∧∃ N:List V→Hp→Prop,(∀ zs H',N zs H'→∃ m',m'<m∧W (i+1) m' zs H')∧∀ y H3,J.yld i H2 y H3→tc (some y::τ) H3 fun b H4=>if b=true then te (some y::τ) H4 fun v H5=>H5 D=some (.lst ys)∧N (ys++[v]) (upd H5 D (.lst (ys++[v])))
  else N ys H4))
def Qr (wi:TI) (idx:List Nat) (tc:TT) (te:TE):TE:=fun σ H Q=>wi σ H fun J H1=>∀ D,H1 D=none→Jo J D (rA σ idx) tc te Q (upd H1 D (.lst []))
theorem PB {i:Nat} {y:Str} {elt iter ct:Expr} {px py pos Nr:Pos} {wi:TI} {tc:TT} {te:TE} (hN:X.N.Nodup) (hi':X.N[i]?=some y) (hx:X.env.scope.names.lookup y=some .local) (c:vE X scope cl x idx NC) (hc:X.calm=true) (hi:PI X (.Name x px) iter wi)
  (ht:∀ C fp s₀ H₀,PT (cxC X scope cl NC C fp s₀ H₀) ct tc) (he:∀ C fp s₀ H₀,PE (cxC X scope cl NC C fp s₀ H₀) elt te) (hsw:swapsWith (.ListComp elt [⟨.Name x px,iter,[ct],0⟩] scope pos) (some (.Name y py)) Nr.line X.env=pure true:=by rfl)
  (hs:∀ x,foldedSetIterable iter X.env x=pure x:=by intro _;rfl):PS X (.Assign [.Name y py] (.ListComp elt [⟨.Name x px,iter,[ct],0⟩] scope pos) Nr) (O3 (Qr wi idx tc te) (qh i)) :=
 Pz hN hi' hx c hc hi ht he hsw hs
theorem PD {elt iter ct:Expr} {px pos:Pos} {wi:TI} {tc:TT} {te:TE} (c:vE X scope cl x idx NC) (hc:X.calm=true) (hi:PI X (.Name x px) iter wi) (ht:∀ C fp s₀ H₀,PT (cxC X scope cl NC C fp s₀ H₀) ct tc) (he:∀ C fp s₀ H₀,PE (cxC X scope cl NC C fp s₀ H₀) elt te)
  (hs:∀ x,foldedSetIterable iter X.env x=pure x:=by intro _;rfl):PE X (.ListComp elt [⟨.Name x px,iter,[ct],0⟩] scope pos) (Qr wi idx tc te) :=
 Py c hc hi ht he hs
end
theorem Ma {K:W.Frag} {a:Addr} {xs:List V} {tc:TT} {te:TE} {Q:VK} {D:Addr} {τ:St} {H:Hp} (Pv:Nat→List V→Hp→Prop) (h0:Pv 0 [] H) (hD:∀ i ys H,i≤xs.length→Pv i ys H→H D=some (.lst ys)∧ys.length≤i) (hl:∀ i ys H,i≤xs.length→Pv i ys H→SqL K H a xs) (hn:xs.length≤sizeLine)
  (hs:∀ i x ys H,xs[i]?=some x→Pv i ys H→tc (some x::τ) H fun b H4=>if b=true then te (some x::τ) H4 fun v H5=>H5 D=some (.lst ys)∧Pv (i+1) (ys++[v]) (upd H5 D (.lst (ys++[v]))) else Pv (i+1) ys H4)
  (hd:∀ ys H,Pv xs.length ys H→Q (.ref D) H):Jo (Itl K a) D τ tc te Q H:=by
 refine ⟨fun i m ys H=>m=xs.length-i∧i≤xs.length∧Pv i ys H,⟨xs.length,by simp,Nat.zero_le _,h0⟩,?_⟩
 rintro i m ys H2 ⟨rfl,hi,p⟩
 obtain ⟨d1,d2⟩:=hD i ys H2 hi p
 refine ⟨d1,?_⟩
 have hS:=hl i ys H2 hi p
 by_cases hlt:i<xs.length
 ·refine .inr ⟨⟨xs,xs[i],hS,List.getElem?_eq_getElem hlt⟩,by omega,Pv (i+1),fun zs H' p'=>⟨xs.length-(i+1),by omega,rfl,hlt,p'⟩,fun y H3 q=>?_⟩
  obtain ⟨e1,e2⟩:=q
  subst e1
  exact hs i y ys _ (e2 xs (hl i ys _ hi p)) p
 ·have e:i=xs.length:=by omega
  subst e
  exact .inl ⟨⟨xs,hS,Nat.le_refl _⟩,hd ys H2 p⟩
end L2
end
section
namespace L2
open PySem PySem.Spec PyProof.Rows LX
end L2
end
section
namespace L2
open PySem PySem.Spec PyProof.Rows LX
section
variable {P:Program} {w:World} {A:Around} {E:Value→Shared→Prop} {s:Shared} {a:Addr} {S:Int→Bool} {n:Nat}
end
end L2
end
section
namespace L2
open PySem PySem.Spec PyProof.Rows LX
section
variable {P:Program} {w:World} {A:Around} {R:Result→Shared→Prop} {I:Addr} {fp wr:List Addr} {G:Array GenState→Array GenState→Prop} {n:Nat} {p:Nat→Value→Prop} {St:Nat→Shared→Prop}
end
section
variable {P:Program} {w:World} {A:Around} {E:Value→Shared→Prop} {s:Shared}
end
end L2
end
section
namespace L2
open PySem PySem.Spec PyProof.Rows LX
section
variable {P:Program} {w:World} {A:Around} {E:Value→Shared→Prop} {s:Shared} {it a:Addr} {first:Value} {i n ep:Nat}
end
end L2
end
section
namespace L2
open PySem PySem.Spec PyProof.Rows LX
section
variable {P:Program} {w:World} {A:Around} {E:Value→Shared→Prop} {s:Shared} {it a:Addr} {first:Value} {i n ep:Nat} {es:Array (Int×Value)} {t:SetTable}
end
section
variable {P:Program} {w:World} {A:Around} {E:Value→Shared→Prop} {s:Shared} {I a:Addr} {ep:Nat} {es:Array (Int×Value)} {t:SetTable} {sl:Nat→Nat} {vs:List Value}
end
end L2
end
section
namespace L2
open PySem PySem.Spec PyProof.Rows LX PySem.W
section
variable {P:Program} {w:World} {A:Around} {E:Value→Shared→Prop} {s:Shared} {a:Addr} {ep:Nat} {es:Array (Int×Value)} {t:SetTable}
end
end L2
end
section
namespace L2
open PySem PySem.Spec PyProof.Rows LX PySem.W
section
variable {P:Program} {w:World} {A:Around} {E:Value→Shared→Prop} {s:Shared} {a:Addr} {ep:Nat} {es:Array (Int×Value)} {t:SetTable}
end
end L2
end
section
namespace L2
open PySem PySem.Spec PyProof.Rows LX PySem.W
section
variable {X:Cx}
end
end L2
end
section
namespace L2
open PySem PySem.Spec PyProof.Rows LX
section
variable {X:Cx} {pins:List (Addr×Obj)} {σ:St} {H:Hp} {s:Shared} {d:Addr} {kvs:List (Key×V)}
theorem Inv.frozen (I:Inv X pins σ H s) (hd:H d=some (.dK kvs)):∃ o,Inv X pins σ (upd H d (.frz o (.dK kvs))) s:=by
 obtain ⟨hz,h0,vs,rel,o,es,ep,ho,r⟩:=Q1 I.hok hd
 have nn:∀ {b:Addr},H b=none→upd H d (.frz o (.dK kvs)) b=none:=fun {b} q=>by
  rw [af fun z=>by rw [z,hd] at q;cases q]
  exact q
 have ns:∀ {b:Addr} {u:HO},H b=some u→u≠.dK kvs→upd H d (.frz o (.dK kvs)) b=some u:=fun {b u} q n=>by
  rw [af fun z=>n (by rw [z,hd] at q;exact (Option.some.inj q).symm)]
  exact q
 refine ⟨o,I.ok,I.os,I.bare,⟨I.base.keep,I.base.slot,fun b ob q n e=>nn (I.base.free b ob q n e),I.base.there,fun b xs q=>ns (I.base.AD b xs q) (by intro z;cases z),fun b ob u q=>ns (I.base.Ez b ob u q) (by intro z;cases z),fun b ps q=>?_⟩,I.loc,I.cell,nn I.free,fun x c q=>nn (I.mj x c q),fun p hp=>?_,fun a u q=>?_,I.len⟩
 ·obtain ⟨more,q'⟩:=I.base.Fi b ps q
  exact ⟨more,ns q' (by intro z;cases z)⟩
 ·obtain ⟨p1,p2,p3⟩:=I.pin p hp
  exact ⟨p1,nn p2,p3⟩
 ·have st:∀ {a:Addr} {u:HO},hV X.prog X.w H s.heap a u→hV X.prog X.w (upd H d (.frz o (.dK kvs))) s.heap a u:=fun x=>x.Jb (fun _ _ _ z=>z) (fun b z=>ns z (by intro y;cases y)) fun b xs z=>ns z (by intro y;cases y)
  by_cases e:a=d
  ·subst e
   rw [ah] at q
   cases q
   exact ⟨ho,st (I.hok a _ hd)⟩
  ·rw [af e] at q
   exact st (I.hok a u q)
def adx (te:TE):TE:=fun σ H Q=>te σ H fun v H1=>∃ d kvs,H1 d=some (.dK kvs)∧∀ o,Q v (upd H1 d (.frz o (.dK kvs)))
theorem Ew {e:Expr} {te:TE} (h:PE X e te):PE X e (adx te):=by
 intro pins s σ H Q I t
 refine wpAny_mono (h pins s σ H _ I t) (fun u s1 ⟨v,H1,I1,r,q⟩=>?_) fun _ _ z=>z
 obtain ⟨d,kvs,hd,q⟩:=q
 obtain ⟨o,I2⟩:=I1.frozen hd
 exact ⟨v,_,I2,r,q o⟩
def Itd (d:Addr) (o:Obj) (kvs:List (Key×V)):It :=
 ⟨fun i H=>H d=some (.frz o (.dK kvs))∧i<kvs.length,fun i H x H'=>H'=H∧∃ p,kvs[i]?=some p∧x=kV p.1,fun i H=>H d=some (.frz o (.dK kvs))∧kvs.length≤i⟩
theorem Ye {P:Program} {w:World} {k:Key} {u:Value} (h:(c5 P w).is k u=true):RelV (kV k) u:=by
 have h4:rn k u=true:=h
 rcases cg h4 with ⟨i,t,e1,e2⟩|⟨y,t,e1,e2⟩
 ·subst e1 e2
  exact ⟨t,rfl⟩
 ·subst e1 e2
  exact ⟨t,rfl⟩
theorem M6 {o:Obj} (I:Inv X pins σ H s) (hd:H d=some (.frz o (.dK kvs))) {es:Array DictEntry} {ep:Nat} (eo:o.data=.dict es ep):kvs.length≤sizeLine∧(d == sysModules)=false∧∃ vs,KV kvs vs∧s.heap.DictAt (c5 X.prog X.w) d vs ep:=by
 obtain ⟨ho,hz,h0,vs,rel,o',es',ep',ho',c1,c2,c3⟩:=(show hV X.prog X.w H s.heap d (.frz o (.dK kvs)) from I.hok d _ hd)
 have e:o'=o:=Option.some.inj (ho'.symm.trans ho)
 subst e
 rw [eo] at c2
 injection c2 with e1 e2
 subst e1 e2
 exact ⟨hz,h0,vs,rel,o',es,ho',c1,eo,c3⟩
theorem PH {o:Obj} (I:Inv X pins σ H s) (hd:H d=some (.frz o (.dK kvs))):∃ es ep,o.data=.dict es ep:=by
 obtain ⟨ho,hz,h0,vs,rel,o',es',ep',ho',c1,c2,c3⟩:=(show hV X.prog X.w H s.heap d (.frz o (.dK kvs)) from I.hok d _ hd)
 have e:o'=o:=Option.some.inj (ho'.symm.trans ho)
 subst e
 exact ⟨es',ep',c2⟩
theorem Qs:∀ {kvs:List (Key×V)} {vs:List (Key×Value)},KV kvs vs→∀ {i:Nat} {p:Key×V},kvs[i]?=some p→∃ x,vs[i]?=some (p.1,x)
 | _,_,.nil,_,_,h=>by simp at h
 | (k,v)::_,(k',x)::_,.cons a r,0,p,h=>by
  have h1:(k,v)=p:=by simpa using h
  subst h1
  obtain ⟨e,_⟩:=a
  have e':k=k':=e
  subst e'
  exact ⟨x,rfl⟩
 | _::_,_::_,.cons _ r,i+1,p,h=>by
  have:=Qs r (i:=i) (p:=p) (by simpa using h)
  simpa using this
theorem Ou {P:Program} {w:World} {K:W.Frag} {tg:Expr} (d it:Addr) (o:Obj) (kvs:List (Key×V)) (ne:d≠it):Turn P w K tg (Itd d o kvs) [it] it (fun i h=>∃ es ep,o.data=.dict es ep∧h.IsKeyIter it d i kvs.length ep) where
 mem:=by simp
 obj:=fun i h st b hb=>by
  have e:b=it:=by simpa using hb
  subst e
  obtain ⟨es,ep,_,o,e,c,d⟩:=st
  exact ⟨o,e,fun v z=>by rw [d] at z;cases z⟩
 keep:=fun i h h' ⟨es,ep,eo,st⟩ k=>⟨es,ep,eo,st.at fun o e=>k it (by simp) o e⟩
 item:=by
  rintro X hP hw hK hc i pins s σ H E I hf ⟨es,ep,eo,st⟩ ⟨hd,hi⟩
  subst hP hw hK
  obtain ⟨hz,h0,vs,rel,hat⟩:=M6 I hd eo
  have hl:=rel.length
  obtain ⟨x,hx⟩:=Qs rel (List.getElem?_eq_getElem hi)
  obtain ⟨f0,f1,f2,f3,f4,f5⟩:=hf it (by simp)
  rw [hl] at st
  refine wpAny_pyNext_dict_item st hat hx fun key h' hk st' sb=>?_
  have I1:Inv X pins σ H {s with heap:=h'}:=I.turned (t':=s.toks) (fun b o hb e=>(sb.2 b hb).trans e) f0 f1 f3 f4 f5
  exact ⟨key,rfl,letGo_keyiter (s':={s with heap:=h'}) st' ⟨kV (kvs[i]'hi).1,H,I1,Ye hk,⟨rfl,_,List.getElem?_eq_getElem hi,rfl⟩,⟨es,ep,eo,by rw [hl];exact st'⟩,fun b hb=>(hf b hb).1⟩⟩
 done:=by
  rintro X hP hw hK hc i pins s σ H E I hf ⟨es,ep,eo,st⟩ ⟨hd,hi⟩
  subst hP hw hK
  obtain ⟨hz,h0,vs,rel,hat⟩:=M6 I hd eo
  have hl:=rel.length
  obtain ⟨f0,f1,f2,f3,f4,f5⟩:=hf it (by simp)
  rw [hl] at st
  exact wpAny_pyNext_dict_end (I.ok.hd hc) st hat (List.getElem?_eq_none (by omega)) fun h' eb=>⟨rfl,I.turned (t':=s.toks) (fun b o hb e=>eb b o hb e) f0 f1 f3 f4 f5⟩
 self:=fun _ _ _ _ _ ⟨_,_,_,st⟩ h=>wpAny_pyIter_keyiter st h
def abw (td:TE):TI:=fun σ H R=>td σ H fun x H1=>∃ d o kvs,x=.ref d∧H1 d=some (.frz o (.dK kvs))∧R (Itd d o kvs) H1
theorem vG {tg l:Expr} {tl:TE} (hl:PE X l tl):PI X tg l (abw tl):=by
 intro pins s σ H R I h
 refine thn (hl pins s σ H _ I h) fun v s1 ⟨x,H1,I1,r1,q1⟩=>?_
 obtain ⟨d,o,kvs,e,hd,q⟩:=q1
 subst e
 cases r1
 obtain ⟨es,ep,eo⟩:=PH I1 hd
 obtain ⟨hz,h0,vs,rel,hat⟩:=M6 I1 hd eo
 have hl:=rel.length
 refine wpAny_pyIter_dict h0 hat ?_
 rw [←hl]
 refine ⟨s1.heap.objs.size,[s1.heap.objs.size],_,_,H1,rfl,I1.kept (t':=s1.toks) fun b o e=>Heap.get?_push_of_some _ e,Ou d _ o kvs (Nat.ne_of_lt hat.lt_size),⟨es,ep,eo,_,Heap.get?_push_size _ rfl,rfl,rfl⟩,fun b hb=>?_,q⟩
 have e:b=s1.heap.objs.size:=by simpa using hb
 subst e
 exact I1.Qg (Nat.le_refl _) (I1.hok.fresh (Nat.le_refl _))
end
theorem A7 {d:Addr} {o:Obj} {kvs:List (Key×V)} {g:TG} {tb:TS} {D:Ends} {σ:St} {H:Hp} (Pv:Nat→St→Hp→Prop) (h0:Pv 0 σ H) (hl:∀ i σ H,i≤kvs.length→Pv i σ H→H d=some (.frz o (.dK kvs)))
  (hs:∀ i p σ H,kvs[i]?=some p→Pv i σ H→g (kV p.1) σ H fun σ2 H2=>tb {D with nx:=Pv (i+1),ct:=Pv (i+1),bk:=D.nx} σ2 H2) (hd:∀ σ H,Pv kvs.length σ H→D.nx σ H) :
  ∃ W:Nat→Nat→St→Hp→Prop,(∃ m,W 0 m σ H)∧∀ i m σ H,W i m σ H →
   ((Itd d o kvs).stop i H∧D.nx σ H)∨((Itd d o kvs).go i H∧∃ N:St→Hp→Prop,(∀ σ' H',N σ' H'→∃ m',m'<m∧W (i+1) m' σ' H')∧∀ x H',(Itd d o kvs).yld i H x H'→g x σ H' fun σ2 H2=>tb {D with nx:=N,ct:=N,bk:=D.nx} σ2 H2):=by
 refine ⟨fun i m σ H=>m=kvs.length-i∧i≤kvs.length∧Pv i σ H,⟨kvs.length,by simp,Nat.zero_le _,h0⟩,?_⟩
 rintro i m σ H ⟨rfl,hi,p⟩
 by_cases hlt:i<kvs.length
 ·refine .inr ⟨⟨hl i σ H hi p,hlt⟩,Pv (i+1),fun σ' H' p'=>⟨kvs.length-(i+1),by omega,rfl,hlt,p'⟩,fun x H' y=>?_⟩
  obtain ⟨e1,q,e2,e3⟩:=y
  subst e1 e3
  exact hs i q σ _ e2 p
 ·have e:i=kvs.length:=by omega
  subst e
  exact .inl ⟨⟨hl _ σ H hi p,Nat.le_refl _⟩,hd σ H p⟩
section
variable {X:Cx}
end
end L2
end
section
namespace L2
open PySem PySem.Spec PyProof.Rows LX
section
variable {X:Cx} {pins:List (Addr×Obj)} {σ:St} {H:Hp} {s:Shared}
end
end L2
end
section
namespace L2
open PySem PySem.Spec PyProof.Rows LX
section
variable {X:Cx}
end
end L2
end
section
namespace L2
open PySem PySem.Spec PyProof.Rows LX
section
variable {X:Cx}
def Yg:List V→Hp→VK→Prop:=fun vs H Q=>∃ (p:Addr) (kvs:List (Key×V)) (ks:List Int),vs=[.ref p]∧Rd H p (.dK kvs)∧kvs.map (·.1)=ks.map Sum.inl∧∀ l:Addr,H l=none→Q (.ref l) (upd H l (.lst (ks.map V.int)))
theorem Fq (hc:X.calm=true):xQ X (.type "list") Yg:=by
 rintro pins s σ H xs us Q I r ⟨p,kvs,ks,rfl,hp,hk,q⟩
 obtain ⟨u,rfl,ru⟩:=r.one
 cases (show u=Value.ref p from ru)
 obtain ⟨hz,hd,vs,rel,dd⟩:=xR I.hok hp
 obtain ⟨ep,hat⟩:=dd.dictAt
 have hl:ks.length=kvs.length:=by
  have:=congrArg List.length hk
  simpa using this.symm
 refine PySem.W.kdl_call (PySem.W.kdl_dict (knd:=c5 X.prog X.w) (kvs:=vs) (ep:=ep) hd) (I.ok.hd hc) hat (by rw [←rel.length];exact hz) fun h' tk acc c hkp hS hacc=>?_
 have hI:IntsAre acc.toList ks:=Hb (by rw [←rel.keys];exact hk) hacc.1 hacc.2
 refine ⟨.ref s.heap.objs.size,_,I.laid (a:=s.heap.objs.size) (o:=.lst (ks.map V.int)) (t':=tk) hkp (Nat.le_refl _) ?_,rfl,q _ (I.hok.fresh (Nat.le_refl _))⟩
 refine ⟨by rw [List.length_map,hl];exact hz,acc.toList,c,qj hI,?_⟩
 rw [hS]
end
end L2
end
section
namespace L2
open PySem PySem.Spec PyProof.Rows LX
section
variable {X:Cx}
end
theorem Mb {d:Addr} {o:Obj} {kvs:List (Key×V)} {tc:TT} {te:TE} {Q:VK} {D:Addr} {τ:St} {H:Hp} (Pv:Nat→List V→Hp→Prop) (h0:Pv 0 [] H) (hD:∀ i ys H,i≤kvs.length→Pv i ys H→H D=some (.lst ys)∧ys.length≤i) (hl:∀ i ys H,i≤kvs.length→Pv i ys H→H d=some (.frz o (.dK kvs))) (hn:kvs.length≤sizeLine)
  (hs:∀ i p ys H,kvs[i]?=some p→Pv i ys H→tc (some (kV p.1)::τ) H fun b H4=>if b=true then te (some (kV p.1)::τ) H4 fun v H5=>H5 D=some (.lst ys)∧Pv (i+1) (ys++[v]) (upd H5 D (.lst (ys++[v]))) else Pv (i+1) ys H4)
  (hd:∀ ys H,Pv kvs.length ys H→Q (.ref D) H):Jo (Itd d o kvs) D τ tc te Q H:=by
 refine ⟨fun i m ys H=>m=kvs.length-i∧i≤kvs.length∧Pv i ys H,⟨kvs.length,by simp,Nat.zero_le _,h0⟩,?_⟩
 rintro i m ys H2 ⟨rfl,hi,p⟩
 obtain ⟨d1,d2⟩:=hD i ys H2 hi p
 refine ⟨d1,?_⟩
 have hS:=hl i ys H2 hi p
 by_cases hlt:i<kvs.length
 ·refine .inr ⟨⟨hS,hlt⟩,by omega,Pv (i+1),fun zs H' p'=>⟨kvs.length-(i+1),by omega,rfl,hlt,p'⟩,fun y H3 q=>?_⟩
  obtain ⟨e1,q',e2,e3⟩:=q
  subst e1 e3
  exact hs i q' ys _ e2 p
 ·have e:i=kvs.length:=by omega
  subst e
  exact .inl ⟨⟨hS,Nat.le_refl _⟩,hd ys H2 p⟩
end L2
end
section
namespace L2
open PySem PySem.Spec PyProof.Rows LX
section
variable {P:Program} {w:World} {A:Around} {E:Value→Shared→Prop}
end
section
variable {P:Program} {w:World} {A:Around} {R:Result→Shared→Prop} {KK:Type} [DecidableEq KK] {knd:KeyKind P w KK}
end
section
variable {P:Program} {w:World} {A:Around} {E:Value→Shared→Prop} {KK:Type} [DecidableEq KK] {knd:KeyKind P w KK}
end
section
variable {P:Program} {w:World} {A:Around} {E:Value→Shared→Prop}
end
end L2
end
section
namespace L2
open PySem PySem.Spec PyProof.Rows LX
section
variable {X:Cx}
end
end L2
end
section
namespace L2
open PySem PySem.Spec PyProof.Rows LX
section
variable {X:Cx}
end
end L2
end
section
namespace L2
open PySem PySem.Spec PyProof.Rows LX
inductive Vl where
 | a (v:V)
 | l (xs:List Vl)
 | t (xs:List Vl)
def Rp (H:Hp):Nat→V→Vl→Prop
 | 0,v,.a x=>v=x∧mx x=true
 | 0,_,.l _=>False
 | 0,_,.t _=>False
 | _+1,v,.a x=>v=x∧mx x=true
 | n+1,v,.l xs=>∃ p us,v=.ref p∧H p=some (.lst us)∧us.length=xs.length∧∀ (i:Nat) (u:V) (x:Vl),us[i]?=some u→xs[i]?=some x→Rp H n u x
 | n+1,v,.t xs=>∃ p us,v=.ref p∧H p=some (.tup us)∧us.length=xs.length∧∀ (i:Nat) (u:V) (x:Vl),us[i]?=some u→xs[i]?=some x→Rp H n u x
def eqD:Nat→Vl→Vl→Bool
 | _,.a x,.a y=>eqV x y
 | n+1,.l xs,.l ys=>(List.range xs.length).all (fun i=>match xs[i]?,ys[i]? with|some x,some y=>eqD n x y|_,_=>true)&&xs.length == ys.length
 | n+1,.t xs,.t ys=>(List.range xs.length).all (fun i=>match xs[i]?,ys[i]? with|some x,some y=>eqD n x y|_,_=>true)&&xs.length == ys.length
 | _,_,_=>false
theorem Rp.flat {H:Hp} {n:Nat} {x:V} (h:mx x=true):Rp H n x (.a x):=by cases n<;>exact ⟨rfl,h⟩
theorem Rp.AF {H:Hp} {n:Nat} {v x:V} (h:Rp H n v (.a x)):v=x∧mx x=true:=by cases n<;>exact h
theorem Rp.keep {H H':Hp}:∀ {n:Nat} {v:V} {a:Vl},Rp H n v a→(∀ b u,H b=some (.lst u)→H' b=some (.lst u))→(∀ b u,H b=some (.tup u)→H' b=some (.tup u))→Rp H' n v a
 | 0,_,.a _,h,_,_=>h
 | 0,_,.l _,h,_,_=>h.elim
 | 0,_,.t _,h,_,_=>h.elim
 | _+1,_,.a _,h,_,_=>h
 | n+1,_,.l xs,⟨p,us,e,hp,hl,hi⟩,k1,k2=>⟨p,us,e,k1 _ _ hp,hl,fun i u x h1 h2=>(hi i u x h1 h2).keep k1 k2⟩
 | n+1,_,.t xs,⟨p,us,e,hp,hl,hi⟩,k1,k2=>⟨p,us,e,k2 _ _ hp,hl,fun i u x h1 h2=>(hi i u x h1 h2).keep k1 k2⟩
theorem Rp.same {H H':Hp} {n:Nat} {v:V} {a:Vl} (h:Rp H n v a) (s:aD H H'):Rp H' n v a:=h.keep (fun _ _ q=>s _ _ q) fun _ _ q=>s _ _ q
theorem Rp.up {H:Hp}:∀ {n:Nat} {v:V} {a:Vl},Rp H n v a→Rp H (n+1) v a
 | 0,_,.a _,h=>h
 | 0,_,.l _,h=>h.elim
 | 0,_,.t _,h=>h.elim
 | _+1,_,.a _,h=>h
 | n+1,_,.l xs,⟨p,us,e,hp,hl,hi⟩=>⟨p,us,e,hp,hl,fun i u x h1 h2=>(hi i u x h1 h2).up⟩
 | n+1,_,.t xs,⟨p,us,e,hp,hl,hi⟩=>⟨p,us,e,hp,hl,fun i u x h1 h2=>(hi i u x h1 h2).up⟩
theorem JE {n:Nat} {x y:V}:eqD n (.a x) (.a y)=eqV x y:=by cases n<;>rfl
theorem Qt {H:Hp} {n:Nat} {us:List V} {xs ys:List Vl} (lx:us.length=xs.length) (ly:us.length=ys.length) (h:∀ (i:Nat) (x y:Vl),xs[i]?=some x→ys[i]?=some y→eqD n x y=true) :
  ((List.range xs.length).all (fun i=>match xs[i]?,ys[i]? with|some x,some y=>eqD n x y|_,_=>true)&&xs.length == ys.length)=true:=by
 rw [Bool.and_eq_true]
 refine ⟨List.all_eq_true.mpr fun i hi=>?_,beq_iff_eq.mpr (by omega)⟩
 have hi:=List.mem_range.mp hi
 have e1:xs[i]?=some xs[i]:=List.getElem?_eq_getElem hi
 have e2:ys[i]?=some (ys[i]'(by omega)):=List.getElem?_eq_getElem (by omega)
 simp only [e1,e2]
 exact h i _ _ e1 e2
theorem ui {H:Hp}:∀ {n:Nat} {v:V} {a b:Vl},Rp H n v a→Rp H n v b→eqD n a b=true:=by
 intro n
 induction n with
 | zero =>
  intro v a b ha hb
  cases a with
  | a x =>
   cases b with
   | a y =>
    obtain ⟨rfl,fx⟩:=ha.AF
    obtain ⟨rfl,_⟩:=hb.AF
    rw [JE]
    exact Qq fx
   | l ys=>exact hb.elim
   | t ys=>exact hb.elim
  | l xs=>exact ha.elim
  | t xs=>exact ha.elim
 | succ n ih =>
  intro v a b ha hb
  cases a with
  | a x =>
   obtain ⟨rfl,fx⟩:=ha.AF
   cases b with
   | a y =>
    obtain ⟨rfl,_⟩:=hb.AF
    rw [JE]
    exact Qq fx
   | l ys =>
    obtain ⟨p,us,rfl,_⟩:=hb
    exact absurd (show false=true from fx) Bool.false_ne_true
   | t ys =>
    obtain ⟨p,us,rfl,_⟩:=hb
    exact absurd (show false=true from fx) Bool.false_ne_true
  | l xs =>
   obtain ⟨p,us,rfl,hp,hl,hi⟩:=ha
   cases b with
   | a y =>
    obtain ⟨e,fy⟩:=hb.AF
    rw [←e] at fy
    exact absurd (show false=true from fy) Bool.false_ne_true
   | l ys =>
    obtain ⟨q,ws,e,hq,ml,mi⟩:=hb
    cases e
    rw [hp] at hq
    cases hq
    exact Qt (H:=H) hl ml fun i x y e1 e2=>by
     have hiu:i<us.length:=by rw [hl];exact (List.getElem?_eq_some_iff.mp e1).1
     exact ih (hi i _ x (List.getElem?_eq_getElem hiu) e1) (mi i _ y (List.getElem?_eq_getElem hiu) e2)
   | t ys =>
    obtain ⟨q,ws,e,hq,ml,mi⟩:=hb
    cases e
    rw [hp] at hq
    cases hq
  | t xs =>
   obtain ⟨p,us,rfl,hp,hl,hi⟩:=ha
   cases b with
   | a y =>
    obtain ⟨e,fy⟩:=hb.AF
    rw [←e] at fy
    exact absurd (show false=true from fy) Bool.false_ne_true
   | t ys =>
    obtain ⟨q,ws,e,hq,ml,mi⟩:=hb
    cases e
    rw [hp] at hq
    cases hq
    exact Qt (H:=H) hl ml fun i x y e1 e2=>by
     have hiu:i<us.length:=by rw [hl];exact (List.getElem?_eq_some_iff.mp e1).1
     exact ih (hi i _ x (List.getElem?_eq_getElem hiu) e1) (mi i _ y (List.getElem?_eq_getElem hiu) e2)
   | l ys =>
    obtain ⟨q,ws,e,hq,ml,mi⟩:=hb
    cases e
    rw [hp] at hq
    cases hq
structure RcB (A:Around) (s:Shared) (u v:Value) (b:Bool):Prop where
 eq:SeqAt.RcAt A s u v b
 ne:SeqAt.RcNeAt A s u v (!b)
theorem He {A:Around} {s:Shared} {y x:V} {u v:Value} (ry:RelV y u) (rx:RelV x v) (fy:mx y=true) (fx:mx x=true):RcB A s u v (eqV y x):=by
 cases y with
 | non =>
  cases ry
  cases x with
  | non=>cases rx;exact ⟨.none_none ,.none_none ⟩
  | bl b=>cases rx;exact ⟨.none_bool b,.none_bool b⟩
  | int b=>obtain ⟨t,rfl⟩:=rx;exact ⟨.none_int b t,.none_int b t⟩
  | str b=>obtain ⟨t,rfl⟩:=rx;exact ⟨.none_str b t,.none_str b t⟩
  | _=>exact absurd (show false=true from fx) Bool.false_ne_true
 | bl a =>
  cases ry
  cases x with
  | non=>cases rx;exact ⟨.bool_none a,.bool_none a⟩
  | bl b=>cases rx;exact ⟨.bool_bool a b,.bool_bool a b⟩
  | int b=>obtain ⟨t,rfl⟩:=rx;exact ⟨.bool_int a b t,.bool_int a b t⟩
  | str b=>obtain ⟨t,rfl⟩:=rx;exact ⟨.bool_str a b t,.bool_str a b t⟩
  | _=>exact absurd (show false=true from fx) Bool.false_ne_true
 | int a =>
  obtain ⟨t',rfl⟩:=ry
  cases x with
  | non=>cases rx;exact ⟨.int_none a t',.int_none a t'⟩
  | bl b=>cases rx;exact ⟨.int_bool a t' b,.int_bool a t' b⟩
  | int b=>obtain ⟨t,rfl⟩:=rx;exact ⟨.int_int a t' b t,.int_int a t' b t⟩
  | str b=>obtain ⟨t,rfl⟩:=rx;exact ⟨.int_str a t' b t,.int_str a t' b t⟩
  | _=>exact absurd (show false=true from fx) Bool.false_ne_true
 | str a =>
  obtain ⟨t',rfl⟩:=ry
  cases x with
  | non=>cases rx;exact ⟨.str_none a t',.str_none a t'⟩
  | bl b=>cases rx;exact ⟨.str_bool a t' b,.str_bool a t' b⟩
  | int b=>obtain ⟨t,rfl⟩:=rx;exact ⟨.str_int a t' b t,.str_int a t' b t⟩
  | str b=>obtain ⟨t,rfl⟩:=rx;exact ⟨.str_str a t' b t,.str_str a t' b t⟩
  | _=>exact absurd (show false=true from fx) Bool.false_ne_true
 | _=>exact absurd (show false=true from fy) Bool.false_ne_true
section
variable {X:Cx} {pins:List (Addr×Obj)} {σ:St} {H:Hp} {s:Shared}
theorem Lk {A:Around} {x:V} {u:Value} {l:Addr} {items:Array Value} (rx:RelV x u) (fx:mx x=true) (hl:s.heap.IsList l items) (hu:A.units<cLine):RcB A s u (.ref l) false∧RcB A s (.ref l) u false∧SeqAt.EqAt A s u (.ref l) false∧SeqAt.EqAt A s (.ref l) u false:=by
 cases x with
 | non=>cases rx;exact ⟨⟨.none_list hl hu,.none_list hl hu⟩,⟨.list_none hl hu,.list_none hl hu⟩,.none_list hl hu,.list_none hl hu⟩
 | bl b=>cases rx;exact ⟨⟨.bool_list _ hl hu,.bool_list _ hl hu⟩,⟨.list_bool _ hl hu,.list_bool _ hl hu⟩,.bool_list _ hl hu,.list_bool _ hl hu⟩
 | int n=>obtain ⟨t,rfl⟩:=rx;exact ⟨⟨.int_list _ _ hl hu,.int_list _ _ hl hu⟩,⟨.list_int _ _ hl hu,.list_int _ _ hl hu⟩,.int_list _ _ hl hu,.list_int _ _ hl hu⟩
 | str z=>obtain ⟨t,rfl⟩:=rx;exact ⟨⟨.str_list _ _ hl hu,.str_list _ _ hl hu⟩,⟨.list_str _ _ hl hu,.list_str _ _ hl hu⟩,.str_list _ _ hl hu,.list_str _ _ hl hu⟩
 | _=>exact absurd (show false=true from fx) Bool.false_ne_true
theorem Ll {A:Around} {x:V} {u:Value} {l:Addr} {items:Array Value} (rx:RelV x u) (fx:mx x=true) (hl:s.heap.IsTuple l items) (hu:A.units<cLine):RcB A s u (.ref l) false∧RcB A s (.ref l) u false∧SeqAt.EqAt A s u (.ref l) false∧SeqAt.EqAt A s (.ref l) u false:=by
 cases x with
 | non=>cases rx;exact ⟨⟨.none_tuple hl hu,.none_tuple hl hu⟩,⟨.tuple_none hl hu,.tuple_none hl hu⟩,.none_tuple hl hu,.tuple_none hl hu⟩
 | bl b=>cases rx;exact ⟨⟨.bool_tuple _ hl hu,.bool_tuple _ hl hu⟩,⟨.tuple_bool _ hl hu,.tuple_bool _ hl hu⟩,.bool_tuple _ hl hu,.tuple_bool _ hl hu⟩
 | int n=>obtain ⟨t,rfl⟩:=rx;exact ⟨⟨.int_tuple _ _ hl hu,.int_tuple _ _ hl hu⟩,⟨.tuple_int _ _ hl hu,.tuple_int _ _ hl hu⟩,.int_tuple _ _ hl hu,.tuple_int _ _ hl hu⟩
 | str z=>obtain ⟨t,rfl⟩:=rx;exact ⟨⟨.str_tuple _ _ hl hu,.str_tuple _ _ hl hu⟩,⟨.tuple_str _ _ hl hu,.tuple_str _ _ hl hu⟩,.str_tuple _ _ hl hu,.tuple_str _ _ hl hu⟩
 | _=>exact absurd (show false=true from fx) Bool.false_ne_true
theorem lst_is (I:Inv X pins σ H s) {p:Addr} {us:List V} (h:H p=some (.lst us)):∃ vs,Vals us vs∧s.heap.IsList p vs.toArray:=by
 obtain ⟨vs,r,⟨o,n,e,c,_,g⟩,_⟩:=I.list (SqL.of h)
 exact ⟨vs,r,o,e,c,n,g⟩
theorem tup_is (I:Inv X pins σ H s) {p:Addr} {us:List V} (h:H p=some (.tup us)):∃ vs,Vals us vs∧s.heap.IsTuple p vs.toArray:=by
 obtain ⟨vs,r,t,_⟩:=I.tuple (SqT.of h)
 exact ⟨vs,r,t⟩
theorem rcG (I:Inv X pins σ H s):∀ {n:Nat} {x y:V} {a b:Vl},Rp H n x a→Rp H n y b→∀ {A:Around} {u v:Value},RelV x u→RelV y v→A.units+n<cLine →
  SeqAt.EqAt A s u v (eqD n a b)∧(¬((∃ z,a=.a z)∧∃ z,b=.a z)→RcB A s u v (eqD n a b)):=by
 intro n
 induction n with
 | zero =>
  intro x y a b ha hb A u v rx ry hu
  cases a with
  | a z =>
   cases b with
   | a z' =>
    obtain ⟨rfl,fx⟩:=ha.AF
    obtain ⟨rfl,fy⟩:=hb.AF
    rw [JE]
    exact ⟨M0 rx ry fx fy,fun h=>(h ⟨⟨_,rfl⟩,_,rfl⟩).elim⟩
   | _=>exact hb.elim
  | _=>exact ha.elim
 | succ n ih =>
  intro x y a b ha hb A u v rx ry hu
  have hu0:A.units<cLine:=by omega
  cases a with
  | a z =>
   obtain ⟨rfl,fx⟩:=ha.AF
   cases b with
   | a z' =>
    obtain ⟨rfl,fy⟩:=hb.AF
    rw [JE]
    exact ⟨M0 rx ry fx fy,fun h=>(h ⟨⟨_,rfl⟩,_,rfl⟩).elim⟩
   | l ys =>
    obtain ⟨q,ws,rfl,hq,_⟩:=hb
    obtain ⟨vs,_,hl⟩:=lst_is I hq
    cases ry
    obtain ⟨h1,_,h3,_⟩:=Lk rx fx hl hu0
    exact ⟨h3,fun _=>h1⟩
   | t ys =>
    obtain ⟨q,ws,rfl,hq,_⟩:=hb
    obtain ⟨vs,_,hl⟩:=tup_is I hq
    cases ry
    obtain ⟨h1,_,h3,_⟩:=Ll rx fx hl hu0
    exact ⟨h3,fun _=>h1⟩
  | l xs =>
   have ha':=ha
   obtain ⟨p,us,rfl,hp,lx,hx⟩:=ha
   obtain ⟨vs,r1,hl⟩:=lst_is I hp
   cases rx
   cases b with
   | a z' =>
    obtain ⟨rfl,fy⟩:=hb.AF
    obtain ⟨_,h2,_,h4⟩:=Lk ry fy hl hu0
    exact ⟨h4,fun _=>h2⟩
   | l ys =>
    have hb':=hb
    obtain ⟨q,ws,rfl,hq,ly,hy⟩:=hb
    obtain ⟨vs2,r2,hl2⟩:=lst_is I hq
    cases ry
    have l1:=r1.length
    have l2:=r2.length
    have rc:RcB A s (.ref p) (.ref q) (eqD (n+1) (.l xs) (.l ys)):=by
     by_cases hs:xs.length=ys.length
     ·have he:∀ j (h1:j<vs.toArray.size) (h2:j<vs2.toArray.size),SeqAt.EqAt A.in1 s vs.toArray[j] vs2.toArray[j] (match xs[j]?,ys[j]? with|some x,some y=>eqD n x y|_,_=>true):=fun j h1 h2=>by
       simp only [List.size_toArray] at h1 h2
       obtain ⟨w1,z1,rz1⟩:=r1.get (i:=j) (x:=us[j]'(by omega)) (List.getElem?_eq_getElem (by omega))
       obtain ⟨w2,z2,rz2⟩:=r2.get (i:=j) (x:=ws[j]'(by omega)) (List.getElem?_eq_getElem (by omega))
       have a1:vs.toArray[j]=w1:=by
        have:=(List.getElem?_eq_some_iff.mp z1).2
        simpa using this
       have a2:vs2.toArray[j]=w2:=by
        have:=(List.getElem?_eq_some_iff.mp z2).2
        simpa using this
       rw [a1,a2]
       have e1:xs[j]?=some (xs[j]'(by omega)):=List.getElem?_eq_getElem (by omega)
       have e2:ys[j]?=some (ys[j]'(by omega)):=List.getElem?_eq_getElem (by omega)
       simp only [e1,e2]
       exact (ih (hx j _ _ (List.getElem?_eq_getElem (by omega)) e1) (hy j _ _ (List.getElem?_eq_getElem (by omega)) e2) rz1 rz2 (by rw [Around.in1_units];omega)).1
      have e:eqD (n+1) (.l xs) (.l ys)=(List.range vs.toArray.size).all (fun i=>match xs[i]?,ys[i]? with|some x,some y=>eqD n x y|_,_=>true):=by
       show (_&&_)=_
       rw [beq_iff_eq.mpr hs,Bool.and_true]
       simp only [List.size_toArray]
       rw [show vs.length=xs.length by omega]
      rw [e]
      exact ⟨.lists hl hl2 (by simp only [List.size_toArray];omega) hu0 he,.lists hl hl2 (by simp only [List.size_toArray];omega) hu0 he⟩
     ·have e:eqD (n+1) (.l xs) (.l ys)=false:=by
       show (_&&_)=_
       rw [beq_eq_false_iff_ne.mpr hs,Bool.and_false]
      rw [e]
      exact ⟨.lists_lengths hl hl2 (by simp only [List.size_toArray,bne_iff_ne,ne_eq];omega) hu0,.lists_lengths hl hl2 (by simp only [List.size_toArray,bne_iff_ne,ne_eq];omega) hu0⟩
    refine ⟨?_,fun _=>rc⟩
    by_cases e:p=q
    ·subst e
     rw [ui ha' hb']
     exact .same _
    ·exact .of_refs e rc.eq
   | t ys =>
    obtain ⟨q,ws,rfl,hq,ly,hy⟩:=hb
    obtain ⟨vs2,r2,hl2⟩:=tup_is I hq
    cases ry
    have ne:p≠q:=fun e=>by rw [e,hq] at hp;cases hp
    exact ⟨.of_refs ne (.list_tuple hl hl2 hu0),fun _=>⟨.list_tuple hl hl2 hu0,.list_tuple hl hl2 hu0⟩⟩
  | t xs =>
   have ha':=ha
   obtain ⟨p,us,rfl,hp,lx,hx⟩:=ha
   obtain ⟨vs,r1,hl⟩:=tup_is I hp
   cases rx
   cases b with
   | a z' =>
    obtain ⟨rfl,fy⟩:=hb.AF
    obtain ⟨_,h2,_,h4⟩:=Ll ry fy hl hu0
    exact ⟨h4,fun _=>h2⟩
   | l ys =>
    obtain ⟨q,ws,rfl,hq,ly,hy⟩:=hb
    obtain ⟨vs2,r2,hl2⟩:=lst_is I hq
    cases ry
    have ne:p≠q:=fun e=>by rw [e,hq] at hp;cases hp
    exact ⟨.of_refs ne (.tuple_list hl hl2 hu0),fun _=>⟨.tuple_list hl hl2 hu0,.tuple_list hl hl2 hu0⟩⟩
   | t ys =>
    have hb':=hb
    obtain ⟨q,ws,rfl,hq,ly,hy⟩:=hb
    obtain ⟨vs2,r2,hl2⟩:=tup_is I hq
    cases ry
    have l1:=r1.length
    have l2:=r2.length
    have he:∀ j (h1:j<vs.toArray.size) (h2:j<vs2.toArray.size),SeqAt.EqAt A.in1 s vs.toArray[j] vs2.toArray[j] (match xs[j]?,ys[j]? with|some x,some y=>eqD n x y|_,_=>true):=fun j h1 h2=>by
     simp only [List.size_toArray] at h1 h2
     obtain ⟨w1,z1,rz1⟩:=r1.get (i:=j) (x:=us[j]'(by omega)) (List.getElem?_eq_getElem (by omega))
     obtain ⟨w2,z2,rz2⟩:=r2.get (i:=j) (x:=ws[j]'(by omega)) (List.getElem?_eq_getElem (by omega))
     have a1:vs.toArray[j]=w1:=by
      have:=(List.getElem?_eq_some_iff.mp z1).2
      simpa using this
     have a2:vs2.toArray[j]=w2:=by
      have:=(List.getElem?_eq_some_iff.mp z2).2
      simpa using this
     rw [a1,a2]
     have e1:xs[j]?=some (xs[j]'(by omega)):=List.getElem?_eq_getElem (by omega)
     have e2:ys[j]?=some (ys[j]'(by omega)):=List.getElem?_eq_getElem (by omega)
     simp only [e1,e2]
     exact (ih (hx j _ _ (List.getElem?_eq_getElem (by omega)) e1) (hy j _ _ (List.getElem?_eq_getElem (by omega)) e2) rz1 rz2 (by rw [Around.in1_units];omega)).1
    have e:eqD (n+1) (.t xs) (.t ys)=((List.range (min vs.toArray.size vs2.toArray.size)).all (fun i=>match xs[i]?,ys[i]? with|some x,some y=>eqD n x y|_,_=>true)&&vs.toArray.size == vs2.toArray.size):=by
     show (_&&_)=_
     simp only [List.size_toArray]
     by_cases hs:xs.length=ys.length
     ·rw [show min vs.length vs2.length=xs.length by omega,show (vs.length == vs2.length)=(xs.length == ys.length) by rw [show vs.length=xs.length by omega,show vs2.length=ys.length by omega]]
     ·rw [beq_eq_false_iff_ne.mpr hs,show (vs.length == vs2.length)=false from beq_eq_false_iff_ne.mpr (by omega),Bool.and_false,Bool.and_false]
    have rc:RcB A s (.ref p) (.ref q) (eqD (n+1) (.t xs) (.t ys)):=by
     rw [e]
     exact ⟨.tuples hl hl2 hu0 he,.tuples hl hl2 hu0 he⟩
    refine ⟨?_,fun _=>rc⟩
    by_cases e:p=q
    ·subst e
     rw [ui ha' hb']
     exact .same _
    ·exact .of_refs e rc.eq
end
def ady (n:Nat):R2:=fun x y H Q=>∃ a b,Rp H n x a∧Rp H n y b∧Q (.bl (eqD n a b)) H
def adz (n:Nat):R2:=fun x y H Q=>∃ a b,Rp H n x a∧Rp H n y b∧Q (.bl (!eqD n a b)) H
section
variable {X:Cx}
theorem Qu {n:Nat} (hu:X.A.units+n<cLine):OpR X (compareOp .Eq) (ady n):=by
 rintro pins s σ H x y v u Q I rx ry ⟨a,b,ha,hb,q⟩
 by_cases h:(∃ z,a=.a z)∧∃ z,b=.a z
 ·obtain ⟨⟨z,rfl⟩,z',rfl⟩:=h
  obtain ⟨rfl,fx⟩:=ha.AF
  obtain ⟨rfl,fy⟩:=hb.AF
  rw [JE] at q
  exact (He rx ry fx fy).eq _ _ _ _ ⟨.bl _,H,I,rfl,q⟩
 ·exact ((rcG I ha hb rx ry hu).2 h).eq _ _ _ _ ⟨.bl _,H,I,rfl,q⟩
theorem Yh {n:Nat} (hu:X.A.units+n<cLine):OpR X (compareOp .NotEq) (adz n):=by
 rintro pins s σ H x y v u Q I rx ry ⟨a,b,ha,hb,q⟩
 by_cases h:(∃ z,a=.a z)∧∃ z,b=.a z
 ·obtain ⟨⟨z,rfl⟩,z',rfl⟩:=h
  obtain ⟨rfl,fx⟩:=ha.AF
  obtain ⟨rfl,fy⟩:=hb.AF
  rw [JE] at q
  exact (He rx ry fx fy).ne _ _ _ _ ⟨.bl _,H,I,rfl,q⟩
 ·exact ((rcG I ha hb rx ry hu).2 h).ne _ _ _ _ ⟨.bl _,H,I,rfl,q⟩
end
end L2
end
section
namespace L2
open PySem PySem.Spec PyProof.Rows LX
section
variable {X:Cx} {pins:List (Addr×Obj)} {σ:St} {H:Hp} {s:Shared} {d:Addr} {o:Obj} {u:HO}
theorem Inv.YJ (I:Inv X pins σ H s) (hd:H d=some (.frz o u)) (h0:∀ o u,X.H₀ d≠some (.frz o u)) (nt:∀ xs,u≠.tup xs) (no:∀ x,u≠.own x) (nb:∀ ps,u≠.tbl ps):Inv X pins σ (upd H d u) s:=by
 have nn:∀ {b:Addr},H b=none→upd H d u b=none:=fun {b} q=>by
  rw [af fun z=>by rw [z,hd] at q;cases q]
  exact q
 have ns:∀ {b:Addr} {v:HO},H b=some v→(∀ o w,v≠.frz o w)→upd H d u b=some v:=fun {b v} q n=>by
  rw [af fun z=>n o u (by rw [z,hd] at q;exact (Option.some.inj q).symm)]
  exact q
 refine ⟨I.ok,I.os,I.bare,⟨I.base.keep,I.base.slot,fun b ob q n e=>nn (I.base.free b ob q n e),I.base.there,fun b xs q=>ns (I.base.AD b xs q) (by intro _ _ z;cases z),fun b ob w q=>?_,fun b ps q=>?_⟩,I.loc,I.cell,nn I.free,fun x c q=>nn (I.mj x c q),fun p hp=>?_,fun a w q=>?_,I.len⟩
 ·have q':=I.base.Ez b ob w q
  rw [af fun z=>h0 ob w (by rw [←z];exact q)]
  exact q'
 ·obtain ⟨more,q'⟩:=I.base.Fi b ps q
  exact ⟨more,ns q' (by intro _ _ z;cases z)⟩
 ·obtain ⟨p1,p2,p3⟩:=I.pin p hp
  exact ⟨p1,nn p2,p3⟩
 ·have st:∀ {a:Addr} {w:HO},hV X.prog X.w H s.heap a w→hV X.prog X.w (upd H d u) s.heap a w:=fun x=>x.Jb (fun _ _ _ z=>z) (fun b z=>ns z (by intro _ _ y;cases y)) fun b xs z=>ns z (by intro _ _ y;cases y)
  by_cases e:a=d
  ·subst e
   rw [ah] at q
   cases q
   exact st (I.hok a _ hd).2
  ·rw [af e] at q
   exact st (I.hok a w q)
def adA (H₀:Hp) (te:TE):TE:=fun σ H Q=>te σ H fun v H1=>∃ d o kvs,H1 d=some (.frz o (.dK kvs))∧(∀ o u,H₀ d≠some (.frz o u))∧Q v (upd H1 d (.dK kvs))
theorem Qv {e:Expr} {te:TE} (h:PE X e te):PE X e (adA X.H₀ te):=by
 intro pins s σ H Q I t
 refine wpAny_mono (h pins s σ H _ I t) (fun u s1 ⟨v,H1,I1,r,q⟩=>?_) fun _ _ z=>z
 obtain ⟨d,o,kvs,hd,h0,q⟩:=q
 exact ⟨v,_,I1.YJ hd h0 (by intro _ z;cases z) (by intro _ z;cases z) (by intro _ z;cases z),r,q⟩
def adB (H₀:Hp) (t:TS):TS:=fun D σ H=>∃ d o kvs,H d=some (.frz o (.dK kvs))∧(∀ o u,H₀ d≠some (.frz o u))∧t D σ (upd H d (.dK kvs))
theorem Qw {st:Stmt} {t:TS} (h:PS X st t):PS X st (adB X.H₀ t):=by
 intro pins s σ H D I q
 obtain ⟨d,o,kvs,hd,h0,q⟩:=q
 exact h pins s σ _ D (I.YJ hd h0 (by intro _ z;cases z) (by intro _ z;cases z) (by intro _ z;cases z)) q
theorem U8:∀ {ns:List Int} {us:List Value},Vals (ns.map V.int) us→∃ ps:List (Int×Tok),us=ps.map (fun p=>Value.int p.1 p.2)∧ps.map (·.1)=ns
 | [],_,.nil=>⟨[],rfl,rfl⟩
 | n::r,_,.cons h t=>by
  obtain ⟨k,rfl⟩:=h
  obtain ⟨ps,e,e2⟩:=U8 t
  exact ⟨(n,k)::ps,by rw [e];rfl,by rw [List.map_cons,e2]⟩
def abx (K:W.Frag):List V→Hp→VK→Prop:=fun vs H Q=>∃ (p:Addr) (ns:List Int),vs=[.ref p]∧SqL K H p (ns.map V.int)∧Q (.int ns.sum) H
theorem Hg (hc:X.calm=true):xQ X (.builtin "sum") (abx X.K):=by
 rintro pins s σ H xs us Q I r ⟨p,ns,rfl,hq,q⟩
 obtain ⟨u,rfl,ru⟩:=r.one
 cases (show u=Value.ref p from ru)
 obtain ⟨its,rv,⟨o,n,e1,e2,e3,e4⟩,hz⟩:=I.list hq
 obtain ⟨ps,e,ee⟩:=U8 rv
 have hl:s.heap.IsList p (intItems ps.toArray):=by
  refine ⟨o,e1,e2,n,?_⟩
  rw [e4,e]
  simp [intItems]
 have hs:preSum (numAt ps.toArray) ps.toArray.size=ns.sum:=by
  rw [preSum_eq]
  simp only [List.size_toArray]
  rw [ee,List.take_of_length_le (by rw [←ee,List.length_map];exact Nat.le_refl _)]
 refine sum_intListG (I.ok.hd hc) hl fun h' tk t' hk=>⟨.int ns.sum,H,I.kept (t':=tk) hk,⟨t',by rw [hs]⟩,q⟩
end
end L2
end
section
namespace L2
open PySem PySem.Spec PyProof.Rows LX
theorem Ov {d:Addr} {o:Obj} {kvs:List (Key×V)} {te:TE} {Q:VK} {D:Addr} {τ:St} {H:Hp} (Pv:Nat→List V→Hp→Prop) (h0:Pv 0 [] H) (hD:∀ i ys H,i≤kvs.length→Pv i ys H→H D=some (.lst ys)∧ys.length=i) (hl:∀ i ys H,i≤kvs.length→Pv i ys H→H d=some (.frz o (.dK kvs))) (hn:kvs.length≤sizeLine)
  (hs:∀ i p ys H,kvs[i]?=some p→Pv i ys H→te (some (kV p.1)::τ) H fun v H4=>H4 D=some (.lst ys)∧Pv (i+1) (ys++[v]) (upd H4 D (.lst (ys++[v])))) (hd:∀ ys H,Pv kvs.length ys H→Q (.ref D) H):M5 (Itd d o kvs) D τ te Q H:=by
 refine ⟨fun i m ys H=>m=kvs.length-i∧i≤kvs.length∧Pv i ys H,⟨kvs.length,by simp,Nat.zero_le _,h0⟩,?_⟩
 rintro i m ys H2 ⟨rfl,hi,p⟩
 obtain ⟨d1,d2⟩:=hD i ys H2 hi p
 refine ⟨d1,?_⟩
 have hS:=hl i ys H2 hi p
 by_cases hlt:i<kvs.length
 ·refine .inr ⟨⟨hS,hlt⟩,by omega,Pv (i+1),fun zs H' p'=>⟨kvs.length-(i+1),by omega,rfl,hlt,p'⟩,fun y H3 q=>?_⟩
  obtain ⟨e1,q',e2,e3⟩:=q
  subst e1 e3
  exact hs i q' ys _ e2 p
 ·have e:i=kvs.length:=by omega
  subst e
  exact .inl ⟨⟨hS,Nat.le_refl _⟩,hd ys H2 p⟩
def Q4:Option Key→Value→Bool
 | none,.none=>true
 | none,_=>false
 | some k,v=>rn k v
theorem iC {v:Value} (h:Q4 none v=true):v=.none:=by
 cases v<;>first|rfl|cases h
def adC (w:World):Option Key→Int
 | none=>reduceHash 0xFCA86420
 | some k=>abV w k
theorem Ow {prog:Program} {w:World} {A:Around} {E:Value→Shared→Prop} {s:Shared} {Q:Int→Shared→Prop} (h:Q (reduceHash 0xFCA86420) {s with toks:=s.toks+1}):wpAny (model prog w) A (pyHash .none) Q E s:=by
 show wpAny _ _ (pyHashByItsType .none) Q E s
 exact PySem.W.pyHash_slot (T := "NoneType") rfl F.slot_NoneType_hash F.entry_NoneType_hash (F.args_NoneType_hash_1 _) (beq_builtin_none _) (.inl rfl) (wpAny_bind (wpAny_pure (wpAny_bind (wpAny_mkInt (wpAny_pure ⟨_,_,rfl,h⟩)))))
def optKind (prog:Program) (w:World):PySem.KeyKind prog w (Option Key) where
 is:=Q4
 hash:=adC w
 inj:=fun v a b ha hb=>by
  cases a with
  | none =>
   obtain rfl:=iC ha
   cases b with
   | none=>rfl
   | some k=>rcases cg (show rn k .none=true from hb) with ⟨_,_,_,e⟩|⟨_,_,_,e⟩<;>exact nomatch e
  | some k =>
   cases b with
   | none =>
    obtain rfl:=iC hb
    rcases cg (show rn k .none=true from ha) with ⟨_,_,_,e⟩|⟨_,_,_,e⟩<;>exact nomatch e
   | some k'=>rw [(c5 prog w).inj v k k' ha hb]
 byValue:=fun k v h=>by
  cases k with
  | none=>obtain rfl:=iC h;rfl
  | some k=>exact (c5 prog w).byValue k v h
 pyHash:=fun {A E s k v Q} hv h=>by
  cases k with
  | none=>obtain rfl:=iC hv;exact Ow h
  | some k=>exact (c5 prog w).pyHash (k:=k) hv h
 eqBool:=fun {A E s a b u v Q} hu hv h=>by
  cases a with
  | none =>
   obtain rfl:=iC hu
   cases b with
   | none=>obtain rfl:=iC hv;exact SeqAt.EqAt.same _ _ _ _ _ h
   | some k =>
    rw [decide_eq_false (by intro z;cases z)] at h
    rcases cg (show rn k v=true from hv) with ⟨i,t,_,rfl⟩|⟨x,t,_,rfl⟩
    ·exact SeqAt.EqAt.none_int i t _ _ _ _ h
    ·exact SeqAt.EqAt.none_str x t _ _ _ _ h
  | some k =>
   cases b with
   | none =>
    obtain rfl:=iC hv
    rw [decide_eq_false (by intro z;cases z)] at h
    rcases cg (show rn k u=true from hu) with ⟨i,t,_,rfl⟩|⟨x,t,_,rfl⟩
    ·exact SeqAt.EqAt.int_none i t _ _ _ _ h
    ·exact SeqAt.EqAt.str_none x t _ _ _ _ h
   | some k' =>
    refine (c5 prog w).eqBool (a:=k) (b:=k') hu hv ?_
    have e:decide (some k=some k')=decide (k=k'):=by
     by_cases c:k=k'
     ·subst c;simp
     ·rw [decide_eq_false c,decide_eq_false (by intro z;exact c (Option.some.inj z))]
    rw [←e]
    exact h
 «strs» := fun k x t v h=>by
  cases k with
  | none=>exact nomatch iC h
  | some k=>exact (c5 prog w).strs k x t v h
theorem RJ {prog:Program} {w:World} {h:Heap} {a:Addr} {kvs:List (Key×Value)} (hd:h.DictOf (c5 prog w) a kvs):h.MapOf (optKind prog w) a (fun k=>k.bind fun k=>valueAt kvs k):=by
 obtain ⟨o,es,ep,ho,hc,adD,hk,hf⟩:=hd.mapOf
 refine ⟨o,es,ep,ho,hc,adD,fun e he=>?_,fun k=>?_⟩
 ·obtain ⟨k,h1,h2⟩:=hk e he
  exact ⟨some k,h1,h2⟩
 ·cases k with
  | none =>
   show (es.find? fun e=>Q4 none e.key).map (·.val)=none
   rw [Array.find?_eq_none.mpr fun e he=>?_]
   ·rfl
   ·obtain ⟨k,h1,_⟩:=hk e he
    intro z
    have:=iC z
    rw [this] at h1
    rcases cg (show rn k .none=true from h1) with ⟨_,_,_,e⟩|⟨_,_,_,e⟩<;>exact nomatch e
  | some k=>exact hf k
def inO (kvs:List (Key×V)):Option Key→Bool
 | none=>false
 | some k=>(lJ kvs k).isSome
def YK:Option Key→V
 | none=>.non
 | some k=>kV k
section
variable {X:Cx} {i o:Expr} {ty td:TE}
def aby (ty td:TE):TE:=fun σ H Q=>ty σ H fun y H1=>td σ H1 fun x H2=>∃ a kvs k,x=.ref a∧y=YK k∧Rd H2 a (.dK kvs)∧Q (.bl (inO kvs k)) H2
theorem Yi {P:Program} {w:World} {k:Option Key} {u:Value} (r:RelV (YK k) u):(optKind P w).is k u=true:=by
 cases k with
 | none=>cases r;rfl
 | some k=>exact Fm (P:=P) (w:=w) r
theorem RK (hi:PE X i ty) (ho:PE X o td):PC X .In i o (aby ty td):=by
 intro pins s σ H Q I h
 refine thn (hi pins s σ H _ I h) fun iv s1 ⟨y,H1,I1,ry,q1⟩=>thn (ho pins s1 σ H1 _ I1 q1) fun u s2 ⟨x,H2,I2,rx,a,kvs,k,ex,ey,g,q2⟩=>?_
 subst ex ey
 cases (show u=Value.ref a from rx)
 obtain ⟨z,hd,vs,rel,dd⟩:=xR I2.hok g
 refine wpAny_in_of (Yi (P:=X.prog) (w:=X.w) ry) hd (RJ dd) ?_
 have e:(k.bind fun k=>valueAt vs k).isSome=inO kvs k:=by
  cases k with
  | none=>rfl
  | some k=>exact (rel.val k).nY.symm
 rw [e]
 exact ⟨.bl (inO kvs k),H2,I2.tok _,rfl,q2⟩
end
end L2
end
section
namespace L2
open PySem PySem.Spec PyProof.Rows LX
section
variable {X:Cx} {K:W.Frag}
theorem RL {e:Expr} {f:Str} {pos:Pos} {ta:TE} (hK:X.K=K) (he:PE X e ta) (hb:attributeBase e f X.env (eval e X.env)=eval e X.env):PE X (.Attribute e f pos) (ab0 K ta f):=by
 subst hK
 exact aG he hb
def abz (K:W.Frag):List V→Hp→VK→Prop:=fun xs H Q=>∃ p ys,xs=[V.ref p]∧(SqL K H p ys∨SqT K H p ys)∧Q (.int (ys.length:Int)) H
theorem Hh (hK:X.K=K):xQ X (.builtin "len") (abz K):=by
 subst hK
 exact gI
end
end L2
end
section
namespace L2
open PySem PySem.Spec PyProof.Rows LX
structure OU (k:Nat) (A:Around):Prop where
 dp:A.depth+3*k+5<recursionLimit
 un:A.units+16*k+200<cLine
theorem mR.r0 {j k:Nat} {A:Around} (r:mR k A) (h:j≤k):OU j A:=⟨by have:=r.dp;omega,by have:=r.un;omega⟩
structure Mc (P:Program) (w:World) (K:W.Frag) (mg:Str→Option Value) (base:Heap) (CX:CXT) (k:Nat) (f:Addr) (fd:FuncData) (ps:List Str) (sp:Sp):Prop where
 len:∀ vs H Q E,sp vs H Q E→vs.length=ps.length
 run:∀ (A:Around) (outer:List Env) (s:Shared) (H:Hp) (args:Args) (us:List Value) (vs:List V) (Q:VK) (E:XK),OU k A→L7 P w K mg base A outer s H→BindsTo s fd args (ps.zip us)→Vals vs us→sp vs H Q E →
  codeAny (model P w) A (.call (.ref f) args) (CR CX outer P w H s Q E) s
def cx0 (CX:CXT) (P:Program) (w:World) (K:W.Frag) (mg:Str→Option Value) (base:Heap) (N:List Str) (qual:Str) (scope:Scope) (f:Addr) (cd:Value) (A:Around) (outer:List Env) (s:Shared) (H:Hp) (E:XK):Cx:={O6 CX P w K mg base N qual scope f cd A outer s H E with calm:=false}
theorem Yj {CX:CXT} {P:Program} {w:World} {K:W.Frag} {mg:Str→Option Value} {base:Heap} {k:Nat} {f:Addr} {name qual:Str} {params:Arguments} {body:List Stmt} {scope:Scope} {dV kV doc pm cdv ct oc:Value} {an od:Option Addr}
  {osl:Array (Option Value)} {N ps:List Str} {sp:Sp} (lk:K.lookup f=some ⟨oc,od,.func (PySem.W.fnOf name qual params body scope dV kV doc pm an cdv ct),osl⟩) (hcd:PySem.W.codeIn K cdv qual=true) (S:av N ps scope)
  (len:∀ vs H Q E,sp vs H Q E→vs.length=ps.length)
  (GS:∀ (A:Around) (outer:List Env) (s:Shared) (H:Hp) (vs:List V) (Q:VK) (E:XK),sp vs H Q E →
   ∃ t,PSs (cx0 CX P w K mg base N qual scope f cdv A outer s H E) body t∧t {nx:=fun _ H'=>Q .non H',rt:=Q} (start N vs) H) :
  Mc P w K mg base CX (k+1) f (PySem.W.fnOf name qual params body scope dV kV doc pm an cdv ct) ps sp:=by
 refine ⟨len,fun A outer s H args us vs Q E hr e0 hb r hsp=>?_⟩
 have hl:=len _ _ _ _ hsp
 have KX:K.In s.heap:=e0.mod.kin.keeps fun b o e=>(e0.bs b o e).1
 have lim:s.heap.NoLimit:=e0.mod.nolimit.keeps fun b o e=>(e0.bs b o e).1
 have QZ:∀ y∈ps.zip us,scope.names.lookup y.1=some .local∨(scope.names.lookup y.1=some .cell∧((cellsFrom (s.heap.objs.size+1) scope.names []).lookup y.1).isSome=true):=fun ⟨n,v⟩ hy=>by
  rcases S.par n (List.of_mem_zip hy).1 with q|q
  ·exact .inl q
  ·exact .inr ⟨q,PySem.W.cellsFrom_some _ _ _ (.inl q)⟩
 have dep:A.depth<recursionLimit:=by have:=hr.dp;omega
 refine codeAny_call_function dep (KX _ _ lk) rfl S.co S.gen rfl (PySem.W.codeRec_of KX hcd) (hb _ _ _ _ ?_)
 refine wpAny_newFunctionEnv_cells S.kind QZ fun env he s1 x=>?_
 subst he
 refine ⟨lim.keeps x.toInCall.keep,codeAny_func ?_⟩
 obtain ⟨t,ht,hq⟩:=GS A outer s H vs Q E hsp
 have I:Inv (cx0 CX P w K mg base N qual scope f cdv A outer s H E) [] (start N vs) H s1:=by
  have e1:L7 P w K mg base ({A with handled:=none}:Around) outer s H:=⟨e0.frames,e0.mod,e0.bs,e0.bsz,e0.Bf,e0.frf,e0.hok,e0.bare⟩
  have J:=G7 (CX:=CX) (E:=E) (A:={A with handled:=none}) S rfl e1 hl r x
  exact ⟨⟨J.ok.mod,J.ok.kind,J.ok.glob,J.ok.blt,J.ok.above,J.ok.inj,J.ok.has,J.ok.cab,(fun h=>absurd h (by show ¬false=true;decide)),Around.frames_deeper e0.frames,J.ok.stk,J.ok.exf,J.ok.bs,J.ok.bsz,J.ok.LY,J.ok.Nf,J.ok.Bf,J.ok.frf⟩,J.os,J.bare,J.base,J.loc,J.cell,J.free,J.mj,J.pin,J.hok,J.len⟩
 refine wpAny_mono (ht [] s1 (start N vs) H _ I hq) (fun fl s' hs=>?_) fun e s' hs=>hs
 have fin:∀ {σ':St} {H':Hp} {v:V} {u:Value},Inv (cx0 CX P w K mg base N qual scope f cdv A outer s H E) [] σ' H' s'→RelV v u→Q v H'→CE outer P w H s Q u s' :=
  fun {σ' H' v u} J rv q=>⟨v,H',J.os,J.bare,J.base,J.hok,rv,q⟩
 cases fl with
 | ret u =>
  obtain ⟨v,σ',H',J,rv,q⟩:=hs
  exact fin J rv q
 | next =>
  obtain ⟨σ',H',J,q⟩:=hs
  exact fin (v:=V.non) (u:=Value.none) J rfl q
 | brk =>
  obtain ⟨_,_,_,q⟩:=hs
  exact False.elim q
 | cont =>
  obtain ⟨_,_,_,q⟩:=hs
  exact False.elim q
theorem Fun.ok0 {P:Program} {w:World} {K:W.Frag} {mg:Str→Option Value} {base:Heap} {x qual:Str} {st:Stmt} {f:Addr} {fd:FuncData} {N ps:List Str} {k:Nat} {sp:Sp} (F:Fun K x qual st f fd) (S:av N ps (aq st)) (len:∀ vs H Q E,sp vs H Q E→vs.length=ps.length)
  (GS:∀ (cdv:Value) (A:Around) (outer:List Env) (s:Shared) (H:Hp) (vs:List V) (Q:VK) (E:XK),sp vs H Q E →
   ∃ t,PSs (cx0 (CXE P w) P w K mg base N qual (aq st) f cdv A outer s H E) (bS st) t∧t {nx:=fun _ H'=>Q .non H',rt:=Q} (start N vs) H):Mc P w K mg base (CXE P w) (k+1) f fd ps sp:=by
 obtain ⟨oc,od,kV,doc,pm,an,cdv,ct,osl,rfl,lk,hcd⟩:=F.ex
 exact Yj lk hcd S len fun A outer s H vs Q E hsp=>GS cdv A outer s H vs Q E hsp
section
variable {X:Cx} {o:Expr} {ta:TE}
theorem abA {CX:CXT} {k:Nat} {f:Addr} {fd:FuncData} {ps:List Str} {sp:Sp} {ds:List Value} {dvs:List V} {EK:St→XK} {pins:List (Addr×Obj)} {σ:St} {H:Hp} {s:Shared} {Q:VK} {us:List Value} {vs:List V} (F:Mc X.prog X.w X.K X.mg X.base CX k f fd ps sp) (hr:OU k X.A) (hb:Binds X.K fd ps ds) (hd:Vals dvs ds) (hx:jH CX X EK)
  (I:Inv X pins σ H s) (r:Vals vs us) (h:sp (vs++dvs) H Q (EK σ)):wpAny (model X.prog X.w) X.A (call (.ref f) us) (EP X pins σ Q) X.xe s:=by
 have r2:Vals (vs++dvs) (us++ds):=r.append hd
 have hl:(us++ds).length=ps.length:=by rw [←r2.length];exact F.len _ _ _ _ h
 refine wpAny_call (codeAny_mono (F.run X.A X.stack s H ⟨us,[]⟩ (us++ds) (vs++dvs) Q (EK σ) hr I.UQ (hb s us I.kIn hl) r2 h) fun r s' hq=>?_)
 cases r with
 | error e=>exact hx pins σ H s e s' I hq
 | ok fl =>
  cases fl with
  | ret u=>exact I.after hq
  | _=>exact False.elim hq
structure Qx (P:Program) (w:World) (K:W.Frag) (mg:Str→Option Value) (base:Heap) (CX:CXT) (k:Nat) (m:Str) (C:Addr) (sp:Sp):Prop where
 ex:∃ f fd ps,Meth K C m f∧Mc P w K mg base CX k f fd ps sp∧Binds K fd ps []
def Nv (P:Program) (w:World) (K:W.Frag) (mg:Str→Option Value) (base:Heap) (CX:CXT) (k:Nat) (m:Str) (EK:St→XK) (ta:TE):TE:=fun σ H Q=>ta σ H fun x H1=>∃ b a C sp,x=.ref a∧H1 a=some (exo b C a none)∧YI K C ∧
 Qx P w K mg base CX k m C sp∧sp [x] H1 Q (EK σ)
theorem Ox {CX:CXT} {k:Nat} {EK:St→XK} {m:Str} {pos apos:Pos} {pl:Sem Bool} (he:PE X o ta) (hr:OU k X.A) (hx:jH CX X EK)
  (ht:eval (.Call (.Attribute o m apos) [] [] pos) X.env=(do
   let ov ←eval o X.env
   standAt apos.atName
   let (f,first) ←holding [ov] (getMethod ov m pl)
   callWith pos f first (backTo pos (starEach [] X.env)) (backToKw pos (keywordEach [] X.env))):=by rfl) :
  PE X (.Call (.Attribute o m apos) [] [] pos) (Nv X.prog X.w X.K X.mg X.base CX k m EK ta):=by
 intro pins s σ H Q I h
 refine PySem.W.methodCall_KW (pl:=pl) (thn (he pins s σ H _ I h) fun u s1 ⟨x,H1,I1,rx,b,a,C,sp,ex,ea,g,md,q⟩=>?_) ht
 subst ex
 obtain rfl:u=Value.ref a:=rx
 obtain ⟨f,fd,ps,mt,F,hb⟩:=md.ex
 obtain ⟨fs,sl,a0,z,_⟩:=Fp I1.hok ea
 have fin:wpAny (model X.prog X.w) X.A (callWith pos (.ref f) [.ref a] (backTo pos (starEach [] X.env)) (backToKw pos (keywordEach [] X.env))) (EP X pins σ Q) X.xe s1 :=
  PySem.W.callWith_K0 (first:=[.ref a]) I1.kIn mt.kp (abA (us:=[.ref a]) (vs:=[.ref a]) (dvs:=[]) (ds:=[]) F hr hb .nil hx I1 (.cons rfl .nil) q)
 exact Pu I1.kIn (Oo z) g.ga g.gt mt.at_ (beq_iff_eq.mp mt.fn) rfl fin
end
end L2
end
section
namespace L2
open PySem PySem.Spec PyProof.Rows LX
def nsE:Expr→Bool
 | .Starred ..=>false
 | _=>true
theorem RM {e:Expr} {es:List Expr} {env:Env} (h:nsE e=true):starEach (e::es) env=(false,eval e env)::starEach es env:=by
 cases e<;>first|rfl|cases h
theorem iJ {X:Cx} {e:Expr} {es:List Expr} {te:TE} {t:TA} (ha:PE X e te) (hr:PA X es t) (hs:nsE e=true:=by rfl):PA X (e::es) (rq te t):=ab ha hr (RM hs)
theorem RN {es:List Expr} {p:Pos} {t:Option Expr} {l:Nat} {env:Env}:swapsWith (.List es p) t l env=pure false:=rfl
theorem RO {X:Cx} {i:Nat} {x:Str} {es:List Expr} {p:Pos} {te:TE} {pos' pos:Pos} (hN:X.N.Nodup) (hi:X.N[i]?=some x) (hx:Loc X.env.scope x) (he:PE X (.List es p) te) (hf:X.fn x=true∨X.env.scope.names.lookup x=some .local:=by first|exact .inl rfl|exact .inr rfl|assumption) :
  PS X (.Assign [.Name x pos'] (.List es p) pos) (O3 te (qh i)):=bN hN hi hx he RN hf
end L2
end
section
namespace L2
open PySem PySem.Spec PyProof.Rows LX
theorem Hi:∀ (f n r:Nat),n≤f→r≤1→minRun' f n r≤max 64 (n+r)
 | 0,n,r,_,_=>Nat.le_max_right _ _
 | f+1,n,r,h,hr=>by
  rw [minRun'_succ]
  by_cases c:n<64
  ·rw [if_pos c];exact Nat.le_max_right _ _
  ·rw [if_neg c]
   have:=Hi f (n/2) (max r (n%2)) (by omega) (by omega)
   omega
theorem J8 {n:Nat}:¬n<minRun' n n 0:=by
 by_cases c:n<64
 ·cases n with
  | zero=>show ¬0<0+0;omega
  | succ f=>rw [minRun'_succ,if_pos c];omega
 ·have:=Hi n n 0 (Nat.le_refl _) (by omega)
  omega
section
variable {prog:Program} {w:World} {A:Around} {E:Value→Shared→Prop} {s:Shared} {a₀:Array Keyed}
theorem J9 {st:SortSt} {m:Nat} {Q:Option Nat→SortSt→Prop} (ik:IntKeys a₀) (h:m≤a₀.size) (h1:1≤m) (B:SBase a₀ st) (up:SortedTo (arrOf st) m) (q:Q (some m) st):wpS (model prog w) A E s (countRun' 0 m) Q st:=by
 rw [countRun0_eq]
 refine wpS_bind (wpS_ascLoop ik h (Nat.le_refl 1) h1 B (fun i j a b=>up i j a (by omega)) fun n n1 n2 _ o=>?_)
 have e:n=m:=by
  rcases o with o|o
  ·exact o
  ·by_cases c:n=m
   ·exact c
   ·have:=up (n-1) n (by omega) (by omega)
    omega
 subst e
 dsimp only
 rw [if_pos (by simp)]
 exact wpS_pure q
theorem Md {st:SortSt} {Q:Unit→SortSt→Prop} (ik:IntKeys a₀) (B:SBase a₀ st) (n2:2≤a₀.size) (up:SortedTo (arrOf st) a₀.size)
  (q:∀ st',(arrOf st').Perm a₀→failedOf st'=none→SortedTo (arrOf st') a₀.size→Q () st'):wpS (model prog w) A E s sortRuns' Q st:=by
 rw [sortRuns'_eq]
 refine wpS_bind (wpS_get ?_)
 dsimp only
 have mr:¬a₀.size<minRun' a₀.size a₀.size 0:=J8
 simp only [B.size]
 refine wpS_bind (wpS_mono (wpS_forRange (I:=fun x c st'=>(x=0∧c=(none,0)∧st'=st)∨(1≤x∧c=(none,a₀.size)∧SDone a₀ st')) (Q:=fun c st'=>c=(none,a₀.size)∧SDone a₀ st') ?one ?all (.inl ⟨rfl,rfl,rfl⟩)) ?rest)
 case all =>
  rintro c st' (⟨z,_,_⟩|⟨_,hc,d⟩)
  ·omega
  ·exact ⟨hc,d⟩
 case one =>
  rintro x c st' _ hx (⟨rfl,rfl,rfl⟩|⟨_,rfl,d⟩)
  ·dsimp only
   rw [if_neg (by omega)]
   simp only [Nat.sub_zero,Nat.zero_add]
   refine wpS_bind (J9 ik (Nat.le_refl _) (by omega) B up ?_)
   dsimp only
   rw [if_neg mr]
   refine wpS_bind (wpS_get ?_)
   rw [show (pendingOf st').back?=none by rw [B.pend];rfl]
   dsimp only
   exact wpS_bind (wpS_modify (wpS_pure (.inr ⟨by omega,rfl,B.done up⟩)))
  ·dsimp only
   rw [if_pos (Nat.le_refl _)]
   exact wpS_pure ⟨rfl,d⟩
 case rest =>
  rintro c st' ⟨rfl,d⟩
  dsimp only
  refine wpS_bind (wpS_mono (wpS_forRange (I:=fun _ c st2=>st2=st'∧c=(none,())) (Q:=fun c st2=>st2=st'∧c=(none,())) ?_ (fun _ _ z=>z) ⟨rfl,rfl⟩) ?_)
  ·rintro x c st2 _ _ ⟨rfl,rfl⟩
   refine wpS_bind (wpS_get ?_)
   rw [if_pos (show (pendingOf st2).size≤1 by rw [d.2.2.1];exact Nat.le_refl 1)]
   exact wpS_pure ⟨rfl,rfl⟩
  ·rintro c st2 ⟨rfl,rfl⟩
   exact wpS_pure (q _ d.1 d.2.1 d.2.2.2)
theorem Nw:∀ {vs:List Value} {ns:List Int},IntsAre vs ns→∀ (i:Nat) (h:i<vs.length) (h':i<ns.length),numOf vs[i]=ns[i]
 | _,_,.nil,i,h,_=>absurd h (Nat.not_lt_zero _)
 | _,_,.cons k t r,0,_,_=>rfl
 | _,_,.cons k t r,i+1,h,h'=>Nw r i (Nat.lt_of_succ_lt_succ h) (Nat.lt_of_succ_lt_succ h')
theorem PJ {vs:List Value} {ns:List Int} (hI:IntsAre vs ns) (up:ns.Pairwise (·≤·)):SortedTo (pairsOf vs) (pairsOf vs).size:=by
 intro i j ij hj
 have hl:=hI.length
 have hs:=pairsOf_size vs
 rw [K_eq (by omega),K_eq (by omega)]
 have hi2:i<ns.length:=by omega
 have hj2:j<ns.length:=by omega
 have e:∀ (k:Nat) (h:k<(pairsOf vs).size) (h':k<ns.length),numOf (pairsOf vs)[k].1=ns[k]:=fun k h h'=>by
  have:(pairsOf vs)[k].1=vs[k]'(by omega):=by simp [pairsOf]
  rw [this]
  exact Nw hI k (by omega) h'
 rw [e i (by omega) hi2,e j (by omega) hj2]
 rcases Nat.lt_or_ge i j with c|c
 ·exact List.pairwise_iff_getElem.mp up i j hi2 hj2 c
 ·have:i=j:=by omega
  subst this
  exact Int.le_refl _
theorem AG {a:Addr} {vs:List Value} {ns:List Int} {n:Nat} {P:Fin→Shared→Prop} (ho:s.heap.get? a=some (seqObj "list" vs.toArray n)) (hI:IntsAre vs ns) (few:vs.length≤20000) (up:ns.Pairwise (·≤·))
  (h:∀ (out:Array Value) (ns':List Int),IntsAre out.toList ns'→ns'.Perm ns→ns'.Pairwise (·≤·)→P (.done (.ret .none)) {s with heap:=sortedHeap s.heap a vs out}):wpAny (model prog w) A (Builtin.«list.sort» ⟨[.ref a],[]⟩) P E s:=by
 have hz:vs.length≤sizeLine:=Nat.le_of_lt (Nat.lt_of_le_of_lt few (by decide))
 rw [list_sort_plain]
 have la:a<s.heap.objs.size:=Heap.lt_size ho
 refine wpAny_bind (listItems_at ho rfl (wpAny_bind (listUpdate_at ho rfl ?_ (by rw [List.size_toArray];exact hz) (Nat.zero_le _))))
 obtain ⟨e1,g1⟩:∃ e1,(s.heap.update a (Obj.mapSeq fun _=>#[])).get? a=some (seqObj "list" #[] e1):=⟨_,get?_update_seq ho (fun _=>#[])⟩
 refine wpAny_bind (seqEpoch_at g1 rfl (wpAny_bind (wpAny_newTuple (wpAny_bind (wpAny_newList (wpAny_holding ?_) (Nat.zero_le _))) (by show vs.length≤_;exact hz))))
 have g6:(((s.heap.update a (Obj.mapSeq fun _=>#[])).push (seqObj "tuple" vs.toArray 0)).push (seqObj "list" #[] 0)).get? a=some (seqObj "list" #[] e1):=Heap.get?_push_of_some _ (Heap.get?_push_of_some _ g1)
 show wpAny (model prog w) A _ P E {s with heap:=((s.heap.update a (Obj.mapSeq fun _=>#[])).push (seqObj "tuple" vs.toArray 0)).push (seqObj "list" #[] 0)}
 dsimp only
 have zs:(pairsOf vs).size=vs.length:=pairsOf_size vs
 have fin:∀ st':SortSt,(arrOf st').Perm (pairsOf vs)→SortedTo (arrOf st') (pairsOf vs).size→P (.done (.ret .none)) {s with heap:=sortedHeap s.heap a vs ((arrOf st').map (·.2))}:=fun st' hp hs=>by
  obtain ⟨ns',q1,q2,q3⟩:=sorted_out hI hp hs
  exact h _ ns' q1 q2 q3
 have up0:=PJ hI up
 by_cases c:vs.toArray.size<2
 ·rw [if_pos c,if_pos c]
  refine wpAny_bind (wpAny_pure ?_)
  rw [StateT.run_pure]
  refine wpAny_bind (wpAny_pure ?_)
  dsimp only
  refine wpAny_bind (seqEpoch_at g6 rfl (wpAny_bind (listUpdate_at g6 rfl ?_ (hsz2:=by rw [Array.size_map];show (pairsOf vs).size≤_;rw [zs];omega))))
  simp only [bne_self_eq_false,Bool.false_eq_true,if_false]
  exact wpAny_pure (fin (SortSt.mk' general' (vs.toArray.zip vs.toArray) #[] 7 none) (Array.Perm.refl _) up0)
 ·rw [if_neg c,if_neg c]
  obtain ⟨v1,v2,r,rfl⟩:∃ v1 v2 r,vs=v1::v2::r:=by
   match vs,c with
   | [],c=>simp at c
   | [_],c=>simp at c
   | v1::v2::r,_=>exact ⟨v1,v2,r,rfl⟩
  rw [keyKind_ints hI]
  refine wpAny_bind (wpAny_pure (wpAny_bind (wpAny_mono (Md (a₀:=pairsOf (v1::v2::r)) (st:=SortSt.mk' oneType' ((v1::v2::r).toArray.zip (v1::v2::r).toArray) #[] 7 none)
   (Q:=fun _ st'=>(arrOf st').Perm (pairsOf (v1::v2::r))∧failedOf st'=none∧SortedTo (arrOf st') (pairsOf (v1::v2::r)).size) hI.intKeys ⟨Array.Perm.refl _,rfl,rfl,rfl⟩ (by rw [zs];simp) up0 fun st' a1 a2 a3=>⟨a1,a2,a3⟩) ?_ fun _ _ e=>e)))
  rintro ⟨⟨⟩,st'⟩ s' ⟨rfl,hp,hf,hs⟩
  dsimp only
  refine wpAny_bind (seqEpoch_at g6 rfl (wpAny_bind (listUpdate_at g6 rfl ?_ (hsz2:=Nat.le_trans (Nat.le_of_eq ((Array.size_map ..).trans (hp.size_eq.trans zs))) (Nat.le_succ_of_le hz)))))
  rw [hf]
  simp only [bne_self_eq_false,Bool.false_eq_true,if_false]
  exact wpAny_pure (fin st' hp hs)
end
section
variable {X:Cx}
def PL:List V→Hp→VK→Prop:=fun vs H Q=>∃ (p:Addr) (kvs:List (Key×V)) (ks:List Int),vs=[.ref p]∧Rd H p (.dK kvs)∧kvs.map (·.1)=ks.map Sum.inl∧ks.length≤20000∧ks.Pairwise (·≤·)∧∀ (l:Addr),H l=none→Q (.ref l) (upd H l (.lst (ks.map V.int)))
theorem AH (hc:X.calm=true):xQ X (.builtin "sorted") PL:=by
 rintro pins s σ H xs us Q I r ⟨p,kvs,ks,rfl,hp,hk,few,up,q⟩
 obtain ⟨u,rfl,ru⟩:=r.one
 cases (show u=Value.ref p from ru)
 obtain ⟨hz,hd,vs,rel,dd⟩:=xR I.hok hp
 obtain ⟨ep,hat⟩:=dd.dictAt
 have hh:=I.ok.hd hc
 have hl:ks.length=kvs.length:=by
  have:=congrArg List.length hk
  simpa using this.symm
 refine Calls.call_function_entry kind_sorted plain_sorted entry_sorted (args_sorted1 _) ?_
 unfold Builtin.«sorted»
 refine wpAny_bind (m:=checkCount "sorted" 1 1 _) (wpAny_pure ?_)
 refine wpAny_bind (PySem.W.kdu_collect (A:=X.A.in1) (PySem.W.kdl_dict (knd:=c5 X.prog X.w) (kvs:=vs) (ep:=ep) hd) hh hat (by rw [←rel.length];exact hz) fun h' tk acc hkp hacc=>?_)
 have hI:IntsAre acc.toList ks:=Hb (by rw [←rel.keys];exact hk) hacc.1 hacc.2
 have hlen:=hI.length
 have I1:Inv X pins σ H {s with heap:=h',toks:=tk}:=I.kept (t':=tk) hkp
 refine wpAny_bind (wpAny_newList ?_ (by show acc.toList.length≤sizeLine;rw [hlen,hl];exact hz))
 have hoL:(h'.push (seqObj "list" acc.toList.toArray 0)).get? h'.objs.size=some (seqObj "list" acc.toList.toArray 0):=Heap.get?_push_size _ rfl
 show wpAny _ _ _ _ _ {s with heap:=h'.push (seqObj "list" acc.toList.toArray 0),toks:=tk}
 refine wpAny_bind (wpAny_holding (wpAny_call_entry slot_list_sort ⟨_,hoL,rfl⟩ entry_list_sort (AG hoL hI (by omega) up fun out ns' a1 a2 a3=>⟨_,rfl,?_⟩) (args_list_sort _)))
 refine wpAny_pure ⟨_,rfl,?_⟩
 cases Hd a2 a3 up
 obtain ⟨e,he⟩:=sortedHeap_at (out:=out) hoL
 refine ⟨.ref h'.objs.size,_,I1.laid (a:=h'.objs.size) (o:=.lst (ks.map V.int)) (t':=tk) (fun b o hb=>?_) (Nat.le_refl _) ?_,rfl,q _ (I1.hok.fresh (Nat.le_refl _))⟩
 ·have hlt:=Heap.lt_size hb
  rw [sortedHeap_old (Nat.ne_of_lt hlt) (by rw [size_push'];exact Nat.lt_succ_of_lt hlt),Heap.get?_push_ne _ _ _ (Nat.ne_of_lt hlt)]
  exact hb
 ·refine ⟨by rw [List.length_map,hl];exact hz,out.toList,e,qj a1,?_⟩
  rw [he]
def RP (K:W.Frag):List V→Hp→VK→Prop:=fun vs H Q=>∃ (p:Addr) (ns:List Int),vs=[.ref p]∧SqL K H p (ns.map V.int)∧ns.length≤20000∧ns.Pairwise (·≤·)∧∀ (l:Addr),H l=none→Q (.ref l) (upd H l (.lst (ns.map V.int)))
theorem Ka:xQ X (.builtin "sorted") (RP X.K):=by
 rintro pins s σ H xs us Q I r ⟨p,ns,rfl,hq,few,up,q⟩
 obtain ⟨u,rfl,ru⟩:=r.one
 cases (show u=Value.ref p from ru)
 obtain ⟨its,rv,pl,hz⟩:=I.list hq
 have hI:=intsAre_of rv
 have hlen:=rv.length
 rw [List.length_map] at hlen hz
 refine Calls.call_function_entry kind_sorted plain_sorted entry_sorted (args_sorted1 _) ?_
 unfold Builtin.«sorted»
 refine wpAny_bind (m:=checkCount "sorted" 1 1 _) (wpAny_pure ?_)
 have iz:its.length≤sizeLine:=by omega
 refine wpAny_bind (collect_list pl.isList ?_ iz)
 refine wpAny_bind (wpAny_newList ?_ iz)
 have sz:((s.heap.push (seqObj "list" #[] 0)).update s.heap.objs.size (Obj.mapSeq (·++its.toArray))).objs.size=s.heap.objs.size+1:=by rw [Heap.size_update,size_push']
 have hoL:(((s.heap.push (seqObj "list" #[] 0)).update s.heap.objs.size (Obj.mapSeq (·++its.toArray))).push (seqObj "list" its.toArray 0)).get? (s.heap.objs.size+1)=some (seqObj "list" its.toArray 0):=by rw [←sz];exact Heap.get?_push_size _ rfl
 show wpAny _ _ _ _ _ {s with heap:=((s.heap.push (seqObj "list" #[] 0)).update s.heap.objs.size (Obj.mapSeq (·++its.toArray))).push (seqObj "list" its.toArray 0)}
 rw [sz]
 refine wpAny_bind (wpAny_holding (wpAny_call_entry slot_list_sort ⟨_,hoL,rfl⟩ entry_list_sort (AG hoL hI (by omega) up fun out ns' a1 a2 a3=>⟨_,rfl,?_⟩) (args_list_sort _)))
 refine wpAny_pure ⟨_,rfl,?_⟩
 cases Hd a2 a3 up
 obtain ⟨e,he⟩:=sortedAll_at s.heap its out
 refine ⟨.ref (s.heap.objs.size+1),_,I.laid (a:=s.heap.objs.size+1) (o:=.lst (ns.map V.int)) (t':=s.toks) (fun _ _=>sortedAll_old) (Nat.le_succ _) ?_,rfl,q _ (I.hok.fresh (Nat.le_succ _))⟩
 refine ⟨by rw [List.length_map];exact hz,out.toList,e,qj a1,?_⟩
 show (sortedAll s.heap its out).get? _=_
 rw [he]
end
end L2
end
section
namespace L2
open PySem PySem.Spec PyProof.Rows LX
section
variable {X:Cx}
def adE (H₀:Hp) (t:TS):TS:=fun D σ H=>t {D with nx:=fun σ1 H1=>∃ d o kvs,H1 d=some (.frz o (.dK kvs))∧(∀ o u,H₀ d≠some (.frz o u))∧D.nx σ1 (upd H1 d (.dK kvs))} σ H
theorem RQ {st:Stmt} {t:TS} (h:PS X st t):PS X st (adE X.H₀ t):=by
 intro pins s σ H D I q
 refine thn (h pins s σ H _ I q) fun f s1 z=>?_
 cases f with
 | next =>
  obtain ⟨σ1,H1,I1,d,o,kvs,hd,h0,q⟩:=z
  exact ⟨σ1,_,I1.YJ hd h0 (by intro _ z;cases z) (by intro _ z;cases z) (by intro _ z;cases z),q⟩
 | ret v=>exact z
 | brk=>exact z
 | cont=>exact z
theorem abB {n:Option Int} {zs:List Int} {f:Option Int→V} (hf:f none=.non) (hs:∀ t,f (some t)=.int t):inV (f n) (zs.map V.int)=(match n with|none=>false|some t=>decide (t∈zs)):=by
 unfold inV
 cases n with
 | none =>
  rw [hf]
  show _=false
  rw [List.any_map]
  refine List.any_eq_false.mpr fun z _=>?_
  simp [eqV]
 | some t =>
  rw [hs,List.any_map]
  show _=decide (t∈zs)
  induction zs with
  | nil=>rfl
  | cons a r ih =>
   rw [List.any_cons,ih]
   by_cases e:a=t
   ·subst e
    simp [eqV]
   ·have:(t∈a::r)↔t∈r:=by
     rw [List.mem_cons]
     exact ⟨fun h=>h.elim (fun z=>absurd z.symm e) id,.inr⟩
    simp [eqV,e,this]
end
end L2
end
section
namespace L2
open PySem PySem.Spec PyProof.Rows LX
theorem Yk {X:Cx} {i:Nat} {x:Str} {st:Stmt} {t0 t1 t2:TE} (hh:∃ es p q1 q2,st=.Assign [.Name x q1] (.List es p) q2∧∃ e0 e1 e2,es=[e0,e1,e2]∧(PE X e0 t0∧nsE e0=true)∧(PE X e1 t1∧nsE e1=true)∧(PE X e2 t2∧nsE e2=true)) (hN:X.N.Nodup) (hi:X.N[i]?=some x) (hx:Loc X.env.scope x) (hf:X.fn x=true∨X.env.scope.names.lookup x=some .local) :
  PS X st (O3 (ab1 (rq t0 (rq t1 (rq t2 O5)))) (qh i)):=by
 obtain ⟨es,p,q1,q2,rfl,e0,e1,e2,rfl,⟨h0,n0⟩,⟨h1,n1⟩,⟨h2,n2⟩⟩:=hh
 exact RO hN hi hx (hR (iJ h0 (iJ h1 (iJ h2 ak n2) n1) n0)) hf
theorem fK {H:Hp} {l:Addr} {o:HO} (_:aD H (upd H l o)):upd H l o l=some o:=ah
end L2
end
section
namespace K12
open PySem L2 LX
def top (i:Nat):Stmt:=PySem.Challenge.pw_stillheap_k12_rooms.main.body.getD i (.Pass ⟨0,0,0,0⟩)
abbrev iY:Stmt:=inClass (top 2) 0
abbrev pX:Stmt:=inClass (top 3) 0
abbrev pY:Stmt:=inClass (top 4) 0
abbrev ou:Stmt:=inClass (top 5) 0
abbrev ow:Stmt:=inClass (top 6) 0
abbrev rB:Stmt:=inClass (top 7) 0
abbrev kU:Stmt:=inClass (top 8) 0
abbrev pZ:Stmt:=inClass (top 9) 0
abbrev p0:Stmt:=inClass (top 10) 0
abbrev p9:Stmt:=inClass (top 11) 0
abbrev nN:Stmt:=top 19
abbrev pA:Stmt:=top 20
abbrev Dh:Stmt:=top 21
abbrev xT:Stmt:=top 22
abbrev kZ:Stmt:=top 23
abbrev nO:Stmt:=top 24
abbrev nP:Stmt:=top 25
abbrev mz:Stmt:=top 26
abbrev k6:Stmt:=top 27
abbrev k7:Stmt:=inClass (top 29) 0
abbrev mB:Stmt:=inClass (top 29) 1
abbrev ke:Stmt:=inClass (top 29) 2
abbrev tX:Stmt:=inClass (top 29) 3
abbrev qM:Stmt:=inClass (top 29) 4
abbrev nQ:Stmt:=inClass (top 29) 5
abbrev qN:Stmt:=inClass (top 29) 6
abbrev pB:Stmt:=inClass (top 29) 7
abbrev kf:Stmt:=inClass (top 29) 9
abbrev iZ:Stmt:=inClass (top 32) 0
abbrev k8:Stmt:=inClass (top 32) 1
abbrev jC:Stmt:=inClass (top 32) 2
abbrev jS:Stmt:=inClass (top 32) 4
abbrev k9:Stmt:=inClass (top 32) 6
abbrev qO:Stmt:=top 34
abbrev i0:Stmt:=inClass (top 36) 0
abbrev lg:Stmt:=inClass (top 36) 1
abbrev kg:Stmt:=inClass (top 36) 2
abbrev iG:Stmt:=inClass (top 36) 3
abbrev hZ:Stmt:=inClass (top 36) 4
abbrev mC:Stmt:=inClass (top 38) 0
abbrev lj:Stmt:=inClass (top 38) 1
abbrev tY:Stmt:=inClass (top 38) 2
abbrev qP:Stmt:=inClass (top 38) 3
abbrev tZ:Stmt:=inClass (top 38) 4
abbrev t9:Stmt:=inClass (top 38) 5
abbrev pD:Stmt:=inClass (top 38) 6
abbrev ua:Stmt:=inClass (top 38) 7
abbrev kh:Stmt:=inClass (top 38) 8
abbrev ub:Stmt:=inClass (top 38) 9
abbrev h9:Stmt:=inClass (top 38) 10
abbrev pE:Stmt:=inClass (top 38) 11
abbrev jD:Stmt:=inClass (top 38) 12
abbrev ia:Stmt:=inClass (top 38) 15
abbrev gU:Stmt:=inClass (top 38) 16
abbrev pF:Stmt:=top 39
abbrev i3:Stmt:=inClass (top 41) 0
abbrev ll:Stmt:=inClass (top 41) 1
abbrev lp:Stmt:=inClass (top 41) 2
abbrev lq:Stmt:=inClass (top 41) 4
abbrev ki:Stmt:=inClass (top 41) 5
abbrev jT:Stmt:=inClass (top 41) 6
abbrev lA:Stmt:=inClass (top 41) 8
abbrev kj:Stmt:=inClass (top 41) 9
abbrev km:Stmt:=inClass (top 41) 10
abbrev mD:Stmt:=inClass (top 41) 11
abbrev i4:Stmt:=inClass (top 41) 12
abbrev kn:Stmt:=inClass (top 41) 13
abbrev ko:Stmt:=inClass (top 41) 14
abbrev jU:Stmt:=inClass (top 41) 15
abbrev iH:Stmt:=inClass (top 41) 16
abbrev jV:Stmt:=inClass (top 41) 17
abbrev jE:Stmt:=inClass (top 41) 18
abbrev jW:Stmt:=inClass (top 41) 19
abbrev lB:Stmt:=inClass (top 41) 20
abbrev lC:Stmt:=inClass (top 41) 21
abbrev kq:Stmt:=inClass (top 41) 22
abbrev nR:Stmt:=top 43
abbrev uc:Stmt:=top 44
abbrev qQ:Stmt:=top 45
abbrev ud:Stmt:=top 46
abbrev oV:Stmt:=top 47
abbrev ue:Stmt:=top 48
abbrev bM:Stmt:=top 49
abbrev qR:Stmt:=top 50
abbrev mT:Stmt:=top 51
abbrev kr:Stmt:=top 52
abbrev jF:Stmt:=top 53
structure Ad where
 aJ:Addr
 cE:Addr
 bF:Addr
 en:Addr
 eK:Addr
 bO:Addr
 eW:Addr
 iV:Addr
 gM:Addr
 gN:Addr
 aY:Addr
 aE:Addr
 aC:Addr
 aU:Addr
 aa:Addr
 aj:Addr
 aB:FuncData
 cG:Addr
 fL:FuncData
 cH:Addr
 fM:FuncData
 b9:Addr
 e9:FuncData
 cb:Addr
 fe:FuncData
 dq:Addr
 gu:FuncData
 bg:Addr
 cV:FuncData
 cI:Addr
 fN:FuncData
 cJ:Addr
 fO:FuncData
 eF:Addr
 ja:FuncData
 dW:Addr
 i6:FuncData
 da:Addr
 gO:FuncData
 iW:Addr
 nZ:FuncData
 gQ:Addr
 lL:FuncData
 b5:Addr
 fP:FuncData
 bo:Addr
 cz:FuncData
 cZ:Addr
 hU:FuncData
 cA:Addr
 gv:FuncData
 cK:Addr
 gW:FuncData
 dA:Addr
 gX:FuncData
 cB:Addr
 fq:FuncData
 bP:Addr
 dP:FuncData
 eZ:Addr
 iu:FuncData
 gJ:Addr
 kI:FuncData
 eX:Addr
 i7:FuncData
 eR:Addr
 iA:FuncData
 fQ:Addr
 jK:FuncData
 aZ:Addr
 cc:FuncData
 bT:Addr
 eL:FuncData
 dB:Addr
 gY:FuncData
 b6:Addr
 ft:FuncData
 cp:Addr
 gg:FuncData
 dC:Addr
 gZ:FuncData
 fE:Addr
 kJ:FuncData
 bU:Addr
 eN:FuncData
 dD:Addr
 g4:FuncData
 cP:Addr
 gB:FuncData
 bH:Addr
 eh:FuncData
 cq:Addr
 gh:FuncData
 cC:Addr
 iD:FuncData
 b7:Addr
 g5:FuncData
 fY:Addr
 lU:FuncData
 eS:Addr
 kK:FuncData
 fZ:Addr
 lV:FuncData
 f7:Addr
 lW:FuncData
 dS:Addr
 jL:FuncData
 f9:Addr
 lX:FuncData
 bQ:Addr
 gC:FuncData
 gb:Addr
 lY:FuncData
 bE:Addr
 gi:FuncData
 de:Addr
 iK:FuncData
 aM:Addr
 cO:FuncData
 bc:Addr
 eB:FuncData
 bt:Addr
 eG:FuncData
 eO:Addr
 jM:FuncData
 bV:Addr
 eP:FuncData
 dE:Addr
 g7:FuncData
 dF:Addr
 g9:FuncData
 eI:Addr
 jb:FuncData
 dQ:Addr
 iN:FuncData
 dr:Addr
 ib:FuncData
 cL:Addr
 fR:FuncData
 bB:Addr
 cQ:FuncData
 cR:Addr
 gD:FuncData
 dZ:Addr
 iE:FuncData
 bw:Addr
 dw:FuncData
 cS:Addr
 gE:FuncData
 cT:Addr
 gF:FuncData
 bX:Addr
 eC:FuncData
 bh:Addr
 cW:FuncData
 bY:Addr
 eE:FuncData
 b8:Addr
 fu:FuncData
 cu:Addr
 gj:FuncData
 dG:Addr
 hG:FuncData
 dH:Addr
 hJ:FuncData
 cU:Addr
 gG:FuncData
 dX:Addr
 i8:FuncData
 gK:Addr
 lZ:FuncData
 fF:Addr
 kL:FuncData
 gc:Addr
 j3:FuncData
 gf:Addr
 j4:FuncData
 gL:Addr
 l7:FuncData
 cM:Addr
 kM:FuncData
 fG:Addr
 kN:FuncData
 eU:Addr
 jv:FuncData
 cf:Addr
 gH:FuncData
 vo:Addr
 Me:FuncData
 Fs:Tok
 mU:Tok
 lM:Tok
 mV:Tok
 mW:Tok
 mX:Tok
 kA:Tok
structure Txt (K:W.Frag) (mg:Str→Option Value) (D:Ad):Prop where
 h:∃ cd,iX K D.aJ cd
 mH:mg "HeapError" = some (.ref D.aJ)
 l8:mg "BadCount" = some (.ref D.cE)
 oW:Lj K D.cE
 l9:MkX K D.cE D.aj
 UD:PySem.W.kitOne K (.ref D.cE) (.type "ValueError")=some true
 HB:∃ cd,iX K D.cE cd∧cd.mro.contains (.ref D.aJ)=true
 Kb:Meth K D.cE "called" D.cb
 xU:mg "BadHand" = some (.ref D.bF)
 j1:Lj K D.bF
 xV:MkX K D.bF D.aj
 U9:PySem.W.kitOne K (.ref D.bF) (.type "ValueError")=some true
 Kc:∃ cd,iX K D.bF cd∧cd.mro.contains (.ref D.aJ)=true
 Mf:Meth K D.bF "called" D.cG
 Mg:mg "BadName" = some (.ref D.en)
 xW:Lj K D.en
 Mh:MkX K D.en D.aj
 Va:PySem.W.kitOne K (.ref D.en) (.type "ValueError")=some true
 Kd:∃ cd,iX K D.en cd∧cd.mro.contains (.ref D.aJ)=true
 Mi:Meth K D.en "called" D.cH
 Ke:mg "BadField" = some (.ref D.eK)
 uf:Lj K D.eK
 Kf:MkX K D.eK D.aj
 UE:PySem.W.kitOne K (.ref D.eK) (.type "ValueError")=some true
 HC:∃ cd,iX K D.eK cd∧cd.mro.contains (.ref D.aJ)=true
 Kg:Meth K D.eK "called" D.b9
 DN:mg "TooManyWords" = some (.ref D.bO)
 rC:Lj K D.bO
 DO:MkX K D.bO D.aj
 OV:PySem.W.kitOne K (.ref D.bO) (.type "ValueError")=some true
 Bm:∃ cd,iX K D.bO cd∧cd.mro.contains (.ref D.aJ)=true
 DP:Meth K D.bO "called" D.bg
 Mj:mg "BadView" = some (.ref D.eW)
 Ml:Lj K D.eW
 Mm:MkX K D.eW D.aj
 Vb:PySem.W.kitOne K (.ref D.eW) (.type "ValueError")=some true
 UG:∃ cd,iX K D.eW cd∧cd.mro.contains (.ref D.aJ)=true
 Vc:Meth K D.eW "called" D.eF
 Oy:mg "NoRoom" = some (.ref D.iV)
 Hj:Lj K D.iV
 Oz:MkX K D.iV D.aj
 Yw:PySem.W.kitOne K (.ref D.iV) (.type "ValueError")=some true
 Mn:∃ cd,iX K D.iV cd∧cd.mro.contains (.ref D.aJ)=true
 OA:Meth K D.iV "called" D.dq
 Mo:mg "RoundOn" = some (.ref D.gM)
 Ft:Lj K D.gM
 Mp:MkX K D.gM D.aj
 Vd:PySem.W.kitOne K (.ref D.gM) (.type "ValueError")=some true
 Kh:∃ cd,iX K D.gM cd∧cd.mro.contains (.ref D.aJ)=true
 Mq:Meth K D.gM "called" D.cI
 Mr:mg "NoRound" = some (.ref D.gN)
 Fu:Lj K D.gN
 Ms:MkX K D.gN D.aj
 Ve:PySem.W.kitOne K (.ref D.gN) (.type "ValueError")=some true
 Ki:∃ cd,iX K D.gN cd∧cd.mro.contains (.ref D.aJ)=true
 Mt:Meth K D.gN "called" D.cJ
 PM:mg "Hands" = some (.ref D.aY)
 aV:Cls K D.aY
 FW:Mk K D.aY D.dA
 cv:e7 K D.aY "words_held"
 lD:Meth K D.aY "word_in" D.cB
 jX:Meth K D.aY "all_words" D.bP
 mY:Meth K D.aY "put" D.eZ
 Ga:Meth K D.aY "copy" D.gJ
 DQ:Meth K D.aY "number" D.eX
 pG:Meth K D.aY "kind" D.eR
 EC:Meth K D.aY "value" D.fQ
 gk:Meth K D.aY "thing_due" D.aZ
 HD:mg "WordTable" = some (.ref D.aE)
 bG:Cls K D.aE
 qS:Mk K D.aE D.bT
 bj:e7 K D.aE "words_borne"
 hW:e7 K D.aE "words_said"
 x9:Meth K D.aE "bear" D.dB
 sO:Meth K D.aE "word_of" D.b6
 uj:Meth K D.aE "settle" D.cp
 ya:Meth K D.aE "said" D.dC
 HE:mg "NameTable" = some (.ref D.aC)
 dU:Cls K D.aC
 qT:Mk K D.aC D.bU
 b4:e7 K D.aC "things_named"
 yc:Meth K D.aC "name" D.dD
 vV:Meth K D.aC "named" D.cP
 ql:Meth K D.aC "all_named" D.bH
 uk:Meth K D.aC "settle" D.cq
 RR:mg "Heap" = some (.ref D.aU)
 aa3:Cls K D.aU
 Nx:Mk K D.aU D.cC
 LQ:e7 K D.aU "makes_young"
 OW:e7 K D.aU "in_hands"
 MP:e7 K D.aU "weak_names"
 MQ:e7 K D.aU "last_words"
 LR:e7 K D.aU "fields_held"
 Lm:e7 K D.aU "young_things"
 MR:e7 K D.aU "next_thing"
 MS:Meth K D.aU "add_thing" D.b7
 Ra:Meth K D.aU "load" D.fY
 Qy:Meth K D.aU "store" D.eS
 Rb:Meth K D.aU "copy" D.fZ
 Rf:Meth K D.aU "drop" D.f7
 Pa:Meth K D.aU "number" D.dS
 Rg:Meth K D.aU "name" D.f9
 LS:Meth K D.aU "read_thing" D.bQ
 Rh:Meth K D.aU "word" D.gb
 Ln:Meth K D.aU "small_round" D.bE
 Pb:Meth K D.aU "let_go" D.de
 JF:Meth K D.aU "look_at_held" D.aM
 Lo:Meth K D.aU "words_among" D.bc
 MT:Meth K D.aU "led_among" D.bt
 RS:U4 K D.aU "__init__" D.cC
 HG:mg "IdealHeap" = some (.ref D.aa)
 ae:Cls K D.aa
 qU:Mk K D.aa D.bV
 gT:e7 K D.aa "makes_young"
 ay:e7 K D.aa "in_hands"
 dN:e7 K D.aa "weak_names"
 dO:e7 K D.aa "last_words"
 az:e7 K D.aa "fields_held"
 aX:e7 K D.aa "young_things"
 fB:e7 K D.aa "next_thing"
 j8:e7 K D.aa "young_room"
 oy:e7 K D.aa "limit"
 aT:e7 K D.aa "doomed_things"
 dz:e7 K D.aa "in_round"
 qm:Meth K D.aa "add_thing" D.b7
 yd:Meth K D.aa "load" D.fY
 vW:Meth K D.aa "store" D.eS
 ye:Meth K D.aa "copy" D.fZ
 yh:Meth K D.aa "drop" D.f7
 um:Meth K D.aa "number" D.dS
 yi:Meth K D.aa "name" D.f9
 pL:Meth K D.aa "read_thing" D.bQ
 yj:Meth K D.aa "word" D.gb
 oN:Meth K D.aa "small_round" D.bE
 mJ:Meth K D.aa "let_go" D.de
 gq:Meth K D.aa "look_at_held" D.aM
 jG:Meth K D.aa "words_among" D.bc
 hX:Meth K D.aa "led_among" D.bt
 yl:Meth K D.aa "make" D.dE
 ym:Meth K D.aa "read" D.dF
 MU:Meth K D.aa "kind" D.eI
 LU:Meth K D.aa "value" D.dQ
 Lp:Meth K D.aa "fields" D.dr
 oz:Meth K D.aa "held" D.cL
 ic:Meth K D.aa "small" D.bB
 vX:Meth K D.aa "begin" D.cR
 Bn:Meth K D.aa "end" D.dZ
 kW:Meth K D.aa "round_on" D.bw
 vY:Meth K D.aa "hands" D.cS
 vZ:Meth K D.aa "names" D.cT
 mK:Meth K D.aa "things" D.bX
 j9:Meth K D.aa "fields_of" D.bh
 mL:Meth K D.aa "is_old" D.bY
 sP:Meth K D.aa "word_of" D.b8
 uo:Meth K D.aa "doomed" D.cu
 yo:Meth K D.aa "said" D.dG
 yp:Meth K D.aa "made" D.dH
 v7:Meth K D.aa "spare" D.cU
 ED:mg "number_value" = some (.ref D.dW)
 nS:PySem.W.keepIn K (.ref D.dW)=true
 pH:mg "thing_value" = some (.ref D.da)
 jN:PySem.W.keepIn K (.ref D.da)=true
 Hk:mg "kind_of" = some (.ref D.iW)
 vp:PySem.W.keepIn K (.ref D.iW)=true
 Fv:mg "words_of" = some (.ref D.gQ)
 rE:PySem.W.keepIn K (.ref D.gQ)=true
 qa:mg "look_at_number" = some (.ref D.b5)
 jc:PySem.W.keepIn K (.ref D.b5)=true
 gp:mg "look_at_hand" = some (.ref D.bo)
 dY:PySem.W.keepIn K (.ref D.bo)=true
 tU:mg "look_at_name" = some (.ref D.cZ)
 kB:PySem.W.keepIn K (.ref D.cZ)=true
 rF:mg "look_at_field" = some (.ref D.cA)
 jP:PySem.W.keepIn K (.ref D.cA)=true
 Bo:mg "look_at_limits" = some (.ref D.cK)
 lE:PySem.W.keepIn K (.ref D.cK)=true
 HH:mg "last_steps" = some (.ref D.fE)
 qV:PySem.W.keepIn K (.ref D.fE)=true
 vH:mg "thing_among" = some (.ref D.eO)
 lN:PySem.W.keepIn K (.ref D.eO)=true
 EE:mg "_law_numbers" = some (.ref D.dX)
 nU:PySem.W.keepIn K (.ref D.dX)=true
 Kj:mg "_law_deed" = some (.ref D.gK)
 ug:PySem.W.keepIn K (.ref D.gK)=true
 HI:mg "_law_plain" = some (.ref D.fF)
 qW:PySem.W.keepIn K (.ref D.fF)=true
 oX:mg "_law_done" = some (.ref D.gc)
 j5:PySem.W.keepIn K (.ref D.gc)=true
 me:mg "_law_told" = some (.ref D.gf)
 i9:PySem.W.keepIn K (.ref D.gf)=true
 Dv:mg "_law_heap" = some (.ref D.gL)
 oY:PySem.W.keepIn K (.ref D.gL)=true
 HJ:mg "_law_deeds" = some (.ref D.cM)
 qX:PySem.W.keepIn K (.ref D.cM)=true
 HK:mg "_law_sizes" = some (.ref D.fG)
 qY:PySem.W.keepIn K (.ref D.fG)=true
 qZ:mg "_law_words" = some (.ref D.eU)
 kO:PySem.W.keepIn K (.ref D.eU)=true
 yq:mg "_law_make_right" = some (.ref D.cf)
 ku:PySem.W.keepIn K (.ref D.cf)=true
 ad8:mg "law" = some (.ref D.vo)
 Vf:PySem.W.keepIn K (.ref D.vo)=true
 vq:mg "len" = none
 Fw:mg "range" = none
 vI:mg "list" = none
 uq:mg "sorted" = none
 OX:mg "sum" = none
 Q5:mg "abs" = none
 mh:mg "enumerate" = none
 ra:mg "ValueError" = none
 Fx:mg "HANDS" = some (.int 8 D.Fs)
 mZ:mg "WEAK_NAMES" = some (.int 8 D.mU)
 pI:mg "MOST_FIELDS" = some (.int 6 D.lM)
 m7:mg "LEAST_ROOM" = some (.int 7 D.mV)
 rf:mg "MOST_YOUNG" = some (.int 64 D.mW)
 rg:mg "MOST_LIMIT" = some (.int 400 D.mX)
 kC:mg "MOST_BEARERS" = some (.int 12 D.kA)
structure Ok (P:Program) (w:World) (K:W.Frag) (mg:Str→Option Value) (base:Heap) (n:Nat) (f:Addr) (fd:FuncData) (ps:List Str) (sp:Sp):Prop where
 g:Bi P w K mg base (CXE P w) n f fd ps sp
 b:Binds K fd ps []
end K12
end
section
namespace K12
open PySem L2 LX
inductive Wd where
 | no
 | num (x:Int)
 | th (t:Int)
 deriving DecidableEq
def Wd.kind:Wd→Str
 | .no => "none"
 | .num _ => "number"
 | .th _ => "thing"
def Wd.vl:Wd→Vl
 | .no=>.a .non
 | .num x=>.t [.a (.str "number"),.a (.int x)]
 | .th t=>.t [.a (.str "thing"),.a (.int t)]
def WV (H:Hp) (v:V):Wd→Prop
 | .no=>v=.non
 | .num x=>∃ t,v=.ref t∧H t=some (.tup [.str "number",.int x])
 | .th x=>∃ t,v=.ref t∧H t=some (.tup [.str "thing",.int x])
def fD (H H':Hp):Prop:=∀ t us,H t=some (.tup us)→H' t=some (.tup us)
theorem fD.of {H H':Hp} (s:aD H H'):fD H H':=fun t us q=>s _ _ q
theorem fD.trans {H H1 H2:Hp} (a:fD H H1) (b:fD H1 H2):fD H H2:=fun t us q=>b t us (a t us q)
theorem fD.set {H:Hp} {c:Addr} {u o:HO} (h:H c=some u) (n:∀ xs,u≠.tup xs):fD H (upd H c o):=fun t us q=>by
 rw [af fun e=>by rw [e,h] at q;exact n us (Option.some.inj q)]
 exact q
theorem WV.keep {H H':Hp} {v:V} {w:Wd} (h:WV H v w) (s:fD H H'):WV H' v w:=by
 cases w with
 | no=>exact h
 | num n=>obtain ⟨t,e,q⟩:=h;exact ⟨t,e,s _ _ q⟩
 | th n=>obtain ⟨t,e,q⟩:=h;exact ⟨t,e,s _ _ q⟩
theorem M7 {H:Hp} {t:Addr} {z:Str} {n:Int} (h:H t=some (.tup [.str z,.int n])):Rp H 1 (.ref t) (.t [.a (.str z),.a (.int n)]):=by
 refine ⟨t,_,rfl,h,rfl,fun i u x h1 h2=>?_⟩
 match i,h1,h2 with
 | 0,h1,h2=>cases h1;cases h2;exact ⟨rfl,rfl⟩
 | 1,h1,h2=>cases h1;cases h2;exact ⟨rfl,rfl⟩
 | i+2,h1,_=>simp at h1
theorem WV.rp {H:Hp} {v:V} {w:Wd} (h:WV H v w):Rp H 1 v w.vl:=by
 cases w with
 | no=>exact ⟨h,rfl⟩
 | num n=>obtain ⟨t,rfl,q⟩:=h;exact M7 q
 | th n=>obtain ⟨t,rfl,q⟩:=h;exact M7 q
def Rel (H:Hp) (xs:List V) (ws:List Wd):Prop:=xs.length=ws.length∧∀ (i:Nat) (v:V) (w:Wd),xs[i]?=some v→ws[i]?=some w→WV H v w
theorem Rel.keep {H H':Hp} {xs:List V} {ws:List Wd} (h:Rel H xs ws) (s:fD H H'):Rel H' xs ws:=⟨h.1,fun i v w a b=>(h.2 i v w a b).keep s⟩
theorem Rel.get {H:Hp} {xs:List V} {ws:List Wd} (h:Rel H xs ws) {i:Nat} (hi:i<ws.length):∃ v,xs[i]?=some v∧WV H v ws[i] :=
 ⟨_,List.getElem?_eq_getElem (by rw [h.1];exact hi),h.2 i _ _ (List.getElem?_eq_getElem (by rw [h.1];exact hi)) (List.getElem?_eq_getElem hi)⟩
theorem Rel.set {H:Hp} {xs:List V} {ws:List Wd} {i:Nat} {v:V} {w:Wd} (h:Rel H xs ws) (hv:WV H v w):Rel H (xs.set i v) (ws.set i w):=by
 refine ⟨by rw [List.length_set,List.length_set];exact h.1,fun j u y a b=>?_⟩
 rw [List.getElem?_set] at a b
 by_cases e:i=j
 ·subst e
  simp only [if_true] at a b
  split at a
  ·split at b
   ·cases a;cases b;exact hv
   ·cases b
  ·cases a
 ·rw [if_neg e] at a b
  exact h.2 j u y a b
theorem Rel.nil {H:Hp} {n:Nat}:Rel H (List.replicate n .non) (List.replicate n .no):=⟨by simp,fun i v w a b=>by
 rw [List.eq_of_mem_replicate (List.mem_of_getElem? a),List.eq_of_mem_replicate (List.mem_of_getElem? b)]
 rfl⟩
def nmV:Option Int→V
 | none=>.non
 | some t=>.int t
structure HS where
 my:Bool
 bK:List Wd
 names:List (Option Int)
 bp:List (Int×Int)
 qb:List Int
 aN:List (Int×List Wd)
 yng:List Int
 nxt:Int
 room:Int
 limit:Int
 dI:List Int
 rnd:Bool
structure HA where
 dx:Addr
 hd:Addr
 hdx:Addr
 hl:Addr
 hx:List V
 nt:Addr
 ntx:Addr
 nl:Addr
 wt:Addr
 wtx:Addr
 wb:Addr
 wl:Addr
 fh:Addr
 fa:Int→Addr
 fx:Int→List V
 yg:Addr
 dm:Addr
def atts (A:HA) (s:HS):List (Str×V):=[("makes_young",.bl s.my),("in_hands",.ref A.hd),("weak_names",.ref A.nt),("last_words",.ref A.wt),("fields_held",.ref A.fh),("young_things",.ref A.yg),("next_thing",.int s.nxt),("young_room",.int s.room),("limit",.int s.limit),("doomed_things",.ref A.dm),("in_round",.bl s.rnd)]
theorem Vg {A:HA} {s:HS}:(atts A s).lookup ("makes_young" : Str)=some (.bl s.my):=by kernel_rfl
theorem m9 {A:HA} {s:HS}:(atts A s).lookup ("in_hands" : Str)=some (.ref A.hd):=by kernel_rfl
theorem OY {A:HA} {s:HS}:(atts A s).lookup ("weak_names" : Str)=some (.ref A.nt):=by kernel_rfl
theorem OZ {A:HA} {s:HS}:(atts A s).lookup ("last_words" : Str)=some (.ref A.wt):=by kernel_rfl
theorem qi {A:HA} {s:HS}:(atts A s).lookup ("fields_held" : Str)=some (.ref A.fh):=by kernel_rfl
theorem JG {A:HA} {s:HS}:(atts A s).lookup ("young_things" : Str)=some (.ref A.yg):=by kernel_rfl
theorem Vh {A:HA} {s:HS}:(atts A s).lookup ("next_thing" : Str)=some (.int s.nxt):=by kernel_rfl
theorem abC {A:HA} {s:HS}:(atts A s).lookup ("young_room" : Str)=some (.int s.room):=by kernel_rfl
theorem abD {A:HA} {s:HS}:(atts A s).lookup ("limit" : Str)=some (.int s.limit):=by kernel_rfl
theorem JH {A:HA} {s:HS}:(atts A s).lookup ("doomed_things" : Str)=some (.ref A.dm):=by kernel_rfl
theorem Q7 {A:HA} {s:HS}:(atts A s).lookup ("in_round" : Str)=some (.bl s.rnd):=by kernel_rfl
theorem abE {A:HA} {s:HS} {n:Int}:iB "next_thing" (.int n) (atts A s)=atts A {s with nxt:=n}:=by kernel_rfl
theorem abF {A:HA} {s:HS} {b:Bool}:iB "in_round" (.bl b) (atts A s)=atts A {s with rnd:=b}:=by kernel_rfl
theorem abG {A:HA} {s:HS} {a:Addr}:iB "young_things" (.ref a) (atts A s)=atts {A with yg:=a} s:=by kernel_rfl
theorem abH {A:HA} {s:HS} {a:Addr}:iB "doomed_things" (.ref a) (atts A s)=atts {A with dm:=a} s:=by kernel_rfl
def bkv (p:Int×Int):Key×V:=(Sum.inl p.1,.int p.2)
def tkv (t:Int):Key×V:=(Sum.inl t,.bl true)
def fkv (A:HA) (p:Int×List Wd):Key×V:=(Sum.inl p.1,.ref (A.fa p.1))
structure IH (D:Ad) (H:Hp) (x:Addr) (A:HA) (s:HS):Prop where
 ax:H x=some (.ins D.aa A.dx (atts A s))
 ahd:H A.hd=some (.ins D.aY A.hdx [("words_held",.ref A.hl)])
 ahl:H A.hl=some (.lst A.hx)
 rhl:Rel H A.hx s.bK
 ant:H A.nt=some (.ins D.aC A.ntx [("things_named",.ref A.nl)])
 anl:H A.nl=some (.lst (s.names.map nmV))
 awt:H A.wt=some (.ins D.aE A.wtx [("words_borne",.ref A.wb),("words_said",.ref A.wl)])
 awb:H A.wb=some (.dK (s.bp.map bkv))
 awl:H A.wl=some (.lst (s.qb.map V.int))
 afh:H A.fh=some (.dK (s.aN.map (fkv A)))
 afl:∀ t ws,(t,ws)∈s.aN→H (A.fa t)=some (.lst (A.fx t))∧Rel H (A.fx t) ws
 ayg:H A.yg=some (.dK (s.yng.map tkv))
 adm:H A.dm=some (.dK (s.dI.map tkv))
 nhn:A.hd≠A.nt
 l1:A.hl≠A.nl
 l2:A.hl≠A.wl
 l3:A.nl≠A.wl
 l4:∀ t ws,(t,ws)∈s.aN→A.fa t≠A.hl∧A.fa t≠A.nl∧A.fa t≠A.wl
 l5:∀ t ws t' ws',(t,ws)∈s.aN→(t',ws')∈s.aN→A.fa t=A.fa t'→t=t'
 d1:A.wb≠A.fh
 d2:A.wb≠A.yg
 d3:A.wb≠A.dm
 d4:A.fh≠A.yg
 d5:A.fh≠A.dm
 d6:A.yg≠A.dm
inductive aS (x:Addr) (A:HA) (s:HS):Addr→Prop where
 | x:aS x A s x
 | hd:aS x A s A.hd
 | hl:aS x A s A.hl
 | nt:aS x A s A.nt
 | nl:aS x A s A.nl
 | wt:aS x A s A.wt
 | wb:aS x A s A.wb
 | wl:aS x A s A.wl
 | fh:aS x A s A.fh
 | yg:aS x A s A.yg
 | dm:aS x A s A.dm
 | fl {t:Int} {ws:List Wd}:(t,ws)∈s.aN→aS x A s (A.fa t)
theorem lO {C d C' d':Addr} {fs gs:List (Str×V)} (h:fs.length≠gs.length):HO.ins C d fs≠HO.ins C' d' gs:=fun e=>by
 injection e with _ _ e
 exact h (congrArg List.length e)
section
variable {D:Ad} {H H' H1 H2:Hp} {x:Addr} {A A':HA} {s s':HS}
theorem IH.is (J:IH D H x A s) {b:Addr} (f:aS x A s b):∃ u,H b=some u∧∀ xs,u≠.tup xs:=by
 cases f with
 | x=>exact ⟨_,J.ax,fun _ z=>nomatch z⟩
 | hd=>exact ⟨_,J.ahd,fun _ z=>nomatch z⟩
 | hl=>exact ⟨_,J.ahl,fun _ z=>nomatch z⟩
 | nt=>exact ⟨_,J.ant,fun _ z=>nomatch z⟩
 | nl=>exact ⟨_,J.anl,fun _ z=>nomatch z⟩
 | wt=>exact ⟨_,J.awt,fun _ z=>nomatch z⟩
 | wb=>exact ⟨_,J.awb,fun _ z=>nomatch z⟩
 | wl=>exact ⟨_,J.awl,fun _ z=>nomatch z⟩
 | fh=>exact ⟨_,J.afh,fun _ z=>nomatch z⟩
 | yg=>exact ⟨_,J.ayg,fun _ z=>nomatch z⟩
 | dm=>exact ⟨_,J.adm,fun _ z=>nomatch z⟩
 | fl m=>exact ⟨_,(J.afl _ _ m).1,fun _ z=>nomatch z⟩
theorem IH.keep (J:IH D H x A s) (k:∀ b u,aS x A s b→H b=some u→H' b=some u) (t:fD H H'):IH D H' x A s :=
 ⟨k _ _ .x J.ax,k _ _ .hd J.ahd,k _ _ .hl J.ahl,J.rhl.keep t,k _ _ .nt J.ant,k _ _ .nl J.anl,k _ _ .wt J.awt,k _ _ .wb J.awb,k _ _ .wl J.awl,k _ _ .fh J.afh,fun u ws m=>⟨k _ _ (.fl m) (J.afl _ _ m).1,(J.afl _ _ m).2.keep t⟩,k _ _ .yg J.ayg,k _ _ .dm J.adm,
  J.nhn,J.l1,J.l2,J.l3,J.l4,J.l5,J.d1,J.d2,J.d3,J.d4,J.d5,J.d6⟩
theorem IH.same (J:IH D H x A s) (k:aD H H'):IH D H' x A s:=J.keep (fun _ _ _ q=>k _ _ q) (fD.of k)
structure Fr (F:Addr→Prop) (H:Hp) (F':Addr→Prop) (H':Hp):Prop where
 ext:∀ b u,¬F b→H b=some u→H' b=some u
 grow:∀ b,F' b→F b∨H b=none
 all:∀ b u,H b=some u→∃ u',H' b=some u'
 tup:fD H H'
variable {F F' F1 F2:Addr→Prop}
theorem Fr.trans (a:Fr F H F1 H1) (b:Fr F1 H1 F2 H2):Fr F H F2 H2 where
 ext:=fun c u n q=>b.ext c u (fun f=>(a.grow c f).elim n fun e=>by rw [e] at q;cases q) (a.ext c u n q)
 grow:=fun c f=>(b.grow c f).elim (fun f1=>a.grow c f1) fun e=>by
  cases q:H c with
  | none=>exact .inr rfl
  | some u=>obtain ⟨u',q'⟩:=a.all c u q;rw [e] at q';cases q'
 all:=fun c u q=>by obtain ⟨u',q'⟩:=a.all c u q;exact b.all c u' q'
 tup:=a.tup.trans b.tup
theorem Fr.same (k:aD H H'):Fr F H F H':=⟨fun _ _ _ q=>k _ _ q,fun _ f=>.inl f,fun b u q=>⟨u,k _ _ q⟩,fD.of k⟩
theorem Fr.refl:Fr F H F H:=Fr.same fun _ _ q=>q
theorem Fr.none (a:Fr F H F' H') {b:Addr} (h:H' b=none):H b=none:=by
 cases q:H b with
 | none=>rfl
 | some u=>obtain ⟨u',q'⟩:=a.all b u q;rw [h] at q';cases q'
theorem Fr.set {b:Addr} {u o:HO} (f:F b) (hb:H b=some u) (n:∀ xs,u≠.tup xs) (g:∀ c,F' c→F c):Fr F H F' (upd H b o) where
 ext:=fun c v nf q=>by rw [af fun e=>nf (by rw [e];exact f)];exact q
 grow:=fun c f=>.inl (g c f)
 all:=fun c v q=>by
  by_cases e:c=b
  ·exact ⟨o,by rw [e];exact ah⟩
  ·exact ⟨v,by rw [af e];exact q⟩
 tup:=fD.set hb n
theorem Fr.out (a:Fr F H F' H') {b:Addr} {u:HO} (n:¬F b) (q:H b=some u):H' b=some u∧¬F' b:=⟨a.ext b u n q,fun f=>(a.grow b f).elim n fun e=>by rw [e] at q;cases q⟩
theorem IH.O7 (J:IH D H x A s) {xs:List V} {ws:List Wd} (r:Rel H xs ws):IH D (upd H A.hl (.lst xs)) x {A with hx:=xs} {s with bK:=ws}∧Fr (aS x A s) H (aS x {A with hx:=xs} {s with bK:=ws}) (upd H A.hl (.lst xs)):=by
 have tk:fD H (upd H A.hl (.lst xs)):=fD.set J.ahl (fun _ z=>nomatch z)
 refine ⟨⟨(by rw [af (aw J.ax J.ahl (by intro z;cases z))];exact J.ax),(by rw [af (aw J.ahd J.ahl (by intro z;cases z))];exact J.ahd),ah,r.keep tk,(by rw [af (aw J.ant J.ahl (by intro z;cases z))];exact J.ant),(by rw [af (Ne.symm J.l1)];exact J.anl),(by rw [af (aw J.awt J.ahl (by intro z;cases z))];exact J.awt),(by rw [af (aw J.awb J.ahl (by intro z;cases z))];exact J.awb),(by rw [af (Ne.symm J.l2)];exact J.awl),(by rw [af (aw J.afh J.ahl (by intro z;cases z))];exact J.afh),(fun t ws m=>⟨by rw [af (J.l4 _ _ m).1];exact (J.afl _ _ m).1,(J.afl _ _ m).2.keep tk⟩),(by rw [af (aw J.ayg J.ahl (by intro z;cases z))];exact J.ayg),(by rw [af (aw J.adm J.ahl (by intro z;cases z))];exact J.adm),J.nhn,J.l1,J.l2,J.l3,J.l4,J.l5,J.d1,J.d2,J.d3,J.d4,J.d5,J.d6⟩,Fr.set .hl J.ahl (fun _ z=>nomatch z) (fun c f=>?_)⟩
 cases f with
 | x=>exact .x
 | hd=>exact .hd
 | hl=>exact .hl
 | nt=>exact .nt
 | nl=>exact .nl
 | wt=>exact .wt
 | wb=>exact .wb
 | wl=>exact .wl
 | fh=>exact .fh
 | yg=>exact .yg
 | dm=>exact .dm
 | fl m=>exact .fl m
theorem IH.adF (J:IH D H x A s) {ns:List (Option Int)}:IH D (upd H A.nl (.lst (ns.map nmV))) x A {s with names:=ns}∧Fr (aS x A s) H (aS x A {s with names:=ns}) (upd H A.nl (.lst (ns.map nmV))):=by
 have tk:fD H (upd H A.nl (.lst (ns.map nmV))):=fD.set J.anl (fun _ z=>nomatch z)
 refine ⟨⟨(by rw [af (aw J.ax J.anl (by intro z;cases z))];exact J.ax),(by rw [af (aw J.ahd J.anl (by intro z;cases z))];exact J.ahd),(by rw [af J.l1];exact J.ahl),J.rhl.keep tk,(by rw [af (aw J.ant J.anl (by intro z;cases z))];exact J.ant),ah,(by rw [af (aw J.awt J.anl (by intro z;cases z))];exact J.awt),(by rw [af (aw J.awb J.anl (by intro z;cases z))];exact J.awb),(by rw [af (Ne.symm J.l3)];exact J.awl),(by rw [af (aw J.afh J.anl (by intro z;cases z))];exact J.afh),(fun t ws m=>⟨by rw [af (J.l4 _ _ m).2.1];exact (J.afl _ _ m).1,(J.afl _ _ m).2.keep tk⟩),(by rw [af (aw J.ayg J.anl (by intro z;cases z))];exact J.ayg),(by rw [af (aw J.adm J.anl (by intro z;cases z))];exact J.adm),J.nhn,J.l1,J.l2,J.l3,J.l4,J.l5,J.d1,J.d2,J.d3,J.d4,J.d5,J.d6⟩,Fr.set .nl J.anl (fun _ z=>nomatch z) (fun c f=>?_)⟩
 cases f with
 | x=>exact .x
 | hd=>exact .hd
 | hl=>exact .hl
 | nt=>exact .nt
 | nl=>exact .nl
 | wt=>exact .wt
 | wb=>exact .wb
 | wl=>exact .wl
 | fh=>exact .fh
 | yg=>exact .yg
 | dm=>exact .dm
 | fl m=>exact .fl m
theorem IH.ab5 (J:IH D H x A s) {bs:List (Int×Int)}:IH D (upd H A.wb (.dK (bs.map bkv))) x A {s with bp:=bs}∧Fr (aS x A s) H (aS x A {s with bp:=bs}) (upd H A.wb (.dK (bs.map bkv))):=by
 have tk:fD H (upd H A.wb (.dK (bs.map bkv))):=fD.set J.awb (fun _ z=>nomatch z)
 refine ⟨⟨(by rw [af (aw J.ax J.awb (by intro z;cases z))];exact J.ax),(by rw [af (aw J.ahd J.awb (by intro z;cases z))];exact J.ahd),(by rw [af (aw J.ahl J.awb (by intro z;cases z))];exact J.ahl),J.rhl.keep tk,(by rw [af (aw J.ant J.awb (by intro z;cases z))];exact J.ant),(by rw [af (aw J.anl J.awb (by intro z;cases z))];exact J.anl),(by rw [af (aw J.awt J.awb (by intro z;cases z))];exact J.awt),ah,(by rw [af (aw J.awl J.awb (by intro z;cases z))];exact J.awl),(by rw [af (Ne.symm J.d1)];exact J.afh),(fun t ws m=>⟨by rw [af (aw (J.afl _ _ m).1 J.awb (by intro z;cases z))];exact (J.afl _ _ m).1,(J.afl _ _ m).2.keep tk⟩),(by rw [af (Ne.symm J.d2)];exact J.ayg),(by rw [af (Ne.symm J.d3)];exact J.adm),J.nhn,J.l1,J.l2,J.l3,J.l4,J.l5,J.d1,J.d2,J.d3,J.d4,J.d5,J.d6⟩,Fr.set .wb J.awb (fun _ z=>nomatch z) (fun c f=>?_)⟩
 cases f with
 | x=>exact .x
 | hd=>exact .hd
 | hl=>exact .hl
 | nt=>exact .nt
 | nl=>exact .nl
 | wt=>exact .wt
 | wb=>exact .wb
 | wl=>exact .wl
 | fh=>exact .fh
 | yg=>exact .yg
 | dm=>exact .dm
 | fl m=>exact .fl m
theorem IH.adG (J:IH D H x A s) {zs:List Int}:IH D (upd H A.wl (.lst (zs.map V.int))) x A {s with qb:=zs}∧Fr (aS x A s) H (aS x A {s with qb:=zs}) (upd H A.wl (.lst (zs.map V.int))):=by
 have tk:fD H (upd H A.wl (.lst (zs.map V.int))):=fD.set J.awl (fun _ z=>nomatch z)
 refine ⟨⟨(by rw [af (aw J.ax J.awl (by intro z;cases z))];exact J.ax),(by rw [af (aw J.ahd J.awl (by intro z;cases z))];exact J.ahd),(by rw [af J.l2];exact J.ahl),J.rhl.keep tk,(by rw [af (aw J.ant J.awl (by intro z;cases z))];exact J.ant),(by rw [af J.l3];exact J.anl),(by rw [af (aw J.awt J.awl (by intro z;cases z))];exact J.awt),(by rw [af (aw J.awb J.awl (by intro z;cases z))];exact J.awb),ah,(by rw [af (aw J.afh J.awl (by intro z;cases z))];exact J.afh),(fun t ws m=>⟨by rw [af (J.l4 _ _ m).2.2];exact (J.afl _ _ m).1,(J.afl _ _ m).2.keep tk⟩),(by rw [af (aw J.ayg J.awl (by intro z;cases z))];exact J.ayg),(by rw [af (aw J.adm J.awl (by intro z;cases z))];exact J.adm),J.nhn,J.l1,J.l2,J.l3,J.l4,J.l5,J.d1,J.d2,J.d3,J.d4,J.d5,J.d6⟩,Fr.set .wl J.awl (fun _ z=>nomatch z) (fun c f=>?_)⟩
 cases f with
 | x=>exact .x
 | hd=>exact .hd
 | hl=>exact .hl
 | nt=>exact .nt
 | nl=>exact .nl
 | wt=>exact .wt
 | wb=>exact .wb
 | wl=>exact .wl
 | fh=>exact .fh
 | yg=>exact .yg
 | dm=>exact .dm
 | fl m=>exact .fl m
theorem IH.adH (J:IH D H x A s) {ts:List Int}:IH D (upd H A.yg (.dK (ts.map tkv))) x A {s with yng:=ts}∧Fr (aS x A s) H (aS x A {s with yng:=ts}) (upd H A.yg (.dK (ts.map tkv))):=by
 have tk:fD H (upd H A.yg (.dK (ts.map tkv))):=fD.set J.ayg (fun _ z=>nomatch z)
 refine ⟨⟨(by rw [af (aw J.ax J.ayg (by intro z;cases z))];exact J.ax),(by rw [af (aw J.ahd J.ayg (by intro z;cases z))];exact J.ahd),(by rw [af (aw J.ahl J.ayg (by intro z;cases z))];exact J.ahl),J.rhl.keep tk,(by rw [af (aw J.ant J.ayg (by intro z;cases z))];exact J.ant),(by rw [af (aw J.anl J.ayg (by intro z;cases z))];exact J.anl),(by rw [af (aw J.awt J.ayg (by intro z;cases z))];exact J.awt),(by rw [af J.d2];exact J.awb),(by rw [af (aw J.awl J.ayg (by intro z;cases z))];exact J.awl),(by rw [af J.d4];exact J.afh),(fun t ws m=>⟨by rw [af (aw (J.afl _ _ m).1 J.ayg (by intro z;cases z))];exact (J.afl _ _ m).1,(J.afl _ _ m).2.keep tk⟩),ah,(by rw [af (Ne.symm J.d6)];exact J.adm),J.nhn,J.l1,J.l2,J.l3,J.l4,J.l5,J.d1,J.d2,J.d3,J.d4,J.d5,J.d6⟩,Fr.set .yg J.ayg (fun _ z=>nomatch z) (fun c f=>?_)⟩
 cases f with
 | x=>exact .x
 | hd=>exact .hd
 | hl=>exact .hl
 | nt=>exact .nt
 | nl=>exact .nl
 | wt=>exact .wt
 | wb=>exact .wb
 | wl=>exact .wl
 | fh=>exact .fh
 | yg=>exact .yg
 | dm=>exact .dm
 | fl m=>exact .fl m
theorem IH.ab6 (J:IH D H x A s) {ts:List Int}:IH D (upd H A.dm (.dK (ts.map tkv))) x A {s with dI:=ts}∧Fr (aS x A s) H (aS x A {s with dI:=ts}) (upd H A.dm (.dK (ts.map tkv))):=by
 have tk:fD H (upd H A.dm (.dK (ts.map tkv))):=fD.set J.adm (fun _ z=>nomatch z)
 refine ⟨⟨(by rw [af (aw J.ax J.adm (by intro z;cases z))];exact J.ax),(by rw [af (aw J.ahd J.adm (by intro z;cases z))];exact J.ahd),(by rw [af (aw J.ahl J.adm (by intro z;cases z))];exact J.ahl),J.rhl.keep tk,(by rw [af (aw J.ant J.adm (by intro z;cases z))];exact J.ant),(by rw [af (aw J.anl J.adm (by intro z;cases z))];exact J.anl),(by rw [af (aw J.awt J.adm (by intro z;cases z))];exact J.awt),(by rw [af J.d3];exact J.awb),(by rw [af (aw J.awl J.adm (by intro z;cases z))];exact J.awl),(by rw [af J.d5];exact J.afh),(fun t ws m=>⟨by rw [af (aw (J.afl _ _ m).1 J.adm (by intro z;cases z))];exact (J.afl _ _ m).1,(J.afl _ _ m).2.keep tk⟩),(by rw [af J.d6];exact J.ayg),ah,J.nhn,J.l1,J.l2,J.l3,J.l4,J.l5,J.d1,J.d2,J.d3,J.d4,J.d5,J.d6⟩,Fr.set .dm J.adm (fun _ z=>nomatch z) (fun c f=>?_)⟩
 cases f with
 | x=>exact .x
 | hd=>exact .hd
 | hl=>exact .hl
 | nt=>exact .nt
 | nl=>exact .nl
 | wt=>exact .wt
 | wb=>exact .wb
 | wl=>exact .wl
 | fh=>exact .fh
 | yg=>exact .yg
 | dm=>exact .dm
 | fl m=>exact .fl m
theorem IH.adI (J:IH D H x A s) {n:Int}:IH D (upd H x (.ins D.aa A.dx (iB "next_thing" (.int n) (atts A s)))) x A {s with nxt:=n}∧Fr (aS x A s) H (aS x A {s with nxt:=n}) (upd H x (.ins D.aa A.dx (iB "next_thing" (.int n) (atts A s)))):=by
 have tk:fD H (upd H x (.ins D.aa A.dx (iB "next_thing" (.int n) (atts A s)))):=fD.set J.ax (fun _ z=>nomatch z)
 refine ⟨⟨(by rw [ah,abE]),(by rw [af (aw J.ahd J.ax (lO (show (1:Nat)≠11 by decide)))];exact J.ahd),(by rw [af (aw J.ahl J.ax (by intro z;cases z))];exact J.ahl),J.rhl.keep tk,(by rw [af (aw J.ant J.ax (lO (show (1:Nat)≠11 by decide)))];exact J.ant),(by rw [af (aw J.anl J.ax (by intro z;cases z))];exact J.anl),(by rw [af (aw J.awt J.ax (lO (show (2:Nat)≠11 by decide)))];exact J.awt),(by rw [af (aw J.awb J.ax (by intro z;cases z))];exact J.awb),(by rw [af (aw J.awl J.ax (by intro z;cases z))];exact J.awl),(by rw [af (aw J.afh J.ax (by intro z;cases z))];exact J.afh),(fun t ws m=>⟨by rw [af (aw (J.afl _ _ m).1 J.ax (by intro z;cases z))];exact (J.afl _ _ m).1,(J.afl _ _ m).2.keep tk⟩),(by rw [af (aw J.ayg J.ax (by intro z;cases z))];exact J.ayg),(by rw [af (aw J.adm J.ax (by intro z;cases z))];exact J.adm),J.nhn,J.l1,J.l2,J.l3,J.l4,J.l5,J.d1,J.d2,J.d3,J.d4,J.d5,J.d6⟩,Fr.set .x J.ax (fun _ z=>nomatch z) (fun c f=>?_)⟩
 cases f with
 | x=>exact .x
 | hd=>exact .hd
 | hl=>exact .hl
 | nt=>exact .nt
 | nl=>exact .nl
 | wt=>exact .wt
 | wb=>exact .wb
 | wl=>exact .wl
 | fh=>exact .fh
 | yg=>exact .yg
 | dm=>exact .dm
 | fl m=>exact .fl m
theorem IH.ab7 (J:IH D H x A s) {n:Bool}:IH D (upd H x (.ins D.aa A.dx (iB "in_round" (.bl n) (atts A s)))) x A {s with rnd:=n}∧Fr (aS x A s) H (aS x A {s with rnd:=n}) (upd H x (.ins D.aa A.dx (iB "in_round" (.bl n) (atts A s)))):=by
 have tk:fD H (upd H x (.ins D.aa A.dx (iB "in_round" (.bl n) (atts A s)))):=fD.set J.ax (fun _ z=>nomatch z)
 refine ⟨⟨(by rw [ah,abF]),(by rw [af (aw J.ahd J.ax (lO (show (1:Nat)≠11 by decide)))];exact J.ahd),(by rw [af (aw J.ahl J.ax (by intro z;cases z))];exact J.ahl),J.rhl.keep tk,(by rw [af (aw J.ant J.ax (lO (show (1:Nat)≠11 by decide)))];exact J.ant),(by rw [af (aw J.anl J.ax (by intro z;cases z))];exact J.anl),(by rw [af (aw J.awt J.ax (lO (show (2:Nat)≠11 by decide)))];exact J.awt),(by rw [af (aw J.awb J.ax (by intro z;cases z))];exact J.awb),(by rw [af (aw J.awl J.ax (by intro z;cases z))];exact J.awl),(by rw [af (aw J.afh J.ax (by intro z;cases z))];exact J.afh),(fun t ws m=>⟨by rw [af (aw (J.afl _ _ m).1 J.ax (by intro z;cases z))];exact (J.afl _ _ m).1,(J.afl _ _ m).2.keep tk⟩),(by rw [af (aw J.ayg J.ax (by intro z;cases z))];exact J.ayg),(by rw [af (aw J.adm J.ax (by intro z;cases z))];exact J.adm),J.nhn,J.l1,J.l2,J.l3,J.l4,J.l5,J.d1,J.d2,J.d3,J.d4,J.d5,J.d6⟩,Fr.set .x J.ax (fun _ z=>nomatch z) (fun c f=>?_)⟩
 cases f with
 | x=>exact .x
 | hd=>exact .hd
 | hl=>exact .hl
 | nt=>exact .nt
 | nl=>exact .nl
 | wt=>exact .wt
 | wb=>exact .wb
 | wl=>exact .wl
 | fh=>exact .fh
 | yg=>exact .yg
 | dm=>exact .dm
 | fl m=>exact .fl m
def tV (fs:List (Int×List Wd)) (t:Int) (ws:List Wd):List (Int×List Wd):=fs.map fun p=>if p.1=t then (t,ws) else p
theorem A8 {fs:List (Int×List Wd)} {t t':Int} {ws ws':List Wd} (m:(t',ws')∈tV fs t ws):∃ w0,(t',w0)∈fs∧t'=t':=by
 obtain ⟨q,mq,e⟩:=List.mem_map.mp m
 by_cases c:q.1=t
 ·rw [if_pos c] at e
  cases e
  exact ⟨q.2,by rw [←c];exact mq,rfl⟩
 ·rw [if_neg c] at e
  subst e
  exact ⟨_,mq,rfl⟩
theorem PN {A:HA} {fs:List (Int×List Wd)} {t:Int} {ws:List Wd} {xs:Int→List V}:(tV fs t ws).map (fkv {A with fx:=xs})=fs.map (fkv A):=by
 unfold tV
 rw [List.map_map]
 refine List.map_congr_left fun p hp=>?_
 show fkv {A with fx:=xs} (if p.1=t then (t,ws) else p)=fkv A p
 by_cases c:p.1=t
 ·rw [if_pos c];unfold fkv;rw [c]
 ·rw [if_neg c];rfl
theorem IH.adJ (J:IH D H x A s) {t:Int} {w0:List Wd} (m:(t,w0)∈s.aN) {xs:List V} {ws:List Wd} (r:Rel H xs ws):IH D (upd H (A.fa t) (.lst xs)) x {A with fx:=fun u=>if u=t then xs else A.fx u} {s with aN:=tV s.aN t ws}∧Fr (aS x A s) H (aS x {A with fx:=fun u=>if u=t then xs else A.fx u} {s with aN:=tV s.aN t ws}) (upd H (A.fa t) (.lst xs)):=by
 have tk:fD H (upd H (A.fa t) (.lst xs)):=fD.set (J.afl _ _ m).1 (fun _ z=>nomatch z)
 refine ⟨⟨(by rw [af (Ne.symm (aw (J.afl _ _ m).1 J.ax (by intro z;cases z)))];exact J.ax),(by rw [af (Ne.symm (aw (J.afl _ _ m).1 J.ahd (by intro z;cases z)))];exact J.ahd),(by rw [af (Ne.symm (J.l4 _ _ m).1)];exact J.ahl),J.rhl.keep tk,(by rw [af (Ne.symm (aw (J.afl _ _ m).1 J.ant (by intro z;cases z)))];exact J.ant),(by rw [af (Ne.symm (J.l4 _ _ m).2.1)];exact J.anl),(by rw [af (Ne.symm (aw (J.afl _ _ m).1 J.awt (by intro z;cases z)))];exact J.awt),(by rw [af (Ne.symm (aw (J.afl _ _ m).1 J.awb (by intro z;cases z)))];exact J.awb),(by rw [af (Ne.symm (J.l4 _ _ m).2.2)];exact J.awl),(by rw [af (Ne.symm (aw (J.afl _ _ m).1 J.afh (by intro z;cases z))),PN];exact J.afh),(fun t' ws' m'=>by
  obtain ⟨q,mq,e⟩:=List.mem_map.mp m'
  by_cases c:q.1=t
  ·rw [if_pos c] at e
   cases e
   dsimp only
   rw [if_pos rfl]
   exact ⟨ah,r.keep tk⟩
  ·rw [if_neg c] at e
   subst e
   dsimp only
   rw [if_neg c]
   exact ⟨by rw [af fun z=>c (J.l5 _ _ _ _ mq m z)];exact (J.afl _ _ mq).1,(J.afl _ _ mq).2.keep tk⟩),(by rw [af (Ne.symm (aw (J.afl _ _ m).1 J.ayg (by intro z;cases z)))];exact J.ayg),(by rw [af (Ne.symm (aw (J.afl _ _ m).1 J.adm (by intro z;cases z)))];exact J.adm),J.nhn,J.l1,J.l2,J.l3,(fun t' ws' m'=>by obtain ⟨q,mq,e1⟩:=A8 m';rw [←e1];exact J.l4 _ _ mq),(fun t1 w1 t2 w2 m1 m2 z=>by obtain ⟨q1,mq1,e1⟩:=A8 m1;obtain ⟨q2,mq2,e2⟩:=A8 m2;rw [←e1,←e2] at z ⊢;exact J.l5 _ _ _ _ mq1 mq2 z),J.d1,J.d2,J.d3,J.d4,J.d5,J.d6⟩,Fr.set (.fl m) (J.afl _ _ m).1 (fun _ z=>nomatch z) (fun c f=>?_)⟩
 cases f with
 | x=>exact .x
 | hd=>exact .hd
 | hl=>exact .hl
 | nt=>exact .nt
 | nl=>exact .nl
 | wt=>exact .wt
 | wb=>exact .wb
 | wl=>exact .wl
 | fh=>exact .fh
 | yg=>exact .yg
 | dm=>exact .dm
 | fl m'=>obtain ⟨w0,m0,_⟩:=A8 m';exact .fl m0
theorem IH.fresh (J:IH D H x A s) {b:Addr} (h:H b=none):¬aS x A s b:=fun f=>by
 obtain ⟨u,q,_⟩:=J.is f
 rw [h] at q
 cases q
theorem IH.abI (J:IH D H x A s) {t:Int} {b:Addr} {xs:List V} {ws:List Wd} (hb:H b=none) (hn:∀ w,(t,w)∉s.aN) (r:Rel H xs ws) :
  IH D (upd (upd H b (.lst xs)) A.fh (.dK (s.aN.map (fkv A)++[(Sum.inl t,.ref b)]))) x {A with fa:=fun u=>if u=t then b else A.fa u,fx:=fun u=>if u=t then xs else A.fx u} {s with aN:=s.aN++[(t,ws)]} ∧
  Fr (aS x A s) H (aS x {A with fa:=fun u=>if u=t then b else A.fa u,fx:=fun u=>if u=t then xs else A.fx u} {s with aN:=s.aN++[(t,ws)]}) (upd (upd H b (.lst xs)) A.fh (.dK (s.aN.map (fkv A)++[(Sum.inl t,.ref b)]))):=by
 have s1:aD H (upd H b (.lst xs)):=aD.upd hb
 have nb:∀ {c:Addr} {u:HO},H c=some u→c≠b:=fun q=>au q hb
 have J1:=J.same s1
 have tk:fD (upd H b (.lst xs)) (upd (upd H b (.lst xs)) A.fh (.dK (s.aN.map (fkv A)++[(Sum.inl t,.ref b)]))):=fD.set J1.afh (fun _ z=>nomatch z)
 have tk0:fD H (upd (upd H b (.lst xs)) A.fh (.dK (s.aN.map (fkv A)++[(Sum.inl t,.ref b)]))):=(fD.of s1).trans tk
 have kt:∀ {t':Int} {w:List Wd},(t',w)∈s.aN→t'≠t:=fun m e=>hn _ (by rw [←e];exact m)
 have mm:∀ {t':Int} {w:List Wd},(t',w)∈s.aN++[(t,ws)]→(t',w)∈s.aN∨(t'=t∧w=ws):=fun m=>by
  rcases List.mem_append.mp m with m|m
  ·exact .inl m
  ·cases List.mem_singleton.mp m;exact .inr ⟨rfl,rfl⟩
 have bf:b≠A.fh:=Ne.symm (nb J.afh)
 have fk:(s.aN++[(t,ws)]).map (fkv {A with fa:=fun u=>if u=t then b else A.fa u,fx:=fun u=>if u=t then xs else A.fx u})=s.aN.map (fkv A)++[(Sum.inl t,.ref b)]:=by
  rw [List.map_append]
  congr 1
  ·refine List.map_congr_left fun p hp=>?_
   unfold fkv
   simp only
   rw [if_neg (kt (t':=p.1) (w:=p.2) hp)]
  ·simp only [List.map_cons,List.map_nil,fkv,if_true]
 refine ⟨⟨(by rw [af (aw J.ax J.afh (by intro z;cases z))];exact J1.ax),(by rw [af (aw J.ahd J.afh (by intro z;cases z))];exact J1.ahd),(by rw [af (aw J.ahl J.afh (by intro z;cases z))];exact J1.ahl),J.rhl.keep tk0,(by rw [af (aw J.ant J.afh (by intro z;cases z))];exact J1.ant),(by rw [af (aw J.anl J.afh (by intro z;cases z))];exact J1.anl),(by rw [af (aw J.awt J.afh (by intro z;cases z))];exact J1.awt),(by rw [af J.d1];exact J1.awb),(by rw [af (aw J.awl J.afh (by intro z;cases z))];exact J1.awl),(by rw [fk];exact ah),(fun t' w m=>by
  rcases mm m with m|⟨e1,e2⟩
  ·show _=_∧_
   simp only [if_neg (kt m)]
   exact ⟨by rw [af (aw (J.afl _ _ m).1 J.afh (by intro z;cases z))];exact s1 _ _ (J.afl _ _ m).1,(J.afl _ _ m).2.keep tk0⟩
  ·subst e1 e2
   simp only [if_true]
   exact ⟨by rw [af bf];exact ah,r.keep tk0⟩),(by rw [af (Ne.symm J.d4)];exact J1.ayg),(by rw [af (Ne.symm J.d5)];exact J1.adm),J.nhn,J.l1,J.l2,J.l3,(fun t' w m=>by
  rcases mm m with m|⟨e1,e2⟩
  ·simp only [if_neg (kt m)]
   exact J.l4 _ _ m
  ·subst e1
   simp only [if_true]
   exact ⟨Ne.symm (nb J.ahl),Ne.symm (nb J.anl),Ne.symm (nb J.awl)⟩),(fun t1 w1 t2 w2 m1 m2 z=>by
  simp only at z
  rcases mm m1 with m1|⟨e1,_⟩
  ·rw [if_neg (kt m1)] at z
   rcases mm m2 with m2|⟨e2,_⟩
   ·rw [if_neg (kt m2)] at z
    exact J.l5 _ _ _ _ m1 m2 z
   ·rw [if_pos e2] at z
    exact absurd z (nb (J.afl _ _ m1).1)
  ·rw [if_pos e1] at z
   rcases mm m2 with m2|⟨e2,_⟩
   ·rw [if_neg (kt m2)] at z
    exact absurd z.symm (nb (J.afl _ _ m2).1)
   ·rw [e1,e2]),J.d1,J.d2,J.d3,J.d4,J.d5,J.d6⟩,?_⟩
 refine ⟨fun c u nf q=>?_,fun c f=>?_,fun c u q=>?_,tk0⟩
 ·rw [af fun e=>nf (by rw [e];exact .fh)]
  exact s1 _ _ q
 ·cases f with
  | x=>exact .inl .x
  | hd=>exact .inl .hd
  | hl=>exact .inl .hl
  | nt=>exact .inl .nt
  | nl=>exact .inl .nl
  | wt=>exact .inl .wt
  | wb=>exact .inl .wb
  | wl=>exact .inl .wl
  | fh=>exact .inl .fh
  | yg=>exact .inl .yg
  | dm=>exact .inl .dm
  | @fl t' w m =>
   rcases mm m with m|⟨e,_⟩
   ·refine .inl ?_
    show aS x A s (if t'=t then b else A.fa t')
    rw [if_neg (kt m)]
    exact .fl m
   ·refine .inr ?_
    show H (if t'=t then b else A.fa t')=none
    rw [if_pos e]
    exact hb
 ·by_cases e:c=A.fh
  ·exact ⟨_,by rw [e];exact ah⟩
  ·exact ⟨u,by rw [af e];exact s1 _ _ q⟩
end
end K12
end
section
namespace K12
open PySem L2 LX
section
variable {P:Program} {w:World} {K:W.Frag} {mg:Str→Option Value} {base:Heap} {D:Ad}
theorem lF {t u:TS} {D:Ends} {σ:St} {H:Hp} (h:∀ N:St→Hp→Prop,(∀ σ' H',u D σ' H'→N σ' H')→t {D with nx:=N} σ H):Je t u D σ H:=h (u D) (fun _ _ q=>q)
theorem Yl {t:TT} {b e:TS} {D:Ends} {σ:St} {H:Hp} (h:∀ B:St→Hp→Prop,(∀ σ' H',b D σ' H'→B σ' H')→t σ H fun c H1=>if c=true then B σ H1 else e D σ H1):abX t b e D σ H:=h (b D) (fun _ _ q=>q)
structure Ok0 (P:Program) (w:World) (K:W.Frag) (mg:Str→Option Value) (base:Heap) (n:Nat) (f:Addr) (fd:FuncData) (ps:List Str) (sp:Sp):Prop where
 g:Mc P w K mg base (CXE P w) n f fd ps sp
 b:Binds K fd ps []
theorem Ym {P:Program} {w:World} {X:Cx}:Passes (CXE P w) X (fun _ _ _=>False):=fun _ _ _ _ _ _ _ ⟨_,_,_,_,_,_,_,_,_,q⟩=>q.elim
theorem dt {H0 H:Hp} {K:W.Frag} {E E2:XK} {C:Addr} {y:Str} (ec:Lj K C) (h0:∀ b,H b=none→H0 b=none) (k:∀ H',aD H H'→E (.ref C) none H') (ea:Addr) (hea:H ea=none) :
  Dt K [.ref ea,.str y] (upd H ea (exo true C ea none)) (fun v H2=>v=.non∧(fun (v:V) (H1:Hp)=>∃ ea C od,v=.ref ea∧H1 ea=some (exo true C ea od)∧(∃ cd,iX K C cd)∧H0 ea=none∧E (.ref C) od (del H1 ea)) (.ref ea) H2) E2:=by
 refine ⟨ea,C,none,.str y,rfl,ah,ec.cls,rfl,ea,C,none,rfl,ah,ec.cls,h0 _ hea,k _ fun b o q=>?_⟩
 have nb:b≠ea:=fun e=>by rw [e,hea] at q;cases q
 rw [vD nb,af nb]
 exact q
def Bad (C:Addr) (H:Hp) (E:XK):Prop:=∀ H',aD H H'→E (.ref C) none H'
theorem Bad.same {C:Addr} {H H1:Hp} {E:XK} (k:Bad C H E) (s:aD H H1):Bad C H1 E:=fun H' s'=>k H' (s.trans s')
def Sm (n:Int):Prop:=n.natAbs.log2<1920
theorem Sm.of {n:Int} (h0:-1000000≤n) (h1:n≤1000000):Sm n:=Oq (Nat.lt_trans (show n.natAbs<2000000 by omega) (by decide))
def wat (ws:List Wd) (h:Int):Option Wd:=if 0≤h∧h<8 then ws[h.toNat]? else none
theorem qH {ws:List Wd} {h:Int} {wd:Wd} (e:wat ws h=some wd):0≤h∧h<8∧ws[h.toNat]?=some wd:=by
 unfold wat at e
 by_cases g:0≤h∧h<8
 ·rw [if_pos g] at e;exact ⟨g.1,g.2,e⟩
 ·rw [if_neg g] at e;cases e
theorem PQ {ws:List Wd} {h:Int} (l:ws.length=8) (e:wat ws h=none):¬(0≤h∧h<8):=fun g=>by
 unfold wat at e
 rw [if_pos g,List.getElem?_eq_getElem (by omega)] at e
 cases e
theorem Gb {xs:List V} {a:Int} {v:V} (h0:0≤a) (h:xs[a.toNat]?=some v):atI xs a=some v:=by
 have e:a=(a.toNat:Int):=by omega
 rw [e]
 exact vA h
theorem Q8 {n:Nat} {a:Int} (h0:0≤a) (h1:a<n):ixN n a=some a.toNat:=by
 unfold ixN
 rw [if_pos h0,if_pos h1]
structure Hn (D:Ad) (H:Hp) (hd hdx hl:Addr) (xs:List V) (ws:List Wd):Prop where
 i:H hd=some (.ins D.aY hdx [("words_held",.ref hl)])
 l:H hl=some (.lst xs)
 r:Rel H xs ws
 n:ws.length=8
theorem Hn.same {D:Ad} {H H':Hp} {hd hdx hl:Addr} {xs:List V} {ws:List Wd} (h:Hn D H hd hdx hl xs ws) (s:aD H H'):Hn D H' hd hdx hl xs ws:=⟨s _ _ h.i,s _ _ h.l,h.r.keep (fD.of s),h.n⟩
theorem Hn.at_ {D:Ad} {H:Hp} {hd hdx hl:Addr} {xs:List V} {ws:List Wd} (N:Hn D H hd hdx hl xs ws) {h:Int} {wd:Wd} (e:wat ws h=some wd):∃ v,xs[h.toNat]?=some v∧WV H v wd:=by
 obtain ⟨h0,h1,e⟩:=qH e
 have hi:h.toNat<ws.length:=by rw [N.n];omega
 obtain ⟨v,e1,e2⟩:=N.r.get hi
 rw [List.getElem?_eq_getElem hi] at e
 cases e
 exact ⟨v,e1,e2⟩
theorem Hn.ix {D:Ad} {H:Hp} {hd hdx hl:Addr} {xs:List V} {ws:List Wd} (N:Hn D H hd hdx hl xs ws) {h:Int} (g:0≤h∧h<8):ixN xs.length h=some h.toNat:=Q8 g.1 (by rw [N.r.1,N.n];exact g.2)
abbrev sQ:List Str:=["self", "text"]
theorem rL:av sQ ["self", "text"] (aq iY):=⟨rfl,rfl,rfl,by decide +kernel,rfl,by decide +kernel,by decide +kernel⟩
theorem rM (F:Fun K "__init__" "HeapError.__init__" iY D.aj D.aB) (T:Txt K mg D):Ok P w K mg base 1 D.aj D.aB ["self", "text"] (Dt K):=by
 refine ⟨?_,F.binds (ps:=["self", "text"]) fun _ _ _ _ _ _ us hl=>match us,hl with|[_,_],_=>rfl⟩
 refine F.okE rL (fun vs H Q E h=>?_) (fun cdv A' outer s' H vs Q E hr h=>?_)
 ·obtain ⟨ea,C,od,x,rfl,_⟩:=h
  rfl
 ·obtain ⟨ea,C,od,x,rfl,h1,hc,k⟩:=h
  refine ⟨_,(ai (aH (abo rfl T.ra (ab (pv 0) (ab (pv 1) ak))))),?_⟩
  exact ⟨_,rfl,_,rfl,ea,C,od,[x],rfl,(by show 1≤1000;decide),h1,hc,k⟩
def bZ (n:Str):Sp:=fun vs H Q _=>∃ x,vs=[x]∧Q (.str n) H
theorem v8 (F:Fun K "called" "BadCount.called" ow D.cb D.fe) (T:Txt K mg D):Ok0 P w K mg base 1 D.cb D.fe ["self"] (bZ "BadCount") :=
 ⟨F.ok0 (N:=["self"]) ⟨rfl,rfl,rfl,by decide +kernel,rfl,by decide +kernel,by decide +kernel⟩ (fun vs H Q E h=>by obtain ⟨x,rfl,_⟩:=h;rfl) (fun cdv A outer s H vs Q E h=>by obtain ⟨x,rfl,k⟩:=h;exact ⟨_,ai (aP bq),k⟩),F.binds (ps:=["self"]) fun _ _ _ _ _ _ us hl=>match us,hl with|[_],_=>rfl⟩
theorem yr (F:Fun K "called" "BadHand.called" pX D.cG D.fL) (T:Txt K mg D):Ok0 P w K mg base 1 D.cG D.fL ["self"] (bZ "BadHand") :=
 ⟨F.ok0 (N:=["self"]) ⟨rfl,rfl,rfl,by decide +kernel,rfl,by decide +kernel,by decide +kernel⟩ (fun vs H Q E h=>by obtain ⟨x,rfl,_⟩:=h;rfl) (fun cdv A outer s H vs Q E h=>by obtain ⟨x,rfl,k⟩:=h;exact ⟨_,ai (aP bq),k⟩),F.binds (ps:=["self"]) fun _ _ _ _ _ _ us hl=>match us,hl with|[_],_=>rfl⟩
theorem yt (F:Fun K "called" "BadName.called" pY D.cH D.fM) (T:Txt K mg D):Ok0 P w K mg base 1 D.cH D.fM ["self"] (bZ "BadName") :=
 ⟨F.ok0 (N:=["self"]) ⟨rfl,rfl,rfl,by decide +kernel,rfl,by decide +kernel,by decide +kernel⟩ (fun vs H Q E h=>by obtain ⟨x,rfl,_⟩:=h;rfl) (fun cdv A outer s H vs Q E h=>by obtain ⟨x,rfl,k⟩:=h;exact ⟨_,ai (aP bq),k⟩),F.binds (ps:=["self"]) fun _ _ _ _ _ _ us hl=>match us,hl with|[_],_=>rfl⟩
theorem v9 (F:Fun K "called" "BadField.called" ou D.b9 D.e9) (T:Txt K mg D):Ok0 P w K mg base 1 D.b9 D.e9 ["self"] (bZ "BadField") :=
 ⟨F.ok0 (N:=["self"]) ⟨rfl,rfl,rfl,by decide +kernel,rfl,by decide +kernel,by decide +kernel⟩ (fun vs H Q E h=>by obtain ⟨x,rfl,_⟩:=h;rfl) (fun cdv A outer s H vs Q E h=>by obtain ⟨x,rfl,k⟩:=h;exact ⟨_,ai (aP bq),k⟩),F.binds (ps:=["self"]) fun _ _ _ _ _ _ us hl=>match us,hl with|[_],_=>rfl⟩
theorem qo (F:Fun K "called" "TooManyWords.called" kU D.bg D.cV) (T:Txt K mg D):Ok0 P w K mg base 1 D.bg D.cV ["self"] (bZ "TooManyWords") :=
 ⟨F.ok0 (N:=["self"]) ⟨rfl,rfl,rfl,by decide +kernel,rfl,by decide +kernel,by decide +kernel⟩ (fun vs H Q E h=>by obtain ⟨x,rfl,_⟩:=h;rfl) (fun cdv A outer s H vs Q E h=>by obtain ⟨x,rfl,k⟩:=h;exact ⟨_,ai (aP bq),k⟩),F.binds (ps:=["self"]) fun _ _ _ _ _ _ us hl=>match us,hl with|[_],_=>rfl⟩
theorem yu (F:Fun K "called" "BadView.called" p9 D.eF D.ja) (T:Txt K mg D):Ok0 P w K mg base 1 D.eF D.ja ["self"] (bZ "BadView") :=
 ⟨F.ok0 (N:=["self"]) ⟨rfl,rfl,rfl,by decide +kernel,rfl,by decide +kernel,by decide +kernel⟩ (fun vs H Q E h=>by obtain ⟨x,rfl,_⟩:=h;rfl) (fun cdv A outer s H vs Q E h=>by obtain ⟨x,rfl,k⟩:=h;exact ⟨_,ai (aP bq),k⟩),F.binds (ps:=["self"]) fun _ _ _ _ _ _ us hl=>match us,hl with|[_],_=>rfl⟩
theorem Bp (F:Fun K "called" "NoRoom.called" rB D.dq D.gu) (T:Txt K mg D):Ok0 P w K mg base 1 D.dq D.gu ["self"] (bZ "NoRoom") :=
 ⟨F.ok0 (N:=["self"]) ⟨rfl,rfl,rfl,by decide +kernel,rfl,by decide +kernel,by decide +kernel⟩ (fun vs H Q E h=>by obtain ⟨x,rfl,_⟩:=h;rfl) (fun cdv A outer s H vs Q E h=>by obtain ⟨x,rfl,k⟩:=h;exact ⟨_,ai (aP bq),k⟩),F.binds (ps:=["self"]) fun _ _ _ _ _ _ us hl=>match us,hl with|[_],_=>rfl⟩
theorem yv (F:Fun K "called" "RoundOn.called" pZ D.cI D.fN) (T:Txt K mg D):Ok0 P w K mg base 1 D.cI D.fN ["self"] (bZ "RoundOn") :=
 ⟨F.ok0 (N:=["self"]) ⟨rfl,rfl,rfl,by decide +kernel,rfl,by decide +kernel,by decide +kernel⟩ (fun vs H Q E h=>by obtain ⟨x,rfl,_⟩:=h;rfl) (fun cdv A outer s H vs Q E h=>by obtain ⟨x,rfl,k⟩:=h;exact ⟨_,ai (aP bq),k⟩),F.binds (ps:=["self"]) fun _ _ _ _ _ _ us hl=>match us,hl with|[_],_=>rfl⟩
theorem yw (F:Fun K "called" "NoRound.called" p0 D.cJ D.fO) (T:Txt K mg D):Ok0 P w K mg base 1 D.cJ D.fO ["self"] (bZ "NoRound") :=
 ⟨F.ok0 (N:=["self"]) ⟨rfl,rfl,rfl,by decide +kernel,rfl,by decide +kernel,by decide +kernel⟩ (fun vs H Q E h=>by obtain ⟨x,rfl,_⟩:=h;rfl) (fun cdv A outer s H vs Q E h=>by obtain ⟨x,rfl,k⟩:=h;exact ⟨_,ai (aP bq),k⟩),F.binds (ps:=["self"]) fun _ _ _ _ _ _ us hl=>match us,hl with|[_],_=>rfl⟩
def M8:Sp:=fun vs H Q _=>∃ v wd,vs=[v]∧WV H v wd∧Q (.str wd.kind) H
abbrev OB:List Str:=["value"]
theorem Mu:av OB ["value"] (aq Dh):=⟨rfl,rfl,rfl,by decide +kernel,rfl,by decide +kernel,by decide +kernel⟩
theorem Mv (F:Fun K "kind_of" "kind_of" Dh D.iW D.nZ) (T:Txt K mg D):Ok P w K mg base 1 D.iW D.nZ ["value"] (M8):=by
 refine ⟨?_,F.binds (ps:=["value"]) fun _ _ _ _ _ _ us hl=>match us,hl with|[_],_=>rfl⟩
 refine F.okE Mu (fun vs H Q E h=>?_) (fun cdv A' outer s' H vs Q E hr h=>?_)
 ·obtain ⟨v,wd,rfl,_⟩:=h
  rfl
 ·obtain ⟨v,wd,rfl,hv,k⟩:=h
  refine ⟨_,(ai (aP (AU (aW MZ (pv 0) j2 (bJ _)) bq (br cn (pv 0) ar (fun _ _=>rfl))))),?_⟩
  cases wd with
  | no =>
   obtain rfl:v=.non:=hv
   exact ⟨_,rfl,rfl,_,rfl,aQ (fun _=>k) (fun h=>absurd (by simp) h)⟩
  | num n =>
   obtain ⟨t,rfl,ht⟩:=hv
   exact ⟨_,rfl,rfl,_,rfl,aQ (fun h=>by simp at h) (fun _=>⟨_,rfl,t,_,0,_,rfl,rfl,SqT.of ht,rfl,k⟩)⟩
  | th n =>
   obtain ⟨t,rfl,ht⟩:=hv
   exact ⟨_,rfl,rfl,_,rfl,aQ (fun h=>by simp at h) (fun _=>⟨_,rfl,t,_,0,_,rfl,rfl,SqT.of ht,rfl,k⟩)⟩
def d7 (D:Ad):Sp:=fun vs H Q E=>∃ n:Int,vs=[.int n]∧Sm n∧(if 0≤n∧n<8 then Q .non H else Bad D.bF H E)
abbrev EF:List Str:=["h"]
theorem DR:av EF ["h"] (aq nO):=⟨rfl,rfl,rfl,by decide +kernel,rfl,by decide +kernel,by decide +kernel⟩
theorem DS (F:Fun K "look_at_hand" "look_at_hand" nO D.bo D.cz) (T:Txt K mg D)
  (ag:Ok P w K mg base 1 D.aj D.aB ["self", "text"] (Dt K)):Ok P w K mg base 3 D.bo D.cz ["h"] (d7 D):=by
 refine ⟨?_,F.binds (ps:=["h"]) fun _ _ _ _ _ _ us hl=>match us,hl with|[_],_=>rfl⟩
 refine F.okE DR (fun vs H Q E h=>?_) (fun cdv A' outer s' H vs Q E hr h=>?_)
 ·obtain ⟨n,rfl,_⟩:=h
  rfl
 ·obtain ⟨n,rfl,hb,k⟩:=h
  refine ⟨_,(ai (di (qE (qG DK Fj ar (pv 0) (kY (v:=.int 8) rfl T.Fx ⟨_,rfl⟩)))
    (ai (gr rfl kS (kT T.xV ag.g (hr.mono (by decide)) rfl T.xU ag.b (Passes.x (aL fun _ _ _ q=>q)) (ab (jJ (bD (lK (pv 0)) (bD ir jI))) ak))))
    bC)),?_⟩
  by_cases g:0≤n∧n<8
  ·rw [if_pos g] at k
   refine ⟨_,rfl,0,n,rfl,rfl,_,rfl,aQ (fun _=>⟨n,8,rfl,rfl,_,rfl,aQ (fun h2=>absurd h2 (by rw [decide_eq_true g.2];decide)) (fun _=>k)⟩) (fun h1=>absurd (decide_eq_true g.1) h1)⟩
  ·rw [if_neg g] at k
   by_cases g0:0≤n
   ·have g1:¬n<8:=fun z=>g ⟨g0,z⟩
    refine ⟨_,rfl,0,n,rfl,rfl,_,rfl,aQ (fun _=>⟨n,8,rfl,rfl,_,rfl,aQ (fun _=>⟨_,rfl,n,rfl,hb,fun y hy ea hea=>dt T.j1 (fun _ q=>q) k ea hea⟩) (fun h2=>absurd (by rw [decide_eq_false g1];rfl) h2)⟩) (fun h1=>absurd (decide_eq_true g0) h1)⟩
   ·refine ⟨_,rfl,0,n,rfl,rfl,_,rfl,aQ (fun h1=>absurd (of_decide_eq_true h1) g0) (fun _=>⟨_,rfl,vB ⟨_,rfl,n,rfl,hb,fun y hy ea hea=>dt T.j1 (fun _ q=>q) k ea hea⟩⟩)⟩
def mE (D:Ad):Sp:=fun vs H Q E=>∃ n:Int,vs=[.int n]∧Sm n∧(if 0≤n∧n<8 then Q .non H else Bad D.en H E)
abbrev EG:List Str:=["w"]
theorem DT:av EG ["w"] (aq nP):=⟨rfl,rfl,rfl,by decide +kernel,rfl,by decide +kernel,by decide +kernel⟩
theorem DU (F:Fun K "look_at_name" "look_at_name" nP D.cZ D.hU) (T:Txt K mg D)
  (ag:Ok P w K mg base 1 D.aj D.aB ["self", "text"] (Dt K)):Ok P w K mg base 3 D.cZ D.hU ["w"] (mE D):=by
 refine ⟨?_,F.binds (ps:=["w"]) fun _ _ _ _ _ _ us hl=>match us,hl with|[_],_=>rfl⟩
 refine F.okE DT (fun vs H Q E h=>?_) (fun cdv A' outer s' H vs Q E hr h=>?_)
 ·obtain ⟨n,rfl,_⟩:=h
  rfl
 ·obtain ⟨n,rfl,hb,k⟩:=h
  refine ⟨_,(ai (di (qE (qG DK Fj ar (pv 0) (kY (v:=.int 8) rfl T.mZ ⟨_,rfl⟩)))
    (ai (gr rfl kS (kT T.Mh ag.g (hr.mono (by decide)) rfl T.Mg ag.b (Passes.x (aL fun _ _ _ q=>q)) (ab (jJ (bD (lK (pv 0)) (bD ir jI))) ak))))
    bC)),?_⟩
  by_cases g:0≤n∧n<8
  ·rw [if_pos g] at k
   refine ⟨_,rfl,0,n,rfl,rfl,_,rfl,aQ (fun _=>⟨n,8,rfl,rfl,_,rfl,aQ (fun h2=>absurd h2 (by rw [decide_eq_true g.2];decide)) (fun _=>k)⟩) (fun h1=>absurd (decide_eq_true g.1) h1)⟩
  ·rw [if_neg g] at k
   by_cases g0:0≤n
   ·have g1:¬n<8:=fun z=>g ⟨g0,z⟩
    refine ⟨_,rfl,0,n,rfl,rfl,_,rfl,aQ (fun _=>⟨n,8,rfl,rfl,_,rfl,aQ (fun _=>⟨_,rfl,n,rfl,hb,fun y hy ea hea=>dt T.xW (fun _ q=>q) k ea hea⟩) (fun h2=>absurd (by rw [decide_eq_false g1];rfl) h2)⟩) (fun h1=>absurd (decide_eq_true g0) h1)⟩
   ·refine ⟨_,rfl,0,n,rfl,rfl,_,rfl,aQ (fun h1=>absurd (of_decide_eq_true h1) g0) (fun _=>⟨_,rfl,vB ⟨_,rfl,n,rfl,hb,fun y hy ea hea=>dt T.xW (fun _ q=>q) k ea hea⟩⟩)⟩
def uh (D:Ad):Sp:=fun vs H Q E=>∃ n:Int,vs=[.int n]∧Sm n∧(if 0≤n∧n≤6 then Q (.int (n+1)) H else Bad D.cE H E)
abbrev Mw:List Str:=["fields"]
theorem Kk:av Mw ["fields"] (aq xT):=⟨rfl,rfl,rfl,by decide +kernel,rfl,by decide +kernel,by decide +kernel⟩
theorem Kl (F:Fun K "words_of" "words_of" xT D.gQ D.lL) (T:Txt K mg D)
  (ag:Ok P w K mg base 1 D.aj D.aB ["self", "text"] (Dt K)):Ok P w K mg base 3 D.gQ D.lL ["fields"] (uh D):=by
 refine ⟨?_,F.binds (ps:=["fields"]) fun _ _ _ _ _ _ us hl=>match us,hl with|[_],_=>rfl⟩
 refine F.okE Kk (fun vs H Q E h=>?_) (fun cdv A' outer s' H vs Q E hr h=>?_)
 ·obtain ⟨n,rfl,_⟩:=h
  rfl
 ·obtain ⟨n,rfl,hb,k⟩:=h
  refine ⟨_,(ao (di (qE (qG DK DK ar (pv 0) (kY (v:=.int 6) rfl T.pI ⟨_,rfl⟩)))
    (ai (gr rfl kS (kT T.l9 ag.g (hr.mono (by decide)) rfl T.l8 ag.b (Passes.x (aL fun _ _ _ q=>q)) (ab (jJ (bD (lK (pv 0)) (bD ir jI))) ak))))
    bC)
   (ai (aP (bR mP (pv 0) ar)))),?_⟩
  by_cases g:0≤n∧n≤6
  ·rw [if_pos g] at k
   refine ⟨_,rfl,0,n,rfl,rfl,_,rfl,aQ (fun _=>⟨n,6,rfl,rfl,_,rfl,aQ (fun h2=>absurd h2 (by rw [decide_eq_true g.2];decide)) (fun _=>⟨_,rfl,n,1,rfl,rfl,k⟩)⟩) (fun h1=>absurd (decide_eq_true g.1) h1)⟩
  ·rw [if_neg g] at k
   by_cases g0:0≤n
   ·have g1:¬n≤6:=fun z=>g ⟨g0,z⟩
    refine ⟨_,rfl,0,n,rfl,rfl,_,rfl,aQ (fun _=>⟨n,6,rfl,rfl,_,rfl,aQ (fun _=>⟨_,rfl,n,rfl,hb,fun y hy ea hea=>dt T.oW (fun _ q=>q) k ea hea⟩) (fun h2=>absurd (by rw [decide_eq_false g1];rfl) h2)⟩) (fun h1=>absurd (decide_eq_true g0) h1)⟩
   ·refine ⟨_,rfl,0,n,rfl,rfl,_,rfl,aQ (fun h1=>absurd (of_decide_eq_true h1) g0) (fun _=>⟨_,rfl,vB ⟨_,rfl,n,rfl,hb,fun y hy ea hea=>dt T.oW (fun _ q=>q) k ea hea⟩⟩)⟩
def lG (D:Ad):Sp:=fun vs H Q E=>∃ n m:Int,vs=[.int n,.int m]∧Sm n∧Sm m∧(if 0≤n∧n<m then Q .non H else Bad D.eK H E)
abbrev DV:List Str:=["k", "fields"]
theorem Bq:av DV ["k", "fields"] (aq mz):=⟨rfl,rfl,rfl,by decide +kernel,rfl,by decide +kernel,by decide +kernel⟩
theorem Br (F:Fun K "look_at_field" "look_at_field" mz D.cA D.gv) (T:Txt K mg D)
  (ag:Ok P w K mg base 1 D.aj D.aB ["self", "text"] (Dt K)):Ok P w K mg base 3 D.cA D.gv ["k", "fields"] (lG D):=by
 refine ⟨?_,F.binds (ps:=["k", "fields"]) fun _ _ _ _ _ _ us hl=>match us,hl with|[_,_],_=>rfl⟩
 refine F.okE Bq (fun vs H Q E h=>?_) (fun cdv A' outer s' H vs Q E hr h=>?_)
 ·obtain ⟨n,m,rfl,_⟩:=h
  rfl
 ·obtain ⟨n,m,rfl,hb,hm,k⟩:=h
  refine ⟨_,(ai (di (qE (qG DK Fj ar (pv 0) (pv 1)))
    (ai (gr rfl kS (kT T.Kf ag.g (hr.mono (by decide)) rfl T.Ke ag.b (Passes.x (aL fun _ _ _ q=>q)) (ab (jJ (bD ir (bD (lK (pv 1)) (bD ir (bD (lK (pv 0)) jI))))) ak))))
    bC)),?_⟩
  by_cases g:0≤n∧n<m
  ·rw [if_pos g] at k
   refine ⟨_,rfl,0,n,rfl,rfl,_,rfl,aQ (fun _=>⟨_,rfl,n,m,rfl,rfl,_,rfl,aQ (fun h2=>absurd h2 (by rw [decide_eq_true g.2];decide)) (fun _=>k)⟩) (fun h1=>absurd (decide_eq_true g.1) h1)⟩
  ·rw [if_neg g] at k
   by_cases g0:0≤n
   ·have g1:¬n<m:=fun z=>g ⟨g0,z⟩
    refine ⟨_,rfl,0,n,rfl,rfl,_,rfl,aQ (fun _=>⟨_,rfl,n,m,rfl,rfl,_,rfl,aQ (fun _=>⟨_,rfl,m,rfl,hm,_,rfl,n,rfl,hb,fun y hy ea hea=>dt T.uf (fun _ q=>q) k ea hea⟩) (fun h2=>absurd (by rw [decide_eq_false g1];rfl) h2)⟩) (fun h1=>absurd (decide_eq_true g0) h1)⟩
   ·refine ⟨_,rfl,0,n,rfl,rfl,_,rfl,aQ (fun h1=>absurd (of_decide_eq_true h1) g0) (fun _=>⟨_,rfl,vB ⟨_,rfl,m,rfl,hm,_,rfl,n,rfl,hb,fun y hy ea hea=>dt T.uf (fun _ q=>q) k ea hea⟩⟩)⟩
def Num (x:Int):Prop:=-(10 ^ 60)≤x∧x≤10 ^ 60
instance {x:Int}:Decidable (Num x):=inferInstanceAs (Decidable (_∧_))
def kx (D:Ad):Sp:=fun vs H Q E=>∃ x:Int,vs=[.int x]∧Sm x∧(if Num x then Q .non H else Bad D.cE H E)
abbrev Bs:List Str:=["x"]
theorem yx:av Bs ["x"] (aq kZ):=⟨rfl,rfl,rfl,by decide +kernel,rfl,by decide +kernel,by decide +kernel⟩
theorem yy (F:Fun K "look_at_number" "look_at_number" kZ D.b5 D.fP) (T:Txt K mg D)
  (ag:Ok P w K mg base 1 D.aj D.aB ["self", "text"] (Dt K)):Ok P w K mg base 3 D.b5 D.fP ["x"] (kx D):=by
 refine ⟨?_,F.binds (ps:=["x"]) fun _ _ _ _ _ _ us hl=>match us,hl with|[_],_=>rfl⟩
 refine F.okE yx (fun vs H Q E h=>?_) (fun cdv A' outer s' H vs Q E hr h=>?_)
 ·obtain ⟨x,rfl,_⟩:=h
  rfl
 ·obtain ⟨x,rfl,hb,k⟩:=h
  refine ⟨_,(ai (di (aW AV (fX Pk rfl T.Q5 PyProof.Rows.Boot.«abs» (ab (pv 0) ak)) (bR XT ar ar) (bJ _))
    (ai (gr rfl kS (kT T.l9 ag.g (hr.mono (by decide)) rfl T.l8 ag.b (Passes.x (aL fun _ _ _ q=>q)) (ab (jJ (bD (lK (pv 0)) (bD ir jI))) ak))))
    bC)),?_⟩
  have e60:((10:Int) ^ (60:Int).toNat)=10 ^ 60:=rfl
  by_cases g:Num x
  ·rw [if_pos g] at k
   refine ⟨_,rfl,x,rfl,10,60,rfl,rfl,⟨by decide,by decide,by decide⟩,_,_,rfl,rfl,_,rfl,aQ (fun h=>absurd (of_decide_eq_true h) ?_) (fun _=>k)⟩
   have:=g.1
   have:=g.2
   rw [e60]
   split<;>omega
  ·rw [if_neg g] at k
   refine ⟨_,rfl,x,rfl,10,60,rfl,rfl,⟨by decide,by decide,by decide⟩,_,_,rfl,rfl,_,rfl,aQ (fun _=>⟨_,rfl,x,rfl,hb,fun y hy ea hea=>dt T.oW (fun _ q=>q) k ea hea⟩) (fun h=>absurd (decide_eq_true ?_) h)⟩
   unfold Num at g
   rw [e60]
   split<;>omega
def rG (D:Ad):Sp:=fun vs H Q E=>∃ x:Int,vs=[.int x]∧Sm x∧(if Num x then ∀ t H',aD H H'→H' t=some (.tup [.str "number",.int x])→Q (.ref t) H' else Bad D.cE H E)
abbrev EH:List Str:=["x"]
theorem DW:av EH ["x"] (aq nN):=⟨rfl,rfl,rfl,by decide +kernel,rfl,by decide +kernel,by decide +kernel⟩
theorem DX (F:Fun K "number_value" "number_value" nN D.dW D.i6) (T:Txt K mg D)
  (dJ:Ok P w K mg base 3 D.b5 D.fP ["x"] (kx D)):Ok P w K mg base 4 D.dW D.i6 ["x"] (rG D):=by
 refine ⟨?_,F.binds (ps:=["x"]) fun _ _ _ _ _ _ us hl=>match us,hl with|[_],_=>rfl⟩
 refine F.okE DW (fun vs H Q E h=>?_) (fun cdv A' outer s' H vs Q E hr h=>?_)
 ·obtain ⟨x,rfl,_⟩:=h
  rfl
 ·obtain ⟨x,rfl,hb,k⟩:=h
  refine ⟨_,(ao (aH (aR dJ.g (hr.mono (by decide)) rfl T.qa T.jc dJ.b .nil (Passes.x (aL fun _ _ _ q=>q)) (ab (pv 0) ak)))
   (ai (aP (fI (ab bq (ab (pv 0) ak)))))),?_⟩
  refine ⟨_,rfl,x,rfl,hb,?_⟩
  by_cases g:Num x
  ·rw [if_pos g] at k ⊢
   exact ⟨_,rfl,by show 2≤sizeLine;decide,fun t ht=>k t _ (aD.upd ht) ah⟩
  ·rw [if_neg g] at k ⊢
   exact k
def kD:Sp:=fun vs H Q E=>∃ x:Int,vs=[.int x]∧0≤x∧∀ t H',aD H H'→H' t=some (.tup [.str "thing",.int x])→Q (.ref t) H'
abbrev Ge:List Str:=["t"]
theorem EI:av Ge ["t"] (aq pA):=⟨rfl,rfl,rfl,by decide +kernel,rfl,by decide +kernel,by decide +kernel⟩
theorem EJ (F:Fun K "thing_value" "thing_value" pA D.da D.gO) (T:Txt K mg D)
  (ag:Ok P w K mg base 1 D.aj D.aB ["self", "text"] (Dt K)):Ok P w K mg base 3 D.da D.gO ["t"] (kD):=by
 refine ⟨?_,F.binds (ps:=["t"]) fun _ _ _ _ _ _ us hl=>match us,hl with|[_],_=>rfl⟩
 refine F.okE EI (fun vs H Q E h=>?_) (fun cdv A' outer s' H vs Q E hr h=>?_)
 ·obtain ⟨x,rfl,_⟩:=h
  rfl
 ·obtain ⟨x,rfl,h0,k⟩:=h
  refine ⟨_,(ao (di (aW Fj (pv 0) ar (bJ _))
    (ai (gr rfl kS (kT T.l9 ag.g (hr.mono (by decide)) rfl T.l8 ag.b (Passes.x (aL fun _ _ _ q=>q)) (ab (jJ (bD (lK (pv 0)) (bD ir jI))) ak))))
    bC)
   (ai (aP (fI (ab bq (ab (pv 0) ak)))))),?_⟩
  exact ⟨_,rfl,x,0,rfl,rfl,_,rfl,aQ (fun h=>absurd (of_decide_eq_true h) (by omega)) (fun _=>⟨_,rfl,by show 2≤sizeLine;decide,fun t ht=>k t _ (aD.upd ht) ah⟩)⟩
def oA:Sp:=fun vs H Q E=>∃ y l:Int,vs=[.int y,.int l]∧(y=0∨(7≤y∧y≤64))∧7≤l∧l≤400∧Q .non H
abbrev Bt:List Str:=["young", "limit"]
theorem yz:av Bt ["young", "limit"] (aq k6):=⟨rfl,rfl,rfl,by decide +kernel,rfl,by decide +kernel,by decide +kernel⟩
theorem yA (F:Fun K "look_at_limits" "look_at_limits" k6 D.cK D.gW) (T:Txt K mg D)
  (ag:Ok P w K mg base 1 D.aj D.aB ["self", "text"] (Dt K)):Ok P w K mg base 3 D.cK D.gW ["young", "limit"] (oA):=by
 refine ⟨?_,F.binds (ps:=["young", "limit"]) fun _ _ _ _ _ _ us hl=>match us,hl with|[_,_],_=>rfl⟩
 refine F.okE yz (fun vs H Q E h=>?_) (fun cdv A' outer s' H vs Q E hr h=>?_)
 ·obtain ⟨y,l,rfl,_⟩:=h
  rfl
 ·obtain ⟨y,l,rfl,hy,l0,l1,k⟩:=h
  refine ⟨_,(ao (di (PW.pt (pw_and (aW L1 (pv 0) ar (bJ _)) (pw_and1 (qE (qG DK DK (kY (v:=.int 7) rfl T.m7 ⟨_,rfl⟩) (pv 0) (kY (v:=.int 64) rfl T.rf ⟨_,rfl⟩))))))
    (ai (gr rfl kS (kT T.l9 ag.g (hr.mono (by decide)) rfl T.l8 ag.b (Passes.x (aL fun _ _ _ q=>q)) (ab (jJ (bD (lK (pv 0)) (bD ir jI))) ak))))
    bC)
   (ai (di (qE (qG DK DK (kY (v:=.int 7) rfl T.m7 ⟨_,rfl⟩) (pv 1) (kY (v:=.int 400) rfl T.rg ⟨_,rfl⟩)))
    (ai (gr rfl kS (kT T.l9 ag.g (hr.mono (by decide)) rfl T.l8 ag.b (Passes.x (aL fun _ _ _ q=>q)) (ab (jJ (bD (lK (pv 1)) (bD ir jI))) ak))))
    bC))),?_⟩
  refine lF fun N hN=>?_
  have rest:N [some (.int y),some (.int l)] H:=by
   refine hN _ _ ?_
   exact ⟨_,rfl,7,l,rfl,rfl,_,rfl,aQ (fun _=>⟨l,400,rfl,rfl,_,rfl,aQ (fun h2=>absurd h2 (by rw [decide_eq_true l1];decide)) (fun _=>k)⟩) (fun h1=>absurd (decide_eq_true l0) h1)⟩
  rcases hy with rfl|⟨y0,y1⟩
  ·exact ⟨_,rfl,rfl,_,rfl,aQ (fun h=>absurd h (by decide)) (fun _=>rz rest)⟩
  ·refine ⟨_,rfl,rfl,_,rfl,aQ (fun _=>?_) (fun h=>absurd (show (!decide (V.int y=V.int 0))=true from ?_) h)⟩
   ·exact ⟨_,rfl,7,y,rfl,rfl,_,rfl,aQ (fun _=>⟨y,64,rfl,rfl,_,rfl,aQ (fun h2=>absurd h2 (by rw [decide_eq_true y1];decide)) (fun _=>rest)⟩) (fun h1=>absurd (decide_eq_true y0) h1)⟩
   ·rw [decide_eq_false (by intro z;injection z with z;omega)];rfl
def But (m:Addr) (H H':Hp):Prop:=∀ b u,b≠m→H b=some u→H' b=some u
theorem But.upd {m a:Addr} {H:Hp} {o:HO} (h:H a=none):But m H (L2.upd H a o):=fun b u _ q=>by rw [af (au q h)];exact q
theorem But.self {m:Addr} {H:Hp} {o:HO}:But m H (L2.upd H m o):=fun b u n q=>by rw [af n];exact q
theorem But.trans {m:Addr} {H H1 H2:Hp} (a:But m H H1) (b:But m H1 H2):But m H H2:=fun c u n q=>b c u n (a c u n q)
theorem aD.none {H H':Hp} (s:aD H H') {b:Addr} (h:H' b=none):H b=none:=by
 cases q:H b with
 | none=>rfl
 | some u=>rw [s _ _ q] at h;cases h
theorem ab8:(List.replicate (8:Int).toNat [V.non]).flatten=List.replicate 8 .non:=rfl
theorem lookup_some {α:Type} {bs:List (Int×α)} {t:Int} {v:α} (h:bs.lookup t=some v):(t,v)∈bs:=by
 induction bs with
 | nil=>cases h
 | cons p r ih =>
  obtain ⟨a,b⟩:=p
  rw [List.lookup_cons] at h
  by_cases e:t == a
  ·rw [e] at h
   rw [beq_iff_eq] at e
   subst e
   cases h
   exact List.mem_cons_self
  ·rw [Bool.not_eq_true] at e
   rw [e] at h
   exact List.mem_cons_of_mem _ (ih h)
theorem lookup_none {α:Type} {bs:List (Int×α)} {t:Int} (h:bs.lookup t=none):∀ p∈bs,p.1≠t:=by
 induction bs with
 | nil=>intro p hp;cases hp
 | cons p r ih =>
  obtain ⟨a,b⟩:=p
  rw [List.lookup_cons] at h
  by_cases e:t == a
  ·rw [e] at h;cases h
  ·rw [Bool.not_eq_true] at e
   rw [e] at h
   intro q hq
   rcases List.mem_cons.mp hq with rfl|hq
   ·exact fun z=>by rw [beq_eq_false_iff_ne] at e;exact e z.symm
   ·exact ih h q hq
theorem Fy {α:Type} {f:Int×α→Key×V} {bs:List (Int×α)} {t:Int} (hf:∀ p,(f p).1=Sum.inl p.1):lJ (bs.map f) (Sum.inl t)=(bs.lookup t).map fun v=>(f (t,v)).2:=by
 induction bs with
 | nil=>rfl
 | cons p r ih =>
  obtain ⟨a,b⟩:=p
  rw [List.map_cons,List.lookup_cons]
  by_cases e:t=a
  ·subst e
   rw [oo (hf (t,b)),beq_self_eq_true]
   rfl
  ·rw [oq (by rw [hf (a,b)];exact fun z=>e (Sum.inl.inj z).symm),beq_eq_false_iff_ne.mpr e,ih]
theorem Vi {bs:List (Int×Int)} {t:Int}:lJ (bs.map bkv) (Sum.inl t)=(bs.lookup t).map V.int:=Fy fun _=>rfl
def Hl (bs:List (Int×Int)) (t x:Int):List (Int×Int):=if (bs.lookup t).isSome=true then bs.map (fun p=>if p.1=t then (t,x) else p) else bs++[(t,x)]
theorem Lq {bs:List (Int×Int)} {t x:Int}:(Hl bs t x).map bkv=putK (bs.map bkv) (Sum.inl t) (.int x):=by
 unfold Hl putK
 rw [AW,Vi,Option.isSome_map]
 by_cases e:(bs.lookup t).isSome=true
 ·rw [if_pos e,if_pos e,List.map_map,List.map_map]
  refine List.map_congr_left fun p hp=>?_
  show bkv (if p.1=t then (t,x) else p)=if (bkv p).1=Sum.inl t then ((bkv p).1,V.int x) else bkv p
  by_cases c:p.1=t
  ·rw [if_pos c,if_pos (by show Sum.inl p.1=Sum.inl t;rw [c])];unfold bkv;rw [c]
  ·rw [if_neg c,if_neg (show ¬(bkv p).1=Sum.inl t from fun z=>c (Sum.inl.inj (show (Sum.inl p.1:Key)=Sum.inl t from z)))]
 ·rw [if_neg e,if_neg e,List.map_append]
  rfl
structure Nt (D:Ad) (H:Hp) (nt ntx nl:Addr) (xs:List V):Prop where
 i:H nt=some (.ins D.aC ntx [("things_named",.ref nl)])
 l:H nl=some (.lst xs)
 n:xs.length=8
structure Wt (D:Ad) (H:Hp) (wt wtx wb wl:Addr) (bs:List (Int×Int)) (zs:List Int):Prop where
 i:H wt=some (.ins D.aE wtx [("words_borne",.ref wb),("words_said",.ref wl)])
 b:H wb=some (.dK (bs.map bkv))
 l:H wl=some (.lst (zs.map V.int))
def vJ (D:Ad):Sp:=fun vs H Q _=>∃ m dx,vs=[.ref m]∧H m=some (.ins D.aY dx [])∧∀ c H',But m H H'→H c=none→H' c=some (.lst (List.replicate 8 .non))→H' m=some (.ins D.aY dx [("words_held",.ref c)])→Q .non H'
abbrev Bu:List Str:=["self"]
theorem yB:av Bu ["self"] (aq k7):=⟨rfl,rfl,rfl,by decide +kernel,rfl,by decide +kernel,by decide +kernel⟩
theorem yC (F:Fun K "__init__" "Hands.__init__" k7 D.dA D.gX) (T:Txt K mg D):Ok P w K mg base 1 D.dA D.gX ["self"] (vJ D):=by
 refine ⟨?_,F.binds (ps:=["self"]) fun _ _ _ _ _ _ us hl=>match us,hl with|[_],_=>rfl⟩
 refine F.okE yB (fun vs H Q E h=>?_) (fun cdv A' outer s' H vs Q E hr h=>?_)
 ·obtain ⟨m,dx,rfl,_⟩:=h
  rfl
 ·obtain ⟨m,dx,rfl,hm,k⟩:=h
  refine ⟨_,(ai (iq (pv 0) (bR JA (hR (ab j2 ak)) (kY (v:=.int 8) rfl T.Fx ⟨_,rfl⟩)) rfl)),?_⟩
  refine ⟨by show 1≤sizeLine;decide,fun p hp=>⟨p,8,_,rfl,rfl,ah,by decide,by decide,by show 1*8≤sizeLine;decide,fun q hq=>?_⟩⟩
  have np:m≠p:=au hm hp
  have hm1:upd H p (.lst [.non]) m=some (.ins D.aY dx []):=by rw [af np];exact hm
  have nq:m≠q:=au hm1 hq
  have qp:q≠p:=fun e=>by rw [e,ah] at hq;cases hq
  have hq0:H q=none:=by rw [af qp] at hq;exact hq
  refine ⟨_,rfl,m,D.aY,dx,[],rfl,(by rw [af nq];exact hm1),T.aV,T.cv,by decide,?_⟩
  refine k q _ (((But.upd hp).trans (But.upd hq)).trans But.self) hq0 ?_ ah
  rw [af (Ne.symm nq),ah,ab8]
def oB (D:Ad):Sp:=fun vs H Q _=>∃ m dx,vs=[.ref m]∧H m=some (.ins D.aC dx [])∧∀ c H',But m H H'→H c=none→H' c=some (.lst (List.replicate 8 .non))→H' m=some (.ins D.aC dx [("things_named",.ref c)])→Q .non H'
abbrev sR:List Str:=["self"]
theorem rN:av sR ["self"] (aq i0):=⟨rfl,rfl,rfl,by decide +kernel,rfl,by decide +kernel,by decide +kernel⟩
theorem rO (F:Fun K "__init__" "NameTable.__init__" i0 D.bU D.eN) (T:Txt K mg D):Ok P w K mg base 1 D.bU D.eN ["self"] (oB D):=by
 refine ⟨?_,F.binds (ps:=["self"]) fun _ _ _ _ _ _ us hl=>match us,hl with|[_],_=>rfl⟩
 refine F.okE rN (fun vs H Q E h=>?_) (fun cdv A' outer s' H vs Q E hr h=>?_)
 ·obtain ⟨m,dx,rfl,_⟩:=h
  rfl
 ·obtain ⟨m,dx,rfl,hm,k⟩:=h
  refine ⟨_,(ai (iq (pv 0) (bR JA (hR (ab j2 ak)) (kY (v:=.int 8) rfl T.mZ ⟨_,rfl⟩)) rfl)),?_⟩
  refine ⟨by show 1≤sizeLine;decide,fun p hp=>⟨p,8,_,rfl,rfl,ah,by decide,by decide,by show 1*8≤sizeLine;decide,fun q hq=>?_⟩⟩
  have np:m≠p:=au hm hp
  have hm1:upd H p (.lst [.non]) m=some (.ins D.aC dx []):=by rw [af np];exact hm
  have nq:m≠q:=au hm1 hq
  have qp:q≠p:=fun e=>by rw [e,ah] at hq;cases hq
  have hq0:H q=none:=by rw [af qp] at hq;exact hq
  refine ⟨_,rfl,m,D.aC,dx,[],rfl,(by rw [af nq];exact hm1),T.dU,T.b4,by decide,?_⟩
  refine k q _ (((But.upd hp).trans (But.upd hq)).trans But.self) hq0 ?_ ah
  rw [af (Ne.symm nq),ah,ab8]
def rH (D:Ad):Sp:=fun vs H Q E=>∃ hd hdx hl xs ws,∃ h:Int,vs=[.ref hd,.int h]∧Hn D H hd hdx hl xs ws∧Sm h∧(match wat ws h with|some wd=>∀ v,xs[h.toNat]?=some v→WV H v wd→Q v H|none=>Bad D.bF H E)
abbrev DY:List Str:=["self", "h"]
theorem Bv:av DY ["self", "h"] (aq mB):=⟨rfl,rfl,rfl,by decide +kernel,rfl,by decide +kernel,by decide +kernel⟩
theorem Bw (F:Fun K "word_in" "Hands.word_in" mB D.cB D.fq) (T:Txt K mg D)
  (aA:Ok P w K mg base 3 D.bo D.cz ["h"] (d7 D)):Ok P w K mg base 4 D.cB D.fq ["self", "h"] (rH D):=by
 refine ⟨?_,F.binds (ps:=["self", "h"]) fun _ _ _ _ _ _ us hl=>match us,hl with|[_,_],_=>rfl⟩
 refine F.okE Bv (fun vs H Q E h=>?_) (fun cdv A' outer s' H vs Q E hr h=>?_)
 ·obtain ⟨hd,hdx,hl,xs,ws,h,rfl,_⟩:=h
  rfl
 ·obtain ⟨hd,hdx,hl,xs,ws,h,rfl,N,hb,k⟩:=h
  refine ⟨_,(ao (aH (aR aA.g (hr.mono (by decide)) rfl T.gp T.dY aA.b .nil (Passes.x (aL fun _ _ _ q=>q)) (ab (pv 1) ak)))
   (ai (aP (br ck (aG (pv 0) rfl) (pv 1) (fun _ _=>rfl))))),?_⟩
  refine ⟨_,rfl,h,rfl,hb,?_⟩
  cases e:wat ws h with
  | none =>
   rw [if_neg (PQ N.n e)]
   rw [e] at k
   exact k
  | some wd =>
   obtain ⟨h0,h1,_⟩:=qH e
   obtain ⟨v,hv,wv⟩:=N.at_ e
   rw [if_pos ⟨h0,h1⟩]
   rw [e] at k
   exact ⟨_,rfl,hd,D.aY,hdx,_,.ref hl,rfl,N.i,T.aV,T.cv,rfl,_,rfl,hl,xs,h,v,rfl,rfl,SqL.of N.l,Gb h0 hv,k v hv wv⟩
def vK (D:Ad):Sp:=fun vs H Q E=>∃ hd hdx hl xs ws v,∃ h:Int,vs=[.ref hd,.int h,v]∧Hn D H hd hdx hl xs ws∧Sm h∧(if 0≤h∧h<8 then Q .non (upd H hl (.lst (xs.set h.toNat v))) else Bad D.bF H E)
abbrev Km:List Str:=["self", "h", "word"]
theorem HL:av Km ["self", "h", "word"] (aq tX):=⟨rfl,rfl,rfl,by decide +kernel,rfl,by decide +kernel,by decide +kernel⟩
theorem HM (F:Fun K "put" "Hands.put" tX D.eZ D.iu) (T:Txt K mg D)
  (aA:Ok P w K mg base 3 D.bo D.cz ["h"] (d7 D)):Ok P w K mg base 4 D.eZ D.iu ["self", "h", "word"] (vK D):=by
 refine ⟨?_,F.binds (ps:=["self", "h", "word"]) fun _ _ _ _ _ _ us hl=>match us,hl with|[_,_,_],_=>rfl⟩
 refine F.okE HL (fun vs H Q E h=>?_) (fun cdv A' outer s' H vs Q E hr h=>?_)
 ·obtain ⟨hd,hdx,hl,xs,ws,v,h,rfl,_⟩:=h
  rfl
 ·obtain ⟨hd,hdx,hl,xs,ws,v,h,rfl,N,hb,k⟩:=h
  refine ⟨_,(ao (aH (aR aA.g (hr.mono (by decide)) rfl T.gp T.dY aA.b .nil (Passes.x (aL fun _ _ _ q=>q)) (ab (pv 1) ak)))
   (ai (F8 (pv 2) (F7 (aG (pv 0) rfl) (pv 1) set_list)))),?_⟩
  refine ⟨_,rfl,h,rfl,hb,?_⟩
  by_cases g:0≤h∧h<8
  ·rw [if_pos g] at k ⊢
   exact ⟨_,rfl,_,rfl,hd,D.aY,hdx,_,.ref hl,rfl,N.i,T.aV,T.cv,rfl,_,rfl,hl,xs,h,h.toNat,rfl,rfl,N.l,N.ix g,k⟩
  ·rw [if_neg g] at k ⊢
   exact k
def Lr (D:Ad):Sp:=fun vs H Q E=>∃ hd hdx hl xs ws,∃ h g:Int,vs=[.ref hd,.int h,.int g]∧Hn D H hd hdx hl xs ws∧Sm h∧Sm g∧(if 0≤h∧h<8 then (match wat ws g with|some wd=>∀ v,WV H v wd→Q .non (upd H hl (.lst (xs.set h.toNat v)))|none=>Bad D.bF H E) else Bad D.bF H E)
abbrev HN:List Str:=["self", "h", "g"]
theorem Gf:av HN ["self", "h", "g"] (aq qM):=⟨rfl,rfl,rfl,by decide +kernel,rfl,by decide +kernel,by decide +kernel⟩
theorem Gg (F:Fun K "copy" "Hands.copy" qM D.gJ D.kI) (T:Txt K mg D)
  (aA:Ok P w K mg base 3 D.bo D.cz ["h"] (d7 D))
  (bL:Ok P w K mg base 4 D.cB D.fq ["self", "h"] (rH D)):Ok P w K mg base 5 D.gJ D.kI ["self", "h", "g"] (Lr D):=by
 refine ⟨?_,F.binds (ps:=["self", "h", "g"]) fun _ _ _ _ _ _ us hl=>match us,hl with|[_,_,_],_=>rfl⟩
 refine F.okE Gf (fun vs H Q E h=>?_) (fun cdv A' outer s' H vs Q E hr h=>?_)
 ·obtain ⟨hd,hdx,hl,xs,ws,h,g,rfl,_⟩:=h
  rfl
 ·obtain ⟨hd,hdx,hl,xs,ws,h,g,rfl,N,hb,hg,k⟩:=h
  refine ⟨_,(ao (aH (aR aA.g (hr.mono (by decide)) rfl T.gp T.dY aA.b .nil (Passes.x (aL fun _ _ _ q=>q)) (ab (pv 1) ak)))
   (ai (F8 (aK (pv 0) T.aV T.lD bL.g (hr.mono (by decide)) bL.b .nil (Passes.x (aL fun _ _ _ q=>q)) (ab (pv 2) ak)) (F7 (aG (pv 0) rfl) (pv 1) set_list)))),?_⟩
  refine ⟨_,rfl,h,rfl,hb,?_⟩
  by_cases c:0≤h∧h<8
  ·rw [if_pos c] at k ⊢
   refine ⟨_,rfl,hd,hdx,_,rfl,N.i,rfl,_,rfl,hd,hdx,hl,xs,ws,g,rfl,N,hg,?_⟩
   cases e:wat ws g with
   | none =>
    rw [e] at k
    exact k
   | some wd =>
    rw [e] at k
    exact fun v hv wv=>⟨_,rfl,hd,D.aY,hdx,_,.ref hl,rfl,N.i,T.aV,T.cv,rfl,_,rfl,hl,xs,h,h.toNat,rfl,rfl,N.l,N.ix c,k v wv⟩
  ·rw [if_neg c] at k ⊢
   exact k
def Fz (D:Ad):Sp:=fun vs H Q E=>∃ hd hdx hl xs ws,∃ h x:Int,vs=[.ref hd,.int h,.int x]∧Hn D H hd hdx hl xs ws∧Sm h∧Sm x∧(if 0≤h∧h<8 then (if Num x then ∀ t H',aD H H'→H' t=some (.tup [.str "number",.int x])→Q .non (upd H' hl (.lst (xs.set h.toNat (.ref t)))) else Bad D.cE H E) else Bad D.bF H E)
abbrev EL:List Str:=["self", "h", "x"]
theorem DZ:av EL ["self", "h", "x"] (aq nQ):=⟨rfl,rfl,rfl,by decide +kernel,rfl,by decide +kernel,by decide +kernel⟩
theorem D1 (F:Fun K "number" "Hands.number" nQ D.eX D.i7) (T:Txt K mg D)
  (aA:Ok P w K mg base 3 D.bo D.cz ["h"] (d7 D))
  (kF:Ok P w K mg base 4 D.dW D.i6 ["x"] (rG D)):Ok P w K mg base 5 D.eX D.i7 ["self", "h", "x"] (Fz D):=by
 refine ⟨?_,F.binds (ps:=["self", "h", "x"]) fun _ _ _ _ _ _ us hl=>match us,hl with|[_,_,_],_=>rfl⟩
 refine F.okE DZ (fun vs H Q E h=>?_) (fun cdv A' outer s' H vs Q E hr h=>?_)
 ·obtain ⟨hd,hdx,hl,xs,ws,h,x,rfl,_⟩:=h
  rfl
 ·obtain ⟨hd,hdx,hl,xs,ws,h,x,rfl,N,hb,hx,k⟩:=h
  refine ⟨_,(ao (aH (aR aA.g (hr.mono (by decide)) rfl T.gp T.dY aA.b .nil (Passes.x (aL fun _ _ _ q=>q)) (ab (pv 1) ak)))
   (ai (F8 (aR kF.g (hr.mono (by decide)) rfl T.ED T.nS kF.b .nil (Passes.x (aL fun _ _ _ q=>q)) (ab (pv 2) ak)) (F7 (aG (pv 0) rfl) (pv 1) set_list)))),?_⟩
  refine ⟨_,rfl,h,rfl,hb,?_⟩
  by_cases c:0≤h∧h<8
  ·rw [if_pos c] at k ⊢
   refine ⟨_,rfl,x,rfl,hx,?_⟩
   by_cases g:Num x
   ·rw [if_pos g] at k ⊢
    intro t H' sH ht
    have N':=N.same sH
    exact ⟨_,rfl,hd,D.aY,hdx,_,.ref hl,rfl,N'.i,T.aV,T.cv,rfl,_,rfl,hl,xs,h,h.toNat,rfl,rfl,N'.l,N'.ix c,k t H' sH ht⟩
   ·rw [if_neg g] at k ⊢
    exact k
  ·rw [if_neg c] at k ⊢
   exact k
def A9 (D:Ad):Sp:=fun vs H Q E=>∃ hd hdx hl xs ws,∃ h:Int,vs=[.ref hd,.int h]∧Hn D H hd hdx hl xs ws∧Sm h∧(match wat ws h with|some wd=>∀ H',aD H H'→Q (.str wd.kind) H'|none=>Bad D.bF H E)
abbrev HP:List Str:=["self", "h", "kind"]
theorem vL:av HP ["self", "h"] (aq qN):=⟨rfl,rfl,rfl,by decide +kernel,rfl,by decide +kernel,by decide +kernel⟩
theorem Gh (F:Fun K "kind" "Hands.kind" qN D.eR D.iA) (T:Txt K mg D)
  (ka:Ok P w K mg base 1 D.iW D.nZ ["value"] (M8))
  (bL:Ok P w K mg base 4 D.cB D.fq ["self", "h"] (rH D)):Ok P w K mg base 5 D.eR D.iA ["self", "h"] (A9 D):=by
 refine ⟨?_,F.binds (ps:=["self", "h"]) fun _ _ _ _ _ _ us hl=>match us,hl with|[_,_],_=>rfl⟩
 refine F.okE vL (fun vs H Q E h=>?_) (fun cdv A' outer s' H vs Q E hr h=>?_)
 ·obtain ⟨hd,hdx,hl,xs,ws,h,rfl,_⟩:=h
  rfl
 ·obtain ⟨hd,hdx,hl,xs,ws,h,rfl,N,hb,k⟩:=h
  refine ⟨_,(ao (bN (i:=2) vL.nd rfl (Or.inl rfl) (aR ka.g (hr.mono (by decide)) rfl T.Hk T.vp ka.b .nil (Passes.x (aL fun _ _ _ q=>q)) (ab (aK (pv 0) T.aV T.lD bL.g (hr.mono (by decide)) bL.b .nil (Passes.x (aL fun _ _ _ q=>q)) (ab (pv 1) ak)) ak)))
   (ai (aP (AU (aW G8 (pv 2) (fI (ab bq (ab bq ak))) (by with_unfolding_all rfl)) (pv 2) bq)))),?_⟩
  refine ⟨_,rfl,hd,hdx,_,rfl,N.i,rfl,_,rfl,hd,hdx,hl,xs,ws,h,rfl,N,hb,?_⟩
  cases e:wat ws h with
  | none =>
   rw [e] at k
   exact k
  | some wd =>
   rw [e] at k
   intro v hv wv
   refine ⟨v,wd,rfl,wv,?_⟩
   cases wd with
   | no=>exact ⟨_,rfl,by show 2≤sizeLine;decide,fun t ht=>⟨t,_,rfl,.inr (SqT.of ah),rfl,rfl,_,rfl,aQ (fun _=>⟨_,rfl,k _ (aD.upd ht)⟩) (fun h=>absurd (by kernel_rfl) h)⟩⟩
   | num n=>exact ⟨_,rfl,by show 2≤sizeLine;decide,fun t ht=>⟨t,_,rfl,.inr (SqT.of ah),rfl,rfl,_,rfl,aQ (fun _=>⟨_,rfl,k _ (aD.upd ht)⟩) (fun h=>absurd (by kernel_rfl) h)⟩⟩
   | th n=>exact ⟨_,rfl,by show 2≤sizeLine;decide,fun t ht=>⟨t,_,rfl,.inr (SqT.of ah),rfl,rfl,_,rfl,aQ (fun h=>absurd h (Bool.eq_false_iff.mp (by kernel_rfl))) (fun _=>k _ (aD.upd ht))⟩⟩
def Ls (D:Ad):Sp:=fun vs H Q E=>∃ hd hdx hl xs ws,∃ h:Int,vs=[.ref hd,.int h]∧Hn D H hd hdx hl xs ws∧Sm h∧(match wat ws h with|some (.num x)=>∀ H',aD H H'→Q (.int x) H'|_=>Bad D.bF H E)
abbrev Gi:List Str:=["self", "h"]
theorem EM:av Gi ["self", "h"] (aq pB):=⟨rfl,rfl,rfl,by decide +kernel,rfl,by decide +kernel,by decide +kernel⟩
theorem EN (F:Fun K "value" "Hands.value" pB D.fQ D.jK) (T:Txt K mg D)
  (ag:Ok P w K mg base 1 D.aj D.aB ["self", "text"] (Dt K))
  (du:Ok P w K mg base 5 D.eR D.iA ["self", "h"] (A9 D)):Ok P w K mg base 6 D.fQ D.jK ["self", "h"] (Ls D):=by
 refine ⟨?_,F.binds (ps:=["self", "h"]) fun _ _ _ _ _ _ us hl=>match us,hl with|[_,_],_=>rfl⟩
 refine F.okE EM (fun vs H Q E h=>?_) (fun cdv A' outer s' H vs Q E hr h=>?_)
 ·obtain ⟨hd,hdx,hl,xs,ws,h,rfl,_⟩:=h
  rfl
 ·obtain ⟨hd,hdx,hl,xs,ws,h,rfl,N,hb,k⟩:=h
  refine ⟨_,(ao (di (aW L1 (aK (pv 0) T.aV T.pG du.g (hr.mono (by decide)) du.b .nil (Passes.x (aL fun _ _ _ q=>q)) (ab (pv 1) ak)) bq (bJ _))
    (ai (gr rfl kS (kT T.xV ag.g (hr.mono (by decide)) rfl T.xU ag.b (Passes.x (aL fun _ _ _ q=>q)) (ab (jJ (bD ir (bD (lK (pv 1)) (bD ir jI)))) ak))))
    bC)
   (ai (aP (br cn (br ck (aG (pv 0) rfl) (pv 1) (fun _ _=>rfl)) ar (fun _ _=>rfl))))),?_⟩
  refine ⟨_,rfl,hd,hdx,_,rfl,N.i,rfl,_,rfl,hd,hdx,hl,xs,ws,h,rfl,N,hb,?_⟩
  cases e:wat ws h with
  | none =>
   rw [e] at k
   exact k
  | some wd =>
   rw [e] at k
   cases wd with
   | no=>exact fun H1 s1=>⟨rfl,_,rfl,aQ (fun _=>⟨_,rfl,h,rfl,hb,fun y hy ea hea=>dt T.j1 (fun _ q=>aD.none s1 q) (Bad.same k s1) ea hea⟩) (fun h=>absurd (by kernel_rfl) h)⟩
   | num n =>
    intro H1 s1
    have N1:=N.same s1
    obtain ⟨v,hv,wv⟩:=N1.at_ e
    obtain ⟨h0,h1,_⟩:=qH e
    obtain ⟨t,rfl,ht⟩:=wv
    exact ⟨rfl,_,rfl,aQ (fun h=>absurd h (Bool.eq_false_iff.mp (by kernel_rfl))) (fun _=>⟨_,rfl,hd,D.aY,hdx,_,.ref hl,rfl,N1.i,T.aV,T.cv,rfl,_,rfl,hl,xs,h,.ref t,rfl,rfl,SqL.of N1.l,Gb h0 hv,t,_,1,.int n,rfl,rfl,SqT.of ht,rfl,k H1 s1⟩)⟩
   | th n =>
    exact fun H1 s1=>⟨rfl,_,rfl,aQ (fun _=>⟨_,rfl,h,rfl,hb,fun y hy ea hea=>dt T.j1 (fun _ q=>aD.none s1 q) (Bad.same k s1) ea hea⟩) (fun h=>absurd (by kernel_rfl) h)⟩
def jw (D:Ad):Sp:=fun vs H Q E=>∃ hd hdx hl xs ws,∃ h:Int,vs=[.ref hd,.int h]∧Hn D H hd hdx hl xs ws∧Sm h∧(match wat ws h with|some (.th x)=>∀ H',aD H H'→Q (.int x) H'|_=>Bad D.bF H E)
abbrev yD:List Str:=["self", "h"]
theorem wa:av yD ["self", "h"] (aq kf):=⟨rfl,rfl,rfl,by decide +kernel,rfl,by decide +kernel,by decide +kernel⟩
theorem wc (F:Fun K "thing_due" "Hands.thing_due" kf D.aZ D.cc) (T:Txt K mg D)
  (ag:Ok P w K mg base 1 D.aj D.aB ["self", "text"] (Dt K))
  (du:Ok P w K mg base 5 D.eR D.iA ["self", "h"] (A9 D)):Ok P w K mg base 6 D.aZ D.cc ["self", "h"] (jw D):=by
 refine ⟨?_,F.binds (ps:=["self", "h"]) fun _ _ _ _ _ _ us hl=>match us,hl with|[_,_],_=>rfl⟩
 refine F.okE wa (fun vs H Q E h=>?_) (fun cdv A' outer s' H vs Q E hr h=>?_)
 ·obtain ⟨hd,hdx,hl,xs,ws,h,rfl,_⟩:=h
  rfl
 ·obtain ⟨hd,hdx,hl,xs,ws,h,rfl,N,hb,k⟩:=h
  refine ⟨_,(ao (di (aW L1 (aK (pv 0) T.aV T.pG du.g (hr.mono (by decide)) du.b .nil (Passes.x (aL fun _ _ _ q=>q)) (ab (pv 1) ak)) bq (bJ _))
    (ai (gr rfl kS (kT T.xV ag.g (hr.mono (by decide)) rfl T.xU ag.b (Passes.x (aL fun _ _ _ q=>q)) (ab (jJ (bD ir (bD (lK (pv 1)) (bD ir jI)))) ak))))
    bC)
   (ai (aP (br cn (br ck (aG (pv 0) rfl) (pv 1) (fun _ _=>rfl)) ar (fun _ _=>rfl))))),?_⟩
  refine ⟨_,rfl,hd,hdx,_,rfl,N.i,rfl,_,rfl,hd,hdx,hl,xs,ws,h,rfl,N,hb,?_⟩
  cases e:wat ws h with
  | none =>
   rw [e] at k
   exact k
  | some wd =>
   rw [e] at k
   cases wd with
   | no=>exact fun H1 s1=>⟨rfl,_,rfl,aQ (fun _=>⟨_,rfl,h,rfl,hb,fun y hy ea hea=>dt T.j1 (fun _ q=>aD.none s1 q) (Bad.same k s1) ea hea⟩) (fun h=>absurd (by kernel_rfl) h)⟩
   | num n =>
    exact fun H1 s1=>⟨rfl,_,rfl,aQ (fun _=>⟨_,rfl,h,rfl,hb,fun y hy ea hea=>dt T.j1 (fun _ q=>aD.none s1 q) (Bad.same k s1) ea hea⟩) (fun h=>absurd (by kernel_rfl) h)⟩
   | th n =>
    intro H1 s1
    have N1:=N.same s1
    obtain ⟨v,hv,wv⟩:=N1.at_ e
    obtain ⟨h0,h1,_⟩:=qH e
    obtain ⟨t,rfl,ht⟩:=wv
    exact ⟨rfl,_,rfl,aQ (fun h=>absurd h (Bool.eq_false_iff.mp (by kernel_rfl))) (fun _=>⟨_,rfl,hd,D.aY,hdx,_,.ref hl,rfl,N1.i,T.aV,T.cv,rfl,_,rfl,hl,xs,h,.ref t,rfl,rfl,SqL.of N1.l,Gb h0 hv,t,_,1,.int n,rfl,rfl,SqT.of ht,rfl,k H1 s1⟩)⟩
def ng (D:Ad):Sp:=fun vs H Q E=>∃ hd hdx hl xs ws,vs=[.ref hd]∧Hn D H hd hdx hl xs ws∧∀ p H',aD H H'→H p=none→H' p=some (.lst xs)→Q (.ref p) H'
abbrev yE:List Str:=["self"]
theorem we:av yE ["self"] (aq ke):=⟨rfl,rfl,rfl,by decide +kernel,rfl,by decide +kernel,by decide +kernel⟩
theorem wg (F:Fun K "all_words" "Hands.all_words" ke D.bP D.dP) (T:Txt K mg D):Ok P w K mg base 1 D.bP D.dP ["self"] (ng D):=by
 refine ⟨?_,F.binds (ps:=["self"]) fun _ _ _ _ _ _ us hl=>match us,hl with|[_],_=>rfl⟩
 refine F.okE we (fun vs H Q E h=>?_) (fun cdv A' outer s' H vs Q E hr h=>?_)
 ·obtain ⟨hd,hdx,hl,xs,ws,rfl,_⟩:=h
  rfl
 ·obtain ⟨hd,hdx,hl,xs,ws,rfl,N,k⟩:=h
  refine ⟨_,(ai (aP (nX mS rfl T.vI PyProof.Rows.Boot.«list» (ab (aG (pv 0) rfl) ak)))),?_⟩
  exact ⟨_,rfl,hd,D.aY,hdx,_,.ref hl,rfl,N.i,T.aV,T.cv,rfl,hl,xs,rfl,.inl (SqL.of N.l),fun p hp=>k p _ (aD.upd hp) hp ah⟩
def Lu (D:Ad):Sp:=fun vs H Q E=>∃ nt ntx nl xs v,∃ w:Int,vs=[.ref nt,.int w,v]∧Nt D H nt ntx nl xs∧Sm w∧(if 0≤w∧w<8 then Q .non (upd H nl (.lst (xs.set w.toNat v))) else Bad D.en H E)
abbrev Bx:List Str:=["self", "w", "t"]
theorem yF:av Bx ["self", "w", "t"] (aq lg):=⟨rfl,rfl,rfl,by decide +kernel,rfl,by decide +kernel,by decide +kernel⟩
theorem yG (F:Fun K "name" "NameTable.name" lg D.dD D.g4) (T:Txt K mg D)
  (eY:Ok P w K mg base 3 D.cZ D.hU ["w"] (mE D)):Ok P w K mg base 4 D.dD D.g4 ["self", "w", "t"] (Lu D):=by
 refine ⟨?_,F.binds (ps:=["self", "w", "t"]) fun _ _ _ _ _ _ us hl=>match us,hl with|[_,_,_],_=>rfl⟩
 refine F.okE yF (fun vs H Q E h=>?_) (fun cdv A' outer s' H vs Q E hr h=>?_)
 ·obtain ⟨nt,ntx,nl,xs,v,w,rfl,_⟩:=h
  rfl
 ·obtain ⟨nt,ntx,nl,xs,v,w,rfl,N,hb,k⟩:=h
  refine ⟨_,(ao (aH (aR eY.g (hr.mono (by decide)) rfl T.tU T.kB eY.b .nil (Passes.x (aL fun _ _ _ q=>q)) (ab (pv 1) ak)))
   (ai (F8 (pv 2) (F7 (aG (pv 0) rfl) (pv 1) set_list)))),?_⟩
  refine ⟨_,rfl,w,rfl,hb,?_⟩
  by_cases g:0≤w∧w<8
  ·rw [if_pos g] at k ⊢
   exact ⟨_,rfl,_,rfl,nt,D.aC,ntx,_,.ref nl,rfl,N.i,T.dU,T.b4,rfl,_,rfl,nl,xs,w,w.toNat,rfl,rfl,N.l,Q8 g.1 (by rw [N.n];exact g.2),k⟩
  ·rw [if_neg g] at k ⊢
   exact k
def Lv (D:Ad):Sp:=fun vs H Q E=>∃ nt ntx nl xs,∃ w:Int,vs=[.ref nt,.int w]∧Nt D H nt ntx nl xs∧Sm w∧(if 0≤w∧w<8 then ∀ v,xs[w.toNat]?=some v→Q v H else Bad D.en H E)
abbrev yI:List Str:=["self", "w"]
theorem wj:av yI ["self", "w"] (aq kg):=⟨rfl,rfl,rfl,by decide +kernel,rfl,by decide +kernel,by decide +kernel⟩
theorem wk (F:Fun K "named" "NameTable.named" kg D.cP D.gB) (T:Txt K mg D)
  (eY:Ok P w K mg base 3 D.cZ D.hU ["w"] (mE D)):Ok P w K mg base 4 D.cP D.gB ["self", "w"] (Lv D):=by
 refine ⟨?_,F.binds (ps:=["self", "w"]) fun _ _ _ _ _ _ us hl=>match us,hl with|[_,_],_=>rfl⟩
 refine F.okE wj (fun vs H Q E h=>?_) (fun cdv A' outer s' H vs Q E hr h=>?_)
 ·obtain ⟨nt,ntx,nl,xs,w,rfl,_⟩:=h
  rfl
 ·obtain ⟨nt,ntx,nl,xs,w,rfl,N,hb,k⟩:=h
  refine ⟨_,(ao (aH (aR eY.g (hr.mono (by decide)) rfl T.tU T.kB eY.b .nil (Passes.x (aL fun _ _ _ q=>q)) (ab (pv 1) ak)))
   (ai (aP (br ck (aG (pv 0) rfl) (pv 1) (fun _ _=>rfl))))),?_⟩
  refine ⟨_,rfl,w,rfl,hb,?_⟩
  by_cases g:0≤w∧w<8
  ·rw [if_pos g] at k ⊢
   have hv:xs[w.toNat]?=some (xs[w.toNat]'(by rw [N.n];omega)):=List.getElem?_eq_getElem _
   exact ⟨_,rfl,nt,D.aC,ntx,_,.ref nl,rfl,N.i,T.dU,T.b4,rfl,_,rfl,nl,xs,w,_,rfl,rfl,SqL.of N.l,Gb g.1 hv,k _ hv⟩
  ·rw [if_neg g] at k ⊢
   exact k
def oE (D:Ad):Sp:=fun vs H Q _=>∃ m dx,vs=[.ref m]∧H m=some (.ins D.aE dx [])∧∀ b c H',But m H H'→H b=none→H c=none→Wt D H' m dx b c [] []→Q .non H'
abbrev sS:List Str:=["self"]
theorem rP:av sS ["self"] (aq iZ):=⟨rfl,rfl,rfl,by decide +kernel,rfl,by decide +kernel,by decide +kernel⟩
theorem rQ (F:Fun K "__init__" "WordTable.__init__" iZ D.bT D.eL) (T:Txt K mg D):Ok P w K mg base 1 D.bT D.eL ["self"] (oE D):=by
 refine ⟨?_,F.binds (ps:=["self"]) fun _ _ _ _ _ _ us hl=>match us,hl with|[_],_=>rfl⟩
 refine F.okE rP (fun vs H Q E h=>?_) (fun cdv A' outer s' H vs Q E hr h=>?_)
 ·obtain ⟨m,dx,rfl,_⟩:=h
  rfl
 ·obtain ⟨m,dx,rfl,hm,k⟩:=h
  refine ⟨_,(ao (iq (pv 0) mG rfl)
   (ai (iq (pv 0) (hR ak) rfl))),?_⟩
  intro p hp
  have np:m≠p:=au hm hp
  refine ⟨_,rfl,m,D.aE,dx,[],rfl,(by rw [af np];exact hm),T.bG,T.bj,by decide,?_⟩
  refine ⟨by show 0≤sizeLine;decide,fun q hq=>?_⟩
  have nq:m≠q:=au ah hq
  have qp:q≠p:=fun e=>by rw [e,af (Ne.symm np),ah] at hq;cases hq
  have hq0:H q=none:=by rw [af (Ne.symm nq),af qp] at hq;exact hq
  refine ⟨_,rfl,m,D.aE,dx,_,rfl,(by rw [af nq];exact ah),T.bG,T.hW,by show 1<1000;decide,?_⟩
  refine k p q _ ((((But.upd hp).trans But.self).trans (fun b u n h=>by rw [af fun e=>by rw [e] at h;rw [h] at hq;cases hq];exact h)).trans But.self) hp hq0 ⟨ah,?_,?_⟩
  ·rw [af (Ne.symm np),af (Ne.symm qp),af (Ne.symm np),ah]
   rfl
  ·rw [af (Ne.symm nq),ah]
   rfl
def Ny (D:Ad):Sp:=fun vs H Q E=>∃ wt wtx wb wl bs zs,∃ t x:Int,vs=[.ref wt,.int t,.int x]∧Wt D H wt wtx wb wl bs zs∧bs.length≤12∧(if bs.lookup t=none∧12≤bs.length then Bad D.bO H E else Q .non (upd H wb (.dK ((Hl bs t x).map bkv))))
abbrev By:List Str:=["self", "t", "x"]
theorem yJ:av By ["self", "t", "x"] (aq k8):=⟨rfl,rfl,rfl,by decide +kernel,rfl,by decide +kernel,by decide +kernel⟩
theorem yK (F:Fun K "bear" "WordTable.bear" k8 D.dB D.gY) (T:Txt K mg D)
  (ag:Ok P w K mg base 1 D.aj D.aB ["self", "text"] (Dt K)):Ok P w K mg base 3 D.dB D.gY ["self", "t", "x"] (Ny D):=by
 refine ⟨?_,F.binds (ps:=["self", "t", "x"]) fun _ _ _ _ _ _ us hl=>match us,hl with|[_,_,_],_=>rfl⟩
 refine F.okE yJ (fun vs H Q E h=>?_) (fun cdv A' outer s' H vs Q E hr h=>?_)
 ·obtain ⟨wt,wtx,wb,wl,bs,zs,t,x,rfl,_⟩:=h
  rfl
 ·obtain ⟨wt,wtx,wb,wl,bs,zs,t,x,rfl,N,hn,k⟩:=h
  have hu:=lI hr
  refine ⟨_,(ao (di (PW.pt (pw_and (qD (j7 hu (pv 1) (aG (pv 0) rfl)) (by with_unfolding_all rfl)) (pw_and1 (aW aba (fX Oj rfl T.vq PyProof.Rows.Boot.«len» (ab (aG (pv 0) rfl) ak)) (kY (v:=.int 12) rfl T.kC ⟨_,rfl⟩) (bJ _)))))
    (ai (gr rfl kS (kT T.DO ag.g (hr.mono (by decide)) rfl T.DN ag.b (Passes.x (aL fun _ _ _ q=>q)) (ab (jJ (bD (lK (kY (v:=.int 12) rfl T.kC ⟨_,rfl⟩)) (bD ir jI))) ak))))
    bC)
   (ai (sI hu (aG (pv 0) rfl) (pv 1) (pv 2) rfl))),?_⟩
  have hu:=lI hr
  refine ⟨_,rfl,_,rfl,wt,D.aE,wtx,_,.ref wb,rfl,N.i,T.bG,T.bj,rfl,wb,_,rfl,pT.k (k:=Sum.inl t) N.b,_,rfl,?_⟩
  rw [Vi,Option.isSome_map]
  cases e:bs.lookup t with
  | some v =>
   rw [if_neg (fun z=>by rw [e] at z;cases z.1)] at k
   exact rz ⟨_,rfl,_,rfl,wt,D.aE,wtx,_,.ref wb,rfl,N.i,T.bG,T.bj,rfl,_,rfl,wb,_,rfl,Ha.k (k:=Sum.inl t) N.b (by rw [List.length_map];exact Nat.lt_of_le_of_lt hn (by decide)),by rw [Lq] at k;exact k⟩
  | none =>
   refine vB ⟨_,rfl,wt,D.aE,wtx,_,.ref wb,rfl,N.i,T.bG,T.bj,rfl,wb,_,rfl,N.b,_,_,rfl,rfl,_,rfl,aQ (fun h=>?_) (fun h=>?_)⟩
   ·rw [List.length_map] at h
    have h:=of_decide_eq_true h
    rw [if_pos ⟨e,by omega⟩] at k
    exact ⟨12,rfl,Sm.of (by decide) (by decide),fun y hy ea hea=>dt T.rC (fun _ q=>q) k ea hea⟩
   ·rw [List.length_map] at h
    have h:¬((12:Int)≤(bs.length:Int)):=fun z=>h (decide_eq_true z)
    rw [if_neg (fun z=>h (by have:=z.2;omega))] at k
    exact ⟨_,rfl,_,rfl,wt,D.aE,wtx,_,.ref wb,rfl,N.i,T.bG,T.bj,rfl,_,rfl,wb,_,rfl,Ha.k (k:=Sum.inl t) N.b (by rw [List.length_map];exact Nat.lt_of_le_of_lt hn (by decide)),by rw [Lq] at k;exact k⟩
def fld (s:HS) (t:Int):List Wd:=(s.aN.lookup t).getD []
structure Good (s:HS):Prop where
 h8:s.bK.length=8
 n8:s.names.length=8
 asc:(s.aN.map (·.1)).Pairwise (·< ·)
 lt:∀ t ws,(t,ws)∈s.aN→0≤t∧t<s.nxt
 f6:∀ t ws,(t,ws)∈s.aN→ws.length≤6
 hh:∀ t,Wd.th t∈s.bK→∃ ws,(t,ws)∈s.aN
 ff:∀ u ws t,(u,ws)∈s.aN→Wd.th t∈ws→∃ ws',(t,ws')∈s.aN
 nn:∀ t,some t∈s.names→∃ ws,(t,ws)∈s.aN
 b12:s.bp.length≤12
 bk:∀ t x,(t,x)∈s.bp→∃ ws,(t,ws)∈s.aN
 bnd:(s.bp.map (·.1)).Nodup
 n0:0≤s.nxt
 nx:s.nxt≤10000
 sd:(s.qb.length:Int)+s.aN.length≤s.nxt
 yk:∀ t∈s.yng,∃ ws,(t,ws)∈s.aN
 Dw:s.yng.Pairwise (·< ·)
 dk:∀ t∈s.dI,∃ ws,(t,ws)∈s.aN
 EB:s.dI.Pairwise (·< ·)
theorem mem_lookup {α:Type} {fs:List (Int×α)} {t:Int} {w:α} (asc:(fs.map (·.1)).Nodup) (m:(t,w)∈fs):fs.lookup t=some w:=by
 induction fs with
 | nil=>cases m
 | cons p r ih =>
  obtain ⟨a,b⟩:=p
  rw [List.map_cons,List.nodup_cons] at asc
  rw [List.lookup_cons]
  rcases List.mem_cons.mp m with e|m
  ·cases e
   rw [beq_self_eq_true]
  ·have ne:t≠a:=fun e=>asc.1 (by rw [←e];exact List.mem_map.mpr ⟨_,m,rfl⟩)
   rw [beq_eq_false_iff_ne.mpr ne]
   exact ih asc.2 m
theorem qq {l:List Int} (h:l.Pairwise (·< ·)):l.Nodup:=h.imp fun h=>Int.ne_of_lt h
theorem Good.get {s:HS} (g:Good s) {t:Int} {ws:List Wd} (m:(t,ws)∈s.aN):s.aN.lookup t=some ws:=mem_lookup (qq g.asc) m
theorem Good.fld {s:HS} (g:Good s) {t:Int} {ws:List Wd} (m:(t,ws)∈s.aN):fld s t=ws:=by unfold K12.fld;rw [g.get m];rfl
theorem Good.hand {s:HS} (g:Good s) {h t:Int} (e:wat s.bK h=some (.th t)):(t,K12.fld s t)∈s.aN:=by
 obtain ⟨_,_,e⟩:=qH e
 obtain ⟨ws,m⟩:=g.hh t (List.mem_of_getElem? e)
 rw [g.fld m]
 exact m
theorem Good.few {s:HS} (g:Good s):s.aN.length≤10000:=by
 have:=g.sd
 have:=g.nx
 omega
theorem vM {n:Nat} (h:n≤20000):n<sizeLine:=Nat.lt_of_le_of_lt h (by decide)
theorem oa {n:Nat} (h:n≤20000):n≤sizeLine:=Nat.le_of_lt (vM h)
inductive Er where
 | hand|name|field|count|room|words|on|no
def Ad.er (D:Ad):Er→Addr
 | .hand=>D.bF
 | .name=>D.en
 | .field=>D.eK
 | .count=>D.cE
 | .room=>D.iV
 | .words=>D.bO
 | .on=>D.gM
 | .no=>D.gN
abbrev Re:=Option Er×HS
def Fin (D:Ad) (x:Addr) (A:HA) (s:HS) (H:Hp) (r:Re) (Q:VK) (E:XK):Prop:=∀ A' H',IH D H' x A' r.2→Fr (aS x A s) H (aS x A' r.2) H'→(match r.1 with|none=>Q .non H'|some e=>E (.ref (D.er e)) none H')
theorem Fin.bad {D:Ad} {x:Addr} {A:HA} {s:HS} {H:Hp} {e:Er} {Q:VK} {E:XK} (k:Fin D x A s H (some e,s) Q E) (J:IH D H x A s):Bad (D.er e) H E:=fun H' s'=>k A H' (J.same s') (Fr.same s')
abbrev ok8 (h:Int):Prop:=0≤h∧h<8
def qr (s:HS) (h:Int) (w:Wd):HS:={s with bK:=s.bK.set h.toNat w}
def lP (s:HS) (h g k:Int):Re:=if ok8 h then (match wat s.bK g with|some (.th t)=>if 0≤k∧k<((fld s t).length:Int) then (none,qr s h ((fld s t).getD k.toNat .no)) else (some .field,s)|_=>(some .hand,s)) else (some .hand,s)
def iL (s:HS) (g k h:Int):Re:=match wat s.bK g with|some (.th t)=>(match wat s.bK h with|some w=>if 0≤k∧k<((fld s t).length:Int) then (none,{s with aN:=tV s.aN t ((fld s t).set k.toNat w)}) else (some .field,s)|none=>(some .hand,s))|_=>(some .hand,s)
def rJ (s:HS) (h g:Int):Re:=if ok8 h then (match wat s.bK g with|some w=>(none,qr s h w)|none=>(some .hand,s)) else (some .hand,s)
def vt (s:HS) (h:Int):Re:=if ok8 h then (none,qr s h .no) else (some .hand,s)
def jd (s:HS) (h x:Int):Re:=if ok8 h then (if Num x then (none,qr s h (.num x)) else (some .count,s)) else (some .hand,s)
def nj (s:HS) (w h:Int):Re:=match wat s.bK h with|some (.th t)=>if ok8 w then (none,{s with names:=s.names.set w.toNat (some t)}) else (some .name,s)|_=>(some .hand,s)
def nmW:Option Int→Wd
 | none=>.no
 | some t=>.th t
def lQ (s:HS) (h x:Int):Re:=match wat s.bK h with|some (.th t)=>(if Num x then (if s.bp.lookup t=none∧12≤s.bp.length then (some .words,s) else (none,{s with bp:=Hl s.bp t x})) else (some .count,s))|_=>(some .hand,s)
def oh (s:HS) (h n:Int):HS:={s with nxt:=s.nxt+1,aN:=s.aN++[(s.nxt,List.replicate n.toNat .no)],yng:=if s.my=true then s.yng++[s.nxt] else s.yng,bK:=s.bK.set h.toNat (.th s.nxt)}
def wsum (s:HS) (ts:List Int):Int:=(ts.map fun t=>((fld s t).length:Int)+1).sum
section
variable {D:Ad} {H:Hp} {x:Addr} {A:HA} {s:HS}
theorem IH.hn (J:IH D H x A s) (g:Good s):Hn D H A.hd A.hdx A.hl A.hx s.bK:=⟨J.ahd,J.ahl,J.rhl,g.h8⟩
theorem IH.ntb (J:IH D H x A s) (g:Good s):Nt D H A.nt A.ntx A.nl (s.names.map nmV):=⟨J.ant,J.anl,by rw [List.length_map];exact g.n8⟩
theorem IH.wtb (J:IH D H x A s):Wt D H A.wt A.wtx A.wb A.wl s.bp s.qb:=⟨J.awt,J.awb,J.awl⟩
theorem Qz {A:HA} {fs:List (Int×List Wd)} {t:Int}:lJ (fs.map (fkv A)) (Sum.inl t)=(fs.lookup t).map fun _=>V.ref (A.fa t):=Fy fun _=>rfl
theorem IH.Vj (J:IH D H x A s) (g:Good s) {t:Int} {ws:List Wd} (m:(t,ws)∈s.aN):pT H A.fh (.int t) (some (.ref (A.fa t))):=by
 have:=pT.k (k:=Sum.inl t) J.afh
 rw [Qz,g.get m] at this
 exact this
end
def Nz (D:Ad):Sp:=fun vs H Q E=>∃ x A s,∃ h g:Int,vs=[.ref x,.int h,.int g]∧IH D H x A s∧Good s∧Sm h∧Sm g∧Fin D x A s H (rJ s h g) Q E
abbrev Kn:List Str:=["self", "h", "g"]
theorem HQ:av Kn ["self", "h", "g"] (aq tZ):=⟨rfl,rfl,rfl,by decide +kernel,rfl,by decide +kernel,by decide +kernel⟩
theorem HR (F:Fun K "copy" "Heap.copy" tZ D.fZ D.lV) (T:Txt K mg D)
  (nk:Ok P w K mg base 5 D.gJ D.kI ["self", "h", "g"] (Lr D)):Ok P w K mg base 6 D.fZ D.lV ["self", "h", "g"] (Nz D):=by
 refine ⟨?_,F.binds (ps:=["self", "h", "g"]) fun _ _ _ _ _ _ us hl=>match us,hl with|[_,_,_],_=>rfl⟩
 refine F.okE HQ (fun vs H Q E h=>?_) (fun cdv A' outer s' H vs Q E hr h=>?_)
 ·obtain ⟨x,A,s,h,g,rfl,_⟩:=h
  rfl
 ·obtain ⟨x,A,s,h,g,rfl,J,G,hh,hg,k⟩:=h
  refine ⟨_,(ai (aH (aK (aG (pv 0) rfl) T.aV T.Ga nk.g (hr.mono (by decide)) nk.b .nil (Passes.x (aL fun _ _ _ q=>q)) (ab (pv 1) (ab (pv 2) ak))))),?_⟩
  refine ⟨_,rfl,x,D.aa,_,_,.ref A.hd,rfl,J.ax,T.ae,T.ay,m9,A.hd,A.hdx,_,rfl,J.ahd,rfl,_,rfl,_,rfl,A.hd,A.hdx,A.hl,A.hx,s.bK,h,g,rfl,J.hn G,hh,hg,?_⟩
  by_cases c:ok8 h
  ·rw [if_pos c]
   cases e:wat s.bK g with
   | none =>
    rw [show rJ s h g=(some .hand,s) by simp only [rJ,if_pos c,e]] at k
    exact k.bad J
   | some wd =>
    rw [show rJ s h g=(none,qr s h wd) by simp only [rJ,if_pos c,e]] at k
    exact fun v wv=>let w:=J.O7 (J.rhl.set (i:=h.toNat) wv);k _ _ w.1 w.2
  ·rw [if_neg c]
   rw [show rJ s h g=(some .hand,s) by simp only [rJ,if_neg c]] at k
   exact k.bad J
def NA (D:Ad):Sp:=fun vs H Q E=>∃ x A s,∃ h:Int,vs=[.ref x,.int h]∧IH D H x A s∧Good s∧Sm h∧Fin D x A s H (vt s h) Q E
abbrev Ko:List Str:=["self", "h"]
theorem HU:av Ko ["self", "h"] (aq t9):=⟨rfl,rfl,rfl,by decide +kernel,rfl,by decide +kernel,by decide +kernel⟩
theorem HV (F:Fun K "drop" "Heap.drop" t9 D.f7 D.lW) (T:Txt K mg D)
  (cj:Ok P w K mg base 4 D.eZ D.iu ["self", "h", "word"] (vK D)):Ok P w K mg base 5 D.f7 D.lW ["self", "h"] (NA D):=by
 refine ⟨?_,F.binds (ps:=["self", "h"]) fun _ _ _ _ _ _ us hl=>match us,hl with|[_,_],_=>rfl⟩
 refine F.okE HU (fun vs H Q E h=>?_) (fun cdv A' outer s' H vs Q E hr h=>?_)
 ·obtain ⟨x,A,s,h,rfl,_⟩:=h
  rfl
 ·obtain ⟨x,A,s,h,rfl,J,G,hh,k⟩:=h
  refine ⟨_,(ai (aH (aK (aG (pv 0) rfl) T.aV T.mY cj.g (hr.mono (by decide)) cj.b .nil (Passes.x (aL fun _ _ _ q=>q)) (ab (pv 1) (ab j2 ak))))),?_⟩
  refine ⟨_,rfl,x,D.aa,_,_,.ref A.hd,rfl,J.ax,T.ae,T.ay,m9,A.hd,A.hdx,_,rfl,J.ahd,rfl,_,rfl,A.hd,A.hdx,A.hl,A.hx,s.bK,.non,h,rfl,J.hn G,hh,?_⟩
  by_cases c:ok8 h
  ·rw [if_pos c]
   rw [show vt s h=(none,qr s h .no) by simp only [vt,if_pos c]] at k
   exact let w:=J.O7 (J.rhl.set (i:=h.toNat) (show WV H .non .no from rfl));k _ _ w.1 w.2
  ·rw [if_neg c]
   rw [show vt s h=(some .hand,s) by simp only [vt,if_neg c]] at k
   exact k.bad J
def Hm (D:Ad):Sp:=fun vs H Q E=>∃ x A s,∃ h z:Int,vs=[.ref x,.int h,.int z]∧IH D H x A s∧Good s∧Sm h∧Sm z∧Fin D x A s H (jd s h z) Q E
abbrev Gj:List Str:=["self", "h", "x"]
theorem EO:av Gj ["self", "h", "x"] (aq pD):=⟨rfl,rfl,rfl,by decide +kernel,rfl,by decide +kernel,by decide +kernel⟩
theorem ER (F:Fun K "number" "Heap.number" pD D.dS D.jL) (T:Txt K mg D)
  (kG:Ok P w K mg base 5 D.eX D.i7 ["self", "h", "x"] (Fz D)):Ok P w K mg base 6 D.dS D.jL ["self", "h", "x"] (Hm D):=by
 refine ⟨?_,F.binds (ps:=["self", "h", "x"]) fun _ _ _ _ _ _ us hl=>match us,hl with|[_,_,_],_=>rfl⟩
 refine F.okE EO (fun vs H Q E h=>?_) (fun cdv A' outer s' H vs Q E hr h=>?_)
 ·obtain ⟨x,A,s,h,z,rfl,_⟩:=h
  rfl
 ·obtain ⟨x,A,s,h,z,rfl,J,G,hh,hz,k⟩:=h
  refine ⟨_,(ai (aH (aK (aG (pv 0) rfl) T.aV T.DQ kG.g (hr.mono (by decide)) kG.b .nil (Passes.x (aL fun _ _ _ q=>q)) (ab (pv 1) (ab (pv 2) ak))))),?_⟩
  refine ⟨_,rfl,x,D.aa,_,_,.ref A.hd,rfl,J.ax,T.ae,T.ay,m9,A.hd,A.hdx,_,rfl,J.ahd,rfl,_,rfl,_,rfl,A.hd,A.hdx,A.hl,A.hx,s.bK,h,z,rfl,J.hn G,hh,hz,?_⟩
  by_cases c:ok8 h
  ·rw [if_pos c]
   by_cases g:Num z
   ·rw [if_pos g]
    rw [show jd s h z=(none,qr s h (.num z)) by simp only [jd,if_pos c,if_pos g]] at k
    exact fun t H1 s1 ht=>let J1:=J.same s1;let w:=J1.O7 (J1.rhl.set (i:=h.toNat) (show WV H1 (.ref t) (.num z) from ⟨t,rfl,ht⟩));k _ _ w.1 ((Fr.same s1).trans w.2)
   ·rw [if_neg g]
    rw [show jd s h z=(some .count,s) by simp only [jd,if_pos c,if_neg g]] at k
    exact k.bad J
  ·rw [if_neg c]
   rw [show jd s h z=(some .hand,s) by simp only [jd,if_neg c]] at k
   exact k.bad J
def NB (D:Ad):Sp:=fun vs H Q E=>∃ x A s,∃ w h:Int,vs=[.ref x,.int w,.int h]∧IH D H x A s∧Good s∧Sm w∧Sm h∧Fin D x A s H (nj s w h) Q E
abbrev Kp:List Str:=["self", "w", "h", "t"]
theorem AI:av Kp ["self", "w", "h"] (aq ua):=⟨rfl,rfl,rfl,by decide +kernel,rfl,by decide +kernel,by decide +kernel⟩
theorem HW (F:Fun K "name" "Heap.name" ua D.f9 D.lX) (T:Txt K mg D)
  (aF:Ok P w K mg base 6 D.aZ D.cc ["self", "h"] (jw D))
  (je:Ok P w K mg base 4 D.dD D.g4 ["self", "w", "t"] (Lu D)):Ok P w K mg base 7 D.f9 D.lX ["self", "w", "h"] (NB D):=by
 refine ⟨?_,F.binds (ps:=["self", "w", "h"]) fun _ _ _ _ _ _ us hl=>match us,hl with|[_,_,_],_=>rfl⟩
 refine F.okE AI (fun vs H Q E h=>?_) (fun cdv A' outer s' H vs Q E hr h=>?_)
 ·obtain ⟨x,A,s,w,h,rfl,_⟩:=h
  rfl
 ·obtain ⟨x,A,s,w,h,rfl,J,G,hw,hh,k⟩:=h
  refine ⟨_,(ao (bN (i:=3) AI.nd rfl (Or.inl rfl) (aK (aG (pv 0) rfl) T.aV T.gk aF.g (hr.mono (by decide)) aF.b .nil (Passes.x (aL fun _ _ _ q=>q)) (ab (pv 2) ak)))
   (ai (aH (aK (aG (pv 0) rfl) T.dU T.yc je.g (hr.mono (by decide)) je.b .nil (Passes.x (aL fun _ _ _ q=>q)) (ab (pv 1) (ab (pv 3) ak)))))),?_⟩
  refine ⟨_,rfl,x,D.aa,_,_,.ref A.hd,rfl,J.ax,T.ae,T.ay,m9,A.hd,A.hdx,_,rfl,J.ahd,rfl,_,rfl,A.hd,A.hdx,A.hl,A.hx,s.bK,h,rfl,J.hn G,hh,?_⟩
  cases e:wat s.bK h with
  | none =>
   rw [show nj s w h=(some .hand,s) by simp only [nj,e]] at k
   exact k.bad J
  | some wd =>
   cases wd with
   | no =>
    rw [show nj s w h=(some .hand,s) by simp only [nj,e]] at k
    exact k.bad J
   | num n =>
    rw [show nj s w h=(some .hand,s) by simp only [nj,e]] at k
    exact k.bad J
   | th t =>
    intro H1 s1
    have J1:=J.same s1
    refine ⟨_,rfl,x,D.aa,_,_,.ref A.nt,rfl,J1.ax,T.ae,T.dN,OY,A.nt,A.ntx,_,rfl,J1.ant,rfl,_,rfl,_,rfl,A.nt,A.ntx,A.nl,_,.int t,w,rfl,J1.ntb G,hw,?_⟩
    by_cases c:ok8 w
    ·rw [if_pos c]
     rw [show nj s w h=(none,{s with names:=s.names.set w.toNat (some t)}) by simp only [nj,e,if_pos c]] at k
     have w1:=J1.adF (ns:=s.names.set w.toNat (some t))
     rw [List.map_set] at w1
     exact k _ _ w1.1 ((Fr.same s1).trans w1.2)
    ·rw [if_neg c]
     rw [show nj s w h=(some .name,s) by simp only [nj,e,if_neg c]] at k
     exact Bad.same (k.bad J) s1
def ND (D:Ad):Sp:=fun vs H Q E=>∃ x A s,∃ h z:Int,vs=[.ref x,.int h,.int z]∧IH D H x A s∧Good s∧Sm h∧Sm z∧Fin D x A s H (lQ s h z) Q E
abbrev Kq:List Str:=["self", "h", "x", "t"]
theorem AJ:av Kq ["self", "h", "x"] (aq ub):=⟨rfl,rfl,rfl,by decide +kernel,rfl,by decide +kernel,by decide +kernel⟩
theorem HX (F:Fun K "word" "Heap.word" ub D.gb D.lY) (T:Txt K mg D)
  (aF:Ok P w K mg base 6 D.aZ D.cc ["self", "h"] (jw D))
  (dJ:Ok P w K mg base 3 D.b5 D.fP ["x"] (kx D))
  (jf:Ok P w K mg base 3 D.dB D.gY ["self", "t", "x"] (Ny D)):Ok P w K mg base 7 D.gb D.lY ["self", "h", "x"] (ND D):=by
 refine ⟨?_,F.binds (ps:=["self", "h", "x"]) fun _ _ _ _ _ _ us hl=>match us,hl with|[_,_,_],_=>rfl⟩
 refine F.okE AJ (fun vs H Q E h=>?_) (fun cdv A' outer s' H vs Q E hr h=>?_)
 ·obtain ⟨x,A,s,h,z,rfl,_⟩:=h
  rfl
 ·obtain ⟨x,A,s,h,z,rfl,J,G,hh,hz,k⟩:=h
  refine ⟨_,(ao (bN (i:=3) AJ.nd rfl (Or.inl rfl) (aK (aG (pv 0) rfl) T.aV T.gk aF.g (hr.mono (by decide)) aF.b .nil (Passes.x (aL fun _ _ _ q=>q)) (ab (pv 1) ak)))
   (ao (aH (aR dJ.g (hr.mono (by decide)) rfl T.qa T.jc dJ.b .nil (Passes.x (aL fun _ _ _ q=>q)) (ab (pv 2) ak)))
   (ai (aH (aK (aG (pv 0) rfl) T.bG T.x9 jf.g (hr.mono (by decide)) jf.b .nil (Passes.x (aL fun _ _ _ q=>q)) (ab (pv 3) (ab (pv 2) ak))))))),?_⟩
  refine ⟨_,rfl,x,D.aa,_,_,.ref A.hd,rfl,J.ax,T.ae,T.ay,m9,A.hd,A.hdx,_,rfl,J.ahd,rfl,_,rfl,A.hd,A.hdx,A.hl,A.hx,s.bK,h,rfl,J.hn G,hh,?_⟩
  cases e:wat s.bK h with
  | none =>
   rw [show lQ s h z=(some .hand,s) by simp only [lQ,e]] at k
   exact k.bad J
  | some wd =>
   cases wd with
   | no =>
    rw [show lQ s h z=(some .hand,s) by simp only [lQ,e]] at k
    exact k.bad J
   | num n =>
    rw [show lQ s h z=(some .hand,s) by simp only [lQ,e]] at k
    exact k.bad J
   | th t =>
    intro H1 s1
    have J1:=J.same s1
    refine ⟨_,rfl,z,rfl,hz,?_⟩
    by_cases g:Num z
    ·rw [if_pos g]
     refine ⟨_,rfl,x,D.aa,_,_,.ref A.wt,rfl,J1.ax,T.ae,T.dO,OZ,A.wt,A.wtx,_,rfl,J1.awt,rfl,_,rfl,_,rfl,A.wt,A.wtx,A.wb,A.wl,s.bp,s.qb,t,z,rfl,J1.wtb,G.b12,?_⟩
     by_cases c:s.bp.lookup t=none∧12≤s.bp.length
     ·rw [if_pos c]
      rw [show lQ s h z=(some .words,s) by simp only [lQ,e,if_pos g,if_pos c]] at k
      exact Bad.same (k.bad J) s1
     ·rw [if_neg c]
      rw [show lQ s h z=(none,{s with bp:=Hl s.bp t z}) by simp only [lQ,e,if_pos g,if_neg c]] at k
      have w1:=J1.ab5 (bs:=Hl s.bp t z)
      exact k _ _ w1.1 ((Fr.same s1).trans w1.2)
    ·rw [if_neg g]
     rw [show lQ s h z=(some .count,s) by simp only [lQ,e,if_neg g]] at k
     exact Bad.same (k.bad J) s1
def NG (D:Ad):Sp:=fun vs H Q E=>∃ x A s,∃ h g kk:Int,vs=[.ref x,.int h,.int g,.int kk]∧IH D H x A s∧Good s∧Sm h∧Sm g∧Sm kk∧Fin D x A s H (lP s h g kk) Q E
abbrev Kr:List Str:=["self", "h", "g", "k", "fields"]
theorem AK:av Kr ["self", "h", "g", "k"] (aq tY):=⟨rfl,rfl,rfl,by decide +kernel,rfl,by decide +kernel,by decide +kernel⟩
theorem HY (F:Fun K "load" "Heap.load" tY D.fY D.lU) (T:Txt K mg D)
  (aA:Ok P w K mg base 3 D.bo D.cz ["h"] (d7 D))
  (aF:Ok P w K mg base 6 D.aZ D.cc ["self", "h"] (jw D))
  (d8:Ok P w K mg base 3 D.cA D.gv ["k", "fields"] (lG D))
  (cj:Ok P w K mg base 4 D.eZ D.iu ["self", "h", "word"] (vK D)):Ok P w K mg base 7 D.fY D.lU ["self", "h", "g", "k"] (NG D):=by
 refine ⟨?_,F.binds (ps:=["self", "h", "g", "k"]) fun _ _ _ _ _ _ us hl=>match us,hl with|[_,_,_,_],_=>rfl⟩
 refine F.okE AK (fun vs H Q E h=>?_) (fun cdv A' outer s' H vs Q E hr h=>?_)
 ·obtain ⟨x,A,s,h,g,kk,rfl,_⟩:=h
  rfl
 ·obtain ⟨x,A,s,h,g,kk,rfl,J,G,hh,hg,hk,k⟩:=h
  have hu:=lI hr
  refine ⟨_,(ao (aH (aR aA.g (hr.mono (by decide)) rfl T.gp T.dY aA.b .nil (Passes.x (aL fun _ _ _ q=>q)) (ab (pv 1) ak)))
   (ao (bN (i:=4) AK.nd rfl (Or.inl rfl) (pU hu (aG (pv 0) rfl) (aK (aG (pv 0) rfl) T.aV T.gk aF.g (hr.mono (by decide)) aF.b .nil (Passes.x (aL fun _ _ _ q=>q)) (ab (pv 2) ak)) (fun _ _=>rfl)))
   (ao (aH (aR d8.g (hr.mono (by decide)) rfl T.rF T.jP d8.b .nil (Passes.x (aL fun _ _ _ q=>q)) (ab (pv 3) (ab (fX gI rfl T.vq PyProof.Rows.Boot.«len» (ab (pv 4) ak)) ak))))
   (ai (aH (aK (aG (pv 0) rfl) T.aV T.mY cj.g (hr.mono (by decide)) cj.b .nil (Passes.x (aL fun _ _ _ q=>q)) (ab (pv 1) (ab (br ck (pv 4) (pv 3) (fun _ _=>rfl)) ak)))))))),?_⟩
  refine ⟨_,rfl,h,rfl,hh,?_⟩
  by_cases c:ok8 h
  ·rw [if_pos c]
   refine ⟨_,rfl,x,D.aa,_,_,.ref A.fh,rfl,J.ax,T.ae,T.az,qi,_,rfl,x,D.aa,_,_,.ref A.hd,rfl,J.ax,T.ae,T.ay,m9,A.hd,A.hdx,_,rfl,J.ahd,rfl,_,rfl,A.hd,A.hdx,A.hl,A.hx,s.bK,g,rfl,J.hn G,hg,?_⟩
   cases e:wat s.bK g with
   | none =>
    rw [show lP s h g kk=(some .hand,s) by simp only [lP,e,if_pos c]] at k
    exact k.bad J
   | some wd =>
    cases wd with
    | no =>
     rw [show lP s h g kk=(some .hand,s) by simp only [lP,e,if_pos c]] at k
     exact k.bad J
    | num n =>
     rw [show lP s h g kk=(some .hand,s) by simp only [lP,e,if_pos c]] at k
     exact k.bad J
    | th t =>
     intro H1 s1
     have J1:=J.same s1
     have m:=G.hand e
     obtain ⟨hl,rl⟩:=J1.afl _ _ m
     refine ⟨A.fh,_,rfl,J1.Vj G m,?_⟩
     have f6:=G.f6 _ _ m
     have ln:((A.fx t).length:Int)=(fld s t).length:=by rw [rl.1]
     refine ⟨_,rfl,_,rfl,A.fa t,_,rfl,.inl (SqL.of hl),kk,_,rfl,hk,Sm.of (by omega) (by omega),?_⟩
     rw [ln]
     by_cases c2:0≤kk∧kk<((fld s t).length:Int)
     ·rw [if_pos c2]
      rw [show lP s h g kk=(none,qr s h ((fld s t).getD kk.toNat .no)) by simp only [lP,if_pos c,e,if_pos c2]] at k
      have hi:kk.toNat<(fld s t).length:=by omega
      obtain ⟨v,hv,wv⟩:=rl.get hi
      have gd:(fld s t).getD kk.toNat .no=(fld s t)[kk.toNat]:=by simp [List.getD,hi]
      rw [gd] at k
      refine ⟨_,rfl,x,D.aa,_,_,.ref A.hd,rfl,J1.ax,T.ae,T.ay,m9,A.hd,A.hdx,_,rfl,J1.ahd,rfl,_,rfl,_,rfl,_,rfl,A.fa t,_,kk,v,rfl,rfl,SqL.of hl,Gb c2.1 hv,A.hd,A.hdx,A.hl,A.hx,s.bK,v,h,rfl,J1.hn G,hh,?_⟩
      rw [if_pos c]
      exact let w:=J1.O7 (J1.rhl.set (i:=h.toNat) wv);k _ _ w.1 ((Fr.same s1).trans w.2)
     ·rw [if_neg c2]
      rw [show lP s h g kk=(some .field,s) by simp only [lP,if_pos c,e,if_neg c2]] at k
      exact Bad.same (k.bad J) s1
  ·rw [if_neg c]
   rw [show lP s h g kk=(some .hand,s) by simp only [lP,if_neg c]] at k
   exact k.bad J
def Lw (D:Ad):Sp:=fun vs H Q E=>∃ x A s,∃ g kk h:Int,vs=[.ref x,.int g,.int kk,.int h]∧IH D H x A s∧Good s∧Sm g∧Sm kk∧Sm h∧Fin D x A s H (iL s g kk h) Q E
abbrev HZ:List Str:=["self", "g", "k", "h", "fields", "value"]
theorem pJ:av HZ ["self", "g", "k", "h"] (aq qP):=⟨rfl,rfl,rfl,by decide +kernel,rfl,by decide +kernel,by decide +kernel⟩
theorem Gk (F:Fun K "store" "Heap.store" qP D.eS D.kK) (T:Txt K mg D)
  (aF:Ok P w K mg base 6 D.aZ D.cc ["self", "h"] (jw D))
  (bL:Ok P w K mg base 4 D.cB D.fq ["self", "h"] (rH D))
  (d8:Ok P w K mg base 3 D.cA D.gv ["k", "fields"] (lG D)):Ok P w K mg base 7 D.eS D.kK ["self", "g", "k", "h"] (Lw D):=by
 refine ⟨?_,F.binds (ps:=["self", "g", "k", "h"]) fun _ _ _ _ _ _ us hl=>match us,hl with|[_,_,_,_],_=>rfl⟩
 refine F.okE pJ (fun vs H Q E h=>?_) (fun cdv A' outer s' H vs Q E hr h=>?_)
 ·obtain ⟨x,A,s,g,kk,h,rfl,_⟩:=h
  rfl
 ·obtain ⟨x,A,s,g,kk,h,rfl,J,G,hg,hk,hh,k⟩:=h
  have hu:=lI hr
  refine ⟨_,(ao (bN (i:=4) pJ.nd rfl (Or.inl rfl) (pU hu (aG (pv 0) rfl) (aK (aG (pv 0) rfl) T.aV T.gk aF.g (hr.mono (by decide)) aF.b .nil (Passes.x (aL fun _ _ _ q=>q)) (ab (pv 1) ak)) (fun _ _=>rfl)))
   (ao (bN (i:=5) pJ.nd rfl (Or.inl rfl) (aK (aG (pv 0) rfl) T.aV T.lD bL.g (hr.mono (by decide)) bL.b .nil (Passes.x (aL fun _ _ _ q=>q)) (ab (pv 3) ak)))
   (ao (aH (aR d8.g (hr.mono (by decide)) rfl T.rF T.jP d8.b .nil (Passes.x (aL fun _ _ _ q=>q)) (ab (pv 2) (ab (fX gI rfl T.vq PyProof.Rows.Boot.«len» (ab (pv 4) ak)) ak))))
   (ai (F8 (pv 5) (F7 (pv 4) (pv 2) set_list)))))),?_⟩
  refine ⟨_,rfl,x,D.aa,_,_,.ref A.fh,rfl,J.ax,T.ae,T.az,qi,_,rfl,x,D.aa,_,_,.ref A.hd,rfl,J.ax,T.ae,T.ay,m9,A.hd,A.hdx,_,rfl,J.ahd,rfl,_,rfl,A.hd,A.hdx,A.hl,A.hx,s.bK,g,rfl,J.hn G,hg,?_⟩
  cases e:wat s.bK g with
  | none =>
   rw [show iL s g kk h=(some .hand,s) by simp only [iL,e]] at k
   exact k.bad J
  | some wd =>
   cases wd with
   | no =>
    rw [show iL s g kk h=(some .hand,s) by simp only [iL,e]] at k
    exact k.bad J
   | num n =>
    rw [show iL s g kk h=(some .hand,s) by simp only [iL,e]] at k
    exact k.bad J
   | th t =>
    intro H1 s1
    have J1:=J.same s1
    have m:=G.hand e
    obtain ⟨hl,rl⟩:=J1.afl _ _ m
    refine ⟨A.fh,_,rfl,J1.Vj G m,?_⟩
    refine ⟨_,rfl,x,D.aa,_,_,.ref A.hd,rfl,J1.ax,T.ae,T.ay,m9,A.hd,A.hdx,_,rfl,J1.ahd,rfl,_,rfl,A.hd,A.hdx,A.hl,A.hx,s.bK,h,rfl,J1.hn G,hh,?_⟩
    cases e2:wat s.bK h with
    | none =>
     rw [show iL s g kk h=(some .hand,s) by simp only [iL,e,e2]] at k
     exact Bad.same (k.bad J) s1
    | some wd =>
     intro v hv wv
     have f6:=G.f6 _ _ m
     have ln:((A.fx t).length:Int)=(fld s t).length:=by rw [rl.1]
     refine ⟨_,rfl,_,rfl,A.fa t,_,rfl,.inl (SqL.of hl),kk,_,rfl,hk,Sm.of (by omega) (by omega),?_⟩
     rw [ln]
     by_cases c2:0≤kk∧kk<((fld s t).length:Int)
     ·rw [if_pos c2]
      rw [show iL s g kk h=(none,{s with aN:=tV s.aN t ((fld s t).set kk.toNat wd)}) by simp only [iL,e,e2,if_pos c2]] at k
      refine ⟨_,rfl,_,rfl,_,rfl,A.fa t,_,kk,kk.toNat,rfl,rfl,hl,Q8 c2.1 (by omega),?_⟩
      exact let w:=J1.adJ m (rl.set (i:=kk.toNat) wv);k _ _ w.1 ((Fr.same s1).trans w.2)
     ·rw [if_neg c2]
      rw [show iL s g kk h=(some .field,s) by simp only [iL,e,e2,if_neg c2]] at k
      exact Bad.same (k.bad J) s1
theorem nr {b:Bool} {A B:Prop} (h:b=false) (k:B):if b=true then A else B:=by rw [h];exact k
theorem FA {b:Bool} {A B:Prop} (h:b=true) (k:A):if b=true then A else B:=by rw [h];exact k
theorem NH (k:Nat):(List.replicate k [V.non]).flatten=List.replicate k .non:=by
 induction k with
 | zero=>rfl
 | succ k ih=>rw [List.replicate_succ,List.flatten_cons,ih,List.replicate_succ];rfl
def keys (s:HS):List Int:=s.aN.map (·.1)
def held (s:HS):Int:=wsum s (keys s)
structure Raw (D:Ad) (H:Hp) (x dx:Addr) (my:Bool) (hd hdx hl nt ntx nl wt wtx wb wl fh yg:Addr):Prop where
 ax:H x=some (.ins D.aa dx [("makes_young",.bl my),("in_hands",.ref hd),("weak_names",.ref nt),("last_words",.ref wt),("fields_held",.ref fh),("young_things",.ref yg),("next_thing",.int 0)])
 ahd:H hd=some (.ins D.aY hdx [("words_held",.ref hl)])
 ahl:H hl=some (.lst (List.replicate 8 .non))
 ant:H nt=some (.ins D.aC ntx [("things_named",.ref nl)])
 anl:H nl=some (.lst (List.replicate 8 .non))
 awt:Wt D H wt wtx wb wl [] []
 afh:H fh=some (.dK [])
 ayg:H yg=some (.dK [])
 n1:hd≠nt
 n2:hl≠nl
 n3:hl≠wl
 n4:nl≠wl
 n5:wb≠fh
 n6:wb≠yg
 n7:fh≠yg
def s0 (my:Bool) (room limit:Int):HS:=⟨my,List.replicate 8 .no,List.replicate 8 none,[],[],[],[],0,room,limit,[],false⟩
theorem good0 {my:Bool} {room limit:Int}:Good (s0 my room limit) :=
 ⟨rfl,rfl,List.Pairwise.nil,(fun _ _ m=>by cases m),(fun _ _ m=>by cases m),(fun t m=>by have:=List.eq_of_mem_replicate m;cases this),(fun _ _ _ m=>by cases m),(fun t m=>by have:=List.eq_of_mem_replicate m;cases this),by show 0≤12;decide,(fun _ _ m=>by cases m),List.nodup_nil,by show (0:Int)≤0;decide,by show (0:Int)≤10000;decide,by show ((0:Nat):Int)+((0:Nat):Int)≤0;decide,(fun _ m=>by cases m),List.Pairwise.nil,(fun _ m=>by cases m),List.Pairwise.nil⟩
def AL (D:Ad):Sp:=fun vs H Q E=>∃ x dx,∃ my:Bool,vs=[.ref x,.bl my]∧H x=some (.ins D.aa dx [])∧∀ hd hdx hl nt ntx nl wt wtx wb wl fh yg H',Raw D H' x dx my hd hdx hl nt ntx nl wt wtx wb wl fh yg→But x H H'→(∀ b,b=hd∨b=hl∨b=nt∨b=nl∨b=wt∨b=wb∨b=wl∨b=fh∨b=yg→H b=none)→Q .non H'
abbrev D2:List Str:=["self", "makes_young"]
theorem Bz:av D2 ["self", "makes_young"] (aq mC):=⟨rfl,rfl,rfl,by decide +kernel,rfl,by decide +kernel,by decide +kernel⟩
theorem BA (F:Fun K "__init__" "Heap.__init__" mC D.cC D.iD) (T:Txt K mg D)
  (jg:Ok P w K mg base 1 D.dA D.gX ["self"] (vJ D))
  (gw:Ok P w K mg base 1 D.bU D.eN ["self"] (oB D))
  (gx:Ok P w K mg base 1 D.bT D.eL ["self"] (oE D)):Ok P w K mg base 3 D.cC D.iD ["self", "makes_young"] (AL D):=by
 refine ⟨?_,F.binds (ps:=["self", "makes_young"]) fun _ _ _ _ _ _ us hl=>match us,hl with|[_,_],_=>rfl⟩
 refine F.okE Bz (fun vs H Q E h=>?_) (fun cdv A' outer s' H vs Q E hr h=>?_)
 ·obtain ⟨x,dx,my,rfl,_⟩:=h
  rfl
 ·obtain ⟨x,dx,my,rfl,hx,k⟩:=h
  refine ⟨_,(ao (iq (pv 0) (pv 1) rfl)
   (ao (iq (pv 0) (FO T.FW jg.g (hr.mono (by decide)) rfl T.PM jg.b .nil (aL fun _ _ _ q=>q)) rfl)
   (ao (iq (pv 0) (FO T.qT gw.g (hr.mono (by decide)) rfl T.HE gw.b .nil (aL fun _ _ _ q=>q)) rfl)
   (ao (iq (pv 0) (FO T.qS gx.g (hr.mono (by decide)) rfl T.HD gx.b .nil (aL fun _ _ _ q=>q)) rfl)
   (ao (iq (pv 0) mG rfl)
   (ao (iq (pv 0) mG rfl)
   (ai (iq (pv 0) ar rfl)))))))),?_⟩
  have bk:∀ {H':Hp} {b:Addr} {u:HO},H' x=some u→But x H H'→H' b=none→H b=none:=fun {H' b u} hx' B h=>by
   cases q:H b with
   | none=>rfl
   | some v =>
    by_cases e:b=x
    ·rw [e,hx'] at h;cases h
    ·rw [B b v e q] at h;cases h
  have mk:∀ {H1 H2:Hp} {m mdx C:Addr},H1 m=none→H1 mdx=none→But m (upd (upd H1 mdx (.own m)) m (.ins C mdx [])) H2→aD H1 H2:=fun h1 h2 B b u q=>B b u (au q h1) (by rw [af (au q h1),af (au q h2)];exact q)
  have fr:∀ {H1:Hp} {m mdx C c:Addr},H1 m=none→H1 mdx=none→upd (upd H1 mdx (.own m)) m (.ins C mdx []) c=none→H1 c=none:=fun {H1 m mdx C c} h1 h2 h=>by
   cases q:H1 c with
   | none=>rfl
   | some v=>rw [af (au q h1),af (au q h2),q] at h;cases h
  refine ⟨_,rfl,_,rfl,x,D.aa,dx,_,rfl,hx,T.ae,T.gT,by show 0<1000;decide,?_⟩
  obtain ⟨H1,e1⟩:∃ H1,upd H x (.ins D.aa dx (iB "makes_young" (.bl my) []))=H1:=⟨_,rfl⟩
  have x1:H1 x=some (.ins D.aa dx [("makes_young",.bl my)]):=by rw [←e1];exact ah
  have B1:But x H H1:=by rw [←e1];exact But.self
  show Je _ _ _ _ (upd H x (.ins D.aa dx (iB "makes_young" (.bl my) [])))
  rw [e1]
  clear e1
  intro hd hdx hm1 hm2 hm3
  refine ⟨hd,hdx,rfl,ah,fun hl G1 b1 hc hcl hci=>⟨rfl,?_⟩⟩
  have S1:=mk hm1 hm2 b1
  have hl1:=fr hm1 hm2 hc
  refine ⟨_,rfl,x,D.aa,dx,_,rfl,S1 _ _ x1,T.ae,T.ay,by show 1<1000;decide,?_⟩
  obtain ⟨H2,e2⟩:∃ H2,upd G1 x (.ins D.aa dx (iB "in_hands" (.ref hd) [("makes_young",.bl my)]))=H2:=⟨_,rfl⟩
  have x2:H2 x=some (.ins D.aa dx [("makes_young",.bl my),("in_hands",.ref hd)]):=by rw [←e2];exact ah
  have P2:But x G1 H2:=by rw [←e2];exact But.self
  have B2:But x H H2:=(B1.trans fun b u _ q=>S1 b u q).trans P2
  show Je _ _ _ _ (upd G1 x (.ins D.aa dx (iB "in_hands" (.ref hd) [("makes_young",.bl my)])))
  rw [e2]
  clear e2
  have nhd:hd≠x:=Ne.symm (au x1 hm1)
  have nhl:hl≠x:=Ne.symm (au x1 hl1)
  have a2:=P2 _ _ nhd hci
  have l2:=P2 _ _ nhl hcl
  intro nt ntx nm1 nm2 nm3
  refine ⟨nt,ntx,rfl,ah,fun nl G2 b2 nc ncl nci=>⟨rfl,?_⟩⟩
  have S2:=mk nm1 nm2 b2
  have nl2:=fr nm1 nm2 nc
  refine ⟨_,rfl,x,D.aa,dx,_,rfl,S2 _ _ x2,T.ae,T.dN,by show 2<1000;decide,?_⟩
  obtain ⟨H3,e3⟩:∃ H3,upd G2 x (.ins D.aa dx (iB "weak_names" (.ref nt) [("makes_young",.bl my),("in_hands",.ref hd)]))=H3:=⟨_,rfl⟩
  have x3:H3 x=some (.ins D.aa dx [("makes_young",.bl my),("in_hands",.ref hd),("weak_names",.ref nt)]):=by rw [←e3];exact ah
  have P3:But x G2 H3:=by rw [←e3];exact But.self
  have B3:But x H H3:=(B2.trans fun b u _ q=>S2 b u q).trans P3
  show Je _ _ _ _ (upd G2 x (.ins D.aa dx (iB "weak_names" (.ref nt) [("makes_young",.bl my),("in_hands",.ref hd)])))
  rw [e3]
  clear e3
  have nnt:nt≠x:=Ne.symm (au x2 nm1)
  have nnl:nl≠x:=Ne.symm (au x2 nl2)
  have a3:=P3 _ _ nhd (S2 _ _ a2)
  have l3:=P3 _ _ nhl (S2 _ _ l2)
  have t3:=P3 _ _ nnt nci
  have m3:=P3 _ _ nnl ncl
  intro wt wtx wm1 wm2 wm3
  refine ⟨wt,wtx,rfl,ah,fun wb wl G3 b3 wc1 wc2 W=>⟨rfl,?_⟩⟩
  have S3:=mk wm1 wm2 b3
  have wb3:=fr wm1 wm2 wc1
  have wl3:=fr wm1 wm2 wc2
  refine ⟨_,rfl,x,D.aa,dx,_,rfl,S3 _ _ x3,T.ae,T.dO,by show 3<1000;decide,?_⟩
  obtain ⟨H4,e4⟩:∃ H4,upd G3 x (.ins D.aa dx (iB "last_words" (.ref wt) [("makes_young",.bl my),("in_hands",.ref hd),("weak_names",.ref nt)]))=H4:=⟨_,rfl⟩
  have x4:H4 x=some (.ins D.aa dx [("makes_young",.bl my),("in_hands",.ref hd),("weak_names",.ref nt),("last_words",.ref wt)]):=by rw [←e4];exact ah
  have P4:But x G3 H4:=by rw [←e4];exact But.self
  have B4:But x H H4:=(B3.trans fun b u _ q=>S3 b u q).trans P4
  show Je _ _ _ _ (upd G3 x (.ins D.aa dx (iB "last_words" (.ref wt) [("makes_young",.bl my),("in_hands",.ref hd),("weak_names",.ref nt)])))
  rw [e4]
  clear e4
  have nwt:wt≠x:=Ne.symm (au x3 wm1)
  have nwb:wb≠x:=Ne.symm (au x3 wb3)
  have nwl:wl≠x:=Ne.symm (au x3 wl3)
  have W4:Wt D H4 wt wtx wb wl [] []:=⟨P4 _ _ nwt W.i,P4 _ _ nwb W.b,P4 _ _ nwl W.l⟩
  have a4:=P4 _ _ nhd (S3 _ _ a3)
  have l4:=P4 _ _ nhl (S3 _ _ l3)
  have t4:=P4 _ _ nnt (S3 _ _ t3)
  have m4:=P4 _ _ nnl (S3 _ _ m3)
  intro fh hfh
  have nfh:fh≠x:=Ne.symm (au x4 hfh)
  refine ⟨_,rfl,x,D.aa,dx,_,rfl,aD.upd hfh _ _ x4,T.ae,T.az,by show 4<1000;decide,?_⟩
  obtain ⟨H5,e5⟩:∃ H5,upd (upd H4 fh (.dK [])) x (.ins D.aa dx (iB "fields_held" (.ref fh) [("makes_young",.bl my),("in_hands",.ref hd),("weak_names",.ref nt),("last_words",.ref wt)]))=H5:=⟨_,rfl⟩
  have x5:H5 x=some (.ins D.aa dx [("makes_young",.bl my),("in_hands",.ref hd),("weak_names",.ref nt),("last_words",.ref wt),("fields_held",.ref fh)]):=by rw [←e5];exact ah
  have P5:But x H4 H5:=by rw [←e5];exact (But.upd hfh).trans But.self
  have f5:H5 fh=some (.dK []):=by rw [←e5,af nfh];exact ah
  show Je _ _ _ _ (upd (upd H4 fh (.dK [])) x (.ins D.aa dx (iB "fields_held" (.ref fh) [("makes_young",.bl my),("in_hands",.ref hd),("weak_names",.ref nt),("last_words",.ref wt)])))
  rw [e5]
  clear e5
  intro yg hyg
  have nyg:yg≠x:=Ne.symm (au x5 hyg)
  refine ⟨_,rfl,x,D.aa,dx,_,rfl,aD.upd hyg _ _ x5,T.ae,T.aX,by show 5<1000;decide,?_⟩
  obtain ⟨H6,e6⟩:∃ H6,upd (upd H5 yg (.dK [])) x (.ins D.aa dx (iB "young_things" (.ref yg) [("makes_young",.bl my),("in_hands",.ref hd),("weak_names",.ref nt),("last_words",.ref wt),("fields_held",.ref fh)]))=H6:=⟨_,rfl⟩
  have x6:H6 x=some (.ins D.aa dx [("makes_young",.bl my),("in_hands",.ref hd),("weak_names",.ref nt),("last_words",.ref wt),("fields_held",.ref fh),("young_things",.ref yg)]):=by rw [←e6];exact ah
  have P6:But x H5 H6:=by rw [←e6];exact (But.upd hyg).trans But.self
  have y6:H6 yg=some (.dK []):=by rw [←e6,af nyg];exact ah
  skip
  rw [e6]
  clear e6
  have B5:But x H H5:=B4.trans P5
  have B6:But x H H6:=B5.trans P6
  have P7:∀ {o:HO},But x H6 (upd H6 x o):=But.self
  have P47:∀ {o:HO} {b:Addr} {u:HO},b≠x→H4 b=some u→upd H6 x o b=some u:=fun n q=>P7 _ _ n (P6 _ _ n (P5 _ _ n q))
  refine ⟨_,rfl,x,D.aa,dx,_,rfl,x6,T.ae,T.fB,by show 6<1000;decide,k hd hdx hl nt ntx nl wt wtx wb wl fh yg _ ⟨ah,P47 nhd a4,P47 nhl l4,P47 nnt t4,P47 nnl m4,⟨P47 nwt W4.i,P47 nwb W4.b,P47 nwl W4.l⟩,P7 _ _ nfh (P6 _ _ nfh f5),P7 _ _ nyg y6,au a2 nm1,au l2 nl2,au l3 wl3,au m3 wl3,au W4.b hfh,au (P5 _ _ nwb W4.b) hyg,au f5 hyg⟩ (B6.trans But.self) (fun b hb=>?_)⟩
  rcases hb with rfl|rfl|rfl|rfl|rfl|rfl|rfl|rfl|rfl
  ·exact bk x1 B1 hm1
  ·exact bk x1 B1 hl1
  ·exact bk x2 B2 nm1
  ·exact bk x2 B2 nl2
  ·exact bk x3 B3 wm1
  ·exact bk x3 B3 wb3
  ·exact bk x3 B3 wl3
  ·exact bk x4 B4 hfh
  ·exact bk x5 B5 hyg
def vN (D:Ad):Sp:=fun vs H Q E=>∃ x dx,∃ y l:Int,vs=[.ref x,.int y,.int l]∧H x=some (.ins D.aa dx [])∧(y=0∨(7≤y∧y≤64))∧7≤l∧l≤400∧∀ A H',IH D H' x A (s0 (decide (y>0)) y l)→But x H H'→(∀ b,aS x A (s0 (decide (y>0)) y l) b→b=x∨H b=none)→Q .non H'
abbrev sT:List Str:=["self", "young", "limit"]
theorem rR:av sT ["self", "young", "limit"] (aq i3):=⟨rfl,rfl,rfl,by decide +kernel,rfl,by decide +kernel,by decide +kernel⟩
theorem rS (F:Fun K "__init__" "IdealHeap.__init__" i3 D.bV D.eP) (T:Txt K mg D)
  (jh:Ok P w K mg base 3 D.cK D.gW ["young", "limit"] (oA))
  (jQ:Ok P w K mg base 3 D.cC D.iD ["self", "makes_young"] (AL D)):Ok P w K mg base 4 D.bV D.eP ["self", "young", "limit"] (vN D):=by
 refine ⟨?_,F.binds (ps:=["self", "young", "limit"]) fun _ _ _ _ _ _ us hl=>match us,hl with|[_,_,_],_=>rfl⟩
 refine F.okE rR (fun vs H Q E h=>?_) (fun cdv A' outer s' H vs Q E hr h=>?_)
 ·obtain ⟨x,dx,y,l,rfl,_⟩:=h
  rfl
 ·obtain ⟨x,dx,y,l,rfl,hx,hy,l0,l1,k⟩:=h
  refine ⟨_,(ao (aH (aR jh.g (hr.mono (by decide)) rfl T.Bo T.lE jh.b .nil (Passes.x (aL fun _ _ _ q=>q)) (ab (pv 1) (ab (pv 2) ak))))
   (ao (aH (Yd rfl T.RR T.RS jQ.g (hr.mono (by decide)) jQ.b (Passes.x (aL fun _ _ _ q=>q)) (ab (pv 0) (ab (vx AV (pv 1) ar (bJ _)) ak))))
   (ao (iq (pv 0) (pv 1) rfl)
   (ao (iq (pv 0) (pv 2) rfl)
   (ao (iq (pv 0) mG rfl)
   (ai (iq (pv 0) vk rfl))))))),?_⟩
  refine ⟨_,rfl,_,rfl,y,l,rfl,hy,l0,l1,?_⟩
  refine ⟨_,rfl,_,rfl,y,0,rfl,rfl,x,dx,_,rfl,hx,fun hd hdx hl nt ntx nl wt wtx wb wl fh yg H1 R B1 fr=>?_⟩
  obtain ⟨my,emy⟩:∃ my:Bool,decide (y>0)=my:=⟨_,rfl⟩
  rw [emy] at R k
  have nx:∀ b,H b=none→b≠x:=fun b h e=>by rw [e,hx] at h;cases h
  refine ⟨_,rfl,_,rfl,x,D.aa,dx,_,rfl,R.ax,T.ae,T.j8,by show 7<1000;decide,?_⟩
  refine ⟨_,rfl,_,rfl,x,D.aa,dx,_,rfl,ah,T.ae,T.oy,by show 8<1000;decide,?_⟩
  intro dm hdm
  have ndm:dm≠x:=fun e=>by rw [e,ah] at hdm;cases hdm
  have QA:H1 dm=none:=by rw [af ndm,af ndm] at hdm;exact hdm
  refine ⟨_,rfl,x,D.aa,dx,_,rfl,(by rw [af (Ne.symm ndm)];exact ah),T.ae,T.aT,by show 9<1000;decide,?_⟩
  refine ⟨_,rfl,x,D.aa,dx,_,rfl,ah,T.ae,T.dz,by show 10<1000;decide,?_⟩
  have adK:H dm=none:=by
   cases q:H dm with
   | none=>rfl
   | some u=>rw [B1 _ _ ndm q] at QA;cases QA
  have P:∀ {o1 o2 o3 o4:HO},But x H1 (upd (upd (upd (upd (upd H1 x o1) x o2) dm (.dK [])) x o3) x o4):=fun {o1 o2 o3 o4}=>(((But.self.trans But.self).trans (But.upd (by rw [af ndm,af ndm];exact QA))).trans But.self).trans But.self
  have d2:∀ {o1 o2 o3 o4:HO},upd (upd (upd (upd (upd H1 x o1) x o2) dm (.dK [])) x o3) x o4 dm=some (.dK []):=fun {o1 o2 o3 o4}=>by rw [af ndm,af ndm];exact ah
  have f:=fun (b:Addr) (h:b=hd∨b=hl∨b=nt∨b=nl∨b=wt∨b=wb∨b=wl∨b=fh∨b=yg)=>nx b (fr b h)
  have n1:=f hd (.inl rfl)
  have n2:=f hl (.inr (.inl rfl))
  have n3:=f nt (.inr (.inr (.inl rfl)))
  have n4:=f nl (.inr (.inr (.inr (.inl rfl))))
  have n5:=f wt (.inr (.inr (.inr (.inr (.inl rfl)))))
  have n6:=f wb (.inr (.inr (.inr (.inr (.inr (.inl rfl))))))
  have n7:=f wl (.inr (.inr (.inr (.inr (.inr (.inr (.inl rfl)))))))
  have n8:=f fh (.inr (.inr (.inr (.inr (.inr (.inr (.inr (.inl rfl))))))))
  have n9:=f yg (.inr (.inr (.inr (.inr (.inr (.inr (.inr (.inr rfl))))))))
  refine k ⟨dx,hd,hdx,hl,List.replicate 8 .non,nt,ntx,nl,wt,wtx,wb,wl,fh,fun _=>0,fun _=>[],yg,dm⟩ _ ⟨ah,P _ _ n1 R.ahd,P _ _ n2 R.ahl,Rel.nil,P _ _ n3 R.ant,P _ _ n4 R.anl,P _ _ n5 R.awt.i,P _ _ n6 R.awt.b,P _ _ n7 R.awt.l,P _ _ n8 R.afh,(fun _ _ m=>by cases m),P _ _ n9 R.ayg,d2,R.n1,R.n2,R.n3,R.n4,(fun _ _ m=>by cases m),(fun _ _ _ _ m=>by cases m),R.n5,R.n6,au R.awt.b QA,R.n7,au R.afh QA,au R.ayg QA⟩ (B1.trans P) (fun b hb=>?_)
  cases hb with
  | x=>exact .inl rfl
  | hd=>exact .inr (fr hd (.inl rfl))
  | hl=>exact .inr (fr hl (.inr (.inl rfl)))
  | nt=>exact .inr (fr nt (.inr (.inr (.inl rfl))))
  | nl=>exact .inr (fr nl (.inr (.inr (.inr (.inl rfl)))))
  | wt=>exact .inr (fr wt (.inr (.inr (.inr (.inr (.inl rfl))))))
  | wb=>exact .inr (fr wb (.inr (.inr (.inr (.inr (.inr (.inl rfl)))))))
  | wl=>exact .inr (fr wl (.inr (.inr (.inr (.inr (.inr (.inr (.inl rfl))))))))
  | fh=>exact .inr (fr fh (.inr (.inr (.inr (.inr (.inr (.inr (.inr (.inl rfl)))))))))
  | yg=>exact .inr (fr yg (.inr (.inr (.inr (.inr (.inr (.inr (.inr (.inr rfl)))))))))
  | dm=>exact .inr adK
  | fl m=>cases m
theorem QB {fs:List (Key×V)} {t:Int} {v:V} (h:lJ fs (Sum.inl t)=none):putK fs (Sum.inl t) v=fs++[(Sum.inl t,v)]:=AX v h
theorem ab9 {ts:List Int} {t:Int}:(lJ (ts.map tkv) (Sum.inl t)).isSome=decide (t∈ts):=by
 induction ts with
 | nil=>rfl
 | cons a r ih =>
  rw [List.map_cons]
  by_cases e:a=t
  ·subst e
   rw [oo (p:=tkv a) (k:=Sum.inl a) rfl]
   simp
  ·rw [oq (p:=tkv a) (fun z=>e (Sum.inl.inj z)),ih]
   have:(t∈a::r)↔t∈r:=by
    rw [List.mem_cons]
    exact ⟨fun h=>h.elim (fun z=>absurd z.symm e) id,.inr⟩
   simp only [this]
theorem Good.JI {s:HS} (g:Good s):∀ w,(s.nxt,w)∉s.aN:=fun w m=>by have:=(g.lt _ _ m).2;omega
def QC (D:Ad):Sp:=fun vs H Q E=>∃ x A s,∃ h n:Int,vs=[.ref x,.int h,.int n]∧IH D H x A s∧Good s∧ok8 h∧0≤n∧n≤6∧∀ A' H',IH D H' x A' (oh s h n)→Fr (aS x A s) H (aS x A' (oh s h n)) H'→Q .non H'
theorem M9:∀ (n:Nat) (l:List Int) (a:Int),l.Pairwise (·< ·)→(∀ t∈l,a≤t∧t<a+n)→l.length≤n
 | _,[],_,_,_=>Nat.zero_le _
 | 0,b::r,a,_,h=>by have:=h b List.mem_cons_self;omega
 | n+1,b::r,a,p,h=>by
  have hb:=h b List.mem_cons_self
  have:=M9 n r (a+1) (List.pairwise_cons.mp p).2 fun t m=>by
   have h1:=(List.pairwise_cons.mp p).1 t m
   have h2:=h t (List.mem_cons_of_mem _ m)
   omega
  rw [List.length_cons]
  omega
theorem Gm {s:HS} (g:Good s):s.yng.length≤10000:=by
 refine M9 10000 s.yng 0 g.Dw fun t m=>?_
 obtain ⟨ws,m⟩:=g.yk t m
 have:=g.lt _ _ m
 have:=g.nx
 omega
theorem Jp {s:HS} (g:Good s):s.dI.length≤10000:=by
 refine M9 10000 s.dI 0 g.EB fun t m=>?_
 obtain ⟨ws,m⟩:=g.dk t m
 have:=g.lt _ _ m
 have:=g.nx
 omega
abbrev BB:List Str:=["self", "h", "n", "t"]
theorem oH:av BB ["self", "h", "n"] (aq lj):=⟨rfl,rfl,rfl,by decide +kernel,rfl,by decide +kernel,by decide +kernel⟩
theorem yL (F:Fun K "add_thing" "Heap.add_thing" lj D.b7 D.g5) (T:Txt K mg D)
  (cD:Ok P w K mg base 3 D.da D.gO ["t"] (kD))
  (cj:Ok P w K mg base 4 D.eZ D.iu ["self", "h", "word"] (vK D)):Ok P w K mg base 5 D.b7 D.g5 ["self", "h", "n"] (QC D):=by
 refine ⟨?_,F.binds (ps:=["self", "h", "n"]) fun _ _ _ _ _ _ us hl=>match us,hl with|[_,_,_],_=>rfl⟩
 refine F.okE oH (fun vs H Q E h=>?_) (fun cdv A' outer s' H vs Q E hr h=>?_)
 ·obtain ⟨x,A,s,h,n,rfl,_⟩:=h
  rfl
 ·obtain ⟨x,A,s,h,n,rfl,J,G,c,n0,n6,k⟩:=h
  have hu:=lI hr
  refine ⟨_,(ao (bN (i:=3) oH.nd rfl (Or.inl rfl) (aG (pv 0) rfl))
   (ao (iq (pv 0) (bR mP (pv 3) ar) rfl)
   (ao (sI hu (aG (pv 0) rfl) (pv 3) (bR JA (hR (ab j2 ak)) (pv 2)) rfl)
   (ao (di (vw (aG (pv 0) rfl))
    (ai (sI hu (aG (pv 0) rfl) (pv 3) vk rfl))
    bC)
   (ai (aH (aK (aG (pv 0) rfl) T.aV T.mY cj.g (hr.mono (by decide)) cj.b .nil (Passes.x (aL fun _ _ _ q=>q)) (ab (pv 1) (ab (aR cD.g (hr.mono (by decide)) rfl T.pH T.jN cD.b .nil (Passes.x (aL fun _ _ _ q=>q)) (ab (pv 3) ak)) ak))))))))),?_⟩
  refine ⟨_,rfl,x,D.aa,_,_,.int s.nxt,rfl,J.ax,T.ae,T.fB,Vh,?_⟩
  refine ⟨_,rfl,s.nxt,1,rfl,rfl,_,rfl,x,D.aa,A.dx,_,rfl,J.ax,T.ae,T.fB,by show 11<1000;decide,?_⟩
  have w1:=J.adI (n:=s.nxt+1)
  obtain ⟨H1,e1⟩:∃ H1,upd H x (.ins D.aa A.dx (iB "next_thing" (.int (s.nxt+1)) (atts A s)))=H1:=⟨_,rfl⟩
  rw [e1] at w1
  show Je _ _ _ _ (upd H x (.ins D.aa A.dx (iB "next_thing" (.int (s.nxt+1)) (atts A s))))
  rw [e1]
  clear e1
  obtain ⟨J1,F1⟩:=w1
  refine ⟨by show 1≤sizeLine;decide,fun p hp=>⟨_,rfl,p,n,_,rfl,rfl,ah,by omega,by omega,oa (by show 1*n.toNat≤20000;omega),fun q hq=>?_⟩⟩
  rw [NH]
  have s2:aD H1 (upd H1 p (.lst [.non])):=aD.upd hp
  have J2:=J1.same s2
  have w2:=J2.abI (t:=s.nxt) (xs:=List.replicate n.toNat .non) (ws:=List.replicate n.toNat .no) hq G.JI Rel.nil
  obtain ⟨J3,F3⟩:=w2
  have J2':=J2.same (aD.upd (o:=.lst (List.replicate n.toNat .non)) hq)
  have vn:lJ (s.aN.map (fkv A)) (Sum.inl s.nxt)=none:=by
   rw [Qz]
   cases e:s.aN.lookup s.nxt with
   | none=>rfl
   | some w=>exact absurd (lookup_some e) (G.JI w)
  have dp:=Ha.k (k:=Sum.inl s.nxt) (v:=.ref q) J2'.afh (by rw [List.length_map];exact vM (Nat.le_trans G.few (by decide)))
  rw [show putK ((({s with nxt:=s.nxt+1}:HS).aN).map (fkv A)) (Sum.inl s.nxt) (.ref q)=s.aN.map (fkv A)++[(Sum.inl s.nxt,.ref q)] from QB vn] at dp
  refine ⟨_,rfl,x,D.aa,_,_,.ref A.fh,rfl,J2'.ax,T.ae,T.az,qi,_,rfl,A.fh,_,rfl,dp,?_⟩
  have F03:=(F1.trans (Fr.same s2)).trans F3
  obtain ⟨A3,eA⟩:∃ A3:HA,{A with fa:=fun u=>if u=s.nxt then q else A.fa u,fx:=fun u=>if u=s.nxt then List.replicate n.toNat V.non else A.fx u}=A3:=⟨_,rfl⟩
  obtain ⟨H3,e3⟩:∃ H3,upd (upd (upd H1 p (.lst [.non])) q (.lst (List.replicate n.toNat .non))) A.fh (.dK (s.aN.map (fkv A)++[(Sum.inl s.nxt,.ref q)]))=H3:=⟨_,rfl⟩
  have J3:IH D H3 x A3 {s with nxt:=s.nxt+1,aN:=s.aN++[(s.nxt,List.replicate n.toNat .no)]}:=by rw [←e3,←eA];exact J3
  have F03:Fr (aS x A s) H (aS x A3 {s with nxt:=s.nxt+1,aN:=s.aN++[(s.nxt,List.replicate n.toNat .no)]}) H3:=by rw [←e3,←eA];exact F03
  show Je _ _ _ _ (upd (upd (upd H1 p (.lst [.non])) q (.lst (List.replicate n.toNat .non))) A.fh (.dK (s.aN.map (fkv A)++[(Sum.inl s.nxt,.ref q)])))
  rw [e3]
  clear e3 eA dp J2'
  have fin:∀ (A4:HA) (H4:Hp) (ys:List Int),IH D H4 x A4 {s with nxt:=s.nxt+1,aN:=s.aN++[(s.nxt,List.replicate n.toNat .no)],yng:=ys}→Fr (aS x A s) H (aS x A4 {s with nxt:=s.nxt+1,aN:=s.aN++[(s.nxt,List.replicate n.toNat .no)],yng:=ys}) H4→(if s.my=true then s.yng++[s.nxt] else s.yng)=ys→∀ (t:Addr) (H5:Hp),aD H4 H5→H5 t=some (.tup [.str "thing",.int s.nxt])→vK D [.ref A4.hd,.int h,.ref t] H5 (fun _ H'=>Q .non H') E:=by
   intro A4 H4 ys J4 F4 ey t H5 s5 ht
   have J5:=J4.same s5
   refine ⟨A4.hd,A4.hdx,A4.hl,A4.hx,s.bK,.ref t,h,rfl,⟨J5.ahd,J5.ahl,J5.rhl,G.h8⟩,Sm.of (by omega) (by omega),?_⟩
   rw [if_pos c]
   have w:=J5.O7 (J5.rhl.set (i:=h.toNat) (show WV H5 (.ref t) (.th s.nxt) from ⟨t,rfl,ht⟩))
   have e:oh s h n={s with nxt:=s.nxt+1,aN:=s.aN++[(s.nxt,List.replicate n.toNat .no)],yng:=ys,bK:=s.bK.set h.toNat (.th s.nxt)}:=by unfold oh;rw [ey]
   rw [e] at k
   exact k _ _ w.1 ((F4.trans (Fr.same s5)).trans w.2)
  refine ⟨_,rfl,x,D.aa,_,_,_,rfl,J3.ax,T.ae,T.gT,Vg,_,rfl,?_⟩
  by_cases my:s.my=true
  ·refine FA my ⟨_,rfl,x,D.aa,_,_,_,rfl,J3.ax,T.ae,T.aX,JG,_,rfl,A3.yg,_,rfl,Ha.k (k:=Sum.inl s.nxt) J3.ayg (by rw [List.length_map];exact vM (Nat.le_trans (show s.yng.length≤10000 from Gm G) (by decide))),?_⟩
   have vy:lJ (s.yng.map tkv) (Sum.inl s.nxt)=none:=by
    have:=ab9 (ts:=s.yng) (t:=s.nxt)
    rw [decide_eq_false (fun m=>by obtain ⟨ws,m⟩:=G.yk _ m;exact G.JI ws m)] at this
    cases q:lJ (s.yng.map tkv) (Sum.inl s.nxt) with
    | none=>rfl
    | some v=>rw [q] at this;cases this
   have w4:=J3.adH (ts:=s.yng++[s.nxt])
   rw [List.map_append] at w4
   rw [show putK ((({s with nxt:=s.nxt+1,aN:=s.aN++[(s.nxt,List.replicate n.toNat .no)]}:HS).yng).map tkv) (Sum.inl s.nxt) (.bl true)=s.yng.map tkv++[s.nxt].map tkv from QB vy]
   obtain ⟨J4,F4⟩:=w4
   refine ⟨_,rfl,x,D.aa,_,_,_,rfl,J4.ax,T.ae,T.ay,m9,A3.hd,A3.hdx,_,rfl,J4.ahd,rfl,_,rfl,_,rfl,s.nxt,rfl,G.n0,fun t H5 s5 ht=>?_⟩
   exact fin _ _ _ J4 (F03.trans F4) (by rw [if_pos my]) t H5 s5 ht
  ·refine nr (Bool.eq_false_iff.mpr my) ?_
   refine ⟨_,rfl,x,D.aa,_,_,_,rfl,J3.ax,T.ae,T.ay,m9,A3.hd,A3.hdx,_,rfl,J3.ahd,rfl,_,rfl,_,rfl,s.nxt,rfl,G.n0,fun t H5 s5 ht=>?_⟩
   exact fin _ _ _ J3 F03 (by rw [if_neg my]) t H5 s5 ht
def Lx (D:Ad):Sp:=fun vs H Q E=>∃ x A s,∃ h w:Int,vs=[.ref x,.int h,.int w]∧IH D H x A s∧Good s∧Sm h∧Sm w∧(if ok8 h then (if ok8 w then ∀ A' H',IH D H' x A' (qr s h (nmW (s.names.getD w.toNat none)))→Fr (aS x A s) H (aS x A' (qr s h (nmW (s.names.getD w.toNat none)))) H'→Q (nmV (s.names.getD w.toNat none)) H' else Bad D.en H E) else Bad D.bF H E)
abbrev yM:List Str:=["self", "h", "w", "t"]
theorem nE:av yM ["self", "h", "w"] (aq kh):=⟨rfl,rfl,rfl,by decide +kernel,rfl,by decide +kernel,by decide +kernel⟩
theorem wm (F:Fun K "read_thing" "Heap.read_thing" kh D.bQ D.gC) (T:Txt K mg D)
  (aA:Ok P w K mg base 3 D.bo D.cz ["h"] (d7 D))
  (iO:Ok P w K mg base 4 D.cP D.gB ["self", "w"] (Lv D))
  (cj:Ok P w K mg base 4 D.eZ D.iu ["self", "h", "word"] (vK D))
  (cD:Ok P w K mg base 3 D.da D.gO ["t"] (kD)):Ok P w K mg base 5 D.bQ D.gC ["self", "h", "w"] (Lx D):=by
 refine ⟨?_,F.binds (ps:=["self", "h", "w"]) fun _ _ _ _ _ _ us hl=>match us,hl with|[_,_,_],_=>rfl⟩
 refine F.okE nE (fun vs H Q E h=>?_) (fun cdv A' outer s' H vs Q E hr h=>?_)
 ·obtain ⟨x,A,s,h,w,rfl,_⟩:=h
  rfl
 ·obtain ⟨x,A,s,h,w,rfl,J,G,hh,hw,k⟩:=h
  refine ⟨_,(ao (aH (aR aA.g (hr.mono (by decide)) rfl T.gp T.dY aA.b .nil (Passes.x (aL fun _ _ _ q=>q)) (ab (pv 1) ak)))
   (ao (bN (i:=3) nE.nd rfl (Or.inl rfl) (aK (aG (pv 0) rfl) T.dU T.vV iO.g (hr.mono (by decide)) iO.b .nil (Passes.x (aL fun _ _ _ q=>q)) (ab (pv 2) ak)))
   (ao (aH (aK (aG (pv 0) rfl) T.aV T.mY cj.g (hr.mono (by decide)) cj.b .nil (Passes.x (aL fun _ _ _ q=>q)) (ab (pv 1) (ab (AU (aW MZ (pv 3) j2 (bJ _)) j2 (aR cD.g (hr.mono (by decide)) rfl T.pH T.jN cD.b .nil (Passes.x (aL fun _ _ _ q=>q)) (ab (pv 3) ak))) ak))))
   (ai (aP (pv 3)))))),?_⟩
  refine ⟨_,rfl,h,rfl,hh,?_⟩
  by_cases c:ok8 h
  ·rw [if_pos c] at k ⊢
   refine ⟨_,rfl,x,D.aa,_,_,.ref A.nt,rfl,J.ax,T.ae,T.dN,OY,A.nt,A.ntx,_,rfl,J.ant,rfl,_,rfl,A.nt,A.ntx,A.nl,_,w,rfl,J.ntb G,hw,?_⟩
   by_cases c2:ok8 w
   ·rw [if_pos c2] at k ⊢
    intro v hv
    have hi:w.toNat<s.names.length:=by rw [G.n8];omega
    rw [List.getElem?_map,List.getElem?_eq_getElem hi] at hv
    obtain rfl:nmV s.names[w.toNat]=v:=Option.some.inj hv
    have gd:s.names.getD w.toNat none=s.names[w.toNat]:=by simp [List.getD,hi]
    rw [gd] at k
    have mm:s.names[w.toNat]∈s.names:=List.getElem_mem hi
    obtain ⟨z,ez⟩:∃ z,s.names[w.toNat]=z:=⟨_,rfl⟩
    rw [ez] at k mm ⊢
    refine ⟨_,rfl,x,D.aa,_,_,.ref A.hd,rfl,J.ax,T.ae,T.ay,m9,A.hd,A.hdx,_,rfl,J.ahd,rfl,_,rfl,?_⟩
    cases z with
    | none =>
     refine ⟨_,rfl,rfl,_,rfl,aQ (fun _=>?_) (fun h=>absurd (by simp [nmV]) h)⟩
     refine ⟨A.hd,A.hdx,A.hl,A.hx,s.bK,.non,h,rfl,J.hn G,hh,?_⟩
     rw [if_pos c]
     exact ⟨_,rfl,let w:=J.O7 (J.rhl.set (i:=h.toNat) (show WV H .non .no from rfl));k _ _ w.1 w.2⟩
    | some t =>
     obtain ⟨ws,m⟩:=G.nn t mm
     refine ⟨_,rfl,rfl,_,rfl,aQ (fun h=>by simp [nmV] at h) (fun _=>?_)⟩
     refine ⟨_,rfl,t,rfl,(G.lt _ _ m).1,fun p H1 s1 hp=>?_⟩
     have J1:=J.same s1
     refine ⟨A.hd,A.hdx,A.hl,A.hx,s.bK,.ref p,h,rfl,J1.hn G,hh,?_⟩
     rw [if_pos c]
     exact ⟨_,rfl,let w:=J1.O7 (J1.rhl.set (i:=h.toNat) (show WV H1 (.ref p) (.th t) from ⟨p,rfl,hp⟩));k _ _ w.1 ((Fr.same s1).trans w.2)⟩
   ·rw [if_neg c2] at k ⊢
    exact k
  ·rw [if_neg c] at k ⊢
   exact k
def FX (D:Ad):Sp:=fun vs H Q E=>∃ x A s d kvs ts,vs=[.ref x,.ref d]∧IH D H x A s∧Good s∧H d=some (.dK kvs)∧kvs.map (·.1)=ts.map Sum.inl∧(∀ t∈ts,∃ ws,(t,ws)∈s.aN)∧ts.length≤10000∧∀ H',aD H H'→Q (.int (wsum s ts)) H'
abbrev nF:List Str:=["self", "things"]
theorem ur:av nF ["self", "things"] (aq ia):=⟨rfl,rfl,rfl,by decide +kernel,rfl,by decide +kernel,by decide +kernel⟩
theorem uu (F:Fun K "words_among" "Heap.words_among" ia D.bc D.eB) (T:Txt K mg D)
  (ji:Ok P w K mg base 3 D.gQ D.lL ["fields"] (uh D)):Ok P w K mg base 4 D.bc D.eB ["self", "things"] (FX D):=by
 refine ⟨?_,F.binds (ps:=["self", "things"]) fun _ _ _ _ _ _ us hl=>match us,hl with|[_,_],_=>rfl⟩
 refine F.okE ur (fun vs H Q E h=>?_) (fun cdv A' outer s' H vs Q E hr h=>?_)
 ·obtain ⟨x,A,s,d,kvs,ts,rfl,_⟩:=h
  rfl
 ·obtain ⟨x,A,s,d,kvs,ts,rfl,J,G,hd,hk,ht,hz,k⟩:=h
  have hu:=lI hr
  refine ⟨_,(ai (aP (Qv (fX (Hg rfl) rfl T.OX PyProof.Rows.Boot.«sum» (ab (Bl (cl:=[("self",s'.heap.objs.size+1)]) (x := "t") (idx:=[0]) (NC:=["t", "self"]) ?co1 rfl (vG (Ew (pv 1))) (fun C fp s₀ H₀=>(aR ji.g (hr.mono (by decide)) rfl T.Fv T.rE ji.b .nil A0 (ab (fX (Hh rfl) rfl T.vq PyProof.Rows.Boot.«len» (ab (pU hu (RL rfl (pv 1) rfl) (pv 0) (fun _ _=>rfl)) ak)) ak)))) ak))))),?_⟩
  case co1 =>
   exact pW (sc:=aq ia) (N:=nF) (ns:=["self"]) rfl rfl rfl (by decide +kernel) rfl rfl (by
    intro q hq
    rw [List.mem_singleton.mp hq]
    rfl)
  have lk:kvs.length=ts.length:=by have:=congrArg List.length hk;simpa using this
  refine ⟨_,rfl,d,kvs,hd,fun o=>?_⟩
  refine ⟨d,o,kvs,rfl,ah,fun L hL=>?_⟩
  obtain ⟨Hf,ef⟩:∃ Hf,upd H d (.frz o (.dK kvs))=Hf:=⟨_,rfl⟩
  rw [ef] at hL ⊢
  have fd:Hf d=some (.frz o (.dK kvs)):=by rw [←ef];exact ah
  have fo:∀ b u,b≠d→H b=some u→Hf b=some u:=fun b u n q=>by rw [←ef,af n];exact q
  have xd:x≠d:=aw J.ax hd (by intro z;cases z)
  have dg:∀ {Hc:Hp},aD Hf Hc→∀ {t:Int} {ws:List Wd},(t,ws)∈s.aN→pT Hc A.fh (.int t) (some (.ref (A.fa t))):=fun {Hc} sc {t ws} m=>by
   have e:lJ (s.aN.map (fkv A)) (Sum.inl t)=some (.ref (A.fa t)):=by rw [Qz,G.get m];rfl
   by_cases c:A.fh=d
   ·have ek:kvs=s.aN.map (fkv A):=by
     have:=J.afh
     rw [c,hd] at this
     injection this with this
     injection this
    exact .inl ⟨kvs,Sum.inl t,.inr ⟨o,by rw [c];exact sc _ _ fd⟩,rfl,by rw [ek,e]⟩
   ·exact .inl ⟨_,Sum.inl t,.inl (sc _ _ (fo _ _ c J.afh)),rfl,e.symm⟩
  refine Ov (d:=d) (o:=o) (kvs:=kvs) (fun i ys Hc=>ys=((ts.take i).map fun t=>V.int (((fld s t).length:Int)+1))∧aD Hf Hc∧Hc L=some (.lst ys)) ⟨rfl,aD.upd hL,ah⟩ (fun i ys Hc hi ⟨e,_,z⟩=>⟨z,by rw [e,List.length_map,List.length_take];omega⟩) (fun i ys Hc _ ⟨_,sc,_⟩=>sc _ _ fd) (oa (by omega)) (fun i p ys Hc hi ⟨e,sc,z⟩=>?_) (fun ys Hc ⟨e,sc,z⟩=>?_)
  ·have hik:i<kvs.length:=(List.getElem?_eq_some_iff.mp hi).1
   have hit:i<ts.length:=by omega
   have ep:p.1=Sum.inl ts[i]:=by
    have h1:=congrArg (fun l=>l[i]?) hk
    simp only [List.getElem?_map,hi,List.getElem?_eq_getElem hit,Option.map_some,Option.some.injEq] at h1
    exact h1
   have hkv:kV p.1=.int ts[i]:=by rw [ep];rfl
   obtain ⟨t,et⟩:∃ t,ts[i]=t:=⟨_,rfl⟩
   obtain ⟨ws,m⟩:=ht t (by rw [←et];exact List.getElem_mem hit)
   have fm:=G.fld m
   obtain ⟨hl,rl⟩:=J.afl _ _ m
   have f6:=G.f6 _ _ m
   have ln:=rl.1
   have nld:A.fa t≠d:=aw hl hd (by intro z;cases z)
   have hlc:=sc _ _ (fo _ _ nld hl)
   refine ⟨_,rfl,x,D.aa,_,_,.ref A.fh,rfl,sc _ _ (fo _ _ xd J.ax),T.ae,T.az,qi,_,rfl,A.fh,.ref (A.fa t),rfl,(by rw [hkv,et];exact dg sc m),A.fa t,_,rfl,.inl (SqL.of hlc),((A.fx t).length:Int),rfl,Sm.of (by omega) (by omega),?_⟩
   rw [if_pos ⟨by omega,by omega⟩]
   refine ⟨z,?_,fun b u q=>by rw [af (au q hL)];exact sc b u q,ah⟩
   rw [e,List.take_succ_eq_append_getElem hit,List.map_append,et]
   simp only [List.map_cons,List.map_nil]
   rw [fm,ln]
  ·rw [lk,List.take_of_length_le (Nat.le_refl _)] at e
   refine ⟨L,ts.map fun t=>((fld s t).length:Int)+1,rfl,SqL.of (by rw [z,e,List.map_map];rfl),d,o,kvs,sc _ _ fd,(fun o' u' z=>by have z:H d=some (.frz o' u'):=z;rw [hd] at z;cases z),?_⟩
   refine k _ fun b u q=>?_
   by_cases c:b=d
   ·subst c
    rw [hd] at q
    cases q
    exact ah
   ·rw [af c]
    exact sc _ _ (fo _ _ c q)
def Jq (D:Ad):Sp:=fun vs H Q E=>∃ x A s,vs=[.ref x]∧IH D H x A s∧Good s∧∀ H',aD H H'→Q (.int (held s)) H'
abbrev BC:List Str:=["self"]
theorem yN:av BC ["self"] (aq lA):=⟨rfl,rfl,rfl,by decide +kernel,rfl,by decide +kernel,by decide +kernel⟩
theorem yO (F:Fun K "held" "IdealHeap.held" lA D.cL D.fR) (T:Txt K mg D)
  (cw:Ok P w K mg base 4 D.bc D.eB ["self", "things"] (FX D)):Ok P w K mg base 5 D.cL D.fR ["self"] (Jq D):=by
 refine ⟨?_,F.binds (ps:=["self"]) fun _ _ _ _ _ _ us hl=>match us,hl with|[_],_=>rfl⟩
 refine F.okE yN (fun vs H Q E h=>?_) (fun cdv A' outer s' H vs Q E hr h=>?_)
 ·obtain ⟨x,A,s,rfl,_⟩:=h
  rfl
 ·obtain ⟨x,A,s,rfl,J,G,k⟩:=h
  refine ⟨_,(ai (aP (aK (pv 0) T.ae T.jG cw.g (hr.mono (by decide)) cw.b .nil (Passes.x (aL fun _ _ _ q=>q)) (ab (aG (pv 0) rfl) ak)))),?_⟩
  exact ⟨_,rfl,x,_,_,rfl,J.ax,(by kernel_rfl),_,rfl,x,D.aa,_,_,.ref A.fh,rfl,J.ax,T.ae,T.az,qi,x,A,s,A.fh,_,keys s,rfl,J,G,J.afh,by rw [List.map_map];unfold keys;rw [List.map_map];rfl,(fun t m=>by obtain ⟨p,hp,rfl⟩:=List.mem_map.mp m;exact ⟨p.2,hp⟩),by unfold keys;rw [List.length_map];exact G.few,k⟩
def PR (D:Ad):Sp:=fun vs H Q E=>∃ x A s,∃ h:Int,vs=[.ref x,.int h]∧IH D H x A s∧Good s∧Sm h∧(match wat s.bK h with|some wd=>∀ H',aD H H'→Q (.str wd.kind) H'|none=>Bad D.bF H E)
abbrev BD:List Str:=["self", "h"]
theorem yP:av BD ["self", "h"] (aq lq):=⟨rfl,rfl,rfl,by decide +kernel,rfl,by decide +kernel,by decide +kernel⟩
theorem yQ (F:Fun K "kind" "IdealHeap.kind" lq D.eI D.jb) (T:Txt K mg D)
  (du:Ok P w K mg base 5 D.eR D.iA ["self", "h"] (A9 D)):Ok P w K mg base 6 D.eI D.jb ["self", "h"] (PR D):=by
 refine ⟨?_,F.binds (ps:=["self", "h"]) fun _ _ _ _ _ _ us hl=>match us,hl with|[_,_],_=>rfl⟩
 refine F.okE yP (fun vs H Q E h=>?_) (fun cdv A' outer s' H vs Q E hr h=>?_)
 ·obtain ⟨x,A,s,h,rfl,_⟩:=h
  rfl
 ·obtain ⟨x,A,s,h,rfl,J,G,hh,k⟩:=h
  have hu:=lI hr
  refine ⟨_,(ai (aP (aK (aG (pv 0) rfl) T.aV T.pG du.g (hr.mono (by decide)) du.b .nil (Passes.x (aL fun _ _ _ q=>q)) (ab (pv 1) ak)))),?_⟩
  exact ⟨_,rfl,x,D.aa,_,_,.ref A.hd,rfl,J.ax,T.ae,T.ay,m9,A.hd,A.hdx,_,rfl,J.ahd,rfl,_,rfl,A.hd,A.hdx,A.hl,A.hx,s.bK,h,rfl,J.hn G,hh,k⟩
def OC (D:Ad):Sp:=fun vs H Q E=>∃ x A s,∃ h:Int,vs=[.ref x,.int h]∧IH D H x A s∧Good s∧Sm h∧(match wat s.bK h with|some (.num x)=>∀ H',aD H H'→Q (.int x) H'|_=>Bad D.bF H E)
abbrev yR:List Str:=["self", "h"]
theorem wo:av yR ["self", "h"] (aq ki):=⟨rfl,rfl,rfl,by decide +kernel,rfl,by decide +kernel,by decide +kernel⟩
theorem wq (F:Fun K "value" "IdealHeap.value" ki D.dQ D.iN) (T:Txt K mg D)
  (lR:Ok P w K mg base 6 D.fQ D.jK ["self", "h"] (Ls D)):Ok P w K mg base 7 D.dQ D.iN ["self", "h"] (OC D):=by
 refine ⟨?_,F.binds (ps:=["self", "h"]) fun _ _ _ _ _ _ us hl=>match us,hl with|[_,_],_=>rfl⟩
 refine F.okE wo (fun vs H Q E h=>?_) (fun cdv A' outer s' H vs Q E hr h=>?_)
 ·obtain ⟨x,A,s,h,rfl,_⟩:=h
  rfl
 ·obtain ⟨x,A,s,h,rfl,J,G,hh,k⟩:=h
  have hu:=lI hr
  refine ⟨_,(ai (aP (aK (aG (pv 0) rfl) T.aV T.EC lR.g (hr.mono (by decide)) lR.b .nil (Passes.x (aL fun _ _ _ q=>q)) (ab (pv 1) ak)))),?_⟩
  exact ⟨_,rfl,x,D.aa,_,_,.ref A.hd,rfl,J.ax,T.ae,T.ay,m9,A.hd,A.hdx,_,rfl,J.ahd,rfl,_,rfl,A.hd,A.hdx,A.hl,A.hx,s.bK,h,rfl,J.hn G,hh,k⟩
def Mx (D:Ad):Sp:=fun vs H Q E=>∃ x A s,∃ h:Int,vs=[.ref x,.int h]∧IH D H x A s∧Good s∧Sm h∧(match wat s.bK h with|some (.th t)=>∀ H',aD H H'→Q (.int (fld s t).length) H'|_=>Bad D.bF H E)
abbrev wu:List Str:=["self", "h"]
theorem uv:av wu ["self", "h"] (aq jT):=⟨rfl,rfl,rfl,by decide +kernel,rfl,by decide +kernel,by decide +kernel⟩
theorem uw (F:Fun K "fields" "IdealHeap.fields" jT D.dr D.ib) (T:Txt K mg D)
  (aF:Ok P w K mg base 6 D.aZ D.cc ["self", "h"] (jw D)):Ok P w K mg base 7 D.dr D.ib ["self", "h"] (Mx D):=by
 refine ⟨?_,F.binds (ps:=["self", "h"]) fun _ _ _ _ _ _ us hl=>match us,hl with|[_,_],_=>rfl⟩
 refine F.okE uv (fun vs H Q E h=>?_) (fun cdv A' outer s' H vs Q E hr h=>?_)
 ·obtain ⟨x,A,s,h,rfl,_⟩:=h
  rfl
 ·obtain ⟨x,A,s,h,rfl,J,G,hh,k⟩:=h
  have hu:=lI hr
  refine ⟨_,(ai (aP (fX gI rfl T.vq PyProof.Rows.Boot.«len» (ab (pU hu (aG (pv 0) rfl) (aK (aG (pv 0) rfl) T.aV T.gk aF.g (hr.mono (by decide)) aF.b .nil (Passes.x (aL fun _ _ _ q=>q)) (ab (pv 1) ak)) (fun _ _=>rfl)) ak)))),?_⟩
  refine ⟨_,rfl,x,D.aa,_,_,.ref A.fh,rfl,J.ax,T.ae,T.az,qi,_,rfl,x,D.aa,_,_,.ref A.hd,rfl,J.ax,T.ae,T.ay,m9,A.hd,A.hdx,_,rfl,J.ahd,rfl,_,rfl,A.hd,A.hdx,A.hl,A.hx,s.bK,h,rfl,J.hn G,hh,?_⟩
  cases e:wat s.bK h with
  | none=>rw [e] at k;exact k
  | some wd =>
   rw [e] at k
   cases wd with
   | no=>exact k
   | num n=>exact k
   | th t =>
    intro H1 s1
    have J1:=J.same s1
    have m:=G.hand e
    obtain ⟨hl,rl⟩:=J1.afl _ _ m
    refine ⟨A.fh,_,rfl,J1.Vj G m,A.fa t,_,rfl,.inl (SqL.of hl),?_⟩
    rw [rl.1]
    exact k H1 s1
theorem Di {F F':Addr→Prop} {H:Hp} {p b:Addr} {u o o':HO} (hp:H p=none) (f:F b) (hb:H b=some u) (n:∀ xs,u≠.tup xs) (g:∀ c,F' c→F c∨c=p):Fr F H F' (upd (upd H p o) b o') where
 ext:=fun c v nf q=>by rw [af fun e=>nf (by rw [e];exact f),af (au q hp)];exact q
 grow:=fun c f'=>(g c f').imp id fun e=>by rw [e];exact hp
 all:=fun c v q=>by
  by_cases e:c=b
  ·exact ⟨o',by rw [e];exact ah⟩
  ·exact ⟨v,by rw [af e,af (au q hp)];exact q⟩
 tup:=(fD.of (aD.upd hp)).trans (fD.set (aD.upd hp _ _ hb) n)
section
variable {D:Ad} {H H':Hp} {x:Addr} {A A':HA} {s s':HS}
theorem IH.adL (J:IH D H x A s) {p:Addr} (hp:H p=none):IH D (upd (upd H p (.dK [])) x (.ins D.aa A.dx (iB "young_things" (.ref p) (atts A s)))) x {A with yg:=p} {s with yng:=[]}∧Fr (aS x A s) H (aS x {A with yg:=p} {s with yng:=[]}) (upd (upd H p (.dK [])) x (.ins D.aa A.dx (iB "young_things" (.ref p) (atts A s)))):=by
 have s1:aD H (upd H p (.dK [])):=aD.upd hp
 have nf:¬aS x A s p:=J.fresh hp
 have pp:upd H p (.dK []) p=some (.dK []):=ah
 refine ⟨?_,Di hp (.x) J.ax (fun _ z=>nomatch z) (fun c f=>?_)⟩
 ·have J:=J.same s1
  have tk:fD (upd H p (.dK [])) (upd (upd H p (.dK [])) x (.ins D.aa A.dx (iB "young_things" (.ref p) (atts A s)))):=fD.set J.ax (fun _ z=>nomatch z)
  exact ⟨(by rw [ah,abG];rfl),(by rw [af (aw J.ahd J.ax (lO (show (1:Nat)≠11 by decide)))];exact J.ahd),(by rw [af (aw J.ahl J.ax (by intro z;cases z))];exact J.ahl),J.rhl.keep tk,(by rw [af (aw J.ant J.ax (lO (show (1:Nat)≠11 by decide)))];exact J.ant),(by rw [af (aw J.anl J.ax (by intro z;cases z))];exact J.anl),(by rw [af (aw J.awt J.ax (lO (show (2:Nat)≠11 by decide)))];exact J.awt),(by rw [af (aw J.awb J.ax (by intro z;cases z))];exact J.awb),(by rw [af (aw J.awl J.ax (by intro z;cases z))];exact J.awl),(by rw [af (aw J.afh J.ax (by intro z;cases z))];exact J.afh),(fun t ws m=>⟨by rw [af (aw (J.afl _ _ m).1 J.ax (by intro z;cases z))];exact (J.afl _ _ m).1,(J.afl _ _ m).2.keep tk⟩),(by show upd _ _ _ p=_;rw [af fun e=>nf (by rw [e];exact .x)];exact pp),(by rw [af (aw J.adm J.ax (by intro z;cases z))];exact J.adm),J.nhn,J.l1,J.l2,J.l3,J.l4,J.l5,J.d1,(fun (e:A.wb=p)=>nf (by rw [←e];exact .wb)),J.d3,(fun (e:A.fh=p)=>nf (by rw [←e];exact .fh)),J.d5,(fun (e:p=A.dm)=>nf (by rw [e];exact .dm))⟩
 ·cases f with
  | x=>exact .inl .x
  | hd=>exact .inl .hd
  | hl=>exact .inl .hl
  | nt=>exact .inl .nt
  | nl=>exact .inl .nl
  | wt=>exact .inl .wt
  | wb=>exact .inl .wb
  | wl=>exact .inl .wl
  | fh=>exact .inl .fh
  | yg=>exact .inr rfl
  | dm=>exact .inl .dm
  | fl m=>exact .inl (.fl m)
theorem IH.adM (J:IH D H x A s) {p:Addr} (hp:H p=none):IH D (upd (upd H p (.dK [])) x (.ins D.aa A.dx (iB "doomed_things" (.ref p) (atts A s)))) x {A with dm:=p} {s with dI:=[]}∧Fr (aS x A s) H (aS x {A with dm:=p} {s with dI:=[]}) (upd (upd H p (.dK [])) x (.ins D.aa A.dx (iB "doomed_things" (.ref p) (atts A s)))):=by
 have s1:aD H (upd H p (.dK [])):=aD.upd hp
 have nf:¬aS x A s p:=J.fresh hp
 have pp:upd H p (.dK []) p=some (.dK []):=ah
 refine ⟨?_,Di hp (.x) J.ax (fun _ z=>nomatch z) (fun c f=>?_)⟩
 ·have J:=J.same s1
  have tk:fD (upd H p (.dK [])) (upd (upd H p (.dK [])) x (.ins D.aa A.dx (iB "doomed_things" (.ref p) (atts A s)))):=fD.set J.ax (fun _ z=>nomatch z)
  exact ⟨(by rw [ah,abH];rfl),(by rw [af (aw J.ahd J.ax (lO (show (1:Nat)≠11 by decide)))];exact J.ahd),(by rw [af (aw J.ahl J.ax (by intro z;cases z))];exact J.ahl),J.rhl.keep tk,(by rw [af (aw J.ant J.ax (lO (show (1:Nat)≠11 by decide)))];exact J.ant),(by rw [af (aw J.anl J.ax (by intro z;cases z))];exact J.anl),(by rw [af (aw J.awt J.ax (lO (show (2:Nat)≠11 by decide)))];exact J.awt),(by rw [af (aw J.awb J.ax (by intro z;cases z))];exact J.awb),(by rw [af (aw J.awl J.ax (by intro z;cases z))];exact J.awl),(by rw [af (aw J.afh J.ax (by intro z;cases z))];exact J.afh),(fun t ws m=>⟨by rw [af (aw (J.afl _ _ m).1 J.ax (by intro z;cases z))];exact (J.afl _ _ m).1,(J.afl _ _ m).2.keep tk⟩),(by rw [af (aw J.ayg J.ax (by intro z;cases z))];exact J.ayg),(by show upd _ _ _ p=_;rw [af fun e=>nf (by rw [e];exact .x)];exact pp),J.nhn,J.l1,J.l2,J.l3,J.l4,J.l5,J.d1,J.d2,(fun (e:A.wb=p)=>nf (by rw [←e];exact .wb)),J.d4,(fun (e:A.fh=p)=>nf (by rw [←e];exact .fh)),(fun (e:A.yg=p)=>nf (by rw [←e];exact .yg))⟩
 ·cases f with
  | x=>exact .inl .x
  | hd=>exact .inl .hd
  | hl=>exact .inl .hl
  | nt=>exact .inl .nt
  | nl=>exact .inl .nl
  | wt=>exact .inl .wt
  | wb=>exact .inl .wb
  | wl=>exact .inl .wl
  | fh=>exact .inl .fh
  | yg=>exact .inl .yg
  | dm=>exact .inr rfl
  | fl m=>exact .inl (.fl m)
theorem IH.adN (J:IH D H x A s) {ns:List (Option Int)} {p:Addr} (hp:H p=none):IH D (upd (upd H p (.lst (ns.map nmV))) A.nt (.ins D.aC A.ntx [("things_named",.ref p)])) x {A with nl:=p} {s with names:=ns}∧Fr (aS x A s) H (aS x {A with nl:=p} {s with names:=ns}) (upd (upd H p (.lst (ns.map nmV))) A.nt (.ins D.aC A.ntx [("things_named",.ref p)])):=by
 have s1:aD H (upd H p (.lst (ns.map nmV))):=aD.upd hp
 have nf:¬aS x A s p:=J.fresh hp
 have pp:upd H p (.lst (ns.map nmV)) p=some (.lst (ns.map nmV)):=ah
 refine ⟨?_,Di hp (.nt) J.ant (fun _ z=>nomatch z) (fun c f=>?_)⟩
 ·have J:=J.same s1
  have tk:fD (upd H p (.lst (ns.map nmV))) (upd (upd H p (.lst (ns.map nmV))) A.nt (.ins D.aC A.ntx [("things_named",.ref p)])):=fD.set J.ant (fun _ z=>nomatch z)
  exact ⟨(by rw [af (aw J.ax J.ant (lO (show (11:Nat)≠1 by decide)))];exact J.ax),(by rw [af J.nhn];exact J.ahd),(by rw [af (aw J.ahl J.ant (by intro z;cases z))];exact J.ahl),J.rhl.keep tk,ah,(by show upd _ _ _ p=_;rw [af fun e=>nf (by rw [e];exact .nt)];exact pp),(by rw [af (aw J.awt J.ant (lO (show (2:Nat)≠1 by decide)))];exact J.awt),(by rw [af (aw J.awb J.ant (by intro z;cases z))];exact J.awb),(by rw [af (aw J.awl J.ant (by intro z;cases z))];exact J.awl),(by rw [af (aw J.afh J.ant (by intro z;cases z))];exact J.afh),(fun t ws m=>⟨by rw [af (aw (J.afl _ _ m).1 J.ant (by intro z;cases z))];exact (J.afl _ _ m).1,(J.afl _ _ m).2.keep tk⟩),(by rw [af (aw J.ayg J.ant (by intro z;cases z))];exact J.ayg),(by rw [af (aw J.adm J.ant (by intro z;cases z))];exact J.adm),J.nhn,(fun (e:A.hl=p)=>nf (by rw [←e];exact .hl)),J.l2,(fun (e:p=A.wl)=>nf (by rw [e];exact .wl)),(fun t ws m=>⟨(J.l4 _ _ m).1,(fun (e:A.fa t=p)=>nf (by rw [←e];exact .fl m)),(J.l4 _ _ m).2.2⟩),J.l5,J.d1,J.d2,J.d3,J.d4,J.d5,J.d6⟩
 ·cases f with
  | x=>exact .inl .x
  | hd=>exact .inl .hd
  | hl=>exact .inl .hl
  | nt=>exact .inl .nt
  | nl=>exact .inr rfl
  | wt=>exact .inl .wt
  | wb=>exact .inl .wb
  | wl=>exact .inl .wl
  | fh=>exact .inl .fh
  | yg=>exact .inl .yg
  | dm=>exact .inl .dm
  | fl m=>exact .inl (.fl m)
def xX (fs:List (Int×List Wd)) (t:Int):List (Int×List Wd):=fs.filter fun p=>decide (p.1≠t)
theorem qt {fs:List (Int×List Wd)} {t t':Int} {ws:List Wd}:(t',ws)∈xX fs t↔(t',ws)∈fs∧t'≠t:=by unfold xX;rw [List.mem_filter];simp
theorem RT {fs:List (Int×List Wd)} {A:HA} {t:Int}:sM (fs.map (fkv A)) (Sum.inl t)=(xX fs t).map (fkv A):=by
 unfold sM xX
 rw [List.filter_map]
 congr 1
 refine List.filter_congr fun p _=>?_
 show decide (Sum.inl p.1≠(Sum.inl t:Key))=decide (p.1≠t)
 simp
theorem IH.abJ (J:IH D H x A s) {t:Int}:IH D (upd H A.fh (.dK ((xX s.aN t).map (fkv A)))) x A {s with aN:=xX s.aN t}∧Fr (aS x A s) H (aS x A {s with aN:=xX s.aN t}) (upd H A.fh (.dK ((xX s.aN t).map (fkv A)))):=by
 have tk:fD H (upd H A.fh (.dK ((xX s.aN t).map (fkv A)))):=fD.set J.afh (fun _ z=>nomatch z)
 refine ⟨⟨(by rw [af (aw J.ax J.afh (by intro z;cases z))];exact J.ax),(by rw [af (aw J.ahd J.afh (by intro z;cases z))];exact J.ahd),(by rw [af (aw J.ahl J.afh (by intro z;cases z))];exact J.ahl),J.rhl.keep tk,(by rw [af (aw J.ant J.afh (by intro z;cases z))];exact J.ant),(by rw [af (aw J.anl J.afh (by intro z;cases z))];exact J.anl),(by rw [af (aw J.awt J.afh (by intro z;cases z))];exact J.awt),(by rw [af J.d1];exact J.awb),(by rw [af (aw J.awl J.afh (by intro z;cases z))];exact J.awl),ah,(fun u ws m'=>by have m:=(qt.mp m').1;exact ⟨by rw [af (aw (J.afl _ _ m).1 J.afh (by intro z;cases z))];exact (J.afl _ _ m).1,(J.afl _ _ m).2.keep tk⟩),(by rw [af (Ne.symm J.d4)];exact J.ayg),(by rw [af (Ne.symm J.d5)];exact J.adm),J.nhn,J.l1,J.l2,J.l3,(fun u ws m=>J.l4 _ _ (qt.mp m).1),(fun u ws v w m m' e=>J.l5 _ _ _ _ (qt.mp m).1 (qt.mp m').1 e),J.d1,J.d2,J.d3,J.d4,J.d5,J.d6⟩,Fr.set .fh J.afh (fun _ z=>nomatch z) (fun c f=>?_)⟩
 cases f with
 | x=>exact .x
 | hd=>exact .hd
 | hl=>exact .hl
 | nt=>exact .nt
 | nl=>exact .nl
 | wt=>exact .wt
 | wb=>exact .wb
 | wl=>exact .wl
 | fh=>exact .fh
 | yg=>exact .yg
 | dm=>exact .dm
 | fl m=>exact .fl (qt.mp m).1
end
inductive Led (rs:List Wd) (F:Int→List Wd) (S:List Int):Int→Prop where
 | root {t:Int}:Wd.th t∈rs→t∈S→Led rs F S t
 | step {u t:Int}:Led rs F S u→Wd.th t∈F u→t∈S→Led rs F S t
theorem Led.mem {rs:List Wd} {F:Int→List Wd} {S:List Int} {t:Int} (h:Led rs F S t):t∈S:=by cases h<;>assumption
def amg (S:List Int):Wd→Option Int
 | .th t=>if t∈S then some t else none
 | _=>none
theorem qI {S:List Int} {w:Wd} {t:Int}:amg S w=some t↔w=.th t∧t∈S:=by
 cases w with
 | no=>exact ⟨(fun h=>by cases h),(fun h=>by cases h.1)⟩
 | num n=>exact ⟨(fun h=>by cases h),(fun h=>by cases h.1)⟩
 | th u =>
  show (if u∈S then some u else none)=some t↔_
  by_cases c:u∈S
  ·rw [if_pos c]
   exact ⟨(fun h=>by cases h;exact ⟨rfl,c⟩),(fun h=>by cases h.1;rfl)⟩
  ·rw [if_neg c]
   exact ⟨(fun h=>by cases h),(fun h=>by cases h.1;exact absurd h.2 c)⟩
inductive Rc (rs:List (Option Int)) (F:Int→List (Option Int)):Int→Prop where
 | root {t:Int}:some t∈rs→Rc rs F t
 | step {u t:Int}:Rc rs F u→some t∈F u→Rc rs F t
theorem Yn {rs:List Wd} {F:Int→List Wd} {S:List Int} {t:Int}:Rc (rs.map (amg S)) (fun u=>(F u).map (amg S)) t↔Led rs F S t:=by
 constructor
 ·intro h
  induction h with
  | root m =>
   obtain ⟨w,mw,e⟩:=List.mem_map.mp m
   obtain ⟨rfl,c⟩:=qI.mp e
   exact .root mw c
  | step _ m ih =>
   obtain ⟨w,mw,e⟩:=List.mem_map.mp m
   obtain ⟨rfl,c⟩:=qI.mp e
   exact .step ih mw c
 ·intro h
  induction h with
  | root m c=>exact .root (List.mem_map.mpr ⟨_,m,qI.mpr ⟨rfl,c⟩⟩)
  | step _ m c ih=>exact .step ih (List.mem_map.mpr ⟨_,m,qI.mpr ⟨rfl,c⟩⟩)
theorem qJ:∀ {ms ks:List Int},ms.Nodup→(∀ m∈ms,m∈ks)→ms.length≤ks.length
 | [],_,_,_=>Nat.zero_le _
 | a::r,ks,nd,h=>by
  rw [List.nodup_cons] at nd
  have ha:=h a List.mem_cons_self
  have:=qJ (ms:=r) (ks:=ks.erase a) nd.2 fun m hm=>(List.mem_erase_of_ne (fun e=>nd.1 (by rw [←e];exact hm))).mpr (h m (List.mem_cons_of_mem _ hm))
  rw [List.length_erase_of_mem ha] at this
  have:0<ks.length:=List.length_pos_of_mem ha
  rw [List.length_cons]
  omega
def Kys (kvs:List (Key×V)) (ms:List Int):Prop:=kvs.map (·.1)=ms.map Sum.inl
theorem Kys.len {kvs:List (Key×V)} {ms:List Int} (k:Kys kvs ms):kvs.length=ms.length:=by have:=congrArg List.length k;simpa using this
theorem Kys.isS {kvs:List (Key×V)} {ms:List Int} (k:Kys kvs ms) {t:Int}:(lJ kvs (Sum.inl t)).isSome=decide (t∈ms):=by
 induction kvs generalizing ms with
 | nil=>cases ms with
  | nil=>rfl
  | cons a r=>cases k
 | cons p r ih=>cases ms with
  | nil=>cases k
  | cons a ms =>
   unfold Kys at k
   rw [List.map_cons,List.map_cons] at k
   injection k with k1 k2
   by_cases e:a=t
   ·subst e
    rw [oo k1]
    simp
   ·rw [oq (fun z=>e (Sum.inl.inj (k1.symm.trans z))),ih k2]
    have:(t∈a::ms)↔t∈ms:=by
     rw [List.mem_cons]
     exact ⟨fun h=>h.elim (fun z=>absurd z.symm e) id,.inr⟩
    simp only [this]
theorem Kys.non {kvs:List (Key×V)} {ms:List Int} (k:Kys kvs ms) {t:Int} (h:t∉ms):lJ kvs (Sum.inl t)=none:=by
 have:=k.isS (t:=t)
 rw [decide_eq_false h] at this
 cases q:lJ kvs (Sum.inl t) with
 | none=>rfl
 | some v=>rw [q] at this;cases this
theorem Kys.snoc {kvs:List (Key×V)} {ms:List Int} (k:Kys kvs ms) {t:Int} {v:V} (h:t∉ms):Kys (putK kvs (Sum.inl t) v) (ms++[t]):=by
 rw [AX v (k.non h)]
 unfold Kys at k ⊢
 rw [List.map_append,List.map_append,k]
 rfl
theorem Kys.at_ {kvs:List (Key×V)} {ms:List Int} (k:Kys kvs ms) {i:Nat} {p:Key×V} (h:kvs[i]?=some p):∃ t,ms[i]?=some t∧kV p.1=.int t∧p.1=Sum.inl t:=by
 have h1:=congrArg (fun l=>l[i]?) k
 simp only [List.getElem?_map,h,Option.map_some] at h1
 obtain ⟨t,e1,e2⟩:=Option.map_eq_some_iff.mp h1.symm
 exact ⟨t,e1,by rw [←e2];rfl,e2.symm⟩
theorem Ba (ts:List Int):Kys (ts.map tkv) ts:=by unfold Kys;rw [List.map_map];rfl
theorem O0 (s:HS) (A:HA):Kys (s.aN.map (fkv A)) (keys s):=by unfold Kys keys;rw [List.map_map,List.map_map];rfl
def drG (fs:List (Int×List Wd)) (gs:List Int):List (Int×List Wd):=fs.filter fun p=>decide (p.1∉gs)
def nmG (gs:List Int) (n:Option Int):Option Int:=match n with|none=>none|some t=>if t∈gs then none else some t
def brG (bs:List (Int×Int)) (gs:List Int):List (Int×Int):=bs.filter fun p=>decide (p.1∉gs)
def sdG (bs:List (Int×Int)) (gs:List Int):List Int:=gs.filterMap fun t=>bs.lookup t
def letGo (s:HS) (gs:List Int):HS:={s with aN:=drG s.aN gs,names:=s.names.map (nmG gs),bp:=brG s.bp gs,qb:=s.qb++sdG s.bp gs}
theorem jO {fs:List (Int×List Wd)} {gs:List Int} {t:Int} {ws:List Wd}:(t,ws)∈drG fs gs↔(t,ws)∈fs∧t∉gs:=by unfold drG;rw [List.mem_filter];simp
theorem PU {fs:List (Int×List Wd)} {gs:List Int} {t:Int}:drG fs (gs++[t])=xX (drG fs gs) t:=by
 unfold drG xX
 rw [List.filter_filter]
 refine List.filter_congr fun p _=>?_
 simp [List.mem_append,not_or,Bool.and_comm]
theorem NI {fs:List (Int×List Wd)}:drG fs []=fs:=by unfold drG;simp
theorem Ly {bs:List (Int×Int)} {gs:List Int} {t:Int}:brG bs (gs++[t])=(brG bs gs).filter fun p=>decide (p.1≠t):=by
 unfold brG
 rw [List.filter_filter]
 refine List.filter_congr fun p _=>?_
 simp [List.mem_append,not_or,Bool.and_comm]
theorem My {bs:List (Int×Int)} {gs:List Int} {t:Int} (h:t∉gs):(brG bs gs).lookup t=bs.lookup t:=by
 unfold brG
 induction bs with
 | nil=>rfl
 | cons p r ih =>
  obtain ⟨a,b⟩:=p
  rw [List.filter_cons]
  by_cases c:a∈gs
  ·rw [if_neg (by simpa using c),ih,List.lookup_cons]
   rw [show (t == a)=false from beq_eq_false_iff_ne.mpr fun e=>h (by rw [e];exact c)]
  ·rw [if_pos (by simpa using c),List.lookup_cons,List.lookup_cons,ih]
theorem RU {bs:List (Int×Int)} {t:Int}:sM (bs.map bkv) (Sum.inl t)=(bs.filter fun p=>decide (p.1≠t)).map bkv:=by
 unfold sM
 rw [List.filter_map]
 congr 1
 refine List.filter_congr fun p _=>?_
 show decide (Sum.inl p.1≠(Sum.inl t:Key))=decide (p.1≠t)
 simp
theorem filter_none {bs:List (Int×Int)} {t:Int} (h:bs.lookup t=none):(bs.filter fun p=>decide (p.1≠t))=bs:=List.filter_eq_self.mpr fun p hp=>by simpa using lookup_none h p hp
theorem Lz {bs:List (Int×Int)} {gs:List Int} {t:Int}:sdG bs (gs++[t])=sdG bs gs++(match bs.lookup t with|some v=>[v]|none=>[]):=by
 unfold sdG
 rw [List.filterMap_append]
 congr 1
 cases e:bs.lookup t with
 | none=>simp [e]
 | some v=>simp [e]
structure Wk (H H4:Hp) (st mt:Addr) (rs:List (Option Int)) (F:Int→List (Option Int)) (S:List Int) (kvs:List (Key×V)) (ms:List Int):Prop where
 sm:aD H H4
 hs:H4 st=some (.dK kvs)
 ky:Kys kvs ms
 nd:ms.Nodup
 sub:∀ m∈ms,m∈S
 snd:∀ m∈ms,Rc rs F m
 hm:H4 mt=some (.lst (ms.map V.int))
 rts:∀ t,some t∈rs→t∈ms
theorem Wk.same {H H4 H5:Hp} {st mt:Addr} {rs:List (Option Int)} {F:Int→List (Option Int)} {S:List Int} {kvs:List (Key×V)} {ms:List Int} (w:Wk H H4 st mt rs F S kvs ms) (k:aD H4 H5):Wk H H5 st mt rs F S kvs ms :=
 ⟨w.sm.trans k,k _ _ w.hs,w.ky,w.nd,w.sub,w.snd,k _ _ w.hm,w.rts⟩
theorem Wk.put {H H4:Hp} {st mt:Addr} {rs:List (Option Int)} {F:Int→List (Option Int)} {S:List Int} {kvs:List (Key×V)} {ms:List Int} (w:Wk H H4 st mt rs F S kvs ms) (h1:H st=none) (h2:H mt=none) {n:Int} {v:V} (hn:n∉ms) (hS:n∈S) (hr:Rc rs F n) :
  Wk H (upd (upd H4 st (.dK (putK kvs (Sum.inl n) v))) mt (.lst (ms.map V.int++[.int n]))) st mt rs F S (putK kvs (Sum.inl n) v) (ms++[n]):=by
 have ne:st≠mt:=aw w.hs w.hm (by intro z;cases z)
 refine ⟨fun b u q=>?_,?_,w.ky.snoc hn,?_,fun m h=>?_,fun m h=>?_,?_,fun t h=>List.mem_append_left _ (w.rts t h)⟩
 ·rw [af (au q h2),af (au q h1)]
  exact w.sm b u q
 ·rw [af ne]
  exact ah
 ·rw [List.nodup_append]
  exact ⟨w.nd,by simp,fun a ha b hb=>by rw [List.mem_singleton.mp hb];exact fun e=>hn (by rw [←e];exact ha)⟩
 ·rcases List.mem_append.mp h with g|g
  ·exact w.sub m g
  ·rw [List.mem_singleton.mp g];exact hS
 ·rcases List.mem_append.mp h with g|g
  ·exact w.snd m g
  ·rw [List.mem_singleton.mp g];exact hr
 ·rw [List.map_append]
  exact ah
theorem PV {ms:List Int} {n:Int} (nd:ms.Nodup) (hn:n∉ms):(ms++[n]).Nodup:=by
 rw [List.nodup_append]
 exact ⟨nd,by simp,fun a ha b hb=>by rw [List.mem_singleton.mp hb];exact fun e=>hn (by rw [←e];exact ha)⟩
theorem Yo {rs:List (Option Int)} {F:Int→List (Option Int)} {ms:List Int} (h0:∀ t,some t∈rs→t∈ms) (h1:∀ u∈ms,∀ t,some t∈F u→t∈ms) {t:Int} (h:Rc rs F t):t∈ms:=by
 induction h with
 | root m=>exact h0 _ m
 | step _ m ih=>exact h1 _ ih _ m
def LA:Sp:=fun vs H Q _=>∃ (v r d:Addr) (rs:List (Option Int)) (S:List Int) (F:Int→List (Option Int)) (ad:Int→Addr),vs=[.ref v]∧H v=some (.tup [.ref r,.ref d])∧H r=some (.lst (rs.map nmV))∧H d=some (.dK (S.map fun t=>(Sum.inl t,.ref (ad t))))∧(∀ t∈S,H (ad t)=some (.lst ((F t).map nmV)))∧(∀ t,some t∈rs→t∈S)∧(∀ u∈S,∀ t,some t∈F u→t∈S)∧S.length≤10000∧∀ st kvs ms H',aD H H'→H st=none→H' st=some (.dK kvs)→Kys kvs ms→ms.Nodup→(∀ t,t∈ms↔Rc rs F t)→Q (.ref st) H'
abbrev Ia:List Str:=["view", "steps", "place", "thing", "met", "done"]
theorem eQ:av Ia ["view"] (aq qO):=⟨rfl,rfl,rfl,by decide +kernel,rfl,by decide +kernel,by decide +kernel⟩
theorem Gn (F:Fun K "last_steps" "last_steps" qO D.fE D.kJ) (T:Txt K mg D):Ok P w K mg base 1 D.fE D.kJ ["view"] (LA):=by
 refine ⟨?_,F.binds (ps:=["view"]) fun _ _ _ _ _ _ us hl=>match us,hl with|[_],_=>rfl⟩
 refine F.okE eQ (fun vs H Q E h=>?_) (fun cdv A' outer s' H vs Q E hr h=>?_)
 ·obtain ⟨v,r,d,rs,S,F,ad,rfl,_⟩:=h
  rfl
 ·obtain ⟨v,r,d,rs,S,F,ad,rfl,ht,hrs,hd,O8,hrt,hcl,Rw,k⟩:=h
  have hu:=lI hr
  refine ⟨_,(PSs.nox (ao (bN (i:=1) eQ.nd rfl (Or.inl rfl) mG)
   (ao (pw PassesOwn.never rfl (Jn rfl T.mh (ab (br cn (pv 0) ar (fun _ _=>rfl)) ak)) (MX rfl (qF (fH (i:=2) eQ.nd rfl (Or.inl rfl)) (qF (fH (i:=3) eQ.nd rfl (Or.inl rfl)) Jf)))
    (ai (di (PW.pt (pw_and (aW Nk (pv 3) j2 (bJ _)) (pw_and1 (qD (j7 hu (pv 3) (pv 1)) (by with_unfolding_all rfl)))))
     (ai (sI hu (pv 1) (pv 3) (fI (ab j2 (ab (pv 2) ak))) rfl))
     bC)))
   (ao (bN (i:=4) eQ.nd rfl (Or.inl rfl) (nX (Fq rfl) rfl T.vI PyProof.Rows.Boot.«list» (ab (pv 1) ak)))
   (ao (bN (i:=5) eQ.nd rfl (Or.inl rfl) ar)
   (ao (Ph PassesOwn.never (aW Fj (pv 5) (fX gI rfl T.vq PyProof.Rows.Boot.«len» (ab (pv 4) ak)) (bJ _))
    (ao (pw PassesOwn.never rfl (Jn rfl T.mh (ab (pU hu (br cn (pv 0) ar (fun _ _=>rfl)) (br ck (pv 4) (pv 5) (fun _ _=>rfl)) (fun _ _=>rfl)) ak)) (MX rfl (qF (fH (i:=2) eQ.nd rfl (Or.inl rfl)) (qF (fH (i:=3) eQ.nd rfl (Or.inl rfl)) Jf)))
     (ai (di (PW.pt (pw_and (aW Nk (pv 3) j2 (bJ _)) (pw_and1 (qD (j7 hu (pv 3) (pv 1)) (by with_unfolding_all rfl)))))
      (ao (sI hu (pv 1) (pv 3) (fI (ab (br ck (pv 4) (pv 5) (fun _ _=>rfl)) (ab (pv 2) ak))) rfl)
      (ai (aH (OS PySem.F.plainAttrs_list PySem.F.slot_list_append PySem.F.type_list_append vm (pv 4) (ab (pv 3) ak)))))
      bC)))
    (ai (XQ (i:=5) eQ.nd rfl (Or.inl rfl) ar XR))))
   (ai (aP (pv 1))))))))),?_⟩
  refine fun st hst=>?_
  have s0:aD H (upd H st (.dK [])):=aD.upd hst
  have kyS:Kys (S.map fun t=>((Sum.inl t:Key),V.ref (ad t))) S:=by unfold Kys;rw [List.map_map];rfl
  have dgS:∀ {Hc:Hp},aD H Hc→∀ {t:Int},t∈S→pT Hc d (.int t) (some (.ref (ad t))):=fun {Hc} sc {t} m=>by
   have e:lJ (S.map fun t=>((Sum.inl t:Key),V.ref (ad t))) (Sum.inl t)=some (.ref (ad t)):=by
    clear kyS Rw hcl hrt O8 hd
    induction S with
    | nil=>cases m
    | cons a r ih =>
     rw [List.map_cons]
     by_cases c:a=t
     ·rw [oo (by show Sum.inl a=Sum.inl t;rw [c]),c]
     ·rw [oq (fun z=>c (Sum.inl.inj z))]
      exact ih ((List.mem_cons.mp m).resolve_left fun z=>c z.symm)
   exact .inl ⟨_,Sum.inl t,.inl (sc _ _ hd),rfl,e.symm⟩
  have few:∀ {kvs:List (Key×V)} {ms:List Int},Kys kvs ms→ms.Nodup→(∀ m∈ms,m∈S)→kvs.length<sizeLine:=fun k nd h=>by rw [k.len];exact vM (Nat.le_trans (qJ nd h) (by omega))
  refine ⟨_,rfl,v,_,0,.ref r,rfl,rfl,SqT.of (s0 _ _ ht),rfl,r,rfl,⟨_,SqL.of (s0 _ _ hrs)⟩,FV (K:=K) (a:=r) (xs:=rs.map nmV) (fun i σ H2=>∃ (v2 v3:Option V) (kvs:List (Key×V)) (ms:List Int),σ=[some (.ref v),some (.ref st),v2,v3,none,none]∧aD H H2∧H2 st=some (.dK kvs)∧Kys kvs ms∧ms.Nodup∧(∀ m∈ms,m∈S)∧(∀ m∈ms,Rc rs F m)∧∀ (j:Nat) t,j<i→rs[j]?=some (some t)→t∈ms)
   ⟨none,none,[],[],rfl,s0,ah,rfl,List.nodup_nil,(fun t h=>nomatch h),(fun t h=>nomatch h),(fun j t h=>absurd h (Nat.not_lt_zero _))⟩ (fun i σ H2 _ ⟨_,_,_,_,_,s2,_⟩=>SqL.of (s2 _ _ hrs)) ?_ ?_⟩
  ·rintro i x σ H2 t hx ⟨v2,v3,kvs,ms,rfl,s2,hs,ky,nd,sub,snd,EA⟩ htt
   have hi:i<rs.length:=by have:=(List.getElem?_eq_some_iff.mp hx).1;rwa [List.length_map] at this
   have ri:rs[i]?=some rs[i]:=List.getElem?_eq_getElem hi
   have hxe:x=nmV rs[i]:=by
    rw [List.getElem?_map,ri] at hx
    exact (Option.some.inj hx).symm
   subst hxe
   have s3:aD H2 (upd H2 t (.tup [.int (i:Int),nmV rs[i]])):=aD.upd htt
   refine ⟨t,_,rfl,SqT.of ah,rfl,_,_,rfl,_,_,rfl,rfl,?_⟩
   cases hc:rs[i] with
   | none =>
    rw [hc] at s3 ri
    refine ⟨_,rfl,rfl,_,rfl,rz (rz ⟨_,_,kvs,ms,rfl,s2.trans s3,s3 _ _ hs,ky,nd,sub,snd,fun j t hj e=>?_⟩)⟩
    rcases Nat.lt_or_ge j i with z|z
    ·exact EA j t z e
    ·rw [show j=i by omega,ri] at e
     cases e
   | some n =>
    rw [hc] at s3 ri
    have mr:=List.mem_of_getElem? ri
    refine ⟨_,rfl,rfl,_,rfl,vB ⟨_,rfl,_,rfl,st,_,rfl,pT.k (k:=Sum.inl n) (s3 _ _ hs),_,rfl,?_⟩⟩
    rw [ky.isS]
    by_cases hin:n∈ms
    ·rw [decide_eq_true hin]
     refine rz ⟨_,_,kvs,ms,rfl,s2.trans s3,s3 _ _ hs,ky,nd,sub,snd,fun j t hj e=>?_⟩
     rcases Nat.lt_or_ge j i with z|z
     ·exact EA j t z e
     ·rw [show j=i by omega,ri] at e
      cases e
      exact hin
    ·rw [decide_eq_false hin]
     refine vB ⟨_,rfl,by show 2≤sizeLine;decide,fun u hu'=>?_⟩
     have s4:=aD.upd (o:=.tup [V.non,V.int (i:Int)]) hu'
     refine ⟨_,rfl,_,rfl,st,_,rfl,Ha.k (k:=Sum.inl n) (s4 _ _ (s3 _ _ hs)) (few ky nd sub),_,_,putK kvs (Sum.inl n) (.ref u),ms++[n],rfl,fun c u' g=>by rw [af (au g hst)];exact s4 _ _ (s3 _ _ (s2 c u' g)),ah,ky.snoc hin,PV nd hin,fun m h=>?_,fun m h=>?_,fun j t hj e=>?_⟩
     ·rcases List.mem_append.mp h with g|g
      ·exact sub m g
      ·rw [List.mem_singleton.mp g];exact hrt n mr
     ·rcases List.mem_append.mp h with g|g
      ·exact snd m g
      ·rw [List.mem_singleton.mp g];exact .root mr
     ·rcases Nat.lt_or_ge j i with z|z
      ·exact List.mem_append_left _ (EA j t z e)
      ·rw [show j=i by omega,ri] at e
       cases e
       exact List.mem_append_right _ List.mem_cons_self
  ·rintro σ H2 ⟨v2,v3,kvs,ms,rfl,s2,hs,ky,nd,sub,snd,EA⟩
   refine ⟨_,rfl,st,_,ms,rfl,.inl hs,ky,fun mt hmt=>?_⟩
   have s3:=aD.upd (o:=.lst (ms.map V.int)) hmt
   have adO:H mt=none:=aD.none s2 hmt
   refine ⟨fun m σ H4=>∃ (dn:Nat) (v2 v3:Option V) (kvs:List (Key×V)) (ms:List Int),m=S.length+1-dn∧σ=[some (.ref v),some (.ref st),v2,v3,some (.ref mt),some (.int (dn:Int))]∧Wk H H4 st mt rs F S kvs ms∧(∀ u∈ms.take dn,∀ t,some t∈F u→t∈ms)∧dn≤ms.length,⟨_,0,v2,v3,kvs,ms,rfl,rfl,⟨s2.trans s3,s3 _ _ hs,ky,nd,sub,snd,ah,fun t h=>?_⟩,(fun u h=>nomatch h),Nat.zero_le _⟩,?_⟩
   ·obtain ⟨j,hj⟩:=List.mem_iff_getElem?.mp h
    exact EA j t (by rw [List.length_map];exact (List.getElem?_eq_some_iff.mp hj).1) hj
   clear hs ky nd sub snd EA s3 s2
   rintro m σ H4 ⟨dn,v2,v3,kvs,ms,rfl,rfl,W,don,hdl⟩
   have ml:=qJ W.nd W.sub
   refine ⟨_,rfl,_,rfl,mt,_,rfl,.inl (SqL.of W.hm),_,_,rfl,rfl,_,rfl,aQ (fun h=>?_) (fun h=>?_)⟩
   ·have hd1:dn<ms.length:=by
     have h1:(dn:Int)<((ms.map V.int).length:Int):=by simpa using h
     rw [List.length_map] at h1
     omega
    refine ⟨fun σ' H'=>∃ m',m'<S.length+1-dn∧∃ (dn:Nat) (v2 v3:Option V) (kvs:List (Key×V)) (ms:List Int),m'=S.length+1-dn∧σ'=[some (.ref v),some (.ref st),v2,v3,some (.ref mt),some (.int (dn:Int))]∧Wk H H' st mt rs F S kvs ms∧(∀ u∈ms.take dn,∀ t,some t∈F u→t∈ms)∧dn≤ms.length,fun _ _ h=>h,?_⟩
    have tk:ms.take (dn+1)=ms.take dn++[ms[dn]]:=List.take_succ_eq_append_getElem hd1
    obtain ⟨t,et⟩:∃ t,ms[dn]=t:=⟨_,rfl⟩
    obtain ⟨pre,RV⟩:∃ pre,ms.take dn=pre:=⟨_,rfl⟩
    rw [et,RV] at tk
    rw [RV] at don
    have adP:pre.length=dn:=by rw [←RV,List.length_take];omega
    have htm:t∈ms:=by rw [←et];exact List.getElem_mem hd1
    have hin:t∈S:=W.sub t htm
    have at_:∀ {ns:List Int},ns.take (dn+1)=pre++[t]→ns[dn]?=some t:=fun {ns} e=>by
     have:(ns.take (dn+1))[dn]?=some t:=by rw [e,List.getElem?_append_right (by omega),adP,Nat.sub_self];rfl
     rwa [List.getElem?_take_of_lt (Nat.lt_succ_self _)] at this
    have hat:∀ {ns:List Int},ns.take (dn+1)=pre++[t]→atI (ns.map V.int) (dn:Int)=some (.int t):=fun e=>vA (by rw [List.getElem?_map,at_ e];rfl)
    have rw_:=O8 t hin
    refine ⟨_,rfl,v,_,1,.ref d,rfl,rfl,SqT.of (W.sm _ _ ht),rfl,_,rfl,_,rfl,mt,_,_,.int t,rfl,rfl,SqL.of W.hm,hat tk,d,_,rfl,dgS W.sm hin,ad t,rfl,⟨_,SqL.of (W.sm _ _ rw_)⟩,
     FV (K:=K) (a:=ad t) (xs:=(F t).map nmV) (fun j σ H6=>∃ (v2 v3:Option V) (kvs:List (Key×V)) (ms:List Int),σ=[some (.ref v),some (.ref st),v2,v3,some (.ref mt),some (.int (dn:Int))]∧Wk H H6 st mt rs F S kvs ms∧ms.take (dn+1)=pre++[t]∧dn<ms.length∧(∀ u∈pre,∀ t,some t∈F u→t∈ms)∧∀ (q:Nat) n,q<j→(F t)[q]?=some (some n)→n∈ms)
     ⟨v2,v3,kvs,ms,rfl,W,tk,hd1,don,(fun q n h=>absurd h (Nat.not_lt_zero _))⟩ (fun j σ H6 _ ⟨_,_,_,_,_,w6,_⟩=>SqL.of (w6.sm _ _ rw_)) ?_ ?_⟩
    ·clear W don hdl ml hd1 tk et RV htm
     rintro j x σ H6 u hx ⟨v2,v3,kvs,ms,rfl,W,tk,hd1,don,EA⟩ hut
     have hlj:j<(F t).length:=by have:=(List.getElem?_eq_some_iff.mp hx).1;rwa [List.length_map] at this
     have fj:(F t)[j]?=some (F t)[j]:=List.getElem?_eq_getElem hlj
     have hxe:x=nmV (F t)[j]:=by
      rw [List.getElem?_map,fj] at hx
      exact (Option.some.inj hx).symm
     subst hxe
     have htm:t∈ms:=List.mem_of_getElem? (at_ tk)
     refine ⟨u,_,rfl,SqT.of ah,rfl,_,_,rfl,_,_,rfl,rfl,?_⟩
     cases hc:(F t)[j] with
     | none =>
      rw [hc] at fj
      have s7:=aD.upd (o:=.tup [.int (j:Int),nmV none]) hut
      refine ⟨_,rfl,rfl,_,rfl,rz (rz ⟨_,_,kvs,ms,rfl,W.same s7,tk,hd1,don,fun q n hq e=>?_⟩)⟩
      rcases Nat.lt_or_ge q j with z|z
      ·exact EA q n z e
      ·rw [show q=j by omega,fj] at e
       cases e
     | some n =>
      rw [hc] at fj
      have mf:=List.mem_of_getElem? fj
      have hk:n∈S:=hcl t hin n mf
      have s7:=aD.upd (o:=.tup [.int (j:Int),nmV (some n)]) hut
      have W7:=W.same s7
      refine ⟨_,rfl,rfl,_,rfl,vB ⟨_,rfl,_,rfl,st,_,rfl,pT.k (k:=Sum.inl n) W7.hs,_,rfl,?_⟩⟩
      rw [W7.ky.isS]
      by_cases hn6:n∈ms
      ·rw [decide_eq_true hn6]
       refine rz ⟨_,_,kvs,ms,rfl,W7,tk,hd1,don,fun q n' hq e=>?_⟩
       rcases Nat.lt_or_ge q j with z|z
       ·exact EA q n' z e
       ·rw [show q=j by omega,fj] at e
        cases e
        exact hn6
      ·rw [decide_eq_false hn6]
       refine vB ⟨_,rfl,_,rfl,mt,_,_,.int t,rfl,rfl,SqL.of W7.hm,hat tk,_,rfl,by show 2≤sizeLine;decide,fun u2 hu2=>?_⟩
       have s8:=aD.upd (o:=.tup [V.int t,V.int (j:Int)]) hu2
       have W8:=W7.same s8
       have W9:=W8.put (v:=.ref u2) hst adO hn6 hk (.step (W.snd t htm) mf)
       have nms:mt≠st:=aw W8.hm W8.hs (by intro z;cases z)
       have zm9:upd (upd (upd H6 u (.tup [.int (j:Int),nmV (some n)])) u2 (.tup [V.int t,V.int (j:Int)])) st (.dK (putK kvs (Sum.inl n) (.ref u2))) mt=some (.lst (ms.map V.int)):=by rw [af nms];exact W8.hm
       refine ⟨_,rfl,_,rfl,st,_,rfl,Ha.k (k:=Sum.inl n) W8.hs (few W8.ky W8.nd W8.sub),?_⟩
       refine ⟨_,rfl,.inl ⟨rfl,_,SqL.of zm9⟩,_,rfl,mt,_,_,rfl,rfl,zm9,by rw [List.length_map];exact vM (Nat.le_trans (qJ W8.nd W8.sub) (by omega)),?_⟩
       refine ⟨_,_,_,ms++[n],rfl,W9,by rw [List.take_append_of_le_length (by omega)];exact tk,by rw [List.length_append];omega,fun u h t' e=>List.mem_append_left _ (don u h t' e),fun q n' hq e=>?_⟩
       rcases Nat.lt_or_ge q j with z|z
       ·exact List.mem_append_left _ (EA q n' z e)
       ·rw [show q=j by omega,fj] at e
        cases e
        exact List.mem_append_right _ List.mem_cons_self
    ·clear W don hdl ml hd1 tk et RV htm
     rintro σ H6 ⟨v2,v3,kvs,ms,rfl,W,tk,hd1,don,EA⟩
     rw [List.length_map] at EA
     have ml:=qJ W.nd W.sub
     refine ⟨_,rfl,_,1,rfl,rfl,S.length+1-(dn+1),by omega,dn+1,v2,v3,kvs,ms,rfl,rfl,W,fun u h t' e=>?_,hd1⟩
     rw [tk] at h
     rcases List.mem_append.mp h with g|g
     ·exact don u g t' e
     ·rw [List.mem_singleton.mp g] at e
      obtain ⟨q,hq⟩:=List.mem_iff_getElem?.mp e
      exact EA q t' (List.getElem?_eq_some_iff.mp hq).1 hq
   ·have hge:ms.length≤dn:=by
     have h1:¬(dn:Int)<((ms.map V.int).length:Int):=by simpa using h
     rw [List.length_map] at h1
     omega
    rw [List.take_of_length_le hge] at don
    exact ⟨_,rfl,k st kvs ms H4 W.sm hst W.hs W.ky W.nd fun t=>⟨W.snd t,Yo W.rts don⟩⟩
theorem NJ {H:Hp} {xs:List V} {ws:List Wd} (r:Rel H xs ws) {i:Nat} {x:V} (h:xs[i]?=some x):∃ w,ws[i]?=some w∧WV H x w:=by
 have hi:=(List.getElem?_eq_some_iff.mp h).1
 have hw:i<ws.length:=by rw [←r.1];exact hi
 obtain ⟨v,hv,wv⟩:=r.get hw
 rw [hv] at h
 cases h
 exact ⟨_,List.getElem?_eq_getElem hw,wv⟩
def Vk:Sp:=fun vs H Q _=>∃ v w d kvs S,vs=[v,.ref d]∧WV H v w∧Rd H d (.dK kvs)∧Kys kvs S∧Q (nmV (amg S w)) H
abbrev Gp:List Str:=["value", "things"]
theorem ES:av Gp ["value", "things"] (aq pF):=⟨rfl,rfl,rfl,by decide +kernel,rfl,by decide +kernel,by decide +kernel⟩
theorem ET (F:Fun K "thing_among" "thing_among" pF D.eO D.jM) (T:Txt K mg D)
  (ka:Ok P w K mg base 1 D.iW D.nZ ["value"] (M8)):Ok P w K mg base 2 D.eO D.jM ["value", "things"] (Vk):=by
 refine ⟨?_,F.binds (ps:=["value", "things"]) fun _ _ _ _ _ _ us hl=>match us,hl with|[_,_],_=>rfl⟩
 refine F.okE ES (fun vs H Q E h=>?_) (fun cdv A' outer s' H vs Q E hr h=>?_)
 ·obtain ⟨v,w,d,kvs,S,rfl,_⟩:=h
  rfl
 ·obtain ⟨v,w,d,kvs,S,rfl,wv,hd,hk,k⟩:=h
  have hu:=lI hr
  refine ⟨_,(PSs.nox (ao (di (PW.pt (pw_and (aW og (aR ka.g (hr.mono (by decide)) rfl T.Hk T.vp ka.b .nil eJ (ab (pv 0) ak)) bq (bJ _)) (pw_and1 (qD (Ql hu (br cn (pv 0) ar (fun _ _=>rfl)) (pv 1)) (by with_unfolding_all rfl)))))
    (ai (aP (br cn (pv 0) ar (fun _ _=>rfl))))
    bC)
   (ai (aP j2)))),?_⟩
  refine ⟨_,rfl,v,w,rfl,wv,?_⟩
  cases w with
  | no=>exact ⟨rfl,_,rfl,aQ (fun h=>absurd h (Bool.eq_false_iff.mp (by kernel_rfl))) (fun _=>rz k)⟩
  | num n=>exact ⟨rfl,_,rfl,aQ (fun h=>absurd h (Bool.eq_false_iff.mp (by kernel_rfl))) (fun _=>rz k)⟩
  | th t =>
   obtain ⟨a,rfl,ht⟩:=wv
   refine ⟨rfl,_,rfl,aQ (fun _=>?_) (fun h=>absurd (by kernel_rfl) h)⟩
   refine ⟨_,rfl,a,_,1,.int t,rfl,rfl,SqT.of ht,rfl,_,rfl,d,_,rfl,.inl ⟨kvs,Sum.inl t,hd,rfl,rfl⟩,_,rfl,?_⟩
   rw [hk.isS]
   by_cases c:t∈S
   ·rw [decide_eq_true c]
    rw [show amg S (.th t)=some t from if_pos c] at k
    exact vB ⟨_,rfl,a,_,1,.int t,rfl,rfl,SqT.of ht,rfl,k⟩
   ·rw [decide_eq_false c]
    rw [show amg S (.th t)=none from if_neg c] at k
    exact rz k
def JJ (D:Ad):Sp:=fun vs H Q _=>∃ x A s l xs ws d kvs S,vs=[.ref x,.ref l,.ref d]∧IH D H x A s∧Good s∧H l=some (.lst xs)∧Rel H xs ws∧ws.length≤100000∧H d=some (.dK kvs)∧Kys kvs S∧(∀ t∈S,∃ ws,(t,ws)∈s.aN)∧S.Nodup∧S.length≤10000∧∀ st kv ms H',aD H H'→H st=none→H' st=some (.dK kv)→Kys kv ms→ms.Nodup→(∀ t,t∈ms↔Led ws (fld s) S t)→Q (.ref st) H'
abbrev lH:List Str:=["self", "leads", "things", "fields", "t"]
theorem kz:av lH ["self", "leads", "things"] (aq gU):=⟨rfl,rfl,rfl,by decide +kernel,rfl,by decide +kernel,by decide +kernel⟩
theorem yS (F:Fun K "led_among" "Heap.led_among" gU D.bt D.eG) (T:Txt K mg D)
  (iM:Ok P w K mg base 2 D.eO D.jM ["value", "things"] (Vk))
  (nu:Ok P w K mg base 1 D.fE D.kJ ["view"] (LA)):Ok P w K mg base 3 D.bt D.eG ["self", "leads", "things"] (JJ D):=by
 refine ⟨?_,F.binds (ps:=["self", "leads", "things"]) fun _ _ _ _ _ _ us hl=>match us,hl with|[_,_,_],_=>rfl⟩
 refine F.okE kz (fun vs H Q E h=>?_) (fun cdv A' outer s' H vs Q E hr h=>?_)
 ·obtain ⟨x,A,s,l,xs,ws,d,kvs,S,rfl,_⟩:=h
  rfl
 ·obtain ⟨x,A,s,l,xs,ws,d,kvs,S,rfl,J,G,hl,rx,hw,hd,hk,hin,hnd,Rw,k⟩:=h
  have hu:=lI hr
  refine ⟨_,(PSs.nox (ao (bN (i:=3) kz.nd rfl (Or.inl rfl) mG)
   (ao (pw PassesOwn.never rfl (vG (Ew (pv 2))) (fH (i:=4) kz.nd rfl (Or.inl rfl))
    (ai (sI hu (pv 3) (pv 4) (Bl (cl:=[("things",s'.heap.objs.size+1)]) (x := "value") (idx:=[2]) (NC:=["value", "things"]) ?co2 rfl (pS (pU hu (aG (pv 0) rfl) (pv 4) (fun _ _=>rfl))) (fun C fp s₀ H₀=>(aR iM.g (hr.mono (by decide)) rfl T.vH T.lN iM.b .nil A0 (ab (pv 0) (ab (pv 1) ak))))) rfl)))
   (ai (aP (Qv (aR nu.g (hr.mono (by decide)) rfl T.HH T.qV nu.b .nil eJ (ab (fI (ab (Bl (cl:=[("things",s'.heap.objs.size+1)]) (x := "value") (idx:=[2]) (NC:=["value", "things"]) ?co1 rfl (pS (pv 1)) (fun C fp s₀ H₀=>(aR iM.g (hr.mono (by decide)) rfl T.vH T.lN iM.b .nil A0 (ab (pv 0) (ab (pv 1) ak))))) (ab (pv 3) ak))) ak)))))))),?_⟩
  case co1 =>
   exact pW (sc:=aq gU) (N:=lH) (ns:=["things"]) rfl rfl rfl (by decide +kernel) rfl rfl (by
    intro q hq
    rw [List.mem_singleton.mp hq]
    rfl)
  case co2 =>
   exact pW (sc:=aq gU) (N:=lH) (ns:=["things"]) rfl rfl rfl (by decide +kernel) rfl rfl (by
    intro q hq
    rw [List.mem_singleton.mp hq]
    rfl)
  intro fa hfa
  have s1:=aD.upd (o:=.dK []) hfa
  refine ⟨_,rfl,d,kvs,s1 _ _ hd,fun o=>?_⟩
  have nfd:fa≠d:=Ne.symm (au hd hfa)
  have xd:x≠d:=aw J.ax hd (by intro z;cases z)
  have ld:l≠d:=aw hl hd (by intro z;cases z)
  have okH:∀ Hc:Hp,((∀ b u,b≠d→H b=some u→Hc b=some u)∧Hc d=some (.frz o (.dK kvs)))→fD H Hc:=fun Hc oc b us q=>oc.1 b _ (aw q hd (by intro z;cases z)) q
  have dg:∀ {Hc:Hp},((∀ b u,b≠d→H b=some u→Hc b=some u)∧Hc d=some (.frz o (.dK kvs)))→∀ {t:Int} {ws:List Wd},(t,ws)∈s.aN→pT Hc A.fh (.int t) (some (.ref (A.fa t))):=fun {Hc} oc {t ws} m=>by
   have e:lJ (s.aN.map (fkv A)) (Sum.inl t)=some (.ref (A.fa t)):=by rw [Qz,G.get m];rfl
   by_cases c:A.fh=d
   ·have ek:kvs=s.aN.map (fkv A):=by
     have:=J.afh
     rw [c,hd] at this
     injection this with this
     injection this
    exact .inl ⟨kvs,Sum.inl t,.inr ⟨o,by rw [c];exact oc.2⟩,rfl,by rw [ek,e]⟩
   ·exact .inl ⟨_,Sum.inl t,.inl (oc.1 _ _ c J.afh),rfl,e.symm⟩
  have lk:=hk.len
  refine ⟨d,o,kvs,rfl,ah,A7 (d:=d) (o:=o) (kvs:=kvs) (fun i σ Hc=>∃ (v4:Option V) (ad:Int→Addr),σ=[some (.ref x),some (.ref l),some (.ref d),some (.ref fa),v4]∧((∀ b u,b≠d→H b=some u→Hc b=some u)∧Hc d=some (.frz o (.dK kvs)))∧Hc fa=some (.dK ((S.take i).map fun t=>(Sum.inl t,.ref (ad t))))∧∀ t∈S.take i,Hc (ad t)=some (.lst (((fld s t).map (amg S)).map nmV)))
   ⟨none,fun _=>0,rfl,⟨fun b u n q=>by rw [af n];exact s1 b u q,ah⟩,by rw [af nfd];exact ah,(fun t h=>nomatch h)⟩ (fun i σ Hc _ ⟨_,_,_,oc,_⟩=>oc.2) ?_ ?_⟩
  ·rintro i p σ Hc hi ⟨v4,ad,rfl,oc,hf,O8⟩
   obtain ⟨t,ht,ekv,ep⟩:=hk.at_ hi
   have hlt:i<S.length:=(List.getElem?_eq_some_iff.mp ht).1
   have et:S[i]=t:=(List.getElem?_eq_some_iff.mp ht).2
   have mt:t∈S:=List.mem_of_getElem? ht
   obtain ⟨w0,m⟩:=hin t mt
   obtain ⟨hl0,rl⟩:=J.afl _ _ m
   have tc:=okH Hc oc
   have fm:=G.fld m
   rw [←fm] at rl
   have nl:A.fa t≠d:=aw hl0 hd (by intro z;cases z)
   have hlc:=oc.1 _ _ nl hl0
   have f6:=G.f6 _ _ m
   rw [←fm] at f6
   have lz:(fld s t).length≤sizeLine:=oa (by omega)
   refine ⟨_,rfl,x,D.aa,_,_,.ref A.fh,rfl,oc.1 _ _ xd J.ax,T.ae,T.az,qi,_,rfl,A.fh,.ref (A.fa t),rfl,(by rw [ekv];exact dg oc m),A.fa t,rfl,⟨_,SqL.of hlc⟩,fun L hL=>?_⟩
   refine qk (K:=K) (a:=A.fa t) (xs:=A.fx t) (fun i ys H2=>ys=((fld s t).take i).map (fun w=>nmV (amg S w))∧aD Hc H2∧H2 L=some (.lst ys)) ⟨rfl,aD.upd hL,ah⟩ (fun i ys H2 hi ⟨e,_,z⟩=>⟨z,by rw [e,List.length_map,List.length_take,←rl.1];omega⟩) (fun i ys H2 hi ⟨_,s2,_⟩=>SqL.of (s2 _ _ hlc)) (by rw [rl.1];exact lz) (fun i y ys H2 hi ⟨e,s2,z⟩=>?_) (fun ys H2 ⟨e,s2,z⟩=>?_)
   ·obtain ⟨wd,hw,wv⟩:=NJ rl hi
    refine ⟨_,rfl,_,rfl,y,wd,d,kvs,S,rfl,wv.keep (tc.trans (fD.of s2)),.inr ⟨o,s2 _ _ oc.2⟩,hk,z,?_,fun b u q=>by rw [af (au q hL)];exact s2 b u q,ah⟩
    have hlt:i<(fld s t).length:=(List.getElem?_eq_some_iff.mp hw).1
    rw [List.take_succ_eq_append_getElem hlt,List.map_append,e,(List.getElem?_eq_some_iff.mp hw).2]
    rfl
   ·rw [rl.1,List.take_of_length_le (Nat.le_refl _)] at e
    have zf:H2 fa=some (.dK ((S.take i).map fun t=>(Sum.inl t,.ref (ad t)))):=s2 _ _ hf
    have kyf:Kys ((S.take i).map fun t=>((Sum.inl t:Key),V.ref (ad t))) (S.take i):=by unfold Kys;rw [List.map_map];rfl
    have ni:t∉S.take i:=fun z=>by
     have:=List.nodup_append.mp (show (S.take i++S.drop i).Nodup by rw [List.take_append_drop];exact hnd)
     exact this.2.2 t z t (by rw [List.drop_eq_getElem_cons hlt,et];exact List.mem_cons_self) rfl
    have nLf:L≠fa:=Ne.symm (au hf hL)
    refine ⟨_,rfl,_,rfl,fa,_,rfl,(by rw [ekv];exact Ha.k (k:=Sum.inl t) zf (by rw [List.length_map,List.length_take];exact vM (by omega))),?_⟩
    rw [AX _ (kyf.non ni)]
    refine ⟨_,fun u=>if u=t then L else ad u,rfl,⟨fun b u n q=>?_,?_⟩,?_,fun u hu'=>?_⟩
    ·rw [af (au q hfa)]
     exact s2 _ _ (oc.1 b u n q)
    ·rw [af (Ne.symm nfd)]
     exact s2 _ _ oc.2
    ·rw [ah,List.take_succ_eq_append_getElem hlt,List.map_append,et]
     congr 3
     ·refine List.map_congr_left fun u hu'=>?_
      dsimp only
      rw [if_neg fun z=>ni (by rw [←z];exact hu')]
     ·simp only [List.map_cons,List.map_nil,if_true]
    ·rw [List.take_succ_eq_append_getElem hlt,et] at hu'
     dsimp only
     by_cases c:u=t
     ·subst c
      rw [if_pos rfl,af nLf,z,e,List.map_map]
      rfl
     ·rw [if_neg c]
      have mu:u∈S.take i:=(List.mem_append.mp hu').resolve_right fun z=>c (List.mem_singleton.mp z)
      have q:=O8 u mu
      rw [af (fun z=>by rw [z,hf] at q;cases q)]
      exact s2 _ _ q
  ·rintro σ Hc ⟨v4,ad,rfl,oc,hf,O8⟩
   rw [lk,List.take_of_length_le (Nat.le_refl _)] at hf O8
   have tc:=okH Hc oc
   have hlc:=oc.1 _ _ ld hl
   have lz:ws.length≤sizeLine:=Nat.le_trans hw (by decide)
   have rl:=rx
   refine ⟨_,rfl,l,rfl,⟨_,SqL.of hlc⟩,fun L hL=>?_⟩
   refine qk (K:=K) (a:=l) (xs:=xs) (fun i ys H2=>ys=(ws.take i).map (fun w=>nmV (amg S w))∧aD Hc H2∧H2 L=some (.lst ys)) ⟨rfl,aD.upd hL,ah⟩ (fun i ys H2 hi ⟨e,_,z⟩=>⟨z,by rw [e,List.length_map,List.length_take,←rl.1];omega⟩) (fun i ys H2 hi ⟨_,s2,_⟩=>SqL.of (s2 _ _ hlc)) (by rw [rl.1];exact lz) (fun i y ys H2 hi ⟨e,s2,z⟩=>?_) (fun ys H2 ⟨e,s2,z⟩=>?_)
   ·obtain ⟨wd,hw,wv⟩:=NJ rl hi
    refine ⟨_,rfl,_,rfl,y,wd,d,kvs,S,rfl,wv.keep (tc.trans (fD.of s2)),.inr ⟨o,s2 _ _ oc.2⟩,hk,z,?_,fun b u q=>by rw [af (au q hL)];exact s2 b u q,ah⟩
    have hlt:i<ws.length:=(List.getElem?_eq_some_iff.mp hw).1
    rw [List.take_succ_eq_append_getElem hlt,List.map_append,e,(List.getElem?_eq_some_iff.mp hw).2]
    rfl
   ·rw [rl.1,List.take_of_length_le (Nat.le_refl _)] at e
    refine ⟨_,rfl,by show 2≤sizeLine;decide,fun v hv=>?_⟩
    have s3:=aD.upd (o:=.tup [V.ref L,V.ref fa]) hv
    have s4:=s2.trans s3
    have bk:∀ {b:Addr},upd H2 v (.tup [V.ref L,V.ref fa]) b=none→H b=none:=fun {b} q=>by
     cases z:H b with
     | none=>rfl
     | some u =>
      by_cases c:b=d
      ·rw [c,s4 _ _ oc.2] at q;cases q
      ·rw [s4 _ _ (oc.1 b u c z)] at q;cases q
    refine ⟨v,L,fa,ws.map (amg S),S,fun t=>(fld s t).map (amg S),ad,rfl,ah,by rw [s3 _ _ z,e,List.map_map];rfl,s4 _ _ hf,fun t m=>s4 _ _ (O8 t m),fun t m=>?_,fun u _ t m=>?_,Rw,fun st kv ms H5 s5 hst h5 k5 n5 m5=>?_⟩
    ·obtain ⟨w,_,ew⟩:=List.mem_map.mp m
     exact (qI.mp ew).2
    ·obtain ⟨w,_,ew⟩:=List.mem_map.mp m
     exact (qI.mp ew).2
    ·have fd5:=s5 _ _ (s4 _ _ oc.2)
     refine ⟨d,o,kvs,fd5,(fun o' u' q=>by have q:H d=some (.frz o' u'):=q;rw [hd] at q;cases q),?_⟩
     have nst:st≠d:=fun q=>by rw [q,fd5] at h5;cases h5
     refine k st kv ms _ (fun b u q=>?_) (bk hst) (by rw [af nst];exact h5) k5 n5 fun t=>(m5 t).trans Yn
     by_cases c:b=d
     ·subst c
      rw [hd] at q
      cases q
      exact ah
     ·rw [af c]
      exact s5 _ _ (s4 _ _ (oc.1 b u c q))
theorem lookup_mem {α:Type} {fs:List (Int×α)} {t:Int} {w:α} (m:(t,w)∈fs):∃ v,fs.lookup t=some v:=by
 cases e:fs.lookup t with
 | some v=>exact ⟨v,rfl⟩
 | none=>exact absurd rfl (lookup_none e _ m)
theorem OD (gs:List Int):(gs.map V.int).all mx=true:=List.all_eq_true.mpr fun v hv=>by obtain ⟨n,_,rfl⟩:=List.mem_map.mp hv;rfl
theorem RW (n:Option Int):mx (nmV n)=true:=by cases n<;>rfl
theorem Na {gs:List Int} (h:gs.Pairwise (·< ·)) {i:Nat} {t:Int} (e:gs[i]?=some t):t∉gs.take i:=fun m=>by
 have hlt:=(List.getElem?_eq_some_iff.mp e).1
 have et:=(List.getElem?_eq_some_iff.mp e).2
 have:=List.pairwise_append.mp (show (gs.take i++gs.drop i).Pairwise (·< ·) by rw [List.take_append_drop];exact h)
 have:=this.2.2 t m t (by rw [List.drop_eq_getElem_cons hlt,et];exact List.mem_cons_self)
 omega
theorem take_snoc {α:Type} {gs:List α} {i:Nat} {t:α} (e:gs[i]?=some t):gs.take (i+1)=gs.take i++[t]:=by rw [List.take_succ_eq_append_getElem (List.getElem?_eq_some_iff.mp e).1,(List.getElem?_eq_some_iff.mp e).2]
theorem QD (bs:List (Int×Int)) (gs:List Int):(sdG bs gs).length≤gs.length:=List.length_filterMap_le _ _
def NK (D:Ad):Sp:=fun vs H Q _=>∃ x A s g gs,vs=[.ref A.nt,.ref g]∧IH D H x A s∧s.names.length=8∧H g=some (.lst (gs.map V.int))∧∀ A' H',IH D H' x A' {s with names:=s.names.map (nmG gs)}→Fr (aS x A s) H (aS x A' {s with names:=s.names.map (nmG gs)}) H'→Q .non H'
abbrev nG:List Str:=["self", "things"]
theorem ux:av nG ["self", "things"] (aq hZ):=⟨rfl,rfl,rfl,by decide +kernel,rfl,by decide +kernel,by decide +kernel⟩
theorem uy (F:Fun K "settle" "NameTable.settle" hZ D.cq D.gh) (T:Txt K mg D):Ok P w K mg base 1 D.cq D.gh ["self", "things"] (NK D):=by
 refine ⟨?_,F.binds (ps:=["self", "things"]) fun _ _ _ _ _ _ us hl=>match us,hl with|[_,_],_=>rfl⟩
 refine F.okE ux (fun vs H Q E h=>?_) (fun cdv A' outer s' H vs Q E hr h=>?_)
 ·obtain ⟨x,A,s,g,gs,rfl,_⟩:=h
  rfl
 ·obtain ⟨x,A,s,g,gs,rfl,J,h8,hg,k⟩:=h
  refine ⟨_,(PSs.nox (ai (iq (pv 0) (Bl (cl:=[("things",s'.heap.objs.size+1)]) (x := "t") (idx:=[1]) (NC:=["t", "things"]) ?co1 rfl (pS (aG (pv 0) rfl)) (fun C fp s₀ H₀=>(AU (aW (r:=rIn K false) G8 (pv 0) (pv 1) (by with_unfolding_all rfl)) j2 (pv 0)))) rfl))),?_⟩
  case co1 =>
   exact pW (sc:=aq hZ) (N:=nG) (ns:=["things"]) rfl rfl rfl (by decide +kernel) rfl rfl (by
    intro q hq
    rw [List.mem_singleton.mp hq]
    rfl)
  refine ⟨_,rfl,A.nt,D.aC,A.ntx,_,.ref A.nl,rfl,J.ant,T.dU,T.b4,rfl,A.nl,rfl,⟨_,SqL.of J.anl⟩,fun L hL=>?_⟩
  refine qk (K:=K) (a:=A.nl) (xs:=s.names.map nmV) (fun i zs H2=>zs=((s.names.take i).map (nmG gs)).map nmV∧aD H H2∧H2 L=some (.lst zs)) ⟨rfl,aD.upd hL,ah⟩ (fun i zs H2 hi ⟨e,_,z⟩=>⟨z,by rw [List.length_map] at hi;rw [e,List.length_map,List.length_map,List.length_take];omega⟩) (fun i zs H2 hi ⟨_,s2,_⟩=>SqL.of (s2 _ _ J.anl)) (by rw [List.length_map,h8];decide) (fun i y zs H2 hi ⟨e,s2,z⟩=>?_) (fun zs H2 ⟨e,s2,z⟩=>?_)
  ·rw [List.getElem?_map] at hi
   obtain ⟨n,hn,rfl⟩:=Option.map_eq_some_iff.mp hi
   have tk:=take_snoc hn
   refine ⟨_,rfl,_,rfl,g,_,rfl,.inl (SqL.of (s2 _ _ hg)),RW n,OD gs,_,rfl,?_⟩
   have sm:∀ {o:HO},aD H (upd H2 L o):=fun b u q=>by rw [af (au q hL)];exact s2 b u q
   show if inV (nmV n) (gs.map V.int)=true then _ else _
   rw [abB (f:=nmV) rfl (fun _=>rfl),tk,e]
   cases n with
   | none =>
    refine rz ⟨_,rfl,z.trans (by rw [e]),?_,sm,ah⟩
    rw [List.map_append,List.map_append]
    rfl
   | some t =>
    show if decide (t∈gs)=true then _ else _
    by_cases c:t∈gs
    ·rw [decide_eq_true c]
     refine vB ⟨z.trans (by rw [e]),?_,sm,ah⟩
     rw [List.map_append,List.map_append]
     simp [nmG,c,nmV]
    ·rw [decide_eq_false c]
     refine rz ⟨_,rfl,z.trans (by rw [e]),?_,sm,ah⟩
     rw [List.map_append,List.map_append]
     simp [nmG,c,nmV]
  ·rw [List.length_map,List.take_of_length_le (Nat.le_refl _)] at e
   rw [e] at z
   refine ⟨_,rfl,A.nt,D.aC,A.ntx,_,rfl,s2 _ _ J.ant,T.dU,T.b4,by show 1<1000;decide,?_⟩
   have w:=J.adN (ns:=s.names.map (nmG gs)) hL
   have sm:aD (upd (upd H L (.lst ((s.names.map (nmG gs)).map nmV))) A.nt (.ins D.aC A.ntx [("things_named",.ref L)])) (upd H2 A.nt (.ins D.aC A.ntx [("things_named",.ref L)])):=fun b u q=>by
    by_cases c:b=A.nt
    ·rw [c,ah] at q ⊢;exact q
    ·rw [af c] at q ⊢
     by_cases c2:b=L
     ·rw [c2,ah] at q;rw [c2,z];exact q
     ·rw [af c2] at q;exact s2 b u q
   exact k _ _ (w.1.same sm) (w.2.trans (Fr.same sm))
def wsF (s:HS) (gs:List Int):HS:={s with bp:=brG s.bp gs,qb:=s.qb++sdG s.bp gs}
theorem NL {s:HS}:wsF s []=s:=by cases s;simp [wsF,brG,sdG]
def NM (D:Ad):Sp:=fun vs H Q _=>∃ x A s g gs,vs=[.ref A.wt,.ref g]∧IH D H x A s∧H g=some (.lst (gs.map V.int))∧gs.Pairwise (·< ·)∧gs.length≤10000∧s.qb.length≤10000∧∀ A' H',IH D H' x A' (wsF s gs)→Fr (aS x A s) H (aS x A' (wsF s gs)) H'→Q .non H'
abbrev wx:List Str:=["self", "things", "t"]
theorem mM:av wx ["self", "things"] (aq jS):=⟨rfl,rfl,rfl,by decide +kernel,rfl,by decide +kernel,by decide +kernel⟩
theorem uz (F:Fun K "settle" "WordTable.settle" jS D.cp D.gg) (T:Txt K mg D):Ok P w K mg base 1 D.cp D.gg ["self", "things"] (NM D):=by
 refine ⟨?_,F.binds (ps:=["self", "things"]) fun _ _ _ _ _ _ us hl=>match us,hl with|[_,_],_=>rfl⟩
 refine F.okE mM (fun vs H Q E h=>?_) (fun cdv A' outer s' H vs Q E hr h=>?_)
 ·obtain ⟨x,A,s,g,gs,rfl,_⟩:=h
  rfl
 ·obtain ⟨x,A,s,g,gs,rfl,J,hg,asc,hn,hsd,k⟩:=h
  have hu:=lI hr
  refine ⟨_,(PSs.nox (ai (pw PassesOwn.never rfl (pS (fX Ka rfl T.uq PyProof.Rows.Boot.«sorted» (ab (pv 1) ak))) (fH (i:=2) mM.nd rfl (Or.inl rfl))
    (ai (di (qD (Ql hu (pv 2) (aG (pv 0) rfl)) (by with_unfolding_all rfl))
     (ai (aH (OS PySem.F.plainAttrs_list PySem.F.slot_list_append PySem.F.type_list_append vm (aG (pv 0) rfl) (ab (FR (aG (pv 0) rfl) (pv 2) ⟨rfl,rfl,rfl,rfl⟩) ak))))
     bC))))),?_⟩
  refine ⟨_,rfl,g,gs,rfl,SqL.of hg,by omega,asc.imp fun h=>Int.le_of_lt h,fun p hp=>?_⟩
  have s1:=aD.upd (o:=.lst (gs.map V.int)) hp
  have J1:=J.same s1
  have nfp:¬aS x A s p:=J.fresh hp
  refine ⟨p,rfl,⟨_,SqL.of ah⟩,K9 (K:=K) (a:=p) (xs:=gs.map V.int) (fun i σ H2=>∃ v2,σ=[some (.ref A.wt),some (.ref g),v2]∧IH D H2 x A (wsF s (gs.take i))∧Fr (aS x A s) (upd H p (.lst (gs.map V.int))) (aS x A (wsF s (gs.take i))) H2)
   ⟨none,rfl,(by rw [List.take_zero,NL];exact J1),(by rw [List.take_zero,NL];exact Fr.refl)⟩ (fun i σ H2 _ ⟨_,_,_,fr⟩=>SqL.of (fr.out nfp ah).1) ?_ ?_⟩
  ·rintro i y σ H2 hi ⟨v2,rfl,J2,fr⟩
   rw [List.getElem?_map] at hi
   obtain ⟨t,ht,rfl⟩:=Option.map_eq_some_iff.mp hi
   have ni:=Na asc ht
   have tk:=take_snoc ht
   have hi':=(List.getElem?_eq_some_iff.mp ht).1
   have lk:(brG s.bp (gs.take i)).lookup t=s.bp.lookup t:=My ni
   have vb:lJ ((wsF s (gs.take i)).bp.map bkv) (Sum.inl t)=(s.bp.lookup t).map V.int:=by rw [Vi];show ((brG s.bp (gs.take i)).lookup t).map V.int=_;rw [lk]
   refine ⟨_,rfl,_,rfl,A.wt,D.aE,A.wtx,_,.ref A.wb,rfl,J2.awt,T.bG,T.bj,rfl,A.wb,_,rfl,pT.k (k:=Sum.inl t) J2.awb,_,rfl,?_⟩
   rw [vb,Option.isSome_map]
   cases e:s.bp.lookup t with
   | none =>
    have es:wsF s (gs.take (i+1))=wsF s (gs.take i):=by
     unfold wsF
     rw [tk,Ly,Lz,e,filter_none (by rw [lk];exact e)]
     simp
    rw [es]
    exact rz ⟨_,rfl,J2,fr⟩
   | some v =>
    have es:wsF s (gs.take (i+1))={wsF s (gs.take i) with bp:=(brG s.bp (gs.take i)).filter fun p=>decide (p.1≠t),qb:=(s.qb++sdG s.bp (gs.take i))++[v]}:=by
     unfold wsF
     rw [tk,Ly,Lz,e]
     simp
    rw [es]
    rw [e] at vb
    refine vB ⟨_,rfl,A.wt,D.aE,A.wtx,_,.ref A.wl,rfl,J2.awt,T.bG,T.hW,rfl,.inl ⟨rfl,_,SqL.of J2.awl⟩,?_⟩
    refine ⟨_,rfl,A.wt,D.aE,A.wtx,_,.ref A.wb,rfl,J2.awt,T.bG,T.bj,rfl,A.wb,rfl,.inl ⟨_,.inl J2.awb⟩,_,rfl,_,Sum.inl t,.int v,J2.awb,rfl,vb,?_⟩
    rw [show sM ((wsF s (gs.take i)).bp.map bkv) (Sum.inl t)=((brG s.bp (gs.take i)).filter fun p=>decide (p.1≠t)).map bkv from RU]
    have w1:=J2.ab5 (bs:=(brG s.bp (gs.take i)).filter fun p=>decide (p.1≠t))
    have w2:=w1.1.adG (zs:=(s.qb++sdG s.bp (gs.take i))++[v])
    refine ⟨A.wl,_,.int v,rfl,rfl,w1.1.awl,vM ?_,?_⟩
    ·have:=QD s.bp (gs.take i)
     rw [List.length_take] at this
     show ((s.qb++sdG s.bp (gs.take i)).map V.int).length≤20000
     rw [List.length_map,List.length_append]
     omega
    ·rw [List.map_append] at w2
     exact ⟨_,rfl,w2.1,(fr.trans w1.2).trans w2.2⟩
  ·rintro σ H2 ⟨v2,rfl,J2,fr⟩
   rw [List.length_map,List.take_of_length_le (Nat.le_refl _)] at J2 fr
   exact k _ _ J2 ((Fr.same s1).trans fr)
def FY (D:Ad):Sp:=fun vs H Q _=>∃ x A s g gs,vs=[.ref x,.ref g]∧IH D H x A s∧s.names.length=8∧¬aS x A s g∧H g=some (.lst (gs.map V.int))∧gs.Pairwise (·< ·)∧gs.length≤10000∧s.qb.length≤10000∧(∀ t∈gs,∃ ws,(t,ws)∈s.aN)∧∀ A' H',IH D H' x A' (letGo s gs)→Fr (aS x A s) H (aS x A' (letGo s gs)) H'→Q .non H'
abbrev Gq:List Str:=["self", "gone", "t"]
theorem tW:av Gq ["self", "gone"] (aq pE):=⟨rfl,rfl,rfl,by decide +kernel,rfl,by decide +kernel,by decide +kernel⟩
theorem EU (F:Fun K "let_go" "Heap.let_go" pE D.de D.iK) (T:Txt K mg D)
  (ie:Ok P w K mg base 1 D.cq D.gh ["self", "things"] (NK D))
  (ig:Ok P w K mg base 1 D.cp D.gg ["self", "things"] (NM D)):Ok P w K mg base 2 D.de D.iK ["self", "gone"] (FY D):=by
 refine ⟨?_,F.binds (ps:=["self", "gone"]) fun _ _ _ _ _ _ us hl=>match us,hl with|[_,_],_=>rfl⟩
 refine F.okE tW (fun vs H Q E h=>?_) (fun cdv A' outer s' H vs Q E hr h=>?_)
 ·obtain ⟨x,A,s,g,gs,rfl,_⟩:=h
  rfl
 ·obtain ⟨x,A,s,g,gs,rfl,J,h8,nfg,hg,asc,hn,hsd,hin,k⟩:=h
  refine ⟨_,(PSs.nox (ao (pw PassesOwn.never rfl (pS (pv 1)) (fH (i:=2) tW.nd rfl (Or.inl rfl))
    (ai (aH (FR (aG (pv 0) rfl) (pv 2) ⟨rfl,rfl,rfl,rfl⟩))))
   (ao (aH (aK (aG (pv 0) rfl) T.dU T.uk ie.g (hr.mono (by decide)) ie.b .nil eJ (ab (pv 1) ak)))
   (ai (aH (aK (aG (pv 0) rfl) T.bG T.uj ig.g (hr.mono (by decide)) ig.b .nil eJ (ab (pv 1) ak))))))),?_⟩
  refine ⟨_,rfl,g,rfl,⟨_,SqL.of hg⟩,K9 (K:=K) (a:=g) (xs:=gs.map V.int) (fun i σ H2=>∃ v2,σ=[some (.ref x),some (.ref g),v2]∧IH D H2 x A {s with aN:=drG s.aN (gs.take i)}∧Fr (aS x A s) H (aS x A {s with aN:=drG s.aN (gs.take i)}) H2)
   ⟨none,rfl,(by rw [List.take_zero,NI];exact J),(by rw [List.take_zero,NI];exact Fr.refl)⟩ (fun i σ H2 _ ⟨_,_,_,fr⟩=>SqL.of (fr.out nfg hg).1) ?_ ?_⟩
  ·rintro i y σ H2 hi ⟨v2,rfl,J2,fr⟩
   rw [List.getElem?_map] at hi
   obtain ⟨t,ht,rfl⟩:=Option.map_eq_some_iff.mp hi
   have ni:=Na asc ht
   have tk:=take_snoc ht
   obtain ⟨ws,m⟩:=hin t (List.mem_of_getElem? ht)
   obtain ⟨v,hv⟩:=lookup_mem (jO.mpr ⟨m,ni⟩)
   have vf:lJ ((drG s.aN (gs.take i)).map (fkv A)) (Sum.inl t)=some (.ref (A.fa t)):=by rw [Qz,hv];rfl
   refine ⟨_,rfl,x,D.aa,_,_,.ref A.fh,rfl,J2.ax,T.ae,T.az,qi,A.fh,rfl,.inl ⟨_,.inl J2.afh⟩,_,rfl,_,Sum.inl t,_,J2.afh,rfl,vf,?_⟩
   have w:=J2.abJ (t:=t)
   rw [RT]
   rw [tk,PU]
   exact ⟨_,rfl,w.1,fr.trans w.2⟩
  ·rintro σ H2 ⟨v2,rfl,J2,fr⟩
   rw [List.length_map,List.take_of_length_le (Nat.le_refl _)] at J2 fr
   obtain ⟨hg2,nf2⟩:=fr.out nfg hg
   refine ⟨_,rfl,x,D.aa,_,_,.ref A.nt,rfl,J2.ax,T.ae,T.dN,OY,A.nt,A.ntx,_,rfl,J2.ant,rfl,_,rfl,x,A,_,g,gs,rfl,J2,h8,hg2,fun A3 H3 J3 fr3=>?_⟩
   obtain ⟨hg3,nf3⟩:=fr3.out nf2 hg2
   refine ⟨_,rfl,x,D.aa,_,_,.ref A3.wt,rfl,J3.ax,T.ae,T.dO,OZ,A3.wt,A3.wtx,_,rfl,J3.awt,rfl,_,rfl,x,A3,_,g,gs,rfl,J3,hg3,asc,hn,hsd,fun A4 H4 J4 fr4=>?_⟩
   exact k A4 H4 J4 ((fr.trans fr3).trans fr4)
def LB (fs:List (Int×List Wd)) (yn:List Int):List Wd:=fs.flatMap fun q=>if q.1∈yn then [] else q.2
def GV (s:HS):List Wd:=s.bK++LB s.aN s.yng
theorem Ho {fs:List (Int×List Wd)} {q:Int×List Wd} {yn:List Int}:LB (fs++[q]) yn=LB fs yn++(if q.1∈yn then [] else q.2):=by unfold LB;rw [List.flatMap_append];simp
theorem NN {fs:List (Int×List Wd)} {yn:List Int} (h:∀ t ws,(t,ws)∈fs→ws.length≤6):(LB fs yn).length≤6*fs.length:=by
 induction fs with
 | nil=>exact Nat.le_refl _
 | cons q r ih =>
  have i:=ih fun t ws m=>h t ws (List.mem_cons_of_mem _ m)
  have:=h q.1 q.2 List.mem_cons_self
  show ((if q.1∈yn then [] else q.2)++LB r yn).length≤6*(r.length+1)
  rw [List.length_append]
  by_cases c:q.1∈yn
  ·rw [if_pos c];simp;omega
  ·rw [if_neg c];omega
theorem PX {fs:List (Int×List Wd)} {yn:List Int} {w:Wd}:w∈LB fs yn↔∃ t ws,(t,ws)∈fs∧t∉yn∧w∈ws:=by
 unfold LB
 rw [List.mem_flatMap]
 constructor
 ·rintro ⟨q,mq,h⟩
  by_cases c:q.1∈yn
  ·rw [if_pos c] at h;cases h
  ·rw [if_neg c] at h;exact ⟨q.1,q.2,mq,c,h⟩
 ·rintro ⟨t,ws,m,c,h⟩
  exact ⟨(t,ws),m,by rw [if_neg c];exact h⟩
open Classical in
noncomputable def mQ (s:HS):List Int:=s.yng.filter fun t=>decide (¬Led (GV s) (fld s) s.yng t)
noncomputable def jz (s:HS):HS:=letGo {s with yng:=[]} (mQ s)
open Classical in
noncomputable def GW (s:HS):List Int:=(keys s).filter fun t=>decide (¬Led s.bK (fld s) (keys s) t)
noncomputable def QE (s:HS):HS:={s with rnd:=true,dI:=GW s}
noncomputable def AQ (s:HS):Re:=if s.rnd=true then (some .on,s) else (none,QE (jz s))
def RX (s:HS):HS:=letGo {s with rnd:=false,dI:=[]} s.dI
def O9 (s:HS):Re:=if s.rnd=true then (none,RX s) else (some .no,s)
open Classical in
noncomputable def qK (s:HS) (t:Int):HS:={s with dI:=s.dI.filter fun u=>decide (¬Led [.th t] (fld s) s.dI u)}
noncomputable def rdR (s:HS) (n:Option Int):HS:=match n with|some t=>if t∈s.dI then qK s t else s|none=>s
noncomputable def lS (s:HS) (h w:Int):Re:=if ok8 h then (if ok8 w then (none,rdR (qr s h (nmW (s.names.getD w.toNat none))) (s.names.getD w.toNat none)) else (some .name,s)) else (some .hand,s)
noncomputable def mkR (s:HS) (n:Int):HS:=if s.my=true∧wsum s s.yng+(n+1)>s.room then jz s else s
noncomputable def fz (s:HS) (h n:Int):Re:=if ok8 h then (if 0≤n∧n≤6 then (if held (mkR s n)+(n+1)>s.limit then (some .room,mkR s n) else (none,oh (mkR s n) h n)) else (some .count,s)) else (some .hand,s)
theorem nV {l ms:List Int} {p:Int→Bool} (h:∀ t∈l,(p t=true↔t∉ms)):l.filter p=l.filter fun t=>decide (t∉ms):=List.filter_congr fun t m=>by
 have:=h t m
 by_cases c:t∈ms
 ·simp only [c,not_true,decide_false]
  cases e:p t with
  | false=>rfl
  | true=>exact absurd (this.mp e) (by simp [c])
 ·simp only [c,not_false_eq_true,decide_true]
  exact this.mpr c
open Classical in
theorem OE {s:HS} {ms:List Int} (h:∀ t,t∈ms↔Led (GV s) (fld s) s.yng t):(s.yng.filter fun t=>decide (t∉ms))=mQ s:=by
 unfold mQ
 refine (nV fun t _=>?_).symm
 rw [decide_eq_true_iff,h]
open Classical in
theorem PY {s:HS} {ms:List Int} (h:∀ t,t∈ms↔Led s.bK (fld s) (keys s) t):((keys s).filter fun t=>decide (t∉ms))=GW s:=by
 unfold GW
 refine (nV fun t _=>?_).symm
 rw [decide_eq_true_iff,h]
open Classical in
theorem PZ {s:HS} {t:Int} {ms:List Int} (h:∀ u,u∈ms↔Led [.th t] (fld s) s.dI u):{s with dI:=s.dI.filter fun u=>decide (u∉ms)}=qK s t:=by
 unfold qK
 congr 1
 refine (nV fun u _=>?_).symm
 rw [decide_eq_true_iff,h]
theorem RY {H:Hp} {xs ys:List V} {ws zs:List Wd} (a:Rel H xs ws) (b:Rel H ys zs):Rel H (xs++ys) (ws++zs):=by
 refine ⟨by rw [List.length_append,List.length_append,a.1,b.1],fun i v w h1 h2=>?_⟩
 by_cases c:i<xs.length
 ·rw [List.getElem?_append_left c] at h1
  rw [List.getElem?_append_left (by rw [←a.1];exact c)] at h2
  exact a.2 i v w h1 h2
 ·rw [List.getElem?_append_right (by omega)] at h1
  rw [List.getElem?_append_right (by rw [←a.1];omega),←a.1] at h2
  exact b.2 _ v w h1 h2
structure Gd (s:HS):Prop where
 g:Good s
 dy:∀ t∈s.dI,t∉s.yng
 dh:∀ t,Wd.th t∈s.bK→t∉s.dI
 df:∀ u ws t,(u,ws)∈s.aN→u∉s.dI→Wd.th t∈ws→t∉s.dI
 rd:s.rnd=false→s.dI=[]
theorem mem_keys {s:HS} {t:Int}:t∈keys s↔∃ ws,(t,ws)∈s.aN:=by
 unfold keys
 rw [List.mem_map]
 exact ⟨fun ⟨p,m,e⟩=>⟨p.2,by rw [←e];exact m⟩,fun ⟨ws,m⟩=>⟨_,m,rfl⟩⟩
theorem RZ {fs:List (Int×List Wd)} {gs:List Int} (nd:gs.Nodup) (h:∀ t∈gs,∃ ws,(t,ws)∈fs):(drG fs gs).length+gs.length≤fs.length:=by
 have e:fs.length=(fs.filter fun p=>decide (p.1∉gs)).length+(fs.filter fun p=>!decide (p.1∉gs)).length:=by
  clear h
  induction fs with
  | nil=>rfl
  | cons p r ih =>
   rw [List.filter_cons,List.filter_cons]
   by_cases c:p.1∈gs
   ·simp [c] at ih ⊢;omega
   ·simp [c] at ih ⊢;omega
 have le:gs.length≤((fs.filter fun p=>!decide (p.1∉gs)).map (·.1)).length:=qJ nd fun t m=>by
  obtain ⟨ws,mw⟩:=h t m
  exact List.mem_map.mpr ⟨(t,ws),List.mem_filter.mpr ⟨mw,by simp [m]⟩,rfl⟩
 rw [List.length_map] at le
 unfold drG
 omega
theorem Good.letGo {s:HS} (g:Good s) {gs:List Int} (asc:gs.Pairwise (·< ·)) (hin:∀ t∈gs,∃ ws,(t,ws)∈s.aN) (hh:∀ t,Wd.th t∈s.bK→t∉gs) (hf:∀ u ws t,(u,ws)∈s.aN→u∉gs→Wd.th t∈ws→t∉gs) (hy:∀ t∈s.yng,t∉gs) (hd:∀ t∈s.dI,t∉gs):Good (letGo s gs) where
 h8:=g.h8
 n8:=by show (s.names.map (nmG gs)).length=8;rw [List.length_map];exact g.n8
 asc:=List.Pairwise.sublist (List.Sublist.map _ List.filter_sublist) g.asc
 lt:=fun t ws m=>g.lt t ws (jO.mp m).1
 f6:=fun t ws m=>g.f6 t ws (jO.mp m).1
 hh:=fun t m=>by obtain ⟨ws,q⟩:=g.hh t m;exact ⟨ws,jO.mpr ⟨q,hh t m⟩⟩
 ff:=fun u ws t m h=>by obtain ⟨w',q⟩:=g.ff u ws t (jO.mp m).1 h;exact ⟨w',jO.mpr ⟨q,hf u ws t (jO.mp m).1 (jO.mp m).2 h⟩⟩
 nn:=fun t m=>by
  obtain ⟨n,mn,e⟩:=List.mem_map.mp (show some t∈s.names.map (nmG gs) from m)
  cases n with
  | none=>cases e
  | some u =>
   have e:(if u∈gs then none else some u)=some t:=e
   by_cases c:u∈gs
   ·rw [if_pos c] at e;cases e
   ·rw [if_neg c] at e
    cases e
    obtain ⟨ws,q⟩:=g.nn t mn
    exact ⟨ws,jO.mpr ⟨q,c⟩⟩
 b12:=Nat.le_trans (List.length_filter_le _ _) g.b12
 bk:=fun t z m=>by
  have m:=List.mem_filter.mp (show (t,z)∈brG s.bp gs from m)
  obtain ⟨ws,q⟩:=g.bk t z m.1
  exact ⟨ws,jO.mpr ⟨q,by simpa using m.2⟩⟩
 bnd:=List.Pairwise.sublist (List.Sublist.map _ List.filter_sublist) g.bnd
 n0:=g.n0
 nx:=g.nx
 sd:=by
  have h1:=g.sd
  have h2:=RZ (qq asc) hin
  have h3:=QD s.bp gs
  show ((s.qb++sdG s.bp gs).length:Int)+(drG s.aN gs).length≤s.nxt
  rw [List.length_append]
  omega
 yk:=fun t m=>by obtain ⟨ws,q⟩:=g.yk t m;exact ⟨ws,jO.mpr ⟨q,hy t m⟩⟩
 Dw:=g.Dw
 dk:=fun t m=>by obtain ⟨ws,q⟩:=g.dk t m;exact ⟨ws,jO.mpr ⟨q,hd t m⟩⟩
 EB:=g.EB
theorem Good.noY {s:HS} (g:Good s):Good {s with yng:=[]}:=⟨g.h8,g.n8,g.asc,g.lt,g.f6,g.hh,g.ff,g.nn,g.b12,g.bk,g.bnd,g.n0,g.nx,g.sd,(fun t m=>nomatch m),List.Pairwise.nil,g.dk,g.EB⟩
theorem Good.noD {s:HS} (g:Good s) {b:Bool}:Good {s with rnd:=b,dI:=[]}:=⟨g.h8,g.n8,g.asc,g.lt,g.f6,g.hh,g.ff,g.nn,g.b12,g.bk,g.bnd,g.n0,g.nx,g.sd,g.yk,g.Dw,(fun t m=>nomatch m),List.Pairwise.nil⟩
theorem Good.adQ {s:HS} (g:Good s) {b:Bool} {ds:List Int} (h:∀ t∈ds,∃ ws,(t,ws)∈s.aN) (a:ds.Pairwise (·< ·)):Good {s with rnd:=b,dI:=ds}:=⟨g.h8,g.n8,g.asc,g.lt,g.f6,g.hh,g.ff,g.nn,g.b12,g.bk,g.bnd,g.n0,g.nx,g.sd,g.yk,g.Dw,h,a⟩
theorem iF {s:HS} {t:Int}:t∈mQ s↔t∈s.yng∧¬Led (GV s) (fld s) s.yng t:=by unfold mQ;rw [List.mem_filter];simp
theorem FC {s:HS} (g:Good s):(mQ s).Pairwise (·< ·):=List.Pairwise.sublist List.filter_sublist g.Dw
theorem Hq {s:HS} (g:Good s):∀ t∈mQ s,∃ ws,(t,ws)∈s.aN:=fun t m=>g.yk t (iF.mp m).1
theorem R0 {s:HS} {t:Int} (h:Wd.th t∈s.bK):t∉mQ s:=fun m=>(iF.mp m).2 (.root (List.mem_append_left _ h) (iF.mp m).1)
theorem Yp {s:HS} (g:Good s) {u t:Int} {ws:List Wd} (m:(u,ws)∈s.aN) (hu:u∉mQ s) (h:Wd.th t∈ws):t∉mQ s:=fun mt=>by
 by_cases c:u∈s.yng
 ·have lu:Led (GV s) (fld s) s.yng u:=Classical.byContradiction fun z=>hu (iF.mpr ⟨c,z⟩)
  exact (iF.mp mt).2 (.step lu (by rw [g.fld m];exact h) (iF.mp mt).1)
 ·exact (iF.mp mt).2 (.root (List.mem_append_right _ (PX.mpr ⟨u,ws,m,c,h⟩)) (iF.mp mt).1)
theorem Gd.small {s:HS} (d:Gd s):Gd (jz s) where
 g:=d.g.noY.letGo (FC d.g) (Hq d.g) (fun t h=>R0 h) (fun u ws t m hu h=>Yp d.g m hu h) (fun t m=>nomatch m) (fun t m z=>d.dy t m (iF.mp z).1)
 dy:=fun t _ m=>nomatch m
 dh:=d.dh
 df:=fun u ws t m hu h=>d.df u ws t (jO.mp m).1 hu h
 rd:=d.rd
theorem oe {s:HS} {t:Int}:t∈GW s↔t∈keys s∧¬Led s.bK (fld s) (keys s) t:=by unfold GW;rw [List.mem_filter];simp
theorem Gd.beg {s:HS} (d:Gd s) (hy:s.yng=[]):Gd (QE s) where
 g:=d.g.adQ (fun t m=>mem_keys.mp (oe.mp m).1) (List.Pairwise.sublist List.filter_sublist d.g.asc)
 dy:=fun t _ m=>by rw [show (QE s).yng=[] from hy] at m;cases m
 dh:=fun t h m=>(oe.mp m).2 (.root h (oe.mp m).1)
 df:=fun u ws t m hu h mt=>by
  have lu:Led s.bK (fld s) (keys s) u:=Classical.byContradiction fun z=>hu (oe.mpr ⟨mem_keys.mpr ⟨ws,m⟩,z⟩)
  exact (oe.mp mt).2 (.step lu (by rw [d.g.fld m];exact h) (oe.mp mt).1)
 rd:=fun h=>by cases h
theorem Gd.fin {s:HS} (d:Gd s):Gd (RX s) where
 g:=d.g.noD.letGo d.g.EB d.g.dk (fun t h=>d.dh t h) (fun u ws t m hu h=>d.df u ws t m hu h) (fun t m z=>d.dy t z m) (fun t m=>nomatch m)
 dy:=fun t m=>nomatch m
 dh:=fun t _ m=>nomatch m
 df:=fun u ws t _ _ _ m=>nomatch m
 rd:=fun _=>rfl
theorem qu {s:HS} {t u:Int}:u∈(qK s t).dI↔u∈s.dI∧¬Led [.th t] (fld s) s.dI u:=by unfold qK;rw [List.mem_filter];simp
structure GdN (s:HS):Prop where
 g:Good s
 dy:∀ t∈s.dI,t∉s.yng
 df:∀ u ws t,(u,ws)∈s.aN→u∉s.dI→Wd.th t∈ws→t∉s.dI
 rd:s.rnd=false→s.dI=[]
theorem Good.abK {s:HS} (g:Good s) {ds:List Int} (h:ds.Sublist s.dI):Good {s with dI:=ds}:=⟨g.h8,g.n8,g.asc,g.lt,g.f6,g.hh,g.ff,g.nn,g.b12,g.bk,g.bnd,g.n0,g.nx,g.sd,g.yk,g.Dw,(fun t m=>g.dk t (h.subset m)),g.EB.sublist h⟩
theorem Gd.abL {s:HS} (d:GdN s) {t:Int} (ht:t∈s.dI) (hh:∀ u,Wd.th u∈s.bK→u=t∨u∉s.dI):Gd (qK s t) where
 g:=d.g.abK List.filter_sublist
 dy:=fun u m=>d.dy u (qu.mp m).1
 dh:=fun u h m=>by
  rcases hh u h with e|e
  ·exact (qu.mp m).2 (by rw [e];exact .root List.mem_cons_self ht)
  ·exact e (qu.mp m).1
 df:=fun u ws v m hu h mv=>by
  obtain ⟨v1,v2⟩:=qu.mp mv
  by_cases c:u∈s.dI
  ·have lu:Led [.th t] (fld s) s.dI u:=Classical.byContradiction fun z=>hu (qu.mpr ⟨c,z⟩)
   exact v2 (.step lu (by rw [d.g.fld m];exact h) v1)
  ·exact d.df u ws v m c h v1
 rd:=fun h=>by
  have:=d.rd h
  show s.dI.filter _=[]
  rw [this]
  rfl
theorem FD {s:HS} {n:Int}:(mkR s n).limit=s.limit:=by unfold mkR;split<;>rfl
theorem vO {s:HS} {n:Int}:(mkR s n).nxt=s.nxt:=by unfold mkR;split<;>rfl
theorem Gd.mkd {s:HS} (d:Gd s) {n:Int}:Gd (mkR s n):=by
 unfold mkR
 split
 ·exact d.small
 ·exact d
def Hr (D:Ad):Sp:=fun vs H Q _=>∃ x A s,vs=[.ref x]∧IH D H x A s∧Good s∧∀ v A' H',IH D H' x A' (jz s)→Fr (aS x A s) H (aS x A' (jz s)) H'→Q v H'
abbrev nI:List Str:=["self", "leads", "t", "kept", "gone"]
theorem fv:av nI ["self"] (aq h9):=⟨rfl,rfl,rfl,by decide +kernel,rfl,by decide +kernel,by decide +kernel⟩
theorem uA (F:Fun K "small_round" "Heap.small_round" h9 D.bE D.gi) (T:Txt K mg D)
  (ba:Ok P w K mg base 1 D.bP D.dP ["self"] (ng D))
  (bu:Ok P w K mg base 3 D.bt D.eG ["self", "leads", "things"] (JJ D))
  (fS:Ok P w K mg base 2 D.de D.iK ["self", "gone"] (FY D)):Ok P w K mg base 4 D.bE D.gi ["self"] (Hr D):=by
 refine ⟨?_,F.binds (ps:=["self"]) fun _ _ _ _ _ _ us hl=>match us,hl with|[_],_=>rfl⟩
 refine F.okE fv (fun vs H Q E h=>?_) (fun cdv A' outer s' H vs Q E hr h=>?_)
 ·obtain ⟨x,A,s,rfl,_⟩:=h
  rfl
 ·obtain ⟨x,A,s,rfl,J,G,k⟩:=h
  have hu:=lI hr
  refine ⟨_,(PSs.nox (ao (bN (i:=1) fv.nd rfl (Or.inl rfl) (cN (aG (pv 0) rfl) T.aV T.jX ba.g (hr.mono (by decide)) ba.b .nil eJ))
   (ao (pw PassesOwn.never rfl (vG (Ew (aG (pv 0) rfl))) (fH (i:=2) fv.nd rfl (Or.inl rfl))
    (ai (di (qD (j7 hu (pv 2) (aG (pv 0) rfl)) (by with_unfolding_all rfl))
     (ai (aH (OS PySem.F.plainAttrs_list PySem.F.slot_list_extend PySem.F.type_list_extend Oe (pv 1) (ab (pU hu (aG (pv 0) rfl) (pv 2) (fun _ _=>rfl)) ak))))
     bC)))
   (ao (Qw (bN (i:=3) fv.nd rfl (Or.inr rfl) (aK (pv 0) T.ae T.hX bu.g (hr.mono (by decide)) bu.b .nil eJ (ab (pv 1) (ab (aG (pv 0) rfl) ak)))))
   (ao (PB (cl:=[("kept",s'.heap.objs.size+1)]) (x := "t") (idx:=[3]) (NC:=["t", "kept"]) (i:=4) fv.nd rfl rfl ?co1 rfl (vG (Ew (aG (pv 0) rfl))) (fun C fp s₀ H₀=>(qD (j7 hu (pv 0) (pv 1)) (by with_unfolding_all rfl))) (fun C fp s₀ H₀=>(pv 0)))
   (ao (Qw (iq (pv 0) mG rfl))
   (ao (aH (aK (pv 0) T.ae T.mJ fS.g (hr.mono (by decide)) fS.b .nil eJ (ab (pv 4) ak)))
   (ai (aP (pv 4)))))))))),?_⟩
  case co1 =>
   exact pW (sc:=aq h9) (N:=nI) (ns:=["kept"]) rfl rfl rfl (by decide +kernel) rfl rfl (by
    intro q hq
    rw [List.mem_singleton.mp hq]
    rfl)
  refine ⟨_,rfl,x,D.aa,_,_,.ref A.hd,rfl,J.ax,T.ae,T.ay,m9,A.hd,A.hdx,_,rfl,J.ahd,rfl,A.hd,A.hdx,A.hl,A.hx,s.bK,rfl,J.hn G,fun p H1 s1 hp z1=>?_⟩
  have J1:=J.same s1
  have nfp:¬aS x A s p:=J.fresh hp
  refine ⟨_,rfl,x,D.aa,_,_,.ref A.fh,rfl,J1.ax,T.ae,T.az,qi,A.fh,_,J1.afh,fun o=>?_⟩
  have yf:A.yg≠A.fh:=Ne.symm J.d4
  have pf:p≠A.fh:=fun e=>nfp (by rw [e];exact .fh)
  have py:p≠A.yg:=fun e=>nfp (by rw [e];exact .yg)
  have lk:(s.aN.map (fkv A)).length=s.aN.length:=List.length_map _
  refine ⟨A.fh,o,_,rfl,ah,A7 (d:=A.fh) (o:=o) (kvs:=s.aN.map (fkv A)) (fun i σ Hc=>∃ v2,σ=[some (.ref x),some (.ref p),v2,none,none]∧((∀ b u,b≠A.fh→b≠p→H1 b=some u→Hc b=some u)∧Hc A.fh=some (.frz o (.dK (s.aN.map (fkv A)))))∧∃ ys,Hc p=some (.lst ys)∧Rel Hc ys (s.bK++LB (s.aN.take i) s.yng))
   ⟨none,rfl,⟨fun b u n _ q=>by rw [af n];exact q,ah⟩,A.hx,by rw [af pf];exact z1,by rw [List.take_zero,show LB [] s.yng=[] from rfl,List.append_nil];exact J1.rhl.keep (fD.set J1.afh (fun _ z=>nomatch z))⟩ (fun i σ Hc _ ⟨_,_,oc,_⟩=>oc.2) ?_ ?_⟩
  ·rintro i q σ Hc hi ⟨v2,rfl,oc,ys,hy,ry⟩
   rw [List.getElem?_map] at hi
   obtain ⟨⟨t,ws⟩,ht,rfl⟩:=Option.map_eq_some_iff.mp hi
   have m:=List.mem_of_getElem? ht
   have tk:=take_snoc ht
   obtain ⟨hl,rl⟩:=J1.afl _ _ m
   have nlf:A.fa t≠A.fh:=aw hl J1.afh (by intro z;cases z)
   have nlp:A.fa t≠p:=fun e=>nfp (by rw [←e];exact .fl m)
   have hlc:=oc.1 _ _ nlf nlp hl
   have tc:fD H1 Hc:=fun b us q=>oc.1 b _ (aw q J1.afh (by intro z;cases z)) (aw q z1 (by intro z;cases z)) q
   have xf:x≠A.fh:=aw J1.ax J1.afh (by intro z;cases z)
   have xp:x≠p:=fun e=>nfp (by rw [←e];exact .x)
   have axc:=oc.1 _ _ xf xp J1.ax
   have ygc:=oc.1 _ _ yf (Ne.symm py) J1.ayg
   refine ⟨_,rfl,_,rfl,x,D.aa,_,_,.ref A.yg,rfl,axc,T.ae,T.aX,JG,A.yg,_,rfl,pT.k (k:=Sum.inl t) ygc,_,rfl,?_⟩
   rw [(Ba s.yng).isS]
   by_cases c:t∈s.yng
   ·rw [decide_eq_true c]
    refine rz ⟨_,rfl,oc,ys,hy,?_⟩
    rw [tk,Ho,if_pos c,List.append_nil]
    exact ry
   ·rw [decide_eq_false c]
    have fl:=NN (fs:=s.aN.take i) (yn:=s.yng) fun t ws m=>G.f6 t ws (List.mem_of_mem_take m)
    have f6:=G.f6 _ _ m
    have fw:=G.few
    have ly:ys.length≤60100:=by rw [ry.1,List.length_append,G.h8];rw [List.length_take] at fl;omega
    refine vB ⟨_,rfl,.inl ⟨rfl,_,SqL.of hy⟩,_,rfl,x,D.aa,_,_,.ref A.fh,rfl,axc,T.ae,T.az,qi,_,rfl,A.fh,.ref (A.fa t),rfl,.inl ⟨_,Sum.inl t,.inr ⟨o,oc.2⟩,rfl,by rw [Qz,G.get m];rfl⟩,p,A.fa t,ys,A.fx t,rfl,rfl,hy,hlc,?_,?_⟩
    ·have:=rl.1
     exact Nat.le_trans (show ys.length+(A.fx t).length≤70000 by omega) (by decide)
    ·refine ⟨_,rfl,⟨fun b u n1 n2 q=>by rw [af n2];exact oc.1 b u n1 n2 q,by rw [af (Ne.symm pf)];exact oc.2⟩,_,ah,?_⟩
     rw [tk,Ho,if_neg c,←List.append_assoc]
     exact ((RY ry (rl.keep tc)).keep (fD.set hy (fun _ z=>nomatch z)))
  ·rintro σ Hc ⟨v2,rfl,oc,ys,hy,ry⟩
   rw [lk,List.take_of_length_le (Nat.le_refl _)] at ry
   refine ⟨A.fh,o,_,oc.2,(fun o' u' q=>by have q:H A.fh=some (.frz o' u'):=q;rw [J.afh] at q;cases q),?_⟩
   have kp:∀ b u,b≠p→H1 b=some u→upd Hc A.fh (.dK (s.aN.map (fkv A))) b=some u:=fun b u n q=>by
    by_cases c:b=A.fh
    ·subst c
     rw [J1.afh] at q
     cases q
     exact ah
    ·rw [af c];exact oc.1 b u c n q
   have hy2:upd Hc A.fh (.dK (s.aN.map (fkv A))) p=some (.lst ys):=by rw [af pf];exact hy
   have ry2:Rel (upd Hc A.fh (.dK (s.aN.map (fkv A)))) ys (GV s):=ry.keep (fun b us q=>by rw [af fun e=>by rw [e,oc.2] at q;cases q];exact q)
   obtain ⟨H2,e2⟩:∃ H2,upd Hc A.fh (.dK (s.aN.map (fkv A)))=H2:=⟨_,rfl⟩
   rw [e2] at kp hy2 ry2 ⊢
   clear e2 ry hy oc
   have t2:fD H1 H2:=fun b us q=>kp b _ (aw q z1 (by intro z;cases z)) q
   have J2:IH D H2 x A s:=J1.keep (fun b u f q=>kp b u (fun e=>nfp (by rw [←e];exact f)) q) t2
   have fr2:Fr (aS x A s) H (aS x A s) H2:=⟨fun b u n q=>kp b u (au q hp) (s1 _ _ q),fun _ f=>.inl f,fun b u q=>⟨u,kp b u (au q hp) (s1 _ _ q)⟩,(fD.of s1).trans t2⟩
   have fl:=NN (fs:=s.aN) (yn:=s.yng) G.f6
   have fw:=G.few
   refine ⟨_,rfl,x,_,_,rfl,J2.ax,(by kernel_rfl),_,rfl,_,rfl,x,D.aa,_,_,.ref A.yg,rfl,J2.ax,T.ae,T.aX,JG,x,A,s,p,ys,GV s,A.yg,_,s.yng,rfl,J2,G,hy2,ry2,by unfold GV;rw [List.length_append,G.h8];omega,J2.ayg,Ba _,G.yk,qq G.Dw,Gm G,fun st kv ms H3 s3 hst h3 k3 n3 m3=>?_⟩
   have J3:=J2.same s3
   refine ⟨_,rfl,x,D.aa,_,_,.ref A.yg,rfl,J3.ax,T.ae,T.aX,JG,A.yg,_,J3.ayg,fun o2=>?_⟩
   refine ⟨A.yg,o2,_,rfl,ah,fun L hL=>?_⟩
   have nsy:st≠A.yg:=fun e=>by rw [e,J2.ayg] at hst;cases hst
   have st3:upd H3 A.yg (.frz o2 (.dK (s.yng.map tkv))) st=some (.dK kv):=by rw [af nsy];exact h3
   refine Mb (d:=A.yg) (o:=o2) (kvs:=s.yng.map tkv) (fun i zs Hc=>zs=((s.yng.take i).filter fun t=>decide (t∉ms)).map V.int∧aD (upd H3 A.yg (.frz o2 (.dK (s.yng.map tkv)))) Hc∧Hc L=some (.lst zs)) ⟨rfl,aD.upd hL,ah⟩ (fun i zs Hc hi ⟨e,_,z⟩=>⟨z,by rw [e,List.length_map];exact Nat.le_trans (List.length_filter_le _ _) (by rw [List.length_take];omega)⟩) (fun i zs Hc _ ⟨_,sc,_⟩=>sc _ _ ah) (by rw [List.length_map];exact oa (Nat.le_trans (Gm G) (by decide))) (fun i q zs Hc hi ⟨e,sc,z⟩=>?_) (fun zs Hc ⟨e,sc,z⟩=>?_)
   ·obtain ⟨t,ht,ekv,ep⟩:=(Ba s.yng).at_ hi
    have tk:=take_snoc ht
    rw [ekv]
    refine ⟨_,rfl,_,rfl,st,_,rfl,pT.k (k:=Sum.inl t) (sc _ _ st3),_,rfl,?_⟩
    rw [k3.isS]
    by_cases c:t∈ms
    ·rw [decide_eq_true c]
     refine rz ⟨?_,sc,z⟩
     rw [tk,List.filter_append,e]
     simp [c]
    ·rw [decide_eq_false c]
     refine vB ⟨_,rfl,z,?_,fun b u q=>by rw [af (au q hL)];exact sc b u q,ah⟩
     rw [tk,List.filter_append,e]
     simp [c]
   ·rw [List.length_map,List.take_of_length_le (Nat.le_refl _)] at e
    have eg:(s.yng.filter fun t=>decide (t∉ms))=mQ s:=OE m3
    rw [eg] at e
    subst e
    refine ⟨A.yg,o2,_,sc _ _ ah,(fun o' u' q=>by have q:H A.yg=some (.frz o' u'):=q;rw [J.ayg] at q;cases q),?_⟩
    have sm:aD H3 (upd Hc A.yg (.dK (s.yng.map tkv))):=fun b u q=>by
     by_cases c:b=A.yg
     ·subst c
      rw [J3.ayg] at q
      cases q
      exact ah
     ·rw [af c];exact sc b u (by rw [af c];exact q)
    have nLy:L≠A.yg:=fun e=>by rw [e,ah] at hL;cases hL
    have zL:upd Hc A.yg (.dK (s.yng.map tkv)) L=some (.lst ((mQ s).map V.int)):=by rw [af nLy];exact z
    have hL3:H3 L=none:=by rw [af nLy] at hL;exact hL
    have adR:=J3.fresh hL3
    obtain ⟨H4,e4⟩:∃ H4,upd Hc A.yg (.dK (s.yng.map tkv))=H4:=⟨_,rfl⟩
    rw [e4] at sm zL ⊢
    clear e4
    have J4:=J3.same sm
    intro p2 hp2
    have w:=J4.adL hp2
    have xp2:x≠p2:=au J4.ax hp2
    refine ⟨_,rfl,x,D.aa,A.dx,_,rfl,(by rw [af xp2];exact J4.ax),T.ae,T.aX,by show 11<1000;decide,?_⟩
    obtain ⟨J5,fr5⟩:=w
    have oL:=fr5.out adR zL
    refine ⟨_,rfl,x,_,_,rfl,J5.ax,(by kernel_rfl),_,rfl,x,_,_,L,mQ s,rfl,J5,G.n8,oL.2,oL.1,FC G,Nat.le_trans (List.length_filter_le _ _) (Gm G),(by have:=G.sd;have:=G.nx;show s.qb.length≤10000;omega),Hq G,fun A6 H6 J6 fr6=>⟨_,rfl,k _ A6 H6 J6 ((((fr2.trans (Fr.same s3)).trans (Fr.same sm)).trans fr5).trans fr6)⟩⟩
def uB (D:Ad):Sp:=fun vs H Q _=>∃ x A s,vs=[.ref x]∧IH D H x A s∧Good s∧∀ A' H',IH D H' x A' (jz s)→Fr (aS x A s) H (aS x A' (jz s)) H'→Q .non H'
abbrev yT:List Str:=["self"]
theorem wy:av yT ["self"] (aq kj):=⟨rfl,rfl,rfl,by decide +kernel,rfl,by decide +kernel,by decide +kernel⟩
theorem wz (F:Fun K "small" "IdealHeap.small" kj D.bB D.cQ) (T:Txt K mg D)
  (il:Ok P w K mg base 4 D.bE D.gi ["self"] (Hr D)):Ok P w K mg base 5 D.bB D.cQ ["self"] (uB D):=by
 refine ⟨?_,F.binds (ps:=["self"]) fun _ _ _ _ _ _ us hl=>match us,hl with|[_],_=>rfl⟩
 refine F.okE wy (fun vs H Q E h=>?_) (fun cdv A' outer s' H vs Q E hr h=>?_)
 ·obtain ⟨x,A,s,rfl,_⟩:=h
  rfl
 ·obtain ⟨x,A,s,rfl,J,G,k⟩:=h
  refine ⟨_,(PSs.nox (ai (aH (cN (pv 0) T.ae T.oN il.g (hr.mono (by decide)) il.b .nil eJ)))),?_⟩
  exact ⟨_,rfl,x,_,_,rfl,J.ax,(by kernel_rfl),x,A,s,rfl,J,G,fun v A' H' J' fr=>k A' H' J' fr⟩
def QF (D:Ad):Sp:=fun vs H Q E=>∃ x A s,vs=[.ref x]∧IH D H x A s∧Gd s∧Fin D x A s H (AQ s) Q E
theorem IH.adS {D:Ad} {H:Hp} {x:Addr} {A:HA} {s:HS} (J:IH D H x A s) {b:Addr} (f:aS x A s b) (o:Obj) (u:HO):H b≠some (.frz o u):=by
 intro q
 cases f with
 | x=>rw [J.ax] at q;cases q
 | hd=>rw [J.ahd] at q;cases q
 | hl=>rw [J.ahl] at q;cases q
 | nt=>rw [J.ant] at q;cases q
 | nl=>rw [J.anl] at q;cases q
 | wt=>rw [J.awt] at q;cases q
 | wb=>rw [J.awb] at q;cases q
 | wl=>rw [J.awl] at q;cases q
 | fh=>rw [J.afh] at q;cases q
 | yg=>rw [J.ayg] at q;cases q
 | dm=>rw [J.adm] at q;cases q
 | fl m=>rw [(J.afl _ _ m).1] at q;cases q
abbrev yU:List Str:=["self", "kept", "t"]
theorem jY:av yU ["self"] (aq km):=⟨rfl,rfl,rfl,by decide +kernel,rfl,by decide +kernel,by decide +kernel⟩
theorem wA (F:Fun K "begin" "IdealHeap.begin" km D.cR D.gD) (T:Txt K mg D)
  (ag:Ok P w K mg base 1 D.aj D.aB ["self", "text"] (Dt K))
  (aI:Ok P w K mg base 5 D.bB D.cQ ["self"] (uB D))
  (ba:Ok P w K mg base 1 D.bP D.dP ["self"] (ng D))
  (bu:Ok P w K mg base 3 D.bt D.eG ["self", "leads", "things"] (JJ D)):Ok P w K mg base 6 D.cR D.gD ["self"] (QF D):=by
 refine ⟨?_,F.binds (ps:=["self"]) fun _ _ _ _ _ _ us hl=>match us,hl with|[_],_=>rfl⟩
 refine F.okE jY (fun vs H Q E h=>?_) (fun cdv A' outer s' H vs Q E hr h=>?_)
 ·obtain ⟨x,A,s,rfl,_⟩:=h
  rfl
 ·obtain ⟨x,A,s,rfl,J,Gs,k⟩:=h
  have hu:=lI hr
  refine ⟨_,(ao (di (vw (aG (pv 0) rfl))
    (ai (gr rfl kS (kT T.Mp ag.g (hr.mono (by decide)) rfl T.Mo ag.b (Passes.x (aL fun _ _ _ q=>q)) (ab bq ak))))
    bC)
   (ao (aH (cN (pv 0) T.ae T.ic aI.g (hr.mono (by decide)) aI.b .nil (Passes.x (aL fun _ _ _ q=>q))))
   (ao (iq (pv 0) vk rfl)
   (ao (bN (i:=1) jY.nd rfl (Or.inl rfl) (aK (pv 0) T.ae T.hX bu.g (hr.mono (by decide)) bu.b .nil (Passes.x (aL fun _ _ _ q=>q)) (ab (cN (aG (pv 0) rfl) T.aV T.jX ba.g (hr.mono (by decide)) ba.b .nil (Passes.x (aL fun _ _ _ q=>q))) (ab (aG (pv 0) rfl) ak))))
   (ai (PS.nox (RQ (pw PassesOwn.never rfl (vG (Ew (aG (pv 0) rfl))) (fH (i:=2) jY.nd rfl (Or.inl rfl))
    (ai (di (qD (j7 hu (pv 2) (pv 1)) (by with_unfolding_all rfl))
     (ai (sI hu (aG (pv 0) rfl) (pv 2) vk rfl))
     bC)))))))))),?_⟩
  refine ⟨_,rfl,x,D.aa,_,_,.bl s.rnd,rfl,J.ax,T.ae,T.dz,Q7,_,rfl,?_⟩
  by_cases c:s.rnd=true
  ·rw [show AQ s=(some .on,s) from if_pos c] at k
   exact FA c (fun ea hea=>dt T.Ft (fun _ q=>q) (k.bad J) ea hea)
  ·rw [show AQ s=(none,QE (jz s)) from if_neg c] at k
   refine nr (Bool.eq_false_iff.mpr c) ?_
   refine ⟨_,rfl,x,_,_,rfl,J.ax,(by kernel_rfl),x,A,s,rfl,J,Gs.g,fun A1 H1 J1 fr1=>?_⟩
   have G1:=Gs.small
   have d0:(jz s).dI=[]:=Gs.rd (Bool.eq_false_iff.mpr c)
   obtain ⟨s1,es⟩:∃ s1,jz s=s1:=⟨_,rfl⟩
   rw [es] at J1 fr1 G1 k d0
   refine ⟨_,rfl,x,D.aa,A1.dx,_,rfl,J1.ax,T.ae,T.dz,by show 11<1000;decide,?_⟩
   have w2:=J1.ab7 (n:=true)
   obtain ⟨H2,e2⟩:∃ H2,upd H1 x (.ins D.aa A1.dx (iB "in_round" (.bl true) (atts A1 s1)))=H2:=⟨_,rfl⟩
   rw [e2] at w2
   show Je _ _ _ _ (upd H1 x (.ins D.aa A1.dx (iB "in_round" (.bl true) (atts A1 s1))))
   rw [e2]
   clear e2
   obtain ⟨J2,fr2⟩:=w2
   have G2:Good {s1 with rnd:=true}:=⟨G1.g.h8,G1.g.n8,G1.g.asc,G1.g.lt,G1.g.f6,G1.g.hh,G1.g.ff,G1.g.nn,G1.g.b12,G1.g.bk,G1.g.bnd,G1.g.n0,G1.g.nx,G1.g.sd,G1.g.yk,G1.g.Dw,G1.g.dk,G1.g.EB⟩
   refine ⟨_,rfl,x,_,_,rfl,J2.ax,(by kernel_rfl),_,rfl,x,D.aa,_,_,.ref A1.hd,rfl,J2.ax,T.ae,T.ay,m9,A1.hd,A1.hdx,_,rfl,J2.ahd,rfl,A1.hd,A1.hdx,A1.hl,A1.hx,s1.bK,rfl,J2.hn G2,fun p H3 s3 hp z3=>?_⟩
   have J3:=J2.same s3
   refine ⟨_,rfl,x,D.aa,_,_,.ref A1.fh,rfl,J3.ax,T.ae,T.az,qi,x,A1,_,p,A1.hx,s1.bK,A1.fh,_,keys s1,rfl,J3,G2,z3,J3.rhl,by rw [G1.g.h8];decide,J3.afh,O0 s1 A1,(fun t m=>mem_keys.mp m),qq G1.g.asc,by unfold keys;rw [List.length_map];exact G1.g.few,fun st kv ms H4 s4 hst h4 k4 n4 m4=>?_⟩
   have J4:=J3.same s4
   have fr4:=((fr1.trans fr2).trans (Fr.same s3)).trans (Fr.same s4)
   refine ⟨_,rfl,x,D.aa,_,_,.ref A1.fh,rfl,J4.ax,T.ae,T.az,qi,A1.fh,_,J4.afh,fun o=>?_⟩
   have df:A1.dm≠A1.fh:=Ne.symm J4.d5
   have sf:st≠A1.fh:=au J3.afh hst |>.symm
   have sd:st≠A1.dm:=au J3.adm hst |>.symm
   have xf:x≠A1.fh:=aw J4.ax J4.afh (by intro z;cases z)
   have xd:x≠A1.dm:=aw J4.ax J4.adm (by intro z;cases z)
   have adT:H4 A1.dm=some (.dK []):=by have:=J4.adm;rw [show ({s1 with rnd:=true}:HS).dI=[] from d0] at this;exact this
   refine ⟨A1.fh,o,_,rfl,ah,A7 (d:=A1.fh) (o:=o) (kvs:=s1.aN.map (fkv A1)) (fun i σ Hc=>∃ v2,σ=[some (.ref x),some (.ref st),v2]∧((∀ b u,b≠A1.fh→b≠A1.dm→H4 b=some u→Hc b=some u)∧Hc A1.fh=some (.frz o (.dK (s1.aN.map (fkv A1)))))∧Hc A1.dm=some (.dK ((((keys s1).take i).filter fun t=>decide (t∉ms)).map tkv)))
    ⟨none,rfl,⟨fun b u n _ q=>by rw [af n];exact q,ah⟩,by rw [af df];exact adT⟩ (fun i σ Hc _ ⟨_,_,oc,_⟩=>oc.2) ?_ ?_⟩
   ·rintro i q σ Hc hi ⟨v2,rfl,oc,hdm⟩
    obtain ⟨t,ht,ekv,ep⟩:=(O0 s1 A1).at_ hi
    have tk:=take_snoc ht
    rw [ekv]
    refine ⟨_,rfl,_,rfl,st,_,rfl,pT.k (k:=Sum.inl t) (oc.1 _ _ sf sd h4),_,rfl,?_⟩
    rw [k4.isS]
    by_cases c2:t∈ms
    ·rw [decide_eq_true c2]
     refine rz ⟨_,rfl,oc,?_⟩
     rw [tk,List.filter_append,hdm]
     simp [c2]
    ·rw [decide_eq_false c2]
     have ni:t∉((keys s1).take i).filter fun t=>decide (t∉ms):=fun z=>Na (show (keys s1).Pairwise (·< ·) from G1.g.asc) ht (List.mem_filter.mp z).1
     have lz:((((keys s1).take i).filter fun t=>decide (t∉ms)).map tkv).length<sizeLine:=by
      rw [List.length_map]
      refine vM (Nat.le_trans (List.length_filter_le _ _) ?_)
      have:=G1.g.few
      rw [List.length_take]
      unfold keys
      rw [List.length_map]
      omega
     refine vB ⟨_,rfl,x,D.aa,_,_,.ref A1.dm,rfl,oc.1 _ _ xf xd J4.ax,T.ae,T.aT,JH,_,rfl,A1.dm,_,rfl,Ha.k (k:=Sum.inl t) hdm lz,?_⟩
     refine ⟨_,rfl,⟨fun b u n1 n2 q=>by rw [af n2];exact oc.1 b u n1 n2 q,by rw [af (Ne.symm df)];exact oc.2⟩,?_⟩
     rw [ah,AX _ ((Ba _).non ni),tk,List.filter_append,List.map_append]
     simp [c2,tkv]
   ·rintro σ Hc ⟨v2,rfl,oc,hdm⟩
    rw [List.length_map,List.take_of_length_le (by unfold keys;rw [List.length_map];exact Nat.le_refl _),PY (show ∀ t,t∈ms↔Led s1.bK (fld s1) (keys s1) t from m4)] at hdm
    refine ⟨A1.fh,o,_,oc.2,(fun o' u' q=>?_),?_⟩
    ·have q:H A1.fh=some (.frz o' u'):=q
     rcases (fr1.grow A1.fh .fh) with f|f
     ·obtain ⟨u,hu1,_⟩:=J.is f
      rw [q] at hu1
      cases hu1
      obtain ⟨u2,hu2,_⟩:=J.is f
      exact absurd q (J.adS f o' u')
     ·rw [f] at q;cases q
    ·have w5:=J4.ab6 (ts:=GW s1)
     have sm:aD (upd H4 A1.dm (.dK ((GW s1).map tkv))) (upd Hc A1.fh (.dK (s1.aN.map (fkv A1)))):=fun b u q=>by
      by_cases c3:b=A1.fh
      ·rw [c3,af (Ne.symm df)] at q
       rw [c3,ah]
       exact J4.afh.symm.trans q
      ·rw [af c3]
       by_cases c4:b=A1.dm
       ·rw [c4,ah] at q
        rw [c4,hdm]
        exact q
       ·rw [af c4] at q
        exact oc.1 b u c3 c4 q
     exact k A1 _ (w5.1.same sm) ((fr4.trans w5.2).trans (Fr.same sm))
def QG (D:Ad):Sp:=fun vs H Q E=>∃ x A s,vs=[.ref x]∧IH D H x A s∧Gd s∧Fin D x A s H (O9 s) Q E
abbrev D3:List Str:=["self", "gone"]
theorem qc:av D3 ["self"] (aq mD):=⟨rfl,rfl,rfl,by decide +kernel,rfl,by decide +kernel,by decide +kernel⟩
theorem BE (F:Fun K "end" "IdealHeap.end" mD D.dZ D.iE) (T:Txt K mg D)
  (ag:Ok P w K mg base 1 D.aj D.aB ["self", "text"] (Dt K))
  (fS:Ok P w K mg base 2 D.de D.iK ["self", "gone"] (FY D)):Ok P w K mg base 4 D.dZ D.iE ["self"] (QG D):=by
 refine ⟨?_,F.binds (ps:=["self"]) fun _ _ _ _ _ _ us hl=>match us,hl with|[_],_=>rfl⟩
 refine F.okE qc (fun vs H Q E h=>?_) (fun cdv A' outer s' H vs Q E hr h=>?_)
 ·obtain ⟨x,A,s,rfl,_⟩:=h
  rfl
 ·obtain ⟨x,A,s,rfl,J,Gs,k⟩:=h
  refine ⟨_,(ao (di (qE (vw (aG (pv 0) rfl)))
    (ai (gr rfl kS (kT T.Ms ag.g (hr.mono (by decide)) rfl T.Mr ag.b (Passes.x (aL fun _ _ _ q=>q)) (ab bq ak))))
    bC)
   (ao (iq (pv 0) vk rfl)
   (ao (bN (i:=1) qc.nd rfl (Or.inl rfl) (nX (Fq rfl) rfl T.vI PyProof.Rows.Boot.«list» (ab (aG (pv 0) rfl) ak)))
   (ao (iq (pv 0) mG rfl)
   (ai (aH (aK (pv 0) T.ae T.mJ fS.g (hr.mono (by decide)) fS.b .nil (Passes.x (aL fun _ _ _ q=>q)) (ab (pv 1) ak)))))))),?_⟩
  refine ⟨_,rfl,x,D.aa,_,_,.bl s.rnd,rfl,J.ax,T.ae,T.dz,Q7,_,rfl,?_⟩
  by_cases c:s.rnd=true
  ·rw [show O9 s=(none,RX s) from if_pos c] at k
   refine nr (by rw [c];rfl) ?_
   refine ⟨_,rfl,x,D.aa,A.dx,_,rfl,J.ax,T.ae,T.dz,by show 11<1000;decide,?_⟩
   have w2:=J.ab7 (n:=false)
   obtain ⟨H2,e2⟩:∃ H2,upd H x (.ins D.aa A.dx (iB "in_round" (.bl false) (atts A s)))=H2:=⟨_,rfl⟩
   rw [e2] at w2
   show Je _ _ _ _ (upd H x (.ins D.aa A.dx (iB "in_round" (.bl false) (atts A s))))
   rw [e2]
   clear e2
   obtain ⟨J2,fr2⟩:=w2
   refine ⟨_,rfl,x,D.aa,_,_,.ref A.dm,rfl,J2.ax,T.ae,T.aT,JH,A.dm,_,s.dI,rfl,.inl J2.adm,Ba _,fun L hL=>?_⟩
   have s3:=aD.upd (o:=.lst (s.dI.map V.int)) hL
   have J3:=J2.same s3
   have nfL:=J2.fresh hL
   intro p2 hp2
   have w:=J3.adM hp2
   have xp2:x≠p2:=au J3.ax hp2
   refine ⟨_,rfl,x,D.aa,A.dx,_,rfl,(by rw [af xp2];exact J3.ax),T.ae,T.aT,by show 11<1000;decide,?_⟩
   obtain ⟨J5,fr5⟩:=w
   have oL:=fr5.out nfL ah
   refine ⟨_,rfl,x,_,_,rfl,J5.ax,(by kernel_rfl),_,rfl,x,_,_,L,s.dI,rfl,J5,Gs.g.n8,oL.2,oL.1,Gs.g.EB,Jp Gs.g,(by have:=Gs.g.sd;have:=Gs.g.nx;show s.qb.length≤10000;omega),Gs.g.dk,fun A6 H6 J6 fr6=>k A6 H6 J6 (((fr2.trans (Fr.same s3)).trans fr5).trans fr6)⟩
  ·rw [show O9 s=(some .no,s) from if_neg c] at k
   refine FA (by rw [Bool.eq_false_iff.mpr c];rfl) ?_
   exact fun ea hea=>dt T.Fu (fun _ q=>q) (k.bad J) ea hea
def Nb (D:Ad):Sp:=fun vs H Q _=>∃ x A s,vs=[.ref x]∧IH D H x A s∧Q (.bl s.rnd) H
abbrev sU:List Str:=["self"]
theorem rU:av sU ["self"] (aq i4):=⟨rfl,rfl,rfl,by decide +kernel,rfl,by decide +kernel,by decide +kernel⟩
theorem rV (F:Fun K "round_on" "IdealHeap.round_on" i4 D.bw D.dw) (T:Txt K mg D):Ok P w K mg base 1 D.bw D.dw ["self"] (Nb D):=by
 refine ⟨?_,F.binds (ps:=["self"]) fun _ _ _ _ _ _ us hl=>match us,hl with|[_],_=>rfl⟩
 refine F.okE rU (fun vs H Q E h=>?_) (fun cdv A' outer s' H vs Q E hr h=>?_)
 ·obtain ⟨x,A,s,rfl,_⟩:=h
  rfl
 ·obtain ⟨x,A,s,rfl,J,k⟩:=h
  refine ⟨_,(PSs.nox (ai (aP (aG (pv 0) rfl)))),?_⟩
  exact ⟨_,rfl,x,D.aa,_,_,.bl s.rnd,rfl,J.ax,T.ae,T.dz,Q7,k⟩
theorem abM {ts:List Int} {n:Option Int}:inO (ts.map tkv) (n.map Sum.inl)=(match n with|some t=>decide (t∈ts)|none=>false):=by
 cases n with
 | none=>rfl
 | some t=>exact ab9
theorem Yq (z:Option Int):nmV z=YK (z.map Sum.inl):=by cases z<;>rfl
def LC (D:Ad):Sp:=fun vs H Q _=>∃ x A s,∃ t:Int,vs=[.ref x,.int t]∧IH D H x A s∧Good s∧0≤t∧∀ A' H',IH D H' x A' (qK s t)→Fr (aS x A s) H (aS x A' (qK s t)) H'→Q .non H'
theorem P0 {ts:List Int} {t:Int} {v:V} (h:lJ (ts.map tkv) (Sum.inl t)=some v):v=.bl true:=by
 unfold lJ at h
 obtain ⟨p,hp,e⟩:=Option.map_eq_some_iff.mp h
 obtain ⟨u,_,rfl⟩:=List.mem_map.mp (List.mem_of_find?_eq_some hp)
 exact e.symm
theorem R1 {ts:List Int} {t:Int}:sM (ts.map tkv) (Sum.inl t)=(ts.filter fun p=>decide (p≠t)).map tkv:=by
 unfold sM
 rw [List.filter_map]
 congr 1
 refine List.filter_congr fun p _=>?_
 show decide (Sum.inl p≠(Sum.inl t:Key))=decide (p≠t)
 simp
abbrev yV:List Str:=["self", "t", "spared", "other"]
theorem jZ:av yV ["self", "t"] (aq kq):=⟨rfl,rfl,rfl,by decide +kernel,rfl,by decide +kernel,by decide +kernel⟩
theorem wB (F:Fun K "spare" "IdealHeap.spare" kq D.cU D.gG) (T:Txt K mg D)
  (cD:Ok P w K mg base 3 D.da D.gO ["t"] (kD))
  (bu:Ok P w K mg base 3 D.bt D.eG ["self", "leads", "things"] (JJ D)):Ok P w K mg base 4 D.cU D.gG ["self", "t"] (LC D):=by
 refine ⟨?_,F.binds (ps:=["self", "t"]) fun _ _ _ _ _ _ us hl=>match us,hl with|[_,_],_=>rfl⟩
 refine F.okE jZ (fun vs H Q E h=>?_) (fun cdv A' outer s' H vs Q E hr h=>?_)
 ·obtain ⟨x,A,s,t,rfl,_⟩:=h
  rfl
 ·obtain ⟨x,A,s,t,rfl,J,G,t0,k⟩:=h
  refine ⟨_,(PSs.nox (ao (bN (i:=2) jZ.nd rfl (Or.inl rfl) (aK (pv 0) T.ae T.hX bu.g (hr.mono (by decide)) bu.b .nil eJ (ab (hR (ab (aR cD.g (hr.mono (by decide)) rfl T.pH T.jN cD.b .nil eJ (ab (pv 1) ak)) ak)) (ab (aG (pv 0) rfl) ak))))
   (ai (pw PassesOwn.never rfl (vG (Ew (pv 2))) (fH (i:=3) jZ.nd rfl (Or.inl rfl))
    (ai (aH (FR (aG (pv 0) rfl) (pv 3) ⟨rfl,rfl,rfl,rfl⟩))))))),?_⟩
  refine ⟨_,rfl,x,_,_,rfl,J.ax,(by kernel_rfl),_,rfl,t,rfl,t0,fun tp H1 s1 hp=>⟨by show 1≤sizeLine;decide,fun l hl=>?_⟩⟩
  have s2:=aD.upd (o:=.lst [V.ref tp]) hl
  have J2:=(J.same s1).same s2
  have rl:Rel (upd H1 l (.lst [V.ref tp])) [.ref tp] [.th t]:=⟨rfl,fun i v w h1 h2=>by
   cases i with
   | zero=>cases h1;cases h2;exact ⟨tp,rfl,s2 _ _ hp⟩
   | succ i=>cases h1⟩
  refine ⟨_,rfl,x,D.aa,_,_,.ref A.dm,rfl,J2.ax,T.ae,T.aT,JH,x,A,s,l,_,[.th t],A.dm,_,s.dI,rfl,J2,G,ah,rl,by show 1≤100000;decide,J2.adm,Ba _,G.dk,qq G.EB,Jp G,fun st kv ms H3 s3 hst h3 k3 n3 m3=>?_⟩
  have J3:=J2.same s3
  have fr3:=((Fr.same (F:=aS x A s) s1).trans (Fr.same s2)).trans (Fr.same s3)
  have nfs:=J2.fresh hst
  refine ⟨_,rfl,st,kv,h3,fun o=>?_⟩
  have sub:∀ u∈ms,u∈s.dI:=fun u m=>((m3 u).mp m).mem
  have H4s:∀ b u,b≠st→H3 b=some u→upd H3 st (.frz o (.dK kv)) b=some u:=fun b u n q=>by rw [af n];exact q
  have t4:fD H3 (upd H3 st (.frz o (.dK kv))):=fD.set h3 (fun _ z=>nomatch z)
  have J4:IH D (upd H3 st (.frz o (.dK kv))) x A s:=J3.keep (fun b u f q=>H4s b u (fun e=>nfs (by rw [←e];exact f)) q) t4
  have bk:H st=none:=aD.none s1 (aD.none s2 hst)
  have fr4:Fr (aS x A s) H (aS x A s) (upd H3 st (.frz o (.dK kv))):=⟨fun b u n q=>H4s b u (au q bk) (fr3.ext b u n q),fun _ f=>.inl f,fun b u q=>by obtain ⟨u',q'⟩:=fr3.all b u q;exact ⟨u',H4s b u' (au q bk) q'⟩,fr3.tup.trans t4⟩
  refine ⟨st,o,kv,rfl,ah,A7 (d:=st) (o:=o) (kvs:=kv) (fun i σ Hc=>∃ v3,σ=[some (.ref x),some (.int t),some (.ref st),v3]∧IH D Hc x A {s with dI:=s.dI.filter fun u=>decide (u∉ms.take i)}∧Fr (aS x A s) H (aS x A {s with dI:=s.dI.filter fun u=>decide (u∉ms.take i)}) Hc∧Hc st=some (.frz o (.dK kv)))
   ⟨none,rfl,(by rw [List.take_zero,show (s.dI.filter fun u=>decide (u∉([]:List Int)))=s.dI by simp];exact J4),(by rw [List.take_zero,show (s.dI.filter fun u=>decide (u∉([]:List Int)))=s.dI by simp];exact fr4),ah⟩ (fun i σ Hc _ ⟨_,_,_,_,z⟩=>z) ?_ ?_⟩
  ·rintro i q σ Hc hi ⟨v3,rfl,Jc,frc,z⟩
   obtain ⟨u,hu',ekv,ep⟩:=k3.at_ hi
   have tk:=take_snoc hu'
   have ni:u∉ms.take i:=fun m=>by
    have:=List.nodup_append.mp (show (ms.take i++ms.drop i).Nodup by rw [List.take_append_drop];exact n3)
    have hlt:=(List.getElem?_eq_some_iff.mp hu').1
    exact this.2.2 u m u (by rw [List.drop_eq_getElem_cons hlt,(List.getElem?_eq_some_iff.mp hu').2];exact List.mem_cons_self) rfl
   have mu:u∈s.dI.filter fun u=>decide (u∉ms.take i):=List.mem_filter.mpr ⟨sub u (List.mem_of_getElem? hu'),by simpa using ni⟩
   have vd:lJ ((s.dI.filter fun u=>decide (u∉ms.take i)).map tkv) (Sum.inl u)=some (.bl true):=by
    have h1:=(Ba (s.dI.filter fun u=>decide (u∉ms.take i))).isS (t:=u)
    rw [decide_eq_true mu] at h1
    obtain ⟨v,hv⟩:=Option.isSome_iff_exists.mp h1
    rw [hv,P0 hv]
   rw [ekv]
   refine ⟨_,rfl,x,D.aa,_,_,.ref A.dm,rfl,Jc.ax,T.ae,T.aT,JH,A.dm,rfl,.inl ⟨_,.inl Jc.adm⟩,_,rfl,_,Sum.inl u,_,Jc.adm,rfl,vd,?_⟩
   have w:=Jc.ab6 (ts:=(s.dI.filter fun u=>decide (u∉ms.take i)).filter fun v=>decide (v≠u))
   rw [show sM (({s with dI:=s.dI.filter fun u=>decide (u∉ms.take i)}:HS).dI.map tkv) (Sum.inl u)=((s.dI.filter fun u=>decide (u∉ms.take i)).filter fun v=>decide (v≠u)).map tkv from R1]
   have ef:((s.dI.filter fun u=>decide (u∉ms.take i)).filter fun v=>decide (v≠u))=s.dI.filter fun v=>decide (v∉ms.take (i+1)):=by
    rw [List.filter_filter,tk]
    refine List.filter_congr fun v _=>?_
    simp [List.mem_append,not_or,Bool.and_comm]
   rw [ef] at w ⊢
   have nsd:st≠A.dm:=fun e=>by rw [e,Jc.adm] at z;cases z
   exact ⟨_,rfl,w.1,frc.trans w.2,by rw [af nsd];exact z⟩
  ·rintro σ Hc ⟨v3,rfl,Jc,frc,z⟩
   rw [k3.len,List.take_of_length_le (Nat.le_refl _),PZ m3] at Jc frc
   exact k _ _ Jc frc
def LD (D:Ad):Sp:=fun vs H Q E=>∃ x A s,∃ h n:Int,vs=[.ref x,.int h,.int n]∧IH D H x A s∧Gd s∧s.nxt<10000∧Sm h∧Sm n∧Fin D x A s H (fz s h n) Q E
abbrev BF:List Str:=["self", "h", "n", "size"]
theorem oI:av BF ["self", "h", "n"] (aq ll):=⟨rfl,rfl,rfl,by decide +kernel,rfl,by decide +kernel,by decide +kernel⟩
theorem yW (F:Fun K "make" "IdealHeap.make" ll D.dE D.g7) (T:Txt K mg D)
  (ag:Ok P w K mg base 1 D.aj D.aB ["self", "text"] (Dt K))
  (aA:Ok P w K mg base 3 D.bo D.cz ["h"] (d7 D))
  (ji:Ok P w K mg base 3 D.gQ D.lL ["fields"] (uh D))
  (cw:Ok P w K mg base 4 D.bc D.eB ["self", "things"] (FX D))
  (aI:Ok P w K mg base 5 D.bB D.cQ ["self"] (uB D))
  (dM:Ok P w K mg base 5 D.cL D.fR ["self"] (Jq D))
  (jj:Ok P w K mg base 5 D.b7 D.g5 ["self", "h", "n"] (QC D)):Ok P w K mg base 8 D.dE D.g7 ["self", "h", "n"] (LD D):=by
 refine ⟨?_,F.binds (ps:=["self", "h", "n"]) fun _ _ _ _ _ _ us hl=>match us,hl with|[_,_,_],_=>rfl⟩
 refine F.okE oI (fun vs H Q E h=>?_) (fun cdv A' outer s' H vs Q E hr h=>?_)
 ·obtain ⟨x,A,s,h,n,rfl,_⟩:=h
  rfl
 ·obtain ⟨x,A,s,h,n,rfl,J,Gs,hnx,hh,hn,k⟩:=h
  refine ⟨_,(ao (aH (aR aA.g (hr.mono (by decide)) rfl T.gp T.dY aA.b .nil (Passes.x (aL fun _ _ _ q=>q)) (ab (pv 1) ak)))
   (ao (bN (i:=3) oI.nd rfl (Or.inl rfl) (aR ji.g (hr.mono (by decide)) rfl T.Fv T.rE ji.b .nil (Passes.x (aL fun _ _ _ q=>q)) (ab (pv 2) ak)))
   (ao (di (PW.pt (pw_and (vw (aG (pv 0) rfl)) (pw_and1 (aW AV (bR mP (aK (pv 0) T.ae T.jG cw.g (hr.mono (by decide)) cw.b .nil (Passes.x (aL fun _ _ _ q=>q)) (ab (aG (pv 0) rfl) ak)) (pv 3)) (aG (pv 0) rfl) (bJ _)))))
    (ai (aH (cN (pv 0) T.ae T.ic aI.g (hr.mono (by decide)) aI.b .nil (Passes.x (aL fun _ _ _ q=>q)))))
    bC)
   (ao (di (aW AV (bR mP (cN (pv 0) T.ae T.oz dM.g (hr.mono (by decide)) dM.b .nil (Passes.x (aL fun _ _ _ q=>q))) (pv 3)) (aG (pv 0) rfl) (bJ _))
    (ai (gr rfl kS (kT T.Oz ag.g (hr.mono (by decide)) rfl T.Oy ag.b (Passes.x (aL fun _ _ _ q=>q)) (ab (jJ (bD (lK (pv 3)) (bD ir jI))) ak))))
    bC)
   (ai (aH (aK (pv 0) T.ae T.qm jj.g (hr.mono (by decide)) jj.b .nil (Passes.x (aL fun _ _ _ q=>q)) (ab (pv 1) (ab (pv 2) ak))))))))),?_⟩
  refine ⟨_,rfl,h,rfl,hh,?_⟩
  by_cases c:ok8 h
  ·rw [if_pos c]
   refine ⟨_,rfl,n,rfl,hn,?_⟩
   by_cases c2:0≤n∧n≤6
   ·rw [if_pos c2]
    have G:=Gs.g
    have kk:Fin D x A s H (if held (mkR s n)+(n+1)>s.limit then (some .room,mkR s n) else (none,oh (mkR s n) h n)) Q E:=by
     rw [show fz s h n=_ from by unfold fz;rw [if_pos c,if_pos c2]] at k
     exact k
    have G2:Gd (mkR s n):=Gs.mkd
    simp only [qh]
    refine lF fun N hN=>?_
    have fin:∀ (A2:HA) (H2:Hp),IH D H2 x A2 (mkR s n)→Fr (aS x A s) H (aS x A2 (mkR s n)) H2→N [some (.ref x),some (.int h),some (.int n),some (.int (n+1))] H2:=by
     intro A2 H2 J2 fr2
     refine hN _ _ ?_
     refine ⟨_,rfl,x,_,_,rfl,J2.ax,(by kernel_rfl),x,A2,_,rfl,J2,G2.g,fun H3 s3=>?_⟩
     have J3:=J2.same s3
     have fr3:=fr2.trans (Fr.same s3)
     refine ⟨_,rfl,held (mkR s n),n+1,rfl,rfl,_,rfl,x,D.aa,_,_,.int (mkR s n).limit,rfl,J3.ax,T.ae,T.oy,abD,_,_,rfl,rfl,_,rfl,aQ (fun g=>?_) (fun g=>?_)⟩
     ·have g:=of_decide_eq_true g
      rw [FD] at g
      rw [if_pos g] at kk
      exact ⟨_,rfl,n+1,rfl,Sm.of (by omega) (by omega),fun y hy ea hea=>dt T.Hj (fun b q=>fr3.none q) (fun H' s'=>kk A2 H' (J3.same s') (fr3.trans (Fr.same s'))) ea hea⟩
     ·have g:¬(held (mkR s n)+(n+1)>s.limit):=fun z=>g (decide_eq_true (by rw [FD];exact z))
      rw [if_neg g] at kk
      exact ⟨_,rfl,x,_,_,rfl,J3.ax,(by kernel_rfl),_,rfl,_,rfl,x,A2,_,h,n,rfl,J3,G2.g,c,c2.1,c2.2,fun A' H' J' fr=>kk A' H' J' (fr3.trans fr)⟩
    refine ⟨_,rfl,x,D.aa,_,_,.bl s.my,rfl,J.ax,T.ae,T.gT,Vg,_,rfl,?_⟩
    by_cases my:s.my=true
    ·refine FA my ⟨_,rfl,x,_,_,rfl,J.ax,(by kernel_rfl),_,rfl,x,D.aa,_,_,.ref A.yg,rfl,J.ax,T.ae,T.aX,JG,x,A,s,A.yg,_,s.yng,rfl,J,G,J.ayg,Ba _,G.yk,Gm G,fun H1 s1=>?_⟩
     have J1:=J.same s1
     refine ⟨_,rfl,wsum s s.yng,n+1,rfl,rfl,_,rfl,x,D.aa,_,_,.int s.room,rfl,J1.ax,T.ae,T.j8,abC,_,_,rfl,rfl,_,rfl,aQ (fun g=>?_) (fun g=>?_)⟩
     ·have g:=of_decide_eq_true g
      have em:mkR s n=jz s:=if_pos ⟨my,g⟩
      rw [em] at fin
      exact ⟨_,rfl,x,_,_,rfl,J1.ax,(by kernel_rfl),x,A,s,rfl,J1,G,fun A2 H2 J2 fr2=>fin A2 H2 J2 ((Fr.same s1).trans fr2)⟩
     ·have em:mkR s n=s:=if_neg fun z=>g (decide_eq_true z.2)
      rw [em] at fin
      exact fin A H1 J1 (Fr.same s1)
    ·have em:mkR s n=s:=if_neg fun z=>my z.1
     rw [em] at fin
     exact nr (Bool.eq_false_iff.mpr my) (rz (fin A H J Fr.refl))
   ·rw [if_neg c2]
    rw [show fz s h n=(some .count,s) by simp only [fz,if_pos c,if_neg c2]] at k
    exact k.bad J
  ·rw [if_neg c]
   rw [show fz s h n=(some .hand,s) by simp only [fz,if_neg c]] at k
   exact k.bad J
def LF (D:Ad):Sp:=fun vs H Q E=>∃ x A s,∃ h w:Int,vs=[.ref x,.int h,.int w]∧IH D H x A s∧Good s∧Sm h∧Sm w∧Fin D x A s H (lS s h w) Q E
theorem ot {α:Type} {l:List α} {i:Nat} {a b:α} (h:b∈l.set i a):b∈l∨b=a:=by
 rw [List.mem_iff_getElem] at h
 obtain ⟨j,hj,e⟩:=h
 rw [List.getElem_set] at e
 split at e
 ·exact .inr e.symm
 ·exact .inl (by rw [←e];exact List.getElem_mem _)
theorem Good.put {s:HS} (g:Good s) {h:Int} {w:Wd} (c:∀ t,w=.th t→∃ ws,(t,ws)∈s.aN):Good (qr s h w) :=
 ⟨by show (s.bK.set _ _).length=8;rw [List.length_set];exact g.h8,g.n8,g.asc,g.lt,g.f6,(fun t m=>(ot m).elim (fun q=>g.hh t q) fun e=>c t e.symm),g.ff,g.nn,g.b12,g.bk,g.bnd,g.n0,g.nx,g.sd,g.yk,g.Dw,g.dk,g.EB⟩
abbrev BG:List Str:=["self", "h", "w", "t"]
theorem oJ:av BG ["self", "h", "w"] (aq lp):=⟨rfl,rfl,rfl,by decide +kernel,rfl,by decide +kernel,by decide +kernel⟩
theorem yX (F:Fun K "read" "IdealHeap.read" lp D.dF D.g9) (T:Txt K mg D)
  (iP:Ok P w K mg base 5 D.bQ D.gC ["self", "h", "w"] (Lx D))
  (iQ:Ok P w K mg base 4 D.cU D.gG ["self", "t"] (LC D)):Ok P w K mg base 7 D.dF D.g9 ["self", "h", "w"] (LF D):=by
 refine ⟨?_,F.binds (ps:=["self", "h", "w"]) fun _ _ _ _ _ _ us hl=>match us,hl with|[_,_,_],_=>rfl⟩
 refine F.okE oJ (fun vs H Q E h=>?_) (fun cdv A' outer s' H vs Q E hr h=>?_)
 ·obtain ⟨x,A,s,h,w,rfl,_⟩:=h
  rfl
 ·obtain ⟨x,A,s,h,w,rfl,J,G,hh,hw,k⟩:=h
  refine ⟨_,(ao (bN (i:=3) oJ.nd rfl (Or.inl rfl) (aK (pv 0) T.ae T.pL iP.g (hr.mono (by decide)) iP.b .nil (Passes.x (aL fun _ _ _ q=>q)) (ab (pv 1) (ab (pv 2) ak))))
   (ai (di (qD (RK (pv 3) (aG (pv 0) rfl)) (by with_unfolding_all rfl))
    (ai (aH (aK (pv 0) T.ae T.v7 iQ.g (hr.mono (by decide)) iQ.b .nil (Passes.x (aL fun _ _ _ q=>q)) (ab (pv 3) ak))))
    bC))),?_⟩
  refine ⟨_,rfl,x,_,_,rfl,J.ax,(by kernel_rfl),_,rfl,_,rfl,x,A,s,h,w,rfl,J,G,hh,hw,?_⟩
  by_cases c:ok8 h
  ·rw [if_pos c]
   by_cases c2:ok8 w
   ·rw [if_pos c2]
    rw [show lS s h w=(none,rdR (qr s h (nmW (s.names.getD w.toNat none))) (s.names.getD w.toNat none)) by simp only [lS,if_pos c,if_pos c2]] at k
    have hi:w.toNat<s.names.length:=by rw [G.n8];omega
    have gd:s.names.getD w.toNat none=s.names[w.toNat]:=by simp [List.getD,hi]
    have mm:s.names[w.toNat]∈s.names:=List.getElem_mem hi
    obtain ⟨z,ez⟩:∃ z,s.names.getD w.toNat none=z:=⟨_,rfl⟩
    rw [ez] at k ⊢
    rw [←gd,ez] at mm
    intro A1 H1 J1 fr
    refine ⟨_,rfl,_,rfl,x,D.aa,_,_,_,rfl,J1.ax,T.ae,T.aT,JH,A1.dm,_,z.map Sum.inl,rfl,Yq z,.inl J1.adm,_,rfl,?_⟩
    rw [abM]
    cases z with
    | none=>exact rz (k A1 H1 J1 fr)
    | some t =>
     show if decide (t∈s.dI)=true then _ else _
     obtain ⟨ws,m⟩:=G.nn t mm
     by_cases c3:t∈s.dI
     ·rw [decide_eq_true c3]
      rw [show rdR (qr s h (nmW (some t))) (some t)=qK (qr s h (nmW (some t))) t from if_pos c3] at k
      have G2:Good (qr s h (nmW (some t))):=G.put fun u e=>by cases e;exact ⟨ws,m⟩
      exact vB ⟨_,rfl,x,_,_,rfl,J1.ax,(by kernel_rfl),_,rfl,x,A1,_,t,rfl,J1,G2,(G.lt _ _ m).1,fun A2 H2 J2 fr2=>k A2 H2 J2 (fr.trans fr2)⟩
     ·rw [decide_eq_false c3]
      rw [show rdR (qr s h (nmW (some t))) (some t)=qr s h (nmW (some t)) from if_neg c3] at k
      exact rz (k A1 H1 J1 fr)
   ·rw [if_neg c2]
    rw [show lS s h w=(some .name,s) by simp only [lS,if_pos c,if_neg c2]] at k
    exact k.bad J
  ·rw [if_neg c]
   rw [show lS s h w=(some .hand,s) by simp only [lS,if_neg c]] at k
   exact k.bad J
inductive Dd where
 | make (h n:Int)|store (g k h:Int)|load (h g k:Int)|copy (h g:Int)|drop (h:Int)|number (h x:Int)|name (w h:Int)|read (h w:Int)|word (h x:Int)|small|turn
def Dd.its:Dd→List V
 | .make h n=>[.str "make",.int h,.int n]
 | .store g k h=>[.str "store",.int g,.int k,.int h]
 | .load h g k=>[.str "load",.int h,.int g,.int k]
 | .copy h g=>[.str "copy",.int h,.int g]
 | .drop h=>[.str "drop",.int h]
 | .number h x=>[.str "number",.int h,.int x]
 | .name w h=>[.str "name",.int w,.int h]
 | .read h w=>[.str "read",.int h,.int w]
 | .word h x=>[.str "word",.int h,.int x]
 | .small=>[.str "small"]
 | .turn=>[.str "turn"]
abbrev In8 (h:Int):Prop:=0≤h∧h<8
def Dd.ok:Dd→Prop
 | .make h n=>In8 h∧0≤n∧n≤6
 | .store g k h=>In8 g∧0≤k∧k≤6∧In8 h
 | .load h g k=>In8 h∧In8 g∧0≤k∧k≤6
 | .copy h g=>In8 h∧In8 g
 | .drop h=>In8 h
 | .number h x=>In8 h∧-100000≤x∧x≤100000
 | .name w h=>In8 w∧In8 h
 | .read h w=>In8 h∧In8 w
 | .word h x=>In8 h∧-100000≤x∧x≤100000
 | .small=>True
 | .turn=>True
theorem m8 (n d:Int):0≤n/d%8∧n/d%8<8:=⟨Int.emod_nonneg _ (by decide),Int.emod_lt_of_pos _ (by decide)⟩
def FE (K:W.Frag):Sp:=fun vs H Q _=>∃ (a:Addr) (ns:List Int) (m:Int),vs=[.ref a,.int m]∧SqL K H a (ns.map V.int)∧ns.length≤63∧∀ p (zs:List Int) H',aD H H'→H p=none→H' p=some (.lst (zs.map V.int))→zs.length≤200→(∀ z∈zs,0≤z∧z<65536)→Q (.ref p) H'
theorem P1 (ns:List Int) (lo hi:Option Int):∃ cs:List Int,vz (ns.map V.int) lo hi=cs.map V.int∧cs.length≤ns.length∧∀ c∈cs,c∈ns:=by
 refine ⟨(ns.drop (HT.sIx ns.length 0 lo)).take (HT.sIx ns.length ns.length hi-HT.sIx ns.length 0 lo),?_,?_,fun c hc=>List.mem_of_mem_drop (List.mem_of_mem_take hc)⟩
 ·unfold vz
  rw [List.length_map,List.map_take,List.map_drop]
 ·rw [List.length_take,List.length_drop]
  omega
abbrev EV:List Str:=["script", "most", "found", "k", "near", "turn"]
theorem d9:av EV ["script", "most"] (aq nR):=⟨rfl,rfl,rfl,by decide +kernel,rfl,by decide +kernel,by decide +kernel⟩
theorem D4 (F:Fun K "_law_numbers" "_law_numbers" nR D.dX D.i8) (T:Txt K mg D):Ok P w K mg base 2 D.dX D.i8 ["script", "most"] (FE K):=by
 refine ⟨?_,F.binds (ps:=["script", "most"]) fun _ _ _ _ _ _ us hl=>match us,hl with|[_,_],_=>rfl⟩
 refine F.okE d9 (fun vs H Q E h=>?_) (fun cdv A' outer s' H vs Q E hr h=>?_)
 ·obtain ⟨a,ns,m,rfl,_⟩:=h
  rfl
 ·obtain ⟨a,ns,m,rfl,hS,hlen,k⟩:=h
  refine ⟨_,(PSs.nox (ao (bN (i:=2) d9.nd rfl (Or.inl rfl) (hR ak))
   (ao (pw PassesOwn.never rfl (GY rfl T.Fw (ab (fX gI rfl T.vq PyProof.Rows.Boot.«len» (ab (pv 0) ak)) ak)) (fH (i:=3) d9.nd rfl (Or.inl rfl))
    (ao (bN (i:=4) d9.nd rfl (Or.inl rfl) (bR iI (br ck (pv 0) (pv 3) (fun _ _=>rfl)) ar))
    (ao (di (aW og (bR iI (br ck (pv 0) ar (fun _ _=>rfl)) ar) ar (bJ _))
     (ao (bN (i:=4) d9.nd rfl (Or.inl rfl) (bR iI (bR Jw (bR mP (bR mP (pv 4) (bR Jw ar (pv 3))) ar) ar) ar))
     (ai (bN (i:=4) d9.nd rfl (Or.inl rfl) (bR iI (bR Jw (pv 4) (pv 4)) ar))))
     bC)
    (ai (pw PassesOwn.never rfl (GY rfl T.Fw (ab ar ak)) (fH (i:=5) d9.nd rfl (Or.inl rfl))
     (ao (di (PW.pt (pw_or (aW og (pv 5) ar (bJ _)) (pw_or1 (aW AV (pv 4) ar (bJ _)))))
      (ai (aH (OS PySem.F.plainAttrs_list PySem.F.slot_list_append PySem.F.type_list_append vm (pv 2) (ab (bR iI (pv 4) ar) ak))))
      bC)
     (ai (bN (i:=4) d9.nd rfl (Or.inl rfl) (bR mF (pv 4) ar)))))))))
   (ai (aP (FP Jj (pv 2) Jh (Ji (pv 1)))))))),?_⟩
  refine ⟨by show 0≤sizeLine;decide,fun p hp=>?_⟩
  have s1:=aD.upd (o:=.lst []) hp
  have z1:upd H p (.lst []) p=some (.lst (([]:List Int).map V.int)):=ah
  obtain ⟨H1,e1⟩:∃ H1,upd H p (.lst [])=H1:=⟨_,rfl⟩
  show qh 2 (V.ref p) _ (upd H p (.lst [])) _
  rw [e1] at s1 z1 ⊢
  clear e1
  have hpa:∀ {Hx:Hp},aD H Hx→SqL K Hx a (ns.map V.int):=fun s=>s.seq hS
  refine ⟨_,rfl,a,_,rfl,.inl (hpa s1),(ns.map V.int).length,rfl,by omega,by rw [List.length_map];omega,GZ (lo:=0) (n:=(ns.map V.int).length) (fun i σ Hx=>∃ (v3 v4 v5:Option V) (zs:List Int),σ=[some (.ref a),some (.int m),some (.ref p),v3,v4,v5]∧aD H Hx∧Hx p=some (.lst (zs.map V.int))∧zs.length≤3*i∧∀ z∈zs,0≤z∧z<65536) ⟨none,none,none,[],rfl,s1,z1,Nat.le_refl _,fun z hz=>by cases hz⟩ ?_ ?_⟩
  ·rintro i σ Hx hi ⟨v3,v4,v5,zs,rfl,sx,zx,lx,bx⟩
   rw [List.length_map] at hi
   have hk:atI (ns.map V.int) (0+(i:Int))=some (.int ns[i]):=by rw [Int.zero_add];exact vA (by rw [List.getElem?_map,List.getElem?_eq_getElem hi];rfl)
   have h0:atI (ns.map V.int) 0=some (.int (ns[0]'(by omega))):=vA (j:=0) (by rw [List.getElem?_map,List.getElem?_eq_getElem (by omega)];rfl)
   have b0:=Int.emod_nonneg ns[i] (show (281474976710656:Int)≠0 by decide)
   have b1:=Int.emod_lt_of_pos ns[i] (show (0:Int)<281474976710656 by decide)
   refine ⟨_,rfl,_,rfl,a,_,_,_,rfl,rfl,hpa sx,hk,_,281474976710656,rfl,rfl,(by show (0:Int)<281474976710656;decide),?_⟩
   obtain ⟨ne,ene⟩:∃ ne:Int,ns[i]%281474976710656=ne:=⟨_,rfl⟩
   rw [ene] at b0 b1
   simp only [ene,qh]
   refine lF fun N hN=>?_
   have rest:∀ near:Int,0≤near→N [some (.ref a),some (.int m),some (.ref p),some (.int (0+(i:Int))),some (.int near),v5] Hx:=by
    intro near n0
    refine hN _ _ ?_
    refine ⟨3,rfl,by decide,by decide,GZ (lo:=0) (n:=3) (fun j σ Hy=>∃ (near:Int) (v5:Option V) (zs:List Int),σ=[some (.ref a),some (.int m),some (.ref p),some (.int (0+(i:Int))),some (.int near),v5]∧0≤near∧aD H Hy∧Hy p=some (.lst (zs.map V.int))∧zs.length≤3*i+j∧∀ z∈zs,0≤z∧z<65536) ⟨near,v5,zs,rfl,n0,sx,zx,by omega,bx⟩ ?_ ?_⟩
    ·rintro j σ Hy hj ⟨near,v5,zs,rfl,n0,sy,zy,ly,by_⟩
     refine lF fun M hM=>?_
     have tail:∀ (zs:List Int) (Hy:Hp),aD H Hy→Hy p=some (.lst (zs.map V.int))→zs.length≤3*i+(j+1)→(∀ z∈zs,0≤z∧z<65536)→M [some (.ref a),some (.int m),some (.ref p),some (.int (0+(i:Int))),some (.int near),some (.int (0+(j:Int)))] Hy:=by
      intro zs Hy sy zy ly by_
      exact hM _ _ ⟨_,rfl,near,65536,rfl,rfl,⟨by decide,by decide⟩,near/65536,_,zs,rfl,Int.ediv_nonneg n0 (by decide),sy,zy,ly,by_⟩
     have app:M=M:=rfl
     refine Yl fun B hB=>?_
     have grow:B [some (.ref a),some (.int m),some (.ref p),some (.int (0+(i:Int))),some (.int near),some (.int (0+(j:Int)))] Hy:=by
      refine hB _ _ ?_
      refine ⟨_,rfl,.inl ⟨rfl,_,SqL.of zy⟩,_,rfl,near,65536,rfl,rfl,(by show (0:Int)<65536;decide),p,_,_,rfl,rfl,zy,Nat.lt_of_le_of_lt (show (zs.map V.int).length≤1000 by rw [List.length_map];omega) (by decide),?_⟩
      refine tail (zs++[near%65536]) _ (fun b u g=>by rw [af (au g hp)];exact sy b u g) (by rw [ah,List.map_append];rfl) (by rw [List.length_append,List.length_singleton];omega) (fun z hz=>?_)
      rcases List.mem_append.mp hz with g|g
      ·exact by_ z g
      ·rw [List.mem_singleton.mp g]
       exact ⟨Int.emod_nonneg _ (by decide),Int.emod_lt_of_pos _ (by decide)⟩
     refine ⟨_,rfl,rfl,_,rfl,aQ (fun _=>vB grow) (fun _=>⟨_,rfl,near,0,rfl,rfl,_,rfl,aQ (fun _=>grow) (fun _=>tail zs Hy sy zy (by omega) by_)⟩)⟩
    ·rintro σ Hy ⟨near,v5,zs,rfl,n0,sy,zy,ly,by_⟩
     exact ⟨_,_,_,zs,rfl,sy,zy,by omega,by_⟩
   refine ⟨_,rfl,a,_,0,_,rfl,rfl,hpa sx,h0,_,2,rfl,rfl,(by show (0:Int)<2;decide),rfl,_,rfl,aQ (fun _=>?_) (fun _=>rest ne b0)⟩
   have q0:=Int.emod_nonneg ((ne+7919*(0+(i:Int))+1)*48271) (show (2147483647:Int)≠0 by decide)
   have q1:=Int.emod_lt_of_pos ((ne+7919*(0+(i:Int))+1)*48271) (show (0:Int)<2147483647 by decide)
   refine ⟨_,rfl,_,rfl,7919,0+(i:Int),rfl,rfl,.inl ⟨by decide,by decide⟩,ne,_,rfl,rfl,_,1,rfl,rfl,_,48271,rfl,rfl,.inr ⟨by decide,by decide⟩,_,2147483647,rfl,rfl,(by show (0:Int)<2147483647;decide),?_⟩
   obtain ⟨n2,en2⟩:∃ n2:Int,(ne+7919*(0+(i:Int))+1)*48271%2147483647=n2:=⟨_,rfl⟩
   rw [en2] at q0 q1
   simp only [en2,qh]
   refine ⟨_,rfl,_,rfl,n2,n2,rfl,rfl,.inl ⟨by omega,by omega⟩,_,281474976710597,rfl,rfl,(by show (0:Int)<281474976710597;decide),?_⟩
   exact rest _ (Int.emod_nonneg _ (by decide))
  ·rintro σ Hx ⟨v3,v4,v5,zs,rfl,sx,zx,lx,bx⟩
   rw [List.length_map] at lx
   obtain ⟨cs,ec,cl,cm⟩:=P1 zs none (some m)
   refine ⟨_,rfl,_,rfl,_,rfl,p,_,rfl,SqL.of zx,fun q hq=>?_⟩
   rw [ec]
   have hq0:H q=none:=aD.none sx hq
   exact k q cs _ (sx.trans (aD.upd hq)) hq0 ah (by omega) (fun z hz=>bx z (cm z hz))
def NO:Sp:=fun vs H Q _=>∃ n:Int,vs=[.int n]∧0≤n∧n<65536∧∀ q dd H',aD H H'→H q=none→H' q=some (.tup (Dd.its dd))→dd.ok→Q (.ref q) H'
abbrev Ks:List Str:=["number", "a", "b", "c", "kind", "some"]
theorem jA:av Ks ["number"] (aq uc):=⟨rfl,rfl,rfl,by decide +kernel,rfl,by decide +kernel,by decide +kernel⟩
theorem Ib (F:Fun K "_law_deed" "_law_deed" uc D.gK D.lZ) (T:Txt K mg D):Ok P w K mg base 1 D.gK D.lZ ["number"] (NO):=by
 refine ⟨?_,F.binds (ps:=["number"]) fun _ _ _ _ _ _ us hl=>match us,hl with|[_],_=>rfl⟩
 refine F.okE jA (fun vs H Q E h=>?_) (fun cdv A' outer s' H vs Q E hr h=>?_)
 ·obtain ⟨n,rfl,_⟩:=h
  rfl
 ·obtain ⟨n,rfl,n0,n1,k⟩:=h
  refine ⟨_,(PSs.nox (ao (bN (i:=1) jA.nd rfl (Or.inl rfl) (bR iI (bR mF (pv 0) ar) ar))
   (ao (bN (i:=2) jA.nd rfl (Or.inl rfl) (bR iI (bR mF (pv 0) ar) ar))
   (ao (bN (i:=3) jA.nd rfl (Or.inl rfl) (bR iI (bR mF (pv 0) ar) ar))
   (ao (bN (i:=4) jA.nd rfl (Or.inl rfl) (bR iI (pv 0) ar))
   (ao (di (aW Fj (pv 4) ar (bJ _))
    (ai (aP (fI (ab bq (ab (pv 1) (ab (br ck (hR (ab ar (ab ar (ab ar (ab ar (ab ar (ab ar (ab ar (ab ar ak))))))))) (pv 3) (fun _ _=>rfl)) ak))))))
    bC)
   (ao (di (aW Fj (pv 4) ar (bJ _))
    (ai (aP (fI (ab bq (ab (pv 1) (ab (bR iI (pv 3) ar) (ab (pv 2) ak)))))))
    bC)
   (ao (di (aW Fj (pv 4) ar (bJ _))
    (ai (aP (fI (ab bq (ab (pv 1) (ab (pv 2) (ab (bR iI (pv 3) ar) ak)))))))
    bC)
   (ao (bN (i:=5) jA.nd rfl (Or.inl rfl) (hR (iJ (fI (ab bq (ab (pv 1) (ab (pv 2) ak)))) (iJ (fI (ab bq (ab (pv 1) ak))) (iJ (fI (ab bq (ab (pv 1) (ab (bR MY (bR Jw (pv 2) ar) (pv 3)) ak)))) (iJ (fI (ab bq (ab (pv 2) (ab (pv 1) ak)))) ak))))))
   (ai (aP (br ck (bR sJ (pv 5) (hR (iJ (fI (ab bq (ab (pv 1) (ab (pv 2) ak)))) (iJ (fI (ab bq (ab (pv 1) (ab (bR MY (pv 0) ar) ak)))) (iJ (fI (ab bq ak)) (iJ (fI (ab bq ak)) ak)))))) (bR MY (pv 4) ar) (fun _ _=>rfl))))))))))))),?_⟩
  obtain ⟨a,ea⟩:∃ a:Int,n/16%8=a:=⟨_,rfl⟩
  obtain ⟨b,eb⟩:∃ b:Int,n/128%8=b:=⟨_,rfl⟩
  obtain ⟨c,ec⟩:∃ c:Int,n/1024%8=c:=⟨_,rfl⟩
  obtain ⟨kd,ek⟩:∃ kd:Int,n%16=kd:=⟨_,rfl⟩
  have ha:In8 a:=by rw [←ea];exact m8 n 16
  have hb:In8 b:=by rw [←eb];exact m8 n 128
  have hc:In8 c:=by rw [←ec];exact m8 n 1024
  have k0:0≤kd:=by rw [←ek];exact Int.emod_nonneg _ (by decide)
  have k1:kd<16:=by rw [←ek];exact Int.emod_lt_of_pos _ (by decide)
  refine ⟨_,rfl,n,16,rfl,rfl,⟨by decide,by decide⟩,_,8,rfl,rfl,(by show (0:Int)<8;decide),?_⟩
  simp only [ea,qh]
  refine ⟨_,rfl,n,128,rfl,rfl,⟨by decide,by decide⟩,_,8,rfl,rfl,(by show (0:Int)<8;decide),?_⟩
  simp only [eb,qh]
  refine ⟨_,rfl,n,1024,rfl,rfl,⟨by decide,by decide⟩,_,8,rfl,rfl,(by show (0:Int)<8;decide),?_⟩
  simp only [ec,qh]
  refine ⟨_,rfl,n,16,rfl,rfl,(by show (0:Int)<16;decide),?_⟩
  simp only [ek,qh]
  have c30:=Int.emod_nonneg c (show (3:Int)≠0 by decide)
  have c31:=Int.emod_lt_of_pos c (show (0:Int)<3 by decide)
  refine ⟨_,rfl,kd,3,rfl,rfl,_,rfl,aQ (fun _=>?_) (fun g3=>?_)⟩
  ·obtain ⟨m,hm,m0,m6⟩:∃ m:Int,atI [V.int 2,V.int 3,V.int 1,V.int 4,V.int 2,V.int 0,V.int 6,V.int 3] c=some (.int m)∧0≤m∧m≤6:=by
    obtain ⟨c0,c8⟩:=hc
    rcases (show c=0∨c=1∨c=2∨c=3∨c=4∨c=5∨c=6∨c=7 by omega) with rfl|rfl|rfl|rfl|rfl|rfl|rfl|rfl<;>exact ⟨_,rfl,by decide,by decide⟩
   refine ⟨_,rfl,by show 8≤sizeLine;decide,fun l hl=>⟨_,rfl,l,_,c,_,rfl,rfl,SqL.of ah,hm,by show 3≤sizeLine;decide,fun q hq=>?_⟩⟩
   exact k q (.make a m) _ ((aD.upd hl).trans (aD.upd hq)) (aD.none (aD.upd hl) hq) ah ⟨ha,m0,m6⟩
  ·have g3:¬kd<3:=fun z=>g3 (decide_eq_true z)
   refine ⟨_,rfl,kd,6,rfl,rfl,_,rfl,aQ (fun _=>?_) (fun g6=>?_)⟩
   ·refine ⟨_,rfl,_,rfl,c,3,rfl,rfl,(by show (0:Int)<3;decide),_,rfl,by show 4≤sizeLine;decide,fun q hq=>?_⟩
    exact k q (.store a (c%3) b) _ (aD.upd hq) hq ah ⟨ha,c30,by omega,hb⟩
   ·have g6:¬kd<6:=fun z=>g6 (decide_eq_true z)
    refine ⟨_,rfl,kd,8,rfl,rfl,_,rfl,aQ (fun _=>?_) (fun g8=>?_)⟩
    ·refine ⟨_,rfl,_,rfl,_,rfl,c,3,rfl,rfl,(by show (0:Int)<3;decide),by show 4≤sizeLine;decide,fun q hq=>?_⟩
     exact k q (.load a b (c%3)) _ (aD.upd hq) hq ah ⟨ha,hb,c30,by omega⟩
    ·have g8:¬kd<8:=fun z=>g8 (decide_eq_true z)
     refine ⟨_,rfl,_,rfl,by show 3≤sizeLine;decide,fun t1 h1=>⟨_,rfl,by show 2≤sizeLine;decide,fun t2 h2=>⟨_,rfl,_,rfl,b,1000,rfl,rfl,.inr ⟨by decide,by decide⟩,_,rfl,_,c,rfl,rfl,by show 3≤sizeLine;decide,fun t3 h3=>⟨_,rfl,_,rfl,by show 3≤sizeLine;decide,fun t4 h4=>⟨by show 4≤sizeLine;decide,fun l1 hl1=>?_⟩⟩⟩⟩⟩
     have r1:=aD.upd (o:=.tup (Dd.its (.copy a b))) h1
     have r2:=aD.upd (o:=.tup (Dd.its (.drop a))) h2
     have r3:=aD.upd (o:=.tup (Dd.its (.number a (b*1000-c)))) h3
     have r4:=aD.upd (o:=.tup (Dd.its (.name b a))) h4
     have r5:=aD.upd (o:=.lst [V.ref t1,V.ref t2,V.ref t3,V.ref t4]) hl1
     refine ⟨_,rfl,_,rfl,_,rfl,by show 3≤sizeLine;decide,fun t5 h5=>⟨_,rfl,_,rfl,n,30000,rfl,rfl,by show 3≤sizeLine;decide,fun t6 h6=>⟨by show 1≤sizeLine;decide,fun t7 h7=>⟨by show 1≤sizeLine;decide,fun t8 h8=>⟨by show 4≤sizeLine;decide,fun l2 hl2=>?_⟩⟩⟩⟩⟩
     have r6:=aD.upd (o:=.tup (Dd.its (.read a b))) h5
     have r7:=aD.upd (o:=.tup (Dd.its (.word a (n-30000)))) h6
     have r8:=aD.upd (o:=.tup (Dd.its .small)) h7
     have r9:=aD.upd (o:=.tup (Dd.its .turn)) h8
     have r10:=aD.upd (o:=.lst [V.ref t5,V.ref t6,V.ref t7,V.ref t8]) hl2
     refine ⟨l1,l2,_,_,rfl,rfl,SqL.of ((r6.trans (r7.trans (r8.trans (r9.trans r10)))) _ _ ah),SqL.of ah,by show 8≤sizeLine;decide,fun l3 hl3=>?_⟩
     have r11:=aD.upd (o:=.lst ([V.ref t1,V.ref t2,V.ref t3,V.ref t4]++[V.ref t5,V.ref t6,V.ref t7,V.ref t8])) hl3
     have q10:=r10.trans r11
     have q9:=r9.trans q10
     have q8:=r8.trans q9
     have q7:=r7.trans q8
     have q6:=r6.trans q7
     have q5:=r5.trans q6
     have q4:=r4.trans q5
     have q3:=r3.trans q4
     have q2:=r2.trans q3
     have q1:=r1.trans q2
     have p4:=((r1.trans r2).trans r3).trans r4
     have p5:=p4.trans r5
     have p6:=p5.trans r6
     have p7:=p6.trans r7
     have p8:=p7.trans r8
     refine ⟨_,rfl,kd,8,rfl,rfl,?_⟩
     have cs:kd=8∨kd=9∨kd=10∨kd=11∨kd=12∨kd=13∨kd=14∨kd=15:=by omega
     have bb:-100000≤b*1000-c∧b*1000-c≤100000:=by obtain ⟨_,_⟩:=hb;obtain ⟨_,_⟩:=hc;omega
     rcases cs with rfl|rfl|rfl|rfl|rfl|rfl|rfl|rfl
     ·exact ⟨l3,_,_,.ref t1,rfl,rfl,SqL.of ah,rfl,k t1 (.copy a b) _ q1 h1 (q2 _ _ ah) ⟨ha,hb⟩⟩
     ·exact ⟨l3,_,_,.ref t2,rfl,rfl,SqL.of ah,rfl,k t2 (.drop a) _ q1 (aD.none r1 h2) (q3 _ _ ah) ha⟩
     ·exact ⟨l3,_,_,.ref t3,rfl,rfl,SqL.of ah,rfl,k t3 (.number a (b*1000-c)) _ q1 (aD.none (r1.trans r2) h3) (q4 _ _ ah) ⟨ha,bb.1,bb.2⟩⟩
     ·exact ⟨l3,_,_,.ref t4,rfl,rfl,SqL.of ah,rfl,k t4 (.name b a) _ q1 (aD.none ((r1.trans r2).trans r3) h4) (q5 _ _ ah) ⟨hb,ha⟩⟩
     ·exact ⟨l3,_,_,.ref t5,rfl,rfl,SqL.of ah,rfl,k t5 (.read a b) _ q1 (aD.none p5 h5) (q7 _ _ ah) ⟨ha,hb⟩⟩
     ·exact ⟨l3,_,_,.ref t6,rfl,rfl,SqL.of ah,rfl,k t6 (.word a (n-30000)) _ q1 (aD.none p6 h6) (q8 _ _ ah) ⟨ha,by omega,by omega⟩⟩
     ·exact ⟨l3,_,_,.ref t7,rfl,rfl,SqL.of ah,rfl,k t7 .small _ q1 (aD.none p7 h7) (q9 _ _ ah) True.intro⟩
     ·exact ⟨l3,_,_,.ref t8,rfl,rfl,SqL.of ah,rfl,k t8 .turn _ q1 (aD.none p8 h8) (q10 _ _ ah) True.intro⟩
noncomputable def Bb (s:HS):Re:=if s.rnd=true then O9 s else AQ s
noncomputable def dDo (s:HS):Dd→Re
 | .make h n=>fz s h n
 | .store g k h=>iL s g k h
 | .load h g k=>lP s h g k
 | .copy h g=>rJ s h g
 | .drop h=>vt s h
 | .number h x=>jd s h x
 | .name w h=>nj s w h
 | .read h w=>lS s h w
 | .word h x=>lQ s h x
 | .small=>(none,jz s)
 | .turn=>Bb s
def Nc:Er→Str
 | .hand => "BadHand"
 | .name => "BadName"
 | .field => "BadField"
 | .count => "BadCount"
 | .room => "NoRoom"
 | .words => "TooManyWords"
 | .on => "RoundOn"
 | .no => "NoRound"
def wdV:Option Er→V
 | none=>.non
 | some e=>.str (Nc e)
def LG (D:Ad):Sp:=fun vs H Q E=>∃ x A s q dd,vs=[.ref x,.ref q]∧IH D H x A s∧Gd s∧s.nxt<10000∧H q=some (.tup (Dd.its dd))∧dd.ok∧Fin D x A s H (dDo s dd) Q E
abbrev Ic:List Str:=["hall", "deed"]
theorem Gr:av Ic ["hall", "deed"] (aq qQ):=⟨rfl,rfl,rfl,by decide +kernel,rfl,by decide +kernel,by decide +kernel⟩
theorem Gu (F:Fun K "_law_plain" "_law_plain" qQ D.fF D.kL) (T:Txt K mg D)
  (jk:Ok P w K mg base 8 D.dE D.g7 ["self", "h", "n"] (LD D))
  (nv:Ok P w K mg base 7 D.eS D.kK ["self", "g", "k", "h"] (Lw D))
  (oZ:Ok P w K mg base 7 D.fY D.lU ["self", "h", "g", "k"] (NG D))
  (pd:Ok P w K mg base 6 D.fZ D.lV ["self", "h", "g"] (Nz D))
  (pe:Ok P w K mg base 5 D.f7 D.lW ["self", "h"] (NA D))
  (lT:Ok P w K mg base 6 D.dS D.jL ["self", "h", "x"] (Hm D))
  (pj:Ok P w K mg base 7 D.f9 D.lX ["self", "w", "h"] (NB D))
  (jl:Ok P w K mg base 7 D.dF D.g9 ["self", "h", "w"] (LF D))
  (pk:Ok P w K mg base 7 D.gb D.lY ["self", "h", "x"] (ND D))
  (aI:Ok P w K mg base 5 D.bB D.cQ ["self"] (uB D))
  (bW:Ok P w K mg base 1 D.bw D.dw ["self"] (Nb D))
  (jR:Ok P w K mg base 4 D.dZ D.iE ["self"] (QG D))
  (iR:Ok P w K mg base 6 D.cR D.gD ["self"] (QF D)):Ok P w K mg base 9 D.fF D.kL ["hall", "deed"] (LG D):=by
 refine ⟨?_,F.binds (ps:=["hall", "deed"]) fun _ _ _ _ _ _ us hl=>match us,hl with|[_,_],_=>rfl⟩
 refine F.okE Gr (fun vs H Q E h=>?_) (fun cdv A' outer s' H vs Q E hr h=>?_)
 ·obtain ⟨x,A,s,q,dd,rfl,_⟩:=h
  rfl
 ·obtain ⟨x,A,s,q,dd,rfl,J,Gs,hnx,hq,hok,k⟩:=h
  refine ⟨_,(ai (di (aW og (br cn (pv 1) ar (fun _ _=>rfl)) bq (bJ _))
    (ai (aH (aK (pv 0) T.ae T.yl jk.g (hr.mono (by decide)) jk.b .nil (Passes.x (aL fun _ _ _ q=>q)) (ab (br cn (pv 1) ar (fun _ _=>rfl)) (ab (br cn (pv 1) ar (fun _ _=>rfl)) ak)))))
    (ai (di (aW og (br cn (pv 1) ar (fun _ _=>rfl)) bq (bJ _))
     (ai (aH (aK (pv 0) T.ae T.vW nv.g (hr.mono (by decide)) nv.b .nil (Passes.x (aL fun _ _ _ q=>q)) (ab (br cn (pv 1) ar (fun _ _=>rfl)) (ab (br cn (pv 1) ar (fun _ _=>rfl)) (ab (br cn (pv 1) ar (fun _ _=>rfl)) ak))))))
     (ai (di (aW og (br cn (pv 1) ar (fun _ _=>rfl)) bq (bJ _))
      (ai (aH (aK (pv 0) T.ae T.yd oZ.g (hr.mono (by decide)) oZ.b .nil (Passes.x (aL fun _ _ _ q=>q)) (ab (br cn (pv 1) ar (fun _ _=>rfl)) (ab (br cn (pv 1) ar (fun _ _=>rfl)) (ab (br cn (pv 1) ar (fun _ _=>rfl)) ak))))))
      (ai (di (aW og (br cn (pv 1) ar (fun _ _=>rfl)) bq (bJ _))
       (ai (aH (aK (pv 0) T.ae T.ye pd.g (hr.mono (by decide)) pd.b .nil (Passes.x (aL fun _ _ _ q=>q)) (ab (br cn (pv 1) ar (fun _ _=>rfl)) (ab (br cn (pv 1) ar (fun _ _=>rfl)) ak)))))
       (ai (di (aW og (br cn (pv 1) ar (fun _ _=>rfl)) bq (bJ _))
        (ai (aH (aK (pv 0) T.ae T.yh pe.g (hr.mono (by decide)) pe.b .nil (Passes.x (aL fun _ _ _ q=>q)) (ab (br cn (pv 1) ar (fun _ _=>rfl)) ak))))
        (ai (di (aW og (br cn (pv 1) ar (fun _ _=>rfl)) bq (bJ _))
         (ai (aH (aK (pv 0) T.ae T.um lT.g (hr.mono (by decide)) lT.b .nil (Passes.x (aL fun _ _ _ q=>q)) (ab (br cn (pv 1) ar (fun _ _=>rfl)) (ab (br cn (pv 1) ar (fun _ _=>rfl)) ak)))))
         (ai (di (aW og (br cn (pv 1) ar (fun _ _=>rfl)) bq (bJ _))
          (ai (aH (aK (pv 0) T.ae T.yi pj.g (hr.mono (by decide)) pj.b .nil (Passes.x (aL fun _ _ _ q=>q)) (ab (br cn (pv 1) ar (fun _ _=>rfl)) (ab (br cn (pv 1) ar (fun _ _=>rfl)) ak)))))
          (ai (di (aW og (br cn (pv 1) ar (fun _ _=>rfl)) bq (bJ _))
           (ai (aH (aK (pv 0) T.ae T.ym jl.g (hr.mono (by decide)) jl.b .nil (Passes.x (aL fun _ _ _ q=>q)) (ab (br cn (pv 1) ar (fun _ _=>rfl)) (ab (br cn (pv 1) ar (fun _ _=>rfl)) ak)))))
           (ai (di (aW og (br cn (pv 1) ar (fun _ _=>rfl)) bq (bJ _))
            (ai (aH (aK (pv 0) T.ae T.yj pk.g (hr.mono (by decide)) pk.b .nil (Passes.x (aL fun _ _ _ q=>q)) (ab (br cn (pv 1) ar (fun _ _=>rfl)) (ab (br cn (pv 1) ar (fun _ _=>rfl)) ak)))))
            (ai (di (aW og (br cn (pv 1) ar (fun _ _=>rfl)) bq (bJ _))
             (ai (aH (cN (pv 0) T.ae T.ic aI.g (hr.mono (by decide)) aI.b .nil (Passes.x (aL fun _ _ _ q=>q)))))
             (ai (di (vw (cN (pv 0) T.ae T.kW bW.g (hr.mono (by decide)) bW.b .nil (Passes.x (aL fun _ _ _ q=>q))))
              (ai (aH (cN (pv 0) T.ae T.Bn jR.g (hr.mono (by decide)) jR.b .nil (Passes.x (aL fun _ _ _ q=>q)))))
              (ai (aH (cN (pv 0) T.ae T.vX iR.g (hr.mono (by decide)) iR.b .nil (Passes.x (aL fun _ _ _ q=>q))))))))))))))))))))))))))),?_⟩
  have G:=Gs.g
  cases dd with
  | make h n =>
   replace hq:H q=some (.tup [.str "make",.int h,.int n]):=hq
   obtain ⟨⟨h0,h1⟩,n0,n1⟩:=hok
   refine ⟨_,rfl,q,_,0,.str "make",rfl,rfl,SqT.of hq,rfl,rfl,_,rfl,aQ (fun _=>?_) (fun z=>absurd (by decide +kernel) z)⟩
   exact ⟨_,rfl,x,_,_,rfl,J.ax,(by kernel_rfl),_,rfl,q,_,1,.int h,rfl,rfl,SqT.of hq,rfl,_,rfl,q,_,2,.int n,rfl,rfl,SqT.of hq,rfl,x,A,s,h,n,rfl,J,Gs,hnx,Sm.of (by omega) (by omega),Sm.of (by omega) (by omega),k⟩
  | store g kk h =>
   replace hq:H q=some (.tup [.str "store",.int g,.int kk,.int h]):=hq
   obtain ⟨⟨g0,g1⟩,k0,k1,h0,h1⟩:=hok
   refine ⟨_,rfl,q,_,0,.str "store",rfl,rfl,SqT.of hq,rfl,rfl,_,rfl,aQ (fun z=>absurd z (by decide +kernel)) (fun _=>?_)⟩
   refine ⟨_,rfl,q,_,0,.str "store",rfl,rfl,SqT.of hq,rfl,rfl,_,rfl,aQ (fun _=>?_) (fun z=>absurd (by decide +kernel) z)⟩
   exact ⟨_,rfl,x,_,_,rfl,J.ax,(by kernel_rfl),_,rfl,q,_,1,.int g,rfl,rfl,SqT.of hq,rfl,_,rfl,q,_,2,.int kk,rfl,rfl,SqT.of hq,rfl,_,rfl,q,_,3,.int h,rfl,rfl,SqT.of hq,rfl,x,A,s,g,kk,h,rfl,J,G,Sm.of (by omega) (by omega),Sm.of (by omega) (by omega),Sm.of (by omega) (by omega),k⟩
  | load h g kk =>
   replace hq:H q=some (.tup [.str "load",.int h,.int g,.int kk]):=hq
   obtain ⟨⟨h0,h1⟩,⟨g0,g1⟩,k0,k1⟩:=hok
   refine ⟨_,rfl,q,_,0,.str "load",rfl,rfl,SqT.of hq,rfl,rfl,_,rfl,aQ (fun z=>absurd z (by decide +kernel)) (fun _=>?_)⟩
   refine ⟨_,rfl,q,_,0,.str "load",rfl,rfl,SqT.of hq,rfl,rfl,_,rfl,aQ (fun z=>absurd z (by decide +kernel)) (fun _=>?_)⟩
   refine ⟨_,rfl,q,_,0,.str "load",rfl,rfl,SqT.of hq,rfl,rfl,_,rfl,aQ (fun _=>?_) (fun z=>absurd (by decide +kernel) z)⟩
   exact ⟨_,rfl,x,_,_,rfl,J.ax,(by kernel_rfl),_,rfl,q,_,1,.int h,rfl,rfl,SqT.of hq,rfl,_,rfl,q,_,2,.int g,rfl,rfl,SqT.of hq,rfl,_,rfl,q,_,3,.int kk,rfl,rfl,SqT.of hq,rfl,x,A,s,h,g,kk,rfl,J,G,Sm.of (by omega) (by omega),Sm.of (by omega) (by omega),Sm.of (by omega) (by omega),k⟩
  | copy h g =>
   replace hq:H q=some (.tup [.str "copy",.int h,.int g]):=hq
   obtain ⟨⟨h0,h1⟩,g0,g1⟩:=hok
   refine ⟨_,rfl,q,_,0,.str "copy",rfl,rfl,SqT.of hq,rfl,rfl,_,rfl,aQ (fun z=>absurd z (by decide +kernel)) (fun _=>?_)⟩
   refine ⟨_,rfl,q,_,0,.str "copy",rfl,rfl,SqT.of hq,rfl,rfl,_,rfl,aQ (fun z=>absurd z (by decide +kernel)) (fun _=>?_)⟩
   refine ⟨_,rfl,q,_,0,.str "copy",rfl,rfl,SqT.of hq,rfl,rfl,_,rfl,aQ (fun z=>absurd z (by decide +kernel)) (fun _=>?_)⟩
   refine ⟨_,rfl,q,_,0,.str "copy",rfl,rfl,SqT.of hq,rfl,rfl,_,rfl,aQ (fun _=>?_) (fun z=>absurd (by decide +kernel) z)⟩
   exact ⟨_,rfl,x,_,_,rfl,J.ax,(by kernel_rfl),_,rfl,q,_,1,.int h,rfl,rfl,SqT.of hq,rfl,_,rfl,q,_,2,.int g,rfl,rfl,SqT.of hq,rfl,x,A,s,h,g,rfl,J,G,Sm.of (by omega) (by omega),Sm.of (by omega) (by omega),k⟩
  | drop h =>
   replace hq:H q=some (.tup [.str "drop",.int h]):=hq
   obtain ⟨h0,h1⟩:=hok
   refine ⟨_,rfl,q,_,0,.str "drop",rfl,rfl,SqT.of hq,rfl,rfl,_,rfl,aQ (fun z=>absurd z (by decide +kernel)) (fun _=>?_)⟩
   refine ⟨_,rfl,q,_,0,.str "drop",rfl,rfl,SqT.of hq,rfl,rfl,_,rfl,aQ (fun z=>absurd z (by decide +kernel)) (fun _=>?_)⟩
   refine ⟨_,rfl,q,_,0,.str "drop",rfl,rfl,SqT.of hq,rfl,rfl,_,rfl,aQ (fun z=>absurd z (by decide +kernel)) (fun _=>?_)⟩
   refine ⟨_,rfl,q,_,0,.str "drop",rfl,rfl,SqT.of hq,rfl,rfl,_,rfl,aQ (fun z=>absurd z (by decide +kernel)) (fun _=>?_)⟩
   refine ⟨_,rfl,q,_,0,.str "drop",rfl,rfl,SqT.of hq,rfl,rfl,_,rfl,aQ (fun _=>?_) (fun z=>absurd (by decide +kernel) z)⟩
   exact ⟨_,rfl,x,_,_,rfl,J.ax,(by kernel_rfl),_,rfl,q,_,1,.int h,rfl,rfl,SqT.of hq,rfl,x,A,s,h,rfl,J,G,Sm.of (by omega) (by omega),k⟩
  | number h z =>
   replace hq:H q=some (.tup [.str "number",.int h,.int z]):=hq
   obtain ⟨⟨h0,h1⟩,z0,z1⟩:=hok
   refine ⟨_,rfl,q,_,0,.str "number",rfl,rfl,SqT.of hq,rfl,rfl,_,rfl,aQ (fun z=>absurd z (by decide +kernel)) (fun _=>?_)⟩
   refine ⟨_,rfl,q,_,0,.str "number",rfl,rfl,SqT.of hq,rfl,rfl,_,rfl,aQ (fun z=>absurd z (by decide +kernel)) (fun _=>?_)⟩
   refine ⟨_,rfl,q,_,0,.str "number",rfl,rfl,SqT.of hq,rfl,rfl,_,rfl,aQ (fun z=>absurd z (by decide +kernel)) (fun _=>?_)⟩
   refine ⟨_,rfl,q,_,0,.str "number",rfl,rfl,SqT.of hq,rfl,rfl,_,rfl,aQ (fun z=>absurd z (by decide +kernel)) (fun _=>?_)⟩
   refine ⟨_,rfl,q,_,0,.str "number",rfl,rfl,SqT.of hq,rfl,rfl,_,rfl,aQ (fun z=>absurd z (by decide +kernel)) (fun _=>?_)⟩
   refine ⟨_,rfl,q,_,0,.str "number",rfl,rfl,SqT.of hq,rfl,rfl,_,rfl,aQ (fun _=>?_) (fun z=>absurd (by decide +kernel) z)⟩
   exact ⟨_,rfl,x,_,_,rfl,J.ax,(by kernel_rfl),_,rfl,q,_,1,.int h,rfl,rfl,SqT.of hq,rfl,_,rfl,q,_,2,.int z,rfl,rfl,SqT.of hq,rfl,x,A,s,h,z,rfl,J,G,Sm.of (by omega) (by omega),Sm.of (by omega) (by omega),k⟩
  | name w h =>
   replace hq:H q=some (.tup [.str "name",.int w,.int h]):=hq
   obtain ⟨⟨w0,w1⟩,h0,h1⟩:=hok
   refine ⟨_,rfl,q,_,0,.str "name",rfl,rfl,SqT.of hq,rfl,rfl,_,rfl,aQ (fun z=>absurd z (by decide +kernel)) (fun _=>?_)⟩
   refine ⟨_,rfl,q,_,0,.str "name",rfl,rfl,SqT.of hq,rfl,rfl,_,rfl,aQ (fun z=>absurd z (by decide +kernel)) (fun _=>?_)⟩
   refine ⟨_,rfl,q,_,0,.str "name",rfl,rfl,SqT.of hq,rfl,rfl,_,rfl,aQ (fun z=>absurd z (by decide +kernel)) (fun _=>?_)⟩
   refine ⟨_,rfl,q,_,0,.str "name",rfl,rfl,SqT.of hq,rfl,rfl,_,rfl,aQ (fun z=>absurd z (by decide +kernel)) (fun _=>?_)⟩
   refine ⟨_,rfl,q,_,0,.str "name",rfl,rfl,SqT.of hq,rfl,rfl,_,rfl,aQ (fun z=>absurd z (by decide +kernel)) (fun _=>?_)⟩
   refine ⟨_,rfl,q,_,0,.str "name",rfl,rfl,SqT.of hq,rfl,rfl,_,rfl,aQ (fun z=>absurd z (by decide +kernel)) (fun _=>?_)⟩
   refine ⟨_,rfl,q,_,0,.str "name",rfl,rfl,SqT.of hq,rfl,rfl,_,rfl,aQ (fun _=>?_) (fun z=>absurd (by decide +kernel) z)⟩
   exact ⟨_,rfl,x,_,_,rfl,J.ax,(by kernel_rfl),_,rfl,q,_,1,.int w,rfl,rfl,SqT.of hq,rfl,_,rfl,q,_,2,.int h,rfl,rfl,SqT.of hq,rfl,x,A,s,w,h,rfl,J,G,Sm.of (by omega) (by omega),Sm.of (by omega) (by omega),k⟩
  | read h w =>
   replace hq:H q=some (.tup [.str "read",.int h,.int w]):=hq
   obtain ⟨⟨h0,h1⟩,w0,w1⟩:=hok
   refine ⟨_,rfl,q,_,0,.str "read",rfl,rfl,SqT.of hq,rfl,rfl,_,rfl,aQ (fun z=>absurd z (by decide +kernel)) (fun _=>?_)⟩
   refine ⟨_,rfl,q,_,0,.str "read",rfl,rfl,SqT.of hq,rfl,rfl,_,rfl,aQ (fun z=>absurd z (by decide +kernel)) (fun _=>?_)⟩
   refine ⟨_,rfl,q,_,0,.str "read",rfl,rfl,SqT.of hq,rfl,rfl,_,rfl,aQ (fun z=>absurd z (by decide +kernel)) (fun _=>?_)⟩
   refine ⟨_,rfl,q,_,0,.str "read",rfl,rfl,SqT.of hq,rfl,rfl,_,rfl,aQ (fun z=>absurd z (by decide +kernel)) (fun _=>?_)⟩
   refine ⟨_,rfl,q,_,0,.str "read",rfl,rfl,SqT.of hq,rfl,rfl,_,rfl,aQ (fun z=>absurd z (by decide +kernel)) (fun _=>?_)⟩
   refine ⟨_,rfl,q,_,0,.str "read",rfl,rfl,SqT.of hq,rfl,rfl,_,rfl,aQ (fun z=>absurd z (by decide +kernel)) (fun _=>?_)⟩
   refine ⟨_,rfl,q,_,0,.str "read",rfl,rfl,SqT.of hq,rfl,rfl,_,rfl,aQ (fun z=>absurd z (by decide +kernel)) (fun _=>?_)⟩
   refine ⟨_,rfl,q,_,0,.str "read",rfl,rfl,SqT.of hq,rfl,rfl,_,rfl,aQ (fun _=>?_) (fun z=>absurd (by decide +kernel) z)⟩
   exact ⟨_,rfl,x,_,_,rfl,J.ax,(by kernel_rfl),_,rfl,q,_,1,.int h,rfl,rfl,SqT.of hq,rfl,_,rfl,q,_,2,.int w,rfl,rfl,SqT.of hq,rfl,x,A,s,h,w,rfl,J,G,Sm.of (by omega) (by omega),Sm.of (by omega) (by omega),k⟩
  | word h z =>
   replace hq:H q=some (.tup [.str "word",.int h,.int z]):=hq
   obtain ⟨⟨h0,h1⟩,z0,z1⟩:=hok
   refine ⟨_,rfl,q,_,0,.str "word",rfl,rfl,SqT.of hq,rfl,rfl,_,rfl,aQ (fun z=>absurd z (by decide +kernel)) (fun _=>?_)⟩
   refine ⟨_,rfl,q,_,0,.str "word",rfl,rfl,SqT.of hq,rfl,rfl,_,rfl,aQ (fun z=>absurd z (by decide +kernel)) (fun _=>?_)⟩
   refine ⟨_,rfl,q,_,0,.str "word",rfl,rfl,SqT.of hq,rfl,rfl,_,rfl,aQ (fun z=>absurd z (by decide +kernel)) (fun _=>?_)⟩
   refine ⟨_,rfl,q,_,0,.str "word",rfl,rfl,SqT.of hq,rfl,rfl,_,rfl,aQ (fun z=>absurd z (by decide +kernel)) (fun _=>?_)⟩
   refine ⟨_,rfl,q,_,0,.str "word",rfl,rfl,SqT.of hq,rfl,rfl,_,rfl,aQ (fun z=>absurd z (by decide +kernel)) (fun _=>?_)⟩
   refine ⟨_,rfl,q,_,0,.str "word",rfl,rfl,SqT.of hq,rfl,rfl,_,rfl,aQ (fun z=>absurd z (by decide +kernel)) (fun _=>?_)⟩
   refine ⟨_,rfl,q,_,0,.str "word",rfl,rfl,SqT.of hq,rfl,rfl,_,rfl,aQ (fun z=>absurd z (by decide +kernel)) (fun _=>?_)⟩
   refine ⟨_,rfl,q,_,0,.str "word",rfl,rfl,SqT.of hq,rfl,rfl,_,rfl,aQ (fun z=>absurd z (by decide +kernel)) (fun _=>?_)⟩
   refine ⟨_,rfl,q,_,0,.str "word",rfl,rfl,SqT.of hq,rfl,rfl,_,rfl,aQ (fun _=>?_) (fun z=>absurd (by decide +kernel) z)⟩
   exact ⟨_,rfl,x,_,_,rfl,J.ax,(by kernel_rfl),_,rfl,q,_,1,.int h,rfl,rfl,SqT.of hq,rfl,_,rfl,q,_,2,.int z,rfl,rfl,SqT.of hq,rfl,x,A,s,h,z,rfl,J,G,Sm.of (by omega) (by omega),Sm.of (by omega) (by omega),k⟩
  | small =>
   replace hq:H q=some (.tup [.str "small"]):=hq
   refine ⟨_,rfl,q,_,0,.str "small",rfl,rfl,SqT.of hq,rfl,rfl,_,rfl,aQ (fun z=>absurd z (by decide +kernel)) (fun _=>?_)⟩
   refine ⟨_,rfl,q,_,0,.str "small",rfl,rfl,SqT.of hq,rfl,rfl,_,rfl,aQ (fun z=>absurd z (by decide +kernel)) (fun _=>?_)⟩
   refine ⟨_,rfl,q,_,0,.str "small",rfl,rfl,SqT.of hq,rfl,rfl,_,rfl,aQ (fun z=>absurd z (by decide +kernel)) (fun _=>?_)⟩
   refine ⟨_,rfl,q,_,0,.str "small",rfl,rfl,SqT.of hq,rfl,rfl,_,rfl,aQ (fun z=>absurd z (by decide +kernel)) (fun _=>?_)⟩
   refine ⟨_,rfl,q,_,0,.str "small",rfl,rfl,SqT.of hq,rfl,rfl,_,rfl,aQ (fun z=>absurd z (by decide +kernel)) (fun _=>?_)⟩
   refine ⟨_,rfl,q,_,0,.str "small",rfl,rfl,SqT.of hq,rfl,rfl,_,rfl,aQ (fun z=>absurd z (by decide +kernel)) (fun _=>?_)⟩
   refine ⟨_,rfl,q,_,0,.str "small",rfl,rfl,SqT.of hq,rfl,rfl,_,rfl,aQ (fun z=>absurd z (by decide +kernel)) (fun _=>?_)⟩
   refine ⟨_,rfl,q,_,0,.str "small",rfl,rfl,SqT.of hq,rfl,rfl,_,rfl,aQ (fun z=>absurd z (by decide +kernel)) (fun _=>?_)⟩
   refine ⟨_,rfl,q,_,0,.str "small",rfl,rfl,SqT.of hq,rfl,rfl,_,rfl,aQ (fun z=>absurd z (by decide +kernel)) (fun _=>?_)⟩
   refine ⟨_,rfl,q,_,0,.str "small",rfl,rfl,SqT.of hq,rfl,rfl,_,rfl,aQ (fun _=>?_) (fun z=>absurd (by decide +kernel) z)⟩
   exact ⟨_,rfl,x,_,_,rfl,J.ax,(by kernel_rfl),x,A,s,rfl,J,G,fun A' H' J' fr=>k A' H' J' fr⟩
  | turn =>
   replace hq:H q=some (.tup [.str "turn"]):=hq
   refine ⟨_,rfl,q,_,0,.str "turn",rfl,rfl,SqT.of hq,rfl,rfl,_,rfl,aQ (fun z=>absurd z (by decide +kernel)) (fun _=>?_)⟩
   refine ⟨_,rfl,q,_,0,.str "turn",rfl,rfl,SqT.of hq,rfl,rfl,_,rfl,aQ (fun z=>absurd z (by decide +kernel)) (fun _=>?_)⟩
   refine ⟨_,rfl,q,_,0,.str "turn",rfl,rfl,SqT.of hq,rfl,rfl,_,rfl,aQ (fun z=>absurd z (by decide +kernel)) (fun _=>?_)⟩
   refine ⟨_,rfl,q,_,0,.str "turn",rfl,rfl,SqT.of hq,rfl,rfl,_,rfl,aQ (fun z=>absurd z (by decide +kernel)) (fun _=>?_)⟩
   refine ⟨_,rfl,q,_,0,.str "turn",rfl,rfl,SqT.of hq,rfl,rfl,_,rfl,aQ (fun z=>absurd z (by decide +kernel)) (fun _=>?_)⟩
   refine ⟨_,rfl,q,_,0,.str "turn",rfl,rfl,SqT.of hq,rfl,rfl,_,rfl,aQ (fun z=>absurd z (by decide +kernel)) (fun _=>?_)⟩
   refine ⟨_,rfl,q,_,0,.str "turn",rfl,rfl,SqT.of hq,rfl,rfl,_,rfl,aQ (fun z=>absurd z (by decide +kernel)) (fun _=>?_)⟩
   refine ⟨_,rfl,q,_,0,.str "turn",rfl,rfl,SqT.of hq,rfl,rfl,_,rfl,aQ (fun z=>absurd z (by decide +kernel)) (fun _=>?_)⟩
   refine ⟨_,rfl,q,_,0,.str "turn",rfl,rfl,SqT.of hq,rfl,rfl,_,rfl,aQ (fun z=>absurd z (by decide +kernel)) (fun _=>?_)⟩
   refine ⟨_,rfl,q,_,0,.str "turn",rfl,rfl,SqT.of hq,rfl,rfl,_,rfl,aQ (fun z=>absurd z (by decide +kernel)) (fun _=>?_)⟩
   replace k:Fin D x A s H (Bb s) Q E:=k
   refine ⟨_,rfl,x,_,_,rfl,J.ax,(by kernel_rfl),x,A,s,rfl,J,_,rfl,?_⟩
   by_cases c:s.rnd=true
   ·rw [show Bb s=O9 s from if_pos c] at k
    exact FA c ⟨_,rfl,x,_,_,rfl,J.ax,(by kernel_rfl),x,A,s,rfl,J,Gs,k⟩
   ·rw [show Bb s=AQ s from if_neg c] at k
    exact nr (Bool.eq_false_iff.mpr c) ⟨_,rfl,x,_,_,rfl,J.ax,(by kernel_rfl),x,A,s,rfl,J,Gs,k⟩
theorem R3 (T:Txt K mg D) (fT:Ok0 P w K mg base 1 D.cG D.fL ["self"] (bZ "BadHand")) (fU:Ok0 P w K mg base 1 D.cH D.fM ["self"] (bZ "BadName")) (fg:Ok0 P w K mg base 1 D.b9 D.e9 ["self"] (bZ "BadField")) (fi:Ok0 P w K mg base 1 D.cb D.fe ["self"] (bZ "BadCount")) (gy:Ok0 P w K mg base 1 D.dq D.gu ["self"] (bZ "NoRoom")) (cX:Ok0 P w K mg base 1 D.bg D.cV ["self"] (bZ "TooManyWords")) (fV:Ok0 P w K mg base 1 D.cI D.fN ["self"] (bZ "RoundOn")) (fW:Ok0 P w K mg base 1 D.cJ D.fO ["self"] (bZ "NoRound")) (e:Er):(∃ cd,iX K (D.er e) cd∧cd.mro.contains (.ref D.aJ)=true)∧YI K (D.er e)∧Qx P w K mg base (CXE P w) 1 "called" (D.er e) (bZ (Nc e)):=by
 cases e with
 | hand=>exact ⟨T.Kc,T.j1.get,⟨_,_,_,T.Mf,fT.g,fT.b⟩⟩
 | name=>exact ⟨T.Kd,T.xW.get,⟨_,_,_,T.Mi,fU.g,fU.b⟩⟩
 | field=>exact ⟨T.HC,T.uf.get,⟨_,_,_,T.Kg,fg.g,fg.b⟩⟩
 | count=>exact ⟨T.HB,T.oW.get,⟨_,_,_,T.Kb,fi.g,fi.b⟩⟩
 | room=>exact ⟨T.Mn,T.Hj.get,⟨_,_,_,T.OA,gy.g,gy.b⟩⟩
 | words=>exact ⟨T.Bm,T.rC.get,⟨_,_,_,T.DP,cX.g,cX.b⟩⟩
 | on=>exact ⟨T.Kh,T.Ft.get,⟨_,_,_,T.Mq,fV.g,fV.b⟩⟩
 | no=>exact ⟨T.Ki,T.Fu.get,⟨_,_,_,T.Mt,fW.g,fW.b⟩⟩
def Jr (D:Ad):Sp:=fun vs H Q E=>∃ x A s q dd,vs=[.ref x,.ref q]∧IH D H x A s∧Gd s∧s.nxt<10000∧H q=some (.tup (Dd.its dd))∧dd.ok∧∀ A' H',IH D H' x A' (dDo s dd).2→Fr (aS x A s) H (aS x A' (dDo s dd).2) H'→Q (wdV (dDo s dd).1) H'
abbrev Kt:List Str:=["hall", "deed", "word", "e"]
theorem nz:av Kt ["hall", "deed"] (aq ud):=⟨rfl,rfl,rfl,by decide +kernel,rfl,by decide +kernel,by decide +kernel⟩
theorem Ie (F:Fun K "_law_done" "_law_done" ud D.gc D.j3) (T:Txt K mg D)
  (nA:Ok P w K mg base 9 D.fF D.kL ["hall", "deed"] (LG D))
  (fT:Ok0 P w K mg base 1 D.cG D.fL ["self"] (bZ "BadHand"))
  (fU:Ok0 P w K mg base 1 D.cH D.fM ["self"] (bZ "BadName"))
  (fg:Ok0 P w K mg base 1 D.b9 D.e9 ["self"] (bZ "BadField"))
  (fi:Ok0 P w K mg base 1 D.cb D.fe ["self"] (bZ "BadCount"))
  (gy:Ok0 P w K mg base 1 D.dq D.gu ["self"] (bZ "NoRoom"))
  (cX:Ok0 P w K mg base 1 D.bg D.cV ["self"] (bZ "TooManyWords"))
  (fV:Ok0 P w K mg base 1 D.cI D.fN ["self"] (bZ "RoundOn"))
  (fW:Ok0 P w K mg base 1 D.cJ D.fO ["self"] (bZ "NoRound")):Ok P w K mg base 10 D.gc D.j3 ["hall", "deed"] (Jr D):=by
 refine ⟨?_,F.binds (ps:=["hall", "deed"]) fun _ _ _ _ _ _ us hl=>match us,hl with|[_,_],_=>rfl⟩
 refine F.okE nz (fun vs H Q E h=>?_) (fun cdv A' outer s' H vs Q E hr h=>?_)
 ·obtain ⟨x,A,s,q,dd,rfl,_⟩:=h
  rfl
 ·obtain ⟨x,A,s,q,dd,rfl,J,Gs,hnx,hq,hok,k⟩:=h
  obtain ⟨cdH,xH⟩:=T.h
  refine ⟨_,(ao (bN (i:=2) nz.nd rfl (Or.inl rfl) j2)
   (ao (Yc (i:=3) rfl rfl rfl rfl T.mH xH nz.nd rfl rfl (fun pins E' EK hp=>ai (aH (aR nA.g (hr.mono (by decide)) rfl T.HI T.qW nA.b .nil hp (ab (pv 0) (ab (pv 1) ak))))) (fun ea=>ai (bN (i:=2) nz.nd rfl (Or.inl rfl) (show PE _ _ (Nv P w K mg base (CXE P w) 1 "called" (fun _ _ _ _=>False) (YA 3)) from Ox (k:=1) (CX:=CXE P w) (pv 3) ⟨(hr.r0 (show 1≤9 by decide)).dp,(hr.r0 (show 1≤9 by decide)).un⟩ A0))))
   (ai (aP (pv 2))))),?_⟩
  refine ⟨_,rfl,_,rfl,x,A,s,q,dd,rfl,J,Gs,hnx,hq,hok,fun A1 H1 J1 fr=>?_⟩
  cases e:(dDo s dd).1 with
  | none =>
   rw [e] at k
   exact ⟨_,rfl,k A1 H1 J1 fr⟩
  | some er =>
   rw [e] at k
   obtain ⟨⟨cd,xc,hm⟩,gt,md⟩:=R3 (P:=P) (w:=w) (base:=base) T fT fU fg fi gy cX fV fW er
   refine ⟨D.er er,cd,rfl,xc,hm,fun ea hea=>⟨.ref ea,rfl,false,ea,D.er er,bZ (Nc er),rfl,ah,gt,md,_,rfl,?_⟩⟩
   have s1:=aD.upd (o:=exo false (D.er er) ea none) hea
   exact ⟨_,rfl,k A1 _ (J1.same s1) (fr.trans (Fr.same s1))⟩
def rmA (hd:Int):Int:=([14,0,7,9,30,64]:List Int).getD (hd%6).toNat 0
def lmA (hd:Int):Int:=([400,60,120]:List Int).getD (hd/6%3).toNat 0
def rl (o:Option Int):Int×Int:=match o with
 | none=>(rmA 0,lmA 0)
 | some z=>(rmA (z/2%1000003),lmA (z/2%1000003))
theorem JK {hd:Int} (h:0≤hd):atI [V.int 14,V.int 0,V.int 7,V.int 9,V.int 30,V.int 64] (hd%6)=some (.int (rmA hd))∧(rmA hd=0∨(7≤rmA hd∧rmA hd≤64)):=by
 unfold rmA
 have h1:=Int.emod_nonneg hd (show (6:Int)≠0 by decide)
 have h2:=Int.emod_lt_of_pos hd (show (0:Int)<6 by decide)
 generalize hd%6=c at h1 h2
 rcases (show c=0∨c=1∨c=2∨c=3∨c=4∨c=5 by omega) with rfl|rfl|rfl|rfl|rfl|rfl<;>exact ⟨rfl,by decide⟩
theorem JL {hd:Int} (h:0≤hd):atI [V.int 400,V.int 60,V.int 120] (hd/6%3)=some (.int (lmA hd))∧7≤lmA hd∧lmA hd≤400:=by
 unfold lmA
 have h1:=Int.emod_nonneg (hd/6) (show (3:Int)≠0 by decide)
 have h2:=Int.emod_lt_of_pos (hd/6) (show (0:Int)<3 by decide)
 generalize hd/6%3=c at h1 h2
 rcases (show c=0∨c=1∨c=2 by omega) with rfl|rfl|rfl<;>exact ⟨rfl,by decide,by decide⟩
theorem abN (o:Option Int):((rl o).1=0∨(7≤(rl o).1∧(rl o).1≤64))∧7≤(rl o).2∧(rl o).2≤400:=by
 cases o with
 | none=>exact ⟨(JK (Int.le_refl _)).2,(JL (Int.le_refl _)).2⟩
 | some z=>exact ⟨(JK (Int.emod_nonneg _ (by decide))).2,(JL (Int.emod_nonneg _ (by decide))).2⟩
def NP (D:Ad) (K:W.Frag):Sp:=fun vs H Q _=>∃ (a:Addr) (ns:List Int),vs=[.ref a]∧SqL K H a (ns.map V.int)∧∀ x A room limit H',aD H H'→(∀ b,aS x A (s0 (decide (room>0)) room limit) b→H b=none)→IH D H' x A (s0 (decide (room>0)) room limit)→((room,limit)=rl (ns.head?))→Q (.ref x) H'
abbrev Ku:List Str:=["script", "head"]
theorem rj:av Ku ["script"] (aq ue):=⟨rfl,rfl,rfl,by decide +kernel,rfl,by decide +kernel,by decide +kernel⟩
theorem Ig (F:Fun K "_law_heap" "_law_heap" ue D.gL D.l7) (T:Txt K mg D)
  (gz:Ok P w K mg base 4 D.bV D.eP ["self", "young", "limit"] (vN D)):Ok P w K mg base 6 D.gL D.l7 ["script"] (NP D K):=by
 refine ⟨?_,F.binds (ps:=["script"]) fun _ _ _ _ _ _ us hl=>match us,hl with|[_],_=>rfl⟩
 refine F.okE rj (fun vs H Q E h=>?_) (fun cdv A' outer s' H vs Q E hr h=>?_)
 ·obtain ⟨a,ns,rfl,_⟩:=h
  rfl
 ·obtain ⟨a,ns,rfl,hS,k⟩:=h
  refine ⟨_,(PSs.nox (ao (bN (i:=1) rj.nd rfl (Or.inl rfl) ar)
   (ao (di (aW AV (fX gI rfl T.vq PyProof.Rows.Boot.«len» (ab (pv 0) ak)) ar (bJ _))
    (ai (bN (i:=1) rj.nd rfl (Or.inl rfl) (bR iI (bR mF (br ck (pv 0) ar (fun _ _=>rfl)) ar) ar)))
    bC)
   (ai (aP (Rt T.qU gz.g (hr.mono (by decide)) rfl T.HG gz.b .nil Ym (ab (br ck (hR (ab ar (ab ar (ab ar (ab ar (ab ar (ab ar ak))))))) (bR iI (pv 1) ar) (fun _ _=>rfl)) (ab (br ck (hR (ab ar (ab ar (ab ar ak)))) (bR iI (bR mF (pv 1) ar) ar) (fun _ _=>rfl)) ak)))))))),?_⟩
  refine lF fun N0 hN0=>?_
  refine hN0 _ _ ?_
  refine lF fun N hN=>?_
  have fin:∀ hd:Int,0≤hd→rl ns.head?=(rmA hd,lmA hd)→N [some (.ref a),some (.int hd)] H:=by
   intro hd h0 er
   refine hN _ _ ?_
   obtain ⟨hv1,y1⟩:=JK h0
   obtain ⟨hv2,y2,y3⟩:=JL h0
   refine ⟨by show 6≤sizeLine;decide,fun p hp=>⟨_,rfl,hd,6,rfl,rfl,(by show (0:Int)<6;decide),p,_,_,_,rfl,rfl,SqL.of ah,hv1,by show 3≤sizeLine;decide,fun q hq=>⟨_,rfl,hd,6,rfl,rfl,⟨by decide,by decide⟩,_,3,rfl,rfl,(by show (0:Int)<3;decide),q,_,_,_,rfl,rfl,SqL.of ah,hv2,?_⟩⟩⟩
   have a1:=(aD.upd (o:=.lst [V.int 14,V.int 0,V.int 7,V.int 9,V.int 30,V.int 64]) hp).trans (aD.upd (o:=.lst [V.int 400,V.int 60,V.int 120]) hq)
   intro x dx hx hdx nd
   refine ⟨x,dx,_,_,rfl,ah,y1,y2,y3,fun A H1 J0 B0 F0=>⟨rfl,?_⟩⟩
   refine k x A _ _ H1 (fun b u q=>?_) (fun b fb=>?_) J0 er.symm
   ·have q1:=a1 _ _ q
    exact B0 b u (au q1 hx) (by rw [af (au q1 hx),af (au q1 hdx)];exact q1)
   ·rcases F0 b fb with e|e
    ·rw [e];exact aD.none a1 hx
    ·refine aD.none a1 ?_
     by_cases c:b=x
     ·rw [c];exact hx
     ·by_cases c2:b=dx
      ·rw [c2];exact hdx
      ·rw [af c,af c2] at e;exact e
  refine ⟨_,rfl,a,_,rfl,.inl hS,_,0,rfl,rfl,_,rfl,aQ (fun h=>?_) (fun h=>?_)⟩
  ·have hl:0<ns.length:=by
    have:=of_decide_eq_true h
    rw [List.length_map] at this
    omega
   have h0:atI (ns.map V.int) 0=some (.int (ns[0]'hl)):=vA (j:=0) (by rw [List.getElem?_map,List.getElem?_eq_getElem hl];rfl)
   refine ⟨_,rfl,a,_,0,_,rfl,rfl,hS,h0,_,2,rfl,rfl,⟨by decide,by decide⟩,_,1000003,rfl,rfl,(by show (0:Int)<1000003;decide),?_⟩
   refine fin _ (Int.emod_nonneg _ (by decide)) ?_
   rw [show ns.head?=some ns[0] by rw [List.head?_eq_getElem?,List.getElem?_eq_getElem hl]]
   rfl
  ·have hl:ns=[]:=by
    cases ns with
    | nil=>rfl
    | cons z r=>exact absurd (decide_eq_true (by rw [List.length_map,List.length_cons];omega)) h
   exact fin 0 (Int.le_refl _) (by rw [hl];rfl)
def LH (K:W.Frag):Sp:=fun vs H Q _=>∃ (a:Addr) (ns:List Int) (m:Int),vs=[.ref a,.int m]∧SqL K H a (ns.map V.int)∧ns.length≤63∧∀ p dv H',aD H H'→H p=none→H' p=some (.lst dv)→dv.length≤203→(∀ v∈dv,∃ q dd,v=.ref q∧H' q=some (.tup (Dd.its dd))∧dd.ok)→Q (.ref p) H'
abbrev jB:List Str:=["script", "most", "deeds"]
theorem vP:av jB ["script", "most"] (aq bM):=⟨rfl,rfl,rfl,by decide +kernel,rfl,by decide +kernel,by decide +kernel⟩
theorem Gv (F:Fun K "_law_deeds" "_law_deeds" bM D.cM D.kM) (T:Txt K mg D)
  (pq:Ok P w K mg base 1 D.gK D.lZ ["number"] (NO))
  (kH:Ok P w K mg base 2 D.dX D.i8 ["script", "most"] (FE K)):Ok P w K mg base 3 D.cM D.kM ["script", "most"] (LH K):=by
 refine ⟨?_,F.binds (ps:=["script", "most"]) fun _ _ _ _ _ _ us hl=>match us,hl with|[_,_],_=>rfl⟩
 refine F.okE vP (fun vs H Q E h=>?_) (fun cdv A' outer s' H vs Q E hr h=>?_)
 ·obtain ⟨a,ns,m,rfl,_⟩:=h
  rfl
 ·obtain ⟨a,ns,m,rfl,hS,hlen,k⟩:=h
  have hh0:∃ es p q1 q2,(bS bM).getD 0 (.Pass ⟨0,0,0,0⟩)=.Assign [.Name "deeds" q1] (.List es p) q2∧∃ e0 e1 e2,es=[e0,e1,e2]∧(PE (cxE P w K mg base jB "_law_deeds" (aq bM) D.cM cdv A' outer s' H E).nox e0 (UP (rq (tC (.str "make")) (rq (tC (.int 0)) (rq (tC (.int 3)) O5))))∧nsE e0=true)∧(PE (cxE P w K mg base jB "_law_deeds" (aq bM) D.cM cdv A' outer s' H E).nox e1 (UP (rq (tC (.str "make")) (rq (tC (.int 1)) (rq (tC (.int 2)) O5))))∧nsE e1=true)∧(PE (cxE P w K mg base jB "_law_deeds" (aq bM) D.cM cdv A' outer s' H E).nox e2 (UP (rq (tC (.str "make")) (rq (tC (.int 2)) (rq (tC (.int 2)) O5))))∧nsE e2=true):=⟨_,_,_,_,rfl,_,_,_,rfl,⟨fI (iJ bq (iJ ar (iJ ar ak))),rfl⟩,⟨fI (iJ bq (iJ ar (iJ ar ak))),rfl⟩,⟨fI (iJ bq (iJ ar (iJ ar ak))),rfl⟩⟩
  have S1:PS (cxE P w K mg base jB "_law_deeds" (aq bM) D.cM cdv A' outer s' H E).nox ((bS bM).getD 1 (.Pass ⟨0,0,0,0⟩)) _:=(aP (bR sJ (pv 2) (Bl (cl:=[]) (x := "number") (idx:=[]) (NC:=["number"]) (by exact pW (sc:=aq bM) (N:=jB) (ns:=[]) rfl rfl rfl (by decide +kernel) rfl rfl (by intro q hq;cases hq)) rfl (pS (aR kH.g (hr.mono (by decide)) rfl T.EE T.nU kH.b .nil eJ (ab (pv 0) (ab (pv 1) ak)))) (fun C fp s₀ H₀=>(aR pq.g (hr.mono (by decide)) rfl T.Kj T.ug pq.b .nil A0 (ab (pv 0) ak))))))
  have hb:bS bM=[(bS bM).getD 0 (.Pass ⟨0,0,0,0⟩),(bS bM).getD 1 (.Pass ⟨0,0,0,0⟩)]:=rfl
  generalize (bS bM).getD 0 (.Pass ⟨0,0,0,0⟩)=st0 at hh0 hb
  have S0:=Yk (i:=2) hh0 vP.nd rfl (Or.inl rfl) (.inl rfl)
  generalize (bS bM).getD 1 (.Pass ⟨0,0,0,0⟩)=st1 at S1 hb
  generalize bS bM=bd at hb ⊢
  subst hb
  refine ⟨_,(PSs.nox (ao S0 (ai S1))),?_⟩
  refine ⟨by show 3≤sizeLine;decide,fun t1 h1=>⟨by show 3≤sizeLine;decide,fun t2 h2=>⟨by show 3≤sizeLine;decide,fun t3 h3=>⟨by show 3≤sizeLine;decide,fun l0 hl0=>?_⟩⟩⟩⟩
  have a7:=aD.upd (o:=.tup (Dd.its (.make 0 3))) h1
  have a8:=aD.upd (o:=.tup (Dd.its (.make 1 2))) h2
  have a9:=aD.upd (o:=.tup (Dd.its (.make 2 2))) h3
  have a10:=aD.upd (o:=.lst [V.ref t1,V.ref t2,V.ref t3]) hl0
  have c9:=a9.trans a10
  have c8:=a8.trans c9
  have c7:=a7.trans c8
  have zl0:=fK a10
  have zt1:=c8 _ _ (ah (o:=.tup (Dd.its (.make 0 3))))
  have zt2:=c9 _ _ (ah (o:=.tup (Dd.its (.make 1 2))))
  have zt3:=a10 _ _ (ah (o:=.tup (Dd.its (.make 2 2))))
  refine ⟨_,rfl,_,rfl,_,rfl,a,ns,m,rfl,c7.seq hS,hlen,fun pz zs Hn sn hz0 hz lz bz=>⟨pz,rfl,⟨_,SqL.of hz⟩,fun Dl hDl=>?_⟩⟩
  refine qk (K:=K) (a:=pz) (xs:=zs.map V.int) (fun i ys Hc=>ys.length=i∧aD Hn Hc∧Hc Dl=some (.lst ys)∧∀ v∈ys,∃ q dd,v=.ref q∧Hc q=some (.tup (Dd.its dd))∧dd.ok) ⟨rfl,aD.upd hDl,ah,fun v hv=>by cases hv⟩ (fun i ys Hc _ ⟨e,_,z,_⟩=>⟨z,e⟩) (fun i ys Hc _ ⟨_,sc,_⟩=>SqL.of (sc _ _ hz)) (oa (by rw [List.length_map];omega)) (fun i v ys Hc hi ⟨e,sc,z,hv⟩=>?_) (fun ys Hc ⟨e,sc,z,hv⟩=>?_)
  ·obtain ⟨y,my,rfl⟩:=List.mem_map.mp (List.mem_of_getElem? hi)
   obtain ⟨y0,y1⟩:=bz y my
   refine ⟨_,rfl,y,rfl,y0,y1,fun q dd H4 s4 hq0 hq ok=>⟨s4 _ _ z,by rw [List.length_append,e];rfl,fun b u g=>by rw [af (au g hDl)];exact s4 _ _ (sc b u g),ah,fun v m=>?_⟩⟩
   have tk:fD H4 (upd H4 Dl (.lst (ys++[V.ref q]))):=fD.set (s4 _ _ z) (fun _ w=>nomatch w)
   rcases List.mem_append.mp m with m|m
   ·obtain ⟨q',dd',e',hq',ok'⟩:=hv v m
    exact ⟨q',dd',e',tk _ _ (s4 _ _ hq'),ok'⟩
   ·rw [List.mem_singleton.mp m]
    exact ⟨q,dd,rfl,tk _ _ hq,ok⟩
  ·have snc:=sn.trans sc
   have ly:ys.length≤200:=by rw [e,List.length_map];exact lz
   refine ⟨l0,Dl,_,_,rfl,rfl,SqL.of (snc _ _ zl0),SqL.of z,oa (by show 3+ys.length≤20000;omega),fun ld hld=>?_⟩
   have b1:=aD.upd (o:=.lst ([V.ref t1,V.ref t2,V.ref t3]++ys)) hld
   have sf:=snc.trans b1
   refine k ld _ _ (c7.trans sf) (aD.none (c7.trans snc) hld) ah (by rw [List.length_append];show 3+ys.length≤203;omega) fun v m=>?_
   rcases List.mem_append.mp m with m|m
   ·simp only [List.mem_cons,List.not_mem_nil,or_false] at m
    rcases m with rfl|rfl|rfl
    ·exact ⟨t1,_,rfl,sf _ _ zt1,⟨by decide,by decide⟩,by decide,by decide⟩
    ·exact ⟨t2,_,rfl,sf _ _ zt2,⟨by decide,by decide⟩,by decide,by decide⟩
    ·exact ⟨t3,_,rfl,sf _ _ zt3,⟨by decide,by decide⟩,by decide,by decide⟩
   ·obtain ⟨q',dd',e',hq',ok'⟩:=hv v m
    exact ⟨q',dd',e',b1 _ _ hq',ok'⟩
theorem Good.names {s:HS} (g:Good s) {w:Nat} {t:Int} {ws:List Wd} (m:(t,ws)∈s.aN):Good {s with names:=s.names.set w (some t)} :=
 ⟨g.h8,by show (s.names.set _ _).length=8;rw [List.length_set];exact g.n8,g.asc,g.lt,g.f6,g.hh,g.ff,fun u m'=>(ot m').elim (g.nn u) (fun e=>by injection e with e;rw [e];exact ⟨ws,m⟩),g.b12,g.bk,g.bnd,g.n0,g.nx,g.sd,g.yk,g.Dw,g.dk,g.EB⟩
theorem OF {bs:List (Int×Int)} {t x:Int}:(Hl bs t x).map (·.1)=if (bs.lookup t).isSome=true then bs.map (·.1) else bs.map (·.1)++[t]:=by
 unfold Hl
 by_cases c:(bs.lookup t).isSome=true
 ·rw [if_pos c,if_pos c,List.map_map]
  refine List.map_congr_left fun p hp=>?_
  show (if p.1=t then (t,x) else p).1=p.1
  by_cases e:p.1=t
  ·rw [if_pos e];exact e.symm
  ·rw [if_neg e]
 ·rw [if_neg c,if_neg c,List.map_append]
  rfl
theorem Good.bp {s:HS} (g:Good s) {t x:Int} {ws:List Wd} (m:(t,ws)∈s.aN) (c:¬(s.bp.lookup t=none∧12≤s.bp.length)):Good {s with bp:=Hl s.bp t x}:=by
 have kl:=OF (bs:=s.bp) (t:=t) (x:=x)
 have ln:=congrArg List.length kl
 have mm:∀ u,u∈(Hl s.bp t x).map (·.1)→u∈s.bp.map (·.1)∨u=t:=fun u h=>by
  rw [kl] at h
  split at h
  ·exact .inl h
  ·rcases List.mem_append.mp h with h|h
   ·exact .inl h
   ·exact .inr (List.mem_singleton.mp h)
 refine ⟨g.h8,g.n8,g.asc,g.lt,g.f6,g.hh,g.ff,g.nn,?_,fun u y h=>?_,?_,g.n0,g.nx,g.sd,g.yk,g.Dw,g.dk,g.EB⟩
 ·show (Hl s.bp t x).length≤12
  rw [List.length_map] at ln
  rw [ln]
  by_cases q:(s.bp.lookup t).isSome=true
  ·rw [if_pos q,List.length_map];exact g.b12
  ·rw [if_neg q,List.length_append,List.length_map,List.length_singleton]
   have:s.bp.lookup t=none:=by
    cases e:s.bp.lookup t with
    | none=>rfl
    | some v=>rw [e] at q;exact absurd rfl q
   have:¬12≤s.bp.length:=fun z=>c ⟨this,z⟩
   omega
 ·rcases mm u (List.mem_map.mpr ⟨_,h,rfl⟩) with h|rfl
  ·obtain ⟨p,hp,rfl⟩:=List.mem_map.mp h
   exact g.bk p.1 p.2 hp
  ·exact ⟨ws,m⟩
 ·show ((Hl s.bp t x).map (·.1)).Nodup
  rw [kl]
  by_cases q:(s.bp.lookup t).isSome=true
  ·rw [if_pos q];exact g.bnd
  ·rw [if_neg q,List.nodup_append]
   refine ⟨g.bnd,List.pairwise_singleton _ _,fun a ma b mb e=>?_⟩
   rw [List.mem_singleton.mp mb] at e
   subst e
   obtain ⟨p,hp,rfl⟩:=List.mem_map.mp ma
   refine q ?_
   rw [mem_lookup (w:=p.2) g.bnd hp]
   rfl
theorem Hs {fs:List (Int×List Wd)} {t:Int} {ws:List Wd}:(tV fs t ws).map (·.1)=fs.map (·.1):=by
 unfold tV
 rw [List.map_map]
 refine List.map_congr_left fun p hp=>?_
 show (if p.1=t then (t,ws) else p).1=p.1
 by_cases e:p.1=t
 ·rw [if_pos e];exact e.symm
 ·rw [if_neg e]
theorem P8 {fs:List (Int×List Wd)} {t u:Int} {ws w:List Wd} (m:(u,w)∈fs):∃ w',(u,w')∈tV fs t ws:=by
 have:u∈(tV fs t ws).map (·.1):=by rw [Hs];exact List.mem_map.mpr ⟨_,m,rfl⟩
 obtain ⟨p,hp,rfl⟩:=List.mem_map.mp this
 exact ⟨p.2,hp⟩
theorem Bc {fs:List (Int×List Wd)} {t u:Int} {ws w:List Wd} (m:(u,w)∈tV fs t ws):(u,w)∈fs∨(w=ws∧∃ w0,(u,w0)∈fs):=by
 obtain ⟨p,hp,e⟩:=List.mem_map.mp m
 by_cases c:p.1=t
 ·rw [if_pos c] at e
  cases e
  exact .inr ⟨rfl,p.2,by rw [←c];exact hp⟩
 ·rw [if_neg c] at e
  subst e
  exact .inl hp
theorem Good.tV {s:HS} (g:Good s) {t:Int} {ws:List Wd} (l6:ws.length≤6) (c:∀ u,Wd.th u∈ws→∃ w,(u,w)∈s.aN):Good {s with aN:=tV s.aN t ws}:=by
 have hs:∀ u,(∃ w,(u,w)∈s.aN)→∃ w,(u,w)∈K12.tV s.aN t ws:=fun u ⟨w,m⟩=>P8 m
 refine ⟨g.h8,g.n8,by show ((K12.tV s.aN t ws).map (·.1)).Pairwise _;rw [Hs];exact g.asc,fun u w m=>?_,fun u w m=>?_,fun u m=>hs u (g.hh u m),fun u w v m mv=>?_,fun u m=>hs u (g.nn u m),g.b12,fun u y m=>hs u (g.bk u y m),g.bnd,g.n0,g.nx,?_,fun u m=>hs u (g.yk u m),g.Dw,fun u m=>hs u (g.dk u m),g.EB⟩
 ·rcases Bc m with m|⟨_,w0,m⟩
  ·exact g.lt u w m
  ·exact g.lt u w0 m
 ·rcases Bc m with m|⟨rfl,w0,m⟩
  ·exact g.f6 u w m
  ·exact l6
 ·rcases Bc m with m|⟨rfl,w0,m⟩
  ·exact hs v (g.ff u w v m mv)
  ·exact hs v (c v mv)
 ·show (s.qb.length:Int)+((K12.tV s.aN t ws).length:Int)≤s.nxt
  unfold K12.tV
  rw [List.length_map]
  exact g.sd
theorem Good.adU {s:HS} (g:Good s) {h n:Int} (n6:n≤6) (few:s.nxt<10000):Good (oh s h n):=by
 have hs:∀ u,(∃ w,(u,w)∈s.aN)→∃ w,(u,w)∈s.aN++[(s.nxt,List.replicate n.toNat Wd.no)]:=fun u ⟨w,m⟩=>⟨w,List.mem_append_left _ m⟩
 have mm:∀ {u:Int} {w:List Wd},(u,w)∈s.aN++[(s.nxt,List.replicate n.toNat Wd.no)]→(u,w)∈s.aN∨(u=s.nxt∧w=List.replicate n.toNat Wd.no):=fun m=>by
  rcases List.mem_append.mp m with m|m
  ·exact .inl m
  ·cases List.mem_singleton.mp m;exact .inr ⟨rfl,rfl⟩
 have my:∀ u∈(oh s h n).yng,u∈s.yng∨u=s.nxt:=fun u m=>by
  have m:u∈(if s.my=true then s.yng++[s.nxt] else s.yng):=m
  split at m
  ·exact (List.mem_append.mp m).imp id fun z=>List.mem_singleton.mp z
  ·exact .inl m
 refine ⟨by show (s.bK.set _ _).length=8;rw [List.length_set];exact g.h8,g.n8,?_,fun u w m=>?_,fun u w m=>?_,fun u m=>?_,fun u w v m mv=>?_,fun u m=>hs u (g.nn u m),g.b12,fun u y m=>hs u (g.bk u y m),g.bnd,by show 0≤s.nxt+1;have:=g.n0;omega,by show s.nxt+1≤10000;omega,?_,fun u m=>?_,?_,fun u m=>hs u (g.dk u m),g.EB⟩
 ·show ((s.aN++[(s.nxt,List.replicate n.toNat Wd.no)]).map (·.1)).Pairwise _
  rw [List.map_append,List.pairwise_append]
  refine ⟨g.asc,List.pairwise_singleton _ _,fun a ma b mb=>?_⟩
  obtain ⟨p,hp,rfl⟩:=List.mem_map.mp ma
  obtain rfl:b=s.nxt:=by simpa using mb
  exact (g.lt p.1 p.2 hp).2
 ·show 0≤u∧u<s.nxt+1
  have:=g.n0
  rcases mm m with m|⟨e,_⟩
  ·have:=g.lt u w m;omega
  ·omega
 ·rcases mm m with m|⟨_,e⟩
  ·exact g.f6 u w m
  ·rw [e,List.length_replicate];omega
 ·rcases ot m with m|e
  ·exact hs u (g.hh u m)
  ·injection e with e
   exact ⟨_,List.mem_append_right _ (List.mem_singleton.mpr (by rw [e]))⟩
 ·rcases mm m with m|⟨_,e⟩
  ·exact hs v (g.ff u w v m mv)
  ·rw [e] at mv
   cases List.eq_of_mem_replicate mv
 ·show (s.qb.length:Int)+((s.aN++[(s.nxt,List.replicate n.toNat Wd.no)]).length:Int)≤s.nxt+1
  rw [List.length_append,List.length_singleton]
  have:=g.sd
  omega
 ·rcases my u m with m|e
  ·exact hs u (g.yk u m)
  ·exact ⟨_,List.mem_append_right _ (List.mem_singleton.mpr (by rw [e]))⟩
 ·show (if s.my=true then s.yng++[s.nxt] else s.yng).Pairwise _
  split
  ·rw [List.pairwise_append]
   refine ⟨g.Dw,List.pairwise_singleton _ _,fun a ma b mb=>?_⟩
   obtain rfl:b=s.nxt:=by simpa using mb
   obtain ⟨ws,m⟩:=g.yk a ma
   exact (g.lt a ws m).2
  ·exact g.Dw
theorem Gd.put {s:HS} (d:Gd s) {h:Int} {w:Wd} (c:∀ t,w=.th t→(∃ ws,(t,ws)∈s.aN)∧t∉s.dI):Gd (qr s h w) :=
 ⟨d.g.put fun t e=>(c t e).1,d.dy,fun t m=>(ot m).elim (d.dh t) (fun e=>(c t e.symm).2),d.df,d.rd⟩
theorem Gd.add {s:HS} (d:Gd s) {h n:Int} (n6:n≤6) (few:s.nxt<10000):Gd (oh s h n) where
 g:=d.g.adU n6 few
 dy:=fun t m=>by
  obtain ⟨ws,mt⟩:=d.g.dk t m
  have lt:=(d.g.lt t ws mt).2
  show t∉(if s.my=true then s.yng++[s.nxt] else s.yng)
  split
  ·intro z
   rcases List.mem_append.mp z with z|z
   ·exact d.dy t m z
   ·have:=List.mem_singleton.mp z;omega
  ·exact d.dy t m
 dh:=fun t m=>(ot m).elim (d.dh t) fun e=>by
  injection e with e
  intro z
  obtain ⟨ws,mt⟩:=d.g.dk t z
  have:=(d.g.lt t ws mt).2
  omega
 df:=fun u ws t m hu h=>by
  rcases List.mem_append.mp m with m|m
  ·exact d.df u ws t m hu h
  ·cases List.mem_singleton.mp m
   cases List.eq_of_mem_replicate h
 rd:=d.rd
theorem Gd.tV {s:HS} (d:Gd s) {t:Int} {ws:List Wd} (l6:ws.length≤6) (c:∀ u,Wd.th u∈ws→(∃ w,(u,w)∈s.aN)∧u∉s.dI):Gd {s with aN:=tV s.aN t ws} where
 g:=d.g.tV l6 fun u m=>(c u m).1
 dy:=d.dy
 dh:=d.dh
 df:=fun u w v m hu h=>by
  rcases Bc m with m|⟨e,_⟩
  ·exact d.df u w v m hu h
  ·rw [e] at h;exact (c v h).2
 rd:=d.rd
theorem Gd.hnd {s:HS} (d:Gd s) {h:Int} {w:Wd} (e:wat s.bK h=some w):∀ t,w=.th t→(∃ ws,(t,ws)∈s.aN)∧t∉s.dI:=fun t z=>by
 have m:=List.mem_of_getElem? (qH e).2.2
 rw [z] at m
 exact ⟨d.g.hh t m,d.dh t m⟩
theorem NQ {s:HS} {n:Option Int}:(rdR s n).nxt=s.nxt:=by
 unfold rdR
 split
 ·split<;>rfl
 ·rfl
theorem abO {s:HS} (d:Gd s) (few:s.nxt<10000) {dd:Dd} (ok:dd.ok):Gd (dDo s dd).2∧s.nxt≤(dDo s dd).2.nxt∧(dDo s dd).2.nxt≤s.nxt+1:=by
 have same:Gd s∧s.nxt≤s.nxt∧s.nxt≤s.nxt+1:=⟨d,Int.le_refl _,by omega⟩
 cases dd with
 | make h n =>
  show Gd (fz s h n).2∧s.nxt≤(fz s h n).2.nxt∧(fz s h n).2.nxt≤s.nxt+1
  unfold fz
  split
  ·split
   ·split
    ·exact ⟨d.mkd,by rw [vO];exact Int.le_refl _,by rw [vO];omega⟩
    ·exact ⟨d.mkd.add ok.2.2 (by rw [vO];exact few),by show s.nxt≤(mkR s n).nxt+1;rw [vO];omega,by show (mkR s n).nxt+1≤s.nxt+1;rw [vO];exact Int.le_refl _⟩
   ·exact same
  ·exact same
 | store g k h =>
  show Gd (iL s g k h).2∧s.nxt≤(iL s g k h).2.nxt∧(iL s g k h).2.nxt≤s.nxt+1
  unfold iL
  split
  ·rename_i t e
   split
   ·rename_i w e2
    split
    ·rename_i c
     have m:=d.g.hand e
     refine ⟨d.tV (by rw [List.length_set];exact d.g.f6 _ _ m) (fun u hu=>?_),Int.le_refl _,by show s.nxt≤s.nxt+1;omega⟩
     rcases ot hu with hu|hu
     ·exact ⟨d.g.ff _ _ _ m hu,d.df _ _ _ m ((d.hnd e t rfl).2) hu⟩
     ·exact d.hnd e2 u hu.symm
    ·exact same
   ·exact same
  ·exact same
 | load h g k =>
  show Gd (lP s h g k).2∧s.nxt≤(lP s h g k).2.nxt∧(lP s h g k).2.nxt≤s.nxt+1
  unfold lP
  split
  ·split
   ·rename_i t e
    split
    ·rename_i c
     have m:=d.g.hand e
     refine ⟨d.put fun u hu=>?_,Int.le_refl _,by show s.nxt≤s.nxt+1;omega⟩
     have hi:k.toNat<(fld s t).length:=by omega
     have hm:Wd.th u∈fld s t:=by rw [←hu,List.getD_eq_getElem?_getD,List.getElem?_eq_getElem hi];exact List.getElem_mem hi
     exact ⟨d.g.ff _ _ _ m hm,d.df _ _ _ m ((d.hnd e t rfl).2) hm⟩
    ·exact same
   ·exact same
  ·exact same
 | copy h g =>
  show Gd (rJ s h g).2∧s.nxt≤(rJ s h g).2.nxt∧(rJ s h g).2.nxt≤s.nxt+1
  unfold rJ
  split
  ·split
   ·rename_i w e
    exact ⟨d.put (d.hnd e),Int.le_refl _,by show s.nxt≤s.nxt+1;omega⟩
   ·exact same
  ·exact same
 | drop h =>
  show Gd (vt s h).2∧s.nxt≤(vt s h).2.nxt∧(vt s h).2.nxt≤s.nxt+1
  unfold vt
  split
  ·exact ⟨d.put (fun t e=>by cases e),Int.le_refl _,by show s.nxt≤s.nxt+1;omega⟩
  ·exact same
 | number h x =>
  show Gd (jd s h x).2∧s.nxt≤(jd s h x).2.nxt∧(jd s h x).2.nxt≤s.nxt+1
  unfold jd
  split
  ·split
   ·exact ⟨d.put (fun t e=>by cases e),Int.le_refl _,by show s.nxt≤s.nxt+1;omega⟩
   ·exact same
  ·exact same
 | name w h =>
  show Gd (nj s w h).2∧s.nxt≤(nj s w h).2.nxt∧(nj s w h).2.nxt≤s.nxt+1
  unfold nj
  split
  ·rename_i t e
   split
   ·exact ⟨⟨d.g.names (d.g.hand e),d.dy,d.dh,d.df,d.rd⟩,Int.le_refl _,by show s.nxt≤s.nxt+1;omega⟩
   ·exact same
  ·exact same
 | read h w =>
  show Gd (lS s h w).2∧s.nxt≤(lS s h w).2.nxt∧(lS s h w).2.nxt≤s.nxt+1
  unfold lS
  split
  ·split
   ·rename_i c2
    refine ⟨?_,by rw [NQ];exact Int.le_refl _,by rw [NQ];show s.nxt≤s.nxt+1;omega⟩
    have hi:w.toNat<s.names.length:=by rw [d.g.n8];omega
    have gd:s.names.getD w.toNat none=s.names[w.toNat]:=by simp [List.getD,hi]
    have mm:s.names[w.toNat]∈s.names:=List.getElem_mem hi
    rw [←gd] at mm
    cases e:s.names.getD w.toNat none with
    | none=>exact d.put (fun t e=>by cases e)
    | some t =>
     rw [e] at mm
     obtain ⟨ws,m⟩:=d.g.nn t mm
     show Gd (if t∈(qr s h (.th t)).dI then qK (qr s h (.th t)) t else qr s h (.th t))
     have g2:Good (qr s h (.th t)):=d.g.put fun u z=>by cases z;exact ⟨ws,m⟩
     by_cases c:t∈s.dI
     ·rw [if_pos (show t∈(qr s h (.th t)).dI from c)]
      refine Gd.abL ⟨g2,d.dy,d.df,d.rd⟩ c fun u hu=>?_
      rcases ot hu with hu|hu
      ·exact .inr (d.dh u hu)
      ·injection hu with hu;exact .inl hu
     ·rw [if_neg (show ¬t∈(qr s h (.th t)).dI from c)]
      exact d.put fun u z=>by cases z;exact ⟨⟨ws,m⟩,c⟩
   ·exact same
  ·exact same
 | word h x =>
  show Gd (lQ s h x).2∧s.nxt≤(lQ s h x).2.nxt∧(lQ s h x).2.nxt≤s.nxt+1
  unfold lQ
  split
  ·rename_i t e
   split
   ·split
    ·exact same
    ·rename_i c
     exact ⟨⟨d.g.bp (d.g.hand e) c,d.dy,d.dh,d.df,d.rd⟩,Int.le_refl _,by show s.nxt≤s.nxt+1;omega⟩
   ·exact same
  ·exact same
 | small=>exact ⟨d.small,Int.le_refl _,by show s.nxt≤s.nxt+1;omega⟩
 | turn =>
  show Gd (Bb s).2∧s.nxt≤(Bb s).2.nxt∧(Bb s).2.nxt≤s.nxt+1
  unfold Bb
  split
  ·rename_i c
   rw [show O9 s=(none,RX s) from if_pos c]
   exact ⟨d.fin,Int.le_refl _,by show s.nxt≤s.nxt+1;omega⟩
  ·rename_i c
   rw [show AQ s=(none,QE (jz s)) from if_neg c]
   exact ⟨d.small.beg rfl,Int.le_refl _,by show s.nxt≤s.nxt+1;omega⟩
theorem gd0 {my:Bool} {room limit:Int}:Gd (s0 my room limit):=⟨good0,(fun t m=>nomatch m),(fun t _ m=>nomatch m),(fun u ws t m=>nomatch m),fun _=>rfl⟩
def O1 (K:W.Frag):Sp:=fun vs H Q _=>∃ (a:Addr) (ns:List Int),vs=[.ref a]∧SqL K H a (ns.map V.int)∧ns.length≤63∧∀ H',Q (.bl true) H'
open Classical in
noncomputable def res (H:Hp) (F:Addr→Prop):Hp:=fun b=>if F b∧(∀ us,H b≠some (.tup us)) then none else H b
def Ex (H:Hp) (b:Addr):Prop:=∃ u,H b=some u
def ExL (H:Hp) (L b:Addr):Prop:=Ex H b∨b=L
theorem res_some {H:Hp} {F:Addr→Prop} {b:Addr} {u:HO} (h:res H F b=some u):H b=some u∧(¬F b∨∃ us,u=.tup us):=by
 unfold res at h
 split at h
 ·cases h
 ·rename_i c
  refine ⟨h,Classical.byContradiction fun z=>c ⟨Classical.byContradiction fun y=>z (.inl y),fun us q=>z (.inr ⟨us,?_⟩)⟩⟩
  rw [h] at q
  exact Option.some.inj q
theorem sV {H:Hp} {F:Addr→Prop} {b:Addr} {u:HO} (h:H b=some u) (c:¬F b∨∃ us,u=.tup us):res H F b=some u:=by
 unfold res
 rw [if_neg]
 ·exact h
 ·rintro ⟨f,n⟩
  rcases c with c|⟨us,rfl⟩
  ·exact c f
  ·exact n us h
theorem j0 {H:Hp} {F:Addr→Prop}:aD (res H F) H:=fun _ _ q=>(res_some q).1
theorem NR {H:Hp} {F:Addr→Prop}:fD H (res H F):=fun _ us q=>sV q (.inr ⟨us,rfl⟩)
theorem Bd {H H':Hp} {F:Addr→Prop} (s:aD H H'):aD (res H F) (res H' F):=fun b u q=>sV (s _ _ (res_some q).1) (res_some q).2
theorem LI {H:Hp} {F F':Addr→Prop} (h:∀ b,F' b→F b):aD (res H F) (res H F'):=fun b u q=>sV (res_some q).1 ((res_some q).2.imp (fun n f=>n (h b f)) id)
theorem LJ {H H':Hp} {F F':Addr→Prop} (fr:Fr F H F' H'):aD (res H F) (res H' F'):=fun b u q=>by
 obtain ⟨h,c⟩:=res_some q
 rcases c with c|⟨us,rfl⟩
 ·have:=fr.out c h
  exact sV this.1 (.inl this.2)
 ·exact sV (fr.tup _ _ h) (.inr ⟨us,rfl⟩)
theorem vQ {H H':Hp} {b:Addr} {u:HO} (h:H b=none) (q:H' b=some u):res H' (Ex H) b=some u:=sV q (.inl fun ⟨_,z⟩=>by rw [h] at z;cases z)
theorem NS {H:Hp} {n:Nat} {p:Addr} {us:List V} {xs:List Vl} (h:H p=some (.lst us)) (l:us.length=xs.length) (k:∀ (i:Nat) (u:V) (x:Vl),us[i]?=some u→xs[i]?=some x→Rp H n u x):Rp H (n+1) (.ref p) (.l xs):=⟨p,us,rfl,h,l,k⟩
theorem aca {H:Hp} {n:Nat} {p:Addr} {us:List V} {xs:List Vl} (h:H p=some (.tup us)) (l:us.length=xs.length) (k:∀ (i:Nat) (u:V) (x:Vl),us[i]?=some u→xs[i]?=some x→Rp H n u x):Rp H (n+1) (.ref p) (.t xs):=⟨p,us,rfl,h,l,k⟩
theorem Nd {α:Type} {H:Hp} {n:Nat} {p:Addr} {l:List α} {f:α→V} (g:α→Vl) (h:H p=some (.lst (l.map f))) (k:∀ z∈l,Rp H n (f z) (g z)):Rp H (n+1) (.ref p) (.l (l.map g)):=NS h (by rw [List.length_map,List.length_map]) fun i u x h1 h2=>by
 rw [List.getElem?_map] at h1 h2
 obtain ⟨z,hz,rfl⟩:=Option.map_eq_some_iff.mp h1
 rw [hz] at h2
 cases h2
 exact k z (List.mem_of_getElem? hz)
theorem QH {H:Hp} {p:Addr} {xs:List V} {ws:List Wd} (h:H p=some (.lst xs)) (r:Rel H xs ws):Rp H 2 (.ref p) (.l (ws.map Wd.vl)):=NS h (by rw [List.length_map];exact r.1) fun i u x h1 h2=>by
 rw [List.getElem?_map] at h2
 obtain ⟨w,hw,rfl⟩:=Option.map_eq_some_iff.mp h2
 exact (r.2 i u w h1 hw).rp
theorem JM {H:Hp} {v:V} {a:Vl}:∀ (k:Nat) {n:Nat},Rp H n v a→Rp H (n+k) v a
 | 0,_,h=>h
 | k+1,_,h=>(JM k h).up
def LL (s:HS) (t:Int):Vl:=.t [.a (.int t),.l ((fld s t).map Wd.vl),.a (.bl (decide (t∉s.yng))),.a (nmV (s.bp.lookup t))]
def Q9 (s:HS):List Vl:=[.l (s.bK.map Wd.vl),.l (s.names.map fun n=>.a (nmV n)),.l ((keys s).map (LL s)),.l (s.dI.map fun t=>.a (.int t)),.l (s.qb.map fun t=>.a (.int t)),.a (.int s.nxt),.a (.bl s.rnd)]
def told (s:HS):Vl:=.l (Q9 s)
theorem fla {H:Hp} {n:Nat} {o:Option Int}:Rp H n (nmV o) (.a (nmV o)):=Rp.flat (by cases o<;>rfl)
theorem fli {H:Hp} {n:Nat} {t:Int}:Rp H n (.int t) (.a (.int t)):=Rp.flat rfl
def Ht (D:Ad):Sp:=fun vs H Q _=>∃ x A s,vs=[.ref x]∧IH D H x A s∧Good s∧(∀ p H',aD H H'→H p=none→H' p=some (.lst A.hx)→Q (.ref p) H')
abbrev yY:List Str:=["self"]
theorem wC:av yY ["self"] (aq kn):=⟨rfl,rfl,rfl,by decide +kernel,rfl,by decide +kernel,by decide +kernel⟩
theorem wD (F:Fun K "hands" "IdealHeap.hands" kn D.cS D.gE) (T:Txt K mg D)
  (ba:Ok P w K mg base 1 D.bP D.dP ["self"] (ng D)):Ok P w K mg base 2 D.cS D.gE ["self"] (Ht D):=by
 refine ⟨?_,F.binds (ps:=["self"]) fun _ _ _ _ _ _ us hl=>match us,hl with|[_],_=>rfl⟩
 refine F.okE wC (fun vs H Q E h=>?_) (fun cdv A' outer s' H vs Q E hr h=>?_)
 ·obtain ⟨x,A,s,rfl,_⟩:=h
  rfl
 ·obtain ⟨x,A,s,rfl,J,G,k⟩:=h
  refine ⟨_,(PSs.nox (ai (aP (cN (aG (pv 0) rfl) T.aV T.jX ba.g (hr.mono (by decide)) ba.b .nil eJ)))),?_⟩
  exact ⟨_,rfl,x,D.aa,_,_,.ref A.hd,rfl,J.ax,T.ae,T.ay,m9,A.hd,A.hdx,_,rfl,J.ahd,rfl,A.hd,A.hdx,A.hl,A.hx,s.bK,rfl,J.hn G,k⟩
def NT (D:Ad):Sp:=fun vs H Q _=>∃ nt ntx nl xs,vs=[.ref nt]∧Nt D H nt ntx nl xs∧∀ p H',aD H H'→H p=none→H' p=some (.lst xs)→Q (.ref p) H'
abbrev rW:List Str:=["self"]
theorem qv:av rW ["self"] (aq iG):=⟨rfl,rfl,rfl,by decide +kernel,rfl,by decide +kernel,by decide +kernel⟩
theorem qw (F:Fun K "all_named" "NameTable.all_named" iG D.bH D.eh) (T:Txt K mg D):Ok P w K mg base 1 D.bH D.eh ["self"] (NT D):=by
 refine ⟨?_,F.binds (ps:=["self"]) fun _ _ _ _ _ _ us hl=>match us,hl with|[_],_=>rfl⟩
 refine F.okE qv (fun vs H Q E h=>?_) (fun cdv A' outer s' H vs Q E hr h=>?_)
 ·obtain ⟨nt,ntx,nl,xs,rfl,_⟩:=h
  rfl
 ·obtain ⟨nt,ntx,nl,xs,rfl,N,k⟩:=h
  refine ⟨_,(PSs.nox (ai (aP (nX mS rfl T.vI PyProof.Rows.Boot.«list» (ab (aG (pv 0) rfl) ak))))),?_⟩
  exact ⟨_,rfl,nt,D.aC,ntx,_,.ref nl,rfl,N.i,T.dU,T.b4,rfl,nl,xs,rfl,.inl (SqL.of N.l),fun p hp=>k p _ (aD.upd hp) hp ah⟩
def Hu (D:Ad):Sp:=fun vs H Q _=>∃ x A s,vs=[.ref x]∧IH D H x A s∧Good s∧(∀ p H',aD H H'→H p=none→H' p=some (.lst (s.names.map nmV))→Q (.ref p) H')
abbrev yZ:List Str:=["self"]
theorem wF:av yZ ["self"] (aq ko):=⟨rfl,rfl,rfl,by decide +kernel,rfl,by decide +kernel,by decide +kernel⟩
theorem wG (F:Fun K "names" "IdealHeap.names" ko D.cT D.gF) (T:Txt K mg D)
  (gn:Ok P w K mg base 1 D.bH D.eh ["self"] (NT D)):Ok P w K mg base 2 D.cT D.gF ["self"] (Hu D):=by
 refine ⟨?_,F.binds (ps:=["self"]) fun _ _ _ _ _ _ us hl=>match us,hl with|[_],_=>rfl⟩
 refine F.okE wF (fun vs H Q E h=>?_) (fun cdv A' outer s' H vs Q E hr h=>?_)
 ·obtain ⟨x,A,s,rfl,_⟩:=h
  rfl
 ·obtain ⟨x,A,s,rfl,J,G,k⟩:=h
  refine ⟨_,(PSs.nox (ai (aP (cN (aG (pv 0) rfl) T.dU T.ql gn.g (hr.mono (by decide)) gn.b .nil eJ)))),?_⟩
  exact ⟨_,rfl,x,D.aa,_,_,.ref A.nt,rfl,J.ax,T.ae,T.dN,OY,A.nt,A.ntx,_,rfl,J.ant,rfl,A.nt,A.ntx,A.nl,_,rfl,J.ntb G,k⟩
def xY (D:Ad):Sp:=fun vs H Q _=>∃ x A s,vs=[.ref x]∧IH D H x A s∧Good s∧(∀ p H',aD H H'→H p=none→H' p=some (.lst ((keys s).map V.int))→Q (.ref p) H')
abbrev wH:List Str:=["self"]
theorem uC:av wH ["self"] (aq jU):=⟨rfl,rfl,rfl,by decide +kernel,rfl,by decide +kernel,by decide +kernel⟩
theorem uD (F:Fun K "things" "IdealHeap.things" jU D.bX D.eC) (T:Txt K mg D):Ok P w K mg base 1 D.bX D.eC ["self"] (xY D):=by
 refine ⟨?_,F.binds (ps:=["self"]) fun _ _ _ _ _ _ us hl=>match us,hl with|[_],_=>rfl⟩
 refine F.okE uC (fun vs H Q E h=>?_) (fun cdv A' outer s' H vs Q E hr h=>?_)
 ·obtain ⟨x,A,s,rfl,_⟩:=h
  rfl
 ·obtain ⟨x,A,s,rfl,J,G,k⟩:=h
  refine ⟨_,(PSs.nox (ai (aP (fX (AH rfl) rfl T.uq PyProof.Rows.Boot.«sorted» (ab (aG (pv 0) rfl) ak))))),?_⟩
  exact ⟨_,rfl,x,D.aa,_,_,.ref A.fh,rfl,J.ax,T.ae,T.az,qi,A.fh,_,keys s,rfl,.inl J.afh,O0 s A,(by unfold keys;rw [List.length_map];exact Nat.le_trans G.few (by decide)),G.asc.imp (fun h=>Int.le_of_lt h),fun p hp=>k p _ (aD.upd hp) hp ah⟩
def FF (D:Ad):Sp:=fun vs H Q _=>∃ x A s,vs=[.ref x]∧IH D H x A s∧Good s∧(∀ p H',aD H H'→H p=none→H' p=some (.lst (s.dI.map V.int))→Q (.ref p) H')
abbrev wI:List Str:=["self"]
theorem uE:av wI ["self"] (aq jW):=⟨rfl,rfl,rfl,by decide +kernel,rfl,by decide +kernel,by decide +kernel⟩
theorem uF (F:Fun K "doomed" "IdealHeap.doomed" jW D.cu D.gj) (T:Txt K mg D):Ok P w K mg base 1 D.cu D.gj ["self"] (FF D):=by
 refine ⟨?_,F.binds (ps:=["self"]) fun _ _ _ _ _ _ us hl=>match us,hl with|[_],_=>rfl⟩
 refine F.okE uE (fun vs H Q E h=>?_) (fun cdv A' outer s' H vs Q E hr h=>?_)
 ·obtain ⟨x,A,s,rfl,_⟩:=h
  rfl
 ·obtain ⟨x,A,s,rfl,J,G,k⟩:=h
  refine ⟨_,(PSs.nox (ai (aP (fX (AH rfl) rfl T.uq PyProof.Rows.Boot.«sorted» (ab (aG (pv 0) rfl) ak))))),?_⟩
  exact ⟨_,rfl,x,D.aa,_,_,.ref A.dm,rfl,J.ax,T.ae,T.aT,JH,A.dm,_,s.dI,rfl,.inl J.adm,Ba s.dI,Nat.le_trans (Jp G) (by decide),G.EB.imp (fun h=>Int.le_of_lt h),fun p hp=>k p _ (aD.upd hp) hp ah⟩
def LM (D:Ad):Sp:=fun vs H Q _=>∃ wt wtx wb wl bs zs,vs=[.ref wt]∧Wt D H wt wtx wb wl bs zs∧∀ p H',aD H H'→H p=none→H' p=some (.lst (zs.map V.int))→Q (.ref p) H'
abbrev BH:List Str:=["self"]
theorem y8:av BH ["self"] (aq k9):=⟨rfl,rfl,rfl,by decide +kernel,rfl,by decide +kernel,by decide +kernel⟩
theorem y9 (F:Fun K "said" "WordTable.said" k9 D.dC D.gZ) (T:Txt K mg D):Ok P w K mg base 1 D.dC D.gZ ["self"] (LM D):=by
 refine ⟨?_,F.binds (ps:=["self"]) fun _ _ _ _ _ _ us hl=>match us,hl with|[_],_=>rfl⟩
 refine F.okE y8 (fun vs H Q E h=>?_) (fun cdv A' outer s' H vs Q E hr h=>?_)
 ·obtain ⟨wt,wtx,wb,wl,bs,zs,rfl,_⟩:=h
  rfl
 ·obtain ⟨wt,wtx,wb,wl,bs,zs,rfl,N,k⟩:=h
  refine ⟨_,(PSs.nox (ai (aP (nX mS rfl T.vI PyProof.Rows.Boot.«list» (ab (aG (pv 0) rfl) ak))))),?_⟩
  exact ⟨_,rfl,wt,D.aE,wtx,_,.ref wl,rfl,N.i,T.bG,T.hW,rfl,wl,_,rfl,.inl (SqL.of N.l),fun p hp=>k p _ (aD.upd hp) hp ah⟩
def LN (D:Ad):Sp:=fun vs H Q _=>∃ x A s,vs=[.ref x]∧IH D H x A s∧Good s∧(∀ p H',aD H H'→H p=none→H' p=some (.lst (s.qb.map V.int))→Q (.ref p) H')
abbrev BI:List Str:=["self"]
theorem za:av BI ["self"] (aq lB):=⟨rfl,rfl,rfl,by decide +kernel,rfl,by decide +kernel,by decide +kernel⟩
theorem zb (F:Fun K "said" "IdealHeap.said" lB D.dG D.hG) (T:Txt K mg D)
  (jm:Ok P w K mg base 1 D.dC D.gZ ["self"] (LM D)):Ok P w K mg base 2 D.dG D.hG ["self"] (LN D):=by
 refine ⟨?_,F.binds (ps:=["self"]) fun _ _ _ _ _ _ us hl=>match us,hl with|[_],_=>rfl⟩
 refine F.okE za (fun vs H Q E h=>?_) (fun cdv A' outer s' H vs Q E hr h=>?_)
 ·obtain ⟨x,A,s,rfl,_⟩:=h
  rfl
 ·obtain ⟨x,A,s,rfl,J,G,k⟩:=h
  refine ⟨_,(PSs.nox (ai (aP (cN (aG (pv 0) rfl) T.bG T.ya jm.g (hr.mono (by decide)) jm.b .nil eJ)))),?_⟩
  exact ⟨_,rfl,x,D.aa,_,_,.ref A.wt,rfl,J.ax,T.ae,T.dO,OZ,A.wt,A.wtx,_,rfl,J.awt,rfl,A.wt,A.wtx,A.wb,A.wl,s.bp,s.qb,rfl,J.wtb,k⟩
def LO (D:Ad):Sp:=fun vs H Q _=>∃ x A s,vs=[.ref x]∧IH D H x A s∧Good s∧(Q (.int s.nxt) H)
abbrev BJ:List Str:=["self"]
theorem zc:av BJ ["self"] (aq lC):=⟨rfl,rfl,rfl,by decide +kernel,rfl,by decide +kernel,by decide +kernel⟩
theorem zd (F:Fun K "made" "IdealHeap.made" lC D.dH D.hJ) (T:Txt K mg D):Ok P w K mg base 1 D.dH D.hJ ["self"] (LO D):=by
 refine ⟨?_,F.binds (ps:=["self"]) fun _ _ _ _ _ _ us hl=>match us,hl with|[_],_=>rfl⟩
 refine F.okE zc (fun vs H Q E h=>?_) (fun cdv A' outer s' H vs Q E hr h=>?_)
 ·obtain ⟨x,A,s,rfl,_⟩:=h
  rfl
 ·obtain ⟨x,A,s,rfl,J,G,k⟩:=h
  refine ⟨_,(PSs.nox (ai (aP (aG (pv 0) rfl)))),?_⟩
  exact ⟨_,rfl,x,D.aa,_,_,.int s.nxt,rfl,J.ax,T.ae,T.fB,Vh,k⟩
def NU (D:Ad):Sp:=fun vs H Q _=>∃ wt wtx wb wl bs zs,∃ t:Int,vs=[.ref wt,.int t]∧Wt D H wt wtx wb wl bs zs∧Q (nmV (bs.lookup t)) H
abbrev uG:List Str:=["self", "t"]
theorem sW:av uG ["self", "t"] (aq jC):=⟨rfl,rfl,rfl,by decide +kernel,rfl,by decide +kernel,by decide +kernel⟩
theorem sX (F:Fun K "word_of" "WordTable.word_of" jC D.b6 D.ft) (T:Txt K mg D):Ok P w K mg base 1 D.b6 D.ft ["self", "t"] (NU D):=by
 refine ⟨?_,F.binds (ps:=["self", "t"]) fun _ _ _ _ _ _ us hl=>match us,hl with|[_,_],_=>rfl⟩
 refine F.okE sW (fun vs H Q E h=>?_) (fun cdv A' outer s' H vs Q E hr h=>?_)
 ·obtain ⟨wt,wtx,wb,wl,bs,zs,t,rfl,_⟩:=h
  rfl
 ·obtain ⟨wt,wtx,wb,wl,bs,zs,t,rfl,N,k⟩:=h
  have hu:=lI hr
  refine ⟨_,(PSs.nox (ai (aP (Pq hu (aG (pv 0) rfl) (pv 1) ⟨rfl,rfl,rfl,rfl⟩)))),?_⟩
  refine ⟨_,rfl,wt,D.aE,wtx,_,.ref wb,rfl,N.i,T.bG,T.bj,rfl,wb,rfl,.inl ⟨_,.inl N.b⟩,_,rfl,_,pT.k (k:=Sum.inl t) N.b,?_⟩
  rw [Vi]
  cases e:bs.lookup t with
  | none=>rw [e] at k;exact k
  | some v=>rw [e] at k;exact k
def JN (D:Ad):Sp:=fun vs H Q E=>∃ x A s,∃ t:Int,vs=[.ref x,.int t]∧IH D H x A s∧Good s∧Sm t∧(t∈keys s→Q .non H)∧(t∉keys s→Bad D.eW H E)
abbrev uH:List Str:=["self", "t"]
theorem sY:av uH ["self", "t"] (aq jD):=⟨rfl,rfl,rfl,by decide +kernel,rfl,by decide +kernel,by decide +kernel⟩
theorem sZ (F:Fun K "look_at_held" "Heap.look_at_held" jD D.aM D.cO) (T:Txt K mg D)
  (ag:Ok P w K mg base 1 D.aj D.aB ["self", "text"] (Dt K)):Ok P w K mg base 3 D.aM D.cO ["self", "t"] (JN D):=by
 refine ⟨?_,F.binds (ps:=["self", "t"]) fun _ _ _ _ _ _ us hl=>match us,hl with|[_,_],_=>rfl⟩
 refine F.okE sY (fun vs H Q E h=>?_) (fun cdv A' outer s' H vs Q E hr h=>?_)
 ·obtain ⟨x,A,s,t,rfl,_⟩:=h
  rfl
 ·obtain ⟨x,A,s,t,rfl,J,G,ht,k,kb⟩:=h
  have hu:=lI hr
  refine ⟨_,(ai (di (qD (j7 hu (pv 1) (aG (pv 0) rfl)) (by with_unfolding_all rfl))
    (ai (gr rfl kS (kT T.Mm ag.g (hr.mono (by decide)) rfl T.Mj ag.b (Passes.x (aL fun _ _ _ q=>q)) (ab (jJ (bD (lK (pv 1)) (bD ir jI))) ak))))
    bC)),?_⟩
  refine ⟨_,rfl,_,rfl,x,D.aa,_,_,.ref A.fh,rfl,J.ax,T.ae,T.az,qi,A.fh,_,rfl,pT.k (k:=Sum.inl t) J.afh,_,rfl,?_⟩
  rw [(O0 s A).isS]
  by_cases c:t∈keys s
  ·rw [decide_eq_true c]
   exact rz (k c)
  ·rw [decide_eq_false c]
   exact vB ⟨_,rfl,t,rfl,ht,fun y hy ea hea=>dt T.Ml (fun _ q=>q) (kb c) ea hea⟩
def Js (D:Ad):Sp:=fun vs H Q E=>∃ x A s,∃ t:Int,vs=[.ref x,.int t]∧IH D H x A s∧Good s∧Sm t∧(t∈keys s→∀ p H',aD H H'→H p=none→H' p=some (.lst (A.fx t))→Q (.ref p) H')∧(t∉keys s→Bad D.eW H E)
abbrev rX:List Str:=["self", "t"]
theorem qx:av rX ["self", "t"] (aq iH):=⟨rfl,rfl,rfl,by decide +kernel,rfl,by decide +kernel,by decide +kernel⟩
theorem qy (F:Fun K "fields_of" "IdealHeap.fields_of" iH D.bh D.cW) (T:Txt K mg D)
  (aO:Ok P w K mg base 3 D.aM D.cO ["self", "t"] (JN D)):Ok P w K mg base 4 D.bh D.cW ["self", "t"] (Js D):=by
 refine ⟨?_,F.binds (ps:=["self", "t"]) fun _ _ _ _ _ _ us hl=>match us,hl with|[_,_],_=>rfl⟩
 refine F.okE qx (fun vs H Q E h=>?_) (fun cdv A' outer s' H vs Q E hr h=>?_)
 ·obtain ⟨x,A,s,t,rfl,_⟩:=h
  rfl
 ·obtain ⟨x,A,s,t,rfl,J,G,ht,k,kb⟩:=h
  have hu:=lI hr
  refine ⟨_,(ao (aH (aK (pv 0) T.ae T.gq aO.g (hr.mono (by decide)) aO.b .nil (Passes.x (aL fun _ _ _ q=>q)) (ab (pv 1) ak)))
   (ai (aP (nX mS rfl T.vI PyProof.Rows.Boot.«list» (ab (pU hu (aG (pv 0) rfl) (pv 1) (fun _ _=>rfl)) ak))))),?_⟩
  refine ⟨_,rfl,x,_,_,rfl,J.ax,(by kernel_rfl),_,rfl,x,A,s,t,rfl,J,G,ht,fun m=>?_,kb⟩
  obtain ⟨ws,mw⟩:=mem_keys.mp m
  exact ⟨_,rfl,x,D.aa,_,_,.ref A.fh,rfl,J.ax,T.ae,T.az,qi,_,rfl,A.fh,_,rfl,J.Vj G mw,A.fa t,_,rfl,.inl (SqL.of (J.afl _ _ mw).1),fun p hp=>k m p _ (aD.upd hp) hp ah⟩
def Jt (D:Ad):Sp:=fun vs H Q E=>∃ x A s,∃ t:Int,vs=[.ref x,.int t]∧IH D H x A s∧Good s∧Sm t∧(t∈keys s→Q (.bl (decide (t∉s.yng))) H)∧(t∉keys s→Bad D.eW H E)
abbrev wJ:List Str:=["self", "t"]
theorem uI:av wJ ["self", "t"] (aq jV):=⟨rfl,rfl,rfl,by decide +kernel,rfl,by decide +kernel,by decide +kernel⟩
theorem uJ (F:Fun K "is_old" "IdealHeap.is_old" jV D.bY D.eE) (T:Txt K mg D)
  (aO:Ok P w K mg base 3 D.aM D.cO ["self", "t"] (JN D)):Ok P w K mg base 4 D.bY D.eE ["self", "t"] (Jt D):=by
 refine ⟨?_,F.binds (ps:=["self", "t"]) fun _ _ _ _ _ _ us hl=>match us,hl with|[_,_],_=>rfl⟩
 refine F.okE uI (fun vs H Q E h=>?_) (fun cdv A' outer s' H vs Q E hr h=>?_)
 ·obtain ⟨x,A,s,t,rfl,_⟩:=h
  rfl
 ·obtain ⟨x,A,s,t,rfl,J,G,ht,k,kb⟩:=h
  have hu:=lI hr
  refine ⟨_,(ao (aH (aK (pv 0) T.ae T.gq aO.g (hr.mono (by decide)) aO.b .nil (Passes.x (aL fun _ _ _ q=>q)) (ab (pv 1) ak)))
   (ai (aP (XO (j7 hu (pv 1) (aG (pv 0) rfl)) (by with_unfolding_all rfl))))),?_⟩
  refine ⟨_,rfl,x,_,_,rfl,J.ax,(by kernel_rfl),_,rfl,x,A,s,t,rfl,J,G,ht,fun m=>?_,kb⟩
  refine ⟨_,rfl,_,rfl,x,D.aa,_,_,.ref A.yg,rfl,J.ax,T.ae,T.aX,JG,A.yg,_,rfl,pT.k (k:=Sum.inl t) J.ayg,?_⟩
  rw [(Ba s.yng).isS,show (!decide (t∈s.yng))=decide (t∉s.yng) by simp]
  exact k m
def NV (D:Ad):Sp:=fun vs H Q E=>∃ x A s,∃ t:Int,vs=[.ref x,.int t]∧IH D H x A s∧Good s∧Sm t∧(t∈keys s→Q (nmV (s.bp.lookup t)) H)∧(t∉keys s→Bad D.eW H E)
abbrev uK:List Str:=["self", "t"]
theorem tf:av uK ["self", "t"] (aq jE):=⟨rfl,rfl,rfl,by decide +kernel,rfl,by decide +kernel,by decide +kernel⟩
theorem tj (F:Fun K "word_of" "IdealHeap.word_of" jE D.b8 D.fu) (T:Txt K mg D)
  (aO:Ok P w K mg base 3 D.aM D.cO ["self", "t"] (JN D))
  (gR:Ok P w K mg base 1 D.b6 D.ft ["self", "t"] (NU D)):Ok P w K mg base 4 D.b8 D.fu ["self", "t"] (NV D):=by
 refine ⟨?_,F.binds (ps:=["self", "t"]) fun _ _ _ _ _ _ us hl=>match us,hl with|[_,_],_=>rfl⟩
 refine F.okE tf (fun vs H Q E h=>?_) (fun cdv A' outer s' H vs Q E hr h=>?_)
 ·obtain ⟨x,A,s,t,rfl,_⟩:=h
  rfl
 ·obtain ⟨x,A,s,t,rfl,J,G,ht,k,kb⟩:=h
  have hu:=lI hr
  refine ⟨_,(ao (aH (aK (pv 0) T.ae T.gq aO.g (hr.mono (by decide)) aO.b .nil (Passes.x (aL fun _ _ _ q=>q)) (ab (pv 1) ak)))
   (ai (aP (aK (aG (pv 0) rfl) T.bG T.sO gR.g (hr.mono (by decide)) gR.b .nil (Passes.x (aL fun _ _ _ q=>q)) (ab (pv 1) ak))))),?_⟩
  refine ⟨_,rfl,x,_,_,rfl,J.ax,(by kernel_rfl),_,rfl,x,A,s,t,rfl,J,G,ht,fun m=>?_,kb⟩
  exact ⟨_,rfl,x,D.aa,_,_,.ref A.wt,rfl,J.ax,T.ae,T.dO,OZ,A.wt,A.wtx,_,rfl,J.awt,rfl,_,rfl,A.wt,A.wtx,A.wb,A.wl,s.bp,s.qb,t,rfl,J.wtb,k m⟩
def Ju (D:Ad):Sp:=fun vs H Q _=>∃ x A s,vs=[.ref x]∧IH D H x A s∧Good s∧∀ p H',aD H H'→H p=none→Rp (res H' (Ex H)) 5 (.ref p) (told s)→Q (.ref p) H'
abbrev Dx:List Str:=["heap", "things", "rows"]
theorem rk:av Dx ["heap"] (aq oV):=⟨rfl,rfl,rfl,by decide +kernel,rfl,by decide +kernel,by decide +kernel⟩
theorem Ih (F:Fun K "_law_told" "_law_told" oV D.gf D.j4) (T:Txt K mg D)
  (cx:Ok P w K mg base 1 D.bX D.eC ["self"] (xY D))
  (bI:Ok P w K mg base 4 D.bh D.cW ["self", "t"] (Js D))
  (cy:Ok P w K mg base 4 D.bY D.eE ["self", "t"] (Jt D))
  (gS:Ok P w K mg base 4 D.b8 D.fu ["self", "t"] (NV D))
  (iS:Ok P w K mg base 2 D.cS D.gE ["self"] (Ht D))
  (iT:Ok P w K mg base 2 D.cT D.gF ["self"] (Hu D))
  (ip:Ok P w K mg base 1 D.cu D.gj ["self"] (FF D))
  (jn:Ok P w K mg base 2 D.dG D.hG ["self"] (LN D))
  (jo:Ok P w K mg base 1 D.dH D.hJ ["self"] (LO D))
  (bW:Ok P w K mg base 1 D.bw D.dw ["self"] (Nb D)):Ok P w K mg base 6 D.gf D.j4 ["heap"] (Ju D):=by
 refine ⟨?_,F.binds (ps:=["heap"]) fun _ _ _ _ _ _ us hl=>match us,hl with|[_],_=>rfl⟩
 refine F.okE rk (fun vs H Q E h=>?_) (fun cdv A' outer s' H vs Q E hr h=>?_)
 ·obtain ⟨x,A,s,rfl,_⟩:=h
  rfl
 ·obtain ⟨x,A,s,rfl,J,G,k⟩:=h
  refine ⟨_,(PSs.nox (ao (bN (i:=1) rk.nd rfl (Or.inl rfl) (cN (pv 0) T.ae T.mK cx.g (hr.mono (by decide)) cx.b .nil eJ))
   (ao (RI (cl:=[("heap",s'.heap.objs.size+1)]) (x := "t") (idx:=[0]) (NC:=["t", "heap"]) (i:=2) rk.nd rfl rfl ?co1 rfl (pS (pv 1)) (fun C fp s₀ H₀=>(fI (ab (pv 0) (ab (aK (pv 1) T.ae T.j9 bI.g (hr.mono (by decide)) bI.b .nil A0 (ab (pv 0) ak)) (ab (aK (pv 1) T.ae T.mL cy.g (hr.mono (by decide)) cy.b .nil A0 (ab (pv 0) ak)) (ab (aK (pv 1) T.ae T.sP gS.g (hr.mono (by decide)) gS.b .nil A0 (ab (pv 0) ak)) ak)))))))
   (ai (aP (hR (ab (cN (pv 0) T.ae T.vY iS.g (hr.mono (by decide)) iS.b .nil eJ) (ab (cN (pv 0) T.ae T.vZ iT.g (hr.mono (by decide)) iT.b .nil eJ) (ab (pv 2) (ab (cN (pv 0) T.ae T.uo ip.g (hr.mono (by decide)) ip.b .nil eJ) (ab (cN (pv 0) T.ae T.yo jn.g (hr.mono (by decide)) jn.b .nil eJ) (ab (cN (pv 0) T.ae T.yp jo.g (hr.mono (by decide)) jo.b .nil eJ) (ab (cN (pv 0) T.ae T.kW bW.g (hr.mono (by decide)) bW.b .nil eJ) ak))))))))))))),?_⟩
  case co1 =>
   exact pW (sc:=aq oV) (N:=Dx) (ns:=["heap"]) rfl rfl rfl (by decide +kernel) rfl rfl (by
    intro q hq
    rw [List.mem_singleton.mp hq]
    rfl)
  refine ⟨_,rfl,x,_,_,rfl,J.ax,(by kernel_rfl),x,A,s,rfl,J,G,fun p1 H1 s1 hp1 z1=>?_⟩
  have J1:=J.same s1
  refine ⟨_,rfl,p1,rfl,⟨_,SqL.of z1⟩,fun L hL=>?_⟩
  have hL0:H L=none:=aD.none s1 hL
  have lz:(keys s).length≤10000:=by unfold keys;rw [List.length_map];exact G.few
  refine qk (K:=K) (a:=p1) (xs:=(keys s).map V.int) (fun i ys Hc=>ys.length=i∧aD H1 Hc∧Hc L=some (.lst ys)∧∀ (j:Nat) (u:V) (t:Int),ys[j]?=some u→(keys s)[j]?=some t→Rp (res Hc (ExL H L)) 3 u (LL s t)) ⟨rfl,aD.upd hL,ah,(fun j u t h=>by cases h)⟩ (fun i ys Hc _ ⟨e,_,z,_⟩=>⟨z,e⟩) (fun i ys Hc _ ⟨_,sc,_⟩=>SqL.of (sc _ _ z1)) (by rw [List.length_map];exact oa (by omega)) (fun i v ys Hc hi ⟨e,sc,z,hr'⟩=>?_) (fun ys Hc ⟨e,sc,z,hr'⟩=>?_)
  ·rw [List.getElem?_map] at hi
   obtain ⟨t,ht,rfl⟩:=Option.map_eq_some_iff.mp hi
   have mt:t∈keys s:=List.mem_of_getElem? ht
   obtain ⟨ws,mw⟩:=mem_keys.mp mt
   have lt:=G.lt _ _ mw
   have nx:=G.nx
   have smt:Sm t:=Sm.of (by omega) (by omega)
   have Jc:=J1.same sc
   refine ⟨_,rfl,_,rfl,x,_,_,rfl,Jc.ax,(by kernel_rfl),_,rfl,x,A,s,t,rfl,Jc,G,smt,fun _ p2 H2 s2 hp2 z2=>?_,fun h=>absurd mt h⟩
   have J2:=Jc.same s2
   refine ⟨_,rfl,x,_,_,rfl,J2.ax,(by kernel_rfl),_,rfl,x,A,s,t,rfl,J2,G,smt,fun _=>⟨_,rfl,x,_,_,rfl,J2.ax,(by kernel_rfl),_,rfl,x,A,s,t,rfl,J2,G,smt,fun _=>⟨by show 4≤sizeLine;decide,fun q hq=>?_⟩,fun h=>absurd mt h⟩,fun h=>absurd mt h⟩
   have s3:=aD.upd (o:=.tup [V.int t,V.ref p2,.bl (decide (t∉s.yng)),nmV (s.bp.lookup t)]) hq
   have zL3:=s3 _ _ (s2 _ _ z)
   have s4:aD H1 (upd (upd H2 q (.tup [V.int t,V.ref p2,.bl (decide (t∉s.yng)),nmV (s.bp.lookup t)])) L (.lst (ys++[V.ref q]))):=fun b u g=>by rw [af (au g hL)];exact s3 _ _ (s2 _ _ (sc b u g))
   have up:∀ b u,b≠L→Hc b=some u→upd (upd H2 q (.tup [V.int t,V.ref p2,.bl (decide (t∉s.yng)),nmV (s.bp.lookup t)])) L (.lst (ys++[V.ref q])) b=some u:=fun b u n g=>by rw [af n];exact s3 _ _ (s2 _ _ g)
   refine ⟨zL3,by rw [List.length_append,e];rfl,s4,ah,fun j u t' h1 h2=>?_⟩
   rcases Nat.lt_or_ge j ys.length with c|c
   ·rw [List.getElem?_append_left c] at h1
    refine (hr' j u t' h1 h2).same fun b w g=>?_
    obtain ⟨g1,g2⟩:=res_some g
    refine sV (up b w (fun e=>?_) g1) g2
    rw [e,z] at g1
    cases g1
    rcases g2 with g2|⟨us,g2⟩
    ·exact g2 (.inr e)
    ·cases g2
   ·have ej:j=ys.length:=by
     have:=(List.getElem?_eq_some_iff.mp h1).1
     rw [List.length_append,List.length_singleton] at this
     omega
    rw [ej,List.getElem?_append_right (Nat.le_refl _),Nat.sub_self] at h1
    cases h1
    rw [ej,e,ht] at h2
    cases h2
    obtain ⟨hl,rl⟩:=J.afl _ _ mw
    rw [←G.fld mw] at rl
    have zq:upd (upd H2 q (.tup [V.int t,V.ref p2,.bl (decide (t∉s.yng)),nmV (s.bp.lookup t)])) L (.lst (ys++[V.ref q])) q=some (.tup [V.int t,V.ref p2,.bl (decide (t∉s.yng)),nmV (s.bp.lookup t)]):=by rw [af (fun e=>by rw [e,s2 _ _ z] at hq;cases hq)];exact ah
    have p2L:p2≠L:=Ne.symm (au z hp2)
    have zp:upd (upd H2 q (.tup [V.int t,V.ref p2,.bl (decide (t∉s.yng)),nmV (s.bp.lookup t)])) L (.lst (ys++[V.ref q])) p2=some (.lst (A.fx t)):=by rw [af p2L];exact s3 _ _ z2
    have adV:H p2=none:=aD.none s1 (aD.none sc hp2)
    refine aca (sV zq (.inr ⟨_,rfl⟩)) rfl fun j u x h1 h2=>?_
    have AD:fD H (res (upd (upd H2 q (.tup [V.int t,V.ref p2,.bl (decide (t∉s.yng)),nmV (s.bp.lookup t)])) L (.lst (ys++[V.ref q]))) (ExL H L)):=fun b us g=>NR _ _ (s4 _ _ (s1 _ _ g))
    match j,h1,h2 with
    | 0,h1,h2=>cases h1;cases h2;exact fli
    | 1,h1,h2=>cases h1;cases h2;exact QH (sV zp (.inl fun f=>f.elim (fun ⟨_,y⟩=>by rw [adV] at y;cases y) p2L)) (rl.keep AD)
    | 2,h1,h2=>cases h1;cases h2;exact Rp.flat rfl
    | 3,h1,h2=>cases h1;cases h2;exact fla
    | j+4,h1,h2=>cases h1
  ·rw [List.length_map] at e
   have sH:=s1.trans sc
   have Jc:=J.same sH
   refine ⟨_,rfl,x,_,_,rfl,Jc.ax,(by kernel_rfl),x,A,s,rfl,Jc,G,fun p2 H2 s2 hp2 z2=>?_⟩
   have J2:=Jc.same s2
   refine ⟨_,rfl,x,_,_,rfl,J2.ax,(by kernel_rfl),x,A,s,rfl,J2,G,fun p3 H3 s3 hp3 z3=>?_⟩
   have J3:=J2.same s3
   refine ⟨_,rfl,_,rfl,x,_,_,rfl,J3.ax,(by kernel_rfl),x,A,s,rfl,J3,G,fun p4 H4 s4 hp4 z4=>?_⟩
   have J4:=J3.same s4
   refine ⟨_,rfl,x,_,_,rfl,J4.ax,(by kernel_rfl),x,A,s,rfl,J4,G,fun p5 H5 s5 hp5 z5=>?_⟩
   have J5:=J4.same s5
   refine ⟨_,rfl,x,_,_,rfl,J5.ax,(by kernel_rfl),x,A,s,rfl,J5,G,_,rfl,x,_,_,rfl,J5.ax,(by kernel_rfl),x,A,s,rfl,J5,by show 7≤sizeLine;decide,fun p hp=>?_⟩
   have s6:=aD.upd (o:=.lst [V.ref p2,V.ref p3,V.ref L,V.ref p4,V.ref p5,V.int s.nxt,V.bl s.rnd]) hp
   have t5:=s5.trans s6
   have t4:=s4.trans t5
   have t3:=s3.trans t4
   have t2:=s2.trans t3
   have n2:H p2=none:=aD.none sH hp2
   have n3:H p3=none:=aD.none (sH.trans s2) hp3
   have n4:H p4=none:=aD.none ((sH.trans s2).trans s3) hp4
   have n5:H p5=none:=aD.none (((sH.trans s2).trans s3).trans s4) hp5
   have n6:H p=none:=aD.none ((((sH.trans s2).trans s3).trans s4).trans s5) hp
   have AD:fD H (res (upd H5 p (.lst [V.ref p2,V.ref p3,V.ref L,V.ref p4,V.ref p5,V.int s.nxt,V.bl s.rnd])) (Ex H)):=fun b us g=>NR _ _ (t2 _ _ (sH _ _ g))
   refine k p _ (sH.trans t2) n6 (NS (vQ n6 ah) rfl fun j u y h1 h2=>?_)
   match j,h1,h2 with
   | 0,h1,h2=>cases h1;cases h2;exact JM 2 (QH (vQ n2 (t3 _ _ z2)) (J.rhl.keep AD))
   | 1,h1,h2=>cases h1;cases h2;exact JM 3 (Nd (n:=0) (fun n=>.a (nmV n)) (vQ n3 (t4 _ _ z3)) fun z _=>fla)
   | 2,h1,h2 =>
    cases h1;cases h2
    refine NS (vQ hL0 (t2 _ _ z)) (by rw [e,List.length_map]) fun i u x h1 h2=>?_
    rw [List.getElem?_map] at h2
    obtain ⟨t,ht,rfl⟩:=Option.map_eq_some_iff.mp h2
    exact ((hr' i u t h1 ht).same (LI fun b f=>.inl f)).same (Bd t2)
   | 3,h1,h2=>cases h1;cases h2;exact JM 3 (Nd (n:=0) (fun t=>.a (.int t)) (vQ n4 (t5 _ _ z4)) fun z _=>fli)
   | 4,h1,h2=>cases h1;cases h2;exact JM 3 (Nd (n:=0) (fun t=>.a (.int t)) (vQ n5 (s6 _ _ z5)) fun z _=>fli)
   | 5,h1,h2=>cases h1;cases h2;exact fli
   | 6,h1,h2=>cases h1;cases h2;exact Rp.flat rfl
   | j+7,h1,h2=>cases h1
theorem NW:∀ {a b:List Int},a.Pairwise (·< ·)→b.Pairwise (·< ·)→(∀ t,t∈a↔t∈b)→a=b
 | [],[],_,_,_=>rfl
 | [],y::b,_,_,h=>absurd ((h y).mpr List.mem_cons_self) (by simp)
 | x::a,[],_,_,h=>absurd ((h x).mp List.mem_cons_self) (by simp)
 | x::a,y::b,pa,pb,h=>by
  rw [List.pairwise_cons] at pa pb
  have e:x=y:=by
   rcases List.mem_cons.mp ((h x).mp List.mem_cons_self) with e|e
   ·exact e
   ·rcases List.mem_cons.mp ((h y).mpr List.mem_cons_self) with f|f
    ·exact f.symm
    ·have:=pb.1 x e
     have:=pa.1 y f
     omega
  subst e
  rw [NW pa.2 pb.2 fun t=>⟨fun m=>?_,fun m=>?_⟩]
  ·rcases List.mem_cons.mp ((h t).mp (List.mem_cons_of_mem _ m)) with e|e
   ·have:=pa.1 t m;omega
   ·exact e
  ·rcases List.mem_cons.mp ((h t).mpr (List.mem_cons_of_mem _ m)) with e|e
   ·have:=pb.1 t m;omega
   ·exact e
def QI (s:HS) (y:Bool):List Int:=(keys s).filter fun t=>!y||decide (t∈s.yng)
theorem NX {s:HS}:QI s false=keys s:=by unfold QI;simp
theorem R4 {s:HS} (g:Good s):QI s true=s.yng:=by
 refine NW (List.Pairwise.sublist List.filter_sublist g.asc) g.Dw fun t=>?_
 unfold QI
 rw [List.mem_filter]
 simp only [Bool.not_true,Bool.false_or,decide_eq_true_eq]
 exact ⟨fun h=>h.2,fun h=>⟨mem_keys.mpr (g.yk t h),h⟩⟩
def LP (K:W.Frag):Sp:=fun vs H Q _=>∃ (a:Addr) (ns:List Int),vs=[.ref a]∧SqL K H a (ns.map V.int)∧∀ p H',aD H H'→H p=none→H' p=some (.lst [.int (rl ns.head?).1,.int (rl ns.head?).2])→Q (.ref p) H'
abbrev Ii:List Str:=["script", "head"]
theorem pK:av Ii ["script"] (aq qR):=⟨rfl,rfl,rfl,by decide +kernel,rfl,by decide +kernel,by decide +kernel⟩
theorem Gw (F:Fun K "_law_sizes" "_law_sizes" qR D.fG D.kN) (T:Txt K mg D):Ok P w K mg base 1 D.fG D.kN ["script"] (LP K):=by
 refine ⟨?_,F.binds (ps:=["script"]) fun _ _ _ _ _ _ us hl=>match us,hl with|[_],_=>rfl⟩
 refine F.okE pK (fun vs H Q E h=>?_) (fun cdv A' outer s' H vs Q E hr h=>?_)
 ·obtain ⟨a,ns,rfl,_⟩:=h
  rfl
 ·obtain ⟨a,ns,rfl,hS,k⟩:=h
  refine ⟨_,(PSs.nox (ao (bN (i:=1) pK.nd rfl (Or.inl rfl) ar)
   (ao (di (aW AV (fX gI rfl T.vq PyProof.Rows.Boot.«len» (ab (pv 0) ak)) ar (bJ _))
    (ai (bN (i:=1) pK.nd rfl (Or.inl rfl) (bR iI (bR mF (br ck (pv 0) ar (fun _ _=>rfl)) ar) ar)))
    bC)
   (ai (aP (hR (ab (br ck (hR (ab ar (ab ar (ab ar (ab ar (ab ar (ab ar ak))))))) (bR iI (pv 1) ar) (fun _ _=>rfl)) (ab (br ck (hR (ab ar (ab ar (ab ar ak)))) (bR iI (bR mF (pv 1) ar) ar) (fun _ _=>rfl)) ak)))))))),?_⟩
  refine lF fun N0 hN0=>?_
  refine hN0 _ _ ?_
  refine lF fun N hN=>?_
  have fin:∀ hd:Int,0≤hd→rl ns.head?=(rmA hd,lmA hd)→N [some (.ref a),some (.int hd)] H:=by
   intro hd h0 er
   refine hN _ _ ?_
   rw [er] at k
   obtain ⟨hv1,y1⟩:=JK h0
   obtain ⟨hv2,y2,y3⟩:=JL h0
   refine ⟨by show 6≤sizeLine;decide,fun p hp=>⟨_,rfl,hd,6,rfl,rfl,(by show (0:Int)<6;decide),p,_,_,_,rfl,rfl,SqL.of ah,hv1,by show 3≤sizeLine;decide,fun q hq=>⟨_,rfl,hd,6,rfl,rfl,⟨by decide,by decide⟩,_,3,rfl,rfl,(by show (0:Int)<3;decide),q,_,_,_,rfl,rfl,SqL.of ah,hv2,by show 2≤sizeLine;decide,fun l hl=>?_⟩⟩⟩
   have a1:=(aD.upd (o:=.lst [V.int 14,V.int 0,V.int 7,V.int 9,V.int 30,V.int 64]) hp).trans (aD.upd (o:=.lst [V.int 400,V.int 60,V.int 120]) hq)
   exact k l _ (a1.trans (aD.upd hl)) (aD.none a1 hl) ah
  refine ⟨_,rfl,a,_,rfl,.inl hS,_,0,rfl,rfl,_,rfl,aQ (fun h=>?_) (fun h=>?_)⟩
  ·have hl:0<ns.length:=by
    have:=of_decide_eq_true h
    rw [List.length_map] at this
    omega
   have h0:atI (ns.map V.int) 0=some (.int (ns[0]'hl)):=vA (j:=0) (by rw [List.getElem?_map,List.getElem?_eq_getElem hl];rfl)
   refine ⟨_,rfl,a,_,0,_,rfl,rfl,hS,h0,_,2,rfl,rfl,⟨by decide,by decide⟩,_,1000003,rfl,rfl,(by show (0:Int)<1000003;decide),?_⟩
   refine fin _ (Int.emod_nonneg _ (by decide)) ?_
   rw [show ns.head?=some ns[0] by rw [List.head?_eq_getElem?,List.getElem?_eq_getElem hl]]
   rfl
  ·have hl:ns=[]:=by
    cases ns with
    | nil=>rfl
    | cons z r=>exact absurd (decide_eq_true (by rw [List.length_map,List.length_cons];omega)) h
   exact fin 0 (Int.le_refl _) (by rw [hl];rfl)
def FZ (D:Ad):Sp:=fun vs H Q _=>∃ x A s,∃ y:Bool,vs=[.ref x,.bl y]∧IH D H x A s∧Good s∧∀ H',aD H H'→Q (.int (wsum s (QI s y))) H'
abbrev AM:List Str:=["heap", "young"]
theorem Gx:av AM ["heap", "young"] (aq mT):=⟨rfl,rfl,rfl,by decide +kernel,rfl,by decide +kernel,by decide +kernel⟩
theorem Gy (F:Fun K "_law_words" "_law_words" mT D.eU D.jv) (T:Txt K mg D)
  (cx:Ok P w K mg base 1 D.bX D.eC ["self"] (xY D))
  (cy:Ok P w K mg base 4 D.bY D.eE ["self", "t"] (Jt D))
  (bI:Ok P w K mg base 4 D.bh D.cW ["self", "t"] (Js D)):Ok P w K mg base 6 D.eU D.jv ["heap", "young"] (FZ D):=by
 refine ⟨?_,F.binds (ps:=["heap", "young"]) fun _ _ _ _ _ _ us hl=>match us,hl with|[_,_],_=>rfl⟩
 refine F.okE Gx (fun vs H Q E h=>?_) (fun cdv A' outer s' H vs Q E hr h=>?_)
 ·obtain ⟨x,A,s,y,rfl,_⟩:=h
  rfl
 ·obtain ⟨x,A,s,y,rfl,J,G,k⟩:=h
  refine ⟨_,(PSs.nox (ai (aP (fX (Hg rfl) rfl T.OX PyProof.Rows.Boot.«sum» (ab (PD (cl:=[("young",s'.heap.objs.size+2),("heap",s'.heap.objs.size+1)]) (x := "t") (idx:=[0,1]) (NC:=["t", "heap", "young"]) ?co1 rfl (pS (cN (pv 0) T.ae T.mK cx.g (hr.mono (by decide)) cx.b .nil eJ)) (fun C fp s₀ H₀=>(PW.pt (pw_or (qE (vw (pv 2))) (pw_or1 (qE (vw (aK (pv 1) T.ae T.mL cy.g (hr.mono (by decide)) cy.b .nil A0 (ab (pv 0) ak)))))))) (fun C fp s₀ H₀=>(bR mP (fX (Hh rfl) rfl T.vq PyProof.Rows.Boot.«len» (ab (aK (pv 1) T.ae T.j9 bI.g (hr.mono (by decide)) bI.b .nil A0 (ab (pv 0) ak)) ak)) ar))) ak))))),?_⟩
  case co1 =>
   exact pW (sc:=aq mT) (N:=AM) (ns:=["young", "heap"]) rfl rfl rfl (by decide +kernel) rfl rfl (by
    intro q hq
    rcases List.mem_cons.mp hq with rfl|hq
    ·rfl
    rw [List.mem_singleton.mp hq]
    rfl)
  refine ⟨_,rfl,x,_,_,rfl,J.ax,(by kernel_rfl),x,A,s,rfl,J,G,fun p1 H1 s1 hp1 z1=>?_⟩
  refine ⟨p1,rfl,⟨_,SqL.of z1⟩,fun L hL=>?_⟩
  have lz:(keys s).length≤10000:=by unfold keys;rw [List.length_map];exact G.few
  refine Ma (K:=K) (a:=p1) (xs:=(keys s).map V.int) (fun i ys Hc=>ys=(((keys s).take i).filter (fun t=>!y||decide (t∈s.yng))).map (fun t=>V.int (((fld s t).length:Int)+1))∧aD H1 Hc∧Hc L=some (.lst ys)) ⟨rfl,aD.upd hL,ah⟩ (fun i ys Hc _ ⟨e,_,z⟩=>⟨z,by rw [e,List.length_map];exact Nat.le_trans (List.length_filter_le _ _) (by rw [List.length_take];omega)⟩) (fun i ys Hc _ ⟨_,sc,_⟩=>SqL.of (sc _ _ z1)) (by rw [List.length_map];exact oa (by omega)) (fun i v ys Hc hi ⟨e,sc,z⟩=>?_) (fun ys Hc ⟨e,sc,z⟩=>?_)
  ·rw [List.getElem?_map] at hi
   obtain ⟨t,ht,rfl⟩:=Option.map_eq_some_iff.mp hi
   have mt:t∈keys s:=List.mem_of_getElem? ht
   have tk:=take_snoc ht
   obtain ⟨ws,mw⟩:=mem_keys.mp mt
   have lt:=G.lt _ _ mw
   have nx:=G.nx
   have smt:Sm t:=Sm.of (by omega) (by omega)
   have Jc:=(J.same s1).same sc
   have app:(!y||decide (t∈s.yng))=true→∀ H5,aD Hc H5→H5 L=some (.lst ys)∧(ys++[V.int (((fld s t).length:Int)+1)]=(((keys s).take (i+1)).filter (fun t=>!y||decide (t∈s.yng))).map (fun t=>V.int (((fld s t).length:Int)+1))∧aD H1 (upd H5 L (.lst (ys++[V.int (((fld s t).length:Int)+1)])))∧upd H5 L (.lst (ys++[V.int (((fld s t).length:Int)+1)])) L=some (.lst (ys++[V.int (((fld s t).length:Int)+1)]))):=fun c H5 s5=>by
    refine ⟨s5 _ _ z,?_,fun b u g=>by rw [af (au g hL)];exact s5 _ _ (sc b u g),ah⟩
    rw [tk,List.filter_append,List.map_append,←e,List.filter_cons,if_pos c]
    rfl
   have ln:(A.fx t).length=(fld s t).length:=by have:=(J.afl _ _ mw).2.1;rw [G.fld mw];exact this
   have f6:=G.f6 _ _ mw
   have flm:=G.fld mw
   cases y with
   | false =>
    refine ⟨_,rfl,false,rfl,vB (vB ?_)⟩
    refine ⟨_,rfl,x,_,_,rfl,Jc.ax,(by kernel_rfl),_,rfl,x,A,s,t,rfl,Jc,G,smt,fun _ p2 H2 s2 hp2 z2=>⟨p2,_,rfl,.inl (SqL.of z2),_,1,rfl,rfl,?_⟩,fun h=>absurd mt h⟩
    rw [ln]
    exact app rfl H2 s2
   | true =>
    refine ⟨_,rfl,true,rfl,rz ⟨_,rfl,x,_,_,rfl,Jc.ax,(by kernel_rfl),_,rfl,x,A,s,t,rfl,Jc,G,smt,fun _=>⟨_,rfl,?_⟩,fun h=>absurd mt h⟩⟩
    by_cases c:t∈s.yng
    ·refine FA (by simp [c]) ?_
     refine ⟨_,rfl,x,_,_,rfl,Jc.ax,(by kernel_rfl),_,rfl,x,A,s,t,rfl,Jc,G,smt,fun _ p2 H2 s2 hp2 z2=>⟨p2,_,rfl,.inl (SqL.of z2),_,1,rfl,rfl,?_⟩,fun h=>absurd mt h⟩
     rw [ln]
     exact app (by simp [c]) H2 s2
    ·refine nr (by simp [c]) ⟨?_,sc,z⟩
     rw [tk,List.filter_append,List.map_append,←e,List.filter_cons,if_neg (by simp [c])]
     simp
  ·rw [List.length_map,List.take_of_length_le (Nat.le_refl _)] at e
   refine ⟨L,(QI s y).map fun t=>((fld s t).length:Int)+1,rfl,SqL.of (by rw [z,e,List.map_map];rfl),?_⟩
   exact k Hc (s1.trans sc)
theorem Yr {xs:List V} {h:Int} (h0:0≤h) (h1:h≤xs.length):vz xs none (some h)=xs.take h.toNat:=by
 unfold vz
 rw [HT.Lc,List.drop_zero,Nat.sub_zero]
 show xs.take (if h<0 then (h+(xs.length:Int)).toNat else min h.toNat xs.length)=_
 rw [if_neg (by omega),Nat.min_eq_left (by omega)]
theorem Ys {xs:List V} {h:Int} (h0:0≤h) (h1:h≤xs.length):vz xs (some h) none=xs.drop h.toNat:=by
 unfold vz
 rw [HT.Lc]
 have e:HT.sIx xs.length 0 (some h)=h.toNat:=by
  show (if h<0 then (h+(xs.length:Int)).toNat else min h.toNat xs.length)=_
  rw [if_neg (by omega),Nat.min_eq_left (by omega)]
 rw [e,List.take_of_length_le (by rw [List.length_drop];exact Nat.le_refl _)]
theorem R5 {xs:List V} {h:Int} {v:V} (h0:0≤h) (h1:h<xs.length):(vz xs none (some h)++[v])++vz xs (some (h+1)) none=xs.set h.toNat v:=by
 rw [Yr h0 (by omega),Ys (by omega) (by omega),List.set_eq_take_append_cons_drop,if_pos (by omega),show (h+1).toNat=h.toNat+1 by omega,List.append_assoc]
 rfl
def Cst (s s':HS):Prop:=s'.my=s.my∧s'.room=s.room∧s'.limit=s.limit
theorem Cst.rfl {s:HS}:Cst s s:=⟨Eq.refl _,Eq.refl _,Eq.refl _⟩
theorem JO {s:HS} {n:Int}:Cst s (mkR s n):=by
 unfold mkR
 split
 ·exact ⟨rfl,rfl,rfl⟩
 ·exact ⟨rfl,rfl,rfl⟩
theorem Yt {s:HS} {n:Option Int}:Cst s (rdR s n):=by
 unfold rdR
 split
 ·split<;>exact ⟨rfl,rfl,rfl⟩
 ·exact ⟨rfl,rfl,rfl⟩
theorem QJ {s:HS} {dd:Dd}:Cst s (dDo s dd).2:=by
 cases dd with
 | make h n =>
  show Cst s (fz s h n).2
  unfold fz
  split
  ·split
   ·split
    ·exact JO
    ·exact JO
   ·exact .rfl
  ·exact .rfl
 | store g k h =>
  show Cst s (iL s g k h).2
  unfold iL
  split
  ·split
   ·split<;>exact .rfl
   ·exact .rfl
  ·exact .rfl
 | load h g k =>
  show Cst s (lP s h g k).2
  unfold lP
  split
  ·split
   ·split<;>exact .rfl
   ·exact .rfl
  ·exact .rfl
 | copy h g =>
  show Cst s (rJ s h g).2
  unfold rJ
  split
  ·split<;>exact .rfl
  ·exact .rfl
 | drop h =>
  show Cst s (vt s h).2
  unfold vt
  split<;>exact .rfl
 | number h x =>
  show Cst s (jd s h x).2
  unfold jd
  split
  ·split<;>exact .rfl
  ·exact .rfl
 | name w h =>
  show Cst s (nj s w h).2
  unfold nj
  split
  ·split<;>exact .rfl
  ·exact .rfl
 | read h w =>
  show Cst s (lS s h w).2
  unfold lS
  split
  ·split
   ·exact Yt
   ·exact .rfl
  ·exact .rfl
 | word h x =>
  show Cst s (lQ s h x).2
  unfold lQ
  split
  ·split
   ·split<;>exact .rfl
   ·exact .rfl
  ·exact .rfl
 | small=>exact .rfl
 | turn =>
  show Cst s (Bb s).2
  unfold Bb
  split
  ·rename_i c
   rw [show O9 s=(none,RX s) from if_pos c]
   exact .rfl
  ·rename_i c
   rw [show AQ s=(none,QE (jz s)) from if_neg c]
   exact .rfl
structure Rm (s:HS):Prop where
 my:s.my=decide (s.room>0)
 ok:s.room=0∨7≤s.room
theorem Rm.cst {s s':HS} (r:Rm s) (c:Cst s s'):Rm s':=⟨by rw [c.1,c.2.1];exact r.my,by rw [c.2.1];exact r.ok⟩
theorem abP {s:HS} {n:Int} (r:Rm s) (n6:n≤6):mkR (mkR s n) n=mkR s n:=by
 by_cases c:s.my=true∧wsum s s.yng+(n+1)>s.room
 ·have e:mkR s n=jz s:=if_pos c
  rw [e]
  refine if_neg fun z=>?_
  have z2:wsum (jz s) []+(n+1)>s.room:=z.2
  have p:s.room>0:=by have:=c.1;rw [r.my] at this;exact of_decide_eq_true this
  have w0:wsum (jz s) []=0:=rfl
  have:=r.ok
  omega
 ·have e:mkR s n=s:=if_neg c
  rw [e,e]
theorem Mz {α:Type} {fs:List (Int×α)} {t u:Int} {w:α} (h:u≠t):(fs++[(t,w)]).lookup u=fs.lookup u:=by
 induction fs with
 | nil=>show List.lookup u [(t,w)]=none;rw [List.lookup_cons,beq_eq_false_iff_ne.mpr h];rfl
 | cons p r ih =>
  obtain ⟨a,b⟩:=p
  rw [List.cons_append,List.lookup_cons,List.lookup_cons,ih]
theorem P9 {s:HS} {h n:Int}:keys (oh s h n)=keys s++[s.nxt]:=by
 show (s.aN++[(s.nxt,List.replicate n.toNat Wd.no)]).map (·.1)=_
 rw [List.map_append]
 rfl
theorem R6 {s:HS} (g:Good s) {h n t:Int} (m:t∈keys s):LL (oh s h n) t=LL s t:=by
 obtain ⟨ws,mw⟩:=mem_keys.mp m
 have lt:=(g.lt _ _ mw).2
 have nt:t≠s.nxt:=by omega
 have e1:fld (oh s h n) t=fld s t:=by
  show ((s.aN++[(s.nxt,List.replicate n.toNat Wd.no)]).lookup t).getD []=_
  rw [Mz nt]
  rfl
 have e2:decide (t∉(oh s h n).yng)=decide (t∉s.yng):=by
  have:(t∈(oh s h n).yng)↔t∈s.yng:=by
   show t∈(if s.my=true then s.yng++[s.nxt] else s.yng)↔_
   split
   ·rw [List.mem_append,List.mem_singleton]
    exact ⟨fun z=>z.resolve_right nt,.inl⟩
   ·exact Iff.rfl
  simp only [this]
 unfold LL
 rw [e1,e2]
 rfl
theorem R7 {s:HS} (g:Good s) (r:Rm s) {h n:Int}:LL (oh s h n) s.nxt=.t [.a (.int s.nxt),.l (List.replicate n.toNat (.a .non)),.a (.bl (decide ((.int s.room:V)=.int 0))),.a .non]:=by
 have e1:fld (oh s h n) s.nxt=List.replicate n.toNat Wd.no:=by
  refine congrArg (fun o=>Option.getD o []) (?_:(oh s h n).aN.lookup s.nxt=some (List.replicate n.toNat Wd.no))
  show (s.aN++[(s.nxt,List.replicate n.toNat Wd.no)]).lookup s.nxt=_
  have:∀ fs:List (Int×List Wd),(∀ w,(s.nxt,w)∉fs)→(fs++[(s.nxt,List.replicate n.toNat Wd.no)]).lookup s.nxt=some (List.replicate n.toNat Wd.no):=by
   intro fs
   induction fs with
   | nil=>intro _;show List.lookup s.nxt [(s.nxt,List.replicate n.toNat Wd.no)]=_;rw [List.lookup_cons,beq_self_eq_true]
   | cons p r ih =>
    intro h
    obtain ⟨a,b⟩:=p
    rw [List.cons_append,List.lookup_cons,beq_eq_false_iff_ne.mpr (fun e=>h b (by rw [e];exact List.mem_cons_self))]
    exact ih fun w m=>h w (List.mem_cons_of_mem _ m)
  exact this _ g.JI
 have e2:decide (s.nxt∉(oh s h n).yng)=decide ((.int s.room:V)=.int 0):=by
  have ny:s.nxt∉s.yng:=fun m=>by obtain ⟨ws,q⟩:=g.yk _ m;exact g.JI ws q
  have er:((.int s.room:V)=.int 0)↔s.room=0:=⟨fun z=>by injection z,fun z=>by rw [z]⟩
  have hm:=r.my
  have ho:=r.ok
  have:(s.nxt∉(oh s h n).yng)↔s.room=0:=by
   show (s.nxt∉(if s.my=true then s.yng++[s.nxt] else s.yng))↔_
   by_cases c:s.room>0
   ·rw [if_pos (by rw [hm];exact decide_eq_true c)]
    exact ⟨fun z=>absurd (List.mem_append_right _ (List.mem_singleton.mpr rfl)) z,fun z=>by omega⟩
   ·rw [if_neg (by rw [hm];exact fun z=>c (of_decide_eq_true z))]
    exact ⟨fun _=>by omega,fun _=>ny⟩
  simp only [this,er]
 have e3:(oh s h n).bp.lookup s.nxt=none:=by
  show s.bp.lookup s.nxt=none
  cases q:s.bp.lookup s.nxt with
  | none=>rfl
  | some v=>obtain ⟨ws,z⟩:=g.bk _ _ (lookup_some q);exact absurd z (g.JI ws)
 unfold LL
 rw [e1,e2,e3,List.map_replicate]
 rfl
def QK (s:HS) (h n:Int):List Vl:=[.l ((s.bK.map Wd.vl).set h.toNat (Wd.th s.nxt).vl),.l (s.names.map fun n=>.a (nmV n)),.l ((keys s).map (LL s)++[.t [.a (.int s.nxt),.l (List.replicate n.toNat (.a .non)),.a (.bl (decide ((.int s.room:V)=.int 0))),.a .non]]),.l (s.dI.map fun t=>.a (.int t)),.l (s.qb.map fun t=>.a (.int t)),.a (.int (s.nxt+1)),.a (.bl s.rnd)]
theorem Qa {s:HS} (g:Good s) (r:Rm s) {h n:Int}:Q9 (oh s h n)=QK s h n:=by
 unfold Q9 QK
 rw [P9,List.map_append,show (keys s).map (LL (oh s h n))=(keys s).map (LL s) from List.map_congr_left fun t m=>R6 g m,←List.map_set]
 simp only [List.map_cons,List.map_nil,R7 g r]
 rfl
theorem apart {D:Ad} {H H':Hp} {x y:Addr} {A A' B:HA} {s s' s2:HS} (jy:IH D H y B s2) (dj:∀ b,aS x A s b→¬aS y B s2 b) (fr:Fr (aS x A s) H (aS x A' s') H'):IH D H' y B s2∧∀ b,aS x A' s' b→¬aS y B s2 b :=
 ⟨jy.keep (fun b u f q=>fr.ext b u (fun g=>dj b g f) q) fr.tup,fun b f g=>(fr.grow b f).elim (fun f'=>dj b f' g) fun e=>jy.fresh e g⟩
theorem Fr.l {F F' G:Addr→Prop} {H H':Hp} (fr:Fr F H F' H'):Fr (fun b=>F b∨G b) H (fun b=>F' b∨G b) H' :=
 ⟨fun b u n q=>fr.ext b u (fun f=>n (.inl f)) q,fun b f=>f.elim (fun f=>(fr.grow b f).imp .inl id) fun g=>.inl (.inr g),fr.all,fr.tup⟩
theorem Fr.r {F F' G:Addr→Prop} {H H':Hp} (fr:Fr F H F' H'):Fr (fun b=>G b∨F b) H (fun b=>G b∨F' b) H' :=
 ⟨fun b u n q=>fr.ext b u (fun f=>n (.inr f)) q,fun b f=>f.elim (fun g=>.inl (.inl g)) fun f=>(fr.grow b f).imp .inr id,fr.all,fr.tup⟩
theorem abQ {us:List V} {xs:List Vl} (h:us.length=xs.length) {a b c d e f g:Vl} (q:xs=[a,b,c,d,e,f,g]):∃ u0 u1 u2 u3 u4 u5 u6,us=[u0,u1,u2,u3,u4,u5,u6]:=by
 rw [q] at h
 match us,h with
 | [u0,u1,u2,u3,u4,u5,u6],_=>exact ⟨u0,u1,u2,u3,u4,u5,u6,rfl⟩
def QL (D:Ad):Sp:=fun vs H Q _=>∃ x A y B s sz,∃ h n:Int,vs=[.ref x,.ref y,.ref sz,.int h,.int n]∧IH D H x A s∧IH D H y B s∧(∀ b,aS x A s b→¬aS y B s b)∧Gd s∧Rm s∧s.nxt<9000∧ok8 h∧0≤n∧n≤6∧H sz=some (.lst [.int s.room,.int s.limit])∧¬aS x A s sz∧¬aS y B s sz∧∀ A' B' H',IH D H' x A' (fz s h n).2→IH D H' y B' (fz s h n).2→(∀ b,aS x A' (fz s h n).2 b→¬aS y B' (fz s h n).2 b)→Fr (fun b=>aS x A s b∨aS y B s b) H (fun b=>aS x A' (fz s h n).2 b∨aS y B' (fz s h n).2 b) H'→Q (.bl true) H'
abbrev ze:List Str:=["heap", "twin", "sizes", "h", "n", "before", "word", "due"]
theorem gm:av ze ["heap", "twin", "sizes", "h", "n"] (aq kr):=⟨rfl,rfl,rfl,by decide +kernel,rfl,by decide +kernel,by decide +kernel⟩
theorem wK (F:Fun K "_law_make_right" "_law_make_right" kr D.cf D.gH) (T:Txt K mg D)
  (eV:Ok P w K mg base 6 D.eU D.jv ["heap", "young"] (FZ D))
  (aI:Ok P w K mg base 5 D.bB D.cQ ["self"] (uB D))
  (cY:Ok P w K mg base 6 D.gf D.j4 ["heap"] (Ju D))
  (eu:Ok P w K mg base 10 D.gc D.j3 ["hall", "deed"] (Jr D)):Ok P w K mg base 11 D.cf D.gH ["heap", "twin", "sizes", "h", "n"] (QL D):=by
 refine ⟨?_,F.binds (ps:=["heap", "twin", "sizes", "h", "n"]) fun _ _ _ _ _ _ us hl=>match us,hl with|[_,_,_,_,_],_=>rfl⟩
 refine F.okE gm (fun vs H Q E h=>?_) (fun cdv A' outer s' H vs Q E hr h=>?_)
 ·obtain ⟨x,A,y,B,s,sz,h,n,rfl,_⟩:=h
  rfl
 ·obtain ⟨x,A,y,B,s,sz,h,n,rfl,Jx,Jy,dj,Gs,rm,few,h8,n0,n6,hz,nzx,nzy,k⟩:=h
  have hu5:=Nat.lt_of_le_of_lt (Nat.add_le_add_left (by decide:5≤64) _) hr.units
  refine ⟨_,(PSs.nox (ao (di (PW.pt (pw_and (aW AV (br ck (pv 2) ar (fun _ _=>rfl)) ar (bJ _)) (pw_and1 (aW AV (bR mP (bR mP (aR eV.g (hr.mono (by decide)) rfl T.qZ T.kO eV.b .nil eJ (ab (pv 1) (ab vk ak))) (pv 4)) ar) (br ck (pv 2) ar (fun _ _=>rfl)) (bJ _)))))
    (ai (aH (cN (pv 1) T.ae T.ic aI.g (hr.mono (by decide)) aI.b .nil eJ)))
    bC)
   (ao (bN (i:=5) gm.nd rfl (Or.inl rfl) (aR cY.g (hr.mono (by decide)) rfl T.me T.i9 cY.b .nil eJ (ab (pv 1) ak)))
   (ao (bN (i:=6) gm.nd rfl (Or.inl rfl) (aR eu.g (hr.mono (by decide)) rfl T.oX T.j5 eu.b .nil eJ (ab (pv 0) (ab (fI (ab bq (ab (pv 3) (ab (pv 4) ak)))) ak))))
   (ao (di (aW AV (bR mP (bR mP (aR eV.g (hr.mono (by decide)) rfl T.qZ T.kO eV.b .nil eJ (ab (pv 1) (ab vk ak))) (pv 4)) ar) (br ck (pv 2) ar (fun _ _=>rfl)) (bJ _))
    (ai (aP (Qf (vx og (pv 6) bq (bJ _)) (Qe (vx (Qu (n:=5) hu5) (aR cY.g (hr.mono (by decide)) rfl T.me T.i9 cY.b .nil eJ (ab (pv 0) ak)) (pv 5) (bJ _))))))
    bC)
   (ao (aH (aR eu.g (hr.mono (by decide)) rfl T.oX T.j5 eu.b .nil eJ (ab (pv 1) (ab (fI (ab bq (ab (pv 3) (ab (pv 4) ak)))) ak))))
   (ao (bN (i:=7) gm.nd rfl (Or.inl rfl) (hR (ab (bR sJ (bR sJ (FP Jj (br ck (pv 5) ar (fun _ _=>rfl)) Jh (Ji (pv 3))) (hR (ab (fI (ab bq (ab (br ck (pv 5) ar (fun _ _=>rfl)) ak))) ak))) (FP Jj (br ck (pv 5) ar (fun _ _=>rfl)) (Ji (bR mP (pv 3) ar)) Jh)) (ab (br ck (pv 5) ar (fun _ _=>rfl)) ak))))
   (ao (bN (i:=7) gm.nd rfl (Or.inl rfl) (bR sJ (pv 7) (hR (ab (bR sJ (br ck (pv 5) ar (fun _ _=>rfl)) (hR (ab (fI (ab (br ck (pv 5) ar (fun _ _=>rfl)) (ab (bR JA (hR (ab j2 ak)) (pv 4)) (ab (vx og (br ck (pv 2) ar (fun _ _=>rfl)) ar (bJ _)) (ab j2 ak))))) ak))) (ab (br ck (pv 5) ar (fun _ _=>rfl)) (ab (br ck (pv 5) ar (fun _ _=>rfl)) ak))))))
   (ai (aP (Qf (vx MZ (pv 6) j2 (bJ _)) (Qe (vx (Qu (n:=5) hu5) (aR cY.g (hr.mono (by decide)) rfl T.me T.i9 cY.b .nil eJ (ab (pv 0) ak)) (bR sJ (pv 7) (hR (ab (bR mP (br ck (pv 5) ar (fun _ _=>rfl)) ar) (ab (br ck (pv 5) ar (fun _ _=>rfl)) ak)))) (bJ _)))))))))))))),?_⟩
  refine lF fun N hN=>?_
  have G:=Gs.g
  have go:∀ (B2:HA) (H2:Hp),IH D H2 y B2 (mkR s n)→Fr (aS y B s) H (aS y B2 (mkR s n)) H2→N [some (.ref x),some (.ref y),some (.ref sz),some (.int h),some (.int n),none,none,none] H2:=by
   intro B2 H2 Jy2 fr2
   refine hN _ _ ?_
   obtain ⟨Jx2,dj2⟩:=apart Jx (fun b f g=>dj b g f) fr2
   have G2:Gd (mkR s n):=Gs.mkd
   have r2:Rm (mkR s n):=rm.cst JO
   have eM:fz s h n=(if held (mkR s n)+(n+1)>s.limit then (some .room,mkR s n) else (none,oh (mkR s n) h n)):=by unfold fz;rw [if_pos h8,if_pos ⟨n0,n6⟩]
   have eM2:fz (mkR s n) h n=(if held (mkR s n)+(n+1)>s.limit then (some .room,mkR s n) else (none,oh (mkR s n) h n)):=by unfold fz;rw [if_pos h8,if_pos ⟨n0,n6⟩,abP rm n6,FD]
   have nx2:(mkR s n).nxt=s.nxt:=vO
   have li2:(mkR s n).limit=s.limit:=FD
   have ro2:(mkR s n).room=s.room:=(JO (s:=s) (n:=n)).2.1
   obtain ⟨s2,es2⟩:∃ s2,mkR s n=s2:=⟨_,rfl⟩
   rw [es2] at Jy2 fr2 dj2 G2 r2 eM eM2 nx2 li2 ro2
   refine ⟨_,rfl,y,B2,s2,rfl,Jy2,G2.g,fun pb H3 s3 hpb0 rb=>?_⟩
   have nb:∀ b,(aS x A s b∨aS y B2 s2 b)→Ex H2 b:=fun b f=>f.elim (fun f=>by obtain ⟨u,q,_⟩:=Jx2.is f;exact ⟨u,q⟩) fun f=>by obtain ⟨u,q,_⟩:=Jy2.is f;exact ⟨u,q⟩
   have rb3:=rb.same (LI (F':=fun b=>aS x A s b∨aS y B2 s2 b) nb)
   have zz:=fr2.out nzy hz
   have Jx3:=Jx2.same s3
   have Jy3:=Jy2.same s3
   have zz3:=s3 _ _ zz.1
   refine ⟨_,rfl,_,rfl,_,rfl,by show 3≤sizeLine;decide,fun q hq=>?_⟩
   have s4:=aD.upd (o:=.tup (Dd.its (.make h n))) hq
   refine ⟨x,A,s,q,.make h n,rfl,Jx3.same s4,Gs,by omega,fK s4,⟨h8,n0,n6⟩,fun A5 H5 Jx5 fr5=>?_⟩
   have eD:dDo s (.make h n)=fz s h n:=rfl
   rw [eD] at Jx5 fr5 ⊢
   obtain ⟨Jy5,dj5⟩:=apart (Jy3.same s4) (fun b f g=>dj2 b g f) fr5
   have rb5:=(rb3.same (Bd s4)).same (LJ (fr5.l (G:=aS y B2 s2)))
   have zz5:H5 sz=some (.lst [.int s.room,.int s.limit]):=fr5.ext _ _ nzx (s4 _ _ zz3)
   have adW:Fr (fun b=>aS x A s b∨aS y B s b) H (fun b=>aS x A5 (fz s h n).2 b∨aS y B2 s2 b) H5:=(((fr2.r (G:=aS x A s)).trans (Fr.same s3)).trans (Fr.same s4)).trans fr5.l
   refine ⟨_,rfl,y,B2,s2,false,rfl,Jy5,G2.g,fun H6 s6=>?_⟩
   have Jx6:=Jx5.same s6
   have Jy6:=Jy5.same s6
   have rb6:=rb5.same (Bd s6)
   have zz6:=s6 _ _ zz5
   have Vm:=adW.trans (Fr.same s6)
   rw [NX,show wsum s2 (keys s2)=held s2 from rfl]
   refine ⟨_,rfl,held s2,n,rfl,rfl,held s2+n,1,rfl,rfl,_,rfl,sz,_,1,.int s.limit,rfl,rfl,SqL.of zz6,rfl,_,_,rfl,rfl,_,rfl,aQ (fun g=>?_) (fun g=>?_)⟩
   ·have g:held s2+(n+1)>s.limit:=by have:=of_decide_eq_true g;omega
    rw [if_pos g] at eM
    rw [eM] at Jx6 Vm dj5 k ⊢
    refine ⟨_,rfl,rfl,_,rfl,FA (decide_eq_true rfl) ?_⟩
    refine ⟨_,rfl,x,A5,s2,rfl,Jx6,G2.g,fun pt H7 s7 hpt rt=>⟨_,rfl,told s2,told s2,rt.same j0,(rb6.same j0).same s7,?_⟩⟩
    have eq:eqD 5 (told s2) (told s2)=true:=ui (rt.same j0) (rt.same j0)
    rw [eq]
    exact k A5 B2 H7 (Jx6.same s7) (Jy6.same s7) (fun b f g=>dj5 b f g) (Vm.trans (Fr.same s7))
   ·have g:¬held s2+(n+1)>s.limit:=fun z=>g (decide_eq_true (by omega))
    rw [if_neg g] at eM eM2
    rw [eM] at Jx6 Vm dj5 k rb6 ⊢
    refine ⟨_,rfl,_,rfl,_,rfl,by show 3≤sizeLine;decide,fun q2 hq2=>?_⟩
    have s7:=aD.upd (o:=.tup (Dd.its (.make h n))) hq2
    refine ⟨y,B2,s2,q2,.make h n,rfl,Jy6.same s7,G2,by omega,fK s7,⟨h8,n0,n6⟩,fun B8 H8 Jy8 fr8=>?_⟩
    rw [show dDo s2 (.make h n)=fz s2 h n from rfl,eM2] at Jy8 fr8
    obtain ⟨Jx8,dj8⟩:=apart (Jx6.same s7) (fun b f g=>dj5 b g f) fr8
    have rb8:=(rb6.same (Bd s7)).same (LJ (fr8.r (G:=aS x A5 (oh s2 h n))))
    have adX:=(Vm.trans (Fr.same s7)).trans (fr8.r (G:=aS x A5 (oh s2 h n)))
    have zz8:H8 sz=some (.lst [.int s.room,.int s.limit]):=fr8.ext _ _ zz.2 (s7 _ _ zz6)
    have r8:=rb8.same j0
    obtain ⟨pb',us,e,hpb,lu,ru⟩:=id r8
    cases e
    obtain ⟨u0,u1,u2,u3,u4,u5,u6,rfl⟩:=abQ lu rfl
    have ru0:=ru 0 _ _ rfl rfl
    have ru1:=ru 1 _ _ rfl rfl
    have ru2:=ru 2 _ _ rfl rfl
    have ru3:=ru 3 _ _ rfl rfl
    have ru4:=ru 4 _ _ rfl rfl
    obtain ⟨rfl,_⟩:=(ru 5 _ _ rfl rfl).AF
    obtain ⟨rfl,_⟩:=(ru 6 _ _ rfl rfl).AF
    obtain ⟨ph,hxs,rfl,hph,lh,rh⟩:=id ru0
    obtain ⟨pr,rws,rfl,hpr,lr,rr⟩:=id ru2
    have lh8:hxs.length=8:=by rw [lh,List.length_map];exact G2.g.h8
    have lr0:rws.length≤10000:=by rw [lr,List.length_map];unfold keys;rw [List.length_map];exact G2.g.few
    refine ⟨_,rfl,pb,_,0,.ref ph,rfl,rfl,SqL.of hpb,rfl,_,rfl,_,rfl,ph,hxs,rfl,SqL.of hph,fun q3 hq3=>?_⟩
    have a1:=aD.upd (o:=.lst (vz hxs none (some h))) hq3
    refine ⟨_,rfl,pb,_,5,.int s2.nxt,rfl,rfl,SqL.of (a1 _ _ hpb),rfl,by show 2≤sizeLine;decide,fun t1 ht1=>?_⟩
    have a2:=aD.upd (o:=.tup [.str "thing",.int s2.nxt]) ht1
    refine ⟨by show 1≤sizeLine;decide,fun l1 hl1=>?_⟩
    have a3:=aD.upd (o:=.lst [.ref t1]) hl1
    refine ⟨q3,l1,_,_,rfl,rfl,SqL.of ((a2.trans a3) _ _ (fK a1)),SqL.of (fK a3),oa (by have:=oU hxs none (some h);show (vz hxs none (some h)).length+1≤20000;omega),fun q4 hq4=>?_⟩
    have a4:=aD.upd (o:=.lst (vz hxs none (some h)++[.ref t1])) hq4
    have c4:=((a1.trans a2).trans a3).trans a4
    refine ⟨_,rfl,pb,_,0,.ref ph,rfl,rfl,SqL.of (c4 _ _ hpb),rfl,_,rfl,h,1,rfl,rfl,_,rfl,ph,hxs,rfl,SqL.of (c4 _ _ hph),fun q5 hq5=>?_⟩
    have a5:=aD.upd (o:=.lst (vz hxs (some (h+1)) none)) hq5
    refine ⟨q4,q5,_,_,rfl,rfl,SqL.of (a5 _ _ (fK a4)),SqL.of (fK a5),oa (by have:=oU hxs none (some h);have:=oU hxs (some (h+1)) none;rw [List.length_append];show (vz hxs none (some h)).length+1+(vz hxs (some (h+1)) none).length≤20000;omega),fun q6 hq6=>?_⟩
    have es:(vz hxs none (some h)++[V.ref t1])++vz hxs (some (h+1)) none=hxs.set h.toNat (.ref t1):=R5 h8.1 (by rw [lh8];exact h8.2)
    rw [es]
    have a6:=aD.upd (o:=.lst (hxs.set h.toNat (.ref t1))) hq6
    have c6:=(c4.trans a5).trans a6
    refine ⟨_,rfl,pb,_,1,u1,rfl,rfl,SqL.of (c6 _ _ hpb),rfl,by show 2≤sizeLine;decide,fun d1 hd1=>?_⟩
    have a7:=aD.upd (o:=.lst [.ref q6,u1]) hd1
    have c7:=c6.trans a7
    refine ⟨_,rfl,_,rfl,pb,_,2,.ref pr,rfl,rfl,SqL.of (c7 _ _ hpb),rfl,_,rfl,pb,_,5,.int s2.nxt,rfl,rfl,SqL.of (c7 _ _ hpb),rfl,by show 1≤sizeLine;decide,fun l2 hl2=>?_⟩
    have a8:=aD.upd (o:=.lst [V.non]) hl2
    refine ⟨_,rfl,l2,n,_,rfl,rfl,fK a8,by omega,by omega,oa (by show 1*n.toNat≤20000;omega),fun l3 hl3=>?_⟩
    rw [NH]
    have a9:=aD.upd (o:=.lst (List.replicate n.toNat V.non)) hl3
    have c9:=(c7.trans a8).trans a9
    refine ⟨_,rfl,sz,_,0,.int s.room,rfl,rfl,SqL.of (c9 _ _ zz8),rfl,rfl,by show 4≤sizeLine;decide,fun t2 ht2=>?_⟩
    have a10:=aD.upd (o:=.tup [V.int s2.nxt,.ref l3,.bl (decide ((.int s.room:V)=.int 0)),.non]) ht2
    refine ⟨by show 1≤sizeLine;decide,fun l4 hl4=>?_⟩
    have a11:=aD.upd (o:=.lst [V.ref t2]) hl4
    have c11:=(c9.trans a10).trans a11
    refine ⟨pr,l4,_,_,rfl,rfl,SqL.of (c11 _ _ hpr),SqL.of (fK a11),oa (by show rws.length+1≤20000;omega),fun q7 hq7=>?_⟩
    have a12:=aD.upd (o:=.lst (rws++[V.ref t2])) hq7
    have c12:=c11.trans a12
    refine ⟨_,rfl,pb,_,3,u3,rfl,rfl,SqL.of (c12 _ _ hpb),rfl,_,rfl,pb,_,4,u4,rfl,rfl,SqL.of (c12 _ _ hpb),rfl,by show 3≤sizeLine;decide,fun d2 hd2=>?_⟩
    have a13:=aD.upd (o:=.lst [V.ref q7,u3,u4]) hd2
    have e13:=(((((a8.trans a9).trans a10).trans a11).trans a12).trans a13)
    refine ⟨d1,d2,_,_,rfl,rfl,SqL.of (e13 _ _ (fK a7)),SqL.of (fK a13),by show 5≤sizeLine;decide,fun d3 hd3=>?_⟩
    have a14:=aD.upd (o:=.lst ([V.ref q6,u1]++[V.ref q7,u3,u4])) hd3
    have c14:=(c12.trans a13).trans a14
    have Jx9:=Jx8.same c14
    have Jy9:=Jy8.same c14
    have gA:Gd (oh s2 h n):=G2.add n6 (by omega)
    refine ⟨_,rfl,rfl,_,rfl,FA (by rfl) ?_⟩
    refine ⟨_,rfl,x,A5,oh s2 h n,rfl,Jx9,gA.g,fun pt H10 s10 hpt rt=>?_⟩
    refine ⟨_,rfl,_,rfl,pb,_,5,.int s2.nxt,rfl,rfl,SqL.of (s10 _ _ (c14 _ _ hpb)),rfl,_,1,rfl,rfl,_,rfl,pb,_,6,.bl s2.rnd,rfl,rfl,SqL.of (s10 _ _ (c14 _ _ hpb)),rfl,by show 2≤sizeLine;decide,fun d4 hd4=>?_⟩
    have a15:=aD.upd (o:=.lst [V.int (s2.nxt+1),.bl s2.rnd]) hd4
    refine ⟨d3,d4,_,_,rfl,rfl,SqL.of (a15 _ _ (s10 _ _ (fK a14))),SqL.of (fK a15),by show 7≤sizeLine;decide,fun d5 hd5=>?_⟩
    have a16:=aD.upd (o:=.lst (([V.ref q6,u1]++[V.ref q7,u3,u4])++[V.int (s2.nxt+1),.bl s2.rnd])) hd5
    have c16:=(s10.trans a15).trans a16
    have cF:=c14.trans c16
    have rT:=((rt.same j0).same a15).same a16
    have rD:Rp (upd (upd H10 d4 (.lst [V.int (s2.nxt+1),.bl s2.rnd])) d5 (.lst (([V.ref q6,u1]++[V.ref q7,u3,u4])++[V.int (s2.nxt+1),.bl s2.rnd]))) 5 (.ref d5) (.l (QK s2 h n)):=by
     refine NS (fK a16) rfl fun j u z h1 h2=>?_
     match j,h1,h2 with
     | 0,h1,h2 =>
      cases h1;cases h2
      have zq:_:=((((((((a7.trans a8).trans a9).trans a10).trans a11).trans a12).trans a13).trans a14).trans c16) _ _ (fK a6)
      refine NS zq (by rw [List.length_set,List.length_set];exact lh) fun i v w g1 g2=>?_
      rw [List.getElem?_set] at g1 g2
      by_cases ci:h.toNat=i
      ·rw [if_pos ci] at g1 g2
       have zt:_:=((((((((((((a3.trans a4).trans a5).trans a6).trans a7).trans a8).trans a9).trans a10).trans a11).trans a12).trans a13).trans a14).trans c16) _ _ (fK a2)
       split at g1
       ·split at g2
        ·cases g1;cases g2
         exact JM 2 (M7 zt)
        ·cases g2
       ·cases g1
      ·rw [if_neg ci] at g1 g2
       exact (rh i v w g1 g2).same cF
     | 1,h1,h2=>cases h1;cases h2;exact ru1.same cF
     | 2,h1,h2 =>
      cases h1;cases h2
      have zq:_:=(((a13.trans a14).trans c16)) _ _ (fK a12)
      refine NS zq (by rw [List.length_append,List.length_append,lr];rfl) fun i v w g1 g2=>?_
      rcases Nat.lt_or_ge i rws.length with ci|ci
      ·rw [List.getElem?_append_left ci] at g1
       rw [List.getElem?_append_left (by rw [←lr];exact ci)] at g2
       exact (rr i v w g1 g2).same cF
      ·rw [List.getElem?_append_right ci] at g1
       rw [List.getElem?_append_right (by rw [←lr];exact ci),←lr] at g2
       have c0:i-rws.length=0:=by have:=(List.getElem?_eq_some_iff.mp g1).1;rw [List.length_singleton] at this;omega
       rw [c0] at g1 g2
       cases g1;cases g2
       have zt:_:=(((((a11.trans a12).trans a13).trans a14).trans c16)) _ _ (fK a10)
       refine aca zt rfl fun j v w g1 g2=>?_
       match j,g1,g2 with
       | 0,g1,g2=>cases g1;cases g2;exact fli
       | 1,g1,g2 =>
        cases g1;cases g2
        have zl:_:=((((((a10.trans a11).trans a12).trans a13).trans a14).trans c16)) _ _ (fK a9)
        refine NS zl (by rw [List.length_replicate,List.length_replicate]) fun i v w g1 g2=>?_
        rw [List.eq_of_mem_replicate (List.mem_of_getElem? g1),List.eq_of_mem_replicate (List.mem_of_getElem? g2)]
        exact Rp.flat rfl
       | 2,g1,g2=>cases g1;cases g2;rw [ro2];exact Rp.flat rfl
       | 3,g1,g2=>cases g1;cases g2;exact Rp.flat rfl
       | j+4,g1,g2=>cases g1
     | 3,h1,h2=>cases h1;cases h2;exact ru3.same cF
     | 4,h1,h2=>cases h1;cases h2;exact ru4.same cF
     | 5,h1,h2=>cases h1;cases h2;exact fli
     | 6,h1,h2=>cases h1;cases h2;exact Rp.flat rfl
     | j+7,h1,h2=>cases h1
    have eT:told (oh s2 h n)=.l (QK s2 h n):=congrArg Vl.l (Qa G2.g r2)
    rw [eT] at rT
    refine ⟨_,_,rT,rD,?_⟩
    have eq:eqD 5 (.l (QK s2 h n)) (.l (QK s2 h n))=true:=ui rT rT
    rw [eq]
    exact k A5 B8 _ ((Jx9.same c16)) (Jy9.same c16) (fun b f g=>dj8 b g f) ((adX.trans (Fr.same c14)).trans (Fr.same c16))
  refine ⟨_,rfl,sz,_,0,.int s.room,rfl,rfl,SqL.of hz,rfl,_,_,rfl,rfl,_,rfl,aQ (fun g=>?_) (fun g=>?_)⟩
  ·have my:s.my=true:=by rw [rm.my];exact g
   refine ⟨_,rfl,y,B,s,true,rfl,Jy,G,fun H1 s1=>?_⟩
   rw [R4 G]
   refine ⟨_,rfl,wsum s s.yng,n,rfl,rfl,wsum s s.yng+n,1,rfl,rfl,_,rfl,sz,_,0,.int s.room,rfl,rfl,SqL.of (s1 _ _ hz),rfl,_,_,rfl,rfl,_,rfl,aQ (fun g2=>?_) (fun g2=>?_)⟩
   ·have em:mkR s n=jz s:=if_pos ⟨my,by have:=of_decide_eq_true g2;omega⟩
    rw [em] at go
    exact ⟨_,rfl,y,_,_,rfl,(Jy.same s1).ax,(by kernel_rfl),y,B,s,rfl,Jy.same s1,G,fun B2 H2 J2 fr2=>go B2 H2 J2 ((Fr.same s1).trans fr2)⟩
   ·have em:mkR s n=s:=if_neg fun z=>g2 (decide_eq_true (by have:=z.2;omega))
    rw [em] at go
    exact go B H1 (Jy.same s1) (Fr.same s1)
  ·have em:mkR s n=s:=if_neg fun z=>g (by have:=z.1;rw [rm.my] at this;exact this)
   rw [em] at go
   exact rz (go B H Jy Fr.refl)
theorem qL (e:Option Er):YE (wdV e) (wdV e)=true:=by cases e<;>rfl
structure T2 (D:Ad) (H:Hp) (x:Addr) (A:HA) (y:Addr) (B:HA) (s:HS) (sz:Addr) (rm li:Int) (ld:Addr) (dv:List V):Prop where
 jx:IH D H x A s
 jy:IH D H y B s
 dj:∀ b,aS x A s b→¬aS y B s b
 g:Gd s
 r:Rm s
 er:s.room=rm
 el:s.limit=li
 z:H sz=some (.lst [.int rm,.int li])
 zx:¬aS x A s sz
 zy:¬aS y B s sz
 d:H ld=some (.lst dv)
 dx:¬aS x A s ld
 dy:¬aS y B s ld
 ds:∀ v∈dv,∃ q dd,v=.ref q∧H q=some (.tup (Dd.its dd))∧dd.ok
section
variable {D:Ad} {H H':Hp} {x:Addr} {A A':HA} {y:Addr} {B B':HA} {s s':HS} {sz:Addr} {rm li:Int} {ld:Addr} {dv:List V}
theorem T2.same (t:T2 D H x A y B s sz rm li ld dv) (k:aD H H'):T2 D H' x A y B s sz rm li ld dv :=
 ⟨t.jx.same k,t.jy.same k,t.dj,t.g,t.r,t.er,t.el,k _ _ t.z,t.zx,t.zy,k _ _ t.d,t.dx,t.dy,fun v m=>by obtain ⟨q,dd,e,h,ok⟩:=t.ds v m;exact ⟨q,dd,e,k _ _ h,ok⟩⟩
theorem T2.step (t:T2 D H x A y B s sz rm li ld dv) (jx:IH D H' x A' s') (jy:IH D H' y B' s') (dj:∀ b,aS x A' s' b→¬aS y B' s' b) (g:Gd s') (c:Cst s s') (fr:Fr (fun b=>aS x A s b∨aS y B s b) H (fun b=>aS x A' s' b∨aS y B' s' b) H'):T2 D H' x A' y B' s' sz rm li ld dv:=by
 have o1:=fr.out (fun f=>f.elim t.zx t.zy) t.z
 have o2:=fr.out (fun f=>f.elim t.dx t.dy) t.d
 exact ⟨jx,jy,dj,g,t.r.cst c,c.2.1.trans t.er,c.2.2.trans t.el,o1.1,fun f=>o1.2 (.inl f),fun f=>o1.2 (.inr f),o2.1,fun f=>o2.2 (.inl f),fun f=>o2.2 (.inr f),fun v m=>by obtain ⟨q,dd,e,h,ok⟩:=t.ds v m;exact ⟨q,dd,e,fr.tup _ _ h,ok⟩⟩
end
abbrev JP:List Str:=["script", "heap", "twin", "sizes", "place", "deed"]
theorem AR:av JP ["script"] (aq jF):=⟨rfl,rfl,rfl,by decide +kernel,rfl,by decide +kernel,by decide +kernel⟩
theorem Yu (F:Fun K "law" "law" jF D.vo D.Me) (T:Txt K mg D)
  (j6:Ok P w K mg base 6 D.gL D.l7 ["script"] (NP D K))
  (nB:Ok P w K mg base 1 D.fG D.kN ["script"] (LP K))
  (nC:Ok P w K mg base 3 D.cM D.kM ["script", "most"] (LH K))
  (iU:Ok P w K mg base 11 D.cf D.gH ["heap", "twin", "sizes", "h", "n"] (QL D))
  (eu:Ok P w K mg base 10 D.gc D.j3 ["hall", "deed"] (Jr D))
  (cY:Ok P w K mg base 6 D.gf D.j4 ["heap"] (Ju D))
  (dM:Ok P w K mg base 5 D.cL D.fR ["self"] (Jq D))
  (eV:Ok P w K mg base 6 D.eU D.jv ["heap", "young"] (FZ D)):Ok P w K mg base 12 D.vo D.Me ["script"] (O1 K):=by
 refine ⟨?_,F.binds (ps:=["script"]) fun _ _ _ _ _ _ us hl=>match us,hl with|[_],_=>rfl⟩
 refine F.okE AR (fun vs H Q E h=>?_) (fun cdv A' outer s' H vs Q E hr h=>?_)
 ·obtain ⟨a,ns,rfl,_⟩:=h
  rfl
 ·obtain ⟨a,ns,rfl,hS,hlen,k⟩:=h
  have hu5:=Nat.lt_of_le_of_lt (Nat.add_le_add_left (by decide:5≤64) _) hr.units
  have S0:PS (cxE P w K mg base JP "law" (aq jF) D.vo cdv A' outer s' H E).nox ((bS jF).getD 0 (.Pass ⟨0,0,0,0⟩)) _:=(bN (i:=1) AR.nd rfl (Or.inl rfl) (aR j6.g (hr.mono (by decide)) rfl T.Dv T.oY j6.b .nil eJ (ab (pv 0) ak)))
  have S1:PS (cxE P w K mg base JP "law" (aq jF) D.vo cdv A' outer s' H E).nox ((bS jF).getD 1 (.Pass ⟨0,0,0,0⟩)) _:=(bN (i:=2) AR.nd rfl (Or.inl rfl) (aR j6.g (hr.mono (by decide)) rfl T.Dv T.oY j6.b .nil eJ (ab (pv 0) ak)))
  have S2:PS (cxE P w K mg base JP "law" (aq jF) D.vo cdv A' outer s' H E).nox ((bS jF).getD 2 (.Pass ⟨0,0,0,0⟩)) _:=(bN (i:=3) AR.nd rfl (Or.inl rfl) (aR nB.g (hr.mono (by decide)) rfl T.HK T.qY nB.b .nil eJ (ab (pv 0) ak)))
  have S3:PS (cxE P w K mg base JP "law" (aq jF) D.vo cdv A' outer s' H E).nox ((bS jF).getD 3 (.Pass ⟨0,0,0,0⟩)) _:=(pw PassesOwn.never rfl (Jn rfl T.mh (ab (aR nC.g (hr.mono (by decide)) rfl T.HJ T.qX nC.b .nil eJ (ab (pv 0) (ab ar ak))) ak)) (MX rfl (qF (fH (i:=4) AR.nd rfl (Or.inl rfl)) (qF (fH (i:=5) AR.nd rfl (Or.inl rfl)) Jf)))
    (ao (di (aW og (bR iI (pv 4) ar) ar (bJ _))
     (ai (bN (i:=5) AR.nd rfl (Or.inl rfl) (fI (ab bq (ab (bR iI (bR mF (pv 4) ar) ar) (ab (bR iI (bR mF (pv 4) ar) ar) ak))))))
     bC)
    (ao (di (aW og (br cn (pv 5) ar (fun _ _=>rfl)) bq (bJ _))
     (ai (di (qE (vw (aR iU.g (hr.mono (by decide)) rfl T.yq T.ku iU.b .nil eJ (ab (pv 1) (ab (pv 2) (ab (pv 3) (ab (br cn (pv 5) ar (fun _ _=>rfl)) (ab (br cn (pv 5) ar (fun _ _=>rfl)) ak))))))))
      (ai (aP vk))
      bC))
     (ai (di (aW L1 (aR eu.g (hr.mono (by decide)) rfl T.oX T.j5 eu.b .nil eJ (ab (pv 1) (ab (pv 5) ak))) (aR eu.g (hr.mono (by decide)) rfl T.oX T.j5 eu.b .nil eJ (ab (pv 2) (ab (pv 5) ak))) (bJ _))
      (ai (aP vk))
      bC)))
    (ai (di (PW.pt (pw_or (aW (Yh (n:=5) hu5) (aR cY.g (hr.mono (by decide)) rfl T.me T.i9 cY.b .nil eJ (ab (pv 1) ak)) (aR cY.g (hr.mono (by decide)) rfl T.me T.i9 cY.b .nil eJ (ab (pv 2) ak)) (bJ _)) (pw_or1 (aW L1 (cN (pv 1) T.ae T.oz dM.g (hr.mono (by decide)) dM.b .nil eJ) (aR eV.g (hr.mono (by decide)) rfl T.qZ T.kO eV.b .nil eJ (ab (pv 1) (ab vk ak))) (bJ _)))))
     (ai (aP vk))
     bC)))))
  have S4:PS (cxE P w K mg base JP "law" (aq jF) D.vo cdv A' outer s' H E).nox ((bS jF).getD 4 (.Pass ⟨0,0,0,0⟩)) _:=(aP vk)
  have hb:bS jF=[(bS jF).getD 0 (.Pass ⟨0,0,0,0⟩),(bS jF).getD 1 (.Pass ⟨0,0,0,0⟩),(bS jF).getD 2 (.Pass ⟨0,0,0,0⟩),(bS jF).getD 3 (.Pass ⟨0,0,0,0⟩),(bS jF).getD 4 (.Pass ⟨0,0,0,0⟩)]:=rfl
  generalize (bS jF).getD 0 (.Pass ⟨0,0,0,0⟩)=st0 at S0 hb
  generalize (bS jF).getD 1 (.Pass ⟨0,0,0,0⟩)=st1 at S1 hb
  generalize (bS jF).getD 2 (.Pass ⟨0,0,0,0⟩)=st2 at S2 hb
  generalize (bS jF).getD 3 (.Pass ⟨0,0,0,0⟩)=st3 at S3 hb
  generalize (bS jF).getD 4 (.Pass ⟨0,0,0,0⟩)=st4 at S4 hb
  generalize bS jF=bd at hb ⊢
  subst hb
  refine ⟨_,(PSs.nox (ao S0 (ao S1 (ao S2 (ao S3 (ai S4)))))),?_⟩
  refine ⟨_,rfl,a,ns,rfl,hS,fun x A room limit H1 s1 F1 J1 er=>?_⟩
  refine ⟨_,rfl,a,ns,rfl,s1.seq hS,fun y B room2 Ey H2 s2 F2 J2 er2=>?_⟩
  have e12:(room2,Ey)=(room,limit):=er2.trans er.symm
  injection e12 with e1 e2
  subst e1 e2
  have J0:=J1
  replace J1:=J1.same s2
  refine ⟨_,rfl,a,ns,rfl,(s1.trans s2).seq hS,fun sz H3 s3 hsz zsz=>?_⟩
  refine ⟨_,rfl,a,ns,90,rfl,((s1.trans s2).trans s3).seq hS,hlen,fun ld dv HF sF hld zld ldv zds=>?_⟩
  rw [←er] at zsz
  obtain ⟨ro,li1,li2⟩:=abN ns.head?
  rw [←er] at ro li1 li2
  have T0:T2 D HF x A y B (s0 (decide (room2>0)) room2 Ey) sz room2 Ey ld dv :=
   ⟨(J1.same s3).same sF,(J2.same s3).same sF,(fun b f g=>by obtain ⟨u,q,_⟩:=J0.is f;rw [F2 b g] at q;cases q),gd0,⟨rfl,ro.imp id fun z=>z.1⟩,rfl,rfl,sF _ _ zsz,J1.fresh hsz,J2.fresh hsz,zld,(J1.same s3).fresh hld,(J2.same s3).fresh hld,zds⟩
  refine ⟨ld,rfl,⟨_,SqL.of zld⟩,FV (K:=K) (a:=ld) (xs:=dv) (fun i σ Hx=>∃ A B s v4 v5,σ=[some (.ref a),some (.ref x),some (.ref y),some (.ref sz),v4,v5]∧T2 D Hx x A y B s sz room2 Ey ld dv∧s.nxt≤i)
   ⟨A,B,_,none,none,rfl,T0,Int.le_refl _⟩ (fun i σ Hx _ ⟨_,_,_,_,_,_,t,_⟩=>SqL.of t.d) ?_ ?_⟩
  ·rintro i v σ Hx tp hx ⟨A,B,s,v4,v5,rfl,t0,sn⟩ htp
   have hil:i<dv.length:=(List.getElem?_eq_some_iff.mp hx).1
   have u1:=aD.upd (o:=.tup [.int (i:Int),v]) htp
   refine ⟨tp,_,rfl,SqT.of (fK u1),rfl,_,_,rfl,_,_,rfl,rfl,?_⟩
   have t1:=t0.same u1
   obtain ⟨q,dd,rfl,hq,ok⟩:=t1.ds v (List.mem_of_getElem? hx)
   obtain ⟨Hy,eHy⟩:∃ Hy,upd Hx tp (.tup [.int (i:Int),.ref q])=Hy:=⟨_,rfl⟩
   rw [eHy] at t1 hq ⊢
   clear eHy u1 t0
   refine lF fun N hN=>?_
   have few:s.nxt<9000:=by omega
   have main:∀ (q:Addr) (dd:Dd) (Hz:Hp),aD Hy Hz→Hz q=some (.tup (Dd.its dd))→dd.ok→N [some (.ref a),some (.ref x),some (.ref y),some (.ref sz),some (.int (i:Int)),some (.ref q)] Hz:=by
    intro q dd Hz sz' hq ok
    refine hN _ _ ?_
    have t2:=t1.same sz'
    refine lF fun N2 hN2=>?_
    obtain ⟨g3,n3,n4⟩:=abO t2.g (by omega) ok
    have go:∀ (A3 B3:HA) (H3:Hp),T2 D H3 x A3 y B3 (dDo s dd).2 sz room2 Ey ld dv→N2 [some (.ref a),some (.ref x),some (.ref y),some (.ref sz),some (.int (i:Int)),some (.ref q)] H3:=by
     intro A3 B3 H3 t3
     refine hN2 _ _ ?_
     obtain ⟨s',es'⟩:∃ s',(dDo s dd).2=s':=⟨_,rfl⟩
     rw [es'] at t3 n3 n4
     refine ⟨_,rfl,x,A3,s',rfl,t3.jx,t3.g.g,fun p1 H4 s4 hp1 r1=>⟨_,rfl,y,B3,s',rfl,t3.jy.same s4,t3.g.g,fun p2 H5 s5 hp2 r2=>?_⟩⟩
     have t5:=(t3.same s4).same s5
     have eq:eqD 5 (told s') (told s')=true:=ui (r2.same j0) (r2.same j0)
     refine ⟨told s',told s',(r1.same j0).same s5,r2.same j0,_,rfl,nr (by rw [eq];rfl) ?_⟩
     refine ⟨_,rfl,x,_,_,rfl,t5.jx.ax,(by kernel_rfl),x,A3,s',rfl,t5.jx,t5.g.g,fun H6 s6=>⟨_,rfl,x,A3,s',false,rfl,t5.jx.same s6,t5.g.g,fun H7 s7=>?_⟩⟩
     rw [NX]
     exact ⟨rfl,_,rfl,nr (by simp [held]) ⟨A3,B3,s',_,_,rfl,(t5.same s6).same s7,by omega⟩⟩
    have Be:∀ (K2:Hp→Prop),(∀ A3 B3 H3,T2 D H3 x A3 y B3 (dDo s dd).2 sz room2 Ey ld dv→K2 H3)→∀ A3 H3,IH D H3 x A3 (dDo s dd).2→Fr (aS x A s) Hz (aS x A3 (dDo s dd).2) H3→IH D H3 y B s∧H3 q=some (.tup (Dd.its dd))∧∀ B4 H4,IH D H4 y B4 (dDo s dd).2→Fr (aS y B s) H3 (aS y B4 (dDo s dd).2) H4→K2 H4:=by
     intro K2 hK A3 H3 J3 fr3
     obtain ⟨Jy3,dj3⟩:=apart t2.jy t2.dj fr3
     refine ⟨Jy3,fr3.tup _ _ hq,fun B4 H4 J4 fr4=>?_⟩
     obtain ⟨Jx4,dj4⟩:=apart J3 (fun b f g=>dj3 b g f) fr4
     exact hK A3 B4 H4 (t2.step Jx4 J4 (fun b f g=>dj4 b g f) g3 QJ (fr3.l.trans fr4.r))
    cases dd with
    | make h n =>
     replace hq:Hz q=some (.tup [.str "make",.int h,.int n]):=hq
     refine ⟨_,rfl,q,_,0,.str "make",rfl,rfl,SqT.of hq,rfl,rfl,_,rfl,aQ (fun _=>?_) (fun z=>absurd (by decide +kernel) z)⟩
     have zz:=t2.z
     rw [←t2.er,←t2.el] at zz
     exact ⟨_,rfl,_,rfl,_,rfl,_,rfl,q,_,1,.int h,rfl,rfl,SqT.of hq,rfl,_,rfl,q,_,2,.int n,rfl,rfl,SqT.of hq,rfl,x,A,y,B,s,sz,h,n,rfl,t2.jx,t2.jy,t2.dj,t2.g,t2.r,few,ok.1,ok.2.1,ok.2.2,zz,t2.zx,t2.zy,fun A3 B3 H3 Jx3 Jy3 dj3 fr3=>⟨true,rfl,rz (go A3 B3 H3 (t2.step Jx3 Jy3 dj3 g3 (QJ (dd:=.make h n)) fr3))⟩⟩
    | store g kk h =>
     replace hq:Hz q=some (.tup [.str "store",.int g,.int kk,.int h]):=hq
     refine ⟨_,rfl,q,_,0,.str "store",rfl,rfl,SqT.of hq,rfl,rfl,_,rfl,aQ (fun z=>absurd z (by decide +kernel)) (fun _=>?_)⟩
     refine ⟨_,rfl,_,rfl,x,A,s,q,.store g kk h,rfl,t2.jx,t2.g,by omega,hq,ok,fun A3 H3 J3 fr3=>?_⟩
     obtain ⟨Jy3,hq3,fin⟩:=Be (fun H4=>N2 [some (.ref a),some (.ref x),some (.ref y),some (.ref sz),some (.int (i:Int)),some (.ref q)] H4) go A3 H3 J3 fr3
     exact ⟨_,rfl,_,rfl,y,B,s,q,.store g kk h,rfl,Jy3,t2.g,by omega,hq3,ok,fun B4 H4 J4 fr4=>⟨qL _,_,rfl,nr (by simp) (fin B4 H4 J4 fr4)⟩⟩
    | load h g kk =>
     replace hq:Hz q=some (.tup [.str "load",.int h,.int g,.int kk]):=hq
     refine ⟨_,rfl,q,_,0,.str "load",rfl,rfl,SqT.of hq,rfl,rfl,_,rfl,aQ (fun z=>absurd z (by decide +kernel)) (fun _=>?_)⟩
     refine ⟨_,rfl,_,rfl,x,A,s,q,.load h g kk,rfl,t2.jx,t2.g,by omega,hq,ok,fun A3 H3 J3 fr3=>?_⟩
     obtain ⟨Jy3,hq3,fin⟩:=Be (fun H4=>N2 [some (.ref a),some (.ref x),some (.ref y),some (.ref sz),some (.int (i:Int)),some (.ref q)] H4) go A3 H3 J3 fr3
     exact ⟨_,rfl,_,rfl,y,B,s,q,.load h g kk,rfl,Jy3,t2.g,by omega,hq3,ok,fun B4 H4 J4 fr4=>⟨qL _,_,rfl,nr (by simp) (fin B4 H4 J4 fr4)⟩⟩
    | copy h g =>
     replace hq:Hz q=some (.tup [.str "copy",.int h,.int g]):=hq
     refine ⟨_,rfl,q,_,0,.str "copy",rfl,rfl,SqT.of hq,rfl,rfl,_,rfl,aQ (fun z=>absurd z (by decide +kernel)) (fun _=>?_)⟩
     refine ⟨_,rfl,_,rfl,x,A,s,q,.copy h g,rfl,t2.jx,t2.g,by omega,hq,ok,fun A3 H3 J3 fr3=>?_⟩
     obtain ⟨Jy3,hq3,fin⟩:=Be (fun H4=>N2 [some (.ref a),some (.ref x),some (.ref y),some (.ref sz),some (.int (i:Int)),some (.ref q)] H4) go A3 H3 J3 fr3
     exact ⟨_,rfl,_,rfl,y,B,s,q,.copy h g,rfl,Jy3,t2.g,by omega,hq3,ok,fun B4 H4 J4 fr4=>⟨qL _,_,rfl,nr (by simp) (fin B4 H4 J4 fr4)⟩⟩
    | drop h =>
     replace hq:Hz q=some (.tup [.str "drop",.int h]):=hq
     refine ⟨_,rfl,q,_,0,.str "drop",rfl,rfl,SqT.of hq,rfl,rfl,_,rfl,aQ (fun z=>absurd z (by decide +kernel)) (fun _=>?_)⟩
     refine ⟨_,rfl,_,rfl,x,A,s,q,.drop h,rfl,t2.jx,t2.g,by omega,hq,ok,fun A3 H3 J3 fr3=>?_⟩
     obtain ⟨Jy3,hq3,fin⟩:=Be (fun H4=>N2 [some (.ref a),some (.ref x),some (.ref y),some (.ref sz),some (.int (i:Int)),some (.ref q)] H4) go A3 H3 J3 fr3
     exact ⟨_,rfl,_,rfl,y,B,s,q,.drop h,rfl,Jy3,t2.g,by omega,hq3,ok,fun B4 H4 J4 fr4=>⟨qL _,_,rfl,nr (by simp) (fin B4 H4 J4 fr4)⟩⟩
    | number h z =>
     replace hq:Hz q=some (.tup [.str "number",.int h,.int z]):=hq
     refine ⟨_,rfl,q,_,0,.str "number",rfl,rfl,SqT.of hq,rfl,rfl,_,rfl,aQ (fun z=>absurd z (by decide +kernel)) (fun _=>?_)⟩
     refine ⟨_,rfl,_,rfl,x,A,s,q,.number h z,rfl,t2.jx,t2.g,by omega,hq,ok,fun A3 H3 J3 fr3=>?_⟩
     obtain ⟨Jy3,hq3,fin⟩:=Be (fun H4=>N2 [some (.ref a),some (.ref x),some (.ref y),some (.ref sz),some (.int (i:Int)),some (.ref q)] H4) go A3 H3 J3 fr3
     exact ⟨_,rfl,_,rfl,y,B,s,q,.number h z,rfl,Jy3,t2.g,by omega,hq3,ok,fun B4 H4 J4 fr4=>⟨qL _,_,rfl,nr (by simp) (fin B4 H4 J4 fr4)⟩⟩
    | name w h =>
     replace hq:Hz q=some (.tup [.str "name",.int w,.int h]):=hq
     refine ⟨_,rfl,q,_,0,.str "name",rfl,rfl,SqT.of hq,rfl,rfl,_,rfl,aQ (fun z=>absurd z (by decide +kernel)) (fun _=>?_)⟩
     refine ⟨_,rfl,_,rfl,x,A,s,q,.name w h,rfl,t2.jx,t2.g,by omega,hq,ok,fun A3 H3 J3 fr3=>?_⟩
     obtain ⟨Jy3,hq3,fin⟩:=Be (fun H4=>N2 [some (.ref a),some (.ref x),some (.ref y),some (.ref sz),some (.int (i:Int)),some (.ref q)] H4) go A3 H3 J3 fr3
     exact ⟨_,rfl,_,rfl,y,B,s,q,.name w h,rfl,Jy3,t2.g,by omega,hq3,ok,fun B4 H4 J4 fr4=>⟨qL _,_,rfl,nr (by simp) (fin B4 H4 J4 fr4)⟩⟩
    | read h w =>
     replace hq:Hz q=some (.tup [.str "read",.int h,.int w]):=hq
     refine ⟨_,rfl,q,_,0,.str "read",rfl,rfl,SqT.of hq,rfl,rfl,_,rfl,aQ (fun z=>absurd z (by decide +kernel)) (fun _=>?_)⟩
     refine ⟨_,rfl,_,rfl,x,A,s,q,.read h w,rfl,t2.jx,t2.g,by omega,hq,ok,fun A3 H3 J3 fr3=>?_⟩
     obtain ⟨Jy3,hq3,fin⟩:=Be (fun H4=>N2 [some (.ref a),some (.ref x),some (.ref y),some (.ref sz),some (.int (i:Int)),some (.ref q)] H4) go A3 H3 J3 fr3
     exact ⟨_,rfl,_,rfl,y,B,s,q,.read h w,rfl,Jy3,t2.g,by omega,hq3,ok,fun B4 H4 J4 fr4=>⟨qL _,_,rfl,nr (by simp) (fin B4 H4 J4 fr4)⟩⟩
    | word h z =>
     replace hq:Hz q=some (.tup [.str "word",.int h,.int z]):=hq
     refine ⟨_,rfl,q,_,0,.str "word",rfl,rfl,SqT.of hq,rfl,rfl,_,rfl,aQ (fun z=>absurd z (by decide +kernel)) (fun _=>?_)⟩
     refine ⟨_,rfl,_,rfl,x,A,s,q,.word h z,rfl,t2.jx,t2.g,by omega,hq,ok,fun A3 H3 J3 fr3=>?_⟩
     obtain ⟨Jy3,hq3,fin⟩:=Be (fun H4=>N2 [some (.ref a),some (.ref x),some (.ref y),some (.ref sz),some (.int (i:Int)),some (.ref q)] H4) go A3 H3 J3 fr3
     exact ⟨_,rfl,_,rfl,y,B,s,q,.word h z,rfl,Jy3,t2.g,by omega,hq3,ok,fun B4 H4 J4 fr4=>⟨qL _,_,rfl,nr (by simp) (fin B4 H4 J4 fr4)⟩⟩
    | small =>
     replace hq:Hz q=some (.tup [.str "small"]):=hq
     refine ⟨_,rfl,q,_,0,.str "small",rfl,rfl,SqT.of hq,rfl,rfl,_,rfl,aQ (fun z=>absurd z (by decide +kernel)) (fun _=>?_)⟩
     refine ⟨_,rfl,_,rfl,x,A,s,q,.small,rfl,t2.jx,t2.g,by omega,hq,ok,fun A3 H3 J3 fr3=>?_⟩
     obtain ⟨Jy3,hq3,fin⟩:=Be (fun H4=>N2 [some (.ref a),some (.ref x),some (.ref y),some (.ref sz),some (.int (i:Int)),some (.ref q)] H4) go A3 H3 J3 fr3
     exact ⟨_,rfl,_,rfl,y,B,s,q,.small,rfl,Jy3,t2.g,by omega,hq3,ok,fun B4 H4 J4 fr4=>⟨qL _,_,rfl,nr (by simp) (fin B4 H4 J4 fr4)⟩⟩
    | turn =>
     replace hq:Hz q=some (.tup [.str "turn"]):=hq
     refine ⟨_,rfl,q,_,0,.str "turn",rfl,rfl,SqT.of hq,rfl,rfl,_,rfl,aQ (fun z=>absurd z (by decide +kernel)) (fun _=>?_)⟩
     refine ⟨_,rfl,_,rfl,x,A,s,q,.turn,rfl,t2.jx,t2.g,by omega,hq,ok,fun A3 H3 J3 fr3=>?_⟩
     obtain ⟨Jy3,hq3,fin⟩:=Be (fun H4=>N2 [some (.ref a),some (.ref x),some (.ref y),some (.ref sz),some (.int (i:Int)),some (.ref q)] H4) go A3 H3 J3 fr3
     exact ⟨_,rfl,_,rfl,y,B,s,q,.turn,rfl,Jy3,t2.g,by omega,hq3,ok,fun B4 H4 J4 fr4=>⟨qL _,_,rfl,nr (by simp) (fin B4 H4 J4 fr4)⟩⟩
   refine ⟨_,rfl,(i:Int),3,rfl,rfl,(by show (0:Int)<3;decide),rfl,_,rfl,aQ (fun _=>?_) (fun _=>main q dd Hy (fun _ _ z=>z) hq ok)⟩
   refine ⟨_,rfl,(i:Int),3,rfl,rfl,⟨by decide,by decide⟩,_,8,rfl,rfl,(by show (0:Int)<8;decide),_,rfl,(i:Int),5,rfl,rfl,⟨by decide,by decide⟩,_,7,rfl,rfl,(by show (0:Int)<7;decide),by show 3≤sizeLine;decide,fun q2 hq2=>?_⟩
   exact main q2 (.make ((i:Int)/3%8) ((i:Int)/5%7)) _ (aD.upd hq2) ah ⟨⟨Int.emod_nonneg _ (by decide),Int.emod_lt_of_pos _ (by decide)⟩,Int.emod_nonneg _ (by decide),Int.le_of_lt_add_one (Int.emod_lt_of_pos _ (by decide))⟩
  ·rintro σ Hx ⟨A,B,s,v4,v5,rfl,t,sn⟩
   exact k Hx
end
end K12
end
section
namespace K12
open PySem L2 LX
open PySem.W
section
variable {K:Frag}
def LK (K:Frag) (n q:Str) (s:Stmt) (f:Addr):Prop:=(∃ d,Fun K n q s f d)∧keepIn K (.ref f)=true∧isFn K (.ref f)=true
theorem LK.mk {n q:Str} {s:Stmt} {f:Addr} {od an:Option Addr} {sl:Array (Option Value)} {oc kV dc pm cd ct:Value} (h1:K.lookup f=some ⟨oc,od,.func (fnOf n q (sG s) (bS s) (aq s) .none kV dc pm an cd ct),sl⟩) (h2:codeIn K cd q=true) (h3:keepIn K (.ref f)=true) (h4:isFn K (.ref f)=true):LK K n q s f:=⟨⟨_,X0 (st:=s) h1 h2 h3⟩,h3,h4⟩
def FI (K:Frag) (c:Addr) (n:Str) (f:Addr):Prop:=findIn K (.ref c) n=some (some (.ref f))
def NF (K:Frag) (c:Addr) (n:Str):Prop:=findIn K (.ref c) n=some none
structure PK (K:Frag) (c:Addr):Prop where
 g:plainGet K c Str.empty=true
 d:hasDictIn K c=true
 o:plainOver K c=true
 s:findIn K (.ref c) "__setattr__" = some (some (.builtin "object.__setattr__"))
 k:keepIn K (.ref c)=true
structure EK (K:Frag) (b e i:Addr):Prop where
 x:JB K e=true
 a:findIn K (.ref e) "__getattribute__" = some (some (.builtin "BaseException.__getattribute__"))
 t:findIn K (.ref e) "__getattr__" = some none
 c:findIn K (.ref e) "__class__" = some (some (.builtin "object.__class__"))
 i:findIn K (.ref e) "__init__" = some (some (.ref i))
 k:keepIn K (.ref e)=true
 v:kitOne K (.ref e) (.type "ValueError")=some true
 s:mroIn K e (.ref b)=some true
end
theorem all_mk {l:OpenLaw} {w:World} {K:Frag} {h:Heap} {mg:Str→Option Value} {fa aJ cE bF en eK bO eW iV gM gN aY aE aC aU aa aj cG cH b9 cb dq bg cI cJ eF dW da iW gQ b5 bo cZ cA cK dA cB bP eZ gJ eX eR fQ aZ bT dB b6 cp dC fE bU dD cP bH cq cC b7 fY eS fZ f7 dS f9 bQ gb bE de aM bc bt eO bV dE dF eI dQ dr cL bB cR dZ bw cS cT bX bh bY b8 cu dG dH cU dX gK fF gc gf gL cM fG eU cf vo:Addr} {Fs mU lM mV mW mX kA:Tok} (X:K.In h) (G:h.Ns mainGlobals mg) (hfa:mg "law" = some (.ref fa))
  (nH:nsIn K mainGlobals "HeapError" = some (some (.ref aJ)))
  (xH:JB K aJ=true)
  (EW:nsIn K mainGlobals "number_value" = some (some (.ref dW)))
  (Gz:nsIn K mainGlobals "thing_value" = some (some (.ref da)))
  (OG:nsIn K mainGlobals "kind_of" = some (some (.ref iW)))
  (MA:nsIn K mainGlobals "words_of" = some (some (.ref gQ)))
  (BK:nsIn K mainGlobals "look_at_number" = some (some (.ref b5)))
  (EX:nsIn K mainGlobals "look_at_hand" = some (some (.ref bo)))
  (EY:nsIn K mainGlobals "look_at_name" = some (some (.ref cZ)))
  (D5:nsIn K mainGlobals "look_at_field" = some (some (.ref cA)))
  (BL:nsIn K mainGlobals "look_at_limits" = some (some (.ref cK)))
  (Ij:nsIn K mainGlobals "last_steps" = some (some (.ref fE)))
  (GA:nsIn K mainGlobals "thing_among" = some (some (.ref eO)))
  (EZ:nsIn K mainGlobals "_law_numbers" = some (some (.ref dX)))
  (Kv:nsIn K mainGlobals "_law_deed" = some (some (.ref gK)))
  (Ik:nsIn K mainGlobals "_law_plain" = some (some (.ref fF)))
  (Kw:nsIn K mainGlobals "_law_done" = some (some (.ref gc)))
  (Kx:nsIn K mainGlobals "_law_told" = some (some (.ref gf)))
  (Ky:nsIn K mainGlobals "_law_heap" = some (some (.ref gL)))
  (Il:nsIn K mainGlobals "_law_deeds" = some (some (.ref cM)))
  (Im:nsIn K mainGlobals "_law_sizes" = some (some (.ref fG)))
  (Io:nsIn K mainGlobals "_law_words" = some (some (.ref eU)))
  (zg:nsIn K mainGlobals "_law_make_right" = some (some (.ref cf)))
  (Vn:nsIn K mainGlobals "law" = some (some (.ref vo)))
  (Qb:nsIn K mainGlobals "Hands" = some (some (.ref aY)))
  (uL:PK K aY)
  (Qc:FI K aY "__init__" dA)
  (FW:makesIn K aY=true)
  (uM:NF K aY "words_held")
  (BM:FI K aY "word_in" cB)
  (wL:FI K aY "all_words" bP)
  (Ip:FI K aY "put" eZ)
  (GB:FI K aY "copy" gJ)
  (D6:FI K aY "number" eX)
  (GC:FI K aY "kind" eR)
  (E0:FI K aY "value" fQ)
  (wM:FI K aY "thing_due" aZ)
  (Iq:nsIn K mainGlobals "WordTable" = some (some (.ref aE)))
  (kP:PK K aE)
  (Ir:FI K aE "__init__" bT)
  (qS:makesIn K aE=true)
  (oO:NF K aE "words_borne")
  (pM:NF K aE "words_said")
  (zh:FI K aE "bear" dB)
  (tm:FI K aE "word_of" b6)
  (uN:FI K aE "settle" cp)
  (zi:FI K aE "said" dC)
  (Iu:nsIn K mainGlobals "NameTable" = some (some (.ref aC)))
  (kQ:PK K aC)
  (Iv:FI K aC "__init__" bU)
  (qT:makesIn K aC=true)
  (oi:NF K aC "things_named")
  (zj:FI K aC "name" dD)
  (wN:FI K aC "named" cP)
  (qz:FI K aC "all_named" bH)
  (uO:FI K aC "settle" cq)
  (R8:nsIn K mainGlobals "Heap" = some (some (.ref aU)))
  (BN:PK K aU)
  (R9:FI K aU "__init__" cC)
  (Nx:makesIn K aU=true)
  (uP:NF K aU "makes_young")
  (BO:NF K aU "in_hands")
  (wO:NF K aU "weak_names")
  (wQ:NF K aU "last_words")
  (uQ:NF K aU "fields_held")
  (tq:NF K aU "young_things")
  (wR:NF K aU "next_thing")
  (zk:FI K aU "add_thing" b7)
  (Iw:FI K aU "load" fY)
  (GD:FI K aU "store" eS)
  (Iy:FI K aU "copy" fZ)
  (Iz:FI K aU "drop" f7)
  (E1:FI K aU "number" dS)
  (IA:FI K aU "name" f9)
  (wU:FI K aU "read_thing" bQ)
  (IB:FI K aU "word" gb)
  (uR:FI K aU "small_round" bE)
  (E3:FI K aU "let_go" de)
  (tu:FI K aU "look_at_held" aM)
  (uS:FI K aU "words_among" bc)
  (zm:FI K aU "led_among" bt)
  (Sa:readsIn K aU (.type "type")=true)
  (Sb:findCls K (.ref aU) (.type "type") "__init__" = some (.val (.ref cC)))
  (Sd:specialIn K (.ref aU) "__getattribute__" = some (some (.builtin "type.__getattribute__")))
  (IC:nsIn K mainGlobals "IdealHeap" = some (some (.ref aa)))
  (kR:PK K aa)
  (ID:FI K aa "__init__" bV)
  (qU:makesIn K aa=true)
  (oP:NF K aa "makes_young")
  (rY:NF K aa "in_hands")
  (pN:NF K aa "weak_names")
  (pO:NF K aa "last_words")
  (oQ:NF K aa "fields_held")
  (oj:NF K aa "young_things")
  (pP:NF K aa "next_thing")
  (pQ:NF K aa "young_room")
  (wV:NF K aa "limit")
  (nD:NF K aa "doomed_things")
  (rZ:NF K aa "in_round")
  (qA:FI K aa "add_thing" b7)
  (zo:FI K aa "load" fY)
  (wW:FI K aa "store" eS)
  (zr:FI K aa "copy" fZ)
  (zu:FI K aa "drop" f7)
  (uT:FI K aa "number" dS)
  (zw:FI K aa "name" f9)
  (pR:FI K aa "read_thing" bQ)
  (zA:FI K aa "word" gb)
  (oR:FI K aa "small_round" bE)
  (uU:FI K aa "let_go" de)
  (om:FI K aa "look_at_held" aM)
  (oS:FI K aa "words_among" bc)
  (qB:FI K aa "led_among" bt)
  (zB:FI K aa "make" dE)
  (zC:FI K aa "read" dF)
  (zD:FI K aa "kind" eI)
  (wX:FI K aa "value" dQ)
  (uV:FI K aa "fields" dr)
  (zE:FI K aa "held" cL)
  (wY:FI K aa "small" bB)
  (wZ:FI K aa "begin" cR)
  (BP:FI K aa "end" dZ)
  (se:FI K aa "round_on" bw)
  (w8:FI K aa "hands" cS)
  (xa:FI K aa "names" cT)
  (uW:FI K aa "things" bX)
  (qC:FI K aa "fields_of" bh)
  (uX:FI K aa "is_old" bY)
  (tw:FI K aa "word_of" b8)
  (uY:FI K aa "doomed" cu)
  (zF:FI K aa "said" dG)
  (zG:FI K aa "made" dH)
  (xb:FI K aa "spare" cU)
  (MB:nsIn K mainGlobals "BadCount" = some (some (.ref cE)))
  (fi0:FI K cE "__init__" aj)
  (iw:EK K aJ cE aj)
  (Kz:FI K cE "called" cb)
  (OH:nsIn K mainGlobals "BadHand" = some (some (.ref bF)))
  (jq:EK K aJ bF aj)
  (MC:FI K bF "called" cG)
  (OI:nsIn K mainGlobals "BadName" = some (some (.ref en)))
  (jr:EK K aJ en aj)
  (MD:FI K en "called" cH)
  (ME:nsIn K mainGlobals "BadField" = some (some (.ref eK)))
  (iy:EK K aJ eK aj)
  (KA:FI K eK "called" b9)
  (E4:nsIn K mainGlobals "TooManyWords" = some (some (.ref bO)))
  (ed:EK K aJ bO aj)
  (D7:FI K bO "called" bg)
  (OJ:nsIn K mainGlobals "BadView" = some (some (.ref eW)))
  (js:EK K aJ eW aj)
  (MF:FI K eW "called" eF)
  (Qd:nsIn K mainGlobals "NoRoom" = some (some (.ref iV)))
  (kc:EK K aJ iV aj)
  (OK:FI K iV "called" dq)
  (OL:nsIn K mainGlobals "RoundOn" = some (some (.ref gM)))
  (jt:EK K aJ gM aj)
  (MG:FI K gM "called" cI)
  (OM:nsIn K mainGlobals "NoRound" = some (some (.ref gN)))
  (ju:EK K aJ gN aj)
  (MH:FI K gN "called" cJ)
  (tD:LK K "__init__" "HeapError.__init__" iY aj)
  (BQ:LK K "called" "BadHand.called" pX cG)
  (BR:LK K "called" "BadName.called" pY cH)
  (zH:LK K "called" "BadField.called" ou b9)
  (zI:LK K "called" "BadCount.called" ow cb)
  (D8:LK K "called" "NoRoom.called" rB dq)
  (sg:LK K "called" "TooManyWords.called" kU bg)
  (BS:LK K "called" "RoundOn.called" pZ cI)
  (BU:LK K "called" "NoRound.called" p0 cJ)
  (BV:LK K "called" "BadView.called" p9 eF)
  (E5:LK K "number_value" "number_value" nN dW)
  (GF:LK K "thing_value" "thing_value" pA da)
  (ON:LK K "kind_of" "kind_of" Dh iW)
  (MI:LK K "words_of" "words_of" xT gQ)
  (BW:LK K "look_at_number" "look_at_number" kZ b5)
  (E6:LK K "look_at_hand" "look_at_hand" nO bo)
  (E7:LK K "look_at_name" "look_at_name" nP cZ)
  (D9:LK K "look_at_field" "look_at_field" mz cA)
  (BX:LK K "look_at_limits" "look_at_limits" k6 cK)
  (BY:LK K "__init__" "Hands.__init__" k7 dA)
  (Ea:LK K "word_in" "Hands.word_in" mB cB)
  (zJ:LK K "all_words" "Hands.all_words" ke bP)
  (KC:LK K "put" "Hands.put" tX eZ)
  (IE:LK K "copy" "Hands.copy" qM gJ)
  (E8:LK K "number" "Hands.number" nQ eX)
  (IF:LK K "kind" "Hands.kind" qN eR)
  (GG:LK K "value" "Hands.value" pB fQ)
  (zK:LK K "thing_due" "Hands.thing_due" kf aZ)
  (tE:LK K "__init__" "WordTable.__init__" iZ bT)
  (BZ:LK K "bear" "WordTable.bear" k8 dB)
  (uZ:LK K "word_of" "WordTable.word_of" jC b6)
  (xg:LK K "settle" "WordTable.settle" jS cp)
  (B7:LK K "said" "WordTable.said" k9 dC)
  (IG:LK K "last_steps" "last_steps" qO fE)
  (tF:LK K "__init__" "NameTable.__init__" i0 bU)
  (B9:LK K "name" "NameTable.name" lg dD)
  (zM:LK K "named" "NameTable.named" kg cP)
  (sh:LK K "all_named" "NameTable.all_named" iG bH)
  (xh:LK K "settle" "NameTable.settle" hZ cq)
  (Eb:LK K "__init__" "Heap.__init__" mC cC)
  (Ca:LK K "add_thing" "Heap.add_thing" lj b7)
  (KD:LK K "load" "Heap.load" tY fY)
  (II:LK K "store" "Heap.store" qP eS)
  (KG:LK K "copy" "Heap.copy" tZ fZ)
  (KH:LK K "drop" "Heap.drop" t9 f7)
  (GH:LK K "number" "Heap.number" pD dS)
  (KI:LK K "name" "Heap.name" ua f9)
  (zN:LK K "read_thing" "Heap.read_thing" kh bQ)
  (KJ:LK K "word" "Heap.word" ub gb)
  (xi:LK K "small_round" "Heap.small_round" h9 bE)
  (GI:LK K "let_go" "Heap.let_go" pE de)
  (u7:LK K "look_at_held" "Heap.look_at_held" jD aM)
  (xj:LK K "words_among" "Heap.words_among" ia bc)
  (Cb:LK K "led_among" "Heap.led_among" gU bt)
  (GJ:LK K "thing_among" "thing_among" pF eO)
  (tG:LK K "__init__" "IdealHeap.__init__" i3 bV)
  (Cc:LK K "make" "IdealHeap.make" ll dE)
  (Cd:LK K "read" "IdealHeap.read" lp dF)
  (Ce:LK K "kind" "IdealHeap.kind" lq eI)
  (zO:LK K "value" "IdealHeap.value" ki dQ)
  (xk:LK K "fields" "IdealHeap.fields" jT dr)
  (Cf:LK K "held" "IdealHeap.held" lA cL)
  (zP:LK K "small" "IdealHeap.small" kj bB)
  (zQ:LK K "begin" "IdealHeap.begin" km cR)
  (Ec:LK K "end" "IdealHeap.end" mD dZ)
  (tH:LK K "round_on" "IdealHeap.round_on" i4 bw)
  (zR:LK K "hands" "IdealHeap.hands" kn cS)
  (zS:LK K "names" "IdealHeap.names" ko cT)
  (xm:LK K "things" "IdealHeap.things" jU bX)
  (si:LK K "fields_of" "IdealHeap.fields_of" iH bh)
  (xn:LK K "is_old" "IdealHeap.is_old" jV bY)
  (u9:LK K "word_of" "IdealHeap.word_of" jE b8)
  (xo:LK K "doomed" "IdealHeap.doomed" jW cu)
  (Cg:LK K "said" "IdealHeap.said" lB dG)
  (Ci:LK K "made" "IdealHeap.made" lC dH)
  (zT:LK K "spare" "IdealHeap.spare" kq cU)
  (E9:LK K "_law_numbers" "_law_numbers" nR dX)
  (KL:LK K "_law_deed" "_law_deed" uc gK)
  (IJ:LK K "_law_plain" "_law_plain" qQ fF)
  (KN:LK K "_law_done" "_law_done" ud gc)
  (KO:LK K "_law_told" "_law_told" oV gf)
  (KP:LK K "_law_heap" "_law_heap" ue gL)
  (IK:LK K "_law_deeds" "_law_deeds" bM cM)
  (IL:LK K "_law_sizes" "_law_sizes" qR fG)
  (IM:LK K "_law_words" "_law_words" mT eU)
  (zU:LK K "_law_make_right" "_law_make_right" kr cf)
  (abR:LK K "law" "law" jF vo)
  (vq:nsIn K mainGlobals "len" = some none)
  (Fw:nsIn K mainGlobals "range" = some none)
  (vI:nsIn K mainGlobals "list" = some none)
  (uq:nsIn K mainGlobals "sorted" = some none)
  (OX:nsIn K mainGlobals "sum" = some none)
  (Q5:nsIn K mainGlobals "abs" = some none)
  (mh:nsIn K mainGlobals "enumerate" = some none)
  (ra:nsIn K mainGlobals "ValueError" = some none)
  (Fx:nsIn K mainGlobals "HANDS" = some (some (.int 8 Fs)))
  (mZ:nsIn K mainGlobals "WEAK_NAMES" = some (some (.int 8 mU)))
  (pI:nsIn K mainGlobals "MOST_FIELDS" = some (some (.int 6 lM)))
  (m7:nsIn K mainGlobals "LEAST_ROOM" = some (some (.int 7 mV)))
  (rf:nsIn K mainGlobals "MOST_YOUNG" = some (some (.int 64 mW)))
  (rg:nsIn K mainGlobals "MOST_LIMIT" = some (some (.int 400 mX)))
  (kC:nsIn K mainGlobals "MOST_BEARERS" = some (some (.int 12 kA))) :
  ∃ fd:FuncData,(∀ (s:Shared) (v:Value),BindsTo s fd ⟨[v],[]⟩ [("script",v)])∧∀ base:Heap,K.In base→base.Ns mainGlobals mg→Bi l.prog w K mg base (CXE l.prog w) 12 fa fd ["script"] (O1 K):=by
 have e:=(mg_of X G Vn).symm.trans hfa
 cases e
 obtain ⟨cdH,_,yH⟩:=mI xH
 obtain ⟨Dy,KQ,xZ⟩:=mI iw.x
 obtain ⟨FG,MJ,Dj⟩:=mI jq.x
 obtain ⟨FH,MK,Dk⟩:=mI jr.x
 obtain ⟨Dz,KR,x8⟩:=mI iy.x
 obtain ⟨rK,Ed,nW⟩:=mI ed.x
 obtain ⟨FJ,ML,Dm⟩:=mI js.x
 obtain ⟨Hv,OP,F5⟩:=mI kc.x
 obtain ⟨FK,MM,Dn⟩:=mI jt.x
 obtain ⟨FL,MN,Dp⟩:=mI ju.x
 have su:∀ {D:Addr} {cd:ClassData},clsIn K D=some cd→iX K D cd→mroIn K D (.ref aJ)=some true→∃ cd,iX K D cd∧cd.mro.contains (.ref aJ)=true:=fun {D cd} hc y sb=>⟨cd,y,by
  unfold mroIn at sb
  rw [hc,Option.bind_some,if_neg (by rw [y.FT];decide)] at sb
  exact Option.some.inj sb⟩
 have m:=fun {n:Str} {v:Value} (q:nsIn K mainGlobals n=some (some v))=>mg_of X G q
 obtain ⟨⟨aB,tI⟩,JQ,bA⟩:=tD
 obtain ⟨⟨fL,Cj⟩,Ck,Cm⟩:=BQ
 obtain ⟨⟨fM,Cn⟩,Co,Cp⟩:=BR
 obtain ⟨⟨e9,zV⟩,zW,zX⟩:=zH
 obtain ⟨⟨fe,zY⟩,zZ,z6⟩:=zI
 obtain ⟨⟨gu,Ee⟩,Ef,Eg⟩:=D8
 obtain ⟨⟨cV,sj⟩,sk,so⟩:=sg
 obtain ⟨⟨fN,Cq⟩,Cr,Cs⟩:=BS
 obtain ⟨⟨fO,Ct⟩,Cu,Cw⟩:=BU
 obtain ⟨⟨ja,Cy⟩,Cz,CA⟩:=BV
 obtain ⟨⟨i6,Fb⟩,nS,Pc⟩:=E5
 obtain ⟨⟨gO,GK⟩,jN,QM⟩:=GF
 obtain ⟨⟨nZ,OQ⟩,vp,Yx⟩:=ON
 obtain ⟨⟨lL,MO⟩,rE,Vo⟩:=MI
 obtain ⟨⟨fP,CB⟩,jc,NY⟩:=BW
 obtain ⟨⟨cz,Fc⟩,dY,Pd⟩:=E6
 obtain ⟨⟨hU,Fd⟩,kB,Pe⟩:=E7
 obtain ⟨⟨gv,Eh⟩,jP,O2⟩:=D9
 obtain ⟨⟨gW,CC⟩,lE,NZ⟩:=BX
 obtain ⟨⟨gX,CD⟩,N3,CF⟩:=BY
 obtain ⟨⟨fq,Ei⟩,Ej,Ek⟩:=Ea
 obtain ⟨⟨dP,z7⟩,z8,z9⟩:=zJ
 obtain ⟨⟨iu,KS⟩,KU,KW⟩:=KC
 obtain ⟨⟨kI,IP⟩,IQ,IS⟩:=IE
 obtain ⟨⟨i7,Fe⟩,Ff,Fg⟩:=E8
 obtain ⟨⟨iA,IT⟩,IU,IV⟩:=IF
 obtain ⟨⟨jK,GL⟩,GN,GO⟩:=GG
 obtain ⟨⟨cc,Aa⟩,Ab,Ac⟩:=zK
 obtain ⟨⟨eL,tJ⟩,JR,tK⟩:=tE
 obtain ⟨⟨gY,CG⟩,CI,CJ⟩:=BZ
 obtain ⟨⟨ft,va⟩,vc,ve⟩:=uZ
 obtain ⟨⟨gg,xq⟩,xr,xt⟩:=xg
 obtain ⟨⟨gZ,CK⟩,CL,CM⟩:=B7
 obtain ⟨⟨kJ,IW⟩,qV,Ri⟩:=IG
 obtain ⟨⟨eN,tL⟩,JS,tM⟩:=tF
 obtain ⟨⟨g4,CN⟩,CO,CP⟩:=B9
 obtain ⟨⟨gB,Ae⟩,Af,Ag⟩:=zM
 obtain ⟨⟨eh,sq⟩,sr,sv⟩:=sh
 obtain ⟨⟨gh,xu⟩,xv,xw⟩:=xh
 obtain ⟨⟨iD,El⟩,Em,En⟩:=Eb
 obtain ⟨⟨g5,CQ⟩,qd,qe⟩:=Ca
 obtain ⟨⟨lU,KY⟩,DA,DB⟩:=KD
 obtain ⟨⟨kK,IX⟩,AN,AO⟩:=II
 obtain ⟨⟨lV,KZ⟩,DC,DD⟩:=KG
 obtain ⟨⟨lW,K0⟩,DE,DF⟩:=KH
 obtain ⟨⟨jL,GP⟩,vR,vS⟩:=GH
 obtain ⟨⟨lX,K1⟩,DG,DH⟩:=KI
 obtain ⟨⟨gC,Ah⟩,oK,oM⟩:=zN
 obtain ⟨⟨lY,K3⟩,DI,DJ⟩:=KJ
 obtain ⟨⟨gi,xx⟩,nJ,nK⟩:=xi
 obtain ⟨⟨iK,GQ⟩,vT,vU⟩:=GI
 obtain ⟨⟨cO,vg⟩,mN,mO⟩:=u7
 obtain ⟨⟨eB,xy⟩,nL,nM⟩:=xj
 obtain ⟨⟨eG,CS⟩,qf,qg⟩:=Cb
 obtain ⟨⟨jM,GR⟩,lN,QN⟩:=GJ
 obtain ⟨⟨eP,tN⟩,JT,tO⟩:=tG
 obtain ⟨⟨g7,CT⟩,CU,CV⟩:=Cc
 obtain ⟨⟨g9,CW⟩,CY,CZ⟩:=Cd
 obtain ⟨⟨jb,C0⟩,C1,C2⟩:=Ce
 obtain ⟨⟨iN,Ai⟩,Aj,Ak⟩:=zO
 obtain ⟨⟨ib,xA⟩,xB,xC⟩:=xk
 obtain ⟨⟨fR,C3⟩,C4,C5⟩:=Cf
 obtain ⟨⟨cQ,Al⟩,Am,An⟩:=zP
 obtain ⟨⟨gD,Ao⟩,Ap,Aq⟩:=zQ
 obtain ⟨⟨iE,Eo⟩,Ep,Es⟩:=Ec
 obtain ⟨⟨dw,tP⟩,tQ,tR⟩:=tH
 obtain ⟨⟨gE,Ar⟩,As,Au⟩:=zR
 obtain ⟨⟨gF,Av⟩,Aw,Ax⟩:=zS
 obtain ⟨⟨eC,xD⟩,xE,xF⟩:=xm
 obtain ⟨⟨cW,sA⟩,sC,sD⟩:=si
 obtain ⟨⟨eE,xG⟩,xI,xJ⟩:=xn
 obtain ⟨⟨fu,vh⟩,vi,vj⟩:=u9
 obtain ⟨⟨gj,xK⟩,xM,xN⟩:=xo
 obtain ⟨⟨hG,C6⟩,C7,C8⟩:=Cg
 obtain ⟨⟨hJ,C9⟩,De,Df⟩:=Ci
 obtain ⟨⟨gG,Ay⟩,Az,AA⟩:=zT
 obtain ⟨⟨i8,Fh⟩,nU,Pf⟩:=E9
 obtain ⟨⟨lZ,K4⟩,ug,UH⟩:=KL
 obtain ⟨⟨kL,IY⟩,qW,Rj⟩:=IJ
 obtain ⟨⟨j3,K5⟩,j5,UI⟩:=KN
 obtain ⟨⟨j4,K6⟩,i9,UJ⟩:=KO
 obtain ⟨⟨l7,K7⟩,oY,UK⟩:=KP
 obtain ⟨⟨kM,IZ⟩,qX,Rk⟩:=IK
 obtain ⟨⟨kN,I0⟩,qY,Rl⟩:=IL
 obtain ⟨⟨jv,Ja⟩,kO,Rn⟩:=IM
 obtain ⟨⟨gH,AB⟩,ku,MV⟩:=zU
 obtain ⟨⟨Me,Vp⟩,Vf,ad9⟩:=abR
 let D:Ad:=⟨aJ,cE,bF,en,eK,bO,eW,iV,gM,gN,aY,aE,aC,aU,aa,aj,aB,cG,fL,cH,fM,b9,e9,cb,fe,dq,gu,bg,cV,cI,fN,cJ,fO,eF,ja,dW,i6,da,gO,iW,nZ,gQ,lL,b5,fP,bo,cz,cZ,hU,cA,gv,cK,gW,dA,gX,cB,fq,bP,dP,eZ,iu,gJ,kI,eX,i7,eR,iA,fQ,jK,aZ,cc,bT,eL,dB,gY,b6,ft,cp,gg,dC,gZ,fE,kJ,bU,eN,dD,g4,cP,gB,bH,eh,cq,gh,cC,iD,b7,g5,fY,lU,eS,kK,fZ,lV,f7,lW,dS,jL,f9,lX,bQ,gC,gb,lY,bE,gi,de,iK,aM,cO,bc,eB,bt,eG,eO,jM,bV,eP,dE,g7,dF,g9,eI,jb,dQ,iN,dr,ib,cL,fR,bB,cQ,cR,gD,dZ,iE,bw,dw,cS,gE,cT,gF,bX,eC,bh,cW,bY,eE,b8,fu,cu,gj,dG,hG,dH,hJ,cU,gG,dX,i8,gK,lZ,fF,kL,gc,j3,gf,j4,gL,l7,cM,kM,fG,kN,eU,jv,cf,gH,fa,Me,Fs,mU,lM,mV,mW,mX,kA⟩
 have T:Txt K mg D:=⟨⟨cdH,yH⟩,m nH,m MB,⟨⟨Dy,xZ⟩,⟨iw.a,iw.t⟩,iw.c⟩,⟨⟨Dy,xZ⟩,iw.i,bA,iw.k⟩,iw.v,su KQ xZ iw.s,⟨Kz,z6,zZ⟩,m OH,⟨⟨FG,Dj⟩,⟨jq.a,jq.t⟩,jq.c⟩,⟨⟨FG,Dj⟩,jq.i,bA,jq.k⟩,jq.v,su MJ Dj jq.s,⟨MC,Cm,Ck⟩,m OI,⟨⟨FH,Dk⟩,⟨jr.a,jr.t⟩,jr.c⟩,⟨⟨FH,Dk⟩,jr.i,bA,jr.k⟩,jr.v,su MK Dk jr.s,⟨MD,Cp,Co⟩,m ME,⟨⟨Dz,x8⟩,⟨iy.a,iy.t⟩,iy.c⟩,⟨⟨Dz,x8⟩,iy.i,bA,iy.k⟩,iy.v,su KR x8 iy.s,⟨KA,zX,zW⟩,m E4,⟨⟨rK,nW⟩,⟨ed.a,ed.t⟩,ed.c⟩,⟨⟨rK,nW⟩,ed.i,bA,ed.k⟩,ed.v,su Ed nW ed.s,⟨D7,so,sk⟩,m OJ,⟨⟨FJ,Dm⟩,⟨js.a,js.t⟩,js.c⟩,⟨⟨FJ,Dm⟩,js.i,bA,js.k⟩,js.v,su ML Dm js.s,⟨MF,CA,Cz⟩,m Qd,⟨⟨Hv,F5⟩,⟨kc.a,kc.t⟩,kc.c⟩,⟨⟨Hv,F5⟩,kc.i,bA,kc.k⟩,kc.v,su OP F5 kc.s,⟨OK,Eg,Ef⟩,m OL,⟨⟨FK,Dn⟩,⟨jt.a,jt.t⟩,jt.c⟩,⟨⟨FK,Dn⟩,jt.i,bA,jt.k⟩,jt.v,su MM Dn jt.s,⟨MG,Cs,Cr⟩,m OM,⟨⟨FL,Dp⟩,⟨ju.a,ju.t⟩,ju.c⟩,⟨⟨FL,Dp⟩,ju.i,bA,ju.k⟩,ju.v,su MN Dp ju.s,⟨MH,Cw,Cu⟩,m Qb,⟨uL.g,uL.d,uL.o,uL.s⟩,⟨FW,Qc,CF,uL.k⟩,uM,⟨BM,Ek,Ej⟩,⟨wL,z9,z8⟩,⟨Ip,KW,KU⟩,⟨GB,IS,IQ⟩,⟨D6,Fg,Ff⟩,⟨GC,IV,IU⟩,⟨E0,GO,GN⟩,⟨wM,Ac,Ab⟩,m Iq,⟨kP.g,kP.d,kP.o,kP.s⟩,⟨qS,Ir,tK,kP.k⟩,oO,pM,⟨zh,CJ,CI⟩,⟨tm,ve,vc⟩,⟨uN,xt,xr⟩,⟨zi,CM,CL⟩,m Iu,⟨kQ.g,kQ.d,kQ.o,kQ.s⟩,⟨qT,Iv,tM,kQ.k⟩,oi,⟨zj,CP,CO⟩,⟨wN,Ag,Af⟩,⟨qz,sv,sr⟩,⟨uO,xw,xv⟩,m R8,⟨BN.g,BN.d,BN.o,BN.s⟩,⟨Nx,R9,En,BN.k⟩,uP,BO,wO,wQ,uQ,tq,wR,⟨zk,qe,qd⟩,⟨Iw,DB,DA⟩,⟨GD,AO,AN⟩,⟨Iy,DD,DC⟩,⟨Iz,DF,DE⟩,⟨E1,vS,vR⟩,⟨IA,DH,DG⟩,⟨wU,oM,oK⟩,⟨IB,DJ,DI⟩,⟨uR,nK,nJ⟩,⟨E3,vU,vT⟩,⟨tu,mO,mN⟩,⟨uS,nM,nL⟩,⟨zm,qg,qf⟩,⟨Sa,Sb,Sd,Em⟩,m IC,⟨kR.g,kR.d,kR.o,kR.s⟩,⟨qU,ID,tO,kR.k⟩,oP,rY,pN,pO,oQ,oj,pP,pQ,wV,nD,rZ,⟨qA,qe,qd⟩,⟨zo,DB,DA⟩,⟨wW,AO,AN⟩,⟨zr,DD,DC⟩,⟨zu,DF,DE⟩,⟨uT,vS,vR⟩,⟨zw,DH,DG⟩,⟨pR,oM,oK⟩,⟨zA,DJ,DI⟩,⟨oR,nK,nJ⟩,⟨uU,vU,vT⟩,⟨om,mO,mN⟩,⟨oS,nM,nL⟩,⟨qB,qg,qf⟩,⟨zB,CV,CU⟩,⟨zC,CZ,CY⟩,⟨zD,C2,C1⟩,⟨wX,Ak,Aj⟩,⟨uV,xC,xB⟩,⟨zE,C5,C4⟩,⟨wY,An,Am⟩,⟨wZ,Aq,Ap⟩,⟨BP,Es,Ep⟩,⟨se,tR,tQ⟩,⟨w8,Au,As⟩,⟨xa,Ax,Aw⟩,⟨uW,xF,xE⟩,⟨qC,sD,sC⟩,⟨uX,xJ,xI⟩,⟨tw,vj,vi⟩,⟨uY,xN,xM⟩,⟨zF,C8,C7⟩,⟨zG,Df,De⟩,⟨xb,AA,Az⟩,m EW,nS,m Gz,jN,m OG,vp,m MA,rE,m BK,jc,m EX,dY,m EY,kB,m D5,jP,m BL,lE,m Ij,qV,m GA,lN,m EZ,nU,m Kv,ug,m Ik,qW,m Kw,j5,m Kx,i9,m Ky,oY,m Il,qX,m Im,qY,m Io,kO,m zg,ku,m Vn,Vf,mg_none_of X G vq,mg_none_of X G Fw,mg_none_of X G vI,mg_none_of X G uq,mg_none_of X G OX,mg_none_of X G Q5,mg_none_of X G mh,mg_none_of X G ra,m Fx,m mZ,m pI,m m7,m rf,m rg,m kC⟩
 refine ⟨Me,fun s v=>?_,fun base _ _=>?_⟩
 ·obtain ⟨_,_,_,_,_,_,_,_,_,e,_⟩:=Vp.ex
  rw [e]
  exact .of_eq rfl
 have ag:=rM (P:=l.prog) (w:=w) (mg:=mg) (base:=base) tI T
 have fi:=v8 (P:=l.prog) (w:=w) (mg:=mg) (base:=base) zY T
 have fT:=yr (P:=l.prog) (w:=w) (mg:=mg) (base:=base) Cj T
 have fU:=yt (P:=l.prog) (w:=w) (mg:=mg) (base:=base) Cn T
 have fg:=v9 (P:=l.prog) (w:=w) (mg:=mg) (base:=base) zV T
 have cX:=qo (P:=l.prog) (w:=w) (mg:=mg) (base:=base) sj T
 have N4:=yu (P:=l.prog) (w:=w) (mg:=mg) (base:=base) Cy T
 have gy:=Bp (P:=l.prog) (w:=w) (mg:=mg) (base:=base) Ee T
 have fV:=yv (P:=l.prog) (w:=w) (mg:=mg) (base:=base) Cq T
 have fW:=yw (P:=l.prog) (w:=w) (mg:=mg) (base:=base) Ct T
 have ka:=Mv (P:=l.prog) (w:=w) (mg:=mg) (base:=base) OQ T
 have aA:=DS (P:=l.prog) (w:=w) (mg:=mg) (base:=base) Fc T ag
 have eY:=DU (P:=l.prog) (w:=w) (mg:=mg) (base:=base) Fd T ag
 have ji:=Kl (P:=l.prog) (w:=w) (mg:=mg) (base:=base) MO T ag
 have d8:=Br (P:=l.prog) (w:=w) (mg:=mg) (base:=base) Eh T ag
 have dJ:=yy (P:=l.prog) (w:=w) (mg:=mg) (base:=base) CB T ag
 have kF:=DX (P:=l.prog) (w:=w) (mg:=mg) (base:=base) Fb T dJ
 have cD:=EJ (P:=l.prog) (w:=w) (mg:=mg) (base:=base) GK T ag
 have jh:=yA (P:=l.prog) (w:=w) (mg:=mg) (base:=base) CC T ag
 have jg:=yC (P:=l.prog) (w:=w) (mg:=mg) (base:=base) CD T
 have gw:=rO (P:=l.prog) (w:=w) (mg:=mg) (base:=base) tL T
 have bL:=Bw (P:=l.prog) (w:=w) (mg:=mg) (base:=base) Ei T aA
 have cj:=HM (P:=l.prog) (w:=w) (mg:=mg) (base:=base) KS T aA
 have nk:=Gg (P:=l.prog) (w:=w) (mg:=mg) (base:=base) IP T aA bL
 have kG:=D1 (P:=l.prog) (w:=w) (mg:=mg) (base:=base) Fe T aA kF
 have du:=Gh (P:=l.prog) (w:=w) (mg:=mg) (base:=base) IT T ka bL
 have lR:=EN (P:=l.prog) (w:=w) (mg:=mg) (base:=base) GL T ag du
 have aF:=wc (P:=l.prog) (w:=w) (mg:=mg) (base:=base) Aa T ag du
 have ba:=wg (P:=l.prog) (w:=w) (mg:=mg) (base:=base) z7 T
 have je:=yG (P:=l.prog) (w:=w) (mg:=mg) (base:=base) CN T eY
 have iO:=wk (P:=l.prog) (w:=w) (mg:=mg) (base:=base) Ae T eY
 have gx:=rQ (P:=l.prog) (w:=w) (mg:=mg) (base:=base) tJ T
 have jf:=yK (P:=l.prog) (w:=w) (mg:=mg) (base:=base) CG T ag
 have pd:=HR (P:=l.prog) (w:=w) (mg:=mg) (base:=base) KZ T nk
 have pe:=HV (P:=l.prog) (w:=w) (mg:=mg) (base:=base) K0 T cj
 have lT:=ER (P:=l.prog) (w:=w) (mg:=mg) (base:=base) GP T kG
 have pj:=HW (P:=l.prog) (w:=w) (mg:=mg) (base:=base) K1 T aF je
 have pk:=HX (P:=l.prog) (w:=w) (mg:=mg) (base:=base) K3 T aF dJ jf
 have oZ:=HY (P:=l.prog) (w:=w) (mg:=mg) (base:=base) KY T aA aF d8 cj
 have nv:=Gk (P:=l.prog) (w:=w) (mg:=mg) (base:=base) IX T aF bL d8
 have jQ:=BA (P:=l.prog) (w:=w) (mg:=mg) (base:=base) El T jg gw gx
 have gz:=rS (P:=l.prog) (w:=w) (mg:=mg) (base:=base) tN T jh jQ
 have jj:=yL (P:=l.prog) (w:=w) (mg:=mg) (base:=base) CQ T cD cj
 have iP:=wm (P:=l.prog) (w:=w) (mg:=mg) (base:=base) Ah T aA iO cj cD
 have cw:=uu (P:=l.prog) (w:=w) (mg:=mg) (base:=base) xy T ji
 have dM:=yO (P:=l.prog) (w:=w) (mg:=mg) (base:=base) C3 T cw
 have N5:=yQ (P:=l.prog) (w:=w) (mg:=mg) (base:=base) C0 T du
 have MW:=wq (P:=l.prog) (w:=w) (mg:=mg) (base:=base) Ai T lR
 have LV:=uw (P:=l.prog) (w:=w) (mg:=mg) (base:=base) xA T aF
 have nu:=Gn (P:=l.prog) (w:=w) (mg:=mg) (base:=base) IW T
 have iM:=ET (P:=l.prog) (w:=w) (mg:=mg) (base:=base) GR T ka
 have bu:=yS (P:=l.prog) (w:=w) (mg:=mg) (base:=base) CS T iM nu
 have ie:=uy (P:=l.prog) (w:=w) (mg:=mg) (base:=base) xu T
 have ig:=uz (P:=l.prog) (w:=w) (mg:=mg) (base:=base) xq T
 have fS:=EU (P:=l.prog) (w:=w) (mg:=mg) (base:=base) GQ T ie ig
 have il:=uA (P:=l.prog) (w:=w) (mg:=mg) (base:=base) xx T ba bu fS
 have aI:=wz (P:=l.prog) (w:=w) (mg:=mg) (base:=base) Al T il
 have iR:=wA (P:=l.prog) (w:=w) (mg:=mg) (base:=base) Ao T ag aI ba bu
 have jR:=BE (P:=l.prog) (w:=w) (mg:=mg) (base:=base) Eo T ag fS
 have bW:=rV (P:=l.prog) (w:=w) (mg:=mg) (base:=base) tP T
 have iQ:=wB (P:=l.prog) (w:=w) (mg:=mg) (base:=base) Ay T cD bu
 have jk:=yW (P:=l.prog) (w:=w) (mg:=mg) (base:=base) CT T ag aA ji cw aI dM jj
 have jl:=yX (P:=l.prog) (w:=w) (mg:=mg) (base:=base) CW T iP iQ
 have kH:=D4 (P:=l.prog) (w:=w) (mg:=mg) (base:=base) Fh T
 have pq:=Ib (P:=l.prog) (w:=w) (mg:=mg) (base:=base) K4 T
 have nA:=Gu (P:=l.prog) (w:=w) (mg:=mg) (base:=base) IY T jk nv oZ pd pe lT pj jl pk aI bW jR iR
 have eu:=Ie (P:=l.prog) (w:=w) (mg:=mg) (base:=base) K5 T nA fT fU fg fi gy cX fV fW
 have j6:=Ig (P:=l.prog) (w:=w) (mg:=mg) (base:=base) K7 T gz
 have nC:=Gv (P:=l.prog) (w:=w) (mg:=mg) (base:=base) IZ T pq kH
 have iS:=wD (P:=l.prog) (w:=w) (mg:=mg) (base:=base) Ar T ba
 have gn:=qw (P:=l.prog) (w:=w) (mg:=mg) (base:=base) sq T
 have iT:=wG (P:=l.prog) (w:=w) (mg:=mg) (base:=base) Av T gn
 have cx:=uD (P:=l.prog) (w:=w) (mg:=mg) (base:=base) xD T
 have ip:=uF (P:=l.prog) (w:=w) (mg:=mg) (base:=base) xK T
 have jm:=y9 (P:=l.prog) (w:=w) (mg:=mg) (base:=base) CK T
 have jn:=zb (P:=l.prog) (w:=w) (mg:=mg) (base:=base) C6 T jm
 have jo:=zd (P:=l.prog) (w:=w) (mg:=mg) (base:=base) C9 T
 have gR:=sX (P:=l.prog) (w:=w) (mg:=mg) (base:=base) va T
 have aO:=sZ (P:=l.prog) (w:=w) (mg:=mg) (base:=base) vg T ag
 have bI:=qy (P:=l.prog) (w:=w) (mg:=mg) (base:=base) sA T aO
 have cy:=uJ (P:=l.prog) (w:=w) (mg:=mg) (base:=base) xG T aO
 have gS:=tj (P:=l.prog) (w:=w) (mg:=mg) (base:=base) vh T aO gR
 have cY:=Ih (P:=l.prog) (w:=w) (mg:=mg) (base:=base) K6 T cx bI cy gS iS iT ip jn jo bW
 have nB:=Gw (P:=l.prog) (w:=w) (mg:=mg) (base:=base) I0 T
 have eV:=Gy (P:=l.prog) (w:=w) (mg:=mg) (base:=base) Ja T cx cy bI
 have iU:=wK (P:=l.prog) (w:=w) (mg:=mg) (base:=base) AB T eV aI cY eu
 exact (Yu (P:=l.prog) (w:=w) (mg:=mg) (base:=base) Vp T j6 nB nC iU eu cY dM eV).g
theorem walk {l:OpenLaw} {q:Program} {loose:List Str} {XP:(Str→Option Value)→Heap→Prop} {YP:World→Heap→Prop} {d:DefRec} {K:Params→Frag} (hn:l.most=some 63) (hdf:d.params.defaults=[])
  (hY:∀ (w:World) (h:Heap),YP w h→(K w.params).In h)
  (F:∀ (w:World) (mg:Str→Option Value) (fa:Addr) (h:Heap),(K w.params).In h→h.Ns mainGlobals mg→mg d.name=some (.ref fa) →
   ∃ fd:FuncData,(∀ (s:Shared) (u:Value),BindsTo s fd ⟨[u],[]⟩ [("script",u)])∧∀ base:Heap,(K w.params).In base→base.Ns mainGlobals mg→Bi l.prog w (K w.params) mg base (CXE l.prog w) 12 fa fd ["script"] (O1 (K w.params))) :
  WalkO q loose XP YP l.row.toRowW d [] (fun f vs=>PySem.call f vs) :=
 L2.Rz (n:=63) (k:=12) (x := "script") (CX:=fun w=>CXE l.prog w) (sp:=fun w=>O1 (K w.params)) hn (by decide) hdf ⟨rfl,by decide,by decide⟩ hY F (fun _ _ a ns hl _ hS=>⟨a,ns,rfl,hS,hl,fun _=>rfl⟩) fun _ _ _ _ _ z=>abt z
end K12
namespace K12
open PySem PySem.W L2 PySem.PyData
section
abbrev OO:=Params→Obj
def oF (n q:Str) (s:Stmt) (m:Value) (r:Addr):Obj:=⟨.type "function",none,.func (fnOf n q (sG s) (bS s) (aq s) .none .none .none m none (.ref r) .none),#[]⟩
def oG (n q:Str) (s:Stmt):Obj:=⟨.none,none,.func ⟨n,q,sG s,.stmts (bS s),aq s,0,[],.none,.none,.none,.none,none,.none,.none,0⟩,#[]⟩
def oT (l:List Value):Obj:=⟨.type "tuple",none,.seq (List.toArray l) 0,#[]⟩
def kE (P:Params) (x:Str) (n:Tok) (v:Value):DictEntry:=⟨keyHash P x,.str x n,v⟩
def oC (n:Str) (t:Tok) (q:Str) (l a b c d:Int) (r:Addr) (e:Int) (f g h i:Addr) (z:Int) (u:Tok):Obj:=⟨.type "code",none,.fields (List.toArray [.str n t,.str q (t+1),.str "/claim/cut.py" (t+2),.int l 0,.int a 0,.int b 0,.int c 0,.int d 0,.ref r,.bool true,.int e 0,.ref f,.none,.ref g,.ref h,.ref i,.int z 0,.int l 0,.str "/claim/cut.py" u]),#[]⟩
def spl:List (Params→Obj)→List (Params→Obj)×List (Params→Obj)
 | []=>([],[])
 | [a]=>([a],[])
 | a::b::r=>(a::(spl r).1,b::(spl r).2)
def mkT (P:Params):Nat→List (Params→Obj)→BT
 | 0,_=>.nil
 | _+1,[]=>.nil
 | n+1,x::r=>.node (x P) (mkT P n (spl r).1) (mkT P n (spl r).2)
noncomputable def o0:OO:=fun P=>⟨(.type "dict"),none,(.dict (List.toArray [kE P "__name__" 1 (.str "builtins" 160),kE P "__doc__" 2 (.builtin "builtins.__doc__:str#opaque"),kE P "__package__" 3 (.builtin "builtins.__package__:str#opaque"),kE P "__loader__" 4 (.builtin "builtins.__loader__:shared#opaque"),kE P "__spec__" 5 (.builtin "builtins.__spec__#opaque"),kE P "__build_class__" 6 (.builtin "__build_class__"),kE P "__import__" 7 (.builtin "__import__"),kE P "abs" 8 (.builtin "abs"),kE P "all" 9 (.builtin "all"),kE P "any" 10 (.builtin "any"),kE P "ascii" 11 (.builtin "ascii"),kE P "bin" 12 (.builtin "bin"),kE P "breakpoint" 13 (.builtin "breakpoint"),kE P "callable" 14 (.builtin "callable"),kE P "chr" 15 (.builtin "chr"),kE P "compile" 16 (.builtin "compile"),kE P "delattr" 17 (.builtin "delattr"),kE P "dir" 18 (.builtin "dir"),kE P "divmod" 19 (.builtin "divmod"),kE P "eval" 20 (.builtin "eval"),kE P "exec" 21 (.builtin "exec"),kE P "format" 22 (.builtin "format"),kE P "getattr" 23 (.builtin "getattr"),kE P "globals" 24 (.builtin "globals"),kE P "hasattr" 25 (.builtin "hasattr"),kE P "hash" 26 (.builtin "hash"),kE P "hex" 27 (.builtin "hex"),kE P "id" 28 (.builtin "id"),kE P "input" 29 (.builtin "input"),kE P "isinstance" 30 (.builtin "isinstance"),kE P "issubclass" 31 (.builtin "issubclass"),kE P "iter" 32 (.builtin "iter"),kE P "aiter" 33 (.builtin "aiter"),kE P "len" 34 (.builtin "len"),kE P "locals" 35 (.builtin "locals"),kE P "max" 36 (.builtin "max"),kE P "min" 37 (.builtin "min"),kE P "next" 38 (.builtin "next"),kE P "anext" 39 (.builtin "anext"),kE P "oct" 40 (.builtin "oct"),kE P "ord" 41 (.builtin "ord"),kE P "pow" 42 (.builtin "pow"),kE P "print" 43 (.builtin "print"),kE P "repr" 44 (.builtin "repr"),kE P "round" 45 (.builtin "round"),kE P "setattr" 46 (.builtin "setattr"),kE P "sorted" 47 (.builtin "sorted"),kE P "sum" 48 (.builtin "sum"),kE P "vars" 49 (.builtin "vars"),kE P "None" 50 .none,kE P "Ellipsis" 51 .ellipsis,kE P "NotImplemented" 52 .notImplemented,kE P "False" 53 (.bool false),kE P "True" 54 (.bool true),kE P "bool" 55 (.type "bool"),kE P "memoryview" 56 (.type "memoryview"),kE P "bytearray" 57 (.type "bytearray"),kE P "bytes" 58 (.type "bytes"),kE P "classmethod" 59 (.type "classmethod"),kE P "complex" 60 (.type "complex"),kE P "dict" 61 (.type "dict"),kE P "enumerate" 62 (.type "enumerate"),kE P "filter" 63 (.type "filter"),kE P "float" 64 (.type "float"),kE P "frozenset" 65 (.type "frozenset"),kE P "property" 66 (.type "property"),kE P "int" 67 (.type "int"),kE P "list" 68 (.type "list"),kE P "map" 69 (.type "map"),kE P "object" 70 (.type "object"),kE P "range" 71 (.type "range"),kE P "reversed" 72 (.type "reversed"),kE P "set" 73 (.type "set"),kE P "slice" 74 (.type "slice"),kE P "staticmethod" 75 (.type "staticmethod"),kE P "str" 76 (.type "str"),kE P "super" 77 (.type "super"),kE P "tuple" 78 (.type "tuple"),kE P "type" 79 (.type "type"),kE P "zip" 80 (.type "zip"),kE P "__debug__" 81 (.bool true),kE P "BaseException" 82 (.type "BaseException"),kE P "BaseExceptionGroup" 83 (.type "BaseExceptionGroup"),kE P "Exception" 84 (.type "Exception"),kE P "GeneratorExit" 85 (.type "GeneratorExit"),kE P "KeyboardInterrupt" 86 (.type "KeyboardInterrupt"),kE P "SystemExit" 87 (.type "SystemExit"),kE P "ArithmeticError" 88 (.type "ArithmeticError"),kE P "AssertionError" 89 (.type "AssertionError"),kE P "AttributeError" 90 (.type "AttributeError"),kE P "BufferError" 91 (.type "BufferError"),kE P "EOFError" 92 (.type "EOFError"),kE P "ImportError" 93 (.type "ImportError"),kE P "LookupError" 94 (.type "LookupError"),kE P "MemoryError" 95 (.type "MemoryError"),kE P "NameError" 96 (.type "NameError"),kE P "OSError" 97 (.type "OSError"),kE P "ReferenceError" 98 (.type "ReferenceError"),kE P "RuntimeError" 99 (.type "RuntimeError"),kE P "StopAsyncIteration" 100 (.type "StopAsyncIteration"),kE P "StopIteration" 101 (.type "StopIteration"),kE P "SyntaxError" 102 (.type "SyntaxError"),kE P "SystemError" 103 (.type "SystemError"),kE P "TypeError" 104 (.type "TypeError"),kE P "ValueError" 105 (.type "ValueError"),kE P "Warning" 106 (.type "Warning"),kE P "FloatingPointError" 107 (.type "FloatingPointError"),kE P "OverflowError" 108 (.type "OverflowError"),kE P "ZeroDivisionError" 109 (.type "ZeroDivisionError"),kE P "BytesWarning" 110 (.type "BytesWarning"),kE P "DeprecationWarning" 111 (.type "DeprecationWarning"),kE P "EncodingWarning" 112 (.type "EncodingWarning"),kE P "FutureWarning" 113 (.type "FutureWarning"),kE P "ImportWarning" 114 (.type "ImportWarning"),kE P "PendingDeprecationWarning" 115 (.type "PendingDeprecationWarning"),kE P "ResourceWarning" 116 (.type "ResourceWarning"),kE P "RuntimeWarning" 117 (.type "RuntimeWarning"),kE P "SyntaxWarning" 118 (.type "SyntaxWarning"),kE P "UnicodeWarning" 119 (.type "UnicodeWarning"),kE P "UserWarning" 120 (.type "UserWarning"),kE P "BlockingIOError" 121 (.type "BlockingIOError"),kE P "ChildProcessError" 122 (.type "ChildProcessError"),kE P "ConnectionError" 123 (.type "ConnectionError"),kE P "FileExistsError" 124 (.type "FileExistsError"),kE P "FileNotFoundError" 125 (.type "FileNotFoundError"),kE P "InterruptedError" 126 (.type "InterruptedError"),kE P "IsADirectoryError" 127 (.type "IsADirectoryError"),kE P "NotADirectoryError" 128 (.type "NotADirectoryError"),kE P "PermissionError" 129 (.type "PermissionError"),kE P "ProcessLookupError" 130 (.type "ProcessLookupError"),kE P "TimeoutError" 131 (.type "TimeoutError"),kE P "IndentationError" 132 (.type "IndentationError"),kE P "_IncompleteInputError" 133 (.type "_IncompleteInputError"),kE P "IndexError" 134 (.type "IndexError"),kE P "KeyError" 135 (.type "KeyError"),kE P "ModuleNotFoundError" 136 (.type "ModuleNotFoundError"),kE P "NotImplementedError" 137 (.type "NotImplementedError"),kE P "PythonFinalizationError" 138 (.type "PythonFinalizationError"),kE P "RecursionError" 139 (.type "RecursionError"),kE P "UnboundLocalError" 140 (.type "UnboundLocalError"),kE P "UnicodeError" 141 (.type "UnicodeError"),kE P "BrokenPipeError" 142 (.type "BrokenPipeError"),kE P "ConnectionAbortedError" 143 (.type "ConnectionAbortedError"),kE P "ConnectionRefusedError" 144 (.type "ConnectionRefusedError"),kE P "ConnectionResetError" 145 (.type "ConnectionResetError"),kE P "TabError" 146 (.type "TabError"),kE P "UnicodeDecodeError" 147 (.type "UnicodeDecodeError"),kE P "UnicodeEncodeError" 148 (.type "UnicodeEncodeError"),kE P "UnicodeTranslateError" 149 (.type "UnicodeTranslateError"),kE P "ExceptionGroup" 150 (.type "ExceptionGroup"),kE P "EnvironmentError" 151 (.type "OSError"),kE P "IOError" 152 (.type "OSError"),kE P "open" 153 (.builtin "open"),kE P "quit" 154 (.builtin "builtins.quit#opaque"),kE P "exit" 155 (.builtin "builtins.exit#opaque"),kE P "copyright" 156 (.builtin "builtins.copyright#opaque"),kE P "credits" 157 (.builtin "builtins.credits#opaque"),kE P "license" 158 (.builtin "builtins.license#opaque"),kE P "help" 159 (.builtin "builtins.help#opaque")]) 159),#[]⟩
noncomputable def o1:OO:=fun P=>⟨(.type "dict"),none,(.dict (List.toArray [kE P "builtins" 162 (.ref 4),kE P "__main__" 163 (.ref 5)]) 2),#[]⟩
def o2:OO:=fun _=>⟨.none,none,(.dict #[] 0),#[]⟩
noncomputable def o3:OO:=fun P=>⟨(.type "dict"),none,(.dict (List.toArray [kE P "__name__" 165 (.str "__main__" 164),kE P "__doc__" 166 .none,kE P "__package__" 167 .none,kE P "__loader__" 168 (.builtin "__main__.__loader__#opaque"),kE P "__spec__" 169 .none,kE P "__annotations__" 170 (.ref 6),kE P "__builtins__" 171 (.ref 4),kE P "__file__" 173 (.str "/claim/cut.py" 172),kE P "__cached__" 174 .none]) 9),#[]⟩
def o4:OO:=fun _=>⟨(.type "module"),(.some 0),.plain,#[]⟩
def o5:OO:=fun _=>⟨(.type "module"),(.some 3),.plain,#[]⟩
def o6:OO:=fun _=>⟨(.type "dict"),none,(.dict #[] 0),#[]⟩
def o7:OO:=fun _=>⟨(.type "tuple"),none,(.seq #[] 0),#[]⟩
def o8:OO:=fun _=>⟨.none,none,(.fields #[]),#[]⟩
noncomputable def o9:OO:=fun _=>⟨(.type "code"),none,(.fields (List.toArray [(.str "<module>" 176),(.str "<module>" 177),(.str "/claim/cut.py" 178),(.int 1 0),(.int 0 0),(.int 0 0),(.int 0 0),(.int 0 0),(.ref 7),(.bool false),(.int 175 0),(.ref 8),.none,.none,.none,.none,(.int 179 0),(.int 1 0),(.str "/claim/cut.py" 180)])),#[]⟩
noncomputable def o10:OO:=fun _=>⟨(.type "frame"),none,.plain,(List.toArray [(.some (.ref 9)),(.some (.ref 3)),(.some (.ref 3)),none,(.some (.str "__main__" 164)),none,(.some (.ref 0))])⟩
noncomputable def o11:OO:=fun _=>⟨(.type "code"),none,(.fields (List.toArray [(.str "<module>" 182),(.str "<module>" 183),(.str "/claim/cut.py" 184),(.int 1 0),(.int 0 0),(.int 0 0),(.int 0 0),(.int 0 0),(.ref 11),(.bool false),(.int 181 0),(.ref 12),.none,.none,.none,.none,(.int 185 0),(.int 1 0),(.str "/claim/cut.py" 186)])),#[]⟩
noncomputable def o12:OO:=fun _=>⟨(.type "frame"),none,.plain,(List.toArray [(.some (.ref 13)),(.some (.ref 3)),(.some (.ref 3)),none,(.some (.str "__main__" 164)),none,(.some (.ref 0))])⟩
noncomputable def o13:OO:=fun P=>⟨(.type "dict"),none,(.dict (List.toArray [kE P "__name__" 165 (.str "stillheap.errors" 194),kE P "__doc__" 166 .none,kE P "__package__" 167 .none,kE P "__loader__" 168 (.builtin "__main__.__loader__#opaque"),kE P "__spec__" 169 .none,kE P "__annotations__" 170 (.ref 6),kE P "__builtins__" 171 (.ref 4),kE P "__file__" 173 (.str "/claim/cut.py" 172),kE P "__cached__" 174 .none,kE P "_wall" 193 (.ref 21),kE P "HeapError" 228 (.ref 45),kE P "BadHand" 251 (.ref 65),kE P "BadName" 274 (.ref 84),kE P "BadField" 297 (.ref 103),kE P "BadCount" 320 (.ref 122),kE P "NoRoom" 343 (.ref 141),kE P "TooManyWords" 366 (.ref 160),kE P "RoundOn" 389 (.ref 179)]) 18),#[]⟩
noncomputable def o14:OO:=fun _=>⟨.none,none,(.fields (List.toArray [(.int 1 0),(.int 0 0),(.ref 20),(.int 5 0),(.int 0 0),(.ref 27),(.int 12 0),(.int 0 0),(.ref 54),(.int 16 0),(.int 0 0),(.ref 73),(.int 20 0),(.int 0 0),(.ref 92),(.int 24 0),(.int 0 0),(.ref 111),(.int 28 0),(.int 0 0),(.ref 130),(.int 32 0),(.int 0 0),(.ref 149),(.int 36 0),(.int 0 0),(.ref 168)])),#[]⟩
def o15:OO:=fun _=>oT [(.str "k" 190)]
def o16:OO:=fun _=>oG "_wall" "_wall" (top 0)
def o17:OO:=fun _=>oC "_wall" 187 "_wall" 1 1 0 0 3 15 181 16 17 18 19 191 192
def o18:OO:=fun _=>oF "_wall" "_wall" (top 0) (.str "__main__" 164) 20
def o19:OO:=fun _=>oT [(.type "ValueError")]
noncomputable def o20:OO:=fun _=>⟨(.type "builtin_function_or_method"),none,(.fields (List.toArray [(.builtin "type.__prepare__"),(.type "type")])),#[]⟩
noncomputable def o21:OO:=fun P=>⟨(.type "dict"),none,(.dict (List.toArray [kE P "__module__" 203 (.str "stillheap.errors" 194),kE P "__qualname__" 205 (.str "HeapError" 204),kE P "__firstlineno__" 207 (.int 5 206),kE P "__init__" 215 (.ref 35),kE P "called" 222 (.ref 42),kE P "__static_attributes__" 223 (.ref 43)]) 6),#[]⟩
noncomputable def o22:OO:=fun _=>⟨.none,none,(.fields (List.toArray [(.int 7 0),(.int 4 0),(.ref 34),(.int 10 0),(.int 4 0),(.ref 41)])),#[]⟩
noncomputable def o23:OO:=fun _=>⟨(.type "code"),none,(.fields (List.toArray [(.str "HeapError" 198),(.str "HeapError" 199),(.str "/claim/cut.py" 200),(.int 5 0),(.int 0 0),(.int 0 0),(.int 0 0),(.int 0 0),(.ref 25),(.bool false),(.int 181 0),(.ref 26),.none,.none,.none,.none,(.int 201 0),(.int 5 0),(.str "/claim/cut.py" 202)])),#[]⟩
noncomputable def o24:OO:=fun _=>⟨(.type "frame"),none,.plain,(List.toArray [(.some (.ref 27)),(.some (.ref 3)),(.some (.ref 24)),none,(.some (.str "stillheap.errors" 194)),none,(.some (.ref 0))])⟩
def o25:OO:=fun _=>oT [(.str "self" 211),(.str "text" 212)]
def o26:OO:=fun _=>oG "__init__" "HeapError.__init__" (inClass (top 2) 0)
def o27:OO:=fun _=>oC "__init__" 208 "HeapError.__init__" 7 2 0 0 3 29 181 30 31 32 33 213 214
noncomputable def o28:OO:=fun _=>oF "__init__" "HeapError.__init__" (inClass (top 2) 0) (.str "stillheap.errors" 194) 34
def o29:OO:=fun _=>oT [(.str "self" 219)]
def o30:OO:=fun _=>oG "called" "HeapError.called" (inClass (top 2) 1)
def o31:OO:=fun _=>oC "called" 216 "HeapError.called" 10 1 0 0 3 36 181 37 38 39 40 220 221
noncomputable def o32:OO:=fun _=>oF "called" "HeapError.called" (inClass (top 2) 1) (.str "stillheap.errors" 194) 41
noncomputable def o33:OO:=fun P=>⟨(.type "dict"),none,(.dict (List.toArray [kE P "__module__" 203 (.str "stillheap.errors" 194),kE P "__firstlineno__" 207 (.int 5 206),kE P "__init__" 215 (.ref 35),kE P "called" 222 (.ref 42),kE P "__static_attributes__" 223 (.ref 43),kE P "__weakref__" 225 (.ref 46),kE P "__doc__" 226 .none]) 3),#[]⟩
noncomputable def o34:OO:=fun _=>⟨(.type "type"),none,(.cls ⟨"HeapError",[(.type "ValueError")],[(.ref 45),(.type "ValueError"),(.type "Exception"),(.type "BaseException"),(.type "object")],44, "HeapError",true,[],[(.ref 65),(.ref 84),(.ref 103),(.ref 122),(.ref 141),(.ref 160),(.ref 179)],false,none,false⟩),(List.toArray [(.some (.ref 22)),none,(.some (.str "HeapError" 196)),(.some (.str "HeapError" 204)),(.some (.builtin "ValueError.__new__")),(.some (.bool true))])⟩
noncomputable def o35:OO:=fun _=>⟨(.type "getset_descriptor"),none,(.fields (List.toArray [(.str "__weakref__" 224),(.ref 45),(.builtin "ExceptionGroup.__weakref__"),.none])),#[]⟩
noncomputable def o36:OO:=fun _=>⟨(.type "super"),none,(.fields (List.toArray [(.ref 45),(.ref 45),(.ref 45)])),#[]⟩
noncomputable def o37:OO:=fun _=>⟨(.type "builtin_function_or_method"),none,(.fields (List.toArray [(.builtin "object.__init_subclass__"),(.ref 45)])),#[]⟩
def o38:OO:=fun _=>oT [(.ref 45)]
noncomputable def o39:OO:=fun P=>⟨(.type "dict"),none,(.dict (List.toArray [kE P "__module__" 236 (.str "stillheap.errors" 194),kE P "__qualname__" 238 (.str "BadHand" 237),kE P "__firstlineno__" 240 (.int 12 239),kE P "called" 247 (.ref 62),kE P "__static_attributes__" 248 (.ref 63)]) 5),#[]⟩
noncomputable def o40:OO:=fun _=>⟨.none,none,(.fields (List.toArray [(.int 14 0),(.int 4 0),(.ref 61)])),#[]⟩
noncomputable def o41:OO:=fun _=>⟨(.type "code"),none,(.fields (List.toArray [(.str "BadHand" 231),(.str "BadHand" 232),(.str "/claim/cut.py" 233),(.int 12 0),(.int 0 0),(.int 0 0),(.int 0 0),(.int 0 0),(.ref 52),(.bool false),(.int 181 0),(.ref 53),.none,.none,.none,.none,(.int 234 0),(.int 12 0),(.str "/claim/cut.py" 235)])),#[]⟩
noncomputable def o42:OO:=fun _=>⟨(.type "frame"),none,.plain,(List.toArray [(.some (.ref 54)),(.some (.ref 3)),(.some (.ref 51)),none,(.some (.str "stillheap.errors" 194)),none,(.some (.ref 0))])⟩
def o43:OO:=fun _=>oT [(.str "self" 244)]
def o44:OO:=fun _=>oG "called" "BadHand.called" (inClass (top 3) 0)
def o45:OO:=fun _=>oC "called" 241 "BadHand.called" 14 1 0 0 3 56 181 57 58 59 60 245 246
noncomputable def o46:OO:=fun _=>oF "called" "BadHand.called" (inClass (top 3) 0) (.str "stillheap.errors" 194) 61
noncomputable def o47:OO:=fun P=>⟨(.type "dict"),none,(.dict (List.toArray [kE P "__module__" 236 (.str "stillheap.errors" 194),kE P "__firstlineno__" 240 (.int 12 239),kE P "called" 247 (.ref 62),kE P "__static_attributes__" 248 (.ref 63),kE P "__doc__" 249 .none]) 2),#[]⟩
noncomputable def o48:OO:=fun _=>⟨(.type "type"),none,(.cls ⟨"BadHand",[(.ref 45)],[(.ref 65),(.ref 45),(.type "ValueError"),(.type "Exception"),(.type "BaseException"),(.type "object")],64, "BadHand",true,[],[],false,none,false⟩),(List.toArray [(.some (.ref 49)),none,(.some (.str "BadHand" 229)),(.some (.str "BadHand" 237)),(.some (.builtin "ValueError.__new__")),(.some (.bool true))])⟩
noncomputable def o49:OO:=fun _=>⟨(.type "super"),none,(.fields (List.toArray [(.ref 65),(.ref 65),(.ref 65)])),#[]⟩
noncomputable def o50:OO:=fun _=>⟨(.type "builtin_function_or_method"),none,(.fields (List.toArray [(.builtin "object.__init_subclass__"),(.ref 65)])),#[]⟩
noncomputable def o51:OO:=fun P=>⟨(.type "dict"),none,(.dict (List.toArray [kE P "__module__" 259 (.str "stillheap.errors" 194),kE P "__qualname__" 261 (.str "BadName" 260),kE P "__firstlineno__" 263 (.int 16 262),kE P "called" 270 (.ref 81),kE P "__static_attributes__" 271 (.ref 82)]) 5),#[]⟩
noncomputable def o52:OO:=fun _=>⟨.none,none,(.fields (List.toArray [(.int 18 0),(.int 4 0),(.ref 80)])),#[]⟩
noncomputable def o53:OO:=fun _=>⟨(.type "code"),none,(.fields (List.toArray [(.str "BadName" 254),(.str "BadName" 255),(.str "/claim/cut.py" 256),(.int 16 0),(.int 0 0),(.int 0 0),(.int 0 0),(.int 0 0),(.ref 71),(.bool false),(.int 181 0),(.ref 72),.none,.none,.none,.none,(.int 257 0),(.int 16 0),(.str "/claim/cut.py" 258)])),#[]⟩
noncomputable def o54:OO:=fun _=>⟨(.type "frame"),none,.plain,(List.toArray [(.some (.ref 73)),(.some (.ref 3)),(.some (.ref 70)),none,(.some (.str "stillheap.errors" 194)),none,(.some (.ref 0))])⟩
def o55:OO:=fun _=>oT [(.str "self" 267)]
def o56:OO:=fun _=>oG "called" "BadName.called" (inClass (top 4) 0)
def o57:OO:=fun _=>oC "called" 264 "BadName.called" 18 1 0 0 3 75 181 76 77 78 79 268 269
noncomputable def o58:OO:=fun _=>oF "called" "BadName.called" (inClass (top 4) 0) (.str "stillheap.errors" 194) 80
noncomputable def o59:OO:=fun P=>⟨(.type "dict"),none,(.dict (List.toArray [kE P "__module__" 259 (.str "stillheap.errors" 194),kE P "__firstlineno__" 263 (.int 16 262),kE P "called" 270 (.ref 81),kE P "__static_attributes__" 271 (.ref 82),kE P "__doc__" 272 .none]) 2),#[]⟩
noncomputable def o60:OO:=fun _=>⟨(.type "type"),none,(.cls ⟨"BadName",[(.ref 45)],[(.ref 84),(.ref 45),(.type "ValueError"),(.type "Exception"),(.type "BaseException"),(.type "object")],83, "BadName",true,[],[],false,none,false⟩),(List.toArray [(.some (.ref 68)),none,(.some (.str "BadName" 252)),(.some (.str "BadName" 260)),(.some (.builtin "ValueError.__new__")),(.some (.bool true))])⟩
noncomputable def o61:OO:=fun _=>⟨(.type "super"),none,(.fields (List.toArray [(.ref 84),(.ref 84),(.ref 84)])),#[]⟩
noncomputable def o62:OO:=fun _=>⟨(.type "builtin_function_or_method"),none,(.fields (List.toArray [(.builtin "object.__init_subclass__"),(.ref 84)])),#[]⟩
noncomputable def o63:OO:=fun P=>⟨(.type "dict"),none,(.dict (List.toArray [kE P "__module__" 282 (.str "stillheap.errors" 194),kE P "__qualname__" 284 (.str "BadField" 283),kE P "__firstlineno__" 286 (.int 20 285),kE P "called" 293 (.ref 100),kE P "__static_attributes__" 294 (.ref 101)]) 5),#[]⟩
noncomputable def o64:OO:=fun _=>⟨.none,none,(.fields (List.toArray [(.int 22 0),(.int 4 0),(.ref 99)])),#[]⟩
noncomputable def o65:OO:=fun _=>⟨(.type "code"),none,(.fields (List.toArray [(.str "BadField" 277),(.str "BadField" 278),(.str "/claim/cut.py" 279),(.int 20 0),(.int 0 0),(.int 0 0),(.int 0 0),(.int 0 0),(.ref 90),(.bool false),(.int 181 0),(.ref 91),.none,.none,.none,.none,(.int 280 0),(.int 20 0),(.str "/claim/cut.py" 281)])),#[]⟩
noncomputable def o66:OO:=fun _=>⟨(.type "frame"),none,.plain,(List.toArray [(.some (.ref 92)),(.some (.ref 3)),(.some (.ref 89)),none,(.some (.str "stillheap.errors" 194)),none,(.some (.ref 0))])⟩
def o67:OO:=fun _=>oT [(.str "self" 290)]
def o68:OO:=fun _=>oG "called" "BadField.called" (inClass (top 5) 0)
def o69:OO:=fun _=>oC "called" 287 "BadField.called" 22 1 0 0 3 94 181 95 96 97 98 291 292
noncomputable def o70:OO:=fun _=>oF "called" "BadField.called" (inClass (top 5) 0) (.str "stillheap.errors" 194) 99
noncomputable def o71:OO:=fun P=>⟨(.type "dict"),none,(.dict (List.toArray [kE P "__module__" 282 (.str "stillheap.errors" 194),kE P "__firstlineno__" 286 (.int 20 285),kE P "called" 293 (.ref 100),kE P "__static_attributes__" 294 (.ref 101),kE P "__doc__" 295 .none]) 2),#[]⟩
noncomputable def o72:OO:=fun _=>⟨(.type "type"),none,(.cls ⟨"BadField",[(.ref 45)],[(.ref 103),(.ref 45),(.type "ValueError"),(.type "Exception"),(.type "BaseException"),(.type "object")],102, "BadField",true,[],[],false,none,false⟩),(List.toArray [(.some (.ref 87)),none,(.some (.str "BadField" 275)),(.some (.str "BadField" 283)),(.some (.builtin "ValueError.__new__")),(.some (.bool true))])⟩
noncomputable def o73:OO:=fun _=>⟨(.type "super"),none,(.fields (List.toArray [(.ref 103),(.ref 103),(.ref 103)])),#[]⟩
noncomputable def o74:OO:=fun _=>⟨(.type "builtin_function_or_method"),none,(.fields (List.toArray [(.builtin "object.__init_subclass__"),(.ref 103)])),#[]⟩
noncomputable def o75:OO:=fun P=>⟨(.type "dict"),none,(.dict (List.toArray [kE P "__module__" 305 (.str "stillheap.errors" 194),kE P "__qualname__" 307 (.str "BadCount" 306),kE P "__firstlineno__" 309 (.int 24 308),kE P "called" 316 (.ref 119),kE P "__static_attributes__" 317 (.ref 120)]) 5),#[]⟩
noncomputable def o76:OO:=fun _=>⟨.none,none,(.fields (List.toArray [(.int 26 0),(.int 4 0),(.ref 118)])),#[]⟩
noncomputable def o77:OO:=fun _=>⟨(.type "code"),none,(.fields (List.toArray [(.str "BadCount" 300),(.str "BadCount" 301),(.str "/claim/cut.py" 302),(.int 24 0),(.int 0 0),(.int 0 0),(.int 0 0),(.int 0 0),(.ref 109),(.bool false),(.int 181 0),(.ref 110),.none,.none,.none,.none,(.int 303 0),(.int 24 0),(.str "/claim/cut.py" 304)])),#[]⟩
noncomputable def o78:OO:=fun _=>⟨(.type "frame"),none,.plain,(List.toArray [(.some (.ref 111)),(.some (.ref 3)),(.some (.ref 108)),none,(.some (.str "stillheap.errors" 194)),none,(.some (.ref 0))])⟩
def o79:OO:=fun _=>oT [(.str "self" 313)]
def o80:OO:=fun _=>oG "called" "BadCount.called" (inClass (top 6) 0)
def o81:OO:=fun _=>oC "called" 310 "BadCount.called" 26 1 0 0 3 113 181 114 115 116 117 314 315
noncomputable def o82:OO:=fun _=>oF "called" "BadCount.called" (inClass (top 6) 0) (.str "stillheap.errors" 194) 118
noncomputable def o83:OO:=fun P=>⟨(.type "dict"),none,(.dict (List.toArray [kE P "__module__" 305 (.str "stillheap.errors" 194),kE P "__firstlineno__" 309 (.int 24 308),kE P "called" 316 (.ref 119),kE P "__static_attributes__" 317 (.ref 120),kE P "__doc__" 318 .none]) 2),#[]⟩
noncomputable def o84:OO:=fun _=>⟨(.type "type"),none,(.cls ⟨"BadCount",[(.ref 45)],[(.ref 122),(.ref 45),(.type "ValueError"),(.type "Exception"),(.type "BaseException"),(.type "object")],121, "BadCount",true,[],[],false,none,false⟩),(List.toArray [(.some (.ref 106)),none,(.some (.str "BadCount" 298)),(.some (.str "BadCount" 306)),(.some (.builtin "ValueError.__new__")),(.some (.bool true))])⟩
noncomputable def o85:OO:=fun _=>⟨(.type "super"),none,(.fields (List.toArray [(.ref 122),(.ref 122),(.ref 122)])),#[]⟩
noncomputable def o86:OO:=fun _=>⟨(.type "builtin_function_or_method"),none,(.fields (List.toArray [(.builtin "object.__init_subclass__"),(.ref 122)])),#[]⟩
noncomputable def o87:OO:=fun P=>⟨(.type "dict"),none,(.dict (List.toArray [kE P "__module__" 328 (.str "stillheap.errors" 194),kE P "__qualname__" 330 (.str "NoRoom" 329),kE P "__firstlineno__" 332 (.int 28 331),kE P "called" 339 (.ref 138),kE P "__static_attributes__" 340 (.ref 139)]) 5),#[]⟩
noncomputable def o88:OO:=fun _=>⟨.none,none,(.fields (List.toArray [(.int 30 0),(.int 4 0),(.ref 137)])),#[]⟩
noncomputable def o89:OO:=fun _=>⟨(.type "code"),none,(.fields (List.toArray [(.str "NoRoom" 323),(.str "NoRoom" 324),(.str "/claim/cut.py" 325),(.int 28 0),(.int 0 0),(.int 0 0),(.int 0 0),(.int 0 0),(.ref 128),(.bool false),(.int 181 0),(.ref 129),.none,.none,.none,.none,(.int 326 0),(.int 28 0),(.str "/claim/cut.py" 327)])),#[]⟩
noncomputable def o90:OO:=fun _=>⟨(.type "frame"),none,.plain,(List.toArray [(.some (.ref 130)),(.some (.ref 3)),(.some (.ref 127)),none,(.some (.str "stillheap.errors" 194)),none,(.some (.ref 0))])⟩
def o91:OO:=fun _=>oT [(.str "self" 336)]
def o92:OO:=fun _=>oG "called" "NoRoom.called" (inClass (top 7) 0)
def o93:OO:=fun _=>oC "called" 333 "NoRoom.called" 30 1 0 0 3 132 181 133 134 135 136 337 338
noncomputable def o94:OO:=fun _=>oF "called" "NoRoom.called" (inClass (top 7) 0) (.str "stillheap.errors" 194) 137
noncomputable def o95:OO:=fun P=>⟨(.type "dict"),none,(.dict (List.toArray [kE P "__module__" 328 (.str "stillheap.errors" 194),kE P "__firstlineno__" 332 (.int 28 331),kE P "called" 339 (.ref 138),kE P "__static_attributes__" 340 (.ref 139),kE P "__doc__" 341 .none]) 2),#[]⟩
noncomputable def o96:OO:=fun _=>⟨(.type "type"),none,(.cls ⟨"NoRoom",[(.ref 45)],[(.ref 141),(.ref 45),(.type "ValueError"),(.type "Exception"),(.type "BaseException"),(.type "object")],140, "NoRoom",true,[],[],false,none,false⟩),(List.toArray [(.some (.ref 125)),none,(.some (.str "NoRoom" 321)),(.some (.str "NoRoom" 329)),(.some (.builtin "ValueError.__new__")),(.some (.bool true))])⟩
noncomputable def o97:OO:=fun _=>⟨(.type "super"),none,(.fields (List.toArray [(.ref 141),(.ref 141),(.ref 141)])),#[]⟩
noncomputable def o98:OO:=fun _=>⟨(.type "builtin_function_or_method"),none,(.fields (List.toArray [(.builtin "object.__init_subclass__"),(.ref 141)])),#[]⟩
noncomputable def o99:OO:=fun P=>⟨(.type "dict"),none,(.dict (List.toArray [kE P "__module__" 351 (.str "stillheap.errors" 194),kE P "__qualname__" 353 (.str "TooManyWords" 352),kE P "__firstlineno__" 355 (.int 32 354),kE P "called" 362 (.ref 157),kE P "__static_attributes__" 363 (.ref 158)]) 5),#[]⟩
noncomputable def Se:OO:=fun _=>⟨.none,none,(.fields (List.toArray [(.int 34 0),(.int 4 0),(.ref 156)])),#[]⟩
noncomputable def Sf:OO:=fun _=>⟨(.type "code"),none,(.fields (List.toArray [(.str "TooManyWords" 346),(.str "TooManyWords" 347),(.str "/claim/cut.py" 348),(.int 32 0),(.int 0 0),(.int 0 0),(.int 0 0),(.int 0 0),(.ref 147),(.bool false),(.int 181 0),(.ref 148),.none,.none,.none,.none,(.int 349 0),(.int 32 0),(.str "/claim/cut.py" 350)])),#[]⟩
noncomputable def Sg:OO:=fun _=>⟨(.type "frame"),none,.plain,(List.toArray [(.some (.ref 149)),(.some (.ref 3)),(.some (.ref 146)),none,(.some (.str "stillheap.errors" 194)),none,(.some (.ref 0))])⟩
def QO:OO:=fun _=>oT [(.str "self" 359)]
def Sh:OO:=fun _=>oG "called" "TooManyWords.called" (inClass (top 8) 0)
noncomputable def QP:OO:=fun _=>oC "called" 356 "TooManyWords.called" 34 1 0 0 3 151 181 152 153 154 155 360 361
noncomputable def QQ:OO:=fun _=>oF "called" "TooManyWords.called" (inClass (top 8) 0) (.str "stillheap.errors" 194) 156
noncomputable def QR:OO:=fun P=>⟨(.type "dict"),none,(.dict (List.toArray [kE P "__module__" 351 (.str "stillheap.errors" 194),kE P "__firstlineno__" 355 (.int 32 354),kE P "called" 362 (.ref 157),kE P "__static_attributes__" 363 (.ref 158),kE P "__doc__" 364 .none]) 2),#[]⟩
noncomputable def QS:OO:=fun _=>⟨(.type "type"),none,(.cls ⟨"TooManyWords",[(.ref 45)],[(.ref 160),(.ref 45),(.type "ValueError"),(.type "Exception"),(.type "BaseException"),(.type "object")],159, "TooManyWords",true,[],[],false,none,false⟩),(List.toArray [(.some (.ref 144)),none,(.some (.str "TooManyWords" 344)),(.some (.str "TooManyWords" 352)),(.some (.builtin "ValueError.__new__")),(.some (.bool true))])⟩
noncomputable def Si:OO:=fun _=>⟨(.type "super"),none,(.fields (List.toArray [(.ref 160),(.ref 160),(.ref 160)])),#[]⟩
noncomputable def Sj:OO:=fun _=>⟨(.type "builtin_function_or_method"),none,(.fields (List.toArray [(.builtin "object.__init_subclass__"),(.ref 160)])),#[]⟩
noncomputable def Sk:OO:=fun P=>⟨(.type "dict"),none,(.dict (List.toArray [kE P "__module__" 374 (.str "stillheap.errors" 194),kE P "__qualname__" 376 (.str "RoundOn" 375),kE P "__firstlineno__" 378 (.int 36 377),kE P "called" 385 (.ref 176),kE P "__static_attributes__" 386 (.ref 177)]) 5),#[]⟩
noncomputable def Sl:OO:=fun _=>⟨.none,none,(.fields (List.toArray [(.int 38 0),(.int 4 0),(.ref 175)])),#[]⟩
noncomputable def Sn:OO:=fun _=>⟨(.type "code"),none,(.fields (List.toArray [(.str "RoundOn" 369),(.str "RoundOn" 370),(.str "/claim/cut.py" 371),(.int 36 0),(.int 0 0),(.int 0 0),(.int 0 0),(.int 0 0),(.ref 166),(.bool false),(.int 181 0),(.ref 167),.none,.none,.none,.none,(.int 372 0),(.int 36 0),(.str "/claim/cut.py" 373)])),#[]⟩
noncomputable def So:OO:=fun _=>⟨(.type "frame"),none,.plain,(List.toArray [(.some (.ref 168)),(.some (.ref 3)),(.some (.ref 165)),none,(.some (.str "stillheap.errors" 194)),none,(.some (.ref 0))])⟩
def QT:OO:=fun _=>oT [(.str "self" 382)]
def Sq:OO:=fun _=>oG "called" "RoundOn.called" (inClass (top 9) 0)
def QU:OO:=fun _=>oC "called" 379 "RoundOn.called" 38 1 0 0 3 170 181 171 172 173 174 383 384
noncomputable def QV:OO:=fun _=>oF "called" "RoundOn.called" (inClass (top 9) 0) (.str "stillheap.errors" 194) 175
noncomputable def QW:OO:=fun P=>⟨(.type "dict"),none,(.dict (List.toArray [kE P "__module__" 374 (.str "stillheap.errors" 194),kE P "__firstlineno__" 378 (.int 36 377),kE P "called" 385 (.ref 176),kE P "__static_attributes__" 386 (.ref 177),kE P "__doc__" 387 .none]) 2),#[]⟩
noncomputable def QX:OO:=fun _=>⟨(.type "type"),none,(.cls ⟨"RoundOn",[(.ref 45)],[(.ref 179),(.ref 45),(.type "ValueError"),(.type "Exception"),(.type "BaseException"),(.type "object")],178, "RoundOn",true,[],[],false,none,false⟩),(List.toArray [(.some (.ref 163)),none,(.some (.str "RoundOn" 367)),(.some (.str "RoundOn" 375)),(.some (.builtin "ValueError.__new__")),(.some (.bool true))])⟩
noncomputable def Sr:OO:=fun _=>⟨(.type "super"),none,(.fields (List.toArray [(.ref 179),(.ref 179),(.ref 179)])),#[]⟩
noncomputable def Ss:OO:=fun _=>⟨(.type "builtin_function_or_method"),none,(.fields (List.toArray [(.builtin "object.__init_subclass__"),(.ref 179)])),#[]⟩
noncomputable def adY:OO:=fun P=>⟨(.type "dict"),none,(.dict (List.toArray [kE P "__name__" 165 (.str "stillheap.weaknames" 715),kE P "__doc__" 166 .none,kE P "__package__" 167 .none,kE P "__loader__" 168 (.builtin "__main__.__loader__#opaque"),kE P "__spec__" 169 .none,kE P "__annotations__" 170 (.ref 6),kE P "__builtins__" 171 (.ref 4),kE P "__file__" 173 (.str "/claim/cut.py" 172),kE P "__cached__" 174 .none,kE P "_wall" 193 (.ref 21),kE P "HeapError" 228 (.ref 45),kE P "BadHand" 251 (.ref 65),kE P "BadName" 274 (.ref 84),kE P "BadField" 297 (.ref 103),kE P "BadCount" 320 (.ref 122),kE P "NoRoom" 343 (.ref 141),kE P "TooManyWords" 366 (.ref 160),kE P "RoundOn" 389 (.ref 179),kE P "NoRound" 412 (.ref 198),kE P "BadView" 435 (.ref 217),kE P "HANDS" 439 (.int 8 438),kE P "WEAK_NAMES" 441 (.int 8 440),kE P "MOST_FIELDS" 443 (.int 6 442),kE P "LEAST_ROOM" 445 (.int 7 444),kE P "MOST_YOUNG" 447 (.int 64 446),kE P "MOST_LIMIT" 449 (.int 400 448),kE P "number_value" 456 (.ref 226),kE P "thing_value" 463 (.ref 233),kE P "kind_of" 470 (.ref 240),kE P "words_of" 477 (.ref 247),kE P "look_at_number" 484 (.ref 254),kE P "look_at_hand" 491 (.ref 261),kE P "look_at_name" 498 (.ref 268),kE P "look_at_field" 506 (.ref 275),kE P "look_at_limits" 514 (.ref 282),kE P "Hands" 620 (.ref 362),kE P "MOST_BEARERS" 624 (.int 12 623),kE P "WordTable" 700 (.ref 425),kE P "last_steps" 714 (.ref 436)]) 39),#[]⟩
noncomputable def adZ:OO:=fun _=>⟨.none,none,(.fields (List.toArray [(.int 1 0),(.int 0 0),(.ref 20),(.int 5 0),(.int 0 0),(.ref 27),(.int 12 0),(.int 0 0),(.ref 54),(.int 16 0),(.int 0 0),(.ref 73),(.int 20 0),(.int 0 0),(.ref 92),(.int 24 0),(.int 0 0),(.ref 111),(.int 28 0),(.int 0 0),(.ref 130),(.int 32 0),(.int 0 0),(.ref 149),(.int 36 0),(.int 0 0),(.ref 168),(.int 40 0),(.int 0 0),(.ref 187),(.int 44 0),(.int 0 0),(.ref 206),(.int 55 0),(.int 0 0),(.ref 225),(.int 58 0),(.int 0 0),(.ref 232),(.int 62 0),(.int 0 0),(.ref 239),(.int 64 0),(.int 0 0),(.ref 246),(.int 68 0),(.int 0 0),(.ref 253),(.int 71 0),(.int 0 0),(.ref 260),(.int 74 0),(.int 0 0),(.ref 267),(.int 77 0),(.int 0 0),(.ref 274),(.int 80 0),(.int 0 0),(.ref 281),(.int 86 0),(.int 0 0),(.ref 288),(.int 128 0),(.int 0 0),(.ref 372),(.int 156 0),(.int 0 0),(.ref 435)])),#[]⟩
noncomputable def Su:OO:=fun _=>⟨(.type "type"),none,(.cls ⟨"HeapError",[(.type "ValueError")],[(.ref 45),(.type "ValueError"),(.type "Exception"),(.type "BaseException"),(.type "object")],44, "HeapError",true,[],[(.ref 65),(.ref 84),(.ref 103),(.ref 122),(.ref 141),(.ref 160),(.ref 179),(.ref 198),(.ref 217)],false,none,false⟩),(List.toArray [(.some (.ref 22)),none,(.some (.str "HeapError" 196)),(.some (.str "HeapError" 204)),(.some (.builtin "ValueError.__new__")),(.some (.bool true))])⟩
noncomputable def Vq:OO:=fun P=>⟨(.type "dict"),none,(.dict (List.toArray [kE P "__module__" 397 (.str "stillheap.errors" 194),kE P "__qualname__" 399 (.str "NoRound" 398),kE P "__firstlineno__" 401 (.int 40 400),kE P "called" 408 (.ref 195),kE P "__static_attributes__" 409 (.ref 196)]) 5),#[]⟩
noncomputable def Vr:OO:=fun _=>⟨.none,none,(.fields (List.toArray [(.int 42 0),(.int 4 0),(.ref 194)])),#[]⟩
noncomputable def Vs:OO:=fun _=>⟨(.type "code"),none,(.fields (List.toArray [(.str "NoRound" 392),(.str "NoRound" 393),(.str "/claim/cut.py" 394),(.int 40 0),(.int 0 0),(.int 0 0),(.int 0 0),(.int 0 0),(.ref 185),(.bool false),(.int 181 0),(.ref 186),.none,.none,.none,.none,(.int 395 0),(.int 40 0),(.str "/claim/cut.py" 396)])),#[]⟩
noncomputable def Vt:OO:=fun _=>⟨(.type "frame"),none,.plain,(List.toArray [(.some (.ref 187)),(.some (.ref 3)),(.some (.ref 184)),none,(.some (.str "stillheap.errors" 194)),none,(.some (.ref 0))])⟩
def Sv:OO:=fun _=>oT [(.str "self" 405)]
def Vu:OO:=fun _=>oG "called" "NoRound.called" (inClass (top 10) 0)
def Sw:OO:=fun _=>oC "called" 402 "NoRound.called" 42 1 0 0 3 189 181 190 191 192 193 406 407
noncomputable def Sx:OO:=fun _=>oF "called" "NoRound.called" (inClass (top 10) 0) (.str "stillheap.errors" 194) 194
noncomputable def Sy:OO:=fun P=>⟨(.type "dict"),none,(.dict (List.toArray [kE P "__module__" 397 (.str "stillheap.errors" 194),kE P "__firstlineno__" 401 (.int 40 400),kE P "called" 408 (.ref 195),kE P "__static_attributes__" 409 (.ref 196),kE P "__doc__" 410 .none]) 2),#[]⟩
noncomputable def Sz:OO:=fun _=>⟨(.type "type"),none,(.cls ⟨"NoRound",[(.ref 45)],[(.ref 198),(.ref 45),(.type "ValueError"),(.type "Exception"),(.type "BaseException"),(.type "object")],197, "NoRound",true,[],[],false,none,false⟩),(List.toArray [(.some (.ref 182)),none,(.some (.str "NoRound" 390)),(.some (.str "NoRound" 398)),(.some (.builtin "ValueError.__new__")),(.some (.bool true))])⟩
noncomputable def Vv:OO:=fun _=>⟨(.type "super"),none,(.fields (List.toArray [(.ref 198),(.ref 198),(.ref 198)])),#[]⟩
noncomputable def Vw:OO:=fun _=>⟨(.type "builtin_function_or_method"),none,(.fields (List.toArray [(.builtin "object.__init_subclass__"),(.ref 198)])),#[]⟩
noncomputable def Vx:OO:=fun P=>⟨(.type "dict"),none,(.dict (List.toArray [kE P "__module__" 420 (.str "stillheap.errors" 194),kE P "__qualname__" 422 (.str "BadView" 421),kE P "__firstlineno__" 424 (.int 44 423),kE P "called" 431 (.ref 214),kE P "__static_attributes__" 432 (.ref 215)]) 5),#[]⟩
noncomputable def Vy:OO:=fun _=>⟨.none,none,(.fields (List.toArray [(.int 46 0),(.int 4 0),(.ref 213)])),#[]⟩
noncomputable def Vz:OO:=fun _=>⟨(.type "code"),none,(.fields (List.toArray [(.str "BadView" 415),(.str "BadView" 416),(.str "/claim/cut.py" 417),(.int 44 0),(.int 0 0),(.int 0 0),(.int 0 0),(.int 0 0),(.ref 204),(.bool false),(.int 181 0),(.ref 205),.none,.none,.none,.none,(.int 418 0),(.int 44 0),(.str "/claim/cut.py" 419)])),#[]⟩
noncomputable def VA:OO:=fun _=>⟨(.type "frame"),none,.plain,(List.toArray [(.some (.ref 206)),(.some (.ref 3)),(.some (.ref 203)),none,(.some (.str "stillheap.errors" 194)),none,(.some (.ref 0))])⟩
def SA:OO:=fun _=>oT [(.str "self" 428)]
def VB:OO:=fun _=>oG "called" "BadView.called" (inClass (top 11) 0)
def SD:OO:=fun _=>oC "called" 425 "BadView.called" 46 1 0 0 3 208 181 209 210 211 212 429 430
noncomputable def SE:OO:=fun _=>oF "called" "BadView.called" (inClass (top 11) 0) (.str "stillheap.errors" 194) 213
noncomputable def SF:OO:=fun P=>⟨(.type "dict"),none,(.dict (List.toArray [kE P "__module__" 420 (.str "stillheap.errors" 194),kE P "__firstlineno__" 424 (.int 44 423),kE P "called" 431 (.ref 214),kE P "__static_attributes__" 432 (.ref 215),kE P "__doc__" 433 .none]) 2),#[]⟩
noncomputable def SG:OO:=fun _=>⟨(.type "type"),none,(.cls ⟨"BadView",[(.ref 45)],[(.ref 217),(.ref 45),(.type "ValueError"),(.type "Exception"),(.type "BaseException"),(.type "object")],216, "BadView",true,[],[],false,none,false⟩),(List.toArray [(.some (.ref 201)),none,(.some (.str "BadView" 413)),(.some (.str "BadView" 421)),(.some (.builtin "ValueError.__new__")),(.some (.bool true))])⟩
noncomputable def VC:OO:=fun _=>⟨(.type "super"),none,(.fields (List.toArray [(.ref 217),(.ref 217),(.ref 217)])),#[]⟩
noncomputable def VD:OO:=fun _=>⟨(.type "builtin_function_or_method"),none,(.fields (List.toArray [(.builtin "object.__init_subclass__"),(.ref 217)])),#[]⟩
def SH:OO:=fun _=>oT [(.str "x" 453)]
def VE:OO:=fun _=>oG "number_value" "number_value" (top 19)
noncomputable def SI:OO:=fun _=>oC "number_value" 450 "number_value" 55 1 0 0 3 220 181 221 222 223 224 454 455
def SJ:OO:=fun _=>oF "number_value" "number_value" (top 19) (.str "stillheap.values" 436) 225
def SK:OO:=fun _=>oT [(.str "t" 460)]
def VF:OO:=fun _=>oG "thing_value" "thing_value" (top 20)
noncomputable def SM:OO:=fun _=>oC "thing_value" 457 "thing_value" 58 1 0 0 3 227 181 228 229 230 231 461 462
def SN:OO:=fun _=>oF "thing_value" "thing_value" (top 20) (.str "stillheap.values" 436) 232
def SO:OO:=fun _=>oT [(.str "value" 467)]
def VG:OO:=fun _=>oG "kind_of" "kind_of" (top 21)
def SQ:OO:=fun _=>oC "kind_of" 464 "kind_of" 62 1 0 0 3 234 181 235 236 237 238 468 469
def SR:OO:=fun _=>oF "kind_of" "kind_of" (top 21) (.str "stillheap.values" 436) 239
def SS:OO:=fun _=>oT [(.str "fields" 474)]
def VH:OO:=fun _=>oG "words_of" "words_of" (top 22)
def SU:OO:=fun _=>oC "words_of" 471 "words_of" 64 1 0 0 3 241 181 242 243 244 245 475 476
def SV:OO:=fun _=>oF "words_of" "words_of" (top 22) (.str "stillheap.values" 436) 246
def SW:OO:=fun _=>oT [(.str "x" 481)]
def VI:OO:=fun _=>oG "look_at_number" "look_at_number" (top 23)
noncomputable def SX:OO:=fun _=>oC "look_at_number" 478 "look_at_number" 68 1 0 0 3 248 181 249 250 251 252 482 483
noncomputable def SY:OO:=fun _=>oF "look_at_number" "look_at_number" (top 23) (.str "stillheap.values" 436) 253
def S5:OO:=fun _=>oT [(.str "h" 488)]
def VJ:OO:=fun _=>oG "look_at_hand" "look_at_hand" (top 24)
noncomputable def S6:OO:=fun _=>oC "look_at_hand" 485 "look_at_hand" 71 1 0 0 3 255 181 256 257 258 259 489 490
def S7:OO:=fun _=>oF "look_at_hand" "look_at_hand" (top 24) (.str "stillheap.values" 436) 260
def S8:OO:=fun _=>oT [(.str "w" 495)]
def VL:OO:=fun _=>oG "look_at_name" "look_at_name" (top 25)
noncomputable def S9:OO:=fun _=>oC "look_at_name" 492 "look_at_name" 74 1 0 0 3 262 181 263 264 265 266 496 497
def Ta:OO:=fun _=>oF "look_at_name" "look_at_name" (top 25) (.str "stillheap.values" 436) 267
def Tb:OO:=fun _=>oT [(.str "k" 502),(.str "fields" 503)]
def VM:OO:=fun _=>oG "look_at_field" "look_at_field" (top 26)
noncomputable def Tc:OO:=fun _=>oC "look_at_field" 499 "look_at_field" 77 2 0 0 3 269 181 270 271 272 273 504 505
noncomputable def Td:OO:=fun _=>oF "look_at_field" "look_at_field" (top 26) (.str "stillheap.values" 436) 274
def Tf:OO:=fun _=>oT [(.str "young" 510),(.str "limit" 511)]
def VN:OO:=fun _=>oG "look_at_limits" "look_at_limits" (top 27)
noncomputable def Tg:OO:=fun _=>oC "look_at_limits" 507 "look_at_limits" 80 2 0 0 3 276 181 277 278 279 280 512 513
noncomputable def Th:OO:=fun _=>oF "look_at_limits" "look_at_limits" (top 27) (.str "stillheap.values" 436) 281
noncomputable def VO:OO:=fun P=>⟨(.type "dict"),none,(.dict (List.toArray [kE P "__module__" 524 (.str "stillheap.hands" 515),kE P "__qualname__" 526 (.str "Hands" 525),kE P "__firstlineno__" 528 (.int 86 527),kE P "__init__" 535 (.ref 296),kE P "word_in" 543 (.ref 303),kE P "all_words" 550 (.ref 310),kE P "put" 559 (.ref 317),kE P "copy" 568 (.ref 324),kE P "number" 577 (.ref 331),kE P "kind" 586 (.ref 338),kE P "value" 594 (.ref 345),kE P "same" 603 (.ref 352),kE P "thing_due" 611 (.ref 359),kE P "__static_attributes__" 613 (.ref 360)]) 14),#[]⟩
noncomputable def VP:OO:=fun _=>⟨.none,none,(.fields (List.toArray [(.int 88 0),(.int 4 0),(.ref 295),(.int 91 0),(.int 4 0),(.ref 302),(.int 95 0),(.int 4 0),(.ref 309),(.int 98 0),(.int 4 0),(.ref 316),(.int 102 0),(.int 4 0),(.ref 323),(.int 106 0),(.int 4 0),(.ref 330),(.int 110 0),(.int 4 0),(.ref 337),(.int 114 0),(.int 4 0),(.ref 344),(.int 119 0),(.int 4 0),(.ref 351),(.int 122 0),(.int 4 0),(.ref 358)])),#[]⟩
noncomputable def VQ:OO:=fun _=>⟨(.type "code"),none,(.fields (List.toArray [(.str "Hands" 519),(.str "Hands" 520),(.str "/claim/cut.py" 521),(.int 86 0),(.int 0 0),(.int 0 0),(.int 0 0),(.int 0 0),(.ref 286),(.bool false),(.int 181 0),(.ref 287),.none,.none,.none,.none,(.int 522 0),(.int 86 0),(.str "/claim/cut.py" 523)])),#[]⟩
noncomputable def VR:OO:=fun _=>⟨(.type "frame"),none,.plain,(List.toArray [(.some (.ref 288)),(.some (.ref 3)),(.some (.ref 285)),none,(.some (.str "stillheap.hands" 515)),none,(.some (.ref 0))])⟩
def Ti:OO:=fun _=>oT [(.str "self" 532)]
def VS:OO:=fun _=>oG "__init__" "Hands.__init__" (inClass (top 29) 0)
noncomputable def Tj:OO:=fun _=>oC "__init__" 529 "Hands.__init__" 88 1 0 0 3 290 181 291 292 293 294 533 534
noncomputable def Tn:OO:=fun _=>oF "__init__" "Hands.__init__" (inClass (top 29) 0) (.str "stillheap.hands" 515) 295
def To:OO:=fun _=>oT [(.str "self" 539),(.str "h" 540)]
def VT:OO:=fun _=>oG "word_in" "Hands.word_in" (inClass (top 29) 1)
def Tp:OO:=fun _=>oC "word_in" 536 "Hands.word_in" 91 2 0 0 3 297 181 298 299 300 301 541 542
noncomputable def Tq:OO:=fun _=>oF "word_in" "Hands.word_in" (inClass (top 29) 1) (.str "stillheap.hands" 515) 302
def Tr:OO:=fun _=>oT [(.str "self" 547)]
def VU:OO:=fun _=>oG "all_words" "Hands.all_words" (inClass (top 29) 2)
noncomputable def Ts:OO:=fun _=>oC "all_words" 544 "Hands.all_words" 95 1 0 0 3 304 181 305 306 307 308 548 549
noncomputable def Tt:OO:=fun _=>oF "all_words" "Hands.all_words" (inClass (top 29) 2) (.str "stillheap.hands" 515) 309
def Tu:OO:=fun _=>oT [(.str "self" 554),(.str "h" 555),(.str "word" 556)]
def VV:OO:=fun _=>oG "put" "Hands.put" (inClass (top 29) 3)
def Tv:OO:=fun _=>oC "put" 551 "Hands.put" 98 3 0 0 3 311 181 312 313 314 315 557 558
def Tw:OO:=fun _=>oF "put" "Hands.put" (inClass (top 29) 3) (.str "stillheap.hands" 515) 316
def Tx:OO:=fun _=>oT [(.str "self" 563),(.str "h" 564),(.str "g" 565)]
def VW:OO:=fun _=>oG "copy" "Hands.copy" (inClass (top 29) 4)
def Tz:OO:=fun _=>oC "copy" 560 "Hands.copy" 102 3 0 0 3 318 181 319 320 321 322 566 567
noncomputable def TB:OO:=fun _=>oF "copy" "Hands.copy" (inClass (top 29) 4) (.str "stillheap.hands" 515) 323
def TC:OO:=fun _=>oT [(.str "self" 572),(.str "h" 573),(.str "x" 574)]
def VX:OO:=fun _=>oG "number" "Hands.number" (inClass (top 29) 5)
def TH:OO:=fun _=>oC "number" 569 "Hands.number" 106 3 0 0 3 325 181 326 327 328 329 575 576
noncomputable def TJ:OO:=fun _=>oF "number" "Hands.number" (inClass (top 29) 5) (.str "stillheap.hands" 515) 330
def TK:OO:=fun _=>oT [(.str "self" 581),(.str "h" 582),(.str "kind" 583)]
def VY:OO:=fun _=>oG "kind" "Hands.kind" (inClass (top 29) 6)
def TL:OO:=fun _=>oC "kind" 578 "Hands.kind" 110 2 0 0 3 332 181 333 334 335 336 584 585
noncomputable def TM:OO:=fun _=>oF "kind" "Hands.kind" (inClass (top 29) 6) (.str "stillheap.hands" 515) 337
def TN:OO:=fun _=>oT [(.str "self" 590),(.str "h" 591)]
def VZ:OO:=fun _=>oG "value" "Hands.value" (inClass (top 29) 7)
def TQ:OO:=fun _=>oC "value" 587 "Hands.value" 114 2 0 0 3 339 181 340 341 342 343 592 593
noncomputable def TR:OO:=fun _=>oF "value" "Hands.value" (inClass (top 29) 7) (.str "stillheap.hands" 515) 344
def TU:OO:=fun _=>oT [(.str "self" 598),(.str "h" 599),(.str "g" 600)]
def V0:OO:=fun _=>oG "same" "Hands.same" (inClass (top 29) 8)
def TV:OO:=fun _=>oC "same" 595 "Hands.same" 119 3 0 0 3 346 181 347 348 349 350 601 602
noncomputable def TX:OO:=fun _=>oF "same" "Hands.same" (inClass (top 29) 8) (.str "stillheap.hands" 515) 351
def TY:OO:=fun _=>oT [(.str "self" 607),(.str "h" 608)]
def V1:OO:=fun _=>oG "thing_due" "Hands.thing_due" (inClass (top 29) 9)
noncomputable def TZ:OO:=fun _=>oC "thing_due" 604 "Hands.thing_due" 122 2 0 0 3 353 181 354 355 356 357 609 610
noncomputable def T1:OO:=fun _=>oF "thing_due" "Hands.thing_due" (inClass (top 29) 9) (.str "stillheap.hands" 515) 358
def T3:OO:=fun _=>oT [(.str "words_held" 612)]
noncomputable def T4:OO:=fun P=>⟨(.type "dict"),none,(.dict (List.toArray [kE P "__module__" 524 (.str "stillheap.hands" 515),kE P "__firstlineno__" 528 (.int 86 527),kE P "__init__" 535 (.ref 296),kE P "word_in" 543 (.ref 303),kE P "all_words" 550 (.ref 310),kE P "put" 559 (.ref 317),kE P "copy" 568 (.ref 324),kE P "number" 577 (.ref 331),kE P "kind" 586 (.ref 338),kE P "value" 594 (.ref 345),kE P "same" 603 (.ref 352),kE P "thing_due" 611 (.ref 359),kE P "__static_attributes__" 613 (.ref 360),kE P "__dict__" 615 (.ref 363),kE P "__weakref__" 617 (.ref 364),kE P "__doc__" 618 .none]) 4),#[]⟩
noncomputable def T5:OO:=fun _=>⟨(.type "type"),none,(.cls ⟨"Hands",[(.type "object")],[(.ref 362),(.type "object")],361, "Hands",true,[],[],false,none,false⟩),(List.toArray [none,none,(.some (.str "Hands" 517)),(.some (.str "Hands" 525)),(.some (.builtin "object.__new__")),(.some (.bool true))])⟩
noncomputable def T6:OO:=fun _=>⟨(.type "getset_descriptor"),none,(.fields (List.toArray [(.str "__dict__" 614),(.ref 362),(.builtin "function.__dict__"),(.builtin "function.__dict__#set")])),#[]⟩
noncomputable def T7:OO:=fun _=>⟨(.type "getset_descriptor"),none,(.fields (List.toArray [(.str "__weakref__" 616),(.ref 362),(.builtin "ExceptionGroup.__weakref__"),.none])),#[]⟩
noncomputable def V2:OO:=fun _=>⟨(.type "super"),none,(.fields (List.toArray [(.ref 362),(.ref 362),(.ref 362)])),#[]⟩
noncomputable def V3:OO:=fun _=>⟨(.type "builtin_function_or_method"),none,(.fields (List.toArray [(.builtin "object.__init_subclass__"),(.ref 362)])),#[]⟩
noncomputable def V4:OO:=fun P=>⟨(.type "dict"),none,(.dict (List.toArray [kE P "__module__" 632 (.str "stillheap.lastwords" 621),kE P "__qualname__" 634 (.str "WordTable" 633),kE P "__firstlineno__" 636 (.int 128 635),kE P "__init__" 643 (.ref 380),kE P "bear" 652 (.ref 387),kE P "word_of" 660 (.ref 394),kE P "bearers" 667 (.ref 401),kE P "settle" 676 (.ref 408),kE P "take" 683 (.ref 415),kE P "said" 690 (.ref 422),kE P "__static_attributes__" 693 (.ref 423)]) 11),#[]⟩
noncomputable def V5:OO:=fun _=>⟨.none,none,(.fields (List.toArray [(.int 130 0),(.int 4 0),(.ref 379),(.int 134 0),(.int 4 0),(.ref 386),(.int 139 0),(.int 4 0),(.ref 393),(.int 142 0),(.int 4 0),(.ref 400),(.int 145 0),(.int 4 0),(.ref 407),(.int 150 0),(.int 4 0),(.ref 414),(.int 153 0),(.int 4 0),(.ref 421)])),#[]⟩
noncomputable def V6:OO:=fun _=>⟨(.type "code"),none,(.fields (List.toArray [(.str "WordTable" 627),(.str "WordTable" 628),(.str "/claim/cut.py" 629),(.int 128 0),(.int 0 0),(.int 0 0),(.int 0 0),(.int 0 0),(.ref 370),(.bool false),(.int 181 0),(.ref 371),.none,.none,.none,.none,(.int 630 0),(.int 128 0),(.str "/claim/cut.py" 631)])),#[]⟩
noncomputable def V7:OO:=fun _=>⟨(.type "frame"),none,.plain,(List.toArray [(.some (.ref 372)),(.some (.ref 3)),(.some (.ref 369)),none,(.some (.str "stillheap.lastwords" 621)),none,(.some (.ref 0))])⟩
def T8:OO:=fun _=>oT [(.str "self" 640)]
def V8:OO:=fun _=>oG "__init__" "WordTable.__init__" (inClass (top 32) 0)
noncomputable def T9:OO:=fun _=>oC "__init__" 637 "WordTable.__init__" 130 1 0 0 3 374 181 375 376 377 378 641 642
noncomputable def Ua:OO:=fun _=>oF "__init__" "WordTable.__init__" (inClass (top 32) 0) (.str "stillheap.lastwords" 621) 379
def Ub:OO:=fun _=>oT [(.str "self" 647),(.str "t" 648),(.str "x" 649)]
def V9:OO:=fun _=>oG "bear" "WordTable.bear" (inClass (top 32) 1)
def Uc:OO:=fun _=>oC "bear" 644 "WordTable.bear" 134 3 0 0 3 381 181 382 383 384 385 650 651
noncomputable def Ud:OO:=fun _=>oF "bear" "WordTable.bear" (inClass (top 32) 1) (.str "stillheap.lastwords" 621) 386
def Ue:OO:=fun _=>oT [(.str "self" 656),(.str "t" 657)]
def Wa:OO:=fun _=>oG "word_of" "WordTable.word_of" (inClass (top 32) 2)
noncomputable def Ug:OO:=fun _=>oC "word_of" 653 "WordTable.word_of" 139 2 0 0 3 388 181 389 390 391 392 658 659
noncomputable def Uh:OO:=fun _=>oF "word_of" "WordTable.word_of" (inClass (top 32) 2) (.str "stillheap.lastwords" 621) 393
def Ui:OO:=fun _=>oT [(.str "self" 664)]
def Wb:OO:=fun _=>oG "bearers" "WordTable.bearers" (inClass (top 32) 3)
noncomputable def Uj:OO:=fun _=>oC "bearers" 661 "WordTable.bearers" 142 1 0 0 3 395 181 396 397 398 399 665 666
noncomputable def Uk:OO:=fun _=>oF "bearers" "WordTable.bearers" (inClass (top 32) 3) (.str "stillheap.lastwords" 621) 400
def Ul:OO:=fun _=>oT [(.str "self" 671),(.str "things" 672),(.str "t" 673)]
def Wc:OO:=fun _=>oG "settle" "WordTable.settle" (inClass (top 32) 4)
noncomputable def Um:OO:=fun _=>oC "settle" 668 "WordTable.settle" 145 2 0 0 3 402 181 403 404 405 406 674 675
noncomputable def Uo:OO:=fun _=>oF "settle" "WordTable.settle" (inClass (top 32) 4) (.str "stillheap.lastwords" 621) 407
def Up:OO:=fun _=>oT [(.str "self" 680)]
def We:OO:=fun _=>oG "take" "WordTable.take" (inClass (top 32) 5)
def Uq:OO:=fun _=>oC "take" 677 "WordTable.take" 150 1 0 0 3 409 181 410 411 412 413 681 682
noncomputable def Ur:OO:=fun _=>oF "take" "WordTable.take" (inClass (top 32) 5) (.str "stillheap.lastwords" 621) 414
def Us:OO:=fun _=>oT [(.str "self" 687)]
def Wf:OO:=fun _=>oG "said" "WordTable.said" (inClass (top 32) 6)
def Ut:OO:=fun _=>oC "said" 684 "WordTable.said" 153 1 0 0 3 416 181 417 418 419 420 688 689
noncomputable def Uu:OO:=fun _=>oF "said" "WordTable.said" (inClass (top 32) 6) (.str "stillheap.lastwords" 621) 421
def Uv:OO:=fun _=>oT [(.str "words_borne" 691),(.str "words_said" 692)]
noncomputable def Uw:OO:=fun P=>⟨(.type "dict"),none,(.dict (List.toArray [kE P "__module__" 632 (.str "stillheap.lastwords" 621),kE P "__firstlineno__" 636 (.int 128 635),kE P "__init__" 643 (.ref 380),kE P "bear" 652 (.ref 387),kE P "word_of" 660 (.ref 394),kE P "bearers" 667 (.ref 401),kE P "settle" 676 (.ref 408),kE P "take" 683 (.ref 415),kE P "said" 690 (.ref 422),kE P "__static_attributes__" 693 (.ref 423),kE P "__dict__" 695 (.ref 426),kE P "__weakref__" 697 (.ref 427),kE P "__doc__" 698 .none]) 4),#[]⟩
noncomputable def Ux:OO:=fun _=>⟨(.type "type"),none,(.cls ⟨"WordTable",[(.type "object")],[(.ref 425),(.type "object")],424, "WordTable",true,[],[],false,none,false⟩),(List.toArray [none,none,(.some (.str "WordTable" 625)),(.some (.str "WordTable" 633)),(.some (.builtin "object.__new__")),(.some (.bool true))])⟩
noncomputable def Uy:OO:=fun _=>⟨(.type "getset_descriptor"),none,(.fields (List.toArray [(.str "__dict__" 694),(.ref 425),(.builtin "function.__dict__"),(.builtin "function.__dict__#set")])),#[]⟩
noncomputable def Uz:OO:=fun _=>⟨(.type "getset_descriptor"),none,(.fields (List.toArray [(.str "__weakref__" 696),(.ref 425),(.builtin "ExceptionGroup.__weakref__"),.none])),#[]⟩
noncomputable def Wg:OO:=fun _=>⟨(.type "super"),none,(.fields (List.toArray [(.ref 425),(.ref 425),(.ref 425)])),#[]⟩
noncomputable def Wh:OO:=fun _=>⟨(.type "builtin_function_or_method"),none,(.fields (List.toArray [(.builtin "object.__init_subclass__"),(.ref 425)])),#[]⟩
noncomputable def UA:OO:=fun _=>oT [(.str "view" 706),(.str "steps" 707),(.str "place" 708),(.str "thing" 709),(.str "met" 710),(.str "done" 711)]
def Wi:OO:=fun _=>oG "last_steps" "last_steps" (top 34)
noncomputable def UB:OO:=fun _=>oC "last_steps" 703 "last_steps" 156 1 0 0 3 430 181 431 432 433 434 712 713
def UC:OO:=fun _=>oF "last_steps" "last_steps" (top 34) (.str "stillheap.reach" 701) 435
noncomputable def ad0:OO:=fun P=>⟨(.type "dict"),none,(.dict (List.toArray [kE P "__name__" 165 (.str "stillheap.ideal" 960),kE P "__doc__" 166 .none,kE P "__package__" 167 .none,kE P "__loader__" 168 (.builtin "__main__.__loader__#opaque"),kE P "__spec__" 169 .none,kE P "__annotations__" 170 (.ref 6),kE P "__builtins__" 171 (.ref 4),kE P "__file__" 173 (.str "/claim/cut.py" 172),kE P "__cached__" 174 .none,kE P "_wall" 193 (.ref 21),kE P "HeapError" 228 (.ref 45),kE P "BadHand" 251 (.ref 65),kE P "BadName" 274 (.ref 84),kE P "BadField" 297 (.ref 103),kE P "BadCount" 320 (.ref 122),kE P "NoRoom" 343 (.ref 141),kE P "TooManyWords" 366 (.ref 160),kE P "RoundOn" 389 (.ref 179),kE P "NoRound" 412 (.ref 198),kE P "BadView" 435 (.ref 217),kE P "HANDS" 439 (.int 8 438),kE P "WEAK_NAMES" 441 (.int 8 440),kE P "MOST_FIELDS" 443 (.int 6 442),kE P "LEAST_ROOM" 445 (.int 7 444),kE P "MOST_YOUNG" 447 (.int 64 446),kE P "MOST_LIMIT" 449 (.int 400 448),kE P "number_value" 456 (.ref 226),kE P "thing_value" 463 (.ref 233),kE P "kind_of" 470 (.ref 240),kE P "words_of" 477 (.ref 247),kE P "look_at_number" 484 (.ref 254),kE P "look_at_hand" 491 (.ref 261),kE P "look_at_name" 498 (.ref 268),kE P "look_at_field" 506 (.ref 275),kE P "look_at_limits" 514 (.ref 282),kE P "Hands" 620 (.ref 362),kE P "MOST_BEARERS" 624 (.int 12 623),kE P "WordTable" 700 (.ref 425),kE P "last_steps" 714 (.ref 436),kE P "NameTable" 774 (.ref 479),kE P "Heap" 951 (.ref 606),kE P "thing_among" 959 (.ref 617)]) 42),#[]⟩
noncomputable def ad1:OO:=fun _=>⟨.none,none,(.fields (List.toArray [(.int 1 0),(.int 0 0),(.ref 20),(.int 5 0),(.int 0 0),(.ref 27),(.int 12 0),(.int 0 0),(.ref 54),(.int 16 0),(.int 0 0),(.ref 73),(.int 20 0),(.int 0 0),(.ref 92),(.int 24 0),(.int 0 0),(.ref 111),(.int 28 0),(.int 0 0),(.ref 130),(.int 32 0),(.int 0 0),(.ref 149),(.int 36 0),(.int 0 0),(.ref 168),(.int 40 0),(.int 0 0),(.ref 187),(.int 44 0),(.int 0 0),(.ref 206),(.int 55 0),(.int 0 0),(.ref 225),(.int 58 0),(.int 0 0),(.ref 232),(.int 62 0),(.int 0 0),(.ref 239),(.int 64 0),(.int 0 0),(.ref 246),(.int 68 0),(.int 0 0),(.ref 253),(.int 71 0),(.int 0 0),(.ref 260),(.int 74 0),(.int 0 0),(.ref 267),(.int 77 0),(.int 0 0),(.ref 274),(.int 80 0),(.int 0 0),(.ref 281),(.int 86 0),(.int 0 0),(.ref 288),(.int 128 0),(.int 0 0),(.ref 372),(.int 156 0),(.int 0 0),(.ref 435),(.int 171 0),(.int 0 0),(.ref 442),(.int 190 0),(.int 0 0),(.ref 489),(.int 280 0),(.int 0 0),(.ref 616)])),#[]⟩
noncomputable def YL:OO:=fun P=>⟨(.type "dict"),none,(.dict (List.toArray [kE P "__module__" 724 (.str "stillheap.weaknames" 715),kE P "__qualname__" 726 (.str "NameTable" 725),kE P "__firstlineno__" 728 (.int 171 727),kE P "__init__" 735 (.ref 450),kE P "name" 744 (.ref 457),kE P "named" 752 (.ref 464),kE P "all_named" 759 (.ref 471),kE P "settle" 765 (.ref 476),kE P "__static_attributes__" 767 (.ref 477)]) 9),#[]⟩
noncomputable def YM:OO:=fun _=>⟨.none,none,(.fields (List.toArray [(.int 173 0),(.int 4 0),(.ref 449),(.int 176 0),(.int 4 0),(.ref 456),(.int 180 0),(.int 4 0),(.ref 463),(.int 184 0),(.int 4 0),(.ref 470),(.int 187 0),(.int 4 0),(.ref 475)])),#[]⟩
noncomputable def YN:OO:=fun _=>⟨(.type "code"),none,(.fields (List.toArray [(.str "NameTable" 719),(.str "NameTable" 720),(.str "/claim/cut.py" 721),(.int 171 0),(.int 0 0),(.int 0 0),(.int 0 0),(.int 0 0),(.ref 440),(.bool false),(.int 181 0),(.ref 441),.none,.none,.none,.none,(.int 722 0),(.int 171 0),(.str "/claim/cut.py" 723)])),#[]⟩
noncomputable def YO:OO:=fun _=>⟨(.type "frame"),none,.plain,(List.toArray [(.some (.ref 442)),(.some (.ref 3)),(.some (.ref 439)),none,(.some (.str "stillheap.weaknames" 715)),none,(.some (.ref 0))])⟩
def Wj:OO:=fun _=>oT [(.str "self" 732)]
def YQ:OO:=fun _=>oG "__init__" "NameTable.__init__" (inClass (top 36) 0)
noncomputable def Wl:OO:=fun _=>oC "__init__" 729 "NameTable.__init__" 173 1 0 0 3 444 181 445 446 447 448 733 734
noncomputable def Wm:OO:=fun _=>oF "__init__" "NameTable.__init__" (inClass (top 36) 0) (.str "stillheap.weaknames" 715) 449
def Wn:OO:=fun _=>oT [(.str "self" 739),(.str "w" 740),(.str "t" 741)]
def YR:OO:=fun _=>oG "name" "NameTable.name" (inClass (top 36) 1)
def Wo:OO:=fun _=>oC "name" 736 "NameTable.name" 176 3 0 0 3 451 181 452 453 454 455 742 743
noncomputable def Wq:OO:=fun _=>oF "name" "NameTable.name" (inClass (top 36) 1) (.str "stillheap.weaknames" 715) 456
def Wr:OO:=fun _=>oT [(.str "self" 748),(.str "w" 749)]
def YS:OO:=fun _=>oG "named" "NameTable.named" (inClass (top 36) 2)
noncomputable def Ws:OO:=fun _=>oC "named" 745 "NameTable.named" 180 2 0 0 3 458 181 459 460 461 462 750 751
noncomputable def Wu:OO:=fun _=>oF "named" "NameTable.named" (inClass (top 36) 2) (.str "stillheap.weaknames" 715) 463
def Wv:OO:=fun _=>oT [(.str "self" 756)]
def YT:OO:=fun _=>oG "all_named" "NameTable.all_named" (inClass (top 36) 3)
noncomputable def Ww:OO:=fun _=>oC "all_named" 753 "NameTable.all_named" 184 1 0 0 3 465 181 466 467 468 469 757 758
noncomputable def Wx:OO:=fun _=>oF "all_named" "NameTable.all_named" (inClass (top 36) 3) (.str "stillheap.weaknames" 715) 470
def YU:OO:=fun _=>oG "settle" "NameTable.settle" (inClass (top 36) 4)
noncomputable def Wy:OO:=fun _=>⟨(.type "code"),none,(.fields (List.toArray [(.str "settle" 760),(.str "NameTable.settle" 761),(.str "/claim/cut.py" 762),(.int 187 0),(.int 2 0),(.int 0 0),(.int 0 0),(.int 3 0),(.ref 472),(.bool true),(.int 181 0),(.ref 473),.none,.none,.none,(.ref 474),(.int 763 0),(.int 187 0),(.str "/claim/cut.py" 764)])),#[]⟩
noncomputable def Wz:OO:=fun _=>oF "settle" "NameTable.settle" (inClass (top 36) 4) (.str "stillheap.weaknames" 715) 475
def WA:OO:=fun _=>oT [(.str "things_named" 766)]
noncomputable def WB:OO:=fun P=>⟨(.type "dict"),none,(.dict (List.toArray [kE P "__module__" 724 (.str "stillheap.weaknames" 715),kE P "__firstlineno__" 728 (.int 171 727),kE P "__init__" 735 (.ref 450),kE P "name" 744 (.ref 457),kE P "named" 752 (.ref 464),kE P "all_named" 759 (.ref 471),kE P "settle" 765 (.ref 476),kE P "__static_attributes__" 767 (.ref 477),kE P "__dict__" 769 (.ref 480),kE P "__weakref__" 771 (.ref 481),kE P "__doc__" 772 .none]) 4),#[]⟩
noncomputable def WC:OO:=fun _=>⟨(.type "type"),none,(.cls ⟨"NameTable",[(.type "object")],[(.ref 479),(.type "object")],478, "NameTable",true,[],[],false,none,false⟩),(List.toArray [none,none,(.some (.str "NameTable" 717)),(.some (.str "NameTable" 725)),(.some (.builtin "object.__new__")),(.some (.bool true))])⟩
noncomputable def WD:OO:=fun _=>⟨(.type "getset_descriptor"),none,(.fields (List.toArray [(.str "__dict__" 768),(.ref 479),(.builtin "function.__dict__"),(.builtin "function.__dict__#set")])),#[]⟩
noncomputable def WE:OO:=fun _=>⟨(.type "getset_descriptor"),none,(.fields (List.toArray [(.str "__weakref__" 770),(.ref 479),(.builtin "ExceptionGroup.__weakref__"),.none])),#[]⟩
noncomputable def YV:OO:=fun _=>⟨(.type "super"),none,(.fields (List.toArray [(.ref 479),(.ref 479),(.ref 479)])),#[]⟩
noncomputable def YW:OO:=fun _=>⟨(.type "builtin_function_or_method"),none,(.fields (List.toArray [(.builtin "object.__init_subclass__"),(.ref 479)])),#[]⟩
noncomputable def YX:OO:=fun P=>⟨(.type "dict"),none,(.dict (List.toArray [kE P "__module__" 784 (.str "stillheap.heaps" 775),kE P "__qualname__" 786 (.str "Heap" 785),kE P "__firstlineno__" 788 (.int 190 787),kE P "__init__" 796 (.ref 497),kE P "add_thing" 806 (.ref 504),kE P "load" 817 (.ref 511),kE P "store" 829 (.ref 518),kE P "copy" 838 (.ref 525),kE P "drop" 846 (.ref 532),kE P "number" 855 (.ref 539),kE P "name" 865 (.ref 546),kE P "read_thing" 875 (.ref 553),kE P "word" 885 (.ref 560),kE P "small_round" 891 (.ref 565),kE P "let_go" 900 (.ref 572),kE P "look_at_held" 908 (.ref 579),kE P "field_value" 917 (.ref 586),kE P "counts_held" 924 (.ref 593),kE P "words_among" 930 (.ref 598),kE P "led_among" 936 (.ref 603),kE P "__static_attributes__" 944 (.ref 604)]) 21),#[]⟩
noncomputable def YY:OO:=fun _=>⟨.none,none,(.fields (List.toArray [(.int 192 0),(.int 4 0),(.ref 496),(.int 201 0),(.int 4 0),(.ref 503),(.int 209 0),(.int 4 0),(.ref 510),(.int 215 0),(.int 4 0),(.ref 517),(.int 221 0),(.int 4 0),(.ref 524),(.int 224 0),(.int 4 0),(.ref 531),(.int 227 0),(.int 4 0),(.ref 538),(.int 230 0),(.int 4 0),(.ref 545),(.int 234 0),(.int 4 0),(.ref 552),(.int 240 0),(.int 4 0),(.ref 559),(.int 245 0),(.int 4 0),(.ref 564),(.int 256 0),(.int 4 0),(.ref 571),(.int 262 0),(.int 4 0),(.ref 578),(.int 266 0),(.int 4 0),(.ref 585),(.int 269 0),(.int 4 0),(.ref 592),(.int 272 0),(.int 4 0),(.ref 597),(.int 275 0),(.int 4 0),(.ref 602)])),#[]⟩
noncomputable def YZ:OO:=fun _=>⟨(.type "code"),none,(.fields (List.toArray [(.str "Heap" 779),(.str "Heap" 780),(.str "/claim/cut.py" 781),(.int 190 0),(.int 0 0),(.int 0 0),(.int 0 0),(.int 0 0),(.ref 487),(.bool false),(.int 181 0),(.ref 488),.none,.none,.none,.none,(.int 782 0),(.int 190 0),(.str "/claim/cut.py" 783)])),#[]⟩
noncomputable def Y0:OO:=fun _=>⟨(.type "frame"),none,.plain,(List.toArray [(.some (.ref 489)),(.some (.ref 3)),(.some (.ref 486)),none,(.some (.str "stillheap.heaps" 775)),none,(.some (.ref 0))])⟩
def WG:OO:=fun _=>oT [(.str "self" 792),(.str "makes_young" 793)]
def Y1:OO:=fun _=>oG "__init__" "Heap.__init__" (inClass (top 38) 0)
noncomputable def WH:OO:=fun _=>oC "__init__" 789 "Heap.__init__" 192 2 0 0 3 491 181 492 493 494 495 794 795
noncomputable def WI:OO:=fun _=>oF "__init__" "Heap.__init__" (inClass (top 38) 0) (.str "stillheap.heaps" 775) 496
def WJ:OO:=fun _=>oT [(.str "self" 800),(.str "h" 801),(.str "n" 802),(.str "t" 803)]
def Y2:OO:=fun _=>oG "add_thing" "Heap.add_thing" (inClass (top 38) 1)
noncomputable def WK:OO:=fun _=>oC "add_thing" 797 "Heap.add_thing" 201 3 0 0 3 498 181 499 500 501 502 804 805
noncomputable def WL:OO:=fun _=>oF "add_thing" "Heap.add_thing" (inClass (top 38) 1) (.str "stillheap.heaps" 775) 503
noncomputable def WM:OO:=fun _=>oT [(.str "self" 810),(.str "h" 811),(.str "g" 812),(.str "k" 813),(.str "fields" 814)]
def Y3:OO:=fun _=>oG "load" "Heap.load" (inClass (top 38) 2)
def WN:OO:=fun _=>oC "load" 807 "Heap.load" 209 4 0 0 3 505 181 506 507 508 509 815 816
def WO:OO:=fun _=>oF "load" "Heap.load" (inClass (top 38) 2) (.str "stillheap.heaps" 775) 510
noncomputable def WQ:OO:=fun _=>oT [(.str "self" 821),(.str "g" 822),(.str "k" 823),(.str "h" 824),(.str "fields" 825),(.str "value" 826)]
def Y4:OO:=fun _=>oG "store" "Heap.store" (inClass (top 38) 3)
def WR:OO:=fun _=>oC "store" 818 "Heap.store" 215 4 0 0 3 512 181 513 514 515 516 827 828
noncomputable def WS:OO:=fun _=>oF "store" "Heap.store" (inClass (top 38) 3) (.str "stillheap.heaps" 775) 517
def WT:OO:=fun _=>oT [(.str "self" 833),(.str "h" 834),(.str "g" 835)]
def Y5:OO:=fun _=>oG "copy" "Heap.copy" (inClass (top 38) 4)
def WU:OO:=fun _=>oC "copy" 830 "Heap.copy" 221 3 0 0 3 519 181 520 521 522 523 836 837
def WW:OO:=fun _=>oF "copy" "Heap.copy" (inClass (top 38) 4) (.str "stillheap.heaps" 775) 524
def WX:OO:=fun _=>oT [(.str "self" 842),(.str "h" 843)]
def Y6:OO:=fun _=>oG "drop" "Heap.drop" (inClass (top 38) 5)
def WY:OO:=fun _=>oC "drop" 839 "Heap.drop" 224 2 0 0 3 526 181 527 528 529 530 844 845
def WZ:OO:=fun _=>oF "drop" "Heap.drop" (inClass (top 38) 5) (.str "stillheap.heaps" 775) 531
def W0:OO:=fun _=>oT [(.str "self" 850),(.str "h" 851),(.str "x" 852)]
def Y7:OO:=fun _=>oG "number" "Heap.number" (inClass (top 38) 6)
def W2:OO:=fun _=>oC "number" 847 "Heap.number" 227 3 0 0 3 533 181 534 535 536 537 853 854
noncomputable def W3:OO:=fun _=>oF "number" "Heap.number" (inClass (top 38) 6) (.str "stillheap.heaps" 775) 538
def W5:OO:=fun _=>oT [(.str "self" 859),(.str "w" 860),(.str "h" 861),(.str "t" 862)]
def Y8:OO:=fun _=>oG "name" "Heap.name" (inClass (top 38) 7)
def W6:OO:=fun _=>oC "name" 856 "Heap.name" 230 3 0 0 3 540 181 541 542 543 544 863 864
def Xa:OO:=fun _=>oF "name" "Heap.name" (inClass (top 38) 7) (.str "stillheap.heaps" 775) 545
def Xb:OO:=fun _=>oT [(.str "self" 869),(.str "h" 870),(.str "w" 871),(.str "t" 872)]
def Y9:OO:=fun _=>oG "read_thing" "Heap.read_thing" (inClass (top 38) 8)
noncomputable def Xc:OO:=fun _=>oC "read_thing" 866 "Heap.read_thing" 234 3 0 0 3 547 181 548 549 550 551 873 874
noncomputable def Xd:OO:=fun _=>oF "read_thing" "Heap.read_thing" (inClass (top 38) 8) (.str "stillheap.heaps" 775) 552
def Xe:OO:=fun _=>oT [(.str "self" 879),(.str "h" 880),(.str "x" 881),(.str "t" 882)]
def Za:OO:=fun _=>oG "word" "Heap.word" (inClass (top 38) 9)
def Xf:OO:=fun _=>oC "word" 876 "Heap.word" 240 3 0 0 3 554 181 555 556 557 558 883 884
def Xg:OO:=fun _=>oF "word" "Heap.word" (inClass (top 38) 9) (.str "stillheap.heaps" 775) 559
def Zb:OO:=fun _=>oG "small_round" "Heap.small_round" (inClass (top 38) 10)
noncomputable def Xh:OO:=fun _=>⟨(.type "code"),none,(.fields (List.toArray [(.str "small_round" 886),(.str "Heap.small_round" 887),(.str "/claim/cut.py" 888),(.int 245 0),(.int 1 0),(.int 0 0),(.int 0 0),(.int 3 0),(.ref 561),(.bool true),(.int 181 0),(.ref 562),.none,.none,.none,(.ref 563),(.int 889 0),(.int 245 0),(.str "/claim/cut.py" 890)])),#[]⟩
noncomputable def Xi:OO:=fun _=>oF "small_round" "Heap.small_round" (inClass (top 38) 10) (.str "stillheap.heaps" 775) 564
def Xj:OO:=fun _=>oT [(.str "self" 895),(.str "gone" 896),(.str "t" 897)]
def Zc:OO:=fun _=>oG "let_go" "Heap.let_go" (inClass (top 38) 11)
def Xk:OO:=fun _=>oC "let_go" 892 "Heap.let_go" 256 2 0 0 3 566 181 567 568 569 570 898 899
noncomputable def Xl:OO:=fun _=>oF "let_go" "Heap.let_go" (inClass (top 38) 11) (.str "stillheap.heaps" 775) 571
def Xm:OO:=fun _=>oT [(.str "self" 904),(.str "t" 905)]
def Zd:OO:=fun _=>oG "look_at_held" "Heap.look_at_held" (inClass (top 38) 12)
noncomputable def Xn:OO:=fun _=>oC "look_at_held" 901 "Heap.look_at_held" 262 2 0 0 3 573 181 574 575 576 577 906 907
noncomputable def Xo:OO:=fun _=>oF "look_at_held" "Heap.look_at_held" (inClass (top 38) 12) (.str "stillheap.heaps" 775) 578
def Xp:OO:=fun _=>oT [(.str "self" 912),(.str "t" 913),(.str "k" 914)]
def Ze:OO:=fun _=>oG "field_value" "Heap.field_value" (inClass (top 38) 13)
noncomputable def Xq:OO:=fun _=>oC "field_value" 909 "Heap.field_value" 266 3 0 0 3 580 181 581 582 583 584 915 916
noncomputable def Xr:OO:=fun _=>oF "field_value" "Heap.field_value" (inClass (top 38) 13) (.str "stillheap.heaps" 775) 585
def Xs:OO:=fun _=>oT [(.str "self" 921)]
def Zf:OO:=fun _=>oG "counts_held" "Heap.counts_held" (inClass (top 38) 14)
noncomputable def Xu:OO:=fun _=>oC "counts_held" 918 "Heap.counts_held" 269 1 0 0 3 587 181 588 589 590 591 922 923
noncomputable def Xv:OO:=fun _=>oF "counts_held" "Heap.counts_held" (inClass (top 38) 14) (.str "stillheap.heaps" 775) 592
def Zg:OO:=fun _=>oG "words_among" "Heap.words_among" (inClass (top 38) 15)
noncomputable def Xw:OO:=fun _=>⟨(.type "code"),none,(.fields (List.toArray [(.str "words_among" 925),(.str "Heap.words_among" 926),(.str "/claim/cut.py" 927),(.int 272 0),(.int 2 0),(.int 0 0),(.int 0 0),(.int 3 0),(.ref 594),(.bool true),(.int 181 0),(.ref 595),.none,.none,.none,(.ref 596),(.int 928 0),(.int 272 0),(.str "/claim/cut.py" 929)])),#[]⟩
noncomputable def Xx:OO:=fun _=>oF "words_among" "Heap.words_among" (inClass (top 38) 15) (.str "stillheap.heaps" 775) 597
def Zh:OO:=fun _=>oG "led_among" "Heap.led_among" (inClass (top 38) 16)
noncomputable def Xy:OO:=fun _=>⟨(.type "code"),none,(.fields (List.toArray [(.str "led_among" 931),(.str "Heap.led_among" 932),(.str "/claim/cut.py" 933),(.int 275 0),(.int 3 0),(.int 0 0),(.int 0 0),(.int 3 0),(.ref 599),(.bool true),(.int 181 0),(.ref 600),.none,.none,.none,(.ref 601),(.int 934 0),(.int 275 0),(.str "/claim/cut.py" 935)])),#[]⟩
noncomputable def Xz:OO:=fun _=>oF "led_among" "Heap.led_among" (inClass (top 38) 16) (.str "stillheap.heaps" 775) 602
noncomputable def XA:OO:=fun _=>oT [(.str "fields_held" 937),(.str "in_hands" 938),(.str "last_words" 939),(.str "makes_young" 940),(.str "next_thing" 941),(.str "weak_names" 942),(.str "young_things" 943)]
noncomputable def XB:OO:=fun P=>⟨(.type "dict"),none,(.dict (List.toArray [kE P "__module__" 784 (.str "stillheap.heaps" 775),kE P "__firstlineno__" 788 (.int 190 787),kE P "__init__" 796 (.ref 497),kE P "add_thing" 806 (.ref 504),kE P "load" 817 (.ref 511),kE P "store" 829 (.ref 518),kE P "copy" 838 (.ref 525),kE P "drop" 846 (.ref 532),kE P "number" 855 (.ref 539),kE P "name" 865 (.ref 546),kE P "read_thing" 875 (.ref 553),kE P "word" 885 (.ref 560),kE P "small_round" 891 (.ref 565),kE P "let_go" 900 (.ref 572),kE P "look_at_held" 908 (.ref 579),kE P "field_value" 917 (.ref 586),kE P "counts_held" 924 (.ref 593),kE P "words_among" 930 (.ref 598),kE P "led_among" 936 (.ref 603),kE P "__static_attributes__" 944 (.ref 604),kE P "__dict__" 946 (.ref 607),kE P "__weakref__" 948 (.ref 608),kE P "__doc__" 949 .none]) 4),#[]⟩
noncomputable def ad2:OO:=fun _=>⟨(.type "type"),none,(.cls ⟨"Heap",[(.type "object")],[(.ref 606),(.type "object")],605, "Heap",true,[],[],false,none,false⟩),(List.toArray [none,none,(.some (.str "Heap" 777)),(.some (.str "Heap" 785)),(.some (.builtin "object.__new__")),(.some (.bool true))])⟩
noncomputable def XC:OO:=fun _=>⟨(.type "getset_descriptor"),none,(.fields (List.toArray [(.str "__dict__" 945),(.ref 606),(.builtin "function.__dict__"),(.builtin "function.__dict__#set")])),#[]⟩
noncomputable def XD:OO:=fun _=>⟨(.type "getset_descriptor"),none,(.fields (List.toArray [(.str "__weakref__" 947),(.ref 606),(.builtin "ExceptionGroup.__weakref__"),.none])),#[]⟩
noncomputable def Zi:OO:=fun _=>⟨(.type "super"),none,(.fields (List.toArray [(.ref 606),(.ref 606),(.ref 606)])),#[]⟩
noncomputable def Zj:OO:=fun _=>⟨(.type "builtin_function_or_method"),none,(.fields (List.toArray [(.builtin "object.__init_subclass__"),(.ref 606)])),#[]⟩
def XE:OO:=fun _=>oT [(.str "value" 955),(.str "things" 956)]
def Zk:OO:=fun _=>oG "thing_among" "thing_among" (top 39)
noncomputable def XF:OO:=fun _=>oC "thing_among" 952 "thing_among" 280 2 0 0 3 611 181 612 613 614 615 957 958
def XG:OO:=fun _=>oF "thing_among" "thing_among" (top 39) (.str "stillheap.heaps" 775) 616
noncomputable def Zl:OO:=fun P=>⟨(.type "dict"),none,(.dict (List.toArray [kE P "__name__" 165 (.str "law_stillheap_k12_rooms" 1165),kE P "__doc__" 166 .none,kE P "__package__" 167 .none,kE P "__loader__" 168 (.builtin "__main__.__loader__#opaque"),kE P "__spec__" 169 .none,kE P "__annotations__" 170 (.ref 6),kE P "__builtins__" 171 (.ref 4),kE P "__file__" 173 (.str "/claim/cut.py" 172),kE P "__cached__" 174 .none,kE P "_wall" 193 (.ref 21),kE P "HeapError" 228 (.ref 45),kE P "BadHand" 251 (.ref 65),kE P "BadName" 274 (.ref 84),kE P "BadField" 297 (.ref 103),kE P "BadCount" 320 (.ref 122),kE P "NoRoom" 343 (.ref 141),kE P "TooManyWords" 366 (.ref 160),kE P "RoundOn" 389 (.ref 179),kE P "NoRound" 412 (.ref 198),kE P "BadView" 435 (.ref 217),kE P "HANDS" 439 (.int 8 438),kE P "WEAK_NAMES" 441 (.int 8 440),kE P "MOST_FIELDS" 443 (.int 6 442),kE P "LEAST_ROOM" 445 (.int 7 444),kE P "MOST_YOUNG" 447 (.int 64 446),kE P "MOST_LIMIT" 449 (.int 400 448),kE P "number_value" 456 (.ref 226),kE P "thing_value" 463 (.ref 233),kE P "kind_of" 470 (.ref 240),kE P "words_of" 477 (.ref 247),kE P "look_at_number" 484 (.ref 254),kE P "look_at_hand" 491 (.ref 261),kE P "look_at_name" 498 (.ref 268),kE P "look_at_field" 506 (.ref 275),kE P "look_at_limits" 514 (.ref 282),kE P "Hands" 620 (.ref 362),kE P "MOST_BEARERS" 624 (.int 12 623),kE P "WordTable" 700 (.ref 425),kE P "last_steps" 714 (.ref 436),kE P "NameTable" 774 (.ref 479),kE P "Heap" 951 (.ref 606),kE P "thing_among" 959 (.ref 617),kE P "IdealHeap" 1164 (.ref 788),kE P "_law_numbers" 1178 (.ref 797),kE P "_law_deed" 1190 (.ref 804),kE P "_law_plain" 1198 (.ref 811),kE P "_law_done" 1208 (.ref 818),kE P "_law_told" 1214 (.ref 823),kE P "_law_heap" 1222 (.ref 830),kE P "_law_deeds" 1228 (.ref 835),kE P "_law_sizes" 1236 (.ref 842),kE P "_law_words" 1242 (.ref 847),kE P "_law_make_right" 1256 (.ref 854),kE P "law" 1268 (.ref 861)]) 54),#[]⟩
noncomputable def acb:OO:=fun _=>⟨.none,none,(.fields (List.toArray [(.int 1 0),(.int 0 0),(.ref 20),(.int 5 0),(.int 0 0),(.ref 27),(.int 12 0),(.int 0 0),(.ref 54),(.int 16 0),(.int 0 0),(.ref 73),(.int 20 0),(.int 0 0),(.ref 92),(.int 24 0),(.int 0 0),(.ref 111),(.int 28 0),(.int 0 0),(.ref 130),(.int 32 0),(.int 0 0),(.ref 149),(.int 36 0),(.int 0 0),(.ref 168),(.int 40 0),(.int 0 0),(.ref 187),(.int 44 0),(.int 0 0),(.ref 206),(.int 55 0),(.int 0 0),(.ref 225),(.int 58 0),(.int 0 0),(.ref 232),(.int 62 0),(.int 0 0),(.ref 239),(.int 64 0),(.int 0 0),(.ref 246),(.int 68 0),(.int 0 0),(.ref 253),(.int 71 0),(.int 0 0),(.ref 260),(.int 74 0),(.int 0 0),(.ref 267),(.int 77 0),(.int 0 0),(.ref 274),(.int 80 0),(.int 0 0),(.ref 281),(.int 86 0),(.int 0 0),(.ref 288),(.int 128 0),(.int 0 0),(.ref 372),(.int 156 0),(.int 0 0),(.ref 435),(.int 171 0),(.int 0 0),(.ref 442),(.int 190 0),(.int 0 0),(.ref 489),(.int 280 0),(.int 0 0),(.ref 616),(.int 285 0),(.int 0 0),(.ref 623),(.int 386 0),(.int 0 0),(.ref 796),(.int 398 0),(.int 0 0),(.ref 803),(.int 411 0),(.int 0 0),(.ref 810),(.int 436 0),(.int 0 0),(.ref 817),(.int 443 0),(.int 0 0),(.ref 822),(.int 447 0),(.int 0 0),(.ref 829),(.int 452 0),(.int 0 0),(.ref 834),(.int 455 0),(.int 0 0),(.ref 841),(.int 460 0),(.int 0 0),(.ref 846),(.int 462 0),(.int 0 0),(.ref 853),(.int 473 0),(.int 0 0),(.ref 860)])),#[]⟩
noncomputable def Zm:OO:=fun _=>⟨(.type "type"),none,(.cls ⟨"Heap",[(.type "object")],[(.ref 606),(.type "object")],605, "Heap",true,[],[(.ref 788)],false,none,false⟩),(List.toArray [none,none,(.some (.str "Heap" 777)),(.some (.str "Heap" 785)),(.some (.builtin "object.__new__")),(.some (.bool true))])⟩
def Zn:OO:=fun _=>oT [(.ref 606)]
noncomputable def acd:OO:=fun P=>⟨(.type "dict"),none,(.dict (List.toArray [kE P "__module__" 969 (.str "stillheap.ideal" 960),kE P "__qualname__" 971 (.str "IdealHeap" 970),kE P "__firstlineno__" 973 (.int 285 972),kE P "__init__" 982 (.ref 631),kE P "make" 992 (.ref 638),kE P "read" 1002 (.ref 645),kE P "take" 1009 (.ref 652),kE P "kind" 1017 (.ref 659),kE P "value" 1025 (.ref 666),kE P "fields" 1033 (.ref 673),kE P "same" 1042 (.ref 680),kE P "held" 1049 (.ref 687),kE P "small" 1056 (.ref 694),kE P "begin" 1065 (.ref 701),kE P "end" 1073 (.ref 708),kE P "round_on" 1080 (.ref 715),kE P "hands" 1087 (.ref 722),kE P "names" 1094 (.ref 729),kE P "things" 1101 (.ref 736),kE P "fields_of" 1109 (.ref 743),kE P "is_old" 1117 (.ref 750),kE P "word_of" 1125 (.ref 757),kE P "doomed" 1132 (.ref 764),kE P "said" 1139 (.ref 771),kE P "made" 1146 (.ref 778),kE P "spare" 1156 (.ref 785),kE P "__static_attributes__" 1161 (.ref 786)]) 27),#[]⟩
noncomputable def ace:OO:=fun _=>⟨.none,none,(.fields (List.toArray [(.int 287 0),(.int 4 0),(.ref 630),(.int 295 0),(.int 4 0),(.ref 637),(.int 304 0),(.int 4 0),(.ref 644),(.int 309 0),(.int 4 0),(.ref 651),(.int 312 0),(.int 4 0),(.ref 658),(.int 315 0),(.int 4 0),(.ref 665),(.int 318 0),(.int 4 0),(.ref 672),(.int 321 0),(.int 4 0),(.ref 679),(.int 324 0),(.int 4 0),(.ref 686),(.int 327 0),(.int 4 0),(.ref 693),(.int 330 0),(.int 4 0),(.ref 700),(.int 340 0),(.int 4 0),(.ref 707),(.int 348 0),(.int 4 0),(.ref 714),(.int 351 0),(.int 4 0),(.ref 721),(.int 354 0),(.int 4 0),(.ref 728),(.int 357 0),(.int 4 0),(.ref 735),(.int 360 0),(.int 4 0),(.ref 742),(.int 364 0),(.int 4 0),(.ref 749),(.int 368 0),(.int 4 0),(.ref 756),(.int 372 0),(.int 4 0),(.ref 763),(.int 375 0),(.int 4 0),(.ref 770),(.int 378 0),(.int 4 0),(.ref 777),(.int 381 0),(.int 4 0),(.ref 784)])),#[]⟩
noncomputable def acf:OO:=fun _=>⟨(.type "code"),none,(.fields (List.toArray [(.str "IdealHeap" 964),(.str "IdealHeap" 965),(.str "/claim/cut.py" 966),(.int 285 0),(.int 0 0),(.int 0 0),(.int 0 0),(.int 0 0),(.ref 621),(.bool false),(.int 181 0),(.ref 622),.none,.none,.none,.none,(.int 967 0),(.int 285 0),(.str "/claim/cut.py" 968)])),#[]⟩
noncomputable def acg:OO:=fun _=>⟨(.type "frame"),none,.plain,(List.toArray [(.some (.ref 623)),(.some (.ref 3)),(.some (.ref 620)),none,(.some (.str "stillheap.ideal" 960)),none,(.some (.ref 0))])⟩
def Zo:OO:=fun _=>oT [(.str "self" 977),(.str "young" 978),(.str "limit" 979)]
def ach:OO:=fun _=>oG "__init__" "IdealHeap.__init__" (inClass (top 41) 0)
noncomputable def Zp:OO:=fun _=>oC "__init__" 974 "IdealHeap.__init__" 287 3 0 0 3 625 181 626 627 628 629 980 981
noncomputable def Zq:OO:=fun _=>oF "__init__" "IdealHeap.__init__" (inClass (top 41) 0) (.str "stillheap.ideal" 960) 630
def Zr:OO:=fun _=>oT [(.str "self" 986),(.str "h" 987),(.str "n" 988),(.str "size" 989)]
def aci:OO:=fun _=>oG "make" "IdealHeap.make" (inClass (top 41) 1)
def Zs:OO:=fun _=>oC "make" 983 "IdealHeap.make" 295 3 0 0 3 632 181 633 634 635 636 990 991
noncomputable def Zt:OO:=fun _=>oF "make" "IdealHeap.make" (inClass (top 41) 1) (.str "stillheap.ideal" 960) 637
def Zu:OO:=fun _=>oT [(.str "self" 996),(.str "h" 997),(.str "w" 998),(.str "t" 999)]
def acj:OO:=fun _=>oG "read" "IdealHeap.read" (inClass (top 41) 2)
noncomputable def Zv:OO:=fun _=>oC "read" 993 "IdealHeap.read" 304 3 0 0 3 639 181 640 641 642 643 1000 1001
noncomputable def Zw:OO:=fun _=>oF "read" "IdealHeap.read" (inClass (top 41) 2) (.str "stillheap.ideal" 960) 644
def Zx:OO:=fun _=>oT [(.str "self" 1006)]
def ack:OO:=fun _=>oG "take" "IdealHeap.take" (inClass (top 41) 3)
noncomputable def Zy:OO:=fun _=>oC "take" 1003 "IdealHeap.take" 309 1 0 0 3 646 181 647 648 649 650 1007 1008
noncomputable def Zz:OO:=fun _=>oF "take" "IdealHeap.take" (inClass (top 41) 3) (.str "stillheap.ideal" 960) 651
def ZA:OO:=fun _=>oT [(.str "self" 1013),(.str "h" 1014)]
def acm:OO:=fun _=>oG "kind" "IdealHeap.kind" (inClass (top 41) 4)
noncomputable def ZC:OO:=fun _=>oC "kind" 1010 "IdealHeap.kind" 312 2 0 0 3 653 181 654 655 656 657 1015 1016
noncomputable def ZD:OO:=fun _=>oF "kind" "IdealHeap.kind" (inClass (top 41) 4) (.str "stillheap.ideal" 960) 658
def ZE:OO:=fun _=>oT [(.str "self" 1021),(.str "h" 1022)]
def acn:OO:=fun _=>oG "value" "IdealHeap.value" (inClass (top 41) 5)
noncomputable def ZF:OO:=fun _=>oC "value" 1018 "IdealHeap.value" 315 2 0 0 3 660 181 661 662 663 664 1023 1024
noncomputable def ZG:OO:=fun _=>oF "value" "IdealHeap.value" (inClass (top 41) 5) (.str "stillheap.ideal" 960) 665
def ZH:OO:=fun _=>oT [(.str "self" 1029),(.str "h" 1030)]
def aco:OO:=fun _=>oG "fields" "IdealHeap.fields" (inClass (top 41) 6)
noncomputable def ZI:OO:=fun _=>oC "fields" 1026 "IdealHeap.fields" 318 2 0 0 3 667 181 668 669 670 671 1031 1032
noncomputable def ZJ:OO:=fun _=>oF "fields" "IdealHeap.fields" (inClass (top 41) 6) (.str "stillheap.ideal" 960) 672
def ZK:OO:=fun _=>oT [(.str "self" 1037),(.str "h" 1038),(.str "g" 1039)]
def acp:OO:=fun _=>oG "same" "IdealHeap.same" (inClass (top 41) 7)
noncomputable def ZL:OO:=fun _=>oC "same" 1034 "IdealHeap.same" 321 3 0 0 3 674 181 675 676 677 678 1040 1041
noncomputable def ZM:OO:=fun _=>oF "same" "IdealHeap.same" (inClass (top 41) 7) (.str "stillheap.ideal" 960) 679
def ZN:OO:=fun _=>oT [(.str "self" 1046)]
def acq:OO:=fun _=>oG "held" "IdealHeap.held" (inClass (top 41) 8)
noncomputable def ZO:OO:=fun _=>oC "held" 1043 "IdealHeap.held" 324 1 0 0 3 681 181 682 683 684 685 1047 1048
noncomputable def ZP:OO:=fun _=>oF "held" "IdealHeap.held" (inClass (top 41) 8) (.str "stillheap.ideal" 960) 686
def ZQ:OO:=fun _=>oT [(.str "self" 1053)]
def acr:OO:=fun _=>oG "small" "IdealHeap.small" (inClass (top 41) 9)
noncomputable def ZR:OO:=fun _=>oC "small" 1050 "IdealHeap.small" 327 1 0 0 3 688 181 689 690 691 692 1054 1055
noncomputable def ZS:OO:=fun _=>oF "small" "IdealHeap.small" (inClass (top 41) 9) (.str "stillheap.ideal" 960) 693
def ZT:OO:=fun _=>oT [(.str "self" 1060),(.str "kept" 1061),(.str "t" 1062)]
def acs:OO:=fun _=>oG "begin" "IdealHeap.begin" (inClass (top 41) 10)
noncomputable def ZU:OO:=fun _=>oC "begin" 1057 "IdealHeap.begin" 330 1 0 0 3 695 181 696 697 698 699 1063 1064
noncomputable def ZV:OO:=fun _=>oF "begin" "IdealHeap.begin" (inClass (top 41) 10) (.str "stillheap.ideal" 960) 700
def ZW:OO:=fun _=>oT [(.str "self" 1069),(.str "gone" 1070)]
def acu:OO:=fun _=>oG "end" "IdealHeap.end" (inClass (top 41) 11)
noncomputable def ZX:OO:=fun _=>oC "end" 1066 "IdealHeap.end" 340 1 0 0 3 702 181 703 704 705 706 1071 1072
noncomputable def ZY:OO:=fun _=>oF "end" "IdealHeap.end" (inClass (top 41) 11) (.str "stillheap.ideal" 960) 707
def ZZ:OO:=fun _=>oT [(.str "self" 1077)]
def acv:OO:=fun _=>oG "round_on" "IdealHeap.round_on" (inClass (top 41) 12)
noncomputable def Z0:OO:=fun _=>oC "round_on" 1074 "IdealHeap.round_on" 348 1 0 0 3 709 181 710 711 712 713 1078 1079
noncomputable def Z1:OO:=fun _=>oF "round_on" "IdealHeap.round_on" (inClass (top 41) 12) (.str "stillheap.ideal" 960) 714
def Z2:OO:=fun _=>oT [(.str "self" 1084)]
def acw:OO:=fun _=>oG "hands" "IdealHeap.hands" (inClass (top 41) 13)
noncomputable def Z3:OO:=fun _=>oC "hands" 1081 "IdealHeap.hands" 351 1 0 0 3 716 181 717 718 719 720 1085 1086
noncomputable def Z4:OO:=fun _=>oF "hands" "IdealHeap.hands" (inClass (top 41) 13) (.str "stillheap.ideal" 960) 721
def Z5:OO:=fun _=>oT [(.str "self" 1091)]
def acx:OO:=fun _=>oG "names" "IdealHeap.names" (inClass (top 41) 14)
noncomputable def Z6:OO:=fun _=>oC "names" 1088 "IdealHeap.names" 354 1 0 0 3 723 181 724 725 726 727 1092 1093
noncomputable def Z7:OO:=fun _=>oF "names" "IdealHeap.names" (inClass (top 41) 14) (.str "stillheap.ideal" 960) 728
def Z8:OO:=fun _=>oT [(.str "self" 1098)]
def acy:OO:=fun _=>oG "things" "IdealHeap.things" (inClass (top 41) 15)
noncomputable def Z9:OO:=fun _=>oC "things" 1095 "IdealHeap.things" 357 1 0 0 3 730 181 731 732 733 734 1099 1100
noncomputable def aaa:OO:=fun _=>oF "things" "IdealHeap.things" (inClass (top 41) 15) (.str "stillheap.ideal" 960) 735
def aab:OO:=fun _=>oT [(.str "self" 1105),(.str "t" 1106)]
def acz:OO:=fun _=>oG "fields_of" "IdealHeap.fields_of" (inClass (top 41) 16)
noncomputable def aac:OO:=fun _=>oC "fields_of" 1102 "IdealHeap.fields_of" 360 2 0 0 3 737 181 738 739 740 741 1107 1108
noncomputable def aad:OO:=fun _=>oF "fields_of" "IdealHeap.fields_of" (inClass (top 41) 16) (.str "stillheap.ideal" 960) 742
def aae:OO:=fun _=>oT [(.str "self" 1113),(.str "t" 1114)]
def acA:OO:=fun _=>oG "is_old" "IdealHeap.is_old" (inClass (top 41) 17)
noncomputable def aaf:OO:=fun _=>oC "is_old" 1110 "IdealHeap.is_old" 364 2 0 0 3 744 181 745 746 747 748 1115 1116
noncomputable def aag:OO:=fun _=>oF "is_old" "IdealHeap.is_old" (inClass (top 41) 17) (.str "stillheap.ideal" 960) 749
def aah:OO:=fun _=>oT [(.str "self" 1121),(.str "t" 1122)]
def acB:OO:=fun _=>oG "word_of" "IdealHeap.word_of" (inClass (top 41) 18)
noncomputable def aai:OO:=fun _=>oC "word_of" 1118 "IdealHeap.word_of" 368 2 0 0 3 751 181 752 753 754 755 1123 1124
noncomputable def aaj:OO:=fun _=>oF "word_of" "IdealHeap.word_of" (inClass (top 41) 18) (.str "stillheap.ideal" 960) 756
def aak:OO:=fun _=>oT [(.str "self" 1129)]
def acC:OO:=fun _=>oG "doomed" "IdealHeap.doomed" (inClass (top 41) 19)
noncomputable def aal:OO:=fun _=>oC "doomed" 1126 "IdealHeap.doomed" 372 1 0 0 3 758 181 759 760 761 762 1130 1131
noncomputable def aam:OO:=fun _=>oF "doomed" "IdealHeap.doomed" (inClass (top 41) 19) (.str "stillheap.ideal" 960) 763
def aan:OO:=fun _=>oT [(.str "self" 1136)]
def acD:OO:=fun _=>oG "said" "IdealHeap.said" (inClass (top 41) 20)
noncomputable def aao:OO:=fun _=>oC "said" 1133 "IdealHeap.said" 375 1 0 0 3 765 181 766 767 768 769 1137 1138
noncomputable def aap:OO:=fun _=>oF "said" "IdealHeap.said" (inClass (top 41) 20) (.str "stillheap.ideal" 960) 770
def aaq:OO:=fun _=>oT [(.str "self" 1143)]
def acE:OO:=fun _=>oG "made" "IdealHeap.made" (inClass (top 41) 21)
noncomputable def aar:OO:=fun _=>oC "made" 1140 "IdealHeap.made" 378 1 0 0 3 772 181 773 774 775 776 1144 1145
noncomputable def aas:OO:=fun _=>oF "made" "IdealHeap.made" (inClass (top 41) 21) (.str "stillheap.ideal" 960) 777
noncomputable def aat:OO:=fun _=>oT [(.str "self" 1150),(.str "t" 1151),(.str "spared" 1152),(.str "other" 1153)]
def acF:OO:=fun _=>oG "spare" "IdealHeap.spare" (inClass (top 41) 22)
noncomputable def aau:OO:=fun _=>oC "spare" 1147 "IdealHeap.spare" 381 2 0 0 3 779 181 780 781 782 783 1154 1155
noncomputable def aav:OO:=fun _=>oF "spare" "IdealHeap.spare" (inClass (top 41) 22) (.str "stillheap.ideal" 960) 784
noncomputable def aaw:OO:=fun _=>oT [(.str "doomed_things" 1157),(.str "in_round" 1158),(.str "limit" 1159),(.str "young_room" 1160)]
noncomputable def aax:OO:=fun P=>⟨(.type "dict"),none,(.dict (List.toArray [kE P "__module__" 969 (.str "stillheap.ideal" 960),kE P "__firstlineno__" 973 (.int 285 972),kE P "__init__" 982 (.ref 631),kE P "make" 992 (.ref 638),kE P "read" 1002 (.ref 645),kE P "take" 1009 (.ref 652),kE P "kind" 1017 (.ref 659),kE P "value" 1025 (.ref 666),kE P "fields" 1033 (.ref 673),kE P "same" 1042 (.ref 680),kE P "held" 1049 (.ref 687),kE P "small" 1056 (.ref 694),kE P "begin" 1065 (.ref 701),kE P "end" 1073 (.ref 708),kE P "round_on" 1080 (.ref 715),kE P "hands" 1087 (.ref 722),kE P "names" 1094 (.ref 729),kE P "things" 1101 (.ref 736),kE P "fields_of" 1109 (.ref 743),kE P "is_old" 1117 (.ref 750),kE P "word_of" 1125 (.ref 757),kE P "doomed" 1132 (.ref 764),kE P "said" 1139 (.ref 771),kE P "made" 1146 (.ref 778),kE P "spare" 1156 (.ref 785),kE P "__static_attributes__" 1161 (.ref 786),kE P "__doc__" 1162 .none]) 2),#[]⟩
noncomputable def aay:OO:=fun _=>⟨(.type "type"),none,(.cls ⟨"IdealHeap",[(.ref 606)],[(.ref 788),(.ref 606),(.type "object")],787, "IdealHeap",true,[],[],false,none,false⟩),(List.toArray [(.some (.ref 618)),none,(.some (.str "IdealHeap" 962)),(.some (.str "IdealHeap" 970)),(.some (.builtin "object.__new__")),(.some (.bool true))])⟩
noncomputable def acG:OO:=fun _=>⟨(.type "super"),none,(.fields (List.toArray [(.ref 788),(.ref 788),(.ref 788)])),#[]⟩
noncomputable def acH:OO:=fun _=>⟨(.type "builtin_function_or_method"),none,(.fields (List.toArray [(.builtin "object.__init_subclass__"),(.ref 788)])),#[]⟩
noncomputable def aaz:OO:=fun _=>oT [(.str "script" 1170),(.str "most" 1171),(.str "found" 1172),(.str "k" 1173),(.str "near" 1174),(.str "turn" 1175)]
def acI:OO:=fun _=>oG "_law_numbers" "_law_numbers" (top 43)
noncomputable def aaA:OO:=fun _=>oC "_law_numbers" 1167 "_law_numbers" 386 2 0 0 3 791 181 792 793 794 795 1176 1177
noncomputable def aaB:OO:=fun _=>oF "_law_numbers" "_law_numbers" (top 43) (.str "law_stillheap_k12_rooms" 1165) 796
noncomputable def aaC:OO:=fun _=>oT [(.str "number" 1182),(.str "a" 1183),(.str "b" 1184),(.str "c" 1185),(.str "kind" 1186),(.str "some" 1187)]
def acJ:OO:=fun _=>oG "_law_deed" "_law_deed" (top 44)
noncomputable def aaD:OO:=fun _=>oC "_law_deed" 1179 "_law_deed" 398 1 0 0 3 798 181 799 800 801 802 1188 1189
noncomputable def aaE:OO:=fun _=>oF "_law_deed" "_law_deed" (top 44) (.str "law_stillheap_k12_rooms" 1165) 803
def aaF:OO:=fun _=>oT [(.str "hall" 1194),(.str "deed" 1195)]
def acK:OO:=fun _=>oG "_law_plain" "_law_plain" (top 45)
noncomputable def aaG:OO:=fun _=>oC "_law_plain" 1191 "_law_plain" 411 2 0 0 3 805 181 806 807 808 809 1196 1197
noncomputable def aaH:OO:=fun _=>oF "_law_plain" "_law_plain" (top 45) (.str "law_stillheap_k12_rooms" 1165) 810
noncomputable def aaI:OO:=fun _=>oT [(.str "hall" 1202),(.str "deed" 1203),(.str "word" 1204),(.str "e" 1205)]
def acL:OO:=fun _=>oG "_law_done" "_law_done" (top 46)
noncomputable def aaJ:OO:=fun _=>oC "_law_done" 1199 "_law_done" 436 2 0 0 3 812 181 813 814 815 816 1206 1207
noncomputable def aaK:OO:=fun _=>oF "_law_done" "_law_done" (top 46) (.str "law_stillheap_k12_rooms" 1165) 817
def acM:OO:=fun _=>oG "_law_told" "_law_told" (top 47)
noncomputable def aaL:OO:=fun _=>⟨(.type "code"),none,(.fields (List.toArray [(.str "_law_told" 1209),(.str "_law_told" 1210),(.str "/claim/cut.py" 1211),(.int 443 0),(.int 1 0),(.int 0 0),(.int 0 0),(.int 3 0),(.ref 819),(.bool true),(.int 181 0),(.ref 820),.none,.none,.none,(.ref 821),(.int 1212 0),(.int 443 0),(.str "/claim/cut.py" 1213)])),#[]⟩
noncomputable def aaM:OO:=fun _=>oF "_law_told" "_law_told" (top 47) (.str "law_stillheap_k12_rooms" 1165) 822
def aaN:OO:=fun _=>oT [(.str "script" 1218),(.str "head" 1219)]
def acN:OO:=fun _=>oG "_law_heap" "_law_heap" (top 48)
noncomputable def aaO:OO:=fun _=>oC "_law_heap" 1215 "_law_heap" 447 1 0 0 3 824 181 825 826 827 828 1220 1221
noncomputable def aaP:OO:=fun _=>oF "_law_heap" "_law_heap" (top 48) (.str "law_stillheap_k12_rooms" 1165) 829
def acO:OO:=fun _=>oG "_law_deeds" "_law_deeds" (top 49)
noncomputable def aaQ:OO:=fun _=>⟨(.type "code"),none,(.fields (List.toArray [(.str "_law_deeds" 1223),(.str "_law_deeds" 1224),(.str "/claim/cut.py" 1225),(.int 452 0),(.int 2 0),(.int 0 0),(.int 0 0),(.int 3 0),(.ref 831),(.bool true),(.int 181 0),(.ref 832),.none,.none,.none,(.ref 833),(.int 1226 0),(.int 452 0),(.str "/claim/cut.py" 1227)])),#[]⟩
noncomputable def aaR:OO:=fun _=>oF "_law_deeds" "_law_deeds" (top 49) (.str "law_stillheap_k12_rooms" 1165) 834
def aaS:OO:=fun _=>oT [(.str "script" 1232),(.str "head" 1233)]
def acP:OO:=fun _=>oG "_law_sizes" "_law_sizes" (top 50)
noncomputable def aaT:OO:=fun _=>oC "_law_sizes" 1229 "_law_sizes" 455 1 0 0 3 836 181 837 838 839 840 1234 1235
noncomputable def aaU:OO:=fun _=>oF "_law_sizes" "_law_sizes" (top 50) (.str "law_stillheap_k12_rooms" 1165) 841
def acQ:OO:=fun _=>oG "_law_words" "_law_words" (top 51)
noncomputable def aaV:OO:=fun _=>⟨(.type "code"),none,(.fields (List.toArray [(.str "_law_words" 1237),(.str "_law_words" 1238),(.str "/claim/cut.py" 1239),(.int 460 0),(.int 2 0),(.int 0 0),(.int 0 0),(.int 3 0),(.ref 843),(.bool true),(.int 181 0),(.ref 844),.none,.none,.none,(.ref 845),(.int 1240 0),(.int 460 0),(.str "/claim/cut.py" 1241)])),#[]⟩
noncomputable def aaW:OO:=fun _=>oF "_law_words" "_law_words" (top 51) (.str "law_stillheap_k12_rooms" 1165) 846
noncomputable def aaX:OO:=fun _=>oT [(.str "heap" 1246),(.str "twin" 1247),(.str "sizes" 1248),(.str "h" 1249),(.str "n" 1250),(.str "before" 1251),(.str "word" 1252),(.str "due" 1253)]
def acR:OO:=fun _=>oG "_law_make_right" "_law_make_right" (top 52)
noncomputable def aaY:OO:=fun _=>oC "_law_make_right" 1243 "_law_make_right" 462 5 0 0 3 848 181 849 850 851 852 1254 1255
noncomputable def aaZ:OO:=fun _=>oF "_law_make_right" "_law_make_right" (top 52) (.str "law_stillheap_k12_rooms" 1165) 853
noncomputable def aa0:OO:=fun _=>oT [(.str "script" 1260),(.str "heap" 1261),(.str "twin" 1262),(.str "sizes" 1263),(.str "place" 1264),(.str "deed" 1265)]
def acS:OO:=fun _=>oG "law" "law" (top 53)
def aa1:OO:=fun _=>oC "law" 1257 "law" 473 1 0 0 3 855 181 856 857 858 859 1266 1267
def aa2:OO:=fun _=>oF "law" "law" (top 53) (.str "law_stillheap_k12_rooms" 1165) 860
noncomputable def hTa (P:Params):BT:=mkT P 12 (o0::o1::o2::o3::o4::o5::o6::o7::o8::o9::o10::o7::o8::o11::o12::[])
noncomputable def hSa (w:World) (os:OsState):SharedT:=⟨hTa w.params,15,⟨[],[],[],0,[],[],false,(List.toArray []),[],0,false,false,false,0,[2000,10,10],false,0,true,[],[],0,false⟩,#[],⟨0,0,0,0⟩,187,os⟩
noncomputable def hTb (P:Params):BT:=mkT P 12 (o0::o1::o2::o3::o4::o5::o6::o7::o8::o9::o10::o7::o8::o11::o12::[])
noncomputable def hSb (w:World) (os:OsState):SharedT:=⟨hTb w.params,15,⟨[],[],[],0,[],[],false,(List.toArray []),[],0,false,false,false,0,[2000,10,10],false,0,true,[],[],0,false⟩,#[],⟨0,0,0,0⟩,187,os⟩
noncomputable def hT0 (P:Params):BT:=mkT P 12 (o0::o1::o2::o13::o4::o5::o6::o7::o8::o9::o10::o7::o14::o11::o12::o7::o8::o15::o7::o16::o17::o18::o19::o20::o21::o7::o22::o23::o24::o7::o8::o25::o7::o26::o27::o28::o7::o8::o29::o7::o30::o31::o32::o7::o33::o34::o35::o36::o37::o38::o20::o39::o7::o40::o41::o42::o7::o8::o43::o7::o44::o45::o46::o7::o47::o48::o49::o50::o38::o20::o51::o7::o52::o53::o54::o7::o8::o55::o7::o56::o57::o58::o7::o59::o60::o61::o62::o38::o20::o63::o7::o64::o65::o66::o7::o8::o67::o7::o68::o69::o70::o7::o71::o72::o73::o74::o38::o20::o75::o7::o76::o77::o78::o7::o8::o79::o7::o80::o81::o82::o7::o83::o84::o85::o86::o38::o20::o87::o7::o88::o89::o90::o7::o8::o91::o7::o92::o93::o94::o7::o95::o96::o97::o98::o38::o20::o99::o7::Se::Sf::Sg::o7::o8::QO::o7::Sh::QP::QQ::o7::QR::QS::Si::Sj::o38::o20::Sk::o7::Sl::Sn::So::o7::o8::QT::o7::Sq::QU::QV::o7::QW::QX::Sr::Ss::[])
noncomputable def hS0 (w:World) (os:OsState):SharedT:=⟨hT0 w.params,182,⟨[],[],[],0,[],[],false,(List.toArray []),[],0,false,false,false,0,[2000,10,10],false,0,true,[],[],0,false⟩,#[],⟨0,0,0,0⟩,390,os⟩
noncomputable def hT1 (P:Params):BT:=mkT P 12 (o0::o1::o2::adY::o4::o5::o6::o7::o8::o9::o10::o7::adZ::o11::o12::o7::o8::o15::o7::o16::o17::o18::o19::o20::o21::o7::o22::o23::o24::o7::o8::o25::o7::o26::o27::o28::o7::o8::o29::o7::o30::o31::o32::o7::o33::Su::o35::o36::o37::o38::o20::o39::o7::o40::o41::o42::o7::o8::o43::o7::o44::o45::o46::o7::o47::o48::o49::o50::o38::o20::o51::o7::o52::o53::o54::o7::o8::o55::o7::o56::o57::o58::o7::o59::o60::o61::o62::o38::o20::o63::o7::o64::o65::o66::o7::o8::o67::o7::o68::o69::o70::o7::o71::o72::o73::o74::o38::o20::o75::o7::o76::o77::o78::o7::o8::o79::o7::o80::o81::o82::o7::o83::o84::o85::o86::o38::o20::o87::o7::o88::o89::o90::o7::o8::o91::o7::o92::o93::o94::o7::o95::o96::o97::o98::o38::o20::o99::o7::Se::Sf::Sg::o7::o8::QO::o7::Sh::QP::QQ::o7::QR::QS::Si::Sj::o38::o20::Sk::o7::Sl::Sn::So::o7::o8::QT::o7::Sq::QU::QV::o7::QW::QX::Sr::Ss::o38::o20::Vq::o7::Vr::Vs::Vt::o7::o8::Sv::o7::Vu::Sw::Sx::o7::Sy::Sz::Vv::Vw::o38::o20::Vx::o7::Vy::Vz::VA::o7::o8::SA::o7::VB::SD::SE::o7::SF::SG::VC::VD::o7::o8::SH::o7::VE::SI::SJ::o7::o8::SK::o7::VF::SM::SN::o7::o8::SO::o7::VG::SQ::SR::o7::o8::SS::o7::VH::SU::SV::o7::o8::SW::o7::VI::SX::SY::o7::o8::S5::o7::VJ::S6::S7::o7::o8::S8::o7::VL::S9::Ta::o7::o8::Tb::o7::VM::Tc::Td::o7::o8::Tf::o7::VN::Tg::Th::o7::o20::VO::o7::VP::VQ::VR::o7::o8::Ti::o7::VS::Tj::Tn::o7::o8::To::o7::VT::Tp::Tq::o7::o8::Tr::o7::VU::Ts::Tt::o7::o8::Tu::o7::VV::Tv::Tw::o7::o8::Tx::o7::VW::Tz::TB::o7::o8::TC::o7::VX::TH::TJ::o7::o8::TK::o7::VY::TL::TM::o7::o8::TN::o7::VZ::TQ::TR::o7::o8::TU::o7::V0::TV::TX::o7::o8::TY::o7::V1::TZ::T1::T3::T4::T5::T6::T7::V2::V3::o7::o20::V4::o7::V5::V6::V7::o7::o8::T8::o7::V8::T9::Ua::o7::o8::Ub::o7::V9::Uc::Ud::o7::o8::Ue::o7::Wa::Ug::Uh::o7::o8::Ui::o7::Wb::Uj::Uk::o7::o8::Ul::o7::Wc::Um::Uo::o7::o8::Up::o7::We::Uq::Ur::o7::o8::Us::o7::Wf::Ut::Uu::Uv::Uw::Ux::Uy::Uz::Wg::Wh::o7::o8::UA::o7::Wi::UB::UC::[])
noncomputable def hS1 (w:World) (os:OsState):SharedT:=⟨hT1 w.params,437,⟨[],[],[],0,[],[],false,(List.toArray []),[],0,false,false,false,0,[2000,10,10],false,0,true,[],[],0,false⟩,#[],⟨0,0,0,0⟩,717,os⟩
noncomputable def hT2 (P:Params):BT:=mkT P 12 (o0::o1::o2::ad0::o4::o5::o6::o7::o8::o9::o10::o7::ad1::o11::o12::o7::o8::o15::o7::o16::o17::o18::o19::o20::o21::o7::o22::o23::o24::o7::o8::o25::o7::o26::o27::o28::o7::o8::o29::o7::o30::o31::o32::o7::o33::Su::o35::o36::o37::o38::o20::o39::o7::o40::o41::o42::o7::o8::o43::o7::o44::o45::o46::o7::o47::o48::o49::o50::o38::o20::o51::o7::o52::o53::o54::o7::o8::o55::o7::o56::o57::o58::o7::o59::o60::o61::o62::o38::o20::o63::o7::o64::o65::o66::o7::o8::o67::o7::o68::o69::o70::o7::o71::o72::o73::o74::o38::o20::o75::o7::o76::o77::o78::o7::o8::o79::o7::o80::o81::o82::o7::o83::o84::o85::o86::o38::o20::o87::o7::o88::o89::o90::o7::o8::o91::o7::o92::o93::o94::o7::o95::o96::o97::o98::o38::o20::o99::o7::Se::Sf::Sg::o7::o8::QO::o7::Sh::QP::QQ::o7::QR::QS::Si::Sj::o38::o20::Sk::o7::Sl::Sn::So::o7::o8::QT::o7::Sq::QU::QV::o7::QW::QX::Sr::Ss::o38::o20::Vq::o7::Vr::Vs::Vt::o7::o8::Sv::o7::Vu::Sw::Sx::o7::Sy::Sz::Vv::Vw::o38::o20::Vx::o7::Vy::Vz::VA::o7::o8::SA::o7::VB::SD::SE::o7::SF::SG::VC::VD::o7::o8::SH::o7::VE::SI::SJ::o7::o8::SK::o7::VF::SM::SN::o7::o8::SO::o7::VG::SQ::SR::o7::o8::SS::o7::VH::SU::SV::o7::o8::SW::o7::VI::SX::SY::o7::o8::S5::o7::VJ::S6::S7::o7::o8::S8::o7::VL::S9::Ta::o7::o8::Tb::o7::VM::Tc::Td::o7::o8::Tf::o7::VN::Tg::Th::o7::o20::VO::o7::VP::VQ::VR::o7::o8::Ti::o7::VS::Tj::Tn::o7::o8::To::o7::VT::Tp::Tq::o7::o8::Tr::o7::VU::Ts::Tt::o7::o8::Tu::o7::VV::Tv::Tw::o7::o8::Tx::o7::VW::Tz::TB::o7::o8::TC::o7::VX::TH::TJ::o7::o8::TK::o7::VY::TL::TM::o7::o8::TN::o7::VZ::TQ::TR::o7::o8::TU::o7::V0::TV::TX::o7::o8::TY::o7::V1::TZ::T1::T3::T4::T5::T6::T7::V2::V3::o7::o20::V4::o7::V5::V6::V7::o7::o8::T8::o7::V8::T9::Ua::o7::o8::Ub::o7::V9::Uc::Ud::o7::o8::Ue::o7::Wa::Ug::Uh::o7::o8::Ui::o7::Wb::Uj::Uk::o7::o8::Ul::o7::Wc::Um::Uo::o7::o8::Up::o7::We::Uq::Ur::o7::o8::Us::o7::Wf::Ut::Uu::Uv::Uw::Ux::Uy::Uz::Wg::Wh::o7::o8::UA::o7::Wi::UB::UC::o7::o20::YL::o7::YM::YN::YO::o7::o8::Wj::o7::YQ::Wl::Wm::o7::o8::Wn::o7::YR::Wo::Wq::o7::o8::Wr::o7::YS::Ws::Wu::o7::o8::Wv::o7::YT::Ww::Wx::o7::o8::YU::Wy::Wz::WA::WB::WC::WD::WE::YV::YW::o7::o20::YX::o7::YY::YZ::Y0::o7::o8::WG::o7::Y1::WH::WI::o7::o8::WJ::o7::Y2::WK::WL::o7::o8::WM::o7::Y3::WN::WO::o7::o8::WQ::o7::Y4::WR::WS::o7::o8::WT::o7::Y5::WU::WW::o7::o8::WX::o7::Y6::WY::WZ::o7::o8::W0::o7::Y7::W2::W3::o7::o8::W5::o7::Y8::W6::Xa::o7::o8::Xb::o7::Y9::Xc::Xd::o7::o8::Xe::o7::Za::Xf::Xg::o7::o8::Zb::Xh::Xi::o7::o8::Xj::o7::Zc::Xk::Xl::o7::o8::Xm::o7::Zd::Xn::Xo::o7::o8::Xp::o7::Ze::Xq::Xr::o7::o8::Xs::o7::Zf::Xu::Xv::o7::o8::Zg::Xw::Xx::o7::o8::Zh::Xy::Xz::XA::XB::ad2::XC::XD::Zi::Zj::o7::o8::XE::o7::Zk::XF::XG::[])
noncomputable def hS2 (w:World) (os:OsState):SharedT:=⟨hT2 w.params,618,⟨[],[],[],0,[],[],false,(List.toArray []),[],0,false,false,false,0,[2000,10,10],false,0,true,[],[],0,false⟩,#[],⟨0,0,0,0⟩,962,os⟩
noncomputable def hT3 (P:Params):BT:=mkT P 12 (o0::o1::o2::Zl::o4::o5::o6::o7::o8::o9::o10::o7::acb::o11::o12::o7::o8::o15::o7::o16::o17::o18::o19::o20::o21::o7::o22::o23::o24::o7::o8::o25::o7::o26::o27::o28::o7::o8::o29::o7::o30::o31::o32::o7::o33::Su::o35::o36::o37::o38::o20::o39::o7::o40::o41::o42::o7::o8::o43::o7::o44::o45::o46::o7::o47::o48::o49::o50::o38::o20::o51::o7::o52::o53::o54::o7::o8::o55::o7::o56::o57::o58::o7::o59::o60::o61::o62::o38::o20::o63::o7::o64::o65::o66::o7::o8::o67::o7::o68::o69::o70::o7::o71::o72::o73::o74::o38::o20::o75::o7::o76::o77::o78::o7::o8::o79::o7::o80::o81::o82::o7::o83::o84::o85::o86::o38::o20::o87::o7::o88::o89::o90::o7::o8::o91::o7::o92::o93::o94::o7::o95::o96::o97::o98::o38::o20::o99::o7::Se::Sf::Sg::o7::o8::QO::o7::Sh::QP::QQ::o7::QR::QS::Si::Sj::o38::o20::Sk::o7::Sl::Sn::So::o7::o8::QT::o7::Sq::QU::QV::o7::QW::QX::Sr::Ss::o38::o20::Vq::o7::Vr::Vs::Vt::o7::o8::Sv::o7::Vu::Sw::Sx::o7::Sy::Sz::Vv::Vw::o38::o20::Vx::o7::Vy::Vz::VA::o7::o8::SA::o7::VB::SD::SE::o7::SF::SG::VC::VD::o7::o8::SH::o7::VE::SI::SJ::o7::o8::SK::o7::VF::SM::SN::o7::o8::SO::o7::VG::SQ::SR::o7::o8::SS::o7::VH::SU::SV::o7::o8::SW::o7::VI::SX::SY::o7::o8::S5::o7::VJ::S6::S7::o7::o8::S8::o7::VL::S9::Ta::o7::o8::Tb::o7::VM::Tc::Td::o7::o8::Tf::o7::VN::Tg::Th::o7::o20::VO::o7::VP::VQ::VR::o7::o8::Ti::o7::VS::Tj::Tn::o7::o8::To::o7::VT::Tp::Tq::o7::o8::Tr::o7::VU::Ts::Tt::o7::o8::Tu::o7::VV::Tv::Tw::o7::o8::Tx::o7::VW::Tz::TB::o7::o8::TC::o7::VX::TH::TJ::o7::o8::TK::o7::VY::TL::TM::o7::o8::TN::o7::VZ::TQ::TR::o7::o8::TU::o7::V0::TV::TX::o7::o8::TY::o7::V1::TZ::T1::T3::T4::T5::T6::T7::V2::V3::o7::o20::V4::o7::V5::V6::V7::o7::o8::T8::o7::V8::T9::Ua::o7::o8::Ub::o7::V9::Uc::Ud::o7::o8::Ue::o7::Wa::Ug::Uh::o7::o8::Ui::o7::Wb::Uj::Uk::o7::o8::Ul::o7::Wc::Um::Uo::o7::o8::Up::o7::We::Uq::Ur::o7::o8::Us::o7::Wf::Ut::Uu::Uv::Uw::Ux::Uy::Uz::Wg::Wh::o7::o8::UA::o7::Wi::UB::UC::o7::o20::YL::o7::YM::YN::YO::o7::o8::Wj::o7::YQ::Wl::Wm::o7::o8::Wn::o7::YR::Wo::Wq::o7::o8::Wr::o7::YS::Ws::Wu::o7::o8::Wv::o7::YT::Ww::Wx::o7::o8::YU::Wy::Wz::WA::WB::WC::WD::WE::YV::YW::o7::o20::YX::o7::YY::YZ::Y0::o7::o8::WG::o7::Y1::WH::WI::o7::o8::WJ::o7::Y2::WK::WL::o7::o8::WM::o7::Y3::WN::WO::o7::o8::WQ::o7::Y4::WR::WS::o7::o8::WT::o7::Y5::WU::WW::o7::o8::WX::o7::Y6::WY::WZ::o7::o8::W0::o7::Y7::W2::W3::o7::o8::W5::o7::Y8::W6::Xa::o7::o8::Xb::o7::Y9::Xc::Xd::o7::o8::Xe::o7::Za::Xf::Xg::o7::o8::Zb::Xh::Xi::o7::o8::Xj::o7::Zc::Xk::Xl::o7::o8::Xm::o7::Zd::Xn::Xo::o7::o8::Xp::o7::Ze::Xq::Xr::o7::o8::Xs::o7::Zf::Xu::Xv::o7::o8::Zg::Xw::Xx::o7::o8::Zh::Xy::Xz::XA::XB::Zm::XC::XD::Zi::Zj::o7::o8::XE::o7::Zk::XF::XG::Zn::o20::acd::o7::ace::acf::acg::o7::o8::Zo::o7::ach::Zp::Zq::o7::o8::Zr::o7::aci::Zs::Zt::o7::o8::Zu::o7::acj::Zv::Zw::o7::o8::Zx::o7::ack::Zy::Zz::o7::o8::ZA::o7::acm::ZC::ZD::o7::o8::ZE::o7::acn::ZF::ZG::o7::o8::ZH::o7::aco::ZI::ZJ::o7::o8::ZK::o7::acp::ZL::ZM::o7::o8::ZN::o7::acq::ZO::ZP::o7::o8::ZQ::o7::acr::ZR::ZS::o7::o8::ZT::o7::acs::ZU::ZV::o7::o8::ZW::o7::acu::ZX::ZY::o7::o8::ZZ::o7::acv::Z0::Z1::o7::o8::Z2::o7::acw::Z3::Z4::o7::o8::Z5::o7::acx::Z6::Z7::o7::o8::Z8::o7::acy::Z9::aaa::o7::o8::aab::o7::acz::aac::aad::o7::o8::aae::o7::acA::aaf::aag::o7::o8::aah::o7::acB::aai::aaj::o7::o8::aak::o7::acC::aal::aam::o7::o8::aan::o7::acD::aao::aap::o7::o8::aaq::o7::acE::aar::aas::o7::o8::aat::o7::acF::aau::aav::aaw::aax::aay::acG::acH::o7::o8::aaz::o7::acI::aaA::aaB::o7::o8::aaC::o7::acJ::aaD::aaE::o7::o8::aaF::o7::acK::aaG::aaH::o7::o8::aaI::o7::acL::aaJ::aaK::o7::o8::acM::aaL::aaM::o7::o8::aaN::o7::acN::aaO::aaP::o7::o8::acO::aaQ::aaR::o7::o8::aaS::o7::acP::aaT::aaU::o7::o8::acQ::aaV::aaW::o7::o8::aaX::o7::acR::aaY::aaZ::o7::o8::aa0::o7::acS::aa1::aa2::[])
noncomputable def hS3 (w:World) (os:OsState):SharedT:=⟨hT3 w.params,862,⟨[],[],[],0,[],[],false,(List.toArray []),[],0,false,false,false,0,[2000,10,10],false,0,true,[],[],0,false⟩,#[],⟨0,0,0,0⟩,1269,os⟩
noncomputable def hTf (P:Params):BT:=mkT P 12 (o0::o1::o2::Zl::o4::o5::o6::o7::o8::o9::o10::o7::acb::o11::o12::o7::o8::o15::o7::o16::o17::o18::o19::o20::o21::o7::o22::o23::o24::o7::o8::o25::o7::o26::o27::o28::o7::o8::o29::o7::o30::o31::o32::o7::o33::Su::o35::o36::o37::o38::o20::o39::o7::o40::o41::o42::o7::o8::o43::o7::o44::o45::o46::o7::o47::o48::o49::o50::o38::o20::o51::o7::o52::o53::o54::o7::o8::o55::o7::o56::o57::o58::o7::o59::o60::o61::o62::o38::o20::o63::o7::o64::o65::o66::o7::o8::o67::o7::o68::o69::o70::o7::o71::o72::o73::o74::o38::o20::o75::o7::o76::o77::o78::o7::o8::o79::o7::o80::o81::o82::o7::o83::o84::o85::o86::o38::o20::o87::o7::o88::o89::o90::o7::o8::o91::o7::o92::o93::o94::o7::o95::o96::o97::o98::o38::o20::o99::o7::Se::Sf::Sg::o7::o8::QO::o7::Sh::QP::QQ::o7::QR::QS::Si::Sj::o38::o20::Sk::o7::Sl::Sn::So::o7::o8::QT::o7::Sq::QU::QV::o7::QW::QX::Sr::Ss::o38::o20::Vq::o7::Vr::Vs::Vt::o7::o8::Sv::o7::Vu::Sw::Sx::o7::Sy::Sz::Vv::Vw::o38::o20::Vx::o7::Vy::Vz::VA::o7::o8::SA::o7::VB::SD::SE::o7::SF::SG::VC::VD::o7::o8::SH::o7::VE::SI::SJ::o7::o8::SK::o7::VF::SM::SN::o7::o8::SO::o7::VG::SQ::SR::o7::o8::SS::o7::VH::SU::SV::o7::o8::SW::o7::VI::SX::SY::o7::o8::S5::o7::VJ::S6::S7::o7::o8::S8::o7::VL::S9::Ta::o7::o8::Tb::o7::VM::Tc::Td::o7::o8::Tf::o7::VN::Tg::Th::o7::o20::VO::o7::VP::VQ::VR::o7::o8::Ti::o7::VS::Tj::Tn::o7::o8::To::o7::VT::Tp::Tq::o7::o8::Tr::o7::VU::Ts::Tt::o7::o8::Tu::o7::VV::Tv::Tw::o7::o8::Tx::o7::VW::Tz::TB::o7::o8::TC::o7::VX::TH::TJ::o7::o8::TK::o7::VY::TL::TM::o7::o8::TN::o7::VZ::TQ::TR::o7::o8::TU::o7::V0::TV::TX::o7::o8::TY::o7::V1::TZ::T1::T3::T4::T5::T6::T7::V2::V3::o7::o20::V4::o7::V5::V6::V7::o7::o8::T8::o7::V8::T9::Ua::o7::o8::Ub::o7::V9::Uc::Ud::o7::o8::Ue::o7::Wa::Ug::Uh::o7::o8::Ui::o7::Wb::Uj::Uk::o7::o8::Ul::o7::Wc::Um::Uo::o7::o8::Up::o7::We::Uq::Ur::o7::o8::Us::o7::Wf::Ut::Uu::Uv::Uw::Ux::Uy::Uz::Wg::Wh::o7::o8::UA::o7::Wi::UB::UC::o7::o20::YL::o7::YM::YN::YO::o7::o8::Wj::o7::YQ::Wl::Wm::o7::o8::Wn::o7::YR::Wo::Wq::o7::o8::Wr::o7::YS::Ws::Wu::o7::o8::Wv::o7::YT::Ww::Wx::o7::o8::YU::Wy::Wz::WA::WB::WC::WD::WE::YV::YW::o7::o20::YX::o7::YY::YZ::Y0::o7::o8::WG::o7::Y1::WH::WI::o7::o8::WJ::o7::Y2::WK::WL::o7::o8::WM::o7::Y3::WN::WO::o7::o8::WQ::o7::Y4::WR::WS::o7::o8::WT::o7::Y5::WU::WW::o7::o8::WX::o7::Y6::WY::WZ::o7::o8::W0::o7::Y7::W2::W3::o7::o8::W5::o7::Y8::W6::Xa::o7::o8::Xb::o7::Y9::Xc::Xd::o7::o8::Xe::o7::Za::Xf::Xg::o7::o8::Zb::Xh::Xi::o7::o8::Xj::o7::Zc::Xk::Xl::o7::o8::Xm::o7::Zd::Xn::Xo::o7::o8::Xp::o7::Ze::Xq::Xr::o7::o8::Xs::o7::Zf::Xu::Xv::o7::o8::Zg::Xw::Xx::o7::o8::Zh::Xy::Xz::XA::XB::Zm::XC::XD::Zi::Zj::o7::o8::XE::o7::Zk::XF::XG::Zn::o20::acd::o7::ace::acf::acg::o7::o8::Zo::o7::ach::Zp::Zq::o7::o8::Zr::o7::aci::Zs::Zt::o7::o8::Zu::o7::acj::Zv::Zw::o7::o8::Zx::o7::ack::Zy::Zz::o7::o8::ZA::o7::acm::ZC::ZD::o7::o8::ZE::o7::acn::ZF::ZG::o7::o8::ZH::o7::aco::ZI::ZJ::o7::o8::ZK::o7::acp::ZL::ZM::o7::o8::ZN::o7::acq::ZO::ZP::o7::o8::ZQ::o7::acr::ZR::ZS::o7::o8::ZT::o7::acs::ZU::ZV::o7::o8::ZW::o7::acu::ZX::ZY::o7::o8::ZZ::o7::acv::Z0::Z1::o7::o8::Z2::o7::acw::Z3::Z4::o7::o8::Z5::o7::acx::Z6::Z7::o7::o8::Z8::o7::acy::Z9::aaa::o7::o8::aab::o7::acz::aac::aad::o7::o8::aae::o7::acA::aaf::aag::o7::o8::aah::o7::acB::aai::aaj::o7::o8::aak::o7::acC::aal::aam::o7::o8::aan::o7::acD::aao::aap::o7::o8::aaq::o7::acE::aar::aas::o7::o8::aat::o7::acF::aau::aav::aaw::aax::aay::acG::acH::o7::o8::aaz::o7::acI::aaA::aaB::o7::o8::aaC::o7::acJ::aaD::aaE::o7::o8::aaF::o7::acK::aaG::aaH::o7::o8::aaI::o7::acL::aaJ::aaK::o7::o8::acM::aaL::aaM::o7::o8::aaN::o7::acN::aaO::aaP::o7::o8::acO::aaQ::aaR::o7::o8::aaS::o7::acP::aaT::aaU::o7::o8::acQ::aaV::aaW::o7::o8::aaX::o7::acR::aaY::aaZ::o7::o8::aa0::o7::acS::aa1::aa2::[])
noncomputable def hSf (w:World) (os:OsState):SharedT:=⟨hTf w.params,862,⟨[],[],[],0,[],[],false,(List.toArray []),[],0,false,false,false,0,[2000,10,10],false,0,true,[],[],0,false⟩,#[],⟨0,0,0,0⟩,1269,os⟩
def QY:Env:={scope:=(PySem.Challenge.pw_stillheap_k12_rooms).main.scope,locals:=mainNs,globals:=mainNs,cells:=[],code:=(.ref 13),frame:=some 14}
def hG0:List Stmt:=[top 0,top 1,top 2,top 3,top 4,top 5,top 6,top 7,top 8,top 9]
def hG1:List Stmt:=[top 10,top 11,top 12,top 13,top 14,top 15,top 16,top 17,top 18,top 19,top 20,top 21,top 22,top 23,top 24,top 25,top 26,top 27,top 28,top 29,top 30,top 31,top 32,top 33,top 34,top 35]
def hG2:List Stmt:=[top 36,top 37,top 38,top 39,top 40]
def hG3:List Stmt:=[top 41,top 42,top 43,top 44,top 45,top 46,top 47,top 48,top 49,top 50,top 51,top 52,top 53]
def hB:List Stmt:=hG0++(hG1++(hG2++(hG3++[])))
def hC:Code:=.body hB QY
abbrev hF:List Frame:=[topFrame ⟨0,0,0,0⟩]
theorem ad3 (w:World) (os:OsState):topGo treeTable PySem.Challenge.pw_stillheap_k12_rooms w 11 (.some (.ref 6)) 12 ⟨boot_heap w.params,#[],boot_drawn,boot_toks,os⟩ (topStub PySem.Challenge.pw_stillheap_k12_rooms)=some ((hSa w os).abs,⟨denote treeTable hC,hC,⟨0,0,0,0⟩,hF⟩):=by kernel_rfl
theorem ad4 (w:World) (os:OsState):segRun treeTable PySem.Challenge.pw_stillheap_k12_rooms w 11 (.some (.ref 6)) 1 1 (hSa w os).abs (blockOf hB QY hC ⟨0,0,0,0⟩ hF)=some (.next,(hSb w os).abs,hC,⟨0,0,0,0⟩):=by kernel_rfl
theorem hR0 (w:World) (os:OsState):segRunT treeTable PySem.Challenge.pw_stillheap_k12_rooms w 11 (.some (.ref 6)) 1 1988 (hSb w os) (piecesOf hG0 QY hC ⟨0,0,0,0⟩ hF)=some (.next,hS0 w os,hC,⟨36,0,39,24⟩):=by kernel_rfl
theorem hR1 (w:World) (os:OsState):segRunT treeTable PySem.Challenge.pw_stillheap_k12_rooms w 11 (.some (.ref 6)) 1 1818 (hS0 w os) (piecesOf hG1 QY hC ⟨36,0,39,24⟩ hF)=some (.next,hS1 w os,hC,⟨170,0,170,8⟩):=by kernel_rfl
theorem hR2 (w:World) (os:OsState):segRunT treeTable PySem.Challenge.pw_stillheap_k12_rooms w 11 (.some (.ref 6)) 1 1140 (hS1 w os) (piecesOf hG2 QY hC ⟨170,0,170,8⟩ hF)=some (.next,hS2 w os,hC,⟨284,0,284,8⟩):=by kernel_rfl
theorem hR3 (w:World) (os:OsState):segRunT treeTable PySem.Challenge.pw_stillheap_k12_rooms w 11 (.some (.ref 6)) 1 1299 (hS2 w os) (piecesOf hG3 QY hC ⟨284,0,284,8⟩ hF)=some (.next,hS3 w os,hC,⟨473,0,487,15⟩):=by kernel_rfl
theorem ad5 (w:World) (os:OsState):topRun treeTable PySem.Challenge.pw_stillheap_k12_rooms w 11 (.some (.ref 6)) 2 (hS3 w os).abs ⟨doneF .next,hC,⟨473,0,487,15⟩,hF⟩=some (hSf w os).abs:=by kernel_rfl
theorem ad6 (w:World) (os:OsState):topRun treeTable PySem.Challenge.pw_stillheap_k12_rooms w 11 (.some (.ref 6)) (12+(1+(1988+(1818+(1140+(1299+2)))))) ⟨boot_heap w.params,#[],boot_drawn,boot_toks,os⟩ (topStub PySem.Challenge.pw_stillheap_k12_rooms)=some (hSf w os).abs:=go_top (ad3 w os) (piece_block (ad4 w os) (piece_app (segRun_of (hR0 w os)) (piece_app (segRun_of (hR1 w os)) (piece_app (segRun_of (hR2 w os)) (piece_app (segRun_of (hR3 w os)) (ad5 w os))))))
noncomputable def hK (P:Params):Frag:=(nat_lit 2,o2 P)::(nat_lit 3,Zl P)::(nat_lit 15,o7 P)::(nat_lit 17,o15 P)::(nat_lit 18,o7 P)::(nat_lit 20,o17 P)::(nat_lit 21,o18 P)::(nat_lit 22,o19 P)::(nat_lit 29,o7 P)::(nat_lit 31,o25 P)::(nat_lit 32,o7 P)::(nat_lit 34,o27 P)::(nat_lit 35,o28 P)::(nat_lit 36,o7 P)::(nat_lit 38,o29 P)::(nat_lit 39,o7 P)::(nat_lit 41,o31 P)::(nat_lit 42,o32 P)::(nat_lit 43,o7 P)::(nat_lit 44,o33 P)::(nat_lit 45,Su P)::(nat_lit 46,o35 P)::(nat_lit 49,o38 P)::(nat_lit 56,o7 P)::(nat_lit 58,o43 P)::(nat_lit 59,o7 P)::(nat_lit 61,o45 P)::(nat_lit 62,o46 P)::(nat_lit 63,o7 P)::(nat_lit 64,o47 P)::(nat_lit 65,o48 P)::(nat_lit 68,o38 P)::(nat_lit 75,o7 P)::(nat_lit 77,o55 P)::(nat_lit 78,o7 P)::(nat_lit 80,o57 P)::(nat_lit 81,o58 P)::(nat_lit 82,o7 P)::(nat_lit 83,o59 P)::(nat_lit 84,o60 P)::(nat_lit 87,o38 P)::(nat_lit 94,o7 P)::(nat_lit 96,o67 P)::(nat_lit 97,o7 P)::(nat_lit 99,o69 P)::(nat_lit 100,o70 P)::(nat_lit 101,o7 P)::(nat_lit 102,o71 P)::(nat_lit 103,o72 P)::(nat_lit 106,o38 P)::(nat_lit 113,o7 P)::(nat_lit 115,o79 P)::(nat_lit 116,o7 P)::(nat_lit 118,o81 P)::(nat_lit 119,o82 P)::(nat_lit 120,o7 P)::(nat_lit 121,o83 P)::(nat_lit 122,o84 P)::(nat_lit 125,o38 P)::(nat_lit 132,o7 P)::(nat_lit 134,o91 P)::(nat_lit 135,o7 P)::(nat_lit 137,o93 P)::(nat_lit 138,o94 P)::(nat_lit 139,o7 P)::(nat_lit 140,o95 P)::(nat_lit 141,o96 P)::(nat_lit 144,o38 P)::(nat_lit 151,o7 P)::(nat_lit 153,QO P)::(nat_lit 154,o7 P)::(nat_lit 156,QP P)::(nat_lit 157,QQ P)::(nat_lit 158,o7 P)::(nat_lit 159,QR P)::(nat_lit 160,QS P)::(nat_lit 163,o38 P)::(nat_lit 170,o7 P)::(nat_lit 172,QT P)::(nat_lit 173,o7 P)::(nat_lit 175,QU P)::(nat_lit 176,QV P)::(nat_lit 177,o7 P)::(nat_lit 178,QW P)::(nat_lit 179,QX P)::(nat_lit 182,o38 P)::(nat_lit 189,o7 P)::(nat_lit 191,Sv P)::(nat_lit 192,o7 P)::(nat_lit 194,Sw P)::(nat_lit 195,Sx P)::(nat_lit 196,o7 P)::(nat_lit 197,Sy P)::(nat_lit 198,Sz P)::(nat_lit 201,o38 P)::(nat_lit 208,o7 P)::(nat_lit 210,SA P)::(nat_lit 211,o7 P)::(nat_lit 213,SD P)::(nat_lit 214,SE P)::(nat_lit 215,o7 P)::(nat_lit 216,SF P)::(nat_lit 217,SG P)::(nat_lit 220,o7 P)::(nat_lit 222,SH P)::(nat_lit 223,o7 P)::(nat_lit 225,SI P)::(nat_lit 226,SJ P)::(nat_lit 227,o7 P)::(nat_lit 229,SK P)::(nat_lit 230,o7 P)::(nat_lit 232,SM P)::(nat_lit 233,SN P)::(nat_lit 234,o7 P)::(nat_lit 236,SO P)::(nat_lit 237,o7 P)::(nat_lit 239,SQ P)::(nat_lit 240,SR P)::(nat_lit 241,o7 P)::(nat_lit 243,SS P)::(nat_lit 244,o7 P)::(nat_lit 246,SU P)::(nat_lit 247,SV P)::(nat_lit 248,o7 P)::(nat_lit 250,SW P)::(nat_lit 251,o7 P)::(nat_lit 253,SX P)::(nat_lit 254,SY P)::(nat_lit 255,o7 P)::(nat_lit 257,S5 P)::(nat_lit 258,o7 P)::(nat_lit 260,S6 P)::(nat_lit 261,S7 P)::(nat_lit 262,o7 P)::(nat_lit 264,S8 P)::(nat_lit 265,o7 P)::(nat_lit 267,S9 P)::(nat_lit 268,Ta P)::(nat_lit 269,o7 P)::(nat_lit 271,Tb P)::(nat_lit 272,o7 P)::(nat_lit 274,Tc P)::(nat_lit 275,Td P)::(nat_lit 276,o7 P)::(nat_lit 278,Tf P)::(nat_lit 279,o7 P)::(nat_lit 281,Tg P)::(nat_lit 282,Th P)::(nat_lit 290,o7 P)::(nat_lit 292,Ti P)::(nat_lit 293,o7 P)::(nat_lit 295,Tj P)::(nat_lit 296,Tn P)::(nat_lit 297,o7 P)::(nat_lit 299,To P)::(nat_lit 300,o7 P)::(nat_lit 302,Tp P)::(nat_lit 303,Tq P)::(nat_lit 304,o7 P)::(nat_lit 306,Tr P)::(nat_lit 307,o7 P)::(nat_lit 309,Ts P)::(nat_lit 310,Tt P)::(nat_lit 311,o7 P)::(nat_lit 313,Tu P)::(nat_lit 314,o7 P)::(nat_lit 316,Tv P)::(nat_lit 317,Tw P)::(nat_lit 318,o7 P)::(nat_lit 320,Tx P)::(nat_lit 321,o7 P)::(nat_lit 323,Tz P)::(nat_lit 324,TB P)::(nat_lit 325,o7 P)::(nat_lit 327,TC P)::(nat_lit 328,o7 P)::(nat_lit 330,TH P)::(nat_lit 331,TJ P)::(nat_lit 332,o7 P)::(nat_lit 334,TK P)::(nat_lit 335,o7 P)::(nat_lit 337,TL P)::(nat_lit 338,TM P)::(nat_lit 339,o7 P)::(nat_lit 341,TN P)::(nat_lit 342,o7 P)::(nat_lit 344,TQ P)::(nat_lit 345,TR P)::(nat_lit 346,o7 P)::(nat_lit 348,TU P)::(nat_lit 349,o7 P)::(nat_lit 351,TV P)::(nat_lit 352,TX P)::(nat_lit 353,o7 P)::(nat_lit 355,TY P)::(nat_lit 356,o7 P)::(nat_lit 358,TZ P)::(nat_lit 359,T1 P)::(nat_lit 360,T3 P)::(nat_lit 361,T4 P)::(nat_lit 362,T5 P)::(nat_lit 363,T6 P)::(nat_lit 364,T7 P)::(nat_lit 374,o7 P)::(nat_lit 376,T8 P)::(nat_lit 377,o7 P)::(nat_lit 379,T9 P)::(nat_lit 380,Ua P)::(nat_lit 381,o7 P)::(nat_lit 383,Ub P)::(nat_lit 384,o7 P)::(nat_lit 386,Uc P)::(nat_lit 387,Ud P)::(nat_lit 388,o7 P)::(nat_lit 390,Ue P)::(nat_lit 391,o7 P)::(nat_lit 393,Ug P)::(nat_lit 394,Uh P)::(nat_lit 395,o7 P)::(nat_lit 397,Ui P)::(nat_lit 398,o7 P)::(nat_lit 400,Uj P)::(nat_lit 401,Uk P)::(nat_lit 402,o7 P)::(nat_lit 404,Ul P)::(nat_lit 405,o7 P)::(nat_lit 407,Um P)::(nat_lit 408,Uo P)::(nat_lit 409,o7 P)::(nat_lit 411,Up P)::(nat_lit 412,o7 P)::(nat_lit 414,Uq P)::(nat_lit 415,Ur P)::(nat_lit 416,o7 P)::(nat_lit 418,Us P)::(nat_lit 419,o7 P)::(nat_lit 421,Ut P)::(nat_lit 422,Uu P)::(nat_lit 423,Uv P)::(nat_lit 424,Uw P)::(nat_lit 425,Ux P)::(nat_lit 426,Uy P)::(nat_lit 427,Uz P)::(nat_lit 430,o7 P)::(nat_lit 432,UA P)::(nat_lit 433,o7 P)::(nat_lit 435,UB P)::(nat_lit 436,UC P)::(nat_lit 444,o7 P)::(nat_lit 446,Wj P)::(nat_lit 447,o7 P)::(nat_lit 449,Wl P)::(nat_lit 450,Wm P)::(nat_lit 451,o7 P)::(nat_lit 453,Wn P)::(nat_lit 454,o7 P)::(nat_lit 456,Wo P)::(nat_lit 457,Wq P)::(nat_lit 458,o7 P)::(nat_lit 460,Wr P)::(nat_lit 461,o7 P)::(nat_lit 463,Ws P)::(nat_lit 464,Wu P)::(nat_lit 465,o7 P)::(nat_lit 467,Wv P)::(nat_lit 468,o7 P)::(nat_lit 470,Ww P)::(nat_lit 471,Wx P)::(nat_lit 472,o7 P)::(nat_lit 475,Wy P)::(nat_lit 476,Wz P)::(nat_lit 477,WA P)::(nat_lit 478,WB P)::(nat_lit 479,WC P)::(nat_lit 480,WD P)::(nat_lit 481,WE P)::(nat_lit 491,o7 P)::(nat_lit 493,WG P)::(nat_lit 494,o7 P)::(nat_lit 496,WH P)::(nat_lit 497,WI P)::(nat_lit 498,o7 P)::(nat_lit 500,WJ P)::(nat_lit 501,o7 P)::(nat_lit 503,WK P)::(nat_lit 504,WL P)::(nat_lit 505,o7 P)::(nat_lit 507,WM P)::(nat_lit 508,o7 P)::(nat_lit 510,WN P)::(nat_lit 511,WO P)::(nat_lit 512,o7 P)::(nat_lit 514,WQ P)::(nat_lit 515,o7 P)::(nat_lit 517,WR P)::(nat_lit 518,WS P)::(nat_lit 519,o7 P)::(nat_lit 521,WT P)::(nat_lit 522,o7 P)::(nat_lit 524,WU P)::(nat_lit 525,WW P)::(nat_lit 526,o7 P)::(nat_lit 528,WX P)::(nat_lit 529,o7 P)::(nat_lit 531,WY P)::(nat_lit 532,WZ P)::(nat_lit 533,o7 P)::(nat_lit 535,W0 P)::(nat_lit 536,o7 P)::(nat_lit 538,W2 P)::(nat_lit 539,W3 P)::(nat_lit 540,o7 P)::(nat_lit 542,W5 P)::(nat_lit 543,o7 P)::(nat_lit 545,W6 P)::(nat_lit 546,Xa P)::(nat_lit 547,o7 P)::(nat_lit 549,Xb P)::(nat_lit 550,o7 P)::(nat_lit 552,Xc P)::(nat_lit 553,Xd P)::(nat_lit 554,o7 P)::(nat_lit 556,Xe P)::(nat_lit 557,o7 P)::(nat_lit 559,Xf P)::(nat_lit 560,Xg P)::(nat_lit 561,o7 P)::(nat_lit 564,Xh P)::(nat_lit 565,Xi P)::(nat_lit 566,o7 P)::(nat_lit 568,Xj P)::(nat_lit 569,o7 P)::(nat_lit 571,Xk P)::(nat_lit 572,Xl P)::(nat_lit 573,o7 P)::(nat_lit 575,Xm P)::(nat_lit 576,o7 P)::(nat_lit 578,Xn P)::(nat_lit 579,Xo P)::(nat_lit 580,o7 P)::(nat_lit 582,Xp P)::(nat_lit 583,o7 P)::(nat_lit 585,Xq P)::(nat_lit 586,Xr P)::(nat_lit 587,o7 P)::(nat_lit 589,Xs P)::(nat_lit 590,o7 P)::(nat_lit 592,Xu P)::(nat_lit 593,Xv P)::(nat_lit 594,o7 P)::(nat_lit 597,Xw P)::(nat_lit 598,Xx P)::(nat_lit 599,o7 P)::(nat_lit 602,Xy P)::(nat_lit 603,Xz P)::(nat_lit 604,XA P)::(nat_lit 605,XB P)::(nat_lit 606,Zm P)::(nat_lit 607,XC P)::(nat_lit 608,XD P)::(nat_lit 611,o7 P)::(nat_lit 613,XE P)::(nat_lit 614,o7 P)::(nat_lit 616,XF P)::(nat_lit 617,XG P)::(nat_lit 618,Zn P)::(nat_lit 625,o7 P)::(nat_lit 627,Zo P)::(nat_lit 628,o7 P)::(nat_lit 630,Zp P)::(nat_lit 631,Zq P)::(nat_lit 632,o7 P)::(nat_lit 634,Zr P)::(nat_lit 635,o7 P)::(nat_lit 637,Zs P)::(nat_lit 638,Zt P)::(nat_lit 639,o7 P)::(nat_lit 641,Zu P)::(nat_lit 642,o7 P)::(nat_lit 644,Zv P)::(nat_lit 645,Zw P)::(nat_lit 646,o7 P)::(nat_lit 648,Zx P)::(nat_lit 649,o7 P)::(nat_lit 651,Zy P)::(nat_lit 652,Zz P)::(nat_lit 653,o7 P)::(nat_lit 655,ZA P)::(nat_lit 656,o7 P)::(nat_lit 658,ZC P)::(nat_lit 659,ZD P)::(nat_lit 660,o7 P)::(nat_lit 662,ZE P)::(nat_lit 663,o7 P)::(nat_lit 665,ZF P)::(nat_lit 666,ZG P)::(nat_lit 667,o7 P)::(nat_lit 669,ZH P)::(nat_lit 670,o7 P)::(nat_lit 672,ZI P)::(nat_lit 673,ZJ P)::(nat_lit 674,o7 P)::(nat_lit 676,ZK P)::(nat_lit 677,o7 P)::(nat_lit 679,ZL P)::(nat_lit 680,ZM P)::(nat_lit 681,o7 P)::(nat_lit 683,ZN P)::(nat_lit 684,o7 P)::(nat_lit 686,ZO P)::(nat_lit 687,ZP P)::(nat_lit 688,o7 P)::(nat_lit 690,ZQ P)::(nat_lit 691,o7 P)::(nat_lit 693,ZR P)::(nat_lit 694,ZS P)::(nat_lit 695,o7 P)::(nat_lit 697,ZT P)::(nat_lit 698,o7 P)::(nat_lit 700,ZU P)::(nat_lit 701,ZV P)::(nat_lit 702,o7 P)::(nat_lit 704,ZW P)::(nat_lit 705,o7 P)::(nat_lit 707,ZX P)::(nat_lit 708,ZY P)::(nat_lit 709,o7 P)::(nat_lit 711,ZZ P)::(nat_lit 712,o7 P)::(nat_lit 714,Z0 P)::(nat_lit 715,Z1 P)::(nat_lit 716,o7 P)::(nat_lit 718,Z2 P)::(nat_lit 719,o7 P)::(nat_lit 721,Z3 P)::(nat_lit 722,Z4 P)::(nat_lit 723,o7 P)::(nat_lit 725,Z5 P)::(nat_lit 726,o7 P)::(nat_lit 728,Z6 P)::(nat_lit 729,Z7 P)::(nat_lit 730,o7 P)::(nat_lit 732,Z8 P)::(nat_lit 733,o7 P)::(nat_lit 735,Z9 P)::(nat_lit 736,aaa P)::(nat_lit 737,o7 P)::(nat_lit 739,aab P)::(nat_lit 740,o7 P)::(nat_lit 742,aac P)::(nat_lit 743,aad P)::(nat_lit 744,o7 P)::(nat_lit 746,aae P)::(nat_lit 747,o7 P)::(nat_lit 749,aaf P)::(nat_lit 750,aag P)::(nat_lit 751,o7 P)::(nat_lit 753,aah P)::(nat_lit 754,o7 P)::(nat_lit 756,aai P)::(nat_lit 757,aaj P)::(nat_lit 758,o7 P)::(nat_lit 760,aak P)::(nat_lit 761,o7 P)::(nat_lit 763,aal P)::(nat_lit 764,aam P)::(nat_lit 765,o7 P)::(nat_lit 767,aan P)::(nat_lit 768,o7 P)::(nat_lit 770,aao P)::(nat_lit 771,aap P)::(nat_lit 772,o7 P)::(nat_lit 774,aaq P)::(nat_lit 775,o7 P)::(nat_lit 777,aar P)::(nat_lit 778,aas P)::(nat_lit 779,o7 P)::(nat_lit 781,aat P)::(nat_lit 782,o7 P)::(nat_lit 784,aau P)::(nat_lit 785,aav P)::(nat_lit 786,aaw P)::(nat_lit 787,aax P)::(nat_lit 788,aay P)::(nat_lit 791,o7 P)::(nat_lit 793,aaz P)::(nat_lit 794,o7 P)::(nat_lit 796,aaA P)::(nat_lit 797,aaB P)::(nat_lit 798,o7 P)::(nat_lit 800,aaC P)::(nat_lit 801,o7 P)::(nat_lit 803,aaD P)::(nat_lit 804,aaE P)::(nat_lit 805,o7 P)::(nat_lit 807,aaF P)::(nat_lit 808,o7 P)::(nat_lit 810,aaG P)::(nat_lit 811,aaH P)::(nat_lit 812,o7 P)::(nat_lit 814,aaI P)::(nat_lit 815,o7 P)::(nat_lit 817,aaJ P)::(nat_lit 818,aaK P)::(nat_lit 819,o7 P)::(nat_lit 822,aaL P)::(nat_lit 823,aaM P)::(nat_lit 824,o7 P)::(nat_lit 826,aaN P)::(nat_lit 827,o7 P)::(nat_lit 829,aaO P)::(nat_lit 830,aaP P)::(nat_lit 831,o7 P)::(nat_lit 834,aaQ P)::(nat_lit 835,aaR P)::(nat_lit 836,o7 P)::(nat_lit 838,aaS P)::(nat_lit 839,o7 P)::(nat_lit 841,aaT P)::(nat_lit 842,aaU P)::(nat_lit 843,o7 P)::(nat_lit 846,aaV P)::(nat_lit 847,aaW P)::(nat_lit 848,o7 P)::(nat_lit 850,aaX P)::(nat_lit 851,o7 P)::(nat_lit 853,aaY P)::(nat_lit 854,aaZ P)::(nat_lit 855,o7 P)::(nat_lit 857,aa0 P)::(nat_lit 858,o7 P)::(nat_lit 860,aa1 P)::(nat_lit 861,aa2 P)::[]
def hAs:List Addr:=[2,3,15,17,18,20,21,22,29,31,32,34,35,36,38,39,41,42,43,44,45,46,49,56,58,59,61,62,63,64,65,68,75,77,78,80,81,82,83,84,87,94,96,97,99,100,101,102,103,106,113,115,116,118,119,120,121,122,125,132,134,135,137,138,139,140,141,144,151,153,154,156,157,158,159,160,163,170,172,173,175,176,177,178,179,182,189,191,192,194,195,196,197,198,201,208,210,211,213,214,215,216,217,220,222,223,225,226,227,229,230,232,233,234,236,237,239,240,241,243,244,246,247,248,250,251,253,254,255,257,258,260,261,262,264,265,267,268,269,271,272,274,275,276,278,279,281,282,290,292,293,295,296,297,299,300,302,303,304,306,307,309,310,311,313,314,316,317,318,320,321,323,324,325,327,328,330,331,332,334,335,337,338,339,341,342,344,345,346,348,349,351,352,353,355,356,358,359,360,361,362,363,364,374,376,377,379,380,381,383,384,386,387,388,390,391,393,394,395,397,398,400,401,402,404,405,407,408,409,411,412,414,415,416,418,419,421,422,423,424,425,426,427,430,432,433,435,436,444,446,447,449,450,451,453,454,456,457,458,460,461,463,464,465,467,468,470,471,472,475,476,477,478,479,480,481,491,493,494,496,497,498,500,501,503,504,505,507,508,510,511,512,514,515,517,518,519,521,522,524,525,526,528,529,531,532,533,535,536,538,539,540,542,543,545,546,547,549,550,552,553,554,556,557,559,560,561,564,565,566,568,569,571,572,573,575,576,578,579,580,582,583,585,586,587,589,590,592,593,594,597,598,599,602,603,604,605,606,607,608,611,613,614,616,617,618,625,627,628,630,631,632,634,635,637,638,639,641,642,644,645,646,648,649,651,652,653,655,656,658,659,660,662,663,665,666,667,669,670,672,673,674,676,677,679,680,681,683,684,686,687,688,690,691,693,694,695,697,698,700,701,702,704,705,707,708,709,711,712,714,715,716,718,719,721,722,723,725,726,728,729,730,732,733,735,736,737,739,740,742,743,744,746,747,749,750,751,753,754,756,757,758,760,761,763,764,765,767,768,770,771,772,774,775,777,778,779,781,782,784,785,786,787,788,791,793,794,796,797,798,800,801,803,804,805,807,808,810,811,812,814,815,817,818,819,822,823,824,826,827,829,830,831,834,835,836,838,839,841,842,843,846,847,848,850,851,853,854,855,857,858,860,861]
theorem tS (P:Params):hAs=(hK P).map (·.1):=rfl
def hQ:Program:={PySem.Challenge.pw_stillheap_k12_rooms with main:={(PySem.Challenge.pw_stillheap_k12_rooms).main with body:=[top 0,top 2,top 3,top 4,top 5,top 6,top 7,top 8,top 9,top 10,top 11,top 13,top 14,top 15,top 16,top 17,top 18,top 19,top 20,top 21,top 22,top 23,top 24,top 25,top 26,top 27,top 29,top 31,top 32,top 34,top 36,top 38,top 39,top 41,top 43,top 44,top 45,top 46,top 47,top 48,top 49,top 50,top 51,top 52,top 53]}}
def hLo:List Str:=[]
theorem abS (w:World):(fencedOpening treeTable PySem.Challenge.pw_stillheap_k12_rooms w 12608).map (fun s=>(s.heap,s.gens,s.drawn,s.toks))=some (boot_heap w.params,#[],boot_drawn,boot_toks):=by kernel_rfl
theorem abT (w:World):((boot_heap w.params).isNs mainGlobals&&(#[]:Array GenState).size == 0,(boot_heap w.params).objs.size,(boot_heap w.params).nsMap mainGlobals "__annotations__")=(true,11,((.some (.ref 6)):Option Value)):=by kernel_rfl
abbrev hXt (s:Shared):Bool:=xlAt hQ [] s&&recOk (RowW.records (OpenRow.toRowW (OpenLaw.row PySem.Challenge.rw_stillheap_k12_rooms))) s
theorem Yv (w:World):(fun os:OsState=>((staticsOk (importedModules (PySem.Challenge.pw_stillheap_k12_rooms).main.body) (boot_heap w.params) (absHeap (hTf w.params) 862 ⟨[],[],[],0,[],[],false,(List.toArray []),[],0,false,false,false,0,[2000,10,10],false,0,true,[],[],0,false⟩)&&namesBound PySem.Challenge.pw_stillheap_k12_rooms (absHeap (hTf w.params) 862 ⟨[],[],[],0,[],[],false,(List.toArray []),[],0,false,false,false,0,[2000,10,10],false,0,true,[],[],0,false⟩)&&gensDone ⟨absHeap (hTf w.params) 862 ⟨[],[],[],0,[],[],false,(List.toArray []),[],0,false,false,false,0,[2000,10,10],false,0,true,[],[],0,false⟩,#[],⟨0,0,0,0⟩,1269,os⟩&&laidKept (boot_heap w.params) (absHeap (hTf w.params) 862 ⟨[],[],[],0,[],[],false,(List.toArray []),[],0,false,false,false,0,[2000,10,10],false,0,true,[],[],0,false⟩)),
  openSeen hQ hLo (importedModules (PySem.Challenge.pw_stillheap_k12_rooms).main.body) hXt true ⟨absHeap (hTf w.params) 862 ⟨[],[],[],0,[],[],false,(List.toArray []),[],0,false,false,false,0,[2000,10,10],false,0,true,[],[],0,false⟩,#[],⟨0,0,0,0⟩,1269,os⟩,Hook.obs (kHook hK hAs tS) ⟨absHeap (hTf w.params) 862 ⟨[],[],[],0,[],[],false,(List.toArray []),[],0,false,false,false,0,[2000,10,10],false,0,true,[],[],0,false⟩,#[],⟨0,0,0,0⟩,1269,os⟩))=fun _=>(true,openGood hQ hLo,Hook.val (kHook hK hAs tS) w):=by kernel_rfl
theorem abU:LeftO PySem.Challenge.pw_stillheap_k12_rooms hQ hLo hXt (Hook.obs (kHook hK hAs tS)) (Hook.val (kHook hK hAs tS)) 12608 :=
 LeftO.of_pieces (H₁:=fun P=>absHeap (hTf P) 862 ⟨[],[],[],0,[],[],false,(List.toArray []),[],0,false,false,false,0,[2000,10,10],false,0,true,[],[],0,false⟩) abS abT ad6 (by rfl) Yv
end
end K12
end
section
open PySem PySem.W PyProof.Rows
set_option maxRecDepth 100000 in
set_option maxHeartbeats 0 in
theorem PySem.Challenge.cw_stillheap_k12_rooms_holds : PySem.Challenge.rw_stillheap_k12_rooms.Holds := by
 w_on;o_law
 refine holds_open (q:=K12.hQ) (loose:=K12.hLo) (Xt:=fun s=>xlAt K12.hQ [] s&&recOk (RowW.records (OpenRow.toRowW (OpenLaw.row PySem.Challenge.rw_stillheap_k12_rooms))) s)
  (XP:=XL K12.hQ []) (Yf:=Hook.obs (kHook K12.hK K12.hAs K12.tS)) (Ya:=Hook.val (kHook K12.hK K12.hAs K12.tS)) (YP:=Hook.says (kHook K12.hK K12.hAs K12.tS)) (N:=12608)
  ?hl (Hook.of (kHook K12.hK K12.hAs K12.tS)) (Hook.keeps (kHook K12.hK K12.hAs K12.tS))
  (fun s e=>xl_of s (Bool.and_eq_true_iff.mp e).1) XL.keeps (by rfl) (by rfl) (by rfl)
  (fun s e=>recFacts_of (Bool.and_eq_true_iff.mp e).2) (by rfl) (by first|assumption|decide +kernel)
  (by decide +kernel) ⟨rfl,rfl,rfl,rfl,rfl,by decide +kernel⟩ ?hw ?hc
 (case hl=>exact K12.abU)
 (case hw=>w_witness2)
 k_fill
 refine K12.walk (l:=PySem.Challenge.rw_stillheap_k12_rooms) rfl rfl (fun w h Y=>PySem.W.kIn_of Y) ?F
 case F =>
  intro w mg fa h KX G hmg
  refine' K12.all_mk KX G hmg ?_ ?_ ?_ ?_ ?_ ?_ ?_ ?_ ?_ ?_ ?_ ?_ ?_ ?_ ?_ ?_ ?_ ?_ ?_ ?_ ?_ ?_ ?_ ?_ ?_ ?_ ?_ ?_ ?_ ?_ ?_ ?_ ?_ ?_ ?_ ?_ ?_ ?_ ?_ ?_ ?_ ?_ ?_ ?_ ?_ ?_ ?_ ?_ ?_ ?_ ?_ ?_ ?_ ?_ ?_ ?_ ?_ ?_ ?_ ?_ ?_ ?_ ?_ ?_ ?_ ?_ ?_ ?_ ?_ ?_ ?_ ?_ ?_ ?_ ?_ ?_ ?_ ?_ ?_ ?_ ?_ ?_ ?_ ?_ ?_ ?_ ?_ ?_ ?_ ?_ ?_ ?_ ?_ ?_ ?_ ?_ ?_ ?_ ?_ ?_ ?_ ?_ ?_ ?_ ?_ ?_ ?_ ?_ ?_ ?_ ?_ ?_ ?_ ?_ ?_ ?_ ?_ ?_ ?_ ?_ ?_ ?_ ?_ ?_ ?_ ?_ ?_ ?_ ?_ ?_ ?_ ?_ ?_ ?_ ?_ ?_ ?_ ?_ ?_ ?_ ?_ ?_ ?_ ?_ ?_ ?_ ?_ ?_ ?_ ?_ ?_ ?_ ?_ ?_ ?_ ?_ ?_ ?_ ?_ ?_ ?_ ?_ ?_ ?_ ?_ ?_ ?_ ?_ ?_ ?_ ?_ ?_ ?_ ?_ ?_ ?_ ?_ ?_ ?_ ?_ ?_ ?_ ?_ ?_ ?_ ?_ ?_ ?_ ?_ ?_ ?_ ?_ ?_ ?_ ?_ ?_ ?_ ?_ ?_ ?_ ?_ ?_ ?_ ?_ ?_ ?_ ?_ ?_ ?_ ?_ ?_ ?_ ?_ ?_ ?_ ?_ ?_ ?_ ?_ ?_ ?_ ?_ ?_ ?_ ?_ ?_ ?_ ?_ ?_ ?_ ?_ ?_ ?_ ?_ ?_ ?_ ?_ ?_ ?_ ?_ ?_ ?_ ?_ ?_ ?_ ?_ ?_ ?_ ?_ ?_ ?_ ?_ ?_ ?_ ?_ ?_ ?_ ?_ ?_ ?_ ?_ ?_ ?_
  all_goals first
   | k_is
   | (unfold K12.FI;k_is)
   | (unfold K12.NF;k_is)
   | (refine' K12.LK.mk ?la ?lb ?lc ?ld;(case la=>k_is);(case lb=>k_is);(case lc=>k_is);(case ld=>k_is))
   | kernel_rfl
   | (refine' K12.PK.mk ?_ ?_ ?_ ?_ ?_<;>k_is)
   | (refine' K12.EK.mk ?_ ?_ ?_ ?_ ?_ ?_ ?_ ?_<;>first|k_is|kernel_rfl)
   | skip
end
