import PyProof.Rows.All
import Wide.All
import OpenK.AllK
import Wide.FinOn
import PyProof.EqAt
import PyProof.EqKinds
import PyProof.TupleCall
import OpenK.KCls
import PyProof.ExcClass2
import PyProof.ExcBaseAll.ValueError
import PyProof.ExcArgs
import PyProof.Rows.Exc
import KE.KIsAll
import PyProof.StationsW
import PyProof.EnumFor
import PyProof.EnumStmt
import PyProof.EnumMake
import PyProof.NeKinds
import PyProof.Rows.SumAny
import KE.KDictSum
import PyProof.Rows.SortWalk
import PyProof.Rows.Range3
import PyProof.Rows.SetFrom
import KE.KEqDict
import PyProof.Rows.DictUnroll
import KE.KRevSl
import PyProof.AutoListH
import PyProof.AttrMiss
import KE.KRevIter
import PyProof.SeqI3
import Wide.Seal
import KE.KSortTup
import PySem.Challenge.RW_stillheap_k35_books
set_option Elab.async false
set_option linter.all false
set_option maxRecDepth 100000
set_option maxHeartbeats 4000000
set_option exponentiation.threshold 4000
section
open PySem PySem.W PySem.Spec PyProof.Rows
def C8:=@List.getElem?_eq_getElem
def C9:=@Heap.get?_push_of_some
def Dd:=@List.getElem?_eq_some_iff
def De:=@List.mem_singleton
def Df:=@Bool.false_ne_true
def Dh:=@Heap.lt_size
def Di:=@List.mem_append_right
def Dj:=@List.size_toArray
def Dk:=@Nat.le_refl
def Dl:=@List.length_map
def Dm:=@Nat.lt_of_lt_of_le
def Dn:=@List.length_append
def Dq:=@Nat.ne_of_lt
def Dr:=@List.mem_of_getElem?
def Ds:=@List.mem_cons
def Dt:=@List.mem_cons_of_mem
def Du:=@List.getElem?_set_ne
def Dv:=@Array.getElem?_eq_some_iff
def Dw:=@List.getElem?_map
def Dx:=@List.length_cons
def Dy:=@List.length_set
def Dz:=@List.mem_append
def DA:=@List.mem_cons_self
def DB:=@Heap.get?_push_size
def DC:=@List.getD_eq_getElem?_getD
def DD:=@List.length_take
def DE:=@PySem.mem_of_lookup
def DF:=@Heap.get?_update_other
def DG:=@Option.map_eq_some_iff
def DH:=@Ne.symm
def DI:=@List.getElem?_append_right
def DJ:=@List.getElem?_append_left
def DK:=@Nat.le_trans
def DL:=@List.getElem?_set_self
def DM:=@Bool.false_eq_true
def DN:=@List.map_cons
def DO:=@List.mem_append_left
def DP:=@Option.some.inj
def DQ:=@Nat.zero_le
def DR:=@List.map_append
def DS:=@Int.emod_lt_of_pos
def DT:=@List.replicate_succ
def DU:=@List.length_replicate
def DV:=@List.mem_filterMap
def DW:=@Bool.and_eq_true
def DX:=@Nat.lt_irrefl
def DY:=@PassesOwn.never
def DZ:=@Int.emod_nonneg
def D1:=@List.take_of_length_le
def D2:=@List.all_eq_true
def D3:=@List.length_singleton
def D4:=@Option.map_some
def D5:=@Nat.lt_succ_of_lt
def D6:=@List.getElem?_replicate
def D7:=@List.length_drop
def D8:=@Option.bind_some
def D9:=@List.not_mem_nil
def Ea:=@List.find?_cons
def Eb:=@List.flatten_cons
def Ec:=@Heap.size_push
def Ed:=@Bool.and_false
def Ee:=@List.getElem?_eq_none_iff
def Ef:=@Option.getD_some
def Eg:=@List.getElem_mem
def Eh:=@Array.length_toList
def Ei:=@Nat.ne_of_gt
def Ej:=@Bool.eq_iff_iff
def Ek:=@List.nodup_cons
def El:=@List.getElem?_drop
def Em:=@Nat.le_succ
def En:=@List.getElem?_set
def Eo:=@List.mem_range
def Ep:=@Nat.lt_succ_self
def Er:=@List.mem_of_mem_take
def Es:=@List.all_cons
def Et:=@List.any_cons
def Eu:=@Calls.Name_function_global
def Ew:=@Calls.spliced_cons
def Ex:=@List.mem_map
def Ey:=@Nat.sub_self
def Ez:=@List.getElem?_take
def EA:=@Bool.and_true
def EB:=@List.mem_nil_iff
def EC:=@Nat.le_of_lt
def ED:=@List.append_nil
def EE:=@List.of_mem_zip
def EF:=@Nat.lt_or_ge
end
section
namespace L2
open PySem PySem.Spec PyProof.Rows
abbrev Key:=Sum Int Str
def kf:Key→Value→Bool
  | .inl k,v=>Value.isInt k v
  | .inr x,v=>Value.isStrOf x v
def B6(w:World):Key→Int
  | .inl k=>hashInt k
  | .inr x=>hashStr w x
theorem bz:∀ {k:Key} {v:Value},kf k v=true→(∃ i t,k=Sum.inl i∧v=Value.int i t)∨(∃ x t,k=Sum.inr x∧v=Value.str x t)
  | .inl i,v,h=>by
    obtain⟨t,e⟩:=Value.isInt_shape (k:=i) (v:=v) h;exact .inl ⟨i,t,rfl,e⟩
  | .inr x,v,h=>by
    obtain⟨t,e⟩:=Value.isStrOf_shape (x:=x) (v:=v) h;exact .inr ⟨x,t,rfl,e⟩
theorem qE(i:Int)(t:Tok):kf (.inl i) (.int i t)=true:=by simp[kf,Value.isInt]
theorem qF(x:Str)(t:Tok):kf (.inr x) (.str x t)=true:=by simp[kf,Value.isStrOf]
theorem xn(a b:Int):decide ((Sum.inl a:Key)=Sum.inl b)=(a == b):=by
  by_cases e:a=b
  · subst e;simp
  · have h:¬(Sum.inl a:Key)=Sum.inl b:=λq=>e (Sum.inl.inj q)
    rw[decide_eq_false h];exact(beq_eq_false_iff_ne.mpr e).symm
theorem xo(a b:Str):decide ((Sum.inr a:Key)=Sum.inr b)=decide (a=b):=by
  by_cases e:a=b
  · subst e;simp
  · have h:¬(Sum.inr a:Key)=Sum.inr b:=λq=>e (Sum.inr.inj q)
    rw[decide_eq_false h,decide_eq_false e]
theorem xp(a:Int)(b:Str):decide ((Sum.inl a:Key)=Sum.inr b)=false:=decide_eq_false (λq=>nomatch q)
theorem xq(a:Str)(b:Int):decide ((Sum.inr a:Key)=Sum.inl b)=false:=decide_eq_false (λq=>nomatch q)
def bJ(prog:Program)(w:World):PySem.KeyKind prog w Key where
  is:=kf
  hash:=B6 w
  inj:=λv a b ha hb=>by
    rcases bz ha with⟨i,t,rfl,rfl⟩|⟨x,t,rfl,rfl⟩
    · rcases bz hb with⟨j,u,rfl,e⟩|⟨y,u,rfl,e⟩
      · injection e with e1 _;rw[e1]
      · exact nomatch e
    · rcases bz hb with⟨j,u,rfl,e⟩|⟨y,u,rfl,e⟩
      · exact nomatch e
      · injection e with e1 _;rw[e1]
  byValue:=λk v h=>by
    rcases bz h with⟨i,t,rfl,rfl⟩|⟨x,t,rfl,rfl⟩<;>rfl
  pyHash:=λhv h=>by
    rcases bz hv with⟨i,t,rfl,rfl⟩|⟨x,t,rfl,rfl⟩
    · exact wpAny_pyHash_int h
    · exact wpAny_pyHash_str h
  eqBool:=λhu hv h=>by
    rcases bz hu with⟨i,t,rfl,rfl⟩|⟨x,t,rfl,rfl⟩
    · rcases bz hv with⟨j,u,rfl,rfl⟩|⟨y,u,rfl,rfl⟩
      · rw[xn]at h;exact wpAny_eqBool_int h
      · rw[xp]at h;exact SeqAt.EqAt.int_str i t y u _ _ _ _ h
    · rcases bz hv with⟨j,u,rfl,rfl⟩|⟨y,u,rfl,rfl⟩
      · rw[xq]at h;exact SeqAt.EqAt.str_int x t j u _ _ _ _ h
      · rw[xo]at h;exact wpAny_eqBool_str h
  «strs» := λk x t v h=>by
    rcases bz h with⟨i,u,rfl,e⟩|⟨y,u,rfl,e⟩
    · exact nomatch e
    · injection e with e1 _
      subst e1;cases v<;>rfl
theorem mC(prog:Program)(w:World)(i:Int)(t:Tok):(bJ prog w).is (.inl i) (.int i t)=true:=qE i t
theorem mD(prog:Program)(w:World)(x:Str)(t:Tok):(bJ prog w).is (.inr x) (.str x t)=true:=qF x t
end L2
namespace L2
open PySem PySem.Spec PyProof.Rows
inductive V where
  | non|bl (b:Bool)|int (i:Int)|str (x:Str)|byt (b:Array UInt8)|flt (b:UInt64)|ref (a:Addr)|ty (n:String)
  deriving DecidableEq
def RelV:V→Value→Prop
  | .non,u=>u=Value.none
  | .bl b,u=>u=Value.bool b
  | .int i,u=>∃ t,u=Value.int i t
  | .str x,u=>∃ t,u=Value.str x t
  | .byt b,u=>∃ t,u=Value.bytes b t
  | .flt b,u=>∃ t,u=Value.float b t
  | .ref a,u=>u=Value.ref a
  | .ty n,u=>u=Value.type n
abbrev Vals:List V→List Value→Prop:=Paired RelV
theorem Vals.length{xs:List V}{us:List Value}(r:Vals xs us):xs.length=us.length:=Paired.length r
theorem Vals.get:∀ {xs:List V} {us:List Value} {i:Nat} {x:V},Vals xs us→xs[i]?=some x→∃ u,us[i]?=some u∧RelV x u
  | _,_,_,_,.nil,e=>by simp at e
  | _,_,0,_,.cons r _,e=>by simp at e;subst e;exact⟨_,rfl,r⟩
  | _,_,i+1,x,.cons _ t,e=>by
    obtain⟨u,h1,h2⟩:=Vals.get (i:=i) (x:=x) t (by simpa using e);exact⟨u,by simpa using h1,h2⟩
theorem Vals.set{x:V}{u:Value}(r:RelV x u):∀ {xs:List V} {us:List Value} (i:Nat),Vals xs us→Vals (xs.set i x) (us.set i u)
  | _,_,_,.nil=>.nil
  | _,_,0,.cons _ t=>.cons r t
  | _,_,i+1,.cons q t=>.cons q (Vals.set r i t)
theorem Vals.append:∀ {xs ys:List V} {us ws:List Value},Vals xs us→Vals ys ws→Vals (xs++ys) (us++ws)
  | _,_,_,_,.nil,s=>s
  | _,_,_,_,.cons r t,s=>.cons r (Vals.append t s)
theorem Vals.take:∀ {xs:List V} {us:List Value} (n:Nat),Vals xs us→Vals (xs.take n) (us.take n)
  | _,_,0,_=>.nil
  | _,_,_+1,.nil=>.nil
  | _,_,n+1,.cons r t=>.cons r (Vals.take n t)
theorem Vals.drop:∀ {xs:List V} {us:List Value} (n:Nat),Vals xs us→Vals (xs.drop n) (us.drop n)
  | _,_,0,r=>r
  | _,_,_+1,.nil=>.nil
  | _,_,n+1,.cons _ t=>Vals.drop n t
def hX:Option V→Option Value→Prop
  | some v,some u=>RelV v u
  | none,none=>True
  | _,_=>False
def KV{κ:Type}:List (κ×V)→List (κ×Value)→Prop:=Paired λ(p:κ×V) (q:κ×Value)=>p.1=q.1∧RelV p.2 q.2
def kV:Key→V
  | .inl i=>.int i
  | .inr x=>.str x
inductive HO where
  | lst (xs:List V)
  | tup (xs:List V)
  | dK (kvs:List (Key×V))|dT (kvs:List (List Key×V))
  | set (S:Int→Bool) (n:Nat)
  | ins (C dx:Addr) (fs:List (Str×V))
  | own (x:Addr)
  | xd (fs:List (Str×V))
  | met (f x:Addr)
  | rng (lo hi:Int)
  | frz (o:Obj) (u:HO)
  | tbl (ps:Array Value)
  | ext (φ:Heap→Prop)
abbrev Hp:=Addr→Option HO
def upd(H:Hp)(a:Addr)(o:HO):Hp:=λb=>if b=a then some o else H b
theorem af{H:Hp}{a:Addr}{o:HO}:upd H a o a=some o:=by unfold upd;rw[if_pos rfl]
theorem ak{H:Hp}{a b:Addr}{o:HO}(h:b≠a):upd H a o b=H b:=by unfold upd;rw[if_neg h]
theorem ee{H:Hp}{a b:Addr}{o u:HO}(h:H a=some o)(h':H b=some u)(d:o≠u):a≠b:=by
  intro e;subst e;rw[h]at h';exact d (DP h')
theorem ai{H:Hp}{a b:Addr}{o:HO}(h:H a=some o)(h':H b=none):a≠b:=by
  intro e;subst e;rw[h]at h';cases h'
section
variable(P:Program)(w:World)
def bV(H:Hp)(h:Heap)(a:Addr):HO→Prop
  | .lst xs=>xs.length≤sizeLine∧∃(its:List Value) (n:Nat),Vals xs its∧h.get? a=some {cls:=.type "list",data:=.seq its.toArray n}
  | .tup xs=>xs.length≤sizeLine∧∃ its:List Value,Vals xs its∧IsTup h a its.toArray
  | .dK kvs=>kvs.length≤sizeLine∧(a == sysModules)=false∧∃ vs,KV kvs vs∧h.DictOf (bJ P w) a vs
  | .dT kvs=>kvs.length≤sizeLine∧(a == sysModules)=false∧∃ xs:List (List Key×Addr×Value),
      Paired (λ(p:List Key×V) (q:List Key×Addr×Value)=>p.1=q.1∧H q.2.1=some (.tup (p.1.map kV))∧RelV p.2 q.2.2) kvs xs ∧
      ∃ o es ep,h.get? a=some o∧o.ExactDict∧o.data=.dict es ep∧es.toList=xs.map (entryOfKey (tupleKind (bJ P w)))∧(xs.map (·.1)).Nodup
  | .set S n=>h.SetOf (intKind P w) a S n
  | .ins C dx fs=>H dx=some (.own a)∧fs.length≤1000∧dx≠a∧h.get? a=some (PySem.W.instObj C dx) ∧
      ∃ mA,h.Ns1 dx mA∧(∀ f,hX (fs.lookup f) (mA f))∧PySem.Within mA (fs.map (·.1))
  | .own _=>∃ o,h.get? a=some o
  | .xd fs=>∃ mA,h.Ns1 a mA∧∀ f,hX (fs.lookup f) (mA f)
  | .rng lo hi=>∃ t u v,h.get? a=some {cls:=.type "range",data:=.fields #[.int lo t,.int hi u,.int 1 v]}
  | .frz o u=>h.get? a=some o∧bV H h a u
  | .tbl ps=>h.get? a=some {cls:=.none,data:=.fields ps}
  | .met f x=>h.get? a=some (PySem.W.methodObj (.ref f) (.ref x))
  | .ext φ=>φ h∧(∃ o,h.get? a=some o)∧∀ h1 h2:Heap,φ h1→(∀ o,h1.get? a=some o→h2.get? a=some o)→φ h2
def HOk(H:Hp)(h:Heap):Prop:=∀ a o,H a=some o→bV P w H h a o
end
section
variable{P:Program}{w:World}{H H':Hp}{h h':Heap}{a:Addr}{o:HO}
theorem bV.lt(x:bV P w H h a o):a<h.objs.size:=by
  cases o with
  | lst xs=>obtain⟨_,_,_,_,e⟩:=x;exact Dh e
  | tup xs=>obtain⟨_,_,_,p⟩:=x;exact p.lt
  | dK kvs=>obtain⟨_,_,_,_,o,_,_,e,_⟩:=x;exact Dh e
  | dT kvs=>obtain⟨_,_,_,_,o,_,_,e,_⟩:=x;exact Dh e
  | set S n=>obtain⟨o,_,_,_,e,_⟩:=x;exact Dh e
  | ins C dx fs=>obtain⟨_,_,_,e,_⟩:=x;exact Dh e
  | own y=>obtain⟨_,e⟩:=x;exact Dh e
  | xd fs=>obtain⟨_,⟨_,_,_,e,_⟩,_⟩:=x;exact Dh e
  | rng lo hi=>obtain⟨_,_,_,e⟩:=x;exact Dh e
  | frz ob u=>obtain⟨e,_⟩:=x;exact Dh e
  | tbl ps=>exact Dh (show h.get? a=some _ from x)
  | met f y=>exact Dh (show h.get? a=some _ from x)
  | ext φ=>obtain⟨_,⟨_,e⟩,_⟩:=x;exact Dh e
theorem Paired.ym{α β:Type}{F G:α→β→Prop}:∀ {l₁:List α} {l₂:List β},Paired F l₁ l₂→(∀ a b,F a b→G a b)→Paired G l₁ l₂
  | _,_,.nil,_=>.nil
  | _,_,.cons r t,f=>.cons (f _ _ r) (Paired.ym t f)
theorem bV.n6(x:bV P w H h a o)(k:∀ b u,(b=a∨H b=some (.own a))→h.get? b=some u→h'.get? b=some u)
    (ho:∀ b,H b=some (.own a)→H' b=some (.own a)) (ht:∀ b xs,H b=some (.tup xs)→H' b=some (.tup xs)):bV P w H' h' a o:=by
  induction o with
  | lst xs=>obtain⟨z,its,n,r,e⟩:=x;exact⟨z,its,n,r,k _ _ (.inl rfl) e⟩
  | tup xs=>obtain⟨z,its,r,ob,e,c⟩:=x;exact⟨z,its,r,ob,k _ _ (.inl rfl) e,c⟩
  | dK kvs=>obtain⟨z,y,vs,r,ob,es,ep,e,c⟩:=x;exact⟨z,y,vs,r,ob,es,ep,k _ _ (.inl rfl) e,c⟩
  | dT kvs =>
    obtain⟨z,y,xs,r,ob,es,ep,e,c⟩:=x;exact⟨z,y,xs,Paired.ym r λp q z=>⟨z.1,ht _ _ z.2.1,z.2.2⟩,ob,es,ep,k _ _ (.inl rfl) e,c⟩
  | set S n=>obtain⟨ob,es,ep,t,e,c⟩:=x;exact⟨ob,es,ep,t,k _ _ (.inl rfl) e,c⟩
  | ins C dx fs =>
    obtain⟨d,z,ne,e,mA,⟨od,es,ep,e2,c⟩,r⟩:=x;exact⟨ho _ d,z,ne,k _ _ (.inl rfl) e,mA,⟨od,es,ep,k _ _ (.inr d) e2,c⟩,r⟩
  | own y=>obtain⟨ob,e⟩:=x;exact⟨ob,k _ _ (.inl rfl) e⟩
  | xd fs=>obtain⟨mA,⟨od,es,ep,e,c⟩,r⟩:=x;exact⟨mA,⟨od,es,ep,k _ _ (.inl rfl) e,c⟩,r⟩
  | rng lo hi=>obtain⟨t,u,v,e⟩:=x;exact⟨t,u,v,k _ _ (.inl rfl) e⟩
  | frz ob u ih=>obtain⟨e,q⟩:=x;exact⟨k _ _ (.inl rfl) e,ih q⟩
  | tbl ps =>
    have e:h.get? a=some {cls:=.none,data:=.fields ps}:=x;show h'.get? a=some {cls:=.none,data:=.fields ps};exact k a _ (.inl rfl) e
  | met f y =>
    have e:h.get? a=some (PySem.W.methodObj (.ref f) (.ref y)):=x;show h'.get? a=some (PySem.W.methodObj (.ref f) (.ref y));exact k a _ (.inl rfl) e
  | ext φ=>obtain⟨p,⟨o,e⟩,st⟩:=x;exact⟨st _ _ p λo q=>k _ _ (.inl rfl) q,⟨o,k _ _ (.inl rfl) e⟩,st⟩
theorem HOk.lt(x:HOk P w H h)(e:H a=some o):a<h.objs.size:=(x a o e).lt
theorem HOk.fresh(x:HOk P w H h)(e:h.objs.size≤a):H a=none:=by
  cases q:H a with
  | none=>rfl
  | some u=>exact absurd (Dm (x.lt q) e) (DX _)
theorem HOk.kept(x:HOk P w H h)(k:∀ b u,h.get? b=some u→h'.get? b=some u):HOk P w H h':=λa o e =>
  (x a o e).n6 (λb u _ q=>k b u q) (λ_ q=>q) λ_ _ q=>q
theorem HOk.laid(x:HOk P w H h)(k:∀ b u,h.get? b=some u→h'.get? b=some u)(hp:h.objs.size≤a)(new:bV P w (upd H a o) h' a o):HOk P w (upd H a o) h':=λb u e=>by
  have hn:=x.fresh hp;by_cases hb:b=a
  · subst hb;rw[af]at e;cases e;exact new
  · rw[ak hb]at e
    exact(x b u e).n6 (λc v _ q=>k c v q) (λc q=>by rw[ak (ai q hn)];exact q) λc xs q=>by rw[ak (ai q hn)];exact q
end
def Rd(H:Hp)(a:Addr)(u:HO):Prop:=H a=some u∨∃ o,H a=some (.frz o u)
theorem Rd.ok{P:Program}{w:World}{H:Hp}{h:Heap}{a:Addr}{u:HO}(r:Rd H a u)(x:HOk P w H h):bV P w H h a u:=by
  rcases r with r|⟨o,r⟩
  · exact x a u r
  · obtain⟨_,q⟩:=x a _ r
    exact q
def Mut:Option HO→Prop
  | some (.lst _)=>True
  | some (.dK _)=>True
  | some (.dT _)=>True
  | some (.set _ _)=>True
  | some (.ins _ _ _)=>True
  | some (.ext _)=>True
  | _=>False
section
variable{P:Program}{w:World}{H:Hp}{h h':Heap}{x e:Addr}{o':HO}
theorem HOk.write(ok:HOk P w H h)(mu:Mut (H x))(he:e=x∨H e=some (.own x))(k:∀ b u,b≠e→h.get? b=some u→h'.get? b=some u)(heo:∃ u,h'.get? e=some u)
    (new:bV P w (upd H x o') h' x o'):HOk P w (upd H x o') h':=λb u q=>by
  have Bp:∀ c y,H c=some (.own y)→c≠x:=λc y r z=>by subst z;rw[r]at mu;exact mu
  have B7:∀ c xs,H c=some (.tup xs)→c≠x:=λc xs r z=>by subst z;rw[r]at mu;exact mu
  by_cases hb:b=x
  · subst hb;rw[af]at q;cases q;exact new
  · rw[ak hb]at q
    by_cases hbe:b=e
    · have q':H b=some (.own x):=by
        rcases he with z|z
        · exact absurd (hbe.trans z) hb
        · rw[hbe];exact z
      rw[q]at q';cases q';obtain⟨v,hv⟩:=heo;exact⟨v,by rw[hbe];exact hv⟩
    · refine(ok b u q).n6 (λc v hc r=>k c v ?_ r) (λc r=>by rw[ak (Bp c b r)];exact r) λc xs r=>by rw[ak (B7 c xs r)];exact r
      rcases hc with rfl|hc
      · exact hbe
      · rintro rfl
        rcases he with z|z
        · exact Bp c b hc z
        · rw[hc]at z;cases z;exact hb rfl
end
structure Un(fs ex:List Addr)(H H':Hp)(h h':Heap):Prop where
  keep:∀ b o,h.get? b=some o→H b=none→b∉fs→b∉ex→h'.get? b=some o
  slot:∀ b o,h.get? b=some o→H b=none→b∈fs→b∉ex→∃ sl,h'.get? b=some {o with slots:=sl}
  free:∀ b o,h.get? b=some o→H b=none→b∉ex→H' b=none
  there:∀ b o,h.get? b=some o→b∉ex→∃ o',h'.get? b=some o'
  ki:∀ b xs,H b=some (.tup xs)→H' b=some (.tup xs)
  jH:∀ b o u,H b=some (.frz o u)→H' b=some (.frz o u)
  kj:∀ b ps,H b=some (.tbl ps)→∃ more,H' b=some (.tbl (ps++more))
section
variable{fs fs' ex ex':List Addr}{H H1 H2:Hp}{h h1 h2 h':Heap}{a x e:Addr}{o:HO}
theorem Un.any(u:Un fs ex H H1 h h1){b:Addr}{ob:Obj}(q:h.get? b=some ob)(n:H b=none)(hx:b∉ex):∃ sl,h1.get? b=some {ob with slots:=sl}:=by
  by_cases hb:b∈fs
  · exact u.slot b ob q n hb hx
  · exact⟨ob.slots,u.keep b ob q n hb hx⟩
theorem Un.kept(k:∀ b u,h.get? b=some u→h'.get? b=some u):Un fs ex H H h h' :=
  ⟨λb ob q _ _ _=>k b ob q,λb ob q _ _ _=>⟨ob.slots,k b ob q⟩,λ_ _ _ n _=>n,λb ob q _=>⟨ob,k b ob q⟩,λ_ _ q=>q,λ_ _ _ q=>q,λ_ ps q=>⟨#[],by rw[q];simp⟩⟩
theorem Un.refl:Un fs ex H H h h:=Un.kept λ_ _ q=>q
theorem Un.laid(k:∀ b u,h.get? b=some u→h'.get? b=some u)(hp:h.objs.size≤a)(hn:H a=none):Un fs ex H (upd H a o) h h' where
  keep:=λb u q _ _ _=>k b u q
  slot:=λb u q _ _ _=>⟨u.slots,k b u q⟩
  free:=λb u q n _=>by rw[ak (Dq (Dm (Dh q) hp))];exact n
  there:=λb u q _=>⟨u,k b u q⟩
  ki:=λb xs q=>by rw[ak (ai q hn)];exact q
  jH:=λb u xs q=>by rw[ak (ai q hn)];exact q
  kj:=λb ps q=>⟨#[],by rw[ak (ai q hn),q];simp⟩
theorem Un.write(mu:Mut (H x))(he:e=x∨H e=some (.own x))(k:∀ b u,b≠e→h.get? b=some u→h'.get? b=some u)(heo:∃ u,h'.get? e=some u):Un fs ex H (upd H x o) h h':=by
  have hx:∀ b,H b=none→b≠x:=λb n z=>by subst z;rw[n]at mu;exact mu
  have hb:∀ b,H b=none→b≠e:=λb n z=>by
    subst z;rcases he with r|r
    · exact hx b n r
    · rw[n]at r;cases r
  have hm:∀ b u,H b=some u→¬Mut (some u)→b≠x:=λb u q nm z=>by subst z;rw[q]at mu;exact nm mu
  refine⟨λb u q n _ _=>k b u (hb b n) q,λb u q n _ _=>⟨u.slots,k b u (hb b n) q⟩,λb u q n _=>by rw[ak (hx b n)];exact n,λb u q _=>?_,
    λb xs q=>by rw[ak (hm b _ q λz=>z)];exact q,λb u xs q=>by rw[ak (hm b _ q λz=>z)];exact q,λb ps q=>⟨#[],by rw[ak (hm b _ q λz=>z),q];simp⟩⟩
  by_cases hbe:b=e
  · subst hbe;exact heo
  · exact⟨u,k b u hbe q⟩
end
def trk(h:Heap)(H:Hp):List Addr:=(List.range h.objs.size).filter λa=>(H a).isSome
def n8(h:Heap)(H:Hp):Heap:=PySem.W.hideAll h (trk h H)
theorem qG(h:Heap)(H:Hp):(n8 h H).objs.size=h.objs.size:=PySem.W.hideAll_size _ _
theorem rY{h:Heap}{H:Hp}{b:Addr}{o:Obj}(e:h.get? b=some o)(n:H b=none):(n8 h H).get? b=some o :=
  PySem.W.hideAll_get _ e λhm=>by
    have q:(H b).isSome=true:=(List.mem_filter.mp hm).2;rw[n]at q;simp at q
theorem tT{h:Heap}{H:Hp}{b:Addr}{o:Obj}(e:(n8 h H).get? b=some o):h.get? b=some o∧H b=none:=by
  have e':h.get? b=some o:=PySem.W.of_hideAll (trk h H) e;refine⟨e',?_⟩;cases q:H b with
  | none=>rfl
  | some x =>
    have hm:b∈trk h H:=List.mem_filter.mpr ⟨Eo.mpr (Dh e'),by simp[q]⟩;have z:(n8 h H).get? b=none:=PySem.W.hideAll_none (trk h H) hm;rw[z]at e;cases e
end L2
namespace L2
open PySem PySem.Spec PyProof.Rows
structure Mod(K:W.Frag)(mg:Str→Option Value)(base:Heap):Prop where
  kin:K.In base
  glob:base.Ns mainGlobals mg
  blt:∃ mb,base.Ns builtinsNs mb∧∀ x:Str,x ≠ "__name__" → mb x=bootBuiltins x
  nolimit:base.NoLimit
structure Cx where
  prog:Program
  w:World
  K:W.Frag
  mg:Str→Option Value
  base:Heap
  A:Around
  N:List Str
  s₀:Shared
  H₀:Hp
  env:Env
  outer:List Env
  stack:List Env
  ex:List Addr
  fn:Str→Bool
  calm:Bool
  pn:List (Addr×Obj)
  xe:Value→Shared→Prop
def frs(l:List Env):List Addr:=l.filterMap (·.frame)
abbrev Cx.fs(X:Cx):List Addr:=frs X.outer
def Vis(sc:Scope)(x:Str):Prop:=sc.names.lookup x=some .local∨sc.names.lookup x=some .cell∨sc.names.lookup x=some .free
def Loc(sc:Scope)(x:Str):Prop:=sc.names.lookup x=some .local∨sc.names.lookup x=some .cell
def Look(env:Env)(h:Heap)(m:Str→Option Value)(x:Str)(u:Value):Prop :=
  (env.kindOf x=some .local∧m x=some u)∨((env.kindOf x=some .cell∨env.kindOf x=some .free)∧∃ c,env.cells.lookup x=some c∧h.IsCell c (some u))
structure Cx.Ok(X:Cx):Prop where
  mod:Mod X.K X.mg X.base
  kind:X.env.scope.kind=.function
  glob:X.env.globals=mainGlobals
  blt:X.env.builtins=builtinsNs
  above:X.s₀.heap.objs.size≤X.env.locals
  inj:∀ x y c,X.env.cells.lookup x=some c→X.env.cells.lookup y=some c→x=y
  has:∀ x,(X.env.kindOf x=some .cell∨X.env.kindOf x=some .free)→∃ c,X.env.cells.lookup x=some c
  cab:∀ x c,X.fn x=true→X.env.cells.lookup x=some c→X.s₀.heap.objs.size≤c
  hd:X.calm=true→X.A.handled=none
  frames:X.A.frames=some X.stack
  stk:X.stack=X.outer∨(X.stack=X.env::X.outer∧X.env.frame=some X.env.locals)
  exf:∀ b∈X.ex,b≠X.env.locals∧∀ x c,X.env.cells.lookup x=some c→c≠b
  bs:∀ b o,X.base.get? b=some o→X.s₀.heap.get? b=some o∧X.H₀ b=none
  bsz:X.base.objs.size≤X.s₀.heap.objs.size
  oa:∀ b o,X.base.get? b=some o→b∉X.ex
  rT:∀ b∈X.ex,b∉X.fs
  i4:X.s₀.heap.FunFrames X.base X.outer
  frf:∀ b∈X.fs,X.H₀ b=none
structure Inv(X:Cx)(pins:List (Addr×Obj))(σ:List (Option V))(H:Hp)(s:Shared):Prop where
  ok:X.Ok
  os:s.os=X.s₀.os
  bare:AllBare s.gens
  base:Un X.fs X.ex X.H₀ H X.s₀.heap s.heap
  loc:∃ m,s.heap.Ns X.env.locals m∧∀(i:Nat) (x:Str) (v:V),X.N[i]?=some x→σ[i]?=some (some v)→Vis X.env.scope x→∃ u,RelV v u∧Look X.env s.heap m x u
  cell:∀ x c,X.env.cells.lookup x=some c→∃ v,s.heap.IsCell c v
  free:H X.env.locals=none
  ef:∀ x c,X.env.cells.lookup x=some c→H c=none
  pin:∀ p∈X.pn++pins,s.heap.get? p.1=some p.2∧H p.1=none∧p.1≠X.env.locals∧p.1∉X.fs∧∀ v,p.2.data≠.cell v
  hok:HOk X.prog X.w H s.heap
  len:σ.length=X.N.length
section
variable{X:Cx}{pins:List (Addr×Obj)}{σ:List (Option V)}{H H':Hp}{s:Shared}{h':Heap}
theorem Cx.Ok.B8(ok:X.Ok){b:Addr}{o:Obj}(e:X.base.get? b=some o):b∉X.fs:=λhb=>by
  have:=(ok.i4.mem hb).1
  rw[e]at this;cases this
theorem Inv.bs(I:Inv X pins σ H s):∀ b o,X.base.get? b=some o→s.heap.get? b=some o∧H b=none:=λb o e =>
  ⟨I.base.keep b o (I.ok.bs b o e).1 (I.ok.bs b o e).2 (I.ok.B8 e) (I.ok.oa b o e),I.base.free b o (I.ok.bs b o e).1 (I.ok.bs b o e).2 (I.ok.oa b o e)⟩
theorem Inv.bk(I:Inv X pins σ H s):∀ b o,X.base.get? b=some o→s.heap.get? b=some o:=λb o e=>(I.bs b o e).1
theorem Inv.mod(I:Inv X pins σ H s):Mod X.K X.mg X.base:=I.ok.mod
theorem Inv.kIn(I:Inv X pins σ H s):X.K.In s.heap:=I.ok.mod.kin.keeps I.bk
theorem Inv.lt(I:Inv X pins σ H s):X.env.locals<s.heap.objs.size:=let ⟨_,hn,_⟩:=I.loc;hn.lt
theorem Inv.sz(I:Inv X pins σ H s):X.s₀.heap.objs.size≤s.heap.objs.size:=DK I.ok.above (EC I.lt)
theorem Inv.B9(I:Inv X pins σ H s){a:Addr}(h:s.heap.objs.size≤a):a∉X.fs:=λhb=>by
  obtain⟨_,o,ho,_⟩:=I.ok.i4.mem hb;exact absurd (Dm (Dh ho) (DK I.sz h)) (DX _)
theorem Inv.cne(I:Inv X pins σ H s):∀ x c,X.env.cells.lookup x=some c→c≠X.env.locals:=λx c e z=>by
  obtain⟨v,o,ho,hd⟩:=I.cell x c e;obtain⟨m,⟨o',es,ep,ho',hd',_⟩,_⟩:=I.loc;rw[z,ho']at ho;cases ho;rw[hd']at hd;cases hd
theorem Inv.i4(I:Inv X pins σ H s):s.heap.FunFrames X.base X.outer:=by
  have all:∀(l:List Env),(∀ b∈frs l,b∈X.fs)→X.s₀.heap.FunFrames X.base l→s.heap.FunFrames X.base l:=by
    intro l;induction l with
    | nil=>intro _ _;trivial
    | cons env r ih =>
      intro hs hl;obtain⟨hk,⟨L,o,hf,hn,ho,hd⟩,hr⟩:=hl;have hL:L∈X.fs:=hs L (by unfold frs;rw[List.filterMap_cons,hf];exact DA);obtain⟨sl,e⟩:=I.base.slot L o ho (I.ok.frf L hL) hL λz=>I.ok.rT L z hL;exact⟨hk,⟨L,_,hf,hn,e,hd⟩,ih (λb hb=>hs b (by unfold frs;rw[List.filterMap_cons,hf];exact Dt _ hb)) hr⟩
  exact all X.outer (λ_ hb=>hb) I.ok.i4
theorem Inv.stack(I:Inv X pins σ H s):s.heap.FunFrames X.base X.stack:=by
  rcases I.ok.stk with e|⟨e,hf⟩
  · rw[e];exact I.i4
  · rw[e]
    obtain⟨m,hn,_⟩:=I.loc;refine .cons (by rw[I.ok.kind];decide) hf hn ?_ I.i4;exact Heap.get?_none_of_le (DK I.ok.bsz I.ok.above)
theorem Inv.gM(I:Inv X pins σ H s):∀ b∈frs X.stack,b∈X.env.locals::X.fs:=λb hb=>by
  rcases I.ok.stk with e|⟨e,hf⟩
  · rw[e]at hb;exact Dt _ hb
  · rw[e]at hb
    unfold frs at hb;rw[List.filterMap_cons,hf]at hb;exact hb
theorem Inv.gN(I:Inv X pins σ H s):∀ b∈frs X.stack,H b=none:=λb hb=>by
  rcases Ds.mp (I.gM b hb) with e|hb
  · rw[e];exact I.free
  · obtain⟨_,o,ho,_⟩:=I.ok.i4.mem hb
    exact I.base.free b o ho (I.ok.frf b hb) λz=>I.ok.rT b z hb
theorem Inv.step{g':Array GenState}{t':Nat}{d':Drawn}{ch:List Addr}(I:Inv X pins σ H s)
    (hch:∀ b∈ch,(b∈X.ex∨X.s₀.heap.objs.size≤b)∧b≠X.env.locals∧(∀ x c,X.env.cells.lookup x=some c→c≠b)∧∀ p∈X.pn++pins,p.1≠b)
    (keep:∀ b o,b≠X.env.locals→b∉X.fs→b∉ch→s.heap.get? b=some o→H b=none→h'.get? b=some o)
    (slot:∀ b o,b≠X.env.locals→b∈X.fs→b∉ch→s.heap.get? b=some o→H b=none→∃ sl,h'.get? b=some {o with slots:=sl}) (free:∀ b o,b∉ch→s.heap.get? b=some o→H b=none→H' b=none)
    (there:∀ b o,b∉ch→s.heap.get? b=some o→∃ o',h'.get? b=some o')
    (ki:∀ b xs,H b=some (.tup xs)→H' b=some (.tup xs)) (jH:∀ b o u,H b=some (.frz o u)→H' b=some (.frz o u)) (kj:∀ b ps,H b=some (.tbl ps)→∃ more,H' b=some (.tbl (ps++more)))
    (ns:∀ m,s.heap.Ns X.env.locals m→h'.Ns X.env.locals m) (hok:HOk X.prog X.w H' h') (hg:AllBare g') :
    Inv X pins σ H' {s with heap:=h',gens:=g',drawn:=d',toks:=t'}:=by
  have neL:∀ b o,X.s₀.heap.get? b=some o→b≠X.env.locals:=λb o e=>Dq (Dm (Dh e) I.ok.above);have neC:∀ b o,X.s₀.heap.get? b=some o→b∉X.ex→b∉ch:=λb o e hx hb=>by
    rcases(hch b hb).1 with z|z
    · exact hx z
    · exact absurd (Dm (Dh e) z) (DX _)
  have cellK:∀ x c,X.env.cells.lookup x=some c→∀ v,s.heap.IsCell c v→h'.IsCell c v:=λx c e v ⟨o,ho,hd⟩=>by
    have nch:c∉ch:=λz=>(hch c z).2.2.1 x c e rfl;by_cases hc:c∈X.fs
    · obtain⟨sl,q⟩:=slot c o (I.cne x c e) hc nch ho (I.ef x c e)
      exact⟨_,q,hd⟩
    · exact⟨o,keep c o (I.cne x c e) hc nch ho (I.ef x c e),hd⟩
  refine⟨I.ok,I.os,hg,⟨λb o e n hb hx=>?_,λb o e n hb hx=>?_,λb o e n hx=>?_,λb o e hx=>?_,λb xs e=>ki b xs (I.base.ki b xs e),λb o xs e=>jH b o xs (I.base.jH b o xs e),λb ps e=>?_⟩,?_,λx c e=>?_,?_,λx c e=>?_,λp hp=>?_,hok,I.len⟩
  · exact keep b o (neL b o e) hb (neC b o e hx) (I.base.keep b o e n hb hx) (I.base.free b o e n hx)
  · obtain⟨sl,e1⟩:=I.base.slot b o e n hb hx
    obtain⟨sl',e2⟩:=slot b _ (neL b o e) hb (neC b o e hx) e1 (I.base.free b o e n hx);exact⟨sl',e2⟩
  · obtain⟨o',e1⟩:=I.base.there b o e hx
    exact free b o' (neC b o e hx) e1 (I.base.free b o e n hx)
  · obtain⟨o',e1⟩:=I.base.there b o e hx
    exact there b o' (neC b o e hx) e1
  · obtain⟨m1,e1⟩:=I.base.kj b ps e
    obtain⟨m2,e2⟩:=kj b _ e1;exact⟨m1++m2,by rw[e2,Array.append_assoc]⟩
  · obtain⟨m,hn,hl⟩:=I.loc
    refine⟨m,ns m hn,λi x v e1 e2 e3=>?_⟩;obtain⟨u,r,l⟩:=hl i x v e1 e2 e3;refine⟨u,r,?_⟩;rcases l with l|⟨k,c,e,z⟩
    · exact .inl l
    · exact .inr ⟨k,c,e,cellK x c e _ z⟩
  · obtain⟨v,z⟩:=I.cell x c e
    exact⟨v,cellK x c e v z⟩
  · obtain⟨m,⟨o,_,_,ho,_⟩,_⟩:=I.loc
    exact free _ o (λz=>(hch _ z).2.1 rfl) ho I.free
  · obtain⟨v,o,ho,hd⟩:=I.cell x c e
    exact free c o (λz=>(hch c z).2.2.1 x c e rfl) ho (I.ef x c e)
  · obtain⟨e,n,ne,nf,d⟩:=I.pin p hp
    have nch:p.1∉ch:=λz=>(hch p.1 z).2.2.2 p hp rfl;exact⟨keep p.1 p.2 ne nf nch e n,free p.1 p.2 nch e n,ne,nf,d⟩
theorem Inv.un{t':Nat}(I:Inv X pins σ H s)(u:Un X.fs [] H H' s.heap h')(hok:HOk X.prog X.w H' h'):Inv X pins σ H' {s with heap:=h',toks:=t'}:=by
  obtain⟨m,⟨o,es,ep,ho,r⟩,_⟩:=id I.loc;obtain⟨sl,hL⟩:=u.any ho I.free (by simp);exact I.step (g':=s.gens) (d':=s.drawn) (ch:=[]) (λ_ z=>nomatch z) (λb o _ hb _ e n=>u.keep b o e n hb (by simp)) (λb o _ hb _ e n=>u.slot b o e n hb (by simp)) (λb o _ e n=>u.free b o e n (by simp)) (λb o _ e=>u.there b o e (by simp)) u.ki u.jH u.kj (λm' hm=>by
    obtain⟨o',es',ep',ho',r'⟩:=hm;rw[ho]at ho';cases ho';exact⟨_,es',ep',hL,r'⟩) hok I.bare
theorem Inv.call{g':Array GenState}{t':Nat}{d':Drawn}{ch:List Addr}(I:Inv X pins σ H s)(u:Un (frs X.stack) ch H H' s.heap h')(hok:HOk X.prog X.w H' h')(hg:AllBare g')
    (hch:∀ b∈ch,(b∈X.ex∨X.s₀.heap.objs.size≤b)∧b≠X.env.locals∧(∀ x c,X.env.cells.lookup x=some c→c≠b)∧∀ p∈X.pn++pins,p.1≠b) :
    Inv X pins σ H' {s with heap:=h',gens:=g',drawn:=d',toks:=t'}:=by
  obtain⟨m,⟨o,es,ep,ho,r⟩,_⟩:=id I.loc;obtain⟨sl,hL⟩:=u.any ho I.free λz=>(hch _ z).2.1 rfl;exact I.step (ch:=ch) hch (λb o hL hb hc e n=>u.keep b o e n (λz=>(Ds.mp (I.gM b z)).elim hL hb) hc) (λb o _ _ hc e n=>u.any e n hc) (λb o hc e n=>u.free b o e n hc) (λb o hc e=>u.there b o e hc) u.ki u.jH u.kj (λm' hm=>by
    obtain⟨o',es',ep',ho',r'⟩:=hm;rw[ho]at ho';cases ho';exact⟨_,es',ep',hL,r'⟩) hok hg
theorem Inv.turned{t':Nat}{it:Addr}(I:Inv X pins σ H s)(k:∀ b o,b≠it→s.heap.get? b=some o→h'.get? b=some o)(hn:H it=none)(hL:it≠X.env.locals)
    (h1:it∈X.ex∨X.s₀.heap.objs.size≤it) (h2:∀ x c,X.env.cells.lookup x=some c→c≠it) (h3:∀ p∈X.pn++pins,p.1≠it):Inv X pins σ H {s with heap:=h',toks:=t'}:=by
  have nit:∀ b u,H b=some u→b≠it:=λb u e z=>by rw[z,hn]at e;cases e
  refine I.step (g':=s.gens) (d':=s.drawn) (ch:=[it]) (λb hb=>?_) (λb o _ _ hc e _=>k b o (λz=>hc (by simp[z])) e) (λb o _ _ hc e _=>⟨o.slots,k b o (λz=>hc (by simp[z])) e⟩) (λ_ _ _ _ n=>n)
    (λb o hc e=>⟨o,k b o (λz=>hc (by simp[z])) e⟩) (λ_ _ e=>e) (λ_ _ _ e=>e) (λb ps e=>⟨#[],by rw[e];simp⟩) (λm hm=>?_) (λb u e=>?_) I.bare
  · have e:b=it:=by simpa using hb
    subst e;exact⟨h1,hL,h2,h3⟩
  · obtain⟨o,es,ep,ho,r⟩:=hm
    exact⟨o,es,ep,k _ o (DH hL) ho,r⟩
  · refine(I.hok b u e).n6 (λc v hc q=>k c v ?_ q) (λ_ q=>q) λ_ _ q=>q
    rcases hc with z|z
    · rw[z];exact nit b u e
    · exact nit c _ z
theorem Inv.tok(I:Inv X pins σ H s)(t:Nat):Inv X pins σ H {s with toks:=t}:=I.un (h':=s.heap) (t':=t) Un.refl I.hok
theorem Inv.kept{t':Nat}(I:Inv X pins σ H s)(k:∀ b u,s.heap.get? b=some u→h'.get? b=some u):Inv X pins σ H {s with heap:=h',toks:=t'}:=I.un (Un.kept k) (I.hok.kept k)
theorem Inv.laid{a:Addr}{o:HO}{t':Nat}(I:Inv X pins σ H s)(k:∀ b u,s.heap.get? b=some u→h'.get? b=some u)(hp:s.heap.objs.size≤a)(new:bV X.prog X.w (upd H a o) h' a o) :
    Inv X pins σ (upd H a o) {s with heap:=h',toks:=t'}:=I.un (Un.laid k hp (I.hok.fresh hp)) (I.hok.laid k hp new)
theorem Inv.write{x e:Addr}{o:HO}{t':Nat}(I:Inv X pins σ H s)(mu:Mut (H x))(he:e=x∨H e=some (.own x))(k:∀ b u,b≠e→s.heap.get? b=some u→h'.get? b=some u)(heo:∃ u,h'.get? e=some u)
    (new:bV X.prog X.w (upd H x o) h' x o):Inv X pins σ (upd H x o) {s with heap:=h',toks:=t'}:=I.un (Un.write mu he k heo) (I.hok.write mu he k heo new)
theorem Inv.p9{oe:List (Addr×Obj)}(I:Inv X pins σ H s)(h:∀ p∈oe,s.heap.get? p.1=some p.2∧H p.1=none∧p.1≠X.env.locals∧p.1∉X.fs∧∀ v,p.2.data≠.cell v):Inv X oe σ H s :=
  ⟨I.ok,I.os,I.bare,I.base,I.loc,I.cell,I.free,I.ef,λp hp=>(Dz.mp hp).elim (λz=>I.pin p (DO _ z)) (h p),I.hok,I.len⟩
theorem jA{N:List Str}(hN:N.Nodup){i j:Nat}{x:Str}(a:N[i]?=some x)(b:N[j]?=some x):i=j:=by
  obtain⟨h1,e1⟩:=Dd.mp a;obtain⟨h2,e2⟩:=Dd.mp b;exact(List.getElem_inj hN).mp (e1.trans e2.symm)
theorem qH{M:Model}{A:Around}{E:Value→Shared→Prop}{i:Nat}{x:Str}{v:V}{u:Value}{Q:Unit→Shared→Prop}(I:Inv X pins σ H s)(hN:X.N.Nodup)(hi:X.N[i]?=some x)(hx:Loc X.env.scope x)(r:RelV v u)
    (h:∀ s',Inv X pins (σ.set i (some v)) H s'→(∃ a,Heap.SameBut a s.heap s'.heap∧(a=X.env.locals∨X.env.cells.lookup x=some a))→Q () s') (hf:X.fn x=true∨X.env.scope.names.lookup x=some .local:=by first|exact .inl rfl|exact .inr rfl|assumption):wpAny M A (storeName X.env x u) Q E s:=by
  obtain⟨m,hn,hl⟩:=id I.loc;have yn:(X.env.scope.kind == .class||(X.env.scope.kind == .module&&X.env.locals != X.env.globals))=false:=by rw[I.ok.kind];rfl
  have hiσ:i<σ.length:=by rw[I.len];exact(Dd.mp hi).1
  have cne:=I.cne;have tracked:∀ {a:Addr} {h':Heap},(∃ o,s.heap.get? a=some o∧H a=none)→Heap.SameBut a s.heap h'→HOk X.prog X.w H h':=λ{a h'} ha hs b ob e=>by
    obtain⟨_,_,uR⟩:=ha;refine(I.hok b ob e).n6 (λc w' hc q=>(hs.2 c ?_).trans q) (λ_ q=>q) λ_ _ q=>q;rintro rfl;rcases hc with rfl|hc
    · rw[uR]at e;cases e
    · rw[uR]at hc;cases hc
  rcases hx with hk|hk
  · refine wpAny_storeName_local hk hn (λh' hn' hs=>?_) yn
    obtain⟨oL,_,_,hoL,_⟩:=id hn;refine h _ ⟨I.ok,I.os,I.bare,⟨λb o e n hb hx=>?_,λb o e n hb hx=>?_,I.base.free,λb o e hx=>?_,I.base.ki,I.base.jH,I.base.kj⟩,⟨_,hn',λj y v' e1 e2 e3=>?_⟩,λy c e=>?_,I.free,I.ef,λp hp=>?_,tracked ⟨oL,hoL,I.free⟩ hs,by simpa using I.len⟩ ⟨_,hs,.inl rfl⟩
    · exact(hs.2 b (Dq (Dm (Dh e) I.ok.above))).trans (I.base.keep b o e n hb hx)
    · obtain⟨sl,e1⟩:=I.base.slot b o e n hb hx
      exact⟨sl,(hs.2 b (Dq (Dm (Dh e) I.ok.above))).trans e1⟩
    · obtain⟨o',e1⟩:=I.base.there b o e hx
      exact⟨o',(hs.2 b (Dq (Dm (Dh e) I.ok.above))).trans e1⟩
    · by_cases hj:j=i
      · subst hj
        rw[hi]at e1;cases e1;rw[DL hiσ]at e2;cases e2;exact⟨u,r,.inl ⟨hk,by simp⟩⟩
      · rw[Du (DH hj)]at e2
        obtain⟨u',r',q⟩:=hl j y v' e1 e2 e3;refine⟨u',r',?_⟩;rcases q with⟨k,e⟩|⟨k,c,e,z⟩
        · refine .inl ⟨k,?_⟩
          have:y≠x:=λe=>hj (jA hN e1 (e ▸ hi))
          simp[this,e]
        · exact .inr ⟨k,c,e,z.sameBut hs (cne y c e)⟩
    · obtain⟨w',z⟩:=I.cell y c e
      exact⟨w',z.sameBut hs (cne y c e)⟩
    · obtain⟨e,n,ne,nf,d⟩:=I.pin p hp
      exact⟨(hs.2 p.1 ne).trans e,n,ne,nf,d⟩
  · have hfn:X.fn x=true:=by
      rcases hf with z|z
      · exact z
      · rw[z]at hk;cases hk
    obtain⟨c,hc⟩:=I.ok.has x (.inl hk);obtain⟨w',z⟩:=I.cell x c hc;refine wpAny_storeName_cell I.ok.kind hk hc z (λh' hc' hs=>?_);obtain⟨oc,hoc,Ca⟩:=id z;refine h {s with heap:=h'} ⟨I.ok,I.os,I.bare,⟨λb o e n hb hx=>?_,λb o e n hb hx=>?_,I.base.free,λb o e hx=>?_,I.base.ki,I.base.jH,I.base.kj⟩,⟨m,hn.sameBut hs (DH (cne x c hc)),λj y v' e1 e2 e3=>?_⟩,λy c' e=>?_,I.free,I.ef,λp hp=>?_,tracked ⟨oc,hoc,I.ef x c hc⟩ hs,by simpa using I.len⟩ ⟨c,hs,.inr hc⟩
    · exact(hs.2 b (Dq (Dm (Dh e) (I.ok.cab x c hfn hc)))).trans (I.base.keep b o e n hb hx)
    · obtain⟨sl,e1⟩:=I.base.slot b o e n hb hx
      exact⟨sl,(hs.2 b (Dq (Dm (Dh e) (I.ok.cab x c hfn hc)))).trans e1⟩
    · obtain⟨o',e1⟩:=I.base.there b o e hx
      exact⟨o',(hs.2 b (Dq (Dm (Dh e) (I.ok.cab x c hfn hc)))).trans e1⟩
    · by_cases hj:j=i
      · subst hj
        rw[hi]at e1;cases e1;rw[DL hiσ]at e2;cases e2;exact⟨u,r,.inr ⟨.inl hk,c,hc,hc'⟩⟩
      · rw[Du (DH hj)]at e2
        obtain⟨u',r',q⟩:=hl j y v' e1 e2 e3;refine⟨u',r',?_⟩;rcases q with q|⟨k,c',e,z'⟩
        · exact .inl q
        · refine .inr ⟨k,c',e,z'.sameBut hs ?_⟩
          rintro rfl;exact hj (jA hN e1 (I.ok.inj _ _ _ e hc ▸ hi))
    · by_cases hcc:c'=c
      · subst hcc;exact⟨_,hc'⟩
      · obtain⟨w2,z2⟩:=I.cell y c' e
        exact⟨w2,z2.sameBut hs hcc⟩
    · obtain⟨e,n,ne,nf,d⟩:=I.pin p hp
      refine⟨(hs.2 p.1 ?_).trans e,n,ne,nf,d⟩;intro q;rw[q,hoc]at e;have q':oc=p.2:=DP e;exact d w' (by rw[←q'];exact Ca)
theorem jB{M:Model}{A:Around}{E:Value→Shared→Prop}{i:Nat}{x:Str}{v:V}{u:Value}{Q:Unit→Shared→Prop}(I:Inv X pins σ H s)(hN:X.N.Nodup)(hi:X.N[i]?=some x)(hx:Loc X.env.scope x)(r:RelV v u)
    (h:∀ s',Inv X pins (σ.set i (some v)) H s'→Q () s') (hf:X.fn x=true∨X.env.scope.names.lookup x=some .local:=by first|exact .inl rfl|exact .inr rfl|assumption):wpAny M A (storeName X.env x u) Q E s :=
  qH I hN hi hx r (λs' I' _=>h s' I') hf
theorem Inv.lY{s':Shared}{ch:List Addr}(I:Inv X pins σ H s)(ho:s'.os=s.os)(u:Un (frs X.stack) ch H H' s.heap s'.heap)(hok:HOk X.prog X.w H' s'.heap)(hg:AllBare s'.gens)
    (hch:∀ b∈ch,(b∈X.ex∨X.s₀.heap.objs.size≤b)∧b≠X.env.locals∧(∀ x c,X.env.cells.lookup x=some c→c≠b)∧∀ p∈X.pn++pins,p.1≠b):Inv X pins σ H' s':=by
  obtain⟨h',g',d',t',o'⟩:=s';have e:o'=s.os:=ho;subst e;exact I.call (g':=g') (t':=t') (d':=d') u hok hg hch
end
abbrev XK:=Value→Option Addr→Hp→Prop
abbrev St:=List (Option V)
abbrev VK:=V→Hp→Prop
abbrev TE:=St→Hp→VK→Prop
abbrev TT:=St→Hp→(Bool→Hp→Prop)→Prop
abbrev TA:=St→Hp→(List V→Hp→Prop)→Prop
structure Ends where
  nx:St→Hp→Prop
  rt:VK
  bk:St→Hp→Prop:=λ_ _=>False
  ct:St→Hp→Prop:=λ_ _=>False
abbrev TS:=Ends→St→Hp→Prop
def EP(X:Cx)(pins:List (Addr×Obj))(σ:St)(Q:VK)(u:Value)(s':Shared):Prop:=∃ v H',Inv X pins σ H' s'∧RelV v u∧Q v H'
def TP(X:Cx)(pins:List (Addr×Obj))(σ:St)(Q:Bool→Hp→Prop)(b:Bool)(s':Shared):Prop:=∃ H',Inv X pins σ H' s'∧Q b H'
def AP(X:Cx)(pins:List (Addr×Obj))(σ:St)(Q:List V→Hp→Prop)(us:List Value)(s':Shared):Prop:=∃ vs H',Inv X pins σ H' s'∧Vals vs us∧Q vs H'
def SP(X:Cx)(pins:List (Addr×Obj))(D:Ends)(f:Flow)(s':Shared):Prop :=
  match f with
  | .next=>∃ σ' H',Inv X pins σ' H' s'∧D.nx σ' H'
  | .brk=>∃ σ' H',Inv X pins σ' H' s'∧D.bk σ' H'
  | .cont=>∃ σ' H',Inv X pins σ' H' s'∧D.ct σ' H'
  | .ret u=>∃ v σ' H',Inv X pins σ' H' s'∧RelV v u∧D.rt v H'
def PE(X:Cx)(e:Expr)(t:TE):Prop :=
  ∀(pins:List (Addr×Obj)) (s:Shared) (σ:St) (H:Hp) (Q:VK),Inv X pins σ H s→t σ H Q→wpAny (model X.prog X.w) X.A (eval e X.env) (EP X pins σ Q) X.xe s
def PT(X:Cx)(e:Expr)(t:TT):Prop :=
  ∀(pins:List (Addr×Obj)) (s:Shared) (σ:St) (H:Hp) (Q:Bool→Hp→Prop),Inv X pins σ H s→t σ H Q→wpAny (model X.prog X.w) X.A (isTrue e X.env (eval e X.env)) (TP X pins σ Q) X.xe s
def PW(X:Cx)(e:Expr)(t:TT):Prop :=
  ∀(whole:Sem Value) (pins:List (Addr×Obj)) (s:Shared) (σ:St) (H:Hp) (Q:Bool→Hp→Prop),Inv X pins σ H s→t σ H Q→wpAny (model X.prog X.w) X.A (isTrue e X.env whole) (TP X pins σ Q) X.xe s
theorem PW.pt{X:Cx}{e:Expr}{t:TT}(h:PW X e t):PT X e t:=h _
def PA(X:Cx)(es:List Expr)(t:TA):Prop :=
  ∀(pos:Pos) (pins:List (Addr×Obj)) (s:Shared) (σ:St) (H:Hp) (Q:List V→Hp→Prop),Inv X pins σ H s→t σ H Q→wpAny (model X.prog X.w) X.A (spliced (backTo pos (starEach es X.env))) (AP X pins σ Q) X.xe s
def PS(X:Cx)(st:Stmt)(t:TS):Prop :=
  ∀(pins:List (Addr×Obj)) (s:Shared) (σ:St) (H:Hp) (D:Ends),Inv X pins σ H s→t D σ H→wpAny (model X.prog X.w) X.A (exec st X.env) (SP X pins D) X.xe s
def PSs(X:Cx)(st:List Stmt)(t:TS):Prop :=
  ∀(pins:List (Addr×Obj)) (s:Shared) (σ:St) (H:Hp) (D:Ends),Inv X pins σ H s→t D σ H→wpAny (model X.prog X.w) X.A (execs st X.env) (SP X pins D) X.xe s
theorem thn{α:Type}{t:Sem α}{Q Q':α→Shared→Prop}{M:Model}{A:Around}{E:Value→Shared→Prop}{s:Shared}(h:wpAny M A t Q E s)(hQ:∀ a s,Q a s→Q' a s):wpAny M A t Q' E s:=wpAny_mono h hQ λ_ _ x=>x
end L2
namespace L2
open PySem PySem.Spec PyProof.Rows
section
variable{X:Cx}
def yo(i:Nat):TE:=λσ H Q=>∃ v,σ[i]?=some (some v)∧Q v H
def tC(v:V):TE:=λ_ H Q=>Q v H
theorem xt{i:Nat}{x:Str}{pos:Pos}(hN:X.N[i]?=some x)(hv:Vis X.env.scope x)(hd:(x == ("__debug__" : Str))=false:=by decide)(hcd:(x == ("__classdict__" : Str))=false:=by decide):PE X (.Name x pos) (yo i):=by
  intro pins s σ H Q I h;obtain⟨v,e,h⟩:=h;obtain⟨m,hn,hl⟩:=I.loc;obtain⟨u,r,l⟩:=hl i x v hN e hv;have fin:EP X pins σ Q u s:=⟨v,H,I,r,h⟩;rcases l with⟨hk,hm⟩|⟨hk,c,hc,uS⟩
  · exact wpAny_Name (wpAny_loadName_local I.ok.kind hk hn hm fin) hd
  · rcases hk with hk|hk
    · exact wpAny_Name (wpAny_loadName_cell I.ok.kind hk hc uS fin) hd
    · exact wpAny_Name (wpAny_loadName_free I.ok.kind hk hc uS fin hcd) hd
theorem ah{i j pos}:PE X (.Constant (.int i) j pos) (tC (.int i)):=λ_ _ _ H _ I h=>wpAny_Constant_int ⟨.int i,H,I.tok _,⟨_,rfl⟩,h⟩
theorem gZ{b j pos}:PE X (.Constant (.bool b) j pos) (tC (.bl b)):=λ_ _ _ H _ I h=>Constant_bool ⟨.bl b,H,I,rfl,h⟩
theorem dU{j pos}:PE X (.Constant .none j pos) (tC .non):=λ_ _ _ H _ I h=>Constant_none ⟨.non,H,I,rfl,h⟩
theorem dB{x j pos}:PE X (.Constant (.str x) j pos) (tC (.str x)):=λ_ _ _ H _ I h=>Calls.Constant_str ⟨.str x,H,I.tok _,⟨_,rfl⟩,h⟩
def Gl(X:Cx)(x:Str):Prop:=X.env.kindOf x=some .globalImplicit
theorem iz{E:Value→Shared→Prop}{pins:List (Addr×Obj)}{s:Shared}{σ:St}{H:Hp}{x:Str}{u:Value}{pos:Pos}{Q:Value→Shared→Prop}(I:Inv X pins σ H s)(hg:Gl X x)(hm:X.mg x=some u)(h:Q u s)
    (hd:(x == ("__debug__" : Str))=false:=by decide):wpAny (model X.prog X.w) X.A (eval (.Name x pos) X.env) Q E s :=
  Eu I.ok.kind hg (Calls.loadGlobal_global (by rw[I.ok.glob];exact I.mod.glob.keeps I.bk) hm h) hd
theorem ie{E:Value→Shared→Prop}{pins:List (Addr×Obj)}{s:Shared}{σ:St}{H:Hp}{x:Str}{u:Value}{pos:Pos}{Q:Value→Shared→Prop}(I:Inv X pins σ H s)(hg:Gl X x)(hm:X.mg x=none)(hv:bootBuiltins x=some u)(h:Q u s)
    (hn:x ≠ "__name__" := by decide) (hd:(x == ("__debug__" : Str))=false:=by decide):wpAny (model X.prog X.w) X.A (eval (.Name x pos) X.env) Q E s:=by
  obtain⟨mb,h1,h2⟩:=I.mod.blt;exact Eu I.ok.kind hg (Calls.loadGlobal_builtin (by rw[I.ok.glob];exact I.mod.glob.keeps I.bk) hm (by rw[I.ok.blt];exact h1.keeps I.bk) ((h2 x hn).trans hv) h) hd
theorem cG{x:Str}{v:V}{u:Value}{pos:Pos}(hg:Gl X x)(hm:X.mg x=some u)(r:RelV v u)(hd:(x == ("__debug__" : Str))=false:=by decide):PE X (.Name x pos) (tC v) :=
  λ_ _ _ H _ I h=>iz I hg hm ⟨v,H,I,r,h⟩ hd
variable{a b:Expr}{ta tb:TE}{pos:Pos}
def tB(t:TE):TT:=λσ H Q=>t σ H λx H1=>∃ c,x=.bl c∧Q c H1
theorem eR{e:Expr}{t:TE}(h:PE X e t)(he:∀ whole,isTrue e X.env whole=(do let v ←whole;standAt e.pos;holding [v] (truthy v)):=by intro _;rfl):PT X e (tB t):=by
  intro pins s σ H Q I hw;refine isTrue_plain (thn (h pins s σ H _ I hw) λv s1 ⟨x,H1,I1,r1,q1⟩=>?_) (he _);obtain⟨d,rfl,q⟩:=q1;cases r1;exact wpAny_truthy_bool ⟨H1,I1,q⟩
variable{tA tB':TT}{rest:List Expr}
def Cb(t u:TT):TT:=λσ H Q=>t σ H λc H1=>if c=true then u σ H1 Q else Q false H1
def tOr(t u:TT):TT:=λσ H Q=>t σ H λc H1=>if c=true then Q true H1 else u σ H1 Q
def Cc(t:TT):TT:=λσ H Q=>t σ H λc H1=>Q (!c) H1
theorem pw_and1(ha:PT X a tA):PW X (.BoolOp .And [a] pos) tA:=by
  intro wh pins s σ H Q I h;refine isTrue_and (thn (ha pins s σ H Q I h) λc s1 e=>?_);cases c with
  | true=>exact isTrue_and_nil e
  | false=>exact e
theorem pw_or1(ha:PT X a tA):PW X (.BoolOp .Or [a] pos) tA:=by
  intro wh pins s σ H Q I h;refine isTrue_or (thn (ha pins s σ H Q I h) λc s1 e=>?_);cases c with
  | false=>exact isTrue_or_nil e
  | true=>exact e
theorem pw_and(ha:PT X a tA)(hb:PW X (.BoolOp .And (b::rest) pos) tB'):PW X (.BoolOp .And (a::b::rest) pos) (Cb tA tB'):=by
  intro wh pins s σ H Q I h;refine isTrue_and (thn (ha pins s σ H _ I h) λc s1 ⟨H1,I1,q1⟩=>?_);cases c with
  | true=>exact hb wh pins s1 σ H1 Q I1 q1
  | false=>exact⟨H1,I1,q1⟩
theorem pw_or(ha:PT X a tA)(hb:PW X (.BoolOp .Or (b::rest) pos) tB'):PW X (.BoolOp .Or (a::b::rest) pos) (tOr tA tB'):=by
  intro wh pins s σ H Q I h;refine isTrue_or (thn (ha pins s σ H _ I h) λc s1 ⟨H1,I1,q1⟩=>?_);cases c with
  | true=>exact⟨H1,I1,q1⟩
  | false=>exact hb wh pins s1 σ H1 Q I1 q1
theorem i0(ha:PT X a tA):PT X (.UnaryOp .Not a pos) (Cc tA):=by
  intro pins s σ H Q I h;exact isTrue_not (ha pins s σ H (λc H1=>Q (!c) H1) I h)
def AG(ta tb:TE):TE:=λσ H Q=>ta σ H λx H1=>∃ c,x=.bl c∧if c=true then tb σ H1 Q else Q (.bl false) H1
def AH(ta:TE):TE:=λσ H Q=>ta σ H λx H1=>∃ c,x=.bl c∧Q (.bl (!c)) H1
theorem ig{op}{t:TE}(h:PE X a t):PE X (.BoolOp op [a] pos) t:=λpins s σ H Q I hw=>BoolOp_one (h pins s σ H Q I hw)
theorem fO(ha:PE X a ta)(hb:PE X (.BoolOp .And (b::rest) pos) tb):PE X (.BoolOp .And (a::b::rest) pos) (AG ta tb):=by
  intro pins s σ H Q I h;refine BoolOp_and (thn (ha pins s σ H _ I h) λv s1 ⟨x,H1,I1,r1,q1⟩=>?_);obtain⟨c,rfl,q1⟩:=q1;cases r1;refine wpAny_truthy_bool ?_;cases c with
  | true=>exact hb pins s1 σ H1 Q I1 q1
  | false=>exact⟨.bl false,H1,I1,rfl,q1⟩
theorem sP(ha:PE X a ta):PE X (.UnaryOp .Not a pos) (AH ta):=by
  intro pins s σ H Q I h;refine UnaryOp_ (thn (ha pins s σ H _ I h) λv s1 ⟨x,H1,I1,r1,q1⟩=>?_);obtain⟨c,rfl,q1⟩:=q1;cases r1;exact not_of (wpAny_truthy_bool ⟨.bl (!c),H1,I1,rfl,q1⟩)
def tIf(t:TT)(ta tb:TE):TE:=λσ H Q=>t σ H λc H1=>if c=true then ta σ H1 Q else tb σ H1 Q
theorem rZ{c:Expr}(hc:PT X c tA)(ha:PE X a ta)(hb:PE X b tb):PE X (.IfExp c a b pos) (tIf tA ta tb):=by
  intro pins s σ H Q I h;refine wpAny_IfExp (thn (hc pins s σ H _ I h) λd s1 ⟨H1,I1,q1⟩=>?_);cases d with
  | true=>exact ha pins s1 σ H1 Q I1 q1
  | false=>exact hb pins s1 σ H1 Q I1 q1
end
end L2
namespace L2
open PySem PySem.Spec PyProof.Rows
def SqL(K:W.Frag)(H:Hp)(a:Addr)(xs:List V):Prop :=
  Rd H a (.lst xs) ∨
    ∃(o:Obj) (its:Array Value) (n:Nat),K.lookup a=some o∧o.cls=.type "list" ∧ o.dict=none∧o.data=.seq its n∧its.size≤sizeLine∧Vals xs its.toList
def SqT(K:W.Frag)(H:Hp)(a:Addr)(xs:List V):Prop :=
  Rd H a (.tup xs) ∨
    ∃(o:Obj) (its:Array Value) (n:Nat),K.lookup a=some o∧o.cls=.type "tuple" ∧ o.data=.seq its n∧its.size≤sizeLine∧Vals xs its.toList
def Cd:Value→Option V
  | .none=>some .non
  | .bool b=>some (.bl b)
  | .int i _=>some (.int i)
  | .str x _=>some (.str x)
  | .bytes b _=>some (.byt b)
  | .float b _=>some (.flt b)
  | .ref a=>some (.ref a)
  | .type n=>some (.ty n)
  | _=>none
theorem RelV.abs{x:V}{u:Value}(r:RelV x u):Cd u=some x:=by
  cases x with
  | non=>cases r;rfl
  | bl _=>cases r;rfl
  | int _=>obtain⟨t,rfl⟩:=r;rfl
  | str _=>obtain⟨t,rfl⟩:=r;rfl
  | byt _=>obtain⟨t,rfl⟩:=r;rfl
  | flt _=>obtain⟨t,rfl⟩:=r;rfl
  | ref _=>cases r;rfl
  | ty _=>cases r;rfl
theorem RelV.inj{x y:V}{u:Value}(r:RelV x u)(q:RelV y u):x=y:=DP (r.abs.symm.trans q.abs)
theorem Vals.inj:∀ {xs ys:List V} {us:List Value},Vals xs us→Vals ys us→xs=ys
  | _,_,_,.nil,.nil=>rfl
  | _,_,_,.cons r t,.cons r' t'=>by rw[r.inj r',Vals.inj t t']
section
variable{X:Cx}{pins:List (Addr×Obj)}{σ:St}{H:Hp}{s:Shared}{a:Addr}{xs ys:List V}
theorem SqL.of{K:W.Frag}(h:H a=some (.lst xs)):SqL K H a xs:=.inl (.inl h)
theorem SqT.of{K:W.Frag}(h:H a=some (.tup xs)):SqT K H a xs:=.inl (.inl h)
theorem Inv.list(I:Inv X pins σ H s)(h:SqL X.K H a xs):∃ its:List Value,Vals xs its∧PlainL s.heap a its.toArray∧xs.length≤sizeLine:=by
  rcases h with h|⟨o,its,n,hk,hc,hd,hs,hz,r⟩
  · obtain⟨z,its,n,r,e⟩:=h.ok I.hok
    exact⟨its,r,⟨_,n,e,rfl,rfl,rfl⟩,z⟩
  · refine⟨its.toList,r,⟨o,n,I.kIn a o hk,hc,hd,by simpa using hs⟩,?_⟩
    have e:=r.length;simp only[Eh]at e;omega
theorem Inv.tuple(I:Inv X pins σ H s)(h:SqT X.K H a xs):∃ its:List Value,Vals xs its∧IsTup s.heap a its.toArray∧xs.length≤sizeLine:=by
  rcases h with h|⟨o,its,n,hk,hc,hs,hz,r⟩
  · obtain⟨z,its,r,p⟩:=h.ok I.hok
    exact⟨its,r,p,z⟩
  · refine⟨its.toList,r,⟨o,I.kIn a o hk,hc,n,by simpa using hs⟩,?_⟩
    have e:=r.length;simp only[Eh]at e;omega
theorem Inv.nA(I:Inv X pins σ H s)(h:SqL X.K H a xs)(h':SqL X.K H a ys):xs=ys:=by
  obtain⟨its,r,⟨o,n,e,_,_,d⟩,_⟩:=I.list h;obtain⟨lN,r',⟨o',n',e',_,_,d'⟩,_⟩:=I.list h';rw[e]at e';cases e';rw[d]at d';injection d' with d1 _
  have:its=lN:=by simpa using congrArg Array.toList d1
  subst this;exact r.inj r'
end
abbrev Cx.kl(X:Cx)(E:Value→Shared→Prop):Cx:={X with xe:=E}
abbrev Cx.nox(X:Cx):Cx:=X.kl λ_ _=>False
theorem Cx.Ok.kl{X:Cx}(ok:X.Ok)(E:Value→Shared→Prop):(X.kl E).Ok :=
  ⟨ok.mod,ok.kind,ok.glob,ok.blt,ok.above,ok.inj,ok.has,ok.cab,ok.hd,ok.frames,ok.stk,ok.exf,ok.bs,ok.bsz,ok.oa,ok.rT,ok.i4,ok.frf⟩
theorem Cx.Ok.fh{X:Cx}{E:Value→Shared→Prop}(ok:(X.kl E).Ok):X.Ok :=
  ⟨ok.mod,ok.kind,ok.glob,ok.blt,ok.above,ok.inj,ok.has,ok.cab,ok.hd,ok.frames,ok.stk,ok.exf,ok.bs,ok.bsz,ok.oa,ok.rT,ok.i4,ok.frf⟩
section
variable{X:Cx}{pins:List (Addr×Obj)}{σ:St}{H:Hp}{s:Shared}{E:Value→Shared→Prop}
theorem Inv.kl(I:Inv X pins σ H s)(E:Value→Shared→Prop):Inv (X.kl E) pins σ H s:=⟨I.ok.kl E,I.os,I.bare,I.base,I.loc,I.cell,I.free,I.ef,I.pin,I.hok,I.len⟩
theorem Inv.fh(I:Inv (X.kl E) pins σ H s):Inv X pins σ H s:=⟨I.ok.fh,I.os,I.bare,I.base,I.loc,I.cell,I.free,I.ef,I.pin,I.hok,I.len⟩
theorem SP.fh{D:Ends}{f:Flow}{s':Shared}(h:SP (X.kl E) pins D f s'):SP X pins D f s':=by
  cases f with
  | next=>obtain⟨σ',H',I,q⟩:=h;exact⟨σ',H',I.fh,q⟩
  | brk=>obtain⟨σ',H',I,q⟩:=h;exact⟨σ',H',I.fh,q⟩
  | cont=>obtain⟨σ',H',I,q⟩:=h;exact⟨σ',H',I.fh,q⟩
  | ret u=>obtain⟨v,σ',H',I,r,q⟩:=h;exact⟨v,σ',H',I.fh,r,q⟩
theorem PSs.nox{st:List Stmt}{t:TS}(h:PSs X.nox st t):PSs X st t:=λpins s σ H D I hw =>
  wpAny_mono (h pins s σ H D (I.kl _) hw) (λ_ _ q=>q.fh) λ_ _ z=>False.elim z
end
section
variable{X:Cx}{st:Stmt}{rest:List Stmt}{t u:TS}{e:Expr}{te:TE}{pos:Pos}
def AI:TS:=λD σ H=>D.nx σ H
def Ce(t u:TS):TS:=λD σ H=>t {D with nx:=u D} σ H
theorem bq:PSs X [] AI:=λ_ _ σ H _ I h=>wpAny_execs_nil ⟨σ,H,I,h⟩
theorem ag(h1:PS X st t)(h2:PSs X rest u):PSs X (st::rest) (Ce t u):=by
  intro pins s σ H D I h;refine wpAny_execs_cons (thn (h1 pins s σ H {D with nx:=u D} I h) λf s1 q=>?_);cases f with
  | next =>
    obtain⟨σ',H',I',q⟩:=q;exact h2 pins s1 σ' H' D I' q
  | ret v=>exact q
  | brk=>exact q
  | cont=>exact q
theorem aq(h1:PS X st t):PSs X [st] t:=by
  intro pins s σ H D I h;refine wpAny_execs_cons (thn (h1 pins s σ H D I h) λf s1 q=>?_);cases f with
  | next=>exact wpAny_execs_nil q
  | ret v=>exact q
  | brk=>exact q
  | cont=>exact q
theorem Inv.quiet{pins:List (Addr×Obj)}{σ:St}{H:Hp}{s:Shared}(I:Inv X pins σ H s):interactive X.env=false:=by simp[interactive,I.ok.kind]
def AJ(te:TE):TS:=λD σ H=>te σ H λ_ H1=>D.nx σ H1
theorem bS(he:PE X e te)(hs:swapsWith e none pos.line X.env=pure false:=by rfl):PS X (.Expr e pos) (AJ te):=by
  intro pins s σ H D I h;exact wpAny_Expr_any (thn (he pins s σ H _ I h) λv s1 ⟨x,H1,I1,r1,q1⟩=>⟨σ,H1,I1,q1⟩) I.quiet hs
def Cf(te:TE):TS:=λD σ H=>te σ H D.rt
theorem aT(he:PE X e te):PS X (.Return (some e) pos) (Cf te):=by
  intro pins s σ H D I h;exact wpAny_Return_some (thn (he pins s σ H _ I h) λv s1 ⟨x,H1,I1,r1,q1⟩=>⟨x,σ,H1,I1,r1,q1⟩)
def Cg(c:TT)(t u:TS):TS:=λD σ H=>c σ H λb H1=>if b=true then t D σ H1 else u D σ H1
theorem dD{c:Expr}{a b:List Stmt}{tc:TT}(hc:PT X c tc)(ha:PSs X a t)(hb:PSs X b u):PS X (.If c a b pos) (Cg tc t u):=by
  intro pins s σ H D I h;refine wpAny_If (thn (hc pins s σ H _ I h) λd s1 ⟨H1,I1,q1⟩=>?_);cases d with
  | true=>exact ha pins s1 σ H1 D I1 q1
  | false=>exact hb pins s1 σ H1 D I1 q1
def xu:TS:=λ_ _ _=>False
theorem qI{sts:List Stmt}:PSs X sts xu:=λ_ _ _ _ _ _ h=>h.elim
end
abbrev TG:=V→St→Hp→(St→Hp→Prop)→Prop
abbrev TGs:=List V→St→Hp→(St→Hp→Prop)→Prop
def PG(X:Cx)(target:Expr)(t:TG):Prop :=
  ∀(pins:List (Addr×Obj)) (s:Shared) (σ:St) (H:Hp) (v:V) (u:Value) (Q:St→Hp→Prop),Inv X pins σ H s→RelV v u→t v σ H Q →
    wpAny (model X.prog X.w) X.A (assign target X.env u) (λ_ s'=>∃ σ' H',Inv X pins σ' H' s'∧Q σ' H') X.xe s
def PGs(X:Cx)(ts:List Expr)(t:TGs):Prop :=
  ∀(pins:List (Addr×Obj)) (s:Shared) (σ:St) (H:Hp) (vs:List V) (us:List Value) (Q:St→Hp→Prop),Inv X pins σ H s→Vals vs us→t vs σ H Q →
    wpAny (model X.prog X.w) X.A (assignInOrder ((assignEach ts X.env).map (·.2)) us) (λ_ s'=>∃ σ' H',Inv X pins σ' H' s'∧Q σ' H') X.xe s
abbrev yp:=V→V→V→Hp→(Hp→Prop)→Prop
def Bq(X:Cx)(t:yp):Prop :=
  ∀(pins:List (Addr×Obj)) (s:Shared) (σ:St) (H:Hp) (o i v:V) (ov iv u:Value) (Q:Hp→Prop),Inv X pins σ H s→RelV o ov→RelV i iv→RelV v u→t o i v H Q →
    wpAny (model X.prog X.w) X.A (setItem ov iv u) (λ_ s'=>∃ H',Inv X pins σ H' s'∧Q H') X.xe s
section
variable{X:Cx}{pos:Pos}
def gC(i:Nat):TG:=λv σ H Q=>Q (σ.set i (some v)) H
theorem br{i:Nat}{x:Str}(hN:X.N.Nodup)(hi:X.N[i]?=some x)(hx:Loc X.env.scope x)(hf:X.fn x=true∨X.env.scope.names.lookup x=some .local:=by first|exact .inl rfl|exact .inr rfl|assumption):PG X (.Name x pos) (gC i):=by
  intro pins s σ H v u Q I r h;exact wpAny_assign_Name (jB I hN hi hx r (λs' I'=>⟨_,H,I',h⟩) hf)
def Br:TGs:=λvs σ H Q=>vs=[]∧Q σ H
def tE(t:TG)(u:TGs):TGs:=λvs σ H Q=>∃ v r,vs=v::r∧t v σ H λσ' H'=>u r σ' H' Q
theorem iA:PGs X [] Br:=by
  intro pins s σ H vs us Q I r h;obtain⟨e,h⟩:=h;subst e;cases r;exact assignInOrder_nil ⟨σ,H,I,h⟩
theorem cS{e:Expr}{es:List Expr}{t:TG}{u:TGs}(h1:PG X e t)(h2:PGs X es u)
    (hs:(assignEach (e::es) X.env).map (·.2)=assign e X.env::(assignEach es X.env).map (·.2):=by rfl):PGs X (e::es) (tE t u):=by
  intro pins s σ H vs us Q I r h;obtain⟨v,vr,e1,h⟩:=h;subst e1;cases r with
  | cons r rr =>
    rw[hs];refine assignInOrder_cons (thn (h1 pins s σ H _ _ _ I r h) λ_ s1 ⟨σ1,H1,I1,q1⟩=>?_);exact h2 pins s1 σ1 H1 _ _ Q I1 rr q1
def Bs(K:W.Frag)(n:Nat)(t:TGs):TG:=λv σ H Q=>∃ a xs,v=.ref a∧SqT K H a xs∧xs.length=n∧t xs σ H Q
theorem jI{es:List Expr}{k:Nat}{t:TGs}{n:Nat}(hc:X.calm=true)(h:PGs X es t)
    (hn:(assignEach es X.env).length=n:=by rfl) (hst:(assignEach es X.env).findIdx? (·.1)=none:=by rfl):PG X (.Tuple es k pos) (Bs X.K n t):=by
  intro pins s σ H v u Q I r hw;obtain⟨a,xs,e1,hq,hl,hw⟩:=hw;subst e1;cases r;obtain⟨its,rv,ht,hz⟩:=I.tuple hq;refine assign_Tuple_tuple (I.ok.hd hc) ht (by simp[hn,←hl,rv.length]) hst λh' hx=>?_;have I1:Inv X pins σ H {s with heap:=h'}:=I.kept (t':=s.toks) λb o e=>hx b o (Dq (Dh e)) e;exact h pins _ σ H xs _ Q I1 (by simpa using rv) hw
def Ci(to ti:TE)(t:yp):TG:=λv σ H Q=>to σ H λo H1=>ti σ H1 λi H2=>t o i v H2 λH3=>Q σ H3
theorem xv{o i:Expr}{to ti:TE}{t:yp}(ho:PE X o to)(hi:PE X i ti)(hs:Bq X t)
    (ha:∀ v,assign (.Subscript o i pos) X.env v=(do
      let ov ←holding [v] (eval o X.env)
      let iv ←holding [v,ov] (eval i X.env)
      standAt pos
      holding [v,ov,iv] (setItem ov iv v)
      release [v,ov,iv] []):=by intro _;rfl):PG X (.Subscript o i pos) (Ci to ti t):=by
  intro pins s σ H v u Q I r h;rw[ha];refine wpAny_bind (wpAny_holding (thn (ho pins s σ H _ I h) λov s1 ⟨x,H1,I1,r1,q1⟩=>?_));refine wpAny_bind (wpAny_holding (thn (hi pins s1 σ H1 _ I1 q1) λiv s2 ⟨y,H2,I2,r2,q2⟩=>?_));refine wpAny_bind (wpAny_standAt (wpAny_bind (wpAny_holding (thn (hs pins s2 σ H2 x y v ov iv u _ I2 r1 r2 r q2) λ_ s3 ⟨H3,I3,q3⟩=>?_))));exact wpAny_release ⟨σ,H3,I3,q3⟩
def uT(te:TE)(g:TG):TS:=λD σ H=>te σ H λx H1=>g x σ H1 D.nx
theorem sQ{tg e:Expr}{te:TE}{g:TG}(he:PE X e te)(hg:PG X tg g)(hs:swapsWithSole [tg] e pos.line X.env=pure false:=by rfl)(hw:swappedStores [tg] e X.env=pure none:=by rfl)
    (h1:(assignEach [tg] X.env).map (·.2)=[assign tg X.env]:=by rfl):PS X (.Assign [tg] e pos) (uT te g):=by
  intro pins s σ H D I h;refine wpAny_Assign_stores (thn (he pins s σ H _ I h) λv s1 ⟨x,H1,I1,r1,q1⟩=>?_) hs hw;rw[h1];exact thn (hg pins s1 σ H1 x v _ I1 r1 q1) λ_ s2 q=>q
theorem aU{i:Nat}{x:Str}{e:Expr}{te:TE}{pos':Pos}(hN:X.N.Nodup)(hi:X.N[i]?=some x)(hx:Loc X.env.scope x)(he:PE X e te)(hs:swapsWith e (some (.Name x pos')) pos.line X.env=pure false:=by rfl)(hf:X.fn x=true∨X.env.scope.names.lookup x=some .local:=by first|exact .inl rfl|exact .inr rfl|assumption) :
    PS X (.Assign [.Name x pos'] e pos) (uT te (gC i)):=by
  intro pins s σ H D I h;refine wpAny_Assign_Name (thn (he pins s σ H _ I h) λv s1 ⟨y,H1,I1,r1,q1⟩=>?_) hs;exact jB I1 hN hi hx r1 (λs2 I2=>⟨_,H1,I2,q1⟩) hf
end
section
variable{X:Cx}{pos:Pos}
def xw(c:TT)(tb:TS):TS:=λD σ H=>∃ W:Nat→St→Hp→Prop,(∃ m,W m σ H)∧∀ m σ H,W m σ H →
  c σ H λb H1=>if b=true then ∃ N:St→Hp→Prop,(∀ σ' H',N σ' H'→∃ m',m'<m∧W m' σ' H')∧tb {D with nx:=N,ct:=N,bk:=D.nx} σ H1 else D.nx σ H1
theorem r6{c:Expr}{body:List Stmt}{tc:TT}{tb:TS}(hp:PassesOwn (model X.prog X.w) X.A X.env X.xe)(hc:PT X c tc)(hb:PSs X body tb):PS X (.While c body [] pos) (xw tc tb):=by
  intro pins s σ H D I h;obtain⟨W,⟨m0,w0⟩,turn⟩:=h;refine wpAny_While (codeAny_whileLoop (λn s'=>∃ σ' H',Inv X pins σ' H' s'∧W n σ' H') ?_ m0 ⟨σ,H,I,w0⟩);rintro n s1 ⟨σ1,H1,I1,w1⟩;refine wpAny_passesOwn hp (thn (hc pins s1 σ1 H1 _ I1 (turn n σ1 H1 w1)) λb s2 ⟨H2,I2,q2⟩=>?_);cases b with
  | true =>
    obtain⟨N,hN,q2⟩:=q2;rw[if_pos rfl];refine wpAny_passesOwn hp (thn (hb pins s2 σ1 H2 _ I2 q2) λf s3 q3=>?_);cases f with
    | next =>
      obtain⟨σ3,H3,I3,n3⟩:=q3;obtain⟨m',hm,w3⟩:=hN σ3 H3 n3;exact⟨m',hm,σ3,H3,I3,w3⟩
    | cont =>
      obtain⟨σ3,H3,I3,n3⟩:=q3;obtain⟨m',hm,w3⟩:=hN σ3 H3 n3;exact⟨m',hm,σ3,H3,I3,w3⟩
    | brk=>exact q3
    | ret v=>exact q3
  | false =>
    rw[if_neg Df];exact wpAny_execs_nil ⟨σ1,H2,I2,q2⟩
end
structure It where
  go:Nat→Hp→Prop
  yld:Nat→Hp→V→Hp→Prop
  stop:Nat→Hp→Prop
def iK(X:Cx)(pins:List (Addr×Obj))(H:Hp)(b:Addr):Prop :=
  H b=none∧b≠X.env.locals∧b∉X.fs∧(b∈X.ex∨X.s₀.heap.objs.size≤b)∧(∀ x c,X.env.cells.lookup x=some c→c≠b)∧∀ p∈X.pn++pins,p.1≠b
theorem Inv.tU{X:Cx}{pins:List (Addr×Obj)}{σ:St}{H H':Hp}{s:Shared}{b:Addr}(I:Inv X pins σ H s)(hb:s.heap.objs.size≤b)(hn:H' b=none):iK X pins H' b:=by
  refine⟨hn,Ei (Dm I.lt hb),I.B9 hb,.inr (DK I.sz hb),λx c e z=>?_,λp hp z=>?_⟩
  · obtain⟨v,q⟩:=I.cell x c e
    exact absurd (Dm q.lt (by rw[z];exact hb)) (DX _)
  · exact absurd (Dm (Dh (I.pin p hp).1) (by rw[z];exact hb)) (DX _)
structure Turn(P:Program)(w:World)(K:W.Frag)(tg:Expr)(J:It)(fp:List Addr)(it:Addr)(tn:Nat→Heap→Prop):Prop where
  mem:it∈fp
  obj:∀ i h,tn i h→∀ b∈fp,∃ o,h.get? b=some o∧∀ v,o.data≠.cell v
  keep:∀ i h h',tn i h→(∀ b∈fp,∀ o,h.get? b=some o→h'.get? b=some o)→tn i h'
  item:∀(X:Cx),X.prog=P→X.w=w→X.K=K→X.calm=true→∀(i:Nat) (pins:List (Addr×Obj)) (s:Shared) (σ:St) (H:Hp) (E:Value→Shared→Prop),Inv X pins σ H s→(∀ b∈fp,iK X pins H b)→tn i s.heap→J.go i H →
    wpAny (model P w) X.A (pyNext (.ref it)) (λr s1=>∃ u,r=some u ∧
      wpAny (model P w) X.A (letOwnedTupleGo tg (.ref it) u) (λ_ s2=>∃ x H',Inv X pins σ H' s2∧RelV x u∧J.yld i H x H'∧tn (i+1) s2.heap∧∀ b∈fp,H' b=none) E s1) E s
  done:∀(X:Cx),X.prog=P→X.w=w→X.K=K→X.calm=true→∀(i:Nat) (pins:List (Addr×Obj)) (s:Shared) (σ:St) (H:Hp) (E:Value→Shared→Prop),Inv X pins σ H s→(∀ b∈fp,iK X pins H b)→tn i s.heap→J.stop i H →
    wpAny (model P w) X.A (pyNext (.ref it)) (λr s1=>r=none∧Inv X pins σ H s1) E s
  self:∀(A:Around) (i:Nat) (s:Shared) (Q:Value→Shared→Prop) (E:Value→Shared→Prop),tn i s.heap→Q (.ref it) s→wpAny (model P w) A (pyIter (.ref it)) Q E s
abbrev TI:=St→Hp→(It→Hp→Prop)→Prop
def PIE(X:Cx)(pins:List (Addr×Obj))(σ:St)(tg:Expr)(R:It→Hp→Prop)(itv:Value)(s2:Shared):Prop :=
  ∃(it:Addr) (fp:List Addr) (tn:Nat→Heap→Prop) (J:It) (H':Hp),itv=.ref it∧Inv X pins σ H' s2∧Turn X.prog X.w X.K tg J fp it tn∧tn 0 s2.heap∧(∀ b∈fp,iK X pins H' b)∧R J H'
def PI(X:Cx)(tg iter:Expr)(wi:TI):Prop :=
  ∀(pins:List (Addr×Obj)) (s:Shared) (σ:St) (H:Hp) (R:It→Hp→Prop),Inv X pins σ H s→wi σ H R →
    wpAny (model X.prog X.w) X.A (eval iter X.env) (λv s1=>wpAny (model X.prog X.w) X.A (pyIter v) (PIE X pins σ tg R) X.xe s1) X.xe s
theorem uU{M:Model}{A:Around}{E:Value→Shared→Prop}{s:Shared}{tg:Expr}{it:Addr}{u:Value}{o:Obj}{n:String}{vs:Array Value}{Q:Unit→Shared→Prop}(ho:s.heap.get? it=some o)(hc:o.cls=.type n)(hd:o.data=.fields vs)
    (hn:["enumerate", "zip", "dict_itemiterator", "dict_reverseitemiterator", "odict_iterator", "itertools.zip_longest", "itertools.pairwise"].contains n=false) (hQ:Q () s):wpAny M A (letOwnedTupleGo tg (.ref it) u) Q E s:=by
  unfold letOwnedTupleGo;cases tg<;>first
    | exact wpAny_pure hQ
    | (cases u<;>first
        | exact wpAny_pure hQ
        | (refine wpAny_bind (wpAny_load ho ?_)
           rw[hc,hd];show wpAny M A (if(["enumerate", "zip", "dict_itemiterator", "dict_reverseitemiterator", "odict_iterator", "itertools.zip_longest", "itertools.pairwise"].contains n&&vs[0]? == some (rawInt _))=true then _ else _) Q E s;rw[if_neg (by intro h;rw[hn,Bool.false_and]at h;cases h)];exact wpAny_pure hQ))
def Itl(K:W.Frag)(a:Addr):It :=
  ⟨λi H=>∃ xs x,SqL K H a xs∧xs[i]?=some x,λi H x H'=>H'=H∧∀ xs,SqL K H a xs→xs[i]?=some x,λi H=>∃ xs,SqL K H a xs∧xs.length≤i⟩
def Itr(lo:Int)(n:Nat):It:=⟨λi _=>i<n,λi H x H'=>H'=H∧x=.int (lo+i),λi _=>n≤i⟩
theorem qJ{P:Program}{w:World}{K:W.Frag}{tg:Expr}(a it:Addr):Turn P w K tg (Itl K a) [it] it (λi h=>h.IsListIter it a i) where
  mem:=by simp
  obj:=λi h st b hb=>by
    have e:b=it:=(by simpa using hb);subst e;obtain⟨o,e,c,d⟩:=st;exact⟨o,e,λv z=>by rw[d]at z;cases z⟩
  keep:=λi h h' st k=>st.at λo e=>k it (by simp) o e
  item:=by
    intro X hP hw hK hc i pins s σ H E I hf st hg;subst hP hw hK;obtain⟨xs,x,hq,hx⟩:=hg;obtain⟨its,rv,p,hz⟩:=I.list hq;obtain⟨u,hu,ru⟩:=rv.get hx;obtain⟨f0,f1,f2,f3,f4,f5⟩:=hf it (by simp);refine wpAny_pyNext_list_item st p.isList (x:=u) (by simpa using hu) λh' st' sb=>?_;have I1:Inv X pins σ H {s with heap:=h'}:=I.turned (t':=s.toks) (λb o hb e=>(sb.2 b hb).trans e) f0 f1 f3 f4 f5;obtain⟨o,e,c,d⟩:=id st';exact⟨u,rfl,uU (s:={s with heap:=h'}) e c d (by decide) ⟨x,H,I1,ru,⟨rfl,λys hy=>by rw[I.nA hy hq];exact hx⟩,st',λb hb=>(hf b hb).1⟩⟩
  done:=by
    intro X hP hw hK hc i pins s σ H E I hf st hg;subst hP hw hK;obtain⟨xs,hq,hx⟩:=hg;obtain⟨its,rv,p,hz⟩:=I.list hq;obtain⟨f0,f1,f2,f3,f4,f5⟩:=hf it (by simp);have hl:=rv.length;exact wpAny_pyNext_list_end (I.ok.hd hc) st p.isList (by simp;omega) λh' eb=>⟨rfl,I.turned (t':=s.toks) (λb o hb e=>eb b o hb e) f0 f1 f3 f4 f5⟩
  self:=λ_ _ _ _ _ st h=>wpAny_pyIter_listiter st h
theorem og{P:Program}{w:World}{K:W.Frag}{tg:Expr}(it:Addr)(lo:Int)(n:Nat):Turn P w K tg (Itr lo n) [it] it (λi h=>IsRangeIter h it (lo+(i:Nat)*1) ((n:Int)-(i:Nat)) 1) where
  mem:=by simp
  obj:=λi h st b hb=>by
    have e:b=it:=(by simpa using hb);subst e;exact⟨_,st,λv z=>by
      have z':Data.fields _=Data.cell v:=z;cases z'⟩
  keep:=λi h h' st k=>k it (by simp) _ st
  item:=by
    intro X hP hw hK hc i pins s σ H E I hf st hg;subst hP hw hK;obtain⟨f0,f1,f2,f3,f4,f5⟩:=hf it (by simp);have W:=Walks.range (prog:=X.prog) (w:=X.w) (I.ok.hd hc) it lo 1 n;refine W.item i s _ _ hg st λv h' tk hv st' kk=>?_;obtain⟨t,rfl⟩:=hv;have I1:Inv X pins σ H {s with heap:=h',toks:=tk}:=I.turned (λb o hb e=>kk b o (by simpa using hb) e) f0 f1 f3 f4 f5;refine⟨_,rfl,uU (s:={s with heap:=h',toks:=tk}) (n := "range_iterator") st' rfl rfl (by decide) ⟨.int (lo+i),H,I1,⟨t,?_⟩,⟨rfl,rfl⟩,st',λb hb=>(hf b hb).1⟩⟩;rw[Int.mul_one]
  done:=by
    intro X hP hw hK hc i pins s σ H E I hf st hg;subst hP hw hK;obtain⟨f0,f1,f2,f3,f4,f5⟩:=hf it (by simp);exact wpAny_pyNext_range_end (I.ok.hd hc) st (by have:n≤i:=hg;omega) λh' eb=>⟨rfl,I.turned (t':=s.toks) (λb o hb e=>eb b o hb e) f0 f1 f3 f4 f5⟩
  self:=λ_ _ _ _ _ st h=>wpAny_pyIter_rangeiter st h
end L2
namespace L2
open PySem PySem.Spec PyProof.Rows
section
variable{X:Cx}{tg:Expr}
def AK(K:W.Frag)(tl:TE):TI:=λσ H R=>tl σ H λx H1=>∃ a,x=.ref a∧(∃ xs,SqL K H1 a xs)∧R (Itl K a) H1
theorem eY{l:Expr}{tl:TE}(hl:PE X l tl):PI X tg l (AK X.K tl):=by
  intro pins s σ H R I h;refine thn (hl pins s σ H _ I h) λv s1 ⟨x,H1,I1,r1,q1⟩=>?_;obtain⟨a,e,⟨xs,hq⟩,q⟩:=q1;subst e;cases r1;obtain⟨its,rv,p,hz⟩:=I1.list hq;refine wpAny_pyIter_list p.isList ?_;refine⟨s1.heap.objs.size,[s1.heap.objs.size],_,_,H1,rfl,I1.kept (t':=s1.toks) λb o e=>C9 _ e,qJ a _,⟨_,DB _ rfl,rfl,rfl⟩,λb hb=>?_,q⟩;have e:b=s1.heap.objs.size:=by simpa using hb
  subst e;exact I1.tU (Dk _) (I1.hok.fresh (Dk _))
theorem nB{pins:List (Addr×Obj)}{σ:St}{H:Hp}{s:Shared}{R:It→Hp→Prop}{E:Value→Shared→Prop}{lo hi:Int}{t u v:Tok}{tk:Nat}(I:Inv X pins σ H s)(h1:-(2 ^ 62)≤lo)(h2:lo<2 ^ 62)(h3:-(2 ^ 62)≤hi)(h4:hi<2 ^ 62)
    (q:R (Itr lo (hi-lo).toNat) H):wpAny (model X.prog X.w) X.A (pyIter (.ref s.heap.objs.size)) (PIE X pins σ tg R) E {s with heap:=s.heap.push {cls:=.type "range",data:=.fields #[.int lo t,.int hi u,.int 1 v]},toks:=tk}:=by
  refine wpAny_pyIter_range (IsRange.new ..) (small_one h1 h2 h3 h4) ?_;have I1:Inv X pins σ H {s with heap:=s.heap.push {cls:=.type "range",data:=.fields #[.int lo t,.int hi u,.int 1 v]},toks:=tk}:=I.kept λb o e=>C9 _ e;refine⟨(s.heap.push {cls:=.type "range",data:=.fields #[.int lo t,.int hi u,.int 1 v]}).objs.size,[(s.heap.push {cls:=.type "range",data:=.fields #[.int lo t,.int hi u,.int 1 v]}).objs.size],_,_,H,rfl,
    I1.kept (t':=tk) λb o e=>C9 _ e,og _ lo (hi-lo).toNat,?_,λb hb=>?_,q⟩
  · have e1:lo+((0:Nat):Int)*1=lo:=by simp
    have e2:(((hi-lo).toNat:Nat):Int)-((0:Nat):Int)=Builtin.Range.rangeSize lo hi 1:=(by rw[rangeSize_one];split<;>omega);show IsRangeIter _ _ (lo+((0:Nat):Int)*1) ((((hi-lo).toNat:Nat):Int)-((0:Nat):Int)) 1;rw[e1,e2];exact DB _ rfl
  · have e:b=(s.heap.push {cls:=.type "range",data:=.fields #[.int lo t,.int hi u,.int 1 v]}).objs.size:=by simpa using hb
    subst e;exact I1.tU (Dk _) (I1.hok.fresh (Dk _))
def AL(ta:TA):TI:=λσ H R=>ta σ H λvs H1=>∃ j:Int,vs=[.int j]∧-(2 ^ 62)≤j∧j<2 ^ 62∧R (Itr 0 j.toNat) H1
def AM(ta:TA):TI:=λσ H R=>ta σ H λvs H1=>∃ i j:Int,vs=[.int i,.int j]∧(-(2 ^ 62)≤i∧i<2 ^ 62∧-(2 ^ 62)≤j∧j<2 ^ 62)∧R (Itr i (j-i).toNat) H1
theorem d7{a:Expr}{ta:TA}{p pos:Pos}(hg:Gl X "range")(hm:X.mg "range" = none)(ha:PA X [a] ta)(hs:starEach [a] X.env=[(false,eval a X.env)]:=by rfl):PI X tg (.Call (.Name "range" p) [a] [] pos) (AL ta):=by
  intro pins s σ H R I h;refine Call_ (ie I hg hm boot_range (PyProof.Rows.callWith_type1 (thn (ha pos pins s σ H _ I h) λus s1 ⟨vs,H1,I1,r1,q1⟩=>?_) hs rfl));obtain⟨j,e,q1,q2,q⟩:=q1;subst e;cases r1 with
  | cons r rr =>
    cases rr;obtain⟨t,rfl⟩:=r;exact call_range_1 (nB I1 (by omega) (by omega) q1 q2 (by simpa using q))
theorem qK{a b:Expr}{ta:TA}{p pos:Pos}(hg:Gl X "range")(hm:X.mg "range" = none)(ha:PA X [a,b] ta)(hs:starEach [a,b] X.env=[(false,eval a X.env),(false,eval b X.env)]:=by rfl)(hs2:starEach [b] X.env=[(false,eval b X.env)]:=by rfl) :
    PI X tg (.Call (.Name "range" p) [a,b] [] pos) (AM ta):=by
  intro pins s σ H R I h;refine Call_ (ie I hg hm boot_range (PyProof.Rows.callWith_type1 (thn (ha pos pins s σ H _ I h) λus s1 ⟨vs,H1,I1,r1,q1⟩=>?_) (by rw[hs,hs2]) (by rw[hs2];rfl)));obtain⟨i,j,e,⟨q1,q2,q3,q4⟩,q⟩:=q1;subst e;cases r1 with
  | cons r rr =>
    cases rr with
    | cons r' rr =>
      cases rr;obtain⟨t,rfl⟩:=r;obtain⟨t',rfl⟩:=r';exact call_range_2 (nB I1 q1 q2 q3 q4 q)
def Cj(wi:TI)(g:TG)(tb:TS):TS:=λD σ H=>wi σ H λJ H1=>∃ W:Nat→Nat→St→Hp→Prop,(∃ m,W 0 m σ H1)∧∀ i m σ H,W i m σ H →
  (J.stop i H∧D.nx σ H)∨(J.go i H∧∃ N:St→Hp→Prop,(∀ σ' H',N σ' H'→∃ m',m'<m∧W (i+1) m' σ' H')∧∀ x H',J.yld i H x H'→g x σ H' λσ2 H2=>tb {D with nx:=N,ct:=N,bk:=D.nx} σ2 H2)
def lZ(fp:List Addr)(h:Heap):List (Addr×Obj):=fp.filterMap λb=>(h.get? b).map λo=>(b,o)
theorem bP{fp:List Addr}{h:Heap}{b:Addr}{o:Obj}(hb:b∈fp)(e:h.get? b=some o):(b,o)∈lZ fp h:=DV.mpr ⟨b,hb,by rw[e];rfl⟩
theorem qL{fp:List Addr}{h:Heap}{p:Addr×Obj}(hp:p∈lZ fp h):p.1∈fp∧h.get? p.1=some p.2:=by
  obtain⟨b,hb,e⟩:=DV.mp hp;cases q:h.get? b with
  | none=>rw[q]at e;cases e
  | some o =>
    rw[q]at e;have e':(b,o)=p:=DP e;subst e';exact⟨hb,q⟩
theorem Inv.pinned{pins:List (Addr×Obj)}{σ:St}{H:Hp}{s:Shared}{fp:List Addr}(I:Inv X pins σ H s)(hf:∀ b∈fp,iK X pins H b)(ho:∀ b∈fp,∃ o,s.heap.get? b=some o∧∀ v,o.data≠.cell v):Inv X (pins++lZ fp s.heap) σ H s :=
  I.p9 λp hp=>(Dz.mp hp).elim (λz=>I.pin p (Di _ z)) λz=>by
    obtain⟨hb,e⟩:=qL z;obtain⟨f0,f1,f2,_⟩:=hf p.1 hb;obtain⟨o,e',d⟩:=ho p.1 hb;rw[e]at e';cases e';exact⟨e,f0,f1,f2,d⟩
theorem Inv.dO{pins pl:List (Addr×Obj)}{σ:St}{H:Hp}{s:Shared}(I:Inv X (pins++pl) σ H s):Inv X pins σ H s:=I.p9 λp hp=>I.pin p (Di _ (DO _ hp))
theorem fP{iter:Expr}{body:List Stmt}{wi:TI}{g:TG}{tb:TS}{pos:Pos}(hp:PassesOwn (model X.prog X.w) X.A X.env X.xe)(hc:X.calm=true)(hi:PI X tg iter wi)(hg:PG X tg g)(hb:PSs X body tb)
    (hs:∀ x,foldedSetIterable iter X.env x=pure x:=by intro _;rfl):PS X (.For tg iter body [] pos) (Cj wi g tb):=by
  intro pins s σ H D I h;refine wpAny_For (thn (hi pins s σ H _ I h) λv s1 h1=>thn h1 λitv s2 h2=>?_) hs;obtain⟨it,fp,tn,J,H2,e,I2,T,st2,f2,W,⟨m0,w0⟩,turn⟩:=h2;subst e;have i6:∀ {H':Hp},(∀ b∈fp,H' b=none)→∀ b∈fp,iK X pins H' b:=λhn b hb=>⟨hn b hb,(f2 b hb).2⟩;refine codeAny_forLoop_any (λn s'=>∃ i σ' H',Inv X pins σ' H' s'∧tn i s'.heap∧(∀ b∈fp,H' b=none)∧W i n σ' H') ?_ m0 ⟨0,σ,H2,I2,st2,λb hb=>(f2 b hb).1,w0⟩;rintro n s3 ⟨i,σ3,H3,I3,st3,fr3,w3⟩;rcases turn i n σ3 H3 w3 with⟨stop,qn⟩|⟨go,N,hN,step⟩
  · refine wpAny_passesOwn hp (thn (T.done X rfl rfl rfl hc i pins s3 σ3 H3 X.xe I3 (i6 fr3) st3 stop) λr s4 ⟨hr,I4⟩=>?_)
    subst hr;exact wpAny_execs_nil ⟨σ3,H3,I4,qn⟩
  · refine wpAny_passesOwn hp (thn (T.item X rfl rfl rfl hc i pins s3 σ3 H3 X.xe I3 (i6 fr3) st3 go) λr s4 ⟨u,hr,h4⟩=>?_)
    subst hr;refine wpAny_passesOwn hp (thn h4 λ_ s5 ⟨x,H5,I5,r5,y5,st5,fr5⟩=>?_);have I5':=I5.pinned (i6 fr5) (T.obj _ _ st5);refine wpAny_passesOwn hp (thn (hg _ s5 σ3 H5 x u _ I5' r5 (step x H5 y5)) λ_ s6 ⟨σ6,H6,I6,q6⟩=>?_);refine wpAny_passesOwn hp (thn (hb _ s6 σ6 H6 _ I6 q6) λf s7 q7=>?_);have again:∀ {σ7:St} {H7:Hp},Inv X (pins++lZ fp s5.heap) σ7 H7 s7→N σ7 H7→∃ m,m<n∧∃ i σ' H',Inv X pins σ' H' s7∧tn i s7.heap∧(∀ b∈fp,H' b=none)∧W i m σ' H':=λ{σ7 H7} I7 n7=>by
      obtain⟨m',hm,w7⟩:=hN σ7 H7 n7;refine⟨m',hm,i+1,σ7,H7,I7.dO,T.keep _ _ _ st5 λb hb o e=>(I7.pin (b,o) (Di _ (Di _ (bP hb e)))).1,λb hb=>?_,w7⟩;obtain⟨o,e,d⟩:=T.obj _ _ st5 b hb;exact(I7.pin (b,o) (Di _ (Di _ (bP hb e)))).2.1
    cases f with
    | next=>obtain⟨σ7,H7,I7,n7⟩:=q7;exact again I7 n7
    | cont=>obtain⟨σ7,H7,I7,n7⟩:=q7;exact again I7 n7
    | brk=>obtain⟨σ7,H7,I7,q7⟩:=q7;exact⟨σ7,H7,I7.dO,q7⟩
    | ret v=>obtain⟨x7,σ7,H7,I7,r7,q7⟩:=q7;exact⟨x7,σ7,H7,I7.dO,r7,q7⟩
end
theorem gv{K:W.Frag}{a:Addr}{xs:List V}{g:TG}{tb:TS}{D:Ends}{σ:St}{H:Hp}(Pv:Nat→St→Hp→Prop)(h0:Pv 0 σ H)(hl:∀ i σ H,i≤xs.length→Pv i σ H→SqL K H a xs)
    (hs:∀ i x σ H,xs[i]?=some x→Pv i σ H→g x σ H λσ2 H2=>tb {D with nx:=Pv (i+1),ct:=Pv (i+1),bk:=D.nx} σ2 H2) (hd:∀ σ H,Pv xs.length σ H→D.nx σ H) :
    ∃ W:Nat→Nat→St→Hp→Prop,(∃ m,W 0 m σ H)∧∀ i m σ H,W i m σ H →
      ((Itl K a).stop i H∧D.nx σ H)∨((Itl K a).go i H∧∃ N:St→Hp→Prop,(∀ σ' H',N σ' H'→∃ m',m'<m∧W (i+1) m' σ' H')∧∀ x H',(Itl K a).yld i H x H'→g x σ H' λσ2 H2=>tb {D with nx:=N,ct:=N,bk:=D.nx} σ2 H2):=by
  refine⟨λi m σ H=>m=xs.length-i∧i≤xs.length∧Pv i σ H,⟨xs.length,by simp,DQ _,h0⟩,?_⟩;rintro i m σ H ⟨rfl,hi,p⟩;have q:=hl i σ H hi p;by_cases hlt:i<xs.length
  · refine .inr ⟨⟨xs,xs[i],q,by simp[hlt]⟩,Pv (i+1),λσ' H' p'=>⟨xs.length-(i+1),by omega,rfl,hlt,p'⟩,λx H' y=>?_⟩
    obtain⟨e,y⟩:=y;subst e;exact hs i x σ _ (y xs q) p
  · have e:i=xs.length:=by omega
    subst e;exact .inl ⟨⟨xs,q,Dk _⟩,hd σ H p⟩
theorem km{lo:Int}{n:Nat}{g:TG}{tb:TS}{D:Ends}{σ:St}{H:Hp}(Pv:Nat→St→Hp→Prop)(h0:Pv 0 σ H)
    (hs:∀ i σ H,i<n→Pv i σ H→g (.int (lo+i)) σ H λσ2 H2=>tb {D with nx:=Pv (i+1),ct:=Pv (i+1),bk:=D.nx} σ2 H2) (hd:∀ σ H,Pv n σ H→D.nx σ H) :
    ∃ W:Nat→Nat→St→Hp→Prop,(∃ m,W 0 m σ H)∧∀ i m σ H,W i m σ H →
      ((Itr lo n).stop i H∧D.nx σ H)∨((Itr lo n).go i H∧∃ N:St→Hp→Prop,(∀ σ' H',N σ' H'→∃ m',m'<m∧W (i+1) m' σ' H')∧∀ x H',(Itr lo n).yld i H x H'→g x σ H' λσ2 H2=>tb {D with nx:=N,ct:=N,bk:=D.nx} σ2 H2):=by
  refine⟨λi m σ H=>m=n-i∧i≤n∧Pv i σ H,⟨n,by simp,DQ _,h0⟩,?_⟩;rintro i m σ H ⟨rfl,hi,p⟩;by_cases hlt:i<n
  · refine .inr ⟨hlt,Pv (i+1),λσ' H' p'=>⟨n-(i+1),by omega,rfl,hlt,p'⟩,λx H' y=>?_⟩
    obtain⟨e,y⟩:=y;subst e y;exact hs i σ _ hlt p
  · have e:i=n:=by omega
    subst e;exact .inl ⟨Dk _,hd σ H p⟩
end L2
namespace L2
open PySem PySem.Spec PyProof.Rows
abbrev R2:=V→V→Hp→VK→Prop
def OpR(X:Cx)(f:Value→Value→Sem Value)(r:R2):Prop :=
  ∀(pins:List (Addr×Obj)) (s:Shared) (σ:St) (H:Hp) (x y:V) (v u:Value) (Q:VK),Inv X pins σ H s→RelV x v→RelV y u→r x y H Q →
    wpAny (model X.prog X.w) X.A (f v u) (EP X pins σ Q) X.xe s
def UnR(X:Cx)(f:Value→Sem Value)(r:V→Hp→VK→Prop):Prop :=
  ∀(pins:List (Addr×Obj)) (s:Shared) (σ:St) (H:Hp) (x:V) (v:Value) (Q:VK),Inv X pins σ H s→RelV x v→r x H Q →
    wpAny (model X.prog X.w) X.A (f v) (EP X pins σ Q) X.xe s
def iq(X:Cx)(f:Value)(r:List V→Hp→VK→Prop):Prop :=
  ∀(pins:List (Addr×Obj)) (s:Shared) (σ:St) (H:Hp) (xs:List V) (us:List Value) (Q:VK),Inv X pins σ H s→Vals xs us→r xs H Q →
    wpAny (model X.prog X.w) X.A (call f us) (EP X pins σ Q) X.xe s
def tOp(r:R2)(ta tb:TE):TE:=λσ H Q=>ta σ H λx H1=>tb σ H1 λy H2=>r x y H2 Q
def tUn(r:V→Hp→VK→Prop)(ta:TE):TE:=λσ H Q=>ta σ H λx H1=>r x H1 Q
def rI(C:Int→Int→Prop)(g:Int→Int→V):R2:=λx y H Q=>∃ i j,x=.int i∧y=.int j∧C i j∧Q (g i j) H
def rI0(g:Int→Int→V):R2:=λx y H Q=>∃ i j,x=.int i∧y=.int j∧Q (g i j) H
def rU(g:Int→V):V→Hp→VK→Prop:=λx H Q=>∃ i,x=.int i∧Q (g i) H
section
variable{X:Cx}{a b c:Expr}{ta tb tc:TE}{pos:Pos}
theorem yq(ha:PE X a ta)(hb:PE X b tb){pins:List (Addr×Obj)}{s:Shared}{σ:St}{H:Hp}{R:V→V→Hp→Prop}(I:Inv X pins σ H s)
    (h:ta σ H λx H1=>tb σ H1 λy H2=>R x y H2) {Q:Value→Shared→Prop} {f:Value→Value→Sem Value}
    (hf:∀ v u s2 x y H2,Inv X pins σ H2 s2→RelV x v→RelV y u→R x y H2→wpAny (model X.prog X.w) X.A (f v u) Q X.xe s2) :
    wpAny (model X.prog X.w) X.A (eval a X.env) (λv s₁=>wpAny (model X.prog X.w) X.A (eval b X.env) (λu s₂=>wpAny (model X.prog X.w) X.A (f v u) Q X.xe s₂) X.xe s₁) X.xe s:=by
  refine thn (ha pins s σ H _ I h) λv s1 ⟨x,H1,I1,r1,q1⟩=>?_;refine thn (hb pins s1 σ H1 _ I1 q1) λu s2 ⟨y,H2,I2,r2,q2⟩=>?_;exact hf v u s2 x y H2 I2 r1 r2 q2
theorem aH{op:Operator}{r:R2}(ho:OpR X (binaryOp op) r)(ha:PE X a ta)(hb:PE X b tb):PE X (.BinOp a op b pos) (tOp r ta tb):=by
  intro pins s σ H Q I h;exact wpAny_BinOp (yq ha hb I h λv u s2 x y H2 I2 rx ry q=>ho pins s2 σ H2 x y v u Q I2 rx ry q)
theorem uV{op:UnaryOp}{r:V→Hp→VK→Prop}(ho:UnR X (unaryOp op) r)(ha:PE X a ta):PE X (.UnaryOp op a pos) (tUn r ta):=by
  intro pins s σ H Q I h;exact UnaryOp_ (thn (ha pins s σ H _ I h) λv s1 ⟨x,H1,I1,r1,q1⟩=>ho pins s1 σ H1 x v Q I1 r1 q1)
theorem opI{f:Value→Value→Sem Value}{C:Int→Int→Prop}{g:Int→Int→Int}
    (rule:∀(i j:Int) (t u:Tok) (s:Shared) (Q:Value→Shared→Prop) (E:Value→Shared→Prop),C i j→Q (.int (g i j) s.toks) {s with toks:=s.toks+1}→wpAny (model X.prog X.w) X.A (f (.int i t) (.int j u)) Q E s) :
    OpR X f (rI C λi j=>.int (g i j)):=by
  intro pins s σ H x y v u Q I rx ry h;obtain⟨i,j,rfl,rfl,hc,q⟩:=h;obtain⟨t,rfl⟩:=rx;obtain⟨t',rfl⟩:=ry;exact rule i j t t' s _ _ hc ⟨.int (g i j),H,I.tok _,⟨_,rfl⟩,q⟩
theorem Bt{f:Value→Value→Sem Value}{g:Int→Int→Int}
    (rule:∀(i j:Int) (t u:Tok) (s:Shared) (Q:Value→Shared→Prop) (E:Value→Shared→Prop),Q (.int (g i j) s.toks) {s with toks:=s.toks+1}→wpAny (model X.prog X.w) X.A (f (.int i t) (.int j u)) Q E s) :
    OpR X f (rI0 λi j=>.int (g i j)):=by
  intro pins s σ H x y v u Q I rx ry h;obtain⟨i,j,rfl,rfl,q⟩:=h;obtain⟨t,rfl⟩:=rx;obtain⟨t',rfl⟩:=ry;exact rule i j t t' s _ _ ⟨.int (g i j),H,I.tok _,⟨_,rfl⟩,q⟩
theorem yr{f:Value→Value→Sem Value}{g:Int→Int→Bool}
    (rule:∀(i j:Int) (t u:Tok) (s:Shared) (Q:Value→Shared→Prop) (E:Value→Shared→Prop),Q (.bool (g i j)) s→wpAny (model X.prog X.w) X.A (f (.int i t) (.int j u)) Q E s) :
    OpR X f (rI0 λi j=>.bl (g i j)):=by
  intro pins s σ H x y v u Q I rx ry h;obtain⟨i,j,rfl,rfl,q⟩:=h;obtain⟨t,rfl⟩:=rx;obtain⟨t',rfl⟩:=ry;exact rule i j t t' s _ _ ⟨.bl (g i j),H,I,rfl,q⟩
def Ck(i j:Int):Prop:=0<j∧j<1073741824
def Cm(i j:Int):Prop:=0≤j∧j≤1000000∧i.natAbs<2 ^ 64
def yt(i j:Int):Prop:=(-(2 ^ 64)<i∧i<2 ^ 64)∨(-(2 ^ 64)<j∧j<2 ^ 64)
theorem yt.ok{i j:Int}(h:yt i j):IntMulOk i j:=by
  rcases h with⟨h1,h2⟩|⟨h1,h2⟩
  · exact .of_left (intBits_le_64 h1 h2)
  · exact .of_right (intBits_le_64 h1 h2)
theorem cB:OpR X (binaryOp .Add) (rI0 λi j=>.int (i+j)):=Bt λ_ _ _ _ _ _ _ q=>add_int q
theorem pL:OpR X (binaryOp .Sub) (rI0 λi j=>.int (i-j)):=Bt λ_ _ _ _ _ _ _ q=>sub_int q
theorem fQ:OpR X (binaryOp .Mult) (rI yt λi j=>.int (i*j)):=opI λ_ _ _ _ _ _ _ hc q=>mul_int q hc.ok
theorem tV:OpR X (binaryOp .FloorDiv) (rI Ck λi j=>.int (i/j)):=opI λi j _ _ _ _ _ hc q=>by
  have h1:(0:Int)<j:=hc.1;have h2:j<1073741824:=hc.2;exact floordiv_int (by omega) (by rw[Int.fdiv_eq_ediv_of_nonneg i (by omega)];exact q) (.inl (PyProof.noPylong_small (by omega)))
theorem cW:OpR X (binaryOp .Mod) (rI (λ_ j=>0<j) λi j=>.int (i%j)):=opI λi j _ _ _ _ _ hc q=>by
  have h1:(0:Int)<j:=hc;exact mod_int' (by omega) (by rw[Int.fmod_eq_emod_of_nonneg i (by omega)];exact q)
theorem l5:OpR X (binaryOp .Pow) (rI Cm λi j=>.int (i ^ j.toNat)):=opI λ_ _ _ _ _ _ _ hc q=>pow_int_small hc.1 hc.2.1 hc.2.2 q
theorem unI{f:Value→Sem Value}{g:Int→Int}
    (rule:∀(i:Int) (t:Tok) (s:Shared) (Q:Value→Shared→Prop) (E:Value→Shared→Prop),Q (.int (g i) s.toks) {s with toks:=s.toks+1}→wpAny (model X.prog X.w) X.A (f (.int i t)) Q E s) :
    UnR X f (rU λi=>.int (g i)):=by
  intro pins s σ H x v Q I rx h;obtain⟨i,rfl,q⟩:=h;obtain⟨t,rfl⟩:=rx;exact rule i t s _ _ ⟨.int (g i),H,I.tok _,⟨_,rfl⟩,q⟩
theorem sR:UnR X (unaryOp .USub) (rU λi=>.int (-i)):=unI λ_ _ _ _ _ q=>neg_int q
end
def Bu:V→V→Bool
  | .non,.non=>true|.non,.int _=>true|.int _,.non=>true|.non,.bl _=>true|.bl _,.non=>true|.non,.str _=>true|.str _,.non=>true
  | .int _,.int _=>true|.bl _,.bl _=>true|.str _,.str _=>true|.byt _,.byt _=>true
  | .int _,.str _=>true|.str _,.int _=>true|.bl _,.str _=>true|.str _,.bl _=>true
  | _,_=>false
def rEq:R2:=λx y H Q=>Bu x y=true∧Q (.bl (decide (x=y))) H
def rNe:R2:=λx y H Q=>Bu x y=true∧Q (.bl (!decide (x=y))) H
theorem qc{i j:Int}:decide (V.int i=V.int j)=(i == j):=by
  rw[Ej];simp
theorem sS{i j:Bool}:decide (V.bl i=V.bl j)=(i == j):=by
  rw[Ej];simp
theorem qd{i j:Str}:decide (V.str i=V.str j)=(i == j):=by
  rw[Ej];simp
theorem qe{i j:Array UInt8}:decide (V.byt i=V.byt j)=(i.toList == j.toList):=by
  rw[Ej];cases i;cases j;simp
section
variable{X:Cx}{a b c:Expr}{ta tb tc:TE}{pos:Pos}
theorem aR{pins:List (Addr×Obj)}{σ:St}{H:Hp}{s:Shared}{Q:VK}{k k':Bool}(I:Inv X pins σ H s)(q:Q (.bl k) H)(e:k=k'):EP X pins σ Q (.bool k') s:=by
  subst e;exact⟨.bl k,H,I,rfl,q⟩
theorem iT:OpR X (compareOp .Eq) rEq:=by
  intro pins s σ H x y v u Q I rx ry h;obtain⟨hs,q⟩:=h;cases x with
  | non =>
    cases rx;cases y with
    | non=>cases ry;exact PySem.EqNone.eq_none_none (aR I q (by simp))
    | bl j=>cases ry;exact PySem.EqNone.eq_none_bool (aR I q (by simp))
    | int j=>obtain⟨t',rfl⟩:=ry;exact PySem.EqNone.eq_none_int (aR I q (by simp))
    | str j=>obtain⟨t',rfl⟩:=ry;exact PySem.EqNone.eq_none_str (aR I q (by simp))
    | _=>exact absurd (show false=true from hs) Df
  | bl i =>
    cases rx;cases y with
    | non=>cases ry;exact PySem.EqNone.eq_bool_none (aR I q (by simp))
    | bl j=>cases ry;exact eq_bool (aR I q sS)
    | str j=>obtain⟨t',rfl⟩:=ry;exact PySem.EqMixed.eq_bool_str (aR I q (by simp))
    | _=>exact absurd (show false=true from hs) Df
  | int i =>
    obtain⟨t,rfl⟩:=rx;cases y with
    | non=>cases ry;exact PySem.EqNone.eq_int_none (aR I q (by simp))
    | int j=>obtain⟨t',rfl⟩:=ry;exact eq_int (aR I q qc)
    | str j=>obtain⟨t',rfl⟩:=ry;exact PySem.EqMixed.eq_int_str (aR I q (by simp))
    | _=>exact absurd (show false=true from hs) Df
  | str i =>
    obtain⟨t,rfl⟩:=rx;cases y with
    | non=>cases ry;exact PySem.EqNone.eq_str_none (aR I q (by simp))
    | bl j=>cases ry;exact PySem.EqMixed.eq_str_bool (aR I q (by simp))
    | int j=>obtain⟨t',rfl⟩:=ry;exact PySem.EqMixed.eq_str_int (aR I q (by simp))
    | str j=>obtain⟨t',rfl⟩:=ry;exact eq_str (aR I q qd)
    | _=>exact absurd (show false=true from hs) Df
  | byt i =>
    obtain⟨t,rfl⟩:=rx;cases y with
    | byt j=>obtain⟨t',rfl⟩:=ry;exact PySem.W.eq_bytes (aR I q qe)
    | _=>exact absurd (show false=true from hs) Df
  | _=>cases y<;>exact absurd (show false=true from hs) Df
theorem tF:OpR X (compareOp .NotEq) rNe:=by
  intro pins s σ H x y v u Q I rx ry h;obtain⟨hs,q⟩:=h;cases x with
  | non =>
    cases rx;cases y with
    | non=>cases ry;exact PySem.EqNone.ne_none_none (aR I q (by simp))
    | bl j=>cases ry;exact PySem.EqNone.ne_none_bool (aR I q (by simp))
    | int j=>obtain⟨t',rfl⟩:=ry;exact PySem.EqNone.ne_none_int (aR I q (by simp))
    | str j=>obtain⟨t',rfl⟩:=ry;exact PySem.EqNone.ne_none_str (aR I q (by simp))
    | _=>exact absurd (show false=true from hs) Df
  | bl i =>
    cases rx;cases y with
    | non=>cases ry;exact PySem.EqNone.ne_bool_none (aR I q (by simp))
    | bl j=>cases ry;exact ne_bool (aR I q (congrArg not sS))
    | str j=>obtain⟨t',rfl⟩:=ry;exact PySem.EqMixed.ne_bool_str (aR I q (by simp))
    | _=>exact absurd (show false=true from hs) Df
  | int i =>
    obtain⟨t,rfl⟩:=rx;cases y with
    | non=>cases ry;exact PySem.EqNone.ne_int_none (aR I q (by simp))
    | int j=>obtain⟨t',rfl⟩:=ry;exact ne_int (aR I q (congrArg not qc))
    | str j=>obtain⟨t',rfl⟩:=ry;exact PySem.EqMixed.ne_int_str (aR I q (by simp))
    | _=>exact absurd (show false=true from hs) Df
  | str i =>
    obtain⟨t,rfl⟩:=rx;cases y with
    | non=>cases ry;exact PySem.EqNone.ne_str_none (aR I q (by simp))
    | bl j=>cases ry;exact PySem.EqMixed.ne_str_bool (aR I q (by simp))
    | int j=>obtain⟨t',rfl⟩:=ry;exact PySem.EqMixed.ne_str_int (aR I q (by simp))
    | str j=>obtain⟨t',rfl⟩:=ry;exact ne_str (aR I q (congrArg not qd))
    | _=>exact absurd (show false=true from hs) Df
  | byt i =>
    obtain⟨t,rfl⟩:=rx;cases y with
    | byt j=>obtain⟨t',rfl⟩:=ry;exact PySem.W.ne_bytes (aR I q (congrArg not qe))
    | _=>exact absurd (show false=true from hs) Df
  | _=>cases y<;>exact absurd (show false=true from hs) Df
theorem oh:OpR X (compareOp .Lt) (rI0 λi j=>.bl (decide (i<j))):=yr λ_ _ _ _ _ _ _ q=>lt_int q
theorem uW:OpR X (compareOp .LtE) (rI0 λi j=>.bl (decide (i≤j))):=yr λ_ _ _ _ _ _ _ q=>le_int q
theorem uX:OpR X (compareOp .GtE) (rI0 λi j=>.bl (decide (j≤i))):=yr λ_ _ _ _ _ _ _ q=>ge_int q
theorem i3:OpR X (compareOp .Is) (λx y H Q=>y=.non∧Q (.bl (decide (x=.non))) H):=by
  intro pins s σ H x y v u Q I rx ry h;obtain⟨rfl,q⟩:=h;cases ry;refine is_none_gen (aR I q ?_);cases x<;>first
    | (cases rx;rfl)
    | (obtain⟨t,rfl⟩:=rx;rfl)
theorem aZ(b:Expr){op:CmpOp}(h:op≠.In:=by decide)(h2:op≠.NotIn:=by decide):behindInMarks op b=false:=by
  have e1:(op == CmpOp.In)=false:=by cases op<;>first|rfl|exact absurd rfl h
  have e2:(op == CmpOp.NotIn)=false:=by cases op<;>first|rfl|exact absurd rfl h2
  cases b<;>simp[behindInMarks,e1,e2]
theorem da{op:CmpOp}{r:R2}(ho:OpR X (compareOp op) r)(ha:PE X a ta)(hb:PE X b tb)(hm:behindInMarks op b=false):PE X (.Compare a [op] [b] pos) (tOp r ta tb):=by
  intro pins s σ H Q I h;exact wpAny_Compare1 (yq ha hb I h λv u s2 x y H2 I2 rx ry q=>ho pins s2 σ H2 x y v u Q I2 rx ry q) hm
def uY(t:TE):TT:=λσ H Q=>t σ H λx H'=>∃ k,x=.bl k∧Q k H'
theorem bF{op:CmpOp}{r:R2}(ho:OpR X (compareOp op) r)(ha:PE X a ta)(hb:PE X b tb)(hm:behindInMarks op b=false):PT X (.Compare a [op] [b] pos) (uY (tOp r ta tb)):=by
  intro pins s σ H Q I h;refine wpAny_isTrue_Compare1 (thn (ha pins s σ H _ I h) λv s1 ⟨x,H1,I1,r1,q1⟩=>thn (hb pins s1 σ H1 _ I1 q1) λu s2 ⟨y,H2,I2,r2,q2⟩ =>
    thn (ho pins s2 σ H2 x y v u _ I2 r1 r2 q2) λc s3 ⟨z,H3,I3,r3,k,e,q3⟩=>?_) hm
  subst e;cases r3;exact wpAny_truthy_bool ⟨H3,I3,q3⟩
def xx(r r':R2)(ta tb tc:TE):TE:=λσ H Q=>ta σ H λx H1=>tb σ H1 λy H2=>r x y H2 λz H3=>∃ k,z=.bl k ∧
  (if k=true then tc σ H3 λw' H4=>r' y w' H4 Q else Q (.bl false) H3)
theorem r8{op op':CmpOp}{r r':R2}(ho:OpR X (compareOp op) r)(ho':OpR X (compareOp op') r')(ha:PE X a ta)(hb:PE X b tb)(hc:PE X c tc)
    (hm:lastMarks [op,op'] [b,c]=false:=by with_unfolding_all rfl):PT X (.Compare a [op,op'] [b,c] pos) (uY (xx r r' ta tb tc)):=by
  intro pins s σ H Q I h;refine isTrue_chain (thn (ha pins s σ H _ I h) λv s1 ⟨x,H1,I1,r1,q1⟩=>test_link (thn (hb pins s1 σ H1 _ I1 q1) λu s2 ⟨y,H2,I2,r2,q2⟩ =>
    thn (ho pins s2 σ H2 x y v u _ I2 r1 r2 q2) λd s3 ⟨z,H3,I3,r3,k,e,q3⟩=>?_)) hm
  subst e;cases r3;refine wpAny_truthy_bool ?_;cases k with
  | false =>
    obtain⟨k',e',q'⟩:=q3;cases e';exact ite_ff ⟨H3,I3,q'⟩
  | true =>
    refine ite_tt (test_last (thn (hc pins s3 σ H3 _ I3 q3) λw' s4 ⟨z',H4,I4,r4,q4⟩=>thn (ho' pins s4 σ H4 y z' u w' _ I4 r2 r4 q4) λd' s5 ⟨z2,H5,I5,r5,k2,e2,q5⟩=>?_));subst e2;cases r5;exact wpAny_truthy_bool ⟨H5,I5,q5⟩
theorem jJ:(sizeLine:Nat)<2 ^ 63:=by rw[sizeLine_eq];decide
theorem vals1{x:V}{us:List Value}(r:Vals [x] us):∃ u,us=[u]∧RelV x u:=by
  cases r with
  | cons r1 r2=>cases r2;exact⟨_,rfl,r1⟩
theorem vals2{x y:V}{us:List Value}(r:Vals [x,y] us):∃ u w',us=[u,w']∧RelV x u∧RelV y w':=by
  cases r with
  | cons r1 r2 =>
    cases r2 with
    | cons r3 r4=>cases r4;exact⟨_,_,rfl,r1,r3⟩
end
end L2
namespace L2
open PySem PySem.Spec PyProof.Rows
structure rV(h:Heap)(x dx C:Addr)(mA:Str→Option Value):Prop where
  obj:h.get? x=some (PySem.W.instObj C dx)
  ns:h.Ns1 dx mA
  ne:dx≠x
theorem qM{h:Heap}{dx:Addr}{mA:Str→Option Value}(n:h.Ns1 dx mA):∃ od,h.get? dx=some od∧∀ name,PySem.W.lookIn name od=some (mA name):=by
  obtain⟨o,es,ep,ho,hd,hk,_,hm⟩:=n;refine⟨o,ho,λname=>?_⟩;have e:=hm name;unfold nsFind findBy at e;rw[←Array.find?_toList]at e;unfold PySem.W.lookIn;rw[hd];dsimp only;split
  · rename_i y q
    rw[q]at e;exact congrArg some e
  · rename_i q
    rw[q]at e;have a:es.toList.any (·.refKey)=false:=by
      rw[List.any_eq_false];intro y hy;obtain⟨z,t,Cn⟩:=hk y (Array.mem_toList_iff.mp hy);simp[DictEntry.refKey,Cn]
    have a':¬es.toList.any (·.refKey)=true:=(by rw[a];exact Df);rw[if_neg a'];exact congrArg some e
theorem rV.look{h:Heap}{x dx C:Addr}{mA:Str→Option Value}(I:rV h x dx C mA):∃ od,PySem.W.InstAt h x (PySem.W.instObj C dx) C (some od)∧∀ name,PySem.W.lookIn name od=some (mA name) :=
  let ⟨od,ho,hl⟩:=qM I.ns
  ⟨od,⟨I.obj,rfl,rfl,ho⟩,hl⟩
section
variable{prog:Program}{w:World}{A:Around}{E:Value→Shared→Prop}{s:Shared}{K:W.Frag}{x dx C f:Addr}{mA:Str→Option Value}{name:Str}{v:Value}
theorem get_map{expr:Bool}{Q:Value→Shared→Prop}(X:K.In s.heap)(I:rV s.heap x dx C mA)(hg:PySem.W.plainGet K C name=true)(hh:PySem.W.hasDictIn K C=true)
    (ha:PySem.W.findIn K (.ref C) name=some none) (hv:mA name=some v) (hv':PySem.W.handedIn v=true) (h:Q v {s with toks:=s.toks+1}) :
    wpAny (model prog w) A (getAttr (.ref x) name expr) Q E s:=by
  obtain⟨od,J,hl⟩:=I.look;exact PySem.W.get_value X J (PySem.W.plainGet_of hg).1 (PySem.W.findObj_own hh ha rfl (by rw[hl,hv])) hv' h
theorem sd{pl:Sem Bool}{Q:Value×List Value→Shared→Prop}(X:K.In s.heap)(I:rV s.heap x dx C mA)(hg:PySem.W.plainGet K C name=true)
    (hf:PySem.W.findIn K (.ref C) name=some (some (.ref f))) (ht:PySem.W.isFn K (.ref f)=true) (hv:mA name=none) (h:Q (.ref f,[.ref x]) s) :
    wpAny (model prog w) A (getMethod (.ref x) name pl) Q E s:=by
  obtain⟨od,J,hl⟩:=I.look;exact PySem.W.method_fn X J (PySem.W.plainGet_of hg).1 (PySem.W.plainGet_of hg).2 hf (beq_iff_eq.mp ht) (by show(PySem.W.lookIn name od).map (·.isSome)=some false;rw[hl,hv];rfl) h
theorem tW{ns:List Str}{Q:Unit→Shared→Prop}(X:K.In s.heap)(I:rV s.heap x dx C mA)
    (hs:PySem.W.findIn K (.ref C) "__setattr__" = some (some (.builtin "object.__setattr__"))) (hp:PySem.W.plainOver K C=true) (ht:PySem.W.takerIn K C name=some none) (hh:PySem.W.hasDictIn K C=true)
    (hw:PySem.Within mA ns) (hsz:ns.length≤sizeLine)
    (h:∀ h',rV h' x dx C (λy=>if y=name then some v else mA y)→Heap.SameBut dx s.heap h'→Q () {s with heap:=h',toks:=s.toks+2}) :
    wpAny (model prog w) A (setAttr (.ref x) name v) Q E s:=by
  obtain⟨od,J,hl⟩:=I.look;refine PySem.W.set_plain X J hs (PySem.W.osa_open (s:={s with toks:=s.toks+1}) (r:=none) X J hp ht λb=>?_);obtain⟨cd,hc,hd'⟩:=PySem.W.any_some hh;have hx:s.heap.get? x=some ⟨.ref C,some dx,.plain,#[]⟩:=I.obj;refine wpAny_bind (wpAny_pure (wpAny_bind (wpAny_bind (wpAny_loadPart hx (wpAny_bind (PySem.W.Looks.here (s:={s with toks:=s.toks+1}) (PySem.W.looks_clsIn X hc) ?_))))));rw[hd'];refine wpAny_pure (a:=some dx) (wpAny_bind (wpAny_pure (wpAny_bind ?_)));refine wpAny_nsSet1 (s:={s with toks:=s.toks+1}) I.ns λh' hn2 hs2=>?_;obtain⟨oD,esD,epD,hoD,hdD,hcD⟩:=hn2.count (PySem.Within.cons name v hw);refine wpAny_bind (wpAny_lookBehind hoD (by rw[hdD];exact pastItsLine_dict (DK hcD (by rw[Dx];omega))) ?_);exact wpAny_pure (h _ ⟨(hs2.2 _ (DH I.ne)).trans I.obj,hn2,I.ne⟩ hs2)
theorem se{R:Result→Shared→Prop}{vs:List Value}{kw:List (Str×Value)}(X:K.In s.heap)(hm:PySem.W.makesIn K C=true)
    (hi:PySem.W.findIn K (.ref C) "__init__" = some (some (.ref f))) (hf:PySem.W.typeIn K (.ref f)=some (.type "function"))
    (h:codeAny (model prog w) (A.under (.builtin "type.__call__" ⟨.ref C::vs,kw⟩)) (.call (.ref f) ⟨.ref (s.heap.objs.size+1)::vs,kw⟩) (PySem.W.InitBack (s.heap.objs.size+1) R)
      {s with heap:=(s.heap.push PySem.W.emptyDict).push (PySem.W.instObj C s.heap.objs.size)}) :
    codeAny (model prog w) A (.call (.ref C) ⟨vs,kw⟩) R s:=by
  obtain⟨hh,g,d,t,os⟩:=s;exact PySem.W.make_core (PySem.W.makes_of X hm) (PySem.W.looks_findIn X hi) (λself=>PySem.W.bind_fn X self hf) (.inl rfl) h
end
def iL(f:Str)(v:V):List (Str×V)→List (Str×V)
  | []=>[(f,v)]
  | (g,x)::r=>if g=f then(g,v)::r else(g,x)::iL f v r
theorem iM(f g:Str)(v:V):∀ fs:List (Str×V),(iL f v fs).lookup g=if g=f then some v else fs.lookup g
  | []=>by
    show List.lookup g [(f,v)]=_;by_cases h:g=f
    · have hb:(g == f)=true:=beq_iff_eq.mpr h
      simp only[List.lookup,hb,if_pos h]
    · have hb:(g == f)=false:=beq_eq_false_iff_ne.mpr h
      simp only[List.lookup,hb,if_neg h]
  | (k,x)::r=>by
    have ih:=iM f g v r;rw[show iL f v ((k,x)::r)=(if k=f then(k,v)::r else(k,x)::iL f v r) from rfl];by_cases hk:k=f
    · rw[if_pos hk]
      by_cases h:g=k
      · have hb:(g == k)=true:=beq_iff_eq.mpr h
        simp only[List.lookup,hb,if_pos (h.trans hk)]
      · have hb:(g == k)=false:=beq_eq_false_iff_ne.mpr h
        simp only[List.lookup,hb,if_neg (λe:g=f=>h (e.trans hk.symm))]
    · rw[if_neg hk]
      by_cases h:g=k
      · have hb:(g == k)=true:=beq_iff_eq.mpr h
        simp only[List.lookup,hb,if_neg (λe:g=f=>hk (h.symm.trans e))]
      · have hb:(g == k)=false:=beq_eq_false_iff_ne.mpr h
        simp only[List.lookup,hb];exact ih
theorem iF(f:Str)(v:V):∀ fs:List (Str×V),f∈(iL f v fs).map (·.1)∧∀ g,g∈fs.map (·.1)→g∈(iL f v fs).map (·.1)
  | []=>⟨by simp[iL],λg h=>by simp at h⟩
  | (k,x)::r=>by
    obtain⟨i1,i2⟩:=iF f v r;rw[show iL f v ((k,x)::r)=(if k=f then(k,v)::r else(k,x)::iL f v r) from rfl];by_cases hk:k=f
    · rw[if_pos hk]
      subst hk;exact⟨by simp,λg h=>by simpa using h⟩
    · rw[if_neg hk]
      refine⟨?_,λg h=>?_⟩
      · rw[DN]
        exact Dt _ i1
      · rw[DN]at h ⊢
        rcases Ds.mp h with e|e
        · exact Ds.mpr (.inl e)
        · exact Dt _ (i2 g e)
theorem iN(f:Str)(v:V):∀ fs:List (Str×V),(iL f v fs).length≤fs.length+1
  | []=>by simp[iL]
  | (k,x)::r=>by
    have ih:=iN f v r;rw[show iL f v ((k,x)::r)=(if k=f then(k,v)::r else(k,x)::iL f v r) from rfl];by_cases hk:k=f
    · rw[if_pos hk,Dx,Dx];omega
    · rw[if_neg hk,Dx,Dx];omega
theorem hX.some_of{v:V}{o:Option Value}(r:hX (some v) o):∃ u,o=some u∧RelV v u:=by
  cases o with
  | none=>exact(show False from r).elim
  | some u=>exact⟨u,rfl,r⟩
theorem hX.none_of{o:Option Value}(r:hX none o):o=none:=by
  cases o with
  | none=>rfl
  | some u=>exact(show False from r).elim
theorem qN{v:V}{u:Value}(r:RelV v u):PySem.W.handedIn u=true:=by
  cases v with
  | non=>cases (show u=Value.none from r);rfl
  | bl b=>cases (show u=Value.bool b from r);rfl
  | int i=>obtain⟨t,e⟩:=(show ∃ t,u=Value.int i t from r);cases e;rfl
  | str x=>obtain⟨t,e⟩:=(show ∃ t,u=Value.str x t from r);cases e;rfl
  | byt b=>obtain⟨t,e⟩:=(show ∃ t,u=Value.bytes b t from r);cases e;rfl
  | flt b=>obtain⟨t,e⟩:=(show ∃ t,u=Value.float b t from r);cases e;rfl
  | ref a=>cases (show u=Value.ref a from r);rfl
  | ty n=>cases (show u=Value.type n from r);rfl
section
variable{P:Program}{w:World}{H H':Hp}{h h':Heap}{a C dx:Addr}{fs fs':List (Str×V)}
theorem ji(hok:HOk P w H h)(e:H a=some (.ins C dx fs)):∃ mA,rV h a dx C mA∧(∀ f,hX (fs.lookup f) (mA f))∧PySem.Within mA (fs.map (·.1))∧fs.length≤1000∧H dx=some (.own a):=by
  obtain⟨d,z,ne,ob,mA,n,r,q⟩:=(show bV P w H h a (.ins C dx fs) from hok a _ e);exact⟨mA,⟨ob,n,ne⟩,r,q,z,d⟩
end
structure Cls(K:W.Frag)(C:Addr):Prop where
  pg:PySem.W.plainGet K C Str.empty=true
  hd:PySem.W.hasDictIn K C=true
  po:PySem.W.plainOver K C=true
  sa:PySem.W.findIn K (.ref C) "__setattr__" = some (some (.builtin "object.__setattr__"))
theorem Cls.get{K:W.Frag}{C:Addr}(c:Cls K C)(f:Str):PySem.W.plainGet K C f=true:=c.pg
def ij(K:W.Frag)(C:Addr)(f:Str):Prop:=PySem.W.findIn K (.ref C) f=some none
theorem ij.AN{K:W.Frag}{C:Addr}{f:Str}(n:ij K C f):PySem.W.takerIn K C f=some none:=by
  unfold PySem.W.takerIn;rw[show PySem.W.findIn K (.ref C) f=some none from n];rfl
structure Meth(K:W.Frag)(C:Addr)(m:Str)(f:Addr):Prop where
  at_:PySem.W.findIn K (.ref C) m=some (some (.ref f))
  fn:PySem.W.isFn K (.ref f)=true
  kp:PySem.W.keepIn K (.ref f)=true
section
variable{X:Cx}{pins:List (Addr×Obj)}{σ:St}{H:Hp}{s:Shared}{a C dx:Addr}{fs:List (Str×V)}{f:Str}{v:V}{A:Around}{E:Value→Shared→Prop}
theorem oi{b:Bool}{Q:Value→Shared→Prop}(I:Inv X pins σ H s)(e:H a=some (.ins C dx fs))(c:Cls X.K C)(n:ij X.K C f)(l:fs.lookup f=some v)
    (h:∀ u s',Inv X pins σ H s'→RelV v u→Q u s'):wpAny (model X.prog X.w) A (getAttr (.ref a) f b) Q E s:=by
  obtain⟨mA,O,r,_,_,_⟩:=ji I.hok e;obtain⟨u,hu,ru⟩:=hX.some_of (v:=v) (o:=mA f) (by rw[←l];exact r f);exact get_map I.kIn O (c.get f) c.hd n hu (qN ru) (h u _ (I.tok _) ru)
theorem jj{m:Str}{g:Addr}{pl:Sem Bool}{Q:Value×List Value→Shared→Prop}(I:Inv X pins σ H s)(e:H a=some (.ins C dx fs))(c:Cls X.K C)(k:Meth X.K C m g)(l:fs.lookup m=none)
    (h:Q (.ref g,[.ref a]) s):wpAny (model X.prog X.w) A (getMethod (.ref a) m pl) Q E s:=by
  obtain⟨mA,O,r,_,_,_⟩:=ji I.hok e;have hn:mA m=none:=hX.none_of (by rw[←l];exact r m);exact sd I.kIn O (c.get m) k.at_ k.fn hn h
theorem oj{y:V}{u:Value}{Q:Unit→Shared→Prop}(I:Inv X pins σ H s)(e:H a=some (.ins C dx fs))(c:Cls X.K C)(n:ij X.K C f)(hl:fs.length<1000)(ry:RelV y u)
    (h:∀ s',Inv X pins σ (upd H a (.ins C dx (iL f y fs))) s'→Q () s'):wpAny (model X.prog X.w) A (setAttr (.ref a) f u) Q E s:=by
  obtain⟨mA,O,r,wi,_,ho⟩:=ji I.hok e;have hz:(fs.map (·.1)).length≤sizeLine:=by rw[Dl,sizeLine_eq];omega
  refine tW I.kIn O c.sa c.po n.AN c.hd wi hz λh' O' sb=>h _ ?_;have hd:∃ o,h'.get? dx=some o:=let ⟨o,_,_,e',_⟩:=O'.ns;⟨o,e'⟩;refine I.write (x:=a) (e:=dx) (by rw[e];exact True.intro) (.inr ho) (λb q hb z=>(sb.2 b hb).trans z) hd ?_;refine⟨by rw[ak O.ne];exact ho,?_,O.ne,O'.obj,_,O'.ns,λg=>?_,λg hg=>?_⟩
  · have:=iN f y fs;omega
  · show hX ((iL f y fs).lookup g) (if g=f then some u else mA g)
    rw[iM];by_cases q:g=f
    · rw[if_pos q,if_pos q];exact ry
    · rw[if_neg q,if_neg q];exact r g
  · by_cases q:g=f
    · rw[q];exact(iF f y fs).1
    · refine(iF f y fs).2 g (wi g λz=>hg ?_)
      show(if g=f then some u else mA g)=none;rw[if_neg q];exact z
theorem Inv.made(I:Inv X pins σ H s):Inv X pins σ (upd (upd H s.heap.objs.size (.own (s.heap.objs.size+1))) (s.heap.objs.size+1) (.ins C s.heap.objs.size []))
    {s with heap:=(s.heap.push PySem.W.emptyDict).push (PySem.W.instObj C s.heap.objs.size)}:=by
  have e1:(s.heap.push PySem.W.emptyDict).get? s.heap.objs.size=some PySem.W.emptyDict:=DB s.heap rfl;have e2:((s.heap.push PySem.W.emptyDict).push (PySem.W.instObj C s.heap.objs.size)).get? (s.heap.objs.size+1)=some (PySem.W.instObj C s.heap.objs.size):=by
    have:=DB (s.heap.push PySem.W.emptyDict) (o:=PySem.W.instObj C s.heap.objs.size) rfl
    rwa[Ec]at this
  have e3:(s.heap.push PySem.W.emptyDict).Ns s.heap.objs.size (λ_=>none):=⟨PySem.W.emptyDict,#[],_,e1,rfl,(λe he=>absurd he (by simp)),λ_=>rfl⟩;have I1:=I.laid (a:=s.heap.objs.size) (o:=.own (s.heap.objs.size+1)) (h':=s.heap.push PySem.W.emptyDict) (t':=s.toks) (λb u q=>C9 _ q) (Dk _) ⟨_,e1⟩;refine I1.laid (a:=s.heap.objs.size+1) (o:=.ins C s.heap.objs.size []) (t':=s.toks) (λb u q=>C9 _ q) (Nat.le_of_eq (Ec _ _)) ?_;have ne:s.heap.objs.size≠s.heap.objs.size+1:=Dq (Ep _);refine⟨by rw[ak ne,af],DQ _,ne,e2,λ_=>none,(Heap.Ns1.of_empty e3).at λo q=>C9 _ q,λ_=>True.intro,λy hy=>absurd rfl hy⟩
theorem tX{prog:Program}{w:World}{env:Env}{e:Expr}{f:Str}{pos:Pos}{s:Shared}{Q:Value→Shared→Prop}(hb:attributeBase e f env (eval e env)=eval e env)
    (h:wpAny (model prog w) A (eval e env) (λo s₁=>wpAny (model prog w) A (getAttr o f true) Q E s₁) E s):wpAny (model prog w) A (eval (.Attribute e f pos) env) Q E s :=
  Attribute_any_ h (by rw[arm_eval_Attribute,hb])
end
def Co(K:W.Frag)(ta:TE)(f:Str):TE:=λσ H Q=>ta σ H λx H1=>∃ a C dx fs v,x=.ref a∧H1 a=some (.ins C dx fs)∧Cls K C∧ij K C f∧fs.lookup f=some v∧Q v H1
def Cp(K:W.Frag)(ta tv:TE)(f:Str):TS:=λD σ H=>tv σ H λy H1=>ta σ H1 λx H2=>∃ a C dx fs,x=.ref a∧H2 a=some (.ins C dx fs)∧Cls K C∧ij K C f∧fs.length<1000 ∧
  D.nx σ (upd H2 a (.ins C dx (iL f y fs)))
section
variable{X:Cx}{o e value:Expr}{f:Str}{pos pos' Cq:Pos}{ta tv:TE}
theorem l9(he:PE X e ta)(hb:attributeBase e f X.env (eval e X.env)=eval e X.env):PE X (.Attribute e f pos) (Co X.K ta f):=by
  intro pins s σ H Q I h;refine tX hb (thn (he pins s σ H _ I h) λu s1 ⟨x,H1,I1,rx,a,C,dx,fs,v,ex,ea,c,n,l,q⟩=>?_);subst ex;obtain rfl:u=Value.ref a:=rx;exact oi I1 ea c n l λu' s2 I2 ru=>⟨v,H1,I2,ru,q⟩
theorem xy(ha:PE X o ta)(hv:PE X value tv)(hs:swapsWith value (some (.Attribute o f pos')) pos.line X.env=pure false):PS X (.Assign [.Attribute o f pos'] value pos) (Cp X.K ta tv f):=by
  intro pins s σ H D I h;refine plainObj_wpAny_Assign_Attribute (thn (hv pins s σ H _ I h) λu s1 ⟨y,H1,I1,ry,q⟩=>thn (ha pins s1 σ H1 _ I1 q) λov s2 ⟨x,H2,I2,rx,a,C,dx,fs,ex,ea,c,n,l,q2⟩=>?_) hs;subst ex;obtain rfl:ov=Value.ref a:=rx;exact oj I2 ea c n l ry λs3 I3=>⟨σ,_,I3,q2⟩
end
section
variable{X:Cx}{pins:List (Addr×Obj)}{σ:St}{H:Hp}{s:Shared}{A:Around}{E:Value→Shared→Prop}{Q:Value→Shared→Prop}{c:Value}{b:Bool}
inductive jK(K:W.Frag)(H:Hp):V→Value→Prop where
  | non:jK K H .non (.type "NoneType")
  | bl (x:Bool):jK K H (.bl x) (.type "bool")
  | int (i:Int):jK K H (.int i) (.type "int")
  | str (x:Str):jK K H (.str x) (.type "str")
  | flt (x:UInt64):jK K H (.flt x) (.type "float")
  | lst {a:Addr} {xs:List V} (e:H a=some (.lst xs)):jK K H (.ref a) (.type "list")
  | frz {a:Addr} {o:Obj} {xs:List V} (e:H a=some (.frz o (.lst xs))):jK K H (.ref a) (.type "list")
  | tup {a:Addr} {xs:List V} (e:H a=some (.tup xs)):jK K H (.ref a) (.type "tuple")
  | dK {a:Addr} {kvs:List (Key×V)} (e:H a=some (.dK kvs)):jK K H (.ref a) (.type "dict")
  | dT {a:Addr} {kvs:List (List Key×V)} (e:H a=some (.dT kvs)):jK K H (.ref a) (.type "dict")
  | ins {a C dx:Addr} {fs:List (Str×V)} (e:H a=some (.ins C dx fs)) (cl:Cls K C) (ha:PySem.W.findIn K (.ref C) "__class__" = some (some (.builtin "object.__class__")))
      (hn:PySem.W.specialIn K (.builtin "object.__class__") "__get__" = some (some (.builtin "getset_descriptor.__get__"))) (htk:PySem.W.takesIn K (.builtin "object.__class__")=some true)
      (hm:PySem.W.mroIn K C (.type "object")=some true):jK K H (.ref a) (.ref C)
theorem qO{x:V}{u t:Value}(I:Inv X pins σ H s)(rx:RelV x u)(ty:jK X.K H x t)(e:PySem.W.kitOne X.K t c=some b)(h:∀ tk,Q (.bool b) {s with toks:=tk}) :
    wpAny (model X.prog X.w) A (call (.builtin "isinstance") [u,c]) Q E s:=by
  cases ty with
  | non=>cases (show u=Value.none from rx);exact PySem.W.kia_one PySem.W.kitx_none I.kIn True.intro e (λz=>nomatch z) h
  | bl y=>cases (show u=Value.bool y from rx);exact PySem.W.kia_one PySem.W.kitx_bool I.kIn True.intro e (λz=>nomatch z) h
  | int i=>obtain⟨t,q⟩:=(show ∃ t,u=Value.int i t from rx);cases q;exact PySem.W.kia_one PySem.W.kitx_int I.kIn True.intro e (λz=>nomatch z) h
  | str y=>obtain⟨t,q⟩:=(show ∃ t,u=Value.str y t from rx);cases q;exact PySem.W.kia_one PySem.W.kitx_str I.kIn True.intro e (λz=>nomatch z) h
  | flt y=>obtain⟨t,q⟩:=(show ∃ t,u=Value.float y t from rx);cases q;exact PySem.W.kia_one PySem.W.kitx_float I.kIn True.intro e (λz=>nomatch z) h
  | @lst a xs ea =>
    cases (show u=Value.ref a from rx);obtain⟨_,_,n,_,h1⟩:=(show bV X.prog X.w H s.heap a (.lst xs) from I.hok a _ ea);exact PySem.W.kia_one PySem.W.kitx_list I.kIn ⟨_,h1,rfl⟩ e (λz=>nomatch z) h
  | @frz a ob xs ea =>
    cases (show u=Value.ref a from rx);obtain⟨_,_,_,n,_,h1⟩:=(show bV X.prog X.w H s.heap a (.frz ob (.lst xs)) from I.hok a _ ea);exact PySem.W.kia_one PySem.W.kitx_list I.kIn ⟨_,h1,rfl⟩ e (λz=>nomatch z) h
  | @tup a xs ea =>
    cases (show u=Value.ref a from rx);obtain⟨_,_,_,p⟩:=(show bV X.prog X.w H s.heap a (.tup xs) from I.hok a _ ea);obtain⟨o,h1,h2,_⟩:=p;exact PySem.W.kia_one PySem.W.kitx_tuple I.kIn ⟨o,h1,h2⟩ e (λz=>nomatch z) h
  | @dK a kvs ea =>
    cases (show u=Value.ref a from rx);obtain⟨_,_,vs,_,p⟩:=(show bV X.prog X.w H s.heap a (.dK kvs) from I.hok a _ ea);obtain⟨o,es,ep,h1,h2,_⟩:=p;exact PySem.W.kia_one PySem.W.kitx_dict I.kIn ⟨o,h1,h2.1⟩ e (λz=>nomatch z) h
  | @dT a kvs ea =>
    cases (show u=Value.ref a from rx);obtain⟨_,_,xs,_,o,es,ep,h1,h2,_⟩:=(show bV X.prog X.w H s.heap a (.dT kvs) from I.hok a _ ea);exact PySem.W.kia_one PySem.W.kitx_dict I.kIn ⟨o,h1,h2.1⟩ e (λz=>nomatch z) h
  | @ins a C dx fs ea cl ha hn htk hm =>
    cases (show u=Value.ref a from rx);obtain⟨mA,O,_⟩:=ji I.hok ea;obtain⟨od,J,_⟩:=O.look;exact PySem.W.kia_one (PySem.W.kitx_own (cl.get _) cl.hd ha hn htk hm) I.kIn J e (λz=>nomatch z) h
end
end L2
namespace L2
open PySem PySem.Spec PyProof.Rows
structure eh(k:Nat)(A:Around):Prop where
  hd:A.handled=none
  dp:A.depth+3*k+5<recursionLimit
  un:A.units+16*k+200<cLine
theorem eh.mono{j k:Nat}{A:Around}(r:eh k A)(h:j≤k):eh j A:=⟨r.hd,by have:=r.dp;omega,by have:=r.un;omega⟩
theorem eh.deeper{k:Nat}{A:Around}(r:eh (k+1) A)(env:Env):eh k (A.deeper env) :=
  ⟨r.hd,by have:=r.dp;show A.depth+1+3*k+5<_;omega,by have:=r.un;show A.units+3+16*k+200<_;omega⟩
theorem om{A:Around}{C:Addr}{us:List Value}{kw:List (Str×Value)}:(A.under (.builtin "type.__call__" ⟨.ref C::us,kw⟩)).depth=A.depth+1:=by
  first|rfl|simp[Around.under,Code.weight,Code.isCreation,Code.isGuard,Code.isCaller,Code.frames,Code.isFrame,guardIds]
theorem oq{A:Around}{C:Addr}{us:List Value}{kw:List (Str×Value)}:(A.under (.builtin "type.__call__" ⟨.ref C::us,kw⟩)).units=A.units+1:=by
  first|rfl|simp[Around.under,Code.cUnits,Code.frames,Code.isFrame]
theorem eh.make{k:Nat}{A:Around}(r:eh (k+1) A)(C:Addr)(us:List Value)(kw:List (Str×Value)):eh k (A.under (.builtin "type.__call__" ⟨.ref C::us,kw⟩)) :=
  ⟨r.hd,by have:=r.dp;rw[om];omega,by have:=r.un;rw[oq];omega⟩
theorem eh.depth{k:Nat}{A:Around}(r:eh k A):A.depth<recursionLimit:=by have:=r.dp;omega
theorem eh.units{k:Nat}{A:Around}(r:eh k A):A.units+64<cLine:=by have:=r.un;omega
theorem eh.xA{k:Nat}{A:Around}(r:eh k A):A.units<cLine:=by have:=r.un;omega
def yu:TA:=λ_ H Q=>Q [] H
def tG(ta:TE)(tr:TA):TA:=λσ H Q=>ta σ H λx H1=>tr σ H1 λxs H2=>Q (x::xs) H2
section
variable{X:Cx}{e:Expr}{es:List Expr}{te:TE}{t:TA}{pos:Pos}
theorem ae:PA X [] yu:=λ_ _ _ _ H Q I h=>Calls.spliced_nil ⟨[],H,I,.nil,h⟩
theorem aa(ha:PE X e te)(hr:PA X es t)(hs:starEach (e::es) X.env=(false,eval e X.env)::starEach es X.env:=by rfl):PA X (e::es) (tG te t):=by
  intro pos pins s σ H Q I h;rw[hs];show wpAny _ _ (spliced ((false,eval e X.env)::backTo pos (starEach es X.env))) _ _ s;refine Ew (thn (ha pins s σ H _ I h) λu s1 ⟨x,H1,I1,r1,q1⟩=>?_);exact thn (hr pos pins s1 σ H1 _ I1 q1) λus s2 ⟨xs,H2,I2,r2,q2⟩=>⟨x::xs,H2,I2,.cons r1 r2,q2⟩
def Cr(t:TA):TE:=λσ H Q=>t σ H λxs H1=>xs.length≤sizeLine∧∀ p,H1 p=none→Q (.ref p) (upd H1 p (.tup xs))
def Cs(t:TA):TE:=λσ H Q=>t σ H λxs H1=>xs.length≤sizeLine∧∀ p,H1 p=none→Q (.ref p) (upd H1 p (.lst xs))
theorem b3{x1}(h:PA X es t):PE X (.Tuple es x1 pos) (Cr t):=by
  intro pins s σ H Q I hq;refine wpAny_Tuple_spliced (thn (h pos pins s σ H _ I hq) λus s1 ⟨xs,H1,I1,r,z,q⟩=>⟨by rw[←r.length];exact z,?_⟩);have hf:H1 s1.heap.objs.size=none:=I1.hok.fresh (Dk _);refine⟨.ref s1.heap.objs.size,upd H1 s1.heap.objs.size (.tup xs),I1.laid (t':=s1.toks) (λb u e=>C9 _ e) (Dk _) ?_,rfl,q _ hf⟩;exact⟨z,us,r,⟨_,DB _ rfl,rfl,_,rfl⟩⟩
theorem dW(h:PA X es t):PE X (.List es pos) (Cs t):=by
  intro pins s σ H Q I hq;refine wpAny_List_spliced (thn (h pos pins s σ H _ I hq) λus s1 ⟨xs,H1,I1,r,z,q⟩=>⟨by rw[←r.length];exact z,?_⟩);have hf:H1 s1.heap.objs.size=none:=I1.hok.fresh (Dk _);refine⟨.ref s1.heap.objs.size,upd H1 s1.heap.objs.size (.lst xs),I1.laid (t':=s1.toks) (λb u e=>C9 _ e) (Dk _) ?_,rfl,q _ hf⟩;exact⟨z,us,0,r,DB _ rfl⟩
end
abbrev Sp:=List V→Hp→VK→XK→Prop
abbrev CXT:=List Env→Hp→Shared→XK→Value→Shared→Prop
structure rW(P:Program)(w:World)(K:W.Frag)(mg:Str→Option Value)(base:Heap)(A:Around)(outer:List Env)(s:Shared)(H:Hp):Prop where
  frames:A.frames=some outer
  mod:Mod K mg base
  bs:∀ b o,base.get? b=some o→s.heap.get? b=some o∧H b=none
  bsz:base.objs.size≤s.heap.objs.size
  i4:s.heap.FunFrames base outer
  frf:∀ b∈frs outer,H b=none
  hok:HOk P w H s.heap
  bare:AllBare s.gens
def CE(outer:List Env)(P:Program)(w:World)(H:Hp)(s:Shared)(Q:VK)(u:Value)(s':Shared):Prop :=
  ∃ v H',s'.os=s.os∧AllBare s'.gens∧Un (frs outer) [] H H' s.heap s'.heap∧HOk P w H' s'.heap∧RelV v u∧Q v H'
def CR(CX:CXT)(outer:List Env)(P:Program)(w:World)(H:Hp)(s:Shared)(Q:VK)(E:XK)(r:Result)(s':Shared):Prop :=
  match r with
  | .ok (.ret u)=>CE outer P w H s Q u s'
  | .ok _=>False
  | .error e=>CX outer H s E e s'
structure g5(P:Program)(w:World)(K:W.Frag)(mg:Str→Option Value)(base:Heap)(CX:CXT)(k:Nat)(f:Addr)(fd:FuncData)(ps:List Str)(sp:Sp):Prop where
  len:∀ vs H Q E,sp vs H Q E→vs.length=ps.length
  run:∀(A:Around) (outer:List Env) (s:Shared) (H:Hp) (args:Args) (us:List Value) (vs:List V) (Q:VK) (E:XK),eh k A→rW P w K mg base A outer s H→BindsTo s fd args (ps.zip us)→Vals vs us→sp vs H Q E →
    codeAny (model P w) A (.call (.ref f) args) (CR CX outer P w H s Q E) s
theorem rW.make{P:Program}{w:World}{K:W.Frag}{mg:Str→Option Value}{base:Heap}{A:Around}{outer:List Env}{s:Shared}{H:Hp}(e:rW P w K mg base A outer s H)(C:Addr)(us:List Value)(kw:List (Str×Value)) :
    rW P w K mg base (A.under (.builtin "type.__call__" ⟨.ref C::us,kw⟩)) outer s H:=⟨by first|exact e.frames|(simpa[Around.under,Code.envs,Code.isFrame,pushEnvs] using e.frames),e.mod,e.bs,e.bsz,e.i4,e.frf,e.hok,e.bare⟩
section
variable{X:Cx}{pins:List (Addr×Obj)}{σ:St}{H:Hp}{s s':Shared}
theorem Inv.yv(I:Inv X pins σ H s):rW X.prog X.w X.K X.mg X.base X.A X.stack s H :=
  ⟨I.ok.frames,I.ok.mod,I.bs,DK I.ok.bsz I.sz,I.stack,I.gN,I.hok,I.bare⟩
theorem Inv.after{Q:VK}{u:Value}(I:Inv X pins σ H s)(h:CE X.stack X.prog X.w H s Q u s'):EP X pins σ Q u s':=by
  obtain⟨v,H',os,bare,un,hok,r,q⟩:=h;obtain⟨hh,g,d,t,os'⟩:=s';obtain rfl:os'=s.os:=os;exact⟨v,H',I.call (h':=hh) (g':=g) (d':=d) (t':=t) (ch:=[]) un hok bare (λb z=>absurd z (by simp)),r,q⟩
end
def AO(C:Addr)(sp:Sp)(dvs:List V)(E:XK)(t:TA):TE:=λσ H Q=>t σ H λvs H1=>∀ x dx,H1 x=none→H1 dx=none→dx≠x →
  sp (.ref x::(vs++dvs)) (upd (upd H1 dx (.own x)) x (.ins C dx [])) (λv H2=>v=.non∧Q (.ref x) H2) E
def Binds(K:W.Frag)(fd:FuncData)(ps:List Str)(ds:List Value):Prop :=
  ∀(s:Shared) (us:List Value),K.In s.heap→(us++ds).length=ps.length→BindsTo s fd ⟨us,[]⟩ (ps.zip (us++ds))
theorem Binds.all{K:W.Frag}{fd:FuncData}{ps:List Str}(h:∀ us:List Value,us.length=ps.length→bindArgs fd ⟨us,[]⟩=pure (ps.zip us)):Binds K fd ps []:=λs us _ hl=>by
  rw[ED]at hl ⊢;exact .of_eq (h us hl)
def Passes(CX:CXT)(X:Cx)(E:XK):Prop:=∀(pins:List (Addr×Obj)) (σ:St) (H:Hp) (s:Shared) (e:Value) (s':Shared),Inv X pins σ H s→CX X.stack H s E e s'→X.xe e s'
section
variable{X:Cx}{CX:CXT}{k:Nat}{f C:Addr}{fd:FuncData}{ps:List Str}{sp:Sp}{dvs:List V}{ds:List Value}{E:XK}{x m:Str}{p pos apos:Pos}{e o:Expr}{es:List Expr}{ta:TE}{t:TA}
structure Mk(K:W.Frag)(C f:Addr):Prop where
  makes:PySem.W.makesIn K C=true
  init:PySem.W.findIn K (.ref C) "__init__" = some (some (.ref f))
  fn:PySem.W.isFn K (.ref f)=true
  kp:PySem.W.keepIn K (.ref C)=true
theorem sf{pins:List (Addr×Obj)}{σ:St}{H:Hp}{s:Shared}{Q:VK}{us:List Value}{vs:List V}(M:Mk X.K C f)(F:g5 X.prog X.w X.K X.mg X.base CX k f fd ps sp)(hr:eh (k+1) X.A)(hb:Binds X.K fd ps ds)(hd:Vals dvs ds)
    (hx:Passes CX X E) (I:Inv X pins σ H s) (r:Vals vs us)
    (h:∀ x dx,H x=none→H dx=none→dx≠x→sp (.ref x::(vs++dvs)) (upd (upd H dx (.own x)) x (.ins C dx [])) (λv H2=>v=.non∧Q (.ref x) H2) E) :
    wpAny (model X.prog X.w) X.A (call (.ref C) us) (EP X pins σ Q) X.xe s:=by
  have hq:=h (s.heap.objs.size+1) s.heap.objs.size (I.hok.fresh (Em _)) (I.hok.fresh (Dk _)) (Dq (Ep _));have I2:=Inv.made (C:=C) I;have r2:Vals (V.ref (s.heap.objs.size+1)::(vs++dvs)) (Value.ref (s.heap.objs.size+1)::(us++ds)):=.cons rfl (r.append hd);have hl:(Value.ref (s.heap.objs.size+1)::us++ds).length=ps.length:=by
    have e:=r2.length;rw[F.len _ _ _ _ hq]at e;exact e.symm
  refine wpAny_call (se (f:=f) I.kIn M.makes M.init (beq_iff_eq.mp M.fn) (codeAny_mono (F.run _ X.stack _ _ ⟨Value.ref (s.heap.objs.size+1)::us,[]⟩ (Value.ref (s.heap.objs.size+1)::(us++ds)) _ _ E (hr.make C us [])
    (I2.yv.make C us []) (hb _ (Value.ref (s.heap.objs.size+1)::us) I2.kIn hl) r2 hq) λr s' hq'=>?_))
  cases r with
  | error e=>exact hx pins σ _ _ e s' I2 hq'
  | ok fl =>
    cases fl with
    | ret u =>
      obtain⟨v,H',I3,rv,ev,q3⟩:=I2.after hq';subst ev;exact⟨rv,⟨V.ref (s.heap.objs.size+1),H',I3,rfl,q3⟩⟩
    | next=>exact False.elim hq'
    | brk=>exact False.elim hq'
    | cont=>exact False.elim hq'
theorem tY(M:Mk X.K C f)(F:g5 X.prog X.w X.K X.mg X.base CX k f fd ps sp)(hr:eh (k+1) X.A)(hg:Gl X x)(hm:X.mg x=some (.ref C))(hb:Binds X.K fd ps ds)(hd:Vals dvs ds)(hx:Passes CX X E)
    (ha:PA X (e::es) t) (hdb:(x == ("__debug__" : Str))=false:=by decide) (he:starEach (e::es) X.env=(false,eval e X.env)::starEach es X.env:=by rfl) (hpl:(backTo pos (starEach es X.env)).any (·.1)=false:=by rfl) :
    PE X (.Call (.Name x p) (e::es) [] pos) (AO C sp dvs E t):=by
  intro pins s σ H Q I h;refine wpAny_Call_Name_kw (iz I hg hm ?_ hdb);refine PySem.W.callWith_K (h₀:=X.base) I.ok.mod.kin M.kp (thn (ha pos pins s σ H _ I h) λus s1 ⟨vs,H1,I1,r,q⟩=>⟨I1.kIn,?_⟩) he hpl;exact sf M F hr hb hd hx I1 r q
end
section
variable{X:Cx}{CX:CXT}{k:Nat}{f C:Addr}{fd:FuncData}{ps ks:List Str}{sp:Sp}{E:XK}{x m:Str}{p pos apos C7:Pos}{e o:Expr}{es:List Expr}{kws:List Keyword}{te ta:TE}{t tk:TA}{nm:Option Str}
variable{g:List Value→List Value→List Value}{gV:List V→List V→List V}
end
structure aO(N P:List Str)(sc:Scope):Prop where
  kind:sc.kind=.function
  co:sc.isCoroutine=false
  gen:sc.isGenerator=false
  nd:N.Nodup
  pre:N.take P.length=P
  par:∀ x∈P,sc.names.lookup x=some .local∨sc.names.lookup x=some .cell
  xB:∀ y∈sc.names,y.2≠.free
theorem kn{kindOf:Str→Option NameKind}{x:Str}:∀ {binds:List (Str×Value)} {m:Str→Option Value},(∀ v,(x,v)∉binds)→bindL kindOf binds m x=m x
  | [],_,_=>rfl
  | (n,v)::r,m,h=>by
    unfold bindL;rw[kn λw hw=>h w (Dt _ hw)];split
    · have:x≠n:=by rintro rfl;exact h v DA
      simp[this]
    · rfl
theorem ko{kindOf:Str→Option NameKind}{x:Str}:∀ {binds:List (Str×Value)} {m:Str→Option Value},(∀ v,(x,v)∉binds)→bindC kindOf binds m x=m x
  | [],_,_=>rfl
  | (n,v)::r,m,h=>by
    unfold bindC;rw[ko λw hw=>h w (Dt _ hw)];split
    · rfl
    · have:x≠n:=by rintro rfl;exact h v DA
      simp[this]
theorem kq{kindOf:Str→Option NameKind}{x:Str}{v:Value}:∀ {P:List Str} {vs:List Value} {i:Nat} {m:Str→Option Value},P.Nodup→P[i]?=some x→vs[i]?=some v→kindOf x=some .local →
    bindL kindOf (P.zip vs) m x=some v
  | [],_,_,_,_,h,_,_=>by simp at h
  | _::_,[],_,_,_,_,h,_=>by simp at h
  | p::P,w::vs,0,m,nd,h1,h2,hk=>by
    simp at h1 h2;subst h1;subst h2;show bindL kindOf ((p,w)::P.zip vs) m p=_;unfold bindL;rw[kn λv hv=>(Ek.mp nd).1 (EE hv).1,if_pos hk];simp
  | p::P,w::vs,i+1,m,nd,h1,h2,hk=>by
    show bindL kindOf ((p,w)::P.zip vs) m x=_;unfold bindL;exact kq (i:=i) (Ek.mp nd).2 (by simpa using h1) (by simpa using h2) hk
theorem kr{kindOf:Str→Option NameKind}{x:Str}{v:Value}:∀ {P:List Str} {vs:List Value} {i:Nat} {m:Str→Option Value},P.Nodup→P[i]?=some x→vs[i]?=some v→kindOf x≠some .local →
    bindC kindOf (P.zip vs) m x=some v
  | [],_,_,_,_,h,_,_=>by simp at h
  | _::_,[],_,_,_,_,h,_=>by simp at h
  | p::P,w::vs,0,m,nd,h1,h2,hk=>by
    simp at h1 h2;subst h1;subst h2;show bindC kindOf ((p,w)::P.zip vs) m p=_;unfold bindC;rw[ko λv hv=>(Ek.mp nd).1 (EE hv).1,if_neg hk];simp
  | p::P,w::vs,i+1,m,nd,h1,h2,hk=>by
    show bindC kindOf ((p,w)::P.zip vs) m x=_;unfold bindC;exact kr (i:=i) (Ek.mp nd).2 (by simpa using h1) (by simpa using h2) hk
def start(N:List Str)(vs:List V):St:=vs.map some++List.replicate (N.length-vs.length) none
def sT(CX:CXT)(P:Program)(w:World)(K:W.Frag)(mg:Str→Option Value)(base:Heap)(N:List Str)(qual:Str)(scope:Scope)(f:Addr)(cd:Value)(A:Around)(outer:List Env)(s:Shared)(H:Hp)(E:XK):Cx where
  prog:=P
  w:=w
  K:=K
  mg:=mg
  base:=base
  A:=A.deeper (envOfC qual scope s.heap.objs.size f cd)
  N:=N
  s₀:=s
  H₀:=H
  env:=envOfC qual scope s.heap.objs.size f cd
  outer:=outer
  stack:=envOfC qual scope s.heap.objs.size f cd::outer
  ex:=[]
  calm:=true
  fn:=λ_=>true
  pn:=[]
  xe:=λe s'=>wpAny (model P w) (A.deeper (envOfC qual scope s.heap.objs.size f cd)) (leaving (envOfC qual scope s.heap.objs.size f cd) e) (λ_ s''=>CX outer H s E e s'') (λe' s''=>CX outer H s E e' s'') s'
theorem nC{sc:Scope}{n:Nat}{x:Str}(h:sc.names.lookup x=some .cell):∃ c,(cellsFrom n sc.names []).lookup x=some c:=by
  have q:=PySem.W.cellsFrom_some sc.names n [] (.inl h);exact Option.isSome_iff_exists.mp q
theorem qP{CX:CXT}{P:Program}{w:World}{K:W.Frag}{mg:Str→Option Value}{base:Heap}{N ps:List Str}{qual:Str}{scope:Scope}{f:Addr}{cd:Value}{A:Around}{outer:List Env}{s s1:Shared}{H:Hp}{E:XK}{us:List Value}{vs:List V}
    (S:aO N ps scope) (hd:A.handled=none) (e0:rW P w K mg base A outer s H) (hl:vs.length=ps.length) (r:Vals vs us)
    (x:InCallC s s.heap.objs.size (bindL (envOfC qual scope s.heap.objs.size f cd).kindOf (ps.zip us) λ_=>none) (cellsFrom (s.heap.objs.size+1) scope.names []) (bindC (envOfC qual scope s.heap.objs.size f cd).kindOf (ps.zip us) λ_=>none) s1) :
    Inv (sT CX P w K mg base N qual scope f cd A outer s H E) [] (start N vs) H s1:=by
  have hpl:ps.length≤N.length:=by have:=congrArg List.length S.pre;rw[DD]at this;omega
  obtain⟨h1,tk,rfl,hk⟩:=x.done;have noA:∀ b:Addr,b∉(sT CX P w K mg base N qual scope f cd A outer s H E).ex:=λb z=>absurd (show b∈([]:List Addr) from z) (by simp);refine⟨⟨e0.mod,S.kind,rfl,rfl,Dk _,λy z c h1 h2=>?_,λy hy=>?_,λy c _ h=>?_,λ_=>hd,Around.frames_deeper e0.frames,.inr ⟨rfl,rfl⟩,λb z=>absurd z (noA b),e0.bs,e0.bsz,λb _ _=>noA b,λb z=>absurd z (noA b),e0.i4,e0.frf⟩,
    rfl,e0.bare,Un.kept hk,⟨_,x.toInCall.ns,λi y v h1 h2 h3=>?_⟩,λy c h=>⟨_,x.cell y c h⟩,e0.hok.fresh (Dk _),λy c h=>?_,λp hp=>absurd (show p∈([]:List (Addr×Obj)) from hp) (by simp),e0.hok.kept hk,?_⟩
  · exact name_of_addr x.apart (DE h1) (DE h2)
  · have hy:scope.names.lookup y=some .cell∨scope.names.lookup y=some .free:=hy
    rcases hy with hy|hy
    · exact nC hy
    · exact absurd rfl (S.xB _ (DE hy))
  · exact EC (x.above y c (DE h))
  · have hi:i<vs.length:=by
      unfold start at h2;by_cases hi:i<vs.length
      · exact hi
      · rw[DI (by simpa using hi)]at h2
        rw[D6]at h2;split at h2<;>cases h2
    have ha:vs[i]?=some v:=by
      unfold start at h2;rw[DJ (by simpa using hi),Dw]at h2;cases e:vs[i]? with
      | none=>rw[e]at h2;cases h2
      | some a=>rw[e]at h2;cases h2;rfl
    obtain⟨u,hu,rv⟩:=r.get ha;have hp:ps[i]?=some y:=by
      rw[←S.pre,List.getElem?_take_of_lt (by omega)];exact h1
    have ndP:ps.Nodup:=(by rw[←S.pre];exact S.nd.sublist (List.take_sublist _ _));refine⟨u,rv,?_⟩;rcases S.par y (Dr hp) with k|k
    · exact .inl ⟨k,kq ndP hp hu k⟩
    · obtain⟨c,e⟩:=nC (n:=s.heap.objs.size+1) k
      refine .inr ⟨.inl k,c,e,?_⟩;have q:=x.cell y c e;rw[kr ndP hp hu (by show scope.names.lookup y≠_;rw[k];decide)]at q;exact q
  · exact e0.hok.fresh (EC (x.above y c (DE h)))
  · unfold start
    show _=N.length;rw[Dn,Dl,DU];omega
theorem AQ{CX:CXT}{P:Program}{w:World}{K:W.Frag}{mg:Str→Option Value}{base:Heap}{k:Nat}{f:Addr}{name qual:Str}{params:Arguments}{body:List Stmt}{scope:Scope}{dV kV doc pm cdv ct oc:Value}{an od:Option Addr}
    {osl:Array (Option Value)} {N ps:List Str} {sp:Sp} (lk:K.lookup f=some ⟨oc,od,.func (PySem.W.fnOf name qual params body scope dV kV doc pm an cdv ct),osl⟩) (hcd:PySem.W.codeIn K cdv qual=true) (S:aO N ps scope)
    (len:∀ vs H Q E,sp vs H Q E→vs.length=ps.length)
    (tH:∀(A:Around) (outer:List Env) (s:Shared) (H:Hp) (vs:List V) (Q:VK) (E:XK),eh k (A.deeper (envOfC qual scope s.heap.objs.size f cdv))→sp vs H Q E →
      ∃ t,PSs (sT CX P w K mg base N qual scope f cdv A outer s H E) body t∧t {nx:=λ_ H'=>Q .non H',rt:=Q} (start N vs) H) :
    g5 P w K mg base CX (k+1) f (PySem.W.fnOf name qual params body scope dV kV doc pm an cdv ct) ps sp:=by
  refine⟨len,λA outer s H args us vs Q E hr e0 hb r hsp=>?_⟩;have hl:=len _ _ _ _ hsp;have KX:K.In s.heap:=e0.mod.kin.keeps λb o e=>(e0.bs b o e).1;have lim:s.heap.NoLimit:=e0.mod.nolimit.keeps λb o e=>(e0.bs b o e).1;have AR:∀ y∈ps.zip us,scope.names.lookup y.1=some .local∨(scope.names.lookup y.1=some .cell∧((cellsFrom (s.heap.objs.size+1) scope.names []).lookup y.1).isSome=true):=λ⟨n,v⟩ hy=>by
    rcases S.par n (EE hy).1 with q|q
    · exact .inl q
    · exact .inr ⟨q,PySem.W.cellsFrom_some _ _ _ (.inl q)⟩
  refine codeAny_call_function hr.depth (KX _ _ lk) rfl S.co S.gen rfl (PySem.W.codeRec_of KX hcd) (hb _ _ _ _ ?_);refine wpAny_newFunctionEnv_cells S.kind AR λenv he s1 x=>?_;subst he;refine⟨lim.keeps x.toInCall.keep,codeAny_func ?_⟩;obtain⟨t,ht,hq⟩:=tH A outer s H vs Q E (hr.deeper _) hsp;have I:Inv (sT CX P w K mg base N qual scope f cdv A outer s H E) [] (start N vs) H s1:=qP S hr.hd e0 hl r x;refine wpAny_mono (ht [] s1 (start N vs) H _ I hq) (λfl s' hs=>?_) λe s' hs=>hs;have fin:∀ {σ':St} {H':Hp} {v:V} {u:Value},Inv (sT CX P w K mg base N qual scope f cdv A outer s H E) [] σ' H' s'→RelV v u→Q v H'→CE outer P w H s Q u s' :=
    λ{σ' H' v u} J rv q=>⟨v,H',J.os,J.bare,J.base,J.hok,rv,q⟩
  cases fl with
  | ret u =>
    obtain⟨v,σ',H',J,rv,q⟩:=hs;exact fin J rv q
  | next =>
    obtain⟨σ',H',J,q⟩:=hs;exact fin (v:=V.non) (u:=Value.none) J rfl q
  | brk =>
    obtain⟨_,_,_,q⟩:=hs;exact False.elim q
  | cont =>
    obtain⟨_,_,_,q⟩:=hs;exact False.elim q
end L2
namespace L2
open PySem PySem.Spec PyProof.Rows
section
variable{X:Cx}{x:Str}{p pos:Pos}{e:Expr}{es:List Expr}{t:TA}{id T:String}{r:List V→Hp→VK→Prop}
def tCB(r:List V→Hp→VK→Prop)(t:TA):TE:=λσ H Q=>t σ H λvs H1=>r vs H1 Q
theorem ao(hc:iq X (.builtin id) r)(hg:Gl X x)(hm:X.mg x=none)(hv:bootBuiltins x=some (.builtin id))(ha:PA X (e::es) t)(hn:x ≠ "__name__" := by decide)(hdb:(x == ("__debug__" : Str))=false:=by decide)
    (he:starEach (e::es) X.env=(false,eval e X.env)::starEach es X.env:=by rfl) (hpl:(backTo pos (starEach es X.env)).any (·.1)=false:=by rfl):PE X (.Call (.Name x p) (e::es) [] pos) (tCB r t):=by
  intro pins s σ H Q I h;refine wpAny_Call_Name_kw (ie I hg hm hv ?_ hn hdb);exact PyProof.Rows.callWith_builtin1 (thn (ha pos pins s σ H _ I h) λus s1 ⟨vs,H1,I1,r1,q1⟩=>hc pins s1 σ H1 vs us Q I1 r1 q1) he hpl
theorem iG(hc:iq X (.type T) r)(hg:Gl X x)(hm:X.mg x=none)(hv:bootBuiltins x=some (.type T))(ha:PA X (e::es) t)(hn:x ≠ "__name__" := by decide)(hdb:(x == ("__debug__" : Str))=false:=by decide)
    (he:starEach (e::es) X.env=(false,eval e X.env)::starEach es X.env:=by rfl) (hpl:(backTo pos (starEach es X.env)).any (·.1)=false:=by rfl):PE X (.Call (.Name x p) (e::es) [] pos) (tCB r t):=by
  intro pins s σ H Q I h;refine wpAny_Call_Name_kw (ie I hg hm hv ?_ hn hdb);exact PyProof.Rows.callWith_type1 (thn (ha pos pins s σ H _ I h) λus s1 ⟨vs,H1,I1,r1,q1⟩=>hc pins s1 σ H1 vs us Q I1 r1 q1) he hpl
end
end L2
namespace HT
open PySem PyProof.Rows
section
open PySem.SeqAt
open PySem.AutoSeq1 (wpAny_loadPart')
open PySem.MeetsSeq PySem.MeetsSeq2 PySem.MeetsSeq3
end
section
variable{prog:Program}{w:World}{A:Around}{E:Value→Shared→Prop}{s:Shared}
def sIx(n d:Nat):Option Int→Nat
  | none=>d
  | some v=>if v<0 then(v+(n:Int)).toNat else min v.toNat n
theorem tZ(n d k:Nat):sIx n d (some (k:Int))=min k n:=by
  show(if(k:Int)<0 then((k:Int)+(n:Int)).toNat else min (k:Int).toNat n)=min k n;rw[if_neg (by omega),Int.toNat_natCast]
end
end HT
namespace L2
open PySem PySem.Spec PyProof.Rows
abbrev TO:=St→Hp→(Option Int→Hp→Prop)→Prop
def PO(X:Cx)(e:Option Expr)(t:TO):Prop :=
  ∀(pins:List (Addr×Obj)) (s:Shared) (σ:St) (H:Hp) (Q:Option Int→Hp→Prop),Inv X pins σ H s→t σ H Q →
    wpAny (model X.prog X.w) X.A (evalPart e X.env) (λu s'=>∃ o H',Inv X pins σ H' s'∧IsPart u o∧Q o H') X.xe s
def t6:TO:=λ_ H Q=>Q none H
def AS(t:TE):TO:=λσ H Q=>t σ H λx H1=>∃ i,x=.int i∧Q (some i) H1
section
variable{X:Cx}{e:Expr}{te:TE}{lo hi:Option Expr}{tl th:TO}{pos p2:Pos}
theorem gO:PO X none t6:=by
  intro pins s σ H Q I h;rw[evalPart_none];exact wpAny_pure ⟨none,H,I,.none,h⟩
theorem gP(h:PE X e te):PO X (some e) (AS te):=by
  intro pins s σ H Q I hw;rw[evalPart_some];refine thn (h pins s σ H _ I hw) λu s1 ⟨x,H1,I1,r1,q1⟩=>?_;obtain⟨i,rfl,q⟩:=q1;obtain⟨t,rfl⟩:=r1;exact⟨some i,H1,I1,.int i t,q⟩
def SlR(X:Cx)(r:V→Option Int→Option Int→Hp→VK→Prop):Prop :=
  ∀(pins:List (Addr×Obj)) (s:Shared) (σ:St) (H:Hp) (x:V) (v vl vu:Value) (lo hi:Option Int) (sl:Addr) (Q:VK),Inv X pins σ H s→RelV x v→s.heap.IsSliceOf sl vl vu .none→IsPart vl lo→IsPart vu hi→r x lo hi H Q →
    ∃ T id,typeLookup (.type T) "__getitem__" = pure (some (.builtin id))∧s.TypeIs v T∧wpAny (model X.prog X.w) X.A (getItem v (.ref sl)) (EP X pins σ Q) X.xe s
def tSl(r:V→Option Int→Option Int→Hp→VK→Prop)(te:TE)(tl th:TO):TE:=λσ H Q=>te σ H λx H1=>tl σ H1 λl H2=>th σ H2 λu H3=>r x l u H3 Q
theorem fi{r:V→Option Int→Option Int→Hp→VK→Prop}(hr:SlR X r)(he:PE X e te)(hl:PO X lo tl)(hu:PO X hi th):PE X (.Subscript e (.Slice lo hi none p2) pos) (tSl r te tl th):=by
  intro pins s σ H Q I h;refine Subscript_ (thn (he pins s σ H _ I h) λv s1 ⟨x,H1,I1,r1,q1⟩=>?_);refine wpAny_Slice (thn (hl pins s1 σ H1 _ I1 q1) λvl s2 ⟨l,H2,I2,pl,q2⟩=>thn (hu pins s2 σ H2 _ I2 q2) λvu s3 ⟨u,H3,I3,pu,q3⟩=>?_);rw[evalPart_none];refine wpAny_pure ?_;have I4:Inv X pins σ H3 {s3 with heap:=s3.heap.push {cls:=.type "slice",data:=.fields #[vl,vu,.none]}}:=I3.kept (t':=s3.toks) λb ob q=>C9 _ q;obtain⟨T,id,hT,ht,hg⟩:=hr pins {s3 with heap:=s3.heap.push {cls:=.type "slice",data:=.fields #[vl,vu,.none]}} σ H3 x v vl vu l u s3.heap.objs.size Q I4 r1 (Heap.IsSliceOf.new ..) pl pu q3;show wpAny (model X.prog X.w) X.A (subscriptTail e (.Slice lo hi none p2) v (.ref s3.heap.objs.size)) (EP X pins σ Q) X.xe {s3 with heap:=s3.heap.push {cls:=.type "slice",data:=.fields #[vl,vu,.none]}};exact tail_any (ops:=[.ref s3.heap.objs.size,v]) ht hT hg (by with_unfolding_all rfl)
def jk(xs:List V)(lo hi:Option Int):List V:=(xs.drop (HT.sIx xs.length 0 lo)).take (HT.sIx xs.length xs.length hi-HT.sIx xs.length 0 lo)
theorem mE(xs:List V)(lo hi:Option Int):(jk xs lo hi).length≤xs.length:=by
  unfold jk;rw[DD,D7];omega
end
end L2
namespace L2
open PySem PySem.Spec PyProof.Rows
def ixN(n:Nat)(i:Int):Option Nat:=if 0≤i then(if i<n then some i.toNat else none) else if -(n:Int)≤i then some (i+n).toNat else none
def atI{α:Type}(xs:List α)(i:Int):Option α:=(ixN xs.length i).bind λj=>xs[j]?
theorem qf{n:Nat}{i:Int}{j:Nat}(h:ixN n i=some j):seqIndex? i n=some j∧j<n∧-(n:Int)≤i∧i<n:=by
  unfold ixN at h;by_cases h0:0≤i
  · rw[if_pos h0]at h
    by_cases h1:i<n
    · rw[if_pos h1]at h
      have e:i.toNat=j:=DP h;exact⟨by rw[seqIndex_of h0 h1,e],by omega,by omega,h1⟩
    · rw[if_neg h1]at h;cases h
  · rw[if_neg h0]at h
    by_cases h1:-(n:Int)≤i
    · rw[if_pos h1]at h
      have e:(i+n).toNat=j:=DP h;exact⟨by rw[seqIndex_neg (by omega) h1,e],by omega,h1,by omega⟩
    · rw[if_neg h1]at h;cases h
theorem lO{α:Type}{xs:List α}{i:Int}{v:α}(h:atI xs i=some v):∃ j,seqIndex? i xs.length=some j∧xs[j]?=some v∧j<xs.length∧-(xs.length:Int)≤i∧i<xs.length:=by
  unfold atI at h;cases e:ixN xs.length i with
  | none=>rw[e]at h;cases h
  | some j =>
    rw[e]at h;obtain⟨h1,h2,h3,h4⟩:=qf e;exact⟨j,h1,h,h2,h3,h4⟩
theorem qg{α:Type}{xs:List α}{j:Nat}{v:α}(h:xs[j]?=some v):atI xs (j:Int)=some v:=by
  have hj:j<xs.length:=(Dd.mp h).1;have e:ixN xs.length (j:Int)=some j:=by
    unfold ixN;rw[if_pos (by omega),if_pos (by omega)];simp
  unfold atI;rw[e];exact h
def t8(b:Expr):Prop:=∀ o i,subscripted b false o i=operate [o,i] (getItem o i)
def IxR(X:Cx)(r:R2):Prop :=
  ∀(value slice:Expr) (pins:List (Addr×Obj)) (s:Shared) (σ:St) (H:Hp) (x y:V) (v u:Value) (Q:VK),Inv X pins σ H s→RelV x v→RelV y u→r x y H Q →
    subscripted slice false v u=operate [v,u] (getItem v u)→wpAny (model X.prog X.w) X.A (subscriptTail value slice v u) (EP X pins σ Q) X.xe s
def MtR(X:Cx)(id:String)(r:V→List V→Hp→VK→Prop):Prop :=
  ∀(pins:List (Addr×Obj)) (s:Shared) (σ:St) (H:Hp) (x:V) (xs:List V) (v:Value) (us:List Value) (Q:VK),Inv X pins σ H s→RelV x v→Vals xs us→r x xs H Q →
    wpAny (model X.prog X.w) X.A (call (.builtin id) (v::us)) (EP X pins σ Q) X.xe s
section
variable{X:Cx}{a b:Expr}{ta tb:TE}{pos:Pos}
theorem IxR.or{r r':R2}(h:IxR X r)(h':IxR X r'):IxR X (λx y H Q=>r x y H Q∨r' x y H Q):=by
  intro value slice pins s σ H x y v u Q I rx ry q hs;rcases q with q|q
  · exact h value slice pins s σ H x y v u Q I rx ry q hs
  · exact h' value slice pins s σ H x y v u Q I rx ry q hs
theorem b7{r:R2}(hr:IxR X r)(ha:PE X a ta)(hb:PE X b tb)(hs:t8 b):PE X (.Subscript a b pos) (tOp r ta tb):=by
  intro pins s σ H Q I h;exact Subscript_ (yq ha hb I h λv u s2 x y H2 I2 rx ry q=>hr a b pins s2 σ H2 x y v u Q I2 rx ry q (hs _ _))
def ub(K:W.Frag):R2:=λx y H Q=>∃ p xs i v,x=.ref p∧y=.int i∧SqL K H p xs∧atI xs i=some v∧Q v H
def uZ(K:W.Frag):R2:=λx y H Q=>∃ p xs i v,x=.ref p∧y=.int i∧SqT K H p xs∧atI xs i=some v∧Q v H
def Bv:R2:=λx y H Q=>∃ z i c,x=.str z∧y=.int i∧z.length≤sizeLine∧atI z.cps.toList i=some c∧Q (.str ⟨#[c]⟩) H
theorem eo:IxR X (ub X.K):=by
  intro value slice pins s σ H x y v u Q I rx ry h hs;obtain⟨p,xs,i,z,rfl,rfl,hq,he,q⟩:=h;cases rx;obtain⟨t,rfl⟩:=ry;obtain⟨its,r,pl,hz⟩:=I.list hq;obtain⟨j,h1,h2,h3,h4,h5⟩:=lO he;obtain⟨w,ew,rw'⟩:=r.get h2;have hl:=r.length;have hn:=jJ;have fin:EP X pins σ Q w s:=⟨z,H,I,rw',q⟩;by_cases h0:0≤i
  · have hj:i.toNat=j:=by
      rw[seqIndex_of h0 h5]at h1;exact DP h1
    exact item_listR pl.isList h0 (by omega) (by rw[hj];simpa using ew) fin hs
  · have hj:(i+(its.toArray.size:Int)).toNat=j:=by
      rw[seqIndex_neg (by omega) h4]at h1;rw[Dj,←hl];exact DP h1
    exact subscriptTail_builtinR (x:=w) pl.isList.typeIs slot_list_getitem.lookup
      (wpAny_getItem_list_neg (Q:=λr s'=>r=w∧EP X pins σ Q r s') pl.isList (by omega) (by rw[Dj]<;>omega) (by omega) (by rw[hj];simpa using ew) ⟨rfl,fin⟩) hs
theorem cq:IxR X (uZ X.K):=by
  intro value slice pins s σ H x y v u Q I rx ry h hs;obtain⟨p,xs,i,z,rfl,rfl,hq,he,q⟩:=h;cases rx;obtain⟨t,rfl⟩:=ry;obtain⟨its,r,pl,hz⟩:=I.tuple hq;obtain⟨j,h1,h2,h3,h4,h5⟩:=lO he;obtain⟨w,ew,rw'⟩:=r.get h2;have hl:=r.length;have hn:=jJ;have fin:EP X pins σ Q w s:=⟨z,H,I,rw',q⟩;exact subscriptTail_builtinR (x:=w) pl.typeIs slot_tuple_getitem.lookup
    (getItem_tuple (j:=j) (Q:=λr s'=>r=w∧EP X pins σ Q r s') pl (by omega) (by omega) (by rw[Dj,←hl];exact h1) (by simpa using ew) ⟨rfl,fin⟩) hs
theorem xC:IxR X Bv:=by
  intro value slice pins s σ H x y v u Q I rx ry h hs;obtain⟨z,i,c,rfl,rfl,hz,he,q⟩:=h;obtain⟨t,rfl⟩:=rx;obtain⟨t',rfl⟩:=ry;obtain⟨j,h1,h2,h3,h4,h5⟩:=lO he;have hl:z.cps.toList.length=z.length:=by simp[Str.length]
  rw[hl]at h1 h4 h5;have hn:=jJ;exact tail_any (typeIs_str s z t) slot_str_getitem.lookup (getItem_str (c:=c) (by
    have e1:decide (i < -(2 ^ 63:Int))=false:=decide_eq_false (by omega);have e2:decide (i≥2 ^ 63)=false:=decide_eq_false (by omega);rw[e1,e2,Bool.or_false]) (by rw[h1];simpa using h2) ⟨.str ⟨#[c]⟩,H,I.tok _,⟨_,rfl⟩,q⟩) hs
def rIx(K:W.Frag):R2:=λx y H Q=>ub K x y H Q∨uZ K x y H Q∨Bv x y H Q
theorem sU:IxR X (rIx X.K):=eo.or (cq.or xC)
theorem ot(its:List Value)(n j:Nat)(u:Value):Obj.mapSeq (·.setIfInBounds j u) {cls:=.type "list",data:=.seq its.toArray n}={cls:=.type "list",data:=.seq (its.set j u).toArray n}:=by
  simp[Obj.mapSeq]
theorem Inv.lst{pins:List (Addr×Obj)}{σ:St}{H:Hp}{s:Shared}{p:Addr}{xs:List V}(I:Inv X pins σ H s)(h:H p=some (.lst xs)) :
    ∃(its:List Value) (n:Nat),Vals xs its∧s.heap.get? p=some {cls:=.type "list",data:=.seq its.toArray n}∧xs.length≤sizeLine:=by
  obtain⟨z,its,n,r,e⟩:=I.hok p _ h;exact⟨its,n,r,e,z⟩
theorem Inv.xD{pins:List (Addr×Obj)}{σ:St}{H:Hp}{s:Shared}{p:Addr}{xs ys:List V}{its lN:List Value}{n n':Nat}{f:Obj→Obj}(I:Inv X pins σ H s)(h:H p=some (.lst xs))
    (ho:s.heap.get? p=some {cls:=.type "list",data:=.seq its.toArray n}) (hf:f {cls:=.type "list",data:=.seq its.toArray n}={cls:=.type "list",data:=.seq lN.toArray n'}) (r:Vals ys lN) (hz:ys.length≤sizeLine) (t:Nat) :
    Inv X pins σ (upd H p (.lst ys)) {s with heap:=s.heap.update p f,toks:=t}:=by
  have e:(s.heap.update p f).get? p=some {cls:=.type "list",data:=.seq lN.toArray n'}:=by
    rw[Heap.get?_update_self f ho (by rw[hf]<;>rfl),hf]
  refine I.write (x:=p) (e:=p) (by rw[h];trivial) (.inl rfl) (λb u hb q=>(DF _ _ (DH hb)).trans q) ⟨_,e⟩ ?_;exact⟨hz,lN,n',r,e⟩
def AU:V→V→V→Hp→(Hp→Prop)→Prop:=λo i v H Q=>∃ p xs k j,o=.ref p∧i=.int k∧H p=some (.lst xs)∧ixN xs.length k=some j∧Q (upd H p (.lst (xs.set j v)))
theorem set_list:Bq X AU:=by
  intro pins s σ H o i v ov iv u Q I ro ri rv h;obtain⟨p,xs,k,j,rfl,rfl,hp,hj,q⟩:=h;cases ro;obtain⟨t,rfl⟩:=ri;obtain⟨its,n,r,ho,hz⟩:=I.lst hp;obtain⟨h1,h2,h3,h4⟩:=qf hj;have hl:=r.length;have hn:=jJ;have I':Inv X pins σ (upd H p (.lst (xs.set j v))) {s with heap:=s.heap.update p (Obj.mapSeq (·.setIfInBounds j u))} :=
    I.xD hp ho (ot its n j u) (r.set rv j) (by rw[Dy];exact hz) s.toks
  by_cases h0:0≤k
  · have hk:k.toNat=j:=by
      rw[seqIndex_of h0 h4]at h1;exact DP h1
    exact PySem.W.ki_setAt ho h0 (by omega) (by rw[Dj,←hl];exact h4) (by rw[hk];exact⟨_,I',q⟩)
  · have hk:(k+(its.toArray.size:Int)).toNat=j:=by
      rw[seqIndex_neg (by omega) h3]at h1;rw[Dj,←hl];exact DP h1
    exact PySem.W.ki_setBack ho (by omega) (by rw[Dj,←hl];exact h3) (by omega) (by rw[hk];exact⟨_,I',q⟩)
theorem kH(lo hi:Option Int)(n:Nat):(sliceBounds lo hi none n).1=((HT.sIx n 0 lo:Nat):Int)∧(sliceBounds lo hi none n).2.1=((HT.sIx n n hi:Nat):Int)∧(sliceBounds lo hi none n).2.2=1:=by
  refine⟨?_,?_,rfl⟩
  · cases lo with
    | none=>simp[sliceBounds,HT.sIx]
    | some i =>
      simp only[sliceBounds,HT.sIx,Option.getD_none,show(1:Int)>0 by decide,if_true];by_cases h:i<0
      · simp only[h,if_true]<;>omega
      · simp only[h,if_false]<;>omega
  · cases hi with
    | none=>simp[sliceBounds,HT.sIx]
    | some i =>
      simp only[sliceBounds,HT.sIx,Option.getD_none,show(1:Int)>0 by decide,if_true];by_cases h:i<0
      · simp only[h,if_true]<;>omega
      · simp only[h,if_false]<;>omega
theorem jL(its:List Value)(lo hi:Option Int):slicePick its.toArray lo hi none=((its.drop (HT.sIx its.length 0 lo)).take (HT.sIx its.length its.length hi-HT.sIx its.length 0 lo)).toArray:=by
  obtain⟨h1,h2,h3⟩:=kH lo hi its.toArray.size;unfold slicePick;rw[h1,h2,h3];simp only[sliceRange_one,pick_run,Dj]<;>rfl
def Ct(K:W.Frag):V→Option Int→Option Int→Hp→VK→Prop:=λx lo hi H Q=>∃ a xs,x=.ref a∧SqL K H a xs∧∀ p,H p=none→Q (.ref p) (upd H p (.lst (jk xs lo hi)))
theorem gQ:SlR X (Ct X.K):=by
  intro pins s σ H x v vl vu lo hi sl Q I rx hs pl pu h;obtain⟨a,xs,rfl,hx,q⟩:=h;cases rx;obtain⟨its,r,ht,hz⟩:=I.list hx;have hlen:=r.length;refine⟨"list",_,slot_list_getitem.lookup,ht.isList.typeIs,?_⟩;refine wpAny_getItem_list_slice ht.isList hs pl pu .none (by simp) ?_ (by rw[Dj]<;>omega);rw[jL,←hlen];refine⟨.ref s.heap.objs.size,_,I.laid (t':=s.toks) (o:=.lst (jk xs lo hi)) (λb ob q=>C9 _ q) (Dk _) ?_,rfl,q _ (I.hok.fresh (Dk _))⟩;exact⟨DK (mE xs lo hi) hz,_,0,(r.drop (HT.sIx xs.length 0 lo)).take (HT.sIx xs.length xs.length hi-HT.sIx xs.length 0 lo),DB _ rfl⟩
def c6:V→Bool
  | .non=>true
  | .bl _=>true
  | .int _=>true
  | .str _=>true
  | _=>false
def eqV:V→V→Bool
  | .non,.non=>true
  | .bl a,.bl b=>a == b
  | .bl a,.int b=>(if a then 1 else 0) == b
  | .int a,.bl b=>a == (if b then 1 else 0)
  | .int a,.int b=>a == b
  | .str a,.str b=>a == b
  | _,_=>false
theorem md{A:Around}{s:Shared}{y x:V}{u v:Value}(ry:RelV y u)(rx:RelV x v)(fy:c6 y=true)(fx:c6 x=true):SeqAt.EqAt A s u v (eqV y x):=by
  cases y with
  | non =>
    cases ry;cases x with
    | non=>cases rx;exact SeqAt.EqAt.same _
    | bl b=>cases rx;exact SeqAt.EqAt.none_bool b
    | int b=>obtain⟨t,rfl⟩:=rx;exact SeqAt.EqAt.none_int b t
    | str b=>obtain⟨t,rfl⟩:=rx;exact SeqAt.EqAt.none_str b t
    | _=>exact absurd (show false=true from fx) Df
  | bl a =>
    cases ry;cases x with
    | non=>cases rx;exact SeqAt.EqAt.bool_none a
    | bl b=>cases rx;exact SeqAt.EqAt.bool_bool a b
    | int b=>obtain⟨t,rfl⟩:=rx;exact SeqAt.EqAt.bool_int a b t
    | str b=>obtain⟨t,rfl⟩:=rx;exact SeqAt.EqAt.bool_str a b t
    | _=>exact absurd (show false=true from fx) Df
  | int a =>
    obtain⟨t',rfl⟩:=ry;cases x with
    | non=>cases rx;exact SeqAt.EqAt.int_none a t'
    | bl b=>cases rx;exact SeqAt.EqAt.int_bool a t' b
    | int b=>obtain⟨t,rfl⟩:=rx;exact SeqAt.EqAt.int_int a t' b t
    | str b=>obtain⟨t,rfl⟩:=rx;exact SeqAt.EqAt.int_str a t' b t
    | _=>exact absurd (show false=true from fx) Df
  | str a =>
    obtain⟨t',rfl⟩:=ry;cases x with
    | non=>cases rx;exact SeqAt.EqAt.str_none a t'
    | bl b=>cases rx;exact SeqAt.EqAt.str_bool a t' b
    | int b=>obtain⟨t,rfl⟩:=rx;exact SeqAt.EqAt.str_int a t' b t
    | str b=>obtain⟨t,rfl⟩:=rx;exact SeqAt.EqAt.str_str a t' b t
    | _=>exact absurd (show false=true from fx) Df
  | _=>exact absurd (show false=true from fy) Df
def eqU(x:V)(u:Value):Bool:=match u with
  | .none=>eqV .non x
  | .bool b=>eqV (.bl b) x
  | .int i _=>eqV (.int i) x
  | .str z _=>eqV (.str z) x
  | _=>false
theorem pM{x y:V}{u:Value}(r:RelV y u)(f:c6 y=true):eqU x u=eqV y x:=by
  cases y with
  | non=>cases r;rfl
  | bl b=>cases r;rfl
  | int i=>obtain⟨t,rfl⟩:=r;rfl
  | str z=>obtain⟨t,rfl⟩:=r;rfl
  | _=>exact absurd (show false=true from f) Df
theorem lP{x:V}:∀ {xs:List V} {us:List Value},Vals xs us→xs.all c6=true→us.any (eqU x)=xs.any λy=>eqV y x
  | _,_,.nil,_=>rfl
  | y::xs,u::us,.cons r t,f=>by
    rw[Es,DW]at f;rw[Et,Et,pM r f.1,lP t f.2]
theorem ir{A:Around}{s:Shared}{x:V}{v:Value}(rx:RelV x v)(fx:c6 x=true):∀ {xs:List V} {us:List Value},Vals xs us→xs.all c6=true→∀ u∈us,SeqAt.EqAt A s u v (eqU x u)
  | _,_,.nil,_=>λu hu=>by cases hu
  | y::xs,u::us,.cons r t,f=>λu' hu=>by
    rw[Es,DW]at f;rcases Ds.mp hu with rfl|hu
    · rw[pM r f.1];exact md r rx f.1 fx
    · exact ir rx fx t f.2 u' hu
def inV(x:V)(xs:List V):Bool:=xs.any λy=>eqV y x
def rIn(K:W.Frag)(neg:Bool):R2:=λx y H Q=>∃ p xs,y=.ref p∧(SqL K H p xs∨SqT K H p xs)∧c6 x=true∧xs.all c6=true∧Q (.bl (if neg then !inV x xs else inV x xs)) H
theorem kI:OpR X (compareOp .NotIn) (rIn X.K true):=by
  intro pins s σ H x y v u Q I rx ry h;obtain⟨p,xs,rfl,hq,fx,fs,q⟩:=h;cases ry;rcases hq with hq|hq
  · obtain⟨its,r,pl,hz⟩:=I.list hq
    refine SeqAt.notIn_listAt (eqU x) pl.isList (λw hw=>ir rx fx r fs w (by simpa using hw)) ⟨.bl _,H,I,rfl,?_⟩;rw[show its.toArray.any (eqU x)=its.any (eqU x) by simp,lP r fs];exact q
  · obtain⟨its,r,pl,hz⟩:=I.tuple hq
    refine SeqAt.notIn_tupleAt (eqU x) pl (λw hw=>ir rx fx r fs w (by simpa using hw)) ⟨.bl _,H,I,rfl,?_⟩;rw[show its.toArray.any (eqU x)=its.any (eqU x) by simp,lP r fs];exact q
theorem aP:iq X (.builtin "len") (λxs H Q=>∃ p ys,xs=[.ref p]∧(SqL X.K H p ys∨SqT X.K H p ys)∧Q (.int ys.length) H):=by
  intro pins s σ H xs us Q I r h;obtain⟨p,ys,rfl,hq,q⟩:=h;obtain⟨u,rfl,rx⟩:=vals1 r;cases rx;have hn:=jJ;rcases hq with hq|hq
  · obtain⟨its,r',pl,hz⟩:=I.list hq
    have hlen:=r'.length;exact Calls.call_len_list pl.isList (by simp only[Dj]<;>omega) ⟨.int ys.length,H,I.tok _,⟨s.toks+1,by rw[Dj,hlen]⟩,q⟩
  · obtain⟨its,r',pl,hz⟩:=I.tuple hq
    have hlen:=r'.length;exact len_tuple pl (by simp only[Dj]<;>omega) ⟨.int ys.length,H,I.tok _,⟨s.toks+1,by rw[Dj,hlen]⟩,q⟩
theorem hZ:iq X (.type "list") (λxs H Q=>∃ p ys,xs=[.ref p]∧(SqL X.K H p ys∨SqT X.K H p ys)∧∀ l,H l=none→Q (.ref l) (upd H l (.lst ys))):=by
  intro pins s σ H xs us Q I r h;obtain⟨p,ys,rfl,hq,q⟩:=h;obtain⟨u,rfl,rx⟩:=vals1 r;cases rx;have fin:∀(its:List Value),Vals ys its→ys.length≤sizeLine→∀(h':Heap) (c':Nat),(∀ b o',s.heap.get? b=some o'→h'.get? b=some o') →
      h'.get? s.heap.objs.size=some {cls:=.type "list",dict:=none,data:=.seq its.toArray c',slots:=#[]}→EP X pins σ Q (.ref s.heap.objs.size) {s with heap:=h'}:=λits r' hz h' c' kp e =>
    ⟨.ref s.heap.objs.size,_,I.laid (t':=s.toks) kp (Dk _) (show bV X.prog X.w _ h' _ (.lst ys) from⟨hz,its,c',r',e⟩),rfl,q _ (I.hok.fresh (Dk _))⟩
  rcases hq with hq|hq
  · obtain⟨its,r',pl,hz⟩:=I.list hq
    have hlen:=r'.length;obtain⟨o,ho,hc,n,hd⟩:=pl.isList;exact call_list_seq p (.inl rfl) ho hc hd (λh' c' kp e=>fin its r' hz h' c' kp e) (by simp only[Dj]<;>omega)
  · obtain⟨its,r',pl,hz⟩:=I.tuple hq
    have hlen:=r'.length;obtain⟨o,ho,hc,n,hd⟩:=pl;exact call_list_seq p (.inr rfl) ho hc hd (λh' c' kp e=>fin its r' hz h' c' kp e) (by simp only[Dj]<;>omega)
def tyV(K:W.Frag)(T:String)(x:V)(H:Hp):Prop:=match x with
  | .str _=>T = "str"
  | .int _=>T = "int"
  | .ref p=>(T = "list" ∧ ∃ xs,SqL K H p xs)∨(T = "tuple" ∧ ∃ o,K.lookup p=some o∧o.cls=.type "tuple" ∧ o.dict=none) ∨
      (T = "dict" ∧ ((∃ kvs,H p=some (.dK kvs))∨∃ kvs,H p=some (.dT kvs)))∨(T = "set" ∧ ∃ S n,H p=some (.set S n))
  | _=>False
theorem xE{pins:List (Addr×Obj)}{σ:St}{H:Hp}{s:Shared}{T:String}{x:V}{v:Value}(I:Inv X pins σ H s)(r:RelV x v)(ty:tyV X.K T x H) :
    s.TypeIs v T∧∀ a,v=.ref a→∃ ob,s.heap.get? a=some ob∧ob.dict=none:=by
  cases x with
  | str z =>
    obtain⟨t,rfl⟩:=r;cases (show T = "str" from ty);exact⟨typeIs_str s z t,λ_ e=>nomatch e⟩
  | int i =>
    obtain⟨t,rfl⟩:=r;cases (show T = "int" from ty);exact⟨typeIs_int s i t,λ_ e=>nomatch e⟩
  | ref p =>
    cases r;rcases ty with⟨rfl,xs,hq⟩|⟨rfl,o,hk,hc,hd⟩|⟨rfl,hk⟩|⟨rfl,S,n,hk⟩
    · obtain⟨its,_,pl,_⟩:=I.list hq
      refine⟨pl.isList.typeIs,λa e=>?_⟩;cases e;obtain⟨o,n,e,c,hd,_⟩:=pl;exact⟨o,e,hd⟩
    · refine⟨⟨o,I.kIn p o hk,hc⟩,λa e=>?_⟩
      cases e;exact⟨o,I.kIn _ o hk,hd⟩
    · have z:∃ o,s.heap.get? p=some o∧o.ExactDict:=by
        rcases hk with⟨kvs,hk⟩|⟨kvs,hk⟩
        · obtain⟨_,_,_,_,o,_,_,e,ex,_⟩:=I.hok p _ hk
          exact⟨o,e,ex⟩
        · obtain⟨_,_,_,_,o,_,_,e,ex,_⟩:=I.hok p _ hk
          exact⟨o,e,ex⟩
      obtain⟨o,e,ex⟩:=z;refine⟨⟨o,e,ex.1⟩,λa e2=>?_⟩;cases e2;exact⟨o,e,ex.2.1⟩
    · obtain⟨o,_,_,_,e,ex,_⟩:=I.hok p _ hk
      refine⟨⟨o,e,ex.1⟩,λa e2=>?_⟩;cases e2;exact⟨o,e,ex.2.1⟩
  | _=>exact False.elim ty
def tBM(K:W.Frag)(T:String)(r:V→List V→Hp→VK→Prop)(to:TE)(t:TA):TE:=λσ H Q=>to σ H λx H1=>tyV K T x H1∧t σ H1 λxs H2=>r x xs H2 Q
variable{o e:Expr}{es:List Expr}{to:TE}{t:TA}{name:Str}{apos i7:Pos}{T id:String}{r:V→List V→Hp→VK→Prop}
theorem rM(pa:PlainAttrs T)(slot:Slot T name id)(hty:typeOf (.builtin id)=pure (.type "method_descriptor"))(hm:MtR X id r)(ho:PE X o to)(ha:PA X (e::es) t)
    (AV:attributeBase o name X.env (eval o X.env)=eval o X.env:=by rfl)
    (Cu:((backTo i7 (starEach (e::es) X.env)).all (λx=>!x.1)&&(backToKw i7 (keywordEach [] X.env)).all (λx=>x.1.isSome)
      && decide ((e::es).length+([]:List Keyword).length+(if([]:List Keyword).isEmpty then 0 else 1)<30))=true:=by rfl)
    (AW:(apos.endLine == i7.line)=true:=by rfl) (hs:starEach (e::es) X.env=(false,eval e X.env)::starEach es X.env:=by rfl) (xF:(backTo i7 (starEach es X.env)).any (·.1)=false:=by rfl) :
    PE X (.Call (.Attribute o name apos) (e::es) [] i7) (tBM X.K T r to t):=by
  intro pins s σ H Q I h;refine wpAny_Call_method_late AV Cu AW rfl (thn (ho pins s σ H _ I h) λv s1 ⟨x,H1,I1,r1,ty,q1⟩=>?_);obtain⟨h1,h2⟩:=xE I1 r1 ty;refine⟨T,id,pa,slot,hty,h1,h2,?_⟩;have hA:=ha i7 pins s1 σ H1 _ I1 q1;rw[hs]at hA ⊢;refine Calls.callWith_builtin (by show(false||(backTo i7 (starEach es X.env)).any (·.1))=false;rw[xF]<;>rfl) (Calls.evalArgs_plain ?_);exact thn hA λus s2 ⟨vs,H2,I2,r2,q2⟩=>hm pins s2 σ H2 x vs v us Q I2 r1 r2 q2
end
end L2
namespace L2
open PySem PySem.Spec PyProof.Rows
def MtM(X:Cx)(id:String)(r:V→List V→Hp→VK→Prop):Prop :=
  ∀(pins:List (Addr×Obj)) (s:Shared) (σ:St) (H:Hp) (x:V) (xs:List V) (v:Value) (us:List Value) (Q:VK),Inv X pins σ H s→RelV x v→Vals xs us→r x xs H Q →
    wpAny (model X.prog X.w) X.A (call (.builtin id) (v::us)) (EP X pins σ Q) X.xe s
theorem Vals.one:∀ {x:V} {us:List Value},Vals [x] us→∃ u,us=[u]∧RelV x u
  | _,_,.cons r .nil=>⟨_,rfl,r⟩
theorem Vals.rep{xs:List V}{us:List Value}(h:Vals xs us):∀ k:Nat,Vals (List.replicate k xs).flatten (List.replicate k us).flatten
  | 0=>.nil
  | k+1=>by
    rw[DT,DT,Eb,Eb];exact Vals.append h (Vals.rep h k)
theorem foldl_rep(its:List Value):∀(k:Nat) (acc:List Value),
    List.foldl (λx1 x2=>x1++x2) acc.toArray (List.replicate k its.toArray)=(acc++(List.replicate k its).flatten).toArray
  | 0,acc=>by simp
  | k+1,acc=>by
    have e:acc.toArray++its.toArray=(acc++its).toArray:=(by simp);have e2:(acc++its)++(List.replicate k its).flatten=acc++(List.replicate (k+1) its).flatten:=by
      rw[DT,Eb,List.append_assoc]
    rw[←e2,←foldl_rep its k (acc++its),←e,DT,List.foldl_cons]
section
variable{X:Cx}{pins:List (Addr×Obj)}{σ:St}{H:Hp}{s:Shared}{l b:Addr}{xs ys zs:List V}
theorem Inv.Cw{its lN:List Value}{n:Nat}{f:Array Value→Array Value}{t':Nat}(I:Inv X pins σ H s)(hH:H l=some (.lst xs))
    (e:s.heap.get? l=some {cls:=.type "list",data:=.seq its.toArray n}) (hf:f its.toArray=lN.toArray) (hv:Vals ys lN) (hz:ys.length≤sizeLine) :
    Inv X pins σ (upd H l (.lst ys)) {s with heap:=s.heap.update l (Obj.mapSeq f),toks:=t'}:=by
  have q:=PySem.IsL.update e f;rw[hf]at q;refine I.write (x:=l) (e:=l) (by rw[hH];exact trivial) (.inl rfl) (λb' u hb hu=>(DF s.heap (Obj.mapSeq f) (DH hb)).trans hu) ⟨_,q⟩ ?_;exact⟨hz,lN,_,hv,q⟩
theorem Inv.uc{its:List Value}{t':Nat}(I:Inv X pins σ H s)(hv:Vals ys its)(hz:ys.length≤sizeLine) :
    Inv X pins σ (upd H s.heap.objs.size (.lst ys)) {s with heap:=s.heap.push {cls:=.type "list",data:=.seq its.toArray},toks:=t'} :=
  I.laid (λ_ _ q=>C9 _ q) (Dk _) ⟨hz,its,0,hv,DB _ rfl⟩
theorem Inv.fresh(I:Inv X pins σ H s):H s.heap.objs.size=none:=I.hok.fresh (Dk _)
theorem Inv.Bw(I:Inv X pins σ H s)(hH:H l=some (.lst xs)):xs.length≤sizeLine∧∃(its:List Value) (n:Nat),Vals xs its∧xs.length=its.length∧s.heap.get? l=some {cls:=.type "list",data:=.seq its.toArray n}:=by
  obtain⟨z,its,n,r,e⟩:=I.hok l _ hH;exact⟨z,its,n,r,r.length,e⟩
theorem sg{n:Nat}(h:n≤sizeLine):Builtin.List.listTooLong n=false:=by
  unfold Builtin.List.listTooLong;exact decide_eq_false (by omega)
end
section
variable{X:Cx}
def ue:V→List V→Hp→VK→Prop:=λx vs H Q=>∃ l xs y,x=.ref l∧vs=[y]∧H l=some (.lst xs)∧xs.length<sizeLine∧Q .non (upd H l (.lst (xs++[y])))
theorem gD:MtM X "list.append" ue:=by
  intro pins s σ H x vs v us Q I rx rv h;obtain⟨l,xs,y,rfl,rfl,hH,hz,q⟩:=h;cases rx;obtain⟨u,rfl,ru⟩:=rv.one;obtain⟨z,its,n,r,hl,e⟩:=I.Bw hH;refine call_meets F.slot_list_append ⟨_,e,rfl⟩ F.entry_list_append (F.args_list_append_2 _ _) (PySem.list_append l its.toArray n u (by rw[Dj];omega)) ⟨e,?_⟩;refine⟨.non,_,I.Cw (lN:=its++[u]) hH e (by simp) (r.append (.cons ru .nil)) ?_,rfl,q⟩;rw[Dn,D3];omega
def Cy:R2:=λx y H Q=>∃ l k xs,x=.ref l∧y=.int k∧H l=some (.lst xs)∧-(2 ^ 63)≤k∧k<2 ^ 63∧xs.length*k.toNat≤sizeLine ∧
  ∀ p,H p=none→Q (.ref p) (upd H p (.lst (List.replicate k.toNat xs).flatten))
theorem len_rep{α:Type}(xs:List α)(k:Nat):(List.replicate k xs).flatten.length=k*xs.length:=by
  induction k with
  | zero=>simp
  | succ k ih=>rw[DT,Eb,Dn,ih,Nat.succ_mul,Nat.add_comm]
theorem xG:OpR X (binaryOp .Mult) Cy:=by
  intro pins s σ H x y v u Q I rx ry h;obtain⟨l,k,xs,rfl,rfl,hH,h1,h2,hz,q⟩:=h;cases rx;obtain⟨t,rfl⟩:=ry;obtain⟨z,its,n,r,hl,e⟩:=I.Bw hH;have hlen:its.toArray.size*k.toNat≤sizeLine:=by rw[Dj,←hl];exact hz
  have Cz:¬its.toArray.size*k.toNat>(2 ^ 63-1)/8:=by
    have:(sizeLine:Nat)≤(2 ^ 63-1)/8:=by decide
    omega
  have CA:¬(!Builtin.List.listFitsIndex k)=true:=by
    rw[fitsIndex_both h1 h2];exact Df
  have AX:¬Builtin.List.listTooLong (its.toArray.size*k.toNat)=true:=by
    rw[sg hlen];exact Df
  have CB:List.foldl (λx1 x2=>x1++x2) #[] (List.replicate (if its.toArray.isEmpty=true then 0 else k.toNat) its.toArray)=(List.replicate k.toNat its).flatten.toArray:=by
    have f0:∀ m:Nat,List.foldl (λx1 x2=>x1++x2) #[] (List.replicate m its.toArray)=(List.replicate m its).flatten.toArray:=λm=>by
      have:=foldl_rep its m []
      rw[List.nil_append]at this;exact this
    rw[f0];cases its with
    | nil=>simp
    | cons a r'=>rw[if_neg (by simp)]
  refine wpAny_binaryOp_repeat_ref (T := "list") (U := "int") (by decide) ⟨_,e,rfl⟩ (λs'=>typeIs_int s' k t) noFill_list_mul F.fills_int_mul F.slot_int_rmul repeat_list F.slot_int_index.lookup
    (call_meets F.slot_int_rmul (typeIs_int s k t) F.entry_int_rmul (F.args_int_rmul_2 _ _) (int___rmul___int_list k t l its.toArray n)
      ⟨e,rfl,⟨_,e,rfl⟩,call_meets F.slot_list_mul ⟨_,e,rfl⟩ F.entry_list_mul (F.args_list_mul_2 _ _) (AutoListH.list___mul___list_int_3 l its.toArray n k t CA Cz AX) ⟨e,?_⟩⟩)
  rw[CB];exact⟨.ref _,_,I.uc (t':=s.toks) (r.rep k.toNat) (by rw[len_rep,Nat.mul_comm];exact hz),rfl,q _ I.fresh⟩
end
section
variable{prog:Program}{w:World}{A:Around}{E:Value→Shared→Prop}{s:Shared}
end
section
variable{X:Cx}
end
end L2
namespace Att
open PySem PySem.W PySem.Calls PyProof.Rows
theorem iU{P:Params}{h:Heap}:∀(ns:List Int) (vs:List Value),WellAll P h vs (ns.map WData.int)→IntsAre vs ns:=by
  intro ns;induction ns with
  | nil =>
    intro vs w;rw[List.map_nil]at w;cases w;exact .nil
  | cons n ns ih =>
    intro vs w;rw[DN]at w;cases w with
    | cons a b =>
      cases a;exact .cons _ _ (ih _ b)
theorem qQ{l:OpenLaw}{n:Nat}(hn:l.most=some n){P:Params}{h:Heap}{args:List WData}{vals:List Value}
    (u0:l.row.toRowW.claim.pre args=true) (hwl:WellAll P h vals args) :
    ∃ a vs ns,vals=[Value.ref a]∧args=[WData.list (ns.map WData.int)]∧h.get? a=some {cls:=.type "list",data:=.seq vs.toArray}∧IntsAre vs ns∧ns.length≤n:=by
  have hsh:WShape.hasAll [] args [.list .int]=true:=(pre_splitW u0).1;have hc:l.pre.holds [] {args:=args}=true:=(pre_splitW u0).2;obtain⟨d,r,rfl,h1,h2⟩:=hasAllW_cons hsh;obtain rfl:=hasAllW_nil h2;obtain⟨xs,rfl,h3⟩:=hasW_list h1;obtain⟨ns,rfl⟩:=items_int h3;have hlen:ns.length≤n:=by
    unfold OpenLaw.pre at hc;have h4:(WTm.not (.lt (.lit (.int (n:Int))) (.len (.arg 0)))).holds [] {args:=[.list (ns.map .int)]}=true:=by
      have h4:=(holds_andW hc).1;rw[hn]at h4;exact h4
    have h5:=condW_of h4 (w_not (w_lt w_lit (w_len_list (w_arg rfl))));rw[Dl]at h5;refine Nat.le_of_not_lt λq=>?_;have q':(n:Int)<((ns.length:Nat):Int):=by omega
    first
      | (rw[decide_eq_true q']at h5;exact absurd h5 (by decide))
      | (simp at h5;omega)
  cases hwl with
  | cons w1 w2 =>
    cases w2;cases w1 with
    | list ho hall=>exact⟨_,_,ns,rfl,rfl,ho,iU ns _ hall,hlen⟩
theorem qR(l:OpenLaw)(args:List WData):l.row.toRowW.claim.post args (.bool true) args=true :=
  postW_of (r:=l.row.toRowW) (X:=(true == true))
    (show WShape.has [] (.bool true) .bool=true by first|rfl|decide|simp[WShape.has,WShape.arms,WShape.armsAll])
    (show(WTm.eq .res (.lit (.bool true))).value [] {args:=args,res:=some (.bool true),after:=args}=some (.bool (true == true)) from w_eq_bool (w_res rfl) w_lit) rfl
theorem mF{l:OpenLaw}{n:Nat}{q:Program}{loose:List Str}{XP:(Str→Option Value)→Heap→Prop}{YP:World→Heap→Prop}{d:DefRec}
    (hn:l.most=some n) (hdf:d.params.defaults=[])
    (call:∀(w:World) (s₀ s₁:Shared) (mg mb:Str→Option Value) (fa:Addr) (o:Obj) (pm cd doc:Value) (a:Addr) (vs:List Value) (ns:List Int),
      Ground q loose [] XP w s₀ mg mb s₁.heap→YP w s₁.heap →
      s₁.heap.get? fa=some o→o.data=.func (docDef d.name d.params d.body d.scope pm cd doc)→s₁.heap.CodeRec cd d.name→mg d.name=some (.ref fa) →
      s₁.heap.get? a=some {cls:=.type "list",data:=.seq vs.toArray}→IntsAre vs ns→ns.length≤n→s₁.gens=#[] →
      codeAny (model l.prog w) callerA (.call (.ref fa) ⟨[.ref a],[]⟩) (λr s'=>r=.ok (.ret (.bool true))∧OldK s₁.heap s'.heap∧s'.os=s₁.os∧AllBare s'.gens) s₁) :
    WalkO q loose XP YP l.row.toRowW d [] (λf vs=>PySem.call f vs):=by
  intro w s₀ s₁ mg mb G Y fa o pm cd doc dV kV ho hd hcd hD hmg hg args vals as u0 hlay hrd hwl hlo;obtain rfl:dV=.none:=Dflts.none hD hdf;obtain rfl:kV=.none:=Dflts.noKw hD;obtain⟨a,vs,ns,rfl,rfl,yw,hints,hlen⟩:=qQ hn u0 hwl;refine enter_call (codeAny_mono (call w s₀ s₁ mg mb fa o pm cd doc a vs ns G Y ho (fd_plain hd) hcd hmg yw hints hlen hg) λr s' hq=>?_);obtain⟨rfl,h2,h3,h4⟩:=hq;exact⟨.inl ⟨.bool true,.bool true,[],rfl,λ_=>rfl,.bool true,qR l _,λ_=>⟨List.Pairwise.nil,λ_ hm=>(nomatch hm)⟩⟩,h2,h3,h4⟩
section
variable{prog:Program}{w:World}{A:Around}{E:Value→Shared→Prop}{s:Shared}{K:Frag}
end
end Att
namespace L2
open PySem PySem.Spec PyProof.Rows
theorem gE:∀ {vs:List Value} {ns:List Int},IntsAre vs ns→Vals (ns.map V.int) vs
  | _,_,.nil=>.nil
  | _,_,.cons n t h=>.cons ⟨t,rfl⟩ (gE h)
def yx(H:Hp):Prop:=∀ b,H b=none∨∃ o xs,H b=some (.frz o (.lst xs))
theorem sh{P:Program}{w:World}{K:W.Frag}{mg mb:Str→Option Value}{CX:CXT}{k:Nat}{fa a:Addr}{fd:FuncData}{x:Str}{sp:Sp}{s₁:Shared}{vs:List Value}{ns:List Int}
    (KX:K.In s₁.heap) (hns:s₁.heap.Ns mainGlobals mg) (hb:s₁.heap.Ns builtinsNs mb) (hbb:∀ x:Str,x ≠ "__name__" → mb x=bootBuiltins x) (CC:s₁.heap.NoLimit) (hg:s₁.gens=#[])
    (ha:s₁.heap.get? a=some {cls:=.type "list",data:=.seq vs.toArray}) (hi:IntsAre vs ns) (hl:ns.length≤sizeLine) (hr:eh k callerA)
    (F:∀ base:Heap,K.In base→base.Ns mainGlobals mg→g5 P w K mg base CX k fa fd [x] sp) (AY:∀(s:Shared) (u:Value),BindsTo s fd ⟨[u],[]⟩ [(x,u)])
    (hsp:∀ H:Hp,yx H→SqL K H a (ns.map V.int)→sp [.ref a] H (λv _=>v=.bl true) λ_ _ _=>False)
    (hCX:∀ H e s',CX [] H s₁ (λ_ _ _=>False) e s'→False) :
    codeAny (model P w) callerA (.call (.ref fa) ⟨[.ref a],[]⟩) (λr s'=>r=.ok (.ret (.bool true))∧OldK s₁.heap s'.heap∧s'.os=s₁.os∧AllBare s'.gens) s₁:=by
  have rv:=gE hi;have CD:=hi.length;have core:∀ H:Hp,yx H→SqL K H a (ns.map V.int)→HOk P w H s₁.heap→(∀ b,H b≠none→b=a)→(H a≠none→K.lookup a=none) →
      codeAny (model P w) callerA (.call (.ref fa) ⟨[.ref a],[]⟩) (λr s'=>r=.ok (.ret (.bool true))∧OldK s₁.heap s'.heap∧s'.os=s₁.os∧AllBare s'.gens) s₁:=by
    intro H hO hS hok hA hK;have qh:∀ {b:Addr} {o:Obj},s₁.heap.get? b=some o→H b=none→(n8 s₁.heap H).get? b=some o:=λe n=>rY e n;have noA:∀ {b:Addr} {o:Obj} {es:Array DictEntry} {ep:Nat},s₁.heap.get? b=some o→o.data=.dict es ep→H b=none:=λ{b o es ep} e d=>by
      cases q:H b with
      | none=>rfl
      | some u =>
        have e':b=a:=hA b (by rw[q];simp);subst e';rw[ha]at e;cases e;have d':Data.seq vs.toArray _=Data.dict es ep:=d;cases d'
    have nsK:∀ {b:Addr} {m:Str→Option Value},s₁.heap.Ns b m→(n8 s₁.heap H).Ns b m:=λ{b m} ⟨o,es,ep,e,d,r⟩=>⟨o,es,ep,qh e (noA e d),d,r⟩;have hKb:K.In (n8 s₁.heap H):=λb o e=>qh (KX b o e) (by
      cases q:H b with
      | none=>rfl
      | some u =>
        have e':b=a:=hA b (by rw[q];simp);subst e';rw[hK (by rw[q];simp)]at e;cases e)
    have hM:Mod K mg (n8 s₁.heap H):=⟨hKb,nsK hns,⟨mb,nsK hb,hbb⟩,let ⟨mc,h1,h2⟩:=CC;⟨mc,nsK h1,h2⟩⟩;have e0:rW P w K mg (n8 s₁.heap H) callerA [] s₁ H:=⟨rfl,hM,λb o e=>tT e,Nat.le_of_eq (qG _ _),trivial,λb hb=>absurd (show b∈([]:List Addr) from hb) (by simp),hok,.of_eq hg⟩;refine codeAny_mono ((F _ hKb (nsK hns)).run callerA [] s₁ H ⟨[.ref a],[]⟩ [.ref a] [.ref a] _ _ hr e0 (AY s₁ (.ref a)) (.cons rfl .nil) (hsp H hO hS)) λr s' h=>?_;cases r with
    | error e=>exact(hCX H e s' h).elim
    | ok fl =>
      cases fl with
      | next=>exact False.elim h
      | brk=>exact False.elim h
      | cont=>exact False.elim h
      | ret u =>
        obtain⟨v,H',os,bare,un,CF,r',q⟩:=h;have q':v=.bl true:=q;subst q';obtain rfl:u=Value.bool true:=r';refine⟨rfl,OldK.of_keep λb o e=>?_,os,bare⟩;cases q:H b with
        | none=>exact un.keep b o e q (by intro z;exact absurd (show b∈([]:List Addr) from z) (by simp)) (by simp)
        | some u =>
          rcases hO b with z|⟨ob,xs,z⟩
          · rw[q]at z;cases z
          · have z2:=un.jH b ob _ z
            obtain⟨e1,_⟩:=hok b _ z;obtain⟨e2,_⟩:=CF b _ z2;rw[e]at e1;cases e1;exact e2
  cases hk:K.lookup a with
  | some o =>
    have e:=KX a o hk;rw[ha]at e;cases e;refine core (λ_=>none) (λ_=>.inl rfl) (.inr ⟨_,vs.toArray,_,hk,rfl,rfl,rfl,by rw[Dj,CD];exact hl,by simpa using rv⟩) (λb u z=>by have z':(none:Option HO)=some u:=z;cases z') (λb z=>absurd rfl z) λz=>absurd rfl z
  | none =>
    refine core (λb=>if b=a then some (.frz {cls:=.type "list",data:=.seq vs.toArray} (.lst (ns.map V.int))) else none) (λb=>?_) (.inl (.inr ⟨{cls:=.type "list",data:=.seq vs.toArray},if_pos rfl⟩)) (λb u z=>?_) (λb z=>?_) λ_=>hk
    · by_cases hb:b=a
      · exact .inr ⟨_,_,if_pos hb⟩
      · exact .inl (if_neg hb)
    · by_cases hb:b=a
      · have z':=(if_pos hb).symm.trans z
        cases z';subst hb;exact⟨ha,by rw[Dl];exact hl,vs,_,rv,ha⟩
      · have z':=(if_neg hb).symm.trans z
        cases z'
    · by_cases hb:b=a
      · exact hb
      · exact absurd (if_neg hb) z
end L2
namespace L2
open PySem PySem.Spec PyProof.Rows
theorem uf{l:PySem.W.OpenLaw}{n k:Nat}{q:Program}{loose:List Str}{XP:(Str→Option Value)→Heap→Prop}{YP:World→Heap→Prop}{d:DefRec}{K:Params→W.Frag}{CX:World→CXT}{sp:World→Sp}{x:Str}
    (hn:l.most=some n) (hn2:n≤sizeLine) (hdf:d.params.defaults=[]) (hr:eh k callerA)
    (hY:∀(w:World) (h:Heap),YP w h→(K w.params).In h)
    (F:∀(w:World) (mg:Str→Option Value) (fa:Addr) (h:Heap),(K w.params).In h→h.Ns mainGlobals mg→mg d.name=some (.ref fa) →
      ∃ fd:FuncData,(∀(s:Shared) (u:Value),BindsTo s fd ⟨[u],[]⟩ [(x,u)]) ∧
        ∀ base:Heap,(K w.params).In base→base.Ns mainGlobals mg→g5 l.prog w (K w.params) mg base (CX w) k fa fd [x] (sp w))
    (hsp:∀(w:World) (H:Hp) (a:Addr) (ns:List Int),ns.length≤n→yx H→SqL (K w.params) H a (ns.map V.int)→sp w [.ref a] H (λv _=>v=.bl true) λ_ _ _=>False)
    (hCX:∀(w:World) (H:Hp) (s:Shared) (e:Value) (s':Shared),CX w [] H s (λ_ _ _=>False) e s'→False) :
    PySem.W.WalkO q loose XP YP l.row.toRowW d [] (λf vs=>PySem.call f vs):=by
  refine Att.mF hn hdf λw s₀ s₁ mg mb fa o pm cd doc a vs ns G Y ho hd hcd hmg yw hints hlen hg=>?_;have KX:=hY w _ Y;obtain⟨fd,hb,hF⟩:=F w mg fa _ KX G.T.g hmg;exact sh KX G.T.g G.T.b G.T.builtins G.T.nolimit hg yw hints (DK hlen hn2) hr hF hb (λH hO hS=>hsp w H a ns hlen hO hS) λH e s'=>hCX w H s₁ e s'
end L2
namespace L2
open PySem PySem.Spec PyProof.Rows
def inClass(s:Stmt)(j:Nat):Stmt:=match s with
  | .ClassDef _ _ _ body _ _ _ _ _ _ _=>body.getD j (.Pass ⟨0,0,0,0⟩)
  | _=>.Pass ⟨0,0,0,0⟩
def fL(s:Stmt):Arguments:=match s with
  | .FunctionDef _ a _ _ _ _ _ _ _ _=>a
  | _=>{posonlyargs:=[],args:=[],vararg:=none,kwonlyargs:=[],kw_defaults:=[],kwarg:=none,defaults:=[]}
def er(s:Stmt):List Stmt:=match s with
  | .FunctionDef _ _ b _ _ _ _ _ _ _=>b
  | _=>[]
def ar(s:Stmt):Scope:=match s with
  | .FunctionDef _ _ _ _ _ _ sc _ _ _=>sc
  | _=>{kind:=.function,names:=[],isGenerator:=false,isCoroutine:=false}
structure Fun(K:W.Frag)(x qual:Str)(st:Stmt)(f:Addr)(fd:FuncData):Prop where
  ex:∃(oc:Value) (od:Option Addr) (kV doc pm:Value) (an:Option Addr) (cdv ct:Value) (osl:Array (Option Value)),
    fd=PySem.W.fnOf x qual (fL st) (er st) (ar st) .none kV doc pm an cdv ct∧K.lookup f=some ⟨oc,od,.func fd,osl⟩∧PySem.W.codeIn K cdv qual=true
  kp:PySem.W.keepIn K (.ref f)=true
section
variable{P:Program}{w:World}{K:W.Frag}{mg:Str→Option Value}{base:Heap}
theorem Fun.binds{x qual:Str}{st:Stmt}{f:Addr}{fd:FuncData}{ps:List Str}(F:Fun K x qual st f fd)
    (h:∀(kV doc pm:Value) (an:Option Addr) (cdv ct:Value) (us:List Value),us.length=ps.length→bindArgs (PySem.W.fnOf x qual (fL st) (er st) (ar st) .none kV doc pm an cdv ct) ⟨us,[]⟩=pure (ps.zip us)):Binds K fd ps []:=by
  obtain⟨oc,od,kV,doc,pm,an,cdv,ct,osl,rfl,lk,hcd⟩:=F.ex;exact .all (h kV doc pm an cdv ct)
theorem xI{x qual:Str}{st:Stmt}{f:Addr}{oc:Value}{od an:Option Addr}{osl:Array (Option Value)}{kV doc pm cdv ct:Value}(l:K.lookup f=some ⟨oc,od,.func (PySem.W.fnOf x qual (fL st) (er st) (ar st) .none kV doc pm an cdv ct),osl⟩)
    (c:PySem.W.codeIn K cdv qual=true) (k:PySem.W.keepIn K (.ref f)=true):Fun K x qual st f (PySem.W.fnOf x qual (fL st) (er st) (ar st) .none kV doc pm an cdv ct):=⟨⟨oc,od,kV,doc,pm,an,cdv,ct,osl,rfl,l,c⟩,k⟩
end
theorem rN{A:Around}{k:Nat}(hr:eh k A):A.units+1<cLine:=Nat.lt_of_le_of_lt (Nat.add_le_add_left (by decide:1≤64) _) hr.units
section
variable{X:Cx}
theorem pv(i:Nat){x:Str}{pos:Pos}(hN:X.N[i]?=some x:=by rfl)(hv:Vis X.env.scope x:=by first|exact Or.inl rfl|exact Or.inr (Or.inl rfl)|exact Or.inr (Or.inr rfl))(hd:(x == ("__debug__" : Str))=false:=by decide)
    (hcd:(x == ("__classdict__" : Str))=false:=by decide):PE X (.Name x pos) (yo i):=xt hN hv hd hcd
end
theorem sV{A B:Prop}(h:B):if false=true then A else B:=by
  rw[if_neg Df];exact h
theorem iB{A B:Prop}(h:A):if true=true then A else B:=by
  rw[if_pos rfl];exact h
theorem g7{c A B:Prop}[Decidable c](h1:c→A)(h2:¬c→B):if c then A else B:=by
  by_cases h:c
  · rw[if_pos h]
    exact h1 h
  · rw[if_neg h]
    exact h2 h
theorem u1{c A B:Prop}[Decidable c](hc:c)(h:B):if(!decide c)=true then A else B:=by
  rw[decide_eq_true hc];exact sV h
def aA(H H':Hp):Prop:=∀ b o,H b=some o→H' b=some o
theorem aA.refl(H:Hp):aA H H:=λ_ _ h=>h
theorem aA.trans{H H1 H2:Hp}(a:aA H H1)(b:aA H1 H2):aA H H2:=λc o h=>b c o (a c o h)
theorem aA.seq{K:W.Frag}{H H':Hp}{a:Addr}{xs:List V}(e:aA H H')(h:SqL K H a xs):SqL K H' a xs:=by
  rcases h with(h|⟨o,h⟩)|h
  · exact .inl (.inl (e _ _ h))
  · exact .inl (.inr ⟨o,e _ _ h⟩)
  · exact .inr h
end L2
end
section
namespace K35
open PySem PySem.W L2 PySem.PyData
def top(i:Nat):Stmt:=PySem.Challenge.pw_stillheap_k35_books.main.body.getD i (.Pass ⟨0,0,0,0⟩)
section
abbrev OO:=Params→Obj
def oF(n q:Str)(s:Stmt)(m:Value)(r:Addr):Obj:=⟨.type "function",none,.func (fnOf n q (fL s) (er s) (ar s) .none .none .none m none (.ref r) .none),#[]⟩
def oG(n q:Str)(s:Stmt):Obj:=⟨.none,none,.func ⟨n,q,fL s,.stmts (er s),ar s,0,[],.none,.none,.none,.none,none,.none,.none,0⟩,#[]⟩
def oT(l:List Value):Obj:=⟨.type "tuple",none,.seq (List.toArray l) 0,#[]⟩
def kE(P:Params)(x:Str)(n:Tok)(v:Value):DictEntry:=⟨keyHash P x,.str x n,v⟩
def oC(n:Str)(t:Tok)(q:Str)(l a b c d:Int)(r:Addr)(e:Int)(f g h i:Addr)(z:Int)(u:Tok):Obj:=⟨.type "code",none,.fields (List.toArray [.str n t,.str q (t+1),.str "/claim/cut.py" (t+2),.int l 0,.int a 0,.int b 0,.int c 0,.int d 0,.ref r,.bool true,.int e 0,.ref f,.none,.ref g,.ref h,.ref i,.int z 0,.int l 0,.str "/claim/cut.py" u]),#[]⟩
def spl:List (Params→Obj)→List (Params→Obj)×List (Params→Obj)
 | []=>([],[])
 | [a]=>([a],[])
 | a::b::r=>(a::(spl r).1,b::(spl r).2)
def mkT(P:Params):Nat→List (Params→Obj)→BT
 | 0,_=>.nil
 | _+1,[]=>.nil
 | n+1,x::r=>.node (x P) (mkT P n (spl r).1) (mkT P n (spl r).2)
noncomputable def o0:OO:=λP=>⟨(.type "dict"),none,(.dict (List.toArray [kE P "__name__" 1 (.str "builtins" 160),kE P "__doc__" 2 (.builtin "builtins.__doc__:str#opaque"),kE P "__package__" 3 (.builtin "builtins.__package__:str#opaque"),kE P "__loader__" 4 (.builtin "builtins.__loader__:shared#opaque"),kE P "__spec__" 5 (.builtin "builtins.__spec__#opaque"),kE P "__build_class__" 6 (.builtin "__build_class__"),kE P "__import__" 7 (.builtin "__import__"),kE P "abs" 8 (.builtin "abs"),kE P "all" 9 (.builtin "all"),kE P "any" 10 (.builtin "any"),kE P "ascii" 11 (.builtin "ascii"),kE P "bin" 12 (.builtin "bin"),kE P "breakpoint" 13 (.builtin "breakpoint"),kE P "callable" 14 (.builtin "callable"),kE P "chr" 15 (.builtin "chr"),kE P "compile" 16 (.builtin "compile"),kE P "delattr" 17 (.builtin "delattr"),kE P "dir" 18 (.builtin "dir"),kE P "divmod" 19 (.builtin "divmod"),kE P "eval" 20 (.builtin "eval"),kE P "exec" 21 (.builtin "exec"),kE P "format" 22 (.builtin "format"),kE P "getattr" 23 (.builtin "getattr"),kE P "globals" 24 (.builtin "globals"),kE P "hasattr" 25 (.builtin "hasattr"),kE P "hash" 26 (.builtin "hash"),kE P "hex" 27 (.builtin "hex"),kE P "id" 28 (.builtin "id"),kE P "input" 29 (.builtin "input"),kE P "isinstance" 30 (.builtin "isinstance"),kE P "issubclass" 31 (.builtin "issubclass"),kE P "iter" 32 (.builtin "iter"),kE P "aiter" 33 (.builtin "aiter"),kE P "len" 34 (.builtin "len"),kE P "locals" 35 (.builtin "locals"),kE P "max" 36 (.builtin "max"),kE P "min" 37 (.builtin "min"),kE P "next" 38 (.builtin "next"),kE P "anext" 39 (.builtin "anext"),kE P "oct" 40 (.builtin "oct"),kE P "ord" 41 (.builtin "ord"),kE P "pow" 42 (.builtin "pow"),kE P "print" 43 (.builtin "print"),kE P "repr" 44 (.builtin "repr"),kE P "round" 45 (.builtin "round"),kE P "setattr" 46 (.builtin "setattr"),kE P "sorted" 47 (.builtin "sorted"),kE P "sum" 48 (.builtin "sum"),kE P "vars" 49 (.builtin "vars"),kE P "None" 50 .none,kE P "Ellipsis" 51 .ellipsis,kE P "NotImplemented" 52 .notImplemented,kE P "False" 53 (.bool false),kE P "True" 54 (.bool true),kE P "bool" 55 (.type "bool"),kE P "memoryview" 56 (.type "memoryview"),kE P "bytearray" 57 (.type "bytearray"),kE P "bytes" 58 (.type "bytes"),kE P "classmethod" 59 (.type "classmethod"),kE P "complex" 60 (.type "complex"),kE P "dict" 61 (.type "dict"),kE P "enumerate" 62 (.type "enumerate"),kE P "filter" 63 (.type "filter"),kE P "float" 64 (.type "float"),kE P "frozenset" 65 (.type "frozenset"),kE P "property" 66 (.type "property"),kE P "int" 67 (.type "int"),kE P "list" 68 (.type "list"),kE P "map" 69 (.type "map"),kE P "object" 70 (.type "object"),kE P "range" 71 (.type "range"),kE P "reversed" 72 (.type "reversed"),kE P "set" 73 (.type "set"),kE P "slice" 74 (.type "slice"),kE P "staticmethod" 75 (.type "staticmethod"),kE P "str" 76 (.type "str"),kE P "super" 77 (.type "super"),kE P "tuple" 78 (.type "tuple"),kE P "type" 79 (.type "type"),kE P "zip" 80 (.type "zip"),kE P "__debug__" 81 (.bool true),kE P "BaseException" 82 (.type "BaseException"),kE P "BaseExceptionGroup" 83 (.type "BaseExceptionGroup"),kE P "Exception" 84 (.type "Exception"),kE P "GeneratorExit" 85 (.type "GeneratorExit"),kE P "KeyboardInterrupt" 86 (.type "KeyboardInterrupt"),kE P "SystemExit" 87 (.type "SystemExit"),kE P "ArithmeticError" 88 (.type "ArithmeticError"),kE P "AssertionError" 89 (.type "AssertionError"),kE P "AttributeError" 90 (.type "AttributeError"),kE P "BufferError" 91 (.type "BufferError"),kE P "EOFError" 92 (.type "EOFError"),kE P "ImportError" 93 (.type "ImportError"),kE P "LookupError" 94 (.type "LookupError"),kE P "MemoryError" 95 (.type "MemoryError"),kE P "NameError" 96 (.type "NameError"),kE P "OSError" 97 (.type "OSError"),kE P "ReferenceError" 98 (.type "ReferenceError"),kE P "RuntimeError" 99 (.type "RuntimeError"),kE P "StopAsyncIteration" 100 (.type "StopAsyncIteration"),kE P "StopIteration" 101 (.type "StopIteration"),kE P "SyntaxError" 102 (.type "SyntaxError"),kE P "SystemError" 103 (.type "SystemError"),kE P "TypeError" 104 (.type "TypeError"),kE P "ValueError" 105 (.type "ValueError"),kE P "Warning" 106 (.type "Warning"),kE P "FloatingPointError" 107 (.type "FloatingPointError"),kE P "OverflowError" 108 (.type "OverflowError"),kE P "ZeroDivisionError" 109 (.type "ZeroDivisionError"),kE P "BytesWarning" 110 (.type "BytesWarning"),kE P "DeprecationWarning" 111 (.type "DeprecationWarning"),kE P "EncodingWarning" 112 (.type "EncodingWarning"),kE P "FutureWarning" 113 (.type "FutureWarning"),kE P "ImportWarning" 114 (.type "ImportWarning"),kE P "PendingDeprecationWarning" 115 (.type "PendingDeprecationWarning"),kE P "ResourceWarning" 116 (.type "ResourceWarning"),kE P "RuntimeWarning" 117 (.type "RuntimeWarning"),kE P "SyntaxWarning" 118 (.type "SyntaxWarning"),kE P "UnicodeWarning" 119 (.type "UnicodeWarning"),kE P "UserWarning" 120 (.type "UserWarning"),kE P "BlockingIOError" 121 (.type "BlockingIOError"),kE P "ChildProcessError" 122 (.type "ChildProcessError"),kE P "ConnectionError" 123 (.type "ConnectionError"),kE P "FileExistsError" 124 (.type "FileExistsError"),kE P "FileNotFoundError" 125 (.type "FileNotFoundError"),kE P "InterruptedError" 126 (.type "InterruptedError"),kE P "IsADirectoryError" 127 (.type "IsADirectoryError"),kE P "NotADirectoryError" 128 (.type "NotADirectoryError"),kE P "PermissionError" 129 (.type "PermissionError"),kE P "ProcessLookupError" 130 (.type "ProcessLookupError"),kE P "TimeoutError" 131 (.type "TimeoutError"),kE P "IndentationError" 132 (.type "IndentationError"),kE P "_IncompleteInputError" 133 (.type "_IncompleteInputError"),kE P "IndexError" 134 (.type "IndexError"),kE P "KeyError" 135 (.type "KeyError"),kE P "ModuleNotFoundError" 136 (.type "ModuleNotFoundError"),kE P "NotImplementedError" 137 (.type "NotImplementedError"),kE P "PythonFinalizationError" 138 (.type "PythonFinalizationError"),kE P "RecursionError" 139 (.type "RecursionError"),kE P "UnboundLocalError" 140 (.type "UnboundLocalError"),kE P "UnicodeError" 141 (.type "UnicodeError"),kE P "BrokenPipeError" 142 (.type "BrokenPipeError"),kE P "ConnectionAbortedError" 143 (.type "ConnectionAbortedError"),kE P "ConnectionRefusedError" 144 (.type "ConnectionRefusedError"),kE P "ConnectionResetError" 145 (.type "ConnectionResetError"),kE P "TabError" 146 (.type "TabError"),kE P "UnicodeDecodeError" 147 (.type "UnicodeDecodeError"),kE P "UnicodeEncodeError" 148 (.type "UnicodeEncodeError"),kE P "UnicodeTranslateError" 149 (.type "UnicodeTranslateError"),kE P "ExceptionGroup" 150 (.type "ExceptionGroup"),kE P "EnvironmentError" 151 (.type "OSError"),kE P "IOError" 152 (.type "OSError"),kE P "open" 153 (.builtin "open"),kE P "quit" 154 (.builtin "builtins.quit#opaque"),kE P "exit" 155 (.builtin "builtins.exit#opaque"),kE P "copyright" 156 (.builtin "builtins.copyright#opaque"),kE P "credits" 157 (.builtin "builtins.credits#opaque"),kE P "license" 158 (.builtin "builtins.license#opaque"),kE P "help" 159 (.builtin "builtins.help#opaque")]) 159),#[]⟩
noncomputable def o1:OO:=λP=>⟨(.type "dict"),none,(.dict (List.toArray [kE P "builtins" 162 (.ref 4),kE P "__main__" 163 (.ref 5)]) 2),#[]⟩
noncomputable def o2:OO:=λ_=>⟨.none,none,(.dict #[] 0),#[]⟩
noncomputable def o3:OO:=λP=>⟨(.type "dict"),none,(.dict (List.toArray [kE P "__name__" 165 (.str "__main__" 164),kE P "__doc__" 166 .none,kE P "__package__" 167 .none,kE P "__loader__" 168 (.builtin "__main__.__loader__#opaque"),kE P "__spec__" 169 .none,kE P "__annotations__" 170 (.ref 6),kE P "__builtins__" 171 (.ref 4),kE P "__file__" 173 (.str "/claim/cut.py" 172),kE P "__cached__" 174 .none]) 9),#[]⟩
noncomputable def o4:OO:=λ_=>⟨(.type "module"),(.some 0),.plain,#[]⟩
noncomputable def o5:OO:=λ_=>⟨(.type "module"),(.some 3),.plain,#[]⟩
noncomputable def o6:OO:=λ_=>⟨(.type "dict"),none,(.dict #[] 0),#[]⟩
noncomputable def o7:OO:=λ_=>⟨(.type "tuple"),none,(.seq #[] 0),#[]⟩
noncomputable def o8:OO:=λ_=>⟨.none,none,(.fields #[]),#[]⟩
noncomputable def o9:OO:=λ_=>⟨(.type "code"),none,(.fields (List.toArray [(.str "<module>" 176),(.str "<module>" 177),(.str "/claim/cut.py" 178),(.int 1 0),(.int 0 0),(.int 0 0),(.int 0 0),(.int 0 0),(.ref 7),(.bool false),(.int 175 0),(.ref 8),.none,.none,.none,.none,(.int 179 0),(.int 1 0),(.str "/claim/cut.py" 180)])),#[]⟩
noncomputable def o10:OO:=λ_=>⟨(.type "frame"),none,.plain,(List.toArray [(.some (.ref 9)),(.some (.ref 3)),(.some (.ref 3)),none,(.some (.str "__main__" 164)),none,(.some (.ref 0))])⟩
noncomputable def o11:OO:=λ_=>⟨(.type "code"),none,(.fields (List.toArray [(.str "<module>" 182),(.str "<module>" 183),(.str "/claim/cut.py" 184),(.int 1 0),(.int 0 0),(.int 0 0),(.int 0 0),(.int 0 0),(.ref 11),(.bool false),(.int 181 0),(.ref 12),.none,.none,.none,.none,(.int 185 0),(.int 1 0),(.str "/claim/cut.py" 186)])),#[]⟩
noncomputable def o12:OO:=λ_=>⟨(.type "frame"),none,.plain,(List.toArray [(.some (.ref 13)),(.some (.ref 3)),(.some (.ref 3)),none,(.some (.str "__main__" 164)),none,(.some (.ref 0))])⟩
noncomputable def o13:OO:=λP=>⟨(.type "dict"),none,(.dict (List.toArray [kE P "__name__" 165 (.str "stillheap.errors" 194),kE P "__doc__" 166 .none,kE P "__package__" 167 .none,kE P "__loader__" 168 (.builtin "__main__.__loader__#opaque"),kE P "__spec__" 169 .none,kE P "__annotations__" 170 (.ref 6),kE P "__builtins__" 171 (.ref 4),kE P "__file__" 173 (.str "/claim/cut.py" 172),kE P "__cached__" 174 .none,kE P "_wall" 193 (.ref 21),kE P "HeapError" 228 (.ref 45),kE P "BadHand" 251 (.ref 65),kE P "BadName" 274 (.ref 84),kE P "BadField" 297 (.ref 103),kE P "BadCount" 320 (.ref 122),kE P "NoRoom" 343 (.ref 141),kE P "TooManyWords" 366 (.ref 160),kE P "RoundOn" 389 (.ref 179)]) 18),#[]⟩
noncomputable def o14:OO:=λ_=>⟨.none,none,(.fields (List.toArray [(.int 1 0),(.int 0 0),(.ref 20),(.int 5 0),(.int 0 0),(.ref 27),(.int 12 0),(.int 0 0),(.ref 54),(.int 16 0),(.int 0 0),(.ref 73),(.int 20 0),(.int 0 0),(.ref 92),(.int 24 0),(.int 0 0),(.ref 111),(.int 28 0),(.int 0 0),(.ref 130),(.int 32 0),(.int 0 0),(.ref 149),(.int 36 0),(.int 0 0),(.ref 168)])),#[]⟩
def o15:OO:=λ_=>oT [(.str "k" 190)]
noncomputable def o16:OO:=λ_=>oG "_wall" "_wall" (top 0)
noncomputable def o17:OO:=λ_=>oC "_wall" 187 "_wall" 1 1 0 0 3 15 181 16 17 18 19 191 192
noncomputable def o18:OO:=λ_=>oF "_wall" "_wall" (top 0) (.str "__main__" 164) 20
noncomputable def o19:OO:=λ_=>oT [(.type "ValueError")]
noncomputable def o20:OO:=λ_=>⟨(.type "builtin_function_or_method"),none,(.fields (List.toArray [(.builtin "type.__prepare__"),(.type "type")])),#[]⟩
noncomputable def o21:OO:=λP=>⟨(.type "dict"),none,(.dict (List.toArray [kE P "__module__" 203 (.str "stillheap.errors" 194),kE P "__qualname__" 205 (.str "HeapError" 204),kE P "__firstlineno__" 207 (.int 5 206),kE P "__init__" 215 (.ref 35),kE P "called" 222 (.ref 42),kE P "__static_attributes__" 223 (.ref 43)]) 6),#[]⟩
noncomputable def o22:OO:=λ_=>⟨.none,none,(.fields (List.toArray [(.int 7 0),(.int 4 0),(.ref 34),(.int 10 0),(.int 4 0),(.ref 41)])),#[]⟩
noncomputable def o23:OO:=λ_=>⟨(.type "code"),none,(.fields (List.toArray [(.str "HeapError" 198),(.str "HeapError" 199),(.str "/claim/cut.py" 200),(.int 5 0),(.int 0 0),(.int 0 0),(.int 0 0),(.int 0 0),(.ref 25),(.bool false),(.int 181 0),(.ref 26),.none,.none,.none,.none,(.int 201 0),(.int 5 0),(.str "/claim/cut.py" 202)])),#[]⟩
noncomputable def o24:OO:=λ_=>⟨(.type "frame"),none,.plain,(List.toArray [(.some (.ref 27)),(.some (.ref 3)),(.some (.ref 24)),none,(.some (.str "stillheap.errors" 194)),none,(.some (.ref 0))])⟩
noncomputable def o25:OO:=λ_=>oT [(.str "self" 211),(.str "text" 212)]
noncomputable def o26:OO:=λ_=>oG "__init__" "HeapError.__init__" (inClass (top 2) 0)
noncomputable def o27:OO:=λ_=>oC "__init__" 208 "HeapError.__init__" 7 2 0 0 3 29 181 30 31 32 33 213 214
noncomputable def o28:OO:=λ_=>oF "__init__" "HeapError.__init__" (inClass (top 2) 0) (.str "stillheap.errors" 194) 34
noncomputable def o29:OO:=λ_=>oT [(.str "self" 219)]
noncomputable def o30:OO:=λ_=>oG "called" "HeapError.called" (inClass (top 2) 1)
noncomputable def o31:OO:=λ_=>oC "called" 216 "HeapError.called" 10 1 0 0 3 36 181 37 38 39 40 220 221
noncomputable def o32:OO:=λ_=>oF "called" "HeapError.called" (inClass (top 2) 1) (.str "stillheap.errors" 194) 41
noncomputable def o33:OO:=λP=>⟨(.type "dict"),none,(.dict (List.toArray [kE P "__module__" 203 (.str "stillheap.errors" 194),kE P "__firstlineno__" 207 (.int 5 206),kE P "__init__" 215 (.ref 35),kE P "called" 222 (.ref 42),kE P "__static_attributes__" 223 (.ref 43),kE P "__weakref__" 225 (.ref 46),kE P "__doc__" 226 .none]) 3),#[]⟩
noncomputable def o34:OO:=λ_=>⟨(.type "type"),none,(.cls ⟨"HeapError",[(.type "ValueError")],[(.ref 45),(.type "ValueError"),(.type "Exception"),(.type "BaseException"),(.type "object")],44, "HeapError",true,[],[(.ref 65),(.ref 84),(.ref 103),(.ref 122),(.ref 141),(.ref 160),(.ref 179)],false,none,false⟩),(List.toArray [(.some (.ref 22)),none,(.some (.str "HeapError" 196)),(.some (.str "HeapError" 204)),(.some (.builtin "ValueError.__new__")),(.some (.bool true))])⟩
noncomputable def o35:OO:=λ_=>⟨(.type "getset_descriptor"),none,(.fields (List.toArray [(.str "__weakref__" 224),(.ref 45),(.builtin "ExceptionGroup.__weakref__"),.none])),#[]⟩
noncomputable def o36:OO:=λ_=>⟨(.type "super"),none,(.fields (List.toArray [(.ref 45),(.ref 45),(.ref 45)])),#[]⟩
noncomputable def o37:OO:=λ_=>⟨(.type "builtin_function_or_method"),none,(.fields (List.toArray [(.builtin "object.__init_subclass__"),(.ref 45)])),#[]⟩
def o38:OO:=λ_=>oT [(.ref 45)]
noncomputable def o39:OO:=λP=>⟨(.type "dict"),none,(.dict (List.toArray [kE P "__module__" 236 (.str "stillheap.errors" 194),kE P "__qualname__" 238 (.str "BadHand" 237),kE P "__firstlineno__" 240 (.int 12 239),kE P "called" 247 (.ref 62),kE P "__static_attributes__" 248 (.ref 63)]) 5),#[]⟩
noncomputable def o40:OO:=λ_=>⟨.none,none,(.fields (List.toArray [(.int 14 0),(.int 4 0),(.ref 61)])),#[]⟩
noncomputable def o41:OO:=λ_=>⟨(.type "code"),none,(.fields (List.toArray [(.str "BadHand" 231),(.str "BadHand" 232),(.str "/claim/cut.py" 233),(.int 12 0),(.int 0 0),(.int 0 0),(.int 0 0),(.int 0 0),(.ref 52),(.bool false),(.int 181 0),(.ref 53),.none,.none,.none,.none,(.int 234 0),(.int 12 0),(.str "/claim/cut.py" 235)])),#[]⟩
noncomputable def o42:OO:=λ_=>⟨(.type "frame"),none,.plain,(List.toArray [(.some (.ref 54)),(.some (.ref 3)),(.some (.ref 51)),none,(.some (.str "stillheap.errors" 194)),none,(.some (.ref 0))])⟩
noncomputable def o43:OO:=λ_=>oT [(.str "self" 244)]
noncomputable def o44:OO:=λ_=>oG "called" "BadHand.called" (inClass (top 3) 0)
noncomputable def o45:OO:=λ_=>oC "called" 241 "BadHand.called" 14 1 0 0 3 56 181 57 58 59 60 245 246
noncomputable def o46:OO:=λ_=>oF "called" "BadHand.called" (inClass (top 3) 0) (.str "stillheap.errors" 194) 61
noncomputable def o47:OO:=λP=>⟨(.type "dict"),none,(.dict (List.toArray [kE P "__module__" 236 (.str "stillheap.errors" 194),kE P "__firstlineno__" 240 (.int 12 239),kE P "called" 247 (.ref 62),kE P "__static_attributes__" 248 (.ref 63),kE P "__doc__" 249 .none]) 2),#[]⟩
noncomputable def o48:OO:=λ_=>⟨(.type "type"),none,(.cls ⟨"BadHand",[(.ref 45)],[(.ref 65),(.ref 45),(.type "ValueError"),(.type "Exception"),(.type "BaseException"),(.type "object")],64, "BadHand",true,[],[],false,none,false⟩),(List.toArray [(.some (.ref 49)),none,(.some (.str "BadHand" 229)),(.some (.str "BadHand" 237)),(.some (.builtin "ValueError.__new__")),(.some (.bool true))])⟩
noncomputable def o49:OO:=λ_=>⟨(.type "super"),none,(.fields (List.toArray [(.ref 65),(.ref 65),(.ref 65)])),#[]⟩
noncomputable def o50:OO:=λ_=>⟨(.type "builtin_function_or_method"),none,(.fields (List.toArray [(.builtin "object.__init_subclass__"),(.ref 65)])),#[]⟩
noncomputable def o51:OO:=λP=>⟨(.type "dict"),none,(.dict (List.toArray [kE P "__module__" 259 (.str "stillheap.errors" 194),kE P "__qualname__" 261 (.str "BadName" 260),kE P "__firstlineno__" 263 (.int 16 262),kE P "called" 270 (.ref 81),kE P "__static_attributes__" 271 (.ref 82)]) 5),#[]⟩
noncomputable def o52:OO:=λ_=>⟨.none,none,(.fields (List.toArray [(.int 18 0),(.int 4 0),(.ref 80)])),#[]⟩
noncomputable def o53:OO:=λ_=>⟨(.type "code"),none,(.fields (List.toArray [(.str "BadName" 254),(.str "BadName" 255),(.str "/claim/cut.py" 256),(.int 16 0),(.int 0 0),(.int 0 0),(.int 0 0),(.int 0 0),(.ref 71),(.bool false),(.int 181 0),(.ref 72),.none,.none,.none,.none,(.int 257 0),(.int 16 0),(.str "/claim/cut.py" 258)])),#[]⟩
noncomputable def o54:OO:=λ_=>⟨(.type "frame"),none,.plain,(List.toArray [(.some (.ref 73)),(.some (.ref 3)),(.some (.ref 70)),none,(.some (.str "stillheap.errors" 194)),none,(.some (.ref 0))])⟩
noncomputable def o55:OO:=λ_=>oT [(.str "self" 267)]
noncomputable def o56:OO:=λ_=>oG "called" "BadName.called" (inClass (top 4) 0)
noncomputable def o57:OO:=λ_=>oC "called" 264 "BadName.called" 18 1 0 0 3 75 181 76 77 78 79 268 269
noncomputable def o58:OO:=λ_=>oF "called" "BadName.called" (inClass (top 4) 0) (.str "stillheap.errors" 194) 80
noncomputable def o59:OO:=λP=>⟨(.type "dict"),none,(.dict (List.toArray [kE P "__module__" 259 (.str "stillheap.errors" 194),kE P "__firstlineno__" 263 (.int 16 262),kE P "called" 270 (.ref 81),kE P "__static_attributes__" 271 (.ref 82),kE P "__doc__" 272 .none]) 2),#[]⟩
noncomputable def o60:OO:=λ_=>⟨(.type "type"),none,(.cls ⟨"BadName",[(.ref 45)],[(.ref 84),(.ref 45),(.type "ValueError"),(.type "Exception"),(.type "BaseException"),(.type "object")],83, "BadName",true,[],[],false,none,false⟩),(List.toArray [(.some (.ref 68)),none,(.some (.str "BadName" 252)),(.some (.str "BadName" 260)),(.some (.builtin "ValueError.__new__")),(.some (.bool true))])⟩
noncomputable def o61:OO:=λ_=>⟨(.type "super"),none,(.fields (List.toArray [(.ref 84),(.ref 84),(.ref 84)])),#[]⟩
noncomputable def o62:OO:=λ_=>⟨(.type "builtin_function_or_method"),none,(.fields (List.toArray [(.builtin "object.__init_subclass__"),(.ref 84)])),#[]⟩
noncomputable def o63:OO:=λP=>⟨(.type "dict"),none,(.dict (List.toArray [kE P "__module__" 282 (.str "stillheap.errors" 194),kE P "__qualname__" 284 (.str "BadField" 283),kE P "__firstlineno__" 286 (.int 20 285),kE P "called" 293 (.ref 100),kE P "__static_attributes__" 294 (.ref 101)]) 5),#[]⟩
noncomputable def o64:OO:=λ_=>⟨.none,none,(.fields (List.toArray [(.int 22 0),(.int 4 0),(.ref 99)])),#[]⟩
noncomputable def o65:OO:=λ_=>⟨(.type "code"),none,(.fields (List.toArray [(.str "BadField" 277),(.str "BadField" 278),(.str "/claim/cut.py" 279),(.int 20 0),(.int 0 0),(.int 0 0),(.int 0 0),(.int 0 0),(.ref 90),(.bool false),(.int 181 0),(.ref 91),.none,.none,.none,.none,(.int 280 0),(.int 20 0),(.str "/claim/cut.py" 281)])),#[]⟩
noncomputable def o66:OO:=λ_=>⟨(.type "frame"),none,.plain,(List.toArray [(.some (.ref 92)),(.some (.ref 3)),(.some (.ref 89)),none,(.some (.str "stillheap.errors" 194)),none,(.some (.ref 0))])⟩
noncomputable def o67:OO:=λ_=>oT [(.str "self" 290)]
noncomputable def o68:OO:=λ_=>oG "called" "BadField.called" (inClass (top 5) 0)
noncomputable def o69:OO:=λ_=>oC "called" 287 "BadField.called" 22 1 0 0 3 94 181 95 96 97 98 291 292
noncomputable def o70:OO:=λ_=>oF "called" "BadField.called" (inClass (top 5) 0) (.str "stillheap.errors" 194) 99
noncomputable def o71:OO:=λP=>⟨(.type "dict"),none,(.dict (List.toArray [kE P "__module__" 282 (.str "stillheap.errors" 194),kE P "__firstlineno__" 286 (.int 20 285),kE P "called" 293 (.ref 100),kE P "__static_attributes__" 294 (.ref 101),kE P "__doc__" 295 .none]) 2),#[]⟩
noncomputable def o72:OO:=λ_=>⟨(.type "type"),none,(.cls ⟨"BadField",[(.ref 45)],[(.ref 103),(.ref 45),(.type "ValueError"),(.type "Exception"),(.type "BaseException"),(.type "object")],102, "BadField",true,[],[],false,none,false⟩),(List.toArray [(.some (.ref 87)),none,(.some (.str "BadField" 275)),(.some (.str "BadField" 283)),(.some (.builtin "ValueError.__new__")),(.some (.bool true))])⟩
noncomputable def o73:OO:=λ_=>⟨(.type "super"),none,(.fields (List.toArray [(.ref 103),(.ref 103),(.ref 103)])),#[]⟩
noncomputable def o74:OO:=λ_=>⟨(.type "builtin_function_or_method"),none,(.fields (List.toArray [(.builtin "object.__init_subclass__"),(.ref 103)])),#[]⟩
noncomputable def o75:OO:=λP=>⟨(.type "dict"),none,(.dict (List.toArray [kE P "__module__" 305 (.str "stillheap.errors" 194),kE P "__qualname__" 307 (.str "BadCount" 306),kE P "__firstlineno__" 309 (.int 24 308),kE P "called" 316 (.ref 119),kE P "__static_attributes__" 317 (.ref 120)]) 5),#[]⟩
noncomputable def o76:OO:=λ_=>⟨.none,none,(.fields (List.toArray [(.int 26 0),(.int 4 0),(.ref 118)])),#[]⟩
noncomputable def o77:OO:=λ_=>⟨(.type "code"),none,(.fields (List.toArray [(.str "BadCount" 300),(.str "BadCount" 301),(.str "/claim/cut.py" 302),(.int 24 0),(.int 0 0),(.int 0 0),(.int 0 0),(.int 0 0),(.ref 109),(.bool false),(.int 181 0),(.ref 110),.none,.none,.none,.none,(.int 303 0),(.int 24 0),(.str "/claim/cut.py" 304)])),#[]⟩
noncomputable def o78:OO:=λ_=>⟨(.type "frame"),none,.plain,(List.toArray [(.some (.ref 111)),(.some (.ref 3)),(.some (.ref 108)),none,(.some (.str "stillheap.errors" 194)),none,(.some (.ref 0))])⟩
noncomputable def o79:OO:=λ_=>oT [(.str "self" 313)]
noncomputable def o80:OO:=λ_=>oG "called" "BadCount.called" (inClass (top 6) 0)
noncomputable def o81:OO:=λ_=>oC "called" 310 "BadCount.called" 26 1 0 0 3 113 181 114 115 116 117 314 315
noncomputable def o82:OO:=λ_=>oF "called" "BadCount.called" (inClass (top 6) 0) (.str "stillheap.errors" 194) 118
noncomputable def o83:OO:=λP=>⟨(.type "dict"),none,(.dict (List.toArray [kE P "__module__" 305 (.str "stillheap.errors" 194),kE P "__firstlineno__" 309 (.int 24 308),kE P "called" 316 (.ref 119),kE P "__static_attributes__" 317 (.ref 120),kE P "__doc__" 318 .none]) 2),#[]⟩
noncomputable def o84:OO:=λ_=>⟨(.type "type"),none,(.cls ⟨"BadCount",[(.ref 45)],[(.ref 122),(.ref 45),(.type "ValueError"),(.type "Exception"),(.type "BaseException"),(.type "object")],121, "BadCount",true,[],[],false,none,false⟩),(List.toArray [(.some (.ref 106)),none,(.some (.str "BadCount" 298)),(.some (.str "BadCount" 306)),(.some (.builtin "ValueError.__new__")),(.some (.bool true))])⟩
noncomputable def o85:OO:=λ_=>⟨(.type "super"),none,(.fields (List.toArray [(.ref 122),(.ref 122),(.ref 122)])),#[]⟩
noncomputable def o86:OO:=λ_=>⟨(.type "builtin_function_or_method"),none,(.fields (List.toArray [(.builtin "object.__init_subclass__"),(.ref 122)])),#[]⟩
noncomputable def o87:OO:=λP=>⟨(.type "dict"),none,(.dict (List.toArray [kE P "__module__" 328 (.str "stillheap.errors" 194),kE P "__qualname__" 330 (.str "NoRoom" 329),kE P "__firstlineno__" 332 (.int 28 331),kE P "called" 339 (.ref 138),kE P "__static_attributes__" 340 (.ref 139)]) 5),#[]⟩
noncomputable def o88:OO:=λ_=>⟨.none,none,(.fields (List.toArray [(.int 30 0),(.int 4 0),(.ref 137)])),#[]⟩
noncomputable def o89:OO:=λ_=>⟨(.type "code"),none,(.fields (List.toArray [(.str "NoRoom" 323),(.str "NoRoom" 324),(.str "/claim/cut.py" 325),(.int 28 0),(.int 0 0),(.int 0 0),(.int 0 0),(.int 0 0),(.ref 128),(.bool false),(.int 181 0),(.ref 129),.none,.none,.none,.none,(.int 326 0),(.int 28 0),(.str "/claim/cut.py" 327)])),#[]⟩
noncomputable def o90:OO:=λ_=>⟨(.type "frame"),none,.plain,(List.toArray [(.some (.ref 130)),(.some (.ref 3)),(.some (.ref 127)),none,(.some (.str "stillheap.errors" 194)),none,(.some (.ref 0))])⟩
noncomputable def o91:OO:=λ_=>oT [(.str "self" 336)]
noncomputable def o92:OO:=λ_=>oG "called" "NoRoom.called" (inClass (top 7) 0)
noncomputable def o93:OO:=λ_=>oC "called" 333 "NoRoom.called" 30 1 0 0 3 132 181 133 134 135 136 337 338
noncomputable def o94:OO:=λ_=>oF "called" "NoRoom.called" (inClass (top 7) 0) (.str "stillheap.errors" 194) 137
noncomputable def o95:OO:=λP=>⟨(.type "dict"),none,(.dict (List.toArray [kE P "__module__" 328 (.str "stillheap.errors" 194),kE P "__firstlineno__" 332 (.int 28 331),kE P "called" 339 (.ref 138),kE P "__static_attributes__" 340 (.ref 139),kE P "__doc__" 341 .none]) 2),#[]⟩
noncomputable def o96:OO:=λ_=>⟨(.type "type"),none,(.cls ⟨"NoRoom",[(.ref 45)],[(.ref 141),(.ref 45),(.type "ValueError"),(.type "Exception"),(.type "BaseException"),(.type "object")],140, "NoRoom",true,[],[],false,none,false⟩),(List.toArray [(.some (.ref 125)),none,(.some (.str "NoRoom" 321)),(.some (.str "NoRoom" 329)),(.some (.builtin "ValueError.__new__")),(.some (.bool true))])⟩
noncomputable def o97:OO:=λ_=>⟨(.type "super"),none,(.fields (List.toArray [(.ref 141),(.ref 141),(.ref 141)])),#[]⟩
noncomputable def o98:OO:=λ_=>⟨(.type "builtin_function_or_method"),none,(.fields (List.toArray [(.builtin "object.__init_subclass__"),(.ref 141)])),#[]⟩
noncomputable def o99:OO:=λP=>⟨(.type "dict"),none,(.dict (List.toArray [kE P "__module__" 351 (.str "stillheap.errors" 194),kE P "__qualname__" 353 (.str "TooManyWords" 352),kE P "__firstlineno__" 355 (.int 32 354),kE P "called" 362 (.ref 157),kE P "__static_attributes__" 363 (.ref 158)]) 5),#[]⟩
noncomputable def u2:OO:=λ_=>⟨.none,none,(.fields (List.toArray [(.int 34 0),(.int 4 0),(.ref 156)])),#[]⟩
noncomputable def u4:OO:=λ_=>⟨(.type "code"),none,(.fields (List.toArray [(.str "TooManyWords" 346),(.str "TooManyWords" 347),(.str "/claim/cut.py" 348),(.int 32 0),(.int 0 0),(.int 0 0),(.int 0 0),(.int 0 0),(.ref 147),(.bool false),(.int 181 0),(.ref 148),.none,.none,.none,.none,(.int 349 0),(.int 32 0),(.str "/claim/cut.py" 350)])),#[]⟩
noncomputable def u6:OO:=λ_=>⟨(.type "frame"),none,.plain,(List.toArray [(.some (.ref 149)),(.some (.ref 3)),(.some (.ref 146)),none,(.some (.str "stillheap.errors" 194)),none,(.some (.ref 0))])⟩
noncomputable def ug:OO:=λ_=>oT [(.str "self" 359)]
noncomputable def u9:OO:=λ_=>oG "called" "TooManyWords.called" (inClass (top 8) 0)
noncomputable def uh:OO:=λ_=>oC "called" 356 "TooManyWords.called" 34 1 0 0 3 151 181 152 153 154 155 360 361
noncomputable def ui:OO:=λ_=>oF "called" "TooManyWords.called" (inClass (top 8) 0) (.str "stillheap.errors" 194) 156
noncomputable def uj:OO:=λP=>⟨(.type "dict"),none,(.dict (List.toArray [kE P "__module__" 351 (.str "stillheap.errors" 194),kE P "__firstlineno__" 355 (.int 32 354),kE P "called" 362 (.ref 157),kE P "__static_attributes__" 363 (.ref 158),kE P "__doc__" 364 .none]) 2),#[]⟩
noncomputable def uk:OO:=λ_=>⟨(.type "type"),none,(.cls ⟨"TooManyWords",[(.ref 45)],[(.ref 160),(.ref 45),(.type "ValueError"),(.type "Exception"),(.type "BaseException"),(.type "object")],159, "TooManyWords",true,[],[],false,none,false⟩),(List.toArray [(.some (.ref 144)),none,(.some (.str "TooManyWords" 344)),(.some (.str "TooManyWords" 352)),(.some (.builtin "ValueError.__new__")),(.some (.bool true))])⟩
noncomputable def va:OO:=λ_=>⟨(.type "super"),none,(.fields (List.toArray [(.ref 160),(.ref 160),(.ref 160)])),#[]⟩
noncomputable def vb:OO:=λ_=>⟨(.type "builtin_function_or_method"),none,(.fields (List.toArray [(.builtin "object.__init_subclass__"),(.ref 160)])),#[]⟩
noncomputable def vc:OO:=λP=>⟨(.type "dict"),none,(.dict (List.toArray [kE P "__module__" 374 (.str "stillheap.errors" 194),kE P "__qualname__" 376 (.str "RoundOn" 375),kE P "__firstlineno__" 378 (.int 36 377),kE P "called" 385 (.ref 176),kE P "__static_attributes__" 386 (.ref 177)]) 5),#[]⟩
noncomputable def vd:OO:=λ_=>⟨.none,none,(.fields (List.toArray [(.int 38 0),(.int 4 0),(.ref 175)])),#[]⟩
noncomputable def ve:OO:=λ_=>⟨(.type "code"),none,(.fields (List.toArray [(.str "RoundOn" 369),(.str "RoundOn" 370),(.str "/claim/cut.py" 371),(.int 36 0),(.int 0 0),(.int 0 0),(.int 0 0),(.int 0 0),(.ref 166),(.bool false),(.int 181 0),(.ref 167),.none,.none,.none,.none,(.int 372 0),(.int 36 0),(.str "/claim/cut.py" 373)])),#[]⟩
noncomputable def vf:OO:=λ_=>⟨(.type "frame"),none,.plain,(List.toArray [(.some (.ref 168)),(.some (.ref 3)),(.some (.ref 165)),none,(.some (.str "stillheap.errors" 194)),none,(.some (.ref 0))])⟩
noncomputable def um:OO:=λ_=>oT [(.str "self" 382)]
noncomputable def vg:OO:=λ_=>oG "called" "RoundOn.called" (inClass (top 9) 0)
noncomputable def uq:OO:=λ_=>oC "called" 379 "RoundOn.called" 38 1 0 0 3 170 181 171 172 173 174 383 384
noncomputable def ur:OO:=λ_=>oF "called" "RoundOn.called" (inClass (top 9) 0) (.str "stillheap.errors" 194) 175
noncomputable def uu:OO:=λP=>⟨(.type "dict"),none,(.dict (List.toArray [kE P "__module__" 374 (.str "stillheap.errors" 194),kE P "__firstlineno__" 378 (.int 36 377),kE P "called" 385 (.ref 176),kE P "__static_attributes__" 386 (.ref 177),kE P "__doc__" 387 .none]) 2),#[]⟩
noncomputable def uv:OO:=λ_=>⟨(.type "type"),none,(.cls ⟨"RoundOn",[(.ref 45)],[(.ref 179),(.ref 45),(.type "ValueError"),(.type "Exception"),(.type "BaseException"),(.type "object")],178, "RoundOn",true,[],[],false,none,false⟩),(List.toArray [(.some (.ref 163)),none,(.some (.str "RoundOn" 367)),(.some (.str "RoundOn" 375)),(.some (.builtin "ValueError.__new__")),(.some (.bool true))])⟩
noncomputable def vh:OO:=λ_=>⟨(.type "super"),none,(.fields (List.toArray [(.ref 179),(.ref 179),(.ref 179)])),#[]⟩
noncomputable def vi:OO:=λ_=>⟨(.type "builtin_function_or_method"),none,(.fields (List.toArray [(.builtin "object.__init_subclass__"),(.ref 179)])),#[]⟩
noncomputable def CG:OO:=λP=>⟨(.type "dict"),none,(.dict (List.toArray [kE P "__name__" 165 (.str "stillheap.memory" 646),kE P "__doc__" 166 .none,kE P "__package__" 167 .none,kE P "__loader__" 168 (.builtin "__main__.__loader__#opaque"),kE P "__spec__" 169 .none,kE P "__annotations__" 170 (.ref 6),kE P "__builtins__" 171 (.ref 4),kE P "__file__" 173 (.str "/claim/cut.py" 172),kE P "__cached__" 174 .none,kE P "_wall" 193 (.ref 21),kE P "HeapError" 228 (.ref 45),kE P "BadHand" 251 (.ref 65),kE P "BadName" 274 (.ref 84),kE P "BadField" 297 (.ref 103),kE P "BadCount" 320 (.ref 122),kE P "NoRoom" 343 (.ref 141),kE P "TooManyWords" 366 (.ref 160),kE P "RoundOn" 389 (.ref 179),kE P "NoRound" 412 (.ref 198),kE P "BadText" 445 (.ref 224),kE P "BadView" 468 (.ref 243),kE P "BadAddress" 491 (.ref 262),kE P "BadPaper" 514 (.ref 281),kE P "BadLog" 547 (.ref 307),kE P "kind_of" 556 (.ref 316),kE P "lay" 570 (.ref 323),kE P "thing_at" 576 (.ref 328),kE P "resolved" 585 (.ref 335),kE P "move" 595 (.ref 342),kE P "fields_at" 603 (.ref 349),kE P "fields_told" 613 (.ref 356),kE P "look_at_room" 622 (.ref 363),kE P "book_of" 630 (.ref 368),kE P "address_in" 639 (.ref 375),kE P "is_book" 645 (.ref 380)]) 35),#[]⟩
noncomputable def CI:OO:=λ_=>⟨.none,none,(.fields (List.toArray [(.int 1 0),(.int 0 0),(.ref 20),(.int 5 0),(.int 0 0),(.ref 27),(.int 12 0),(.int 0 0),(.ref 54),(.int 16 0),(.int 0 0),(.ref 73),(.int 20 0),(.int 0 0),(.ref 92),(.int 24 0),(.int 0 0),(.ref 111),(.int 28 0),(.int 0 0),(.ref 130),(.int 32 0),(.int 0 0),(.ref 149),(.int 36 0),(.int 0 0),(.ref 168),(.int 40 0),(.int 0 0),(.ref 187),(.int 44 0),(.int 0 0),(.ref 206),(.int 52 0),(.int 0 0),(.ref 232),(.int 56 0),(.int 0 0),(.ref 251),(.int 60 0),(.int 0 0),(.ref 270),(.int 64 0),(.int 0 0),(.ref 289),(.int 73 0),(.int 0 0),(.ref 315),(.int 76 0),(.int 0 0),(.ref 322),(.int 81 0),(.int 0 0),(.ref 327),(.int 84 0),(.int 0 0),(.ref 334),(.int 90 0),(.int 0 0),(.ref 341),(.int 94 0),(.int 0 0),(.ref 348),(.int 96 0),(.int 0 0),(.ref 355),(.int 102 0),(.int 0 0),(.ref 362),(.int 106 0),(.int 0 0),(.ref 367),(.int 112 0),(.int 0 0),(.ref 374),(.int 117 0),(.int 0 0),(.ref 379)])),#[]⟩
noncomputable def vj:OO:=λ_=>⟨(.type "type"),none,(.cls ⟨"HeapError",[(.type "ValueError")],[(.ref 45),(.type "ValueError"),(.type "Exception"),(.type "BaseException"),(.type "object")],44, "HeapError",true,[],[(.ref 65),(.ref 84),(.ref 103),(.ref 122),(.ref 141),(.ref 160),(.ref 179),(.ref 198),(.ref 224),(.ref 243),(.ref 262),(.ref 281),(.ref 307)],false,none,false⟩),(List.toArray [(.some (.ref 22)),none,(.some (.str "HeapError" 196)),(.some (.str "HeapError" 204)),(.some (.builtin "ValueError.__new__")),(.some (.bool true))])⟩
noncomputable def yy:OO:=λP=>⟨(.type "dict"),none,(.dict (List.toArray [kE P "__module__" 397 (.str "stillheap.errors" 194),kE P "__qualname__" 399 (.str "NoRound" 398),kE P "__firstlineno__" 401 (.int 40 400),kE P "called" 408 (.ref 195),kE P "__static_attributes__" 409 (.ref 196)]) 5),#[]⟩
noncomputable def yz:OO:=λ_=>⟨.none,none,(.fields (List.toArray [(.int 42 0),(.int 4 0),(.ref 194)])),#[]⟩
noncomputable def yA:OO:=λ_=>⟨(.type "code"),none,(.fields (List.toArray [(.str "NoRound" 392),(.str "NoRound" 393),(.str "/claim/cut.py" 394),(.int 40 0),(.int 0 0),(.int 0 0),(.int 0 0),(.int 0 0),(.ref 185),(.bool false),(.int 181 0),(.ref 186),.none,.none,.none,.none,(.int 395 0),(.int 40 0),(.str "/claim/cut.py" 396)])),#[]⟩
noncomputable def yB:OO:=λ_=>⟨(.type "frame"),none,.plain,(List.toArray [(.some (.ref 187)),(.some (.ref 3)),(.some (.ref 184)),none,(.some (.str "stillheap.errors" 194)),none,(.some (.ref 0))])⟩
noncomputable def vk:OO:=λ_=>oT [(.str "self" 405)]
noncomputable def yC:OO:=λ_=>oG "called" "NoRound.called" (inClass (top 10) 0)
noncomputable def vm:OO:=λ_=>oC "called" 402 "NoRound.called" 42 1 0 0 3 189 181 190 191 192 193 406 407
noncomputable def vn:OO:=λ_=>oF "called" "NoRound.called" (inClass (top 10) 0) (.str "stillheap.errors" 194) 194
noncomputable def vo:OO:=λP=>⟨(.type "dict"),none,(.dict (List.toArray [kE P "__module__" 397 (.str "stillheap.errors" 194),kE P "__firstlineno__" 401 (.int 40 400),kE P "called" 408 (.ref 195),kE P "__static_attributes__" 409 (.ref 196),kE P "__doc__" 410 .none]) 2),#[]⟩
noncomputable def vp:OO:=λ_=>⟨(.type "type"),none,(.cls ⟨"NoRound",[(.ref 45)],[(.ref 198),(.ref 45),(.type "ValueError"),(.type "Exception"),(.type "BaseException"),(.type "object")],197, "NoRound",true,[],[],false,none,false⟩),(List.toArray [(.some (.ref 182)),none,(.some (.str "NoRound" 390)),(.some (.str "NoRound" 398)),(.some (.builtin "ValueError.__new__")),(.some (.bool true))])⟩
noncomputable def yD:OO:=λ_=>⟨(.type "super"),none,(.fields (List.toArray [(.ref 198),(.ref 198),(.ref 198)])),#[]⟩
noncomputable def yE:OO:=λ_=>⟨(.type "builtin_function_or_method"),none,(.fields (List.toArray [(.builtin "object.__init_subclass__"),(.ref 198)])),#[]⟩
noncomputable def yF:OO:=λP=>⟨(.type "dict"),none,(.dict (List.toArray [kE P "__module__" 420 (.str "stillheap.errors" 194),kE P "__qualname__" 422 (.str "BadText" 421),kE P "__firstlineno__" 424 (.int 44 423),kE P "__init__" 433 (.ref 214),kE P "called" 440 (.ref 221),kE P "__static_attributes__" 442 (.ref 222)]) 6),#[]⟩
noncomputable def yG:OO:=λ_=>⟨.none,none,(.fields (List.toArray [(.int 46 0),(.int 4 0),(.ref 213),(.int 50 0),(.int 4 0),(.ref 220)])),#[]⟩
noncomputable def yI:OO:=λ_=>⟨(.type "code"),none,(.fields (List.toArray [(.str "BadText" 415),(.str "BadText" 416),(.str "/claim/cut.py" 417),(.int 44 0),(.int 0 0),(.int 0 0),(.int 0 0),(.int 0 0),(.ref 204),(.bool false),(.int 181 0),(.ref 205),.none,.none,.none,.none,(.int 418 0),(.int 44 0),(.str "/claim/cut.py" 419)])),#[]⟩
noncomputable def yJ:OO:=λ_=>⟨(.type "frame"),none,.plain,(List.toArray [(.some (.ref 206)),(.some (.ref 3)),(.some (.ref 203)),none,(.some (.str "stillheap.errors" 194)),none,(.some (.ref 0))])⟩
noncomputable def vq:OO:=λ_=>oT [(.str "self" 428),(.str "text" 429),(.str "row" 430)]
noncomputable def yK:OO:=λ_=>oG "__init__" "BadText.__init__" (inClass (top 11) 0)
noncomputable def vt:OO:=λ_=>oC "__init__" 425 "BadText.__init__" 46 3 0 0 3 208 181 209 210 211 212 431 432
noncomputable def vv:OO:=λ_=>oF "__init__" "BadText.__init__" (inClass (top 11) 0) (.str "stillheap.errors" 194) 213
noncomputable def vw:OO:=λ_=>oT [(.str "self" 437)]
noncomputable def yL:OO:=λ_=>oG "called" "BadText.called" (inClass (top 11) 1)
noncomputable def vx:OO:=λ_=>oC "called" 434 "BadText.called" 50 1 0 0 3 215 181 216 217 218 219 438 439
noncomputable def vy:OO:=λ_=>oF "called" "BadText.called" (inClass (top 11) 1) (.str "stillheap.errors" 194) 220
noncomputable def vz:OO:=λ_=>oT [(.str "row" 441)]
noncomputable def vA:OO:=λP=>⟨(.type "dict"),none,(.dict (List.toArray [kE P "__module__" 420 (.str "stillheap.errors" 194),kE P "__firstlineno__" 424 (.int 44 423),kE P "__init__" 433 (.ref 214),kE P "called" 440 (.ref 221),kE P "__static_attributes__" 442 (.ref 222),kE P "__doc__" 443 .none]) 2),#[]⟩
noncomputable def vB:OO:=λ_=>⟨(.type "type"),none,(.cls ⟨"BadText",[(.ref 45)],[(.ref 224),(.ref 45),(.type "ValueError"),(.type "Exception"),(.type "BaseException"),(.type "object")],223, "BadText",true,[],[],false,none,false⟩),(List.toArray [(.some (.ref 201)),none,(.some (.str "BadText" 413)),(.some (.str "BadText" 421)),(.some (.builtin "ValueError.__new__")),(.some (.bool true))])⟩
noncomputable def yM:OO:=λ_=>⟨(.type "super"),none,(.fields (List.toArray [(.ref 224),(.ref 224),(.ref 224)])),#[]⟩
noncomputable def yN:OO:=λ_=>⟨(.type "builtin_function_or_method"),none,(.fields (List.toArray [(.builtin "object.__init_subclass__"),(.ref 224)])),#[]⟩
noncomputable def yO:OO:=λP=>⟨(.type "dict"),none,(.dict (List.toArray [kE P "__module__" 453 (.str "stillheap.errors" 194),kE P "__qualname__" 455 (.str "BadView" 454),kE P "__firstlineno__" 457 (.int 52 456),kE P "called" 464 (.ref 240),kE P "__static_attributes__" 465 (.ref 241)]) 5),#[]⟩
noncomputable def yP:OO:=λ_=>⟨.none,none,(.fields (List.toArray [(.int 54 0),(.int 4 0),(.ref 239)])),#[]⟩
noncomputable def yQ:OO:=λ_=>⟨(.type "code"),none,(.fields (List.toArray [(.str "BadView" 448),(.str "BadView" 449),(.str "/claim/cut.py" 450),(.int 52 0),(.int 0 0),(.int 0 0),(.int 0 0),(.int 0 0),(.ref 230),(.bool false),(.int 181 0),(.ref 231),.none,.none,.none,.none,(.int 451 0),(.int 52 0),(.str "/claim/cut.py" 452)])),#[]⟩
noncomputable def yR:OO:=λ_=>⟨(.type "frame"),none,.plain,(List.toArray [(.some (.ref 232)),(.some (.ref 3)),(.some (.ref 229)),none,(.some (.str "stillheap.errors" 194)),none,(.some (.ref 0))])⟩
noncomputable def vC:OO:=λ_=>oT [(.str "self" 461)]
noncomputable def yS:OO:=λ_=>oG "called" "BadView.called" (inClass (top 12) 0)
noncomputable def vD:OO:=λ_=>oC "called" 458 "BadView.called" 54 1 0 0 3 234 181 235 236 237 238 462 463
noncomputable def vE:OO:=λ_=>oF "called" "BadView.called" (inClass (top 12) 0) (.str "stillheap.errors" 194) 239
noncomputable def vF:OO:=λP=>⟨(.type "dict"),none,(.dict (List.toArray [kE P "__module__" 453 (.str "stillheap.errors" 194),kE P "__firstlineno__" 457 (.int 52 456),kE P "called" 464 (.ref 240),kE P "__static_attributes__" 465 (.ref 241),kE P "__doc__" 466 .none]) 2),#[]⟩
noncomputable def vG:OO:=λ_=>⟨(.type "type"),none,(.cls ⟨"BadView",[(.ref 45)],[(.ref 243),(.ref 45),(.type "ValueError"),(.type "Exception"),(.type "BaseException"),(.type "object")],242, "BadView",true,[],[],false,none,false⟩),(List.toArray [(.some (.ref 227)),none,(.some (.str "BadView" 446)),(.some (.str "BadView" 454)),(.some (.builtin "ValueError.__new__")),(.some (.bool true))])⟩
noncomputable def yT:OO:=λ_=>⟨(.type "super"),none,(.fields (List.toArray [(.ref 243),(.ref 243),(.ref 243)])),#[]⟩
noncomputable def yU:OO:=λ_=>⟨(.type "builtin_function_or_method"),none,(.fields (List.toArray [(.builtin "object.__init_subclass__"),(.ref 243)])),#[]⟩
noncomputable def yV:OO:=λP=>⟨(.type "dict"),none,(.dict (List.toArray [kE P "__module__" 476 (.str "stillheap.errors" 194),kE P "__qualname__" 478 (.str "BadAddress" 477),kE P "__firstlineno__" 480 (.int 56 479),kE P "called" 487 (.ref 259),kE P "__static_attributes__" 488 (.ref 260)]) 5),#[]⟩
noncomputable def yW:OO:=λ_=>⟨.none,none,(.fields (List.toArray [(.int 58 0),(.int 4 0),(.ref 258)])),#[]⟩
noncomputable def yX:OO:=λ_=>⟨(.type "code"),none,(.fields (List.toArray [(.str "BadAddress" 471),(.str "BadAddress" 472),(.str "/claim/cut.py" 473),(.int 56 0),(.int 0 0),(.int 0 0),(.int 0 0),(.int 0 0),(.ref 249),(.bool false),(.int 181 0),(.ref 250),.none,.none,.none,.none,(.int 474 0),(.int 56 0),(.str "/claim/cut.py" 475)])),#[]⟩
noncomputable def yY:OO:=λ_=>⟨(.type "frame"),none,.plain,(List.toArray [(.some (.ref 251)),(.some (.ref 3)),(.some (.ref 248)),none,(.some (.str "stillheap.errors" 194)),none,(.some (.ref 0))])⟩
noncomputable def vH:OO:=λ_=>oT [(.str "self" 484)]
noncomputable def yZ:OO:=λ_=>oG "called" "BadAddress.called" (inClass (top 13) 0)
noncomputable def vI:OO:=λ_=>oC "called" 481 "BadAddress.called" 58 1 0 0 3 253 181 254 255 256 257 485 486
noncomputable def vJ:OO:=λ_=>oF "called" "BadAddress.called" (inClass (top 13) 0) (.str "stillheap.errors" 194) 258
noncomputable def vK:OO:=λP=>⟨(.type "dict"),none,(.dict (List.toArray [kE P "__module__" 476 (.str "stillheap.errors" 194),kE P "__firstlineno__" 480 (.int 56 479),kE P "called" 487 (.ref 259),kE P "__static_attributes__" 488 (.ref 260),kE P "__doc__" 489 .none]) 2),#[]⟩
noncomputable def vL:OO:=λ_=>⟨(.type "type"),none,(.cls ⟨"BadAddress",[(.ref 45)],[(.ref 262),(.ref 45),(.type "ValueError"),(.type "Exception"),(.type "BaseException"),(.type "object")],261, "BadAddress",true,[],[],false,none,false⟩),(List.toArray [(.some (.ref 246)),none,(.some (.str "BadAddress" 469)),(.some (.str "BadAddress" 477)),(.some (.builtin "ValueError.__new__")),(.some (.bool true))])⟩
noncomputable def y0:OO:=λ_=>⟨(.type "super"),none,(.fields (List.toArray [(.ref 262),(.ref 262),(.ref 262)])),#[]⟩
noncomputable def y6:OO:=λ_=>⟨(.type "builtin_function_or_method"),none,(.fields (List.toArray [(.builtin "object.__init_subclass__"),(.ref 262)])),#[]⟩
noncomputable def y8:OO:=λP=>⟨(.type "dict"),none,(.dict (List.toArray [kE P "__module__" 499 (.str "stillheap.errors" 194),kE P "__qualname__" 501 (.str "BadPaper" 500),kE P "__firstlineno__" 503 (.int 60 502),kE P "called" 510 (.ref 278),kE P "__static_attributes__" 511 (.ref 279)]) 5),#[]⟩
noncomputable def y9:OO:=λ_=>⟨.none,none,(.fields (List.toArray [(.int 62 0),(.int 4 0),(.ref 277)])),#[]⟩
noncomputable def za:OO:=λ_=>⟨(.type "code"),none,(.fields (List.toArray [(.str "BadPaper" 494),(.str "BadPaper" 495),(.str "/claim/cut.py" 496),(.int 60 0),(.int 0 0),(.int 0 0),(.int 0 0),(.int 0 0),(.ref 268),(.bool false),(.int 181 0),(.ref 269),.none,.none,.none,.none,(.int 497 0),(.int 60 0),(.str "/claim/cut.py" 498)])),#[]⟩
noncomputable def zb:OO:=λ_=>⟨(.type "frame"),none,.plain,(List.toArray [(.some (.ref 270)),(.some (.ref 3)),(.some (.ref 267)),none,(.some (.str "stillheap.errors" 194)),none,(.some (.ref 0))])⟩
noncomputable def vM:OO:=λ_=>oT [(.str "self" 507)]
noncomputable def ze:OO:=λ_=>oG "called" "BadPaper.called" (inClass (top 14) 0)
noncomputable def vN:OO:=λ_=>oC "called" 504 "BadPaper.called" 62 1 0 0 3 272 181 273 274 275 276 508 509
noncomputable def vO:OO:=λ_=>oF "called" "BadPaper.called" (inClass (top 14) 0) (.str "stillheap.errors" 194) 277
noncomputable def vP:OO:=λP=>⟨(.type "dict"),none,(.dict (List.toArray [kE P "__module__" 499 (.str "stillheap.errors" 194),kE P "__firstlineno__" 503 (.int 60 502),kE P "called" 510 (.ref 278),kE P "__static_attributes__" 511 (.ref 279),kE P "__doc__" 512 .none]) 2),#[]⟩
noncomputable def vQ:OO:=λ_=>⟨(.type "type"),none,(.cls ⟨"BadPaper",[(.ref 45)],[(.ref 281),(.ref 45),(.type "ValueError"),(.type "Exception"),(.type "BaseException"),(.type "object")],280, "BadPaper",true,[],[],false,none,false⟩),(List.toArray [(.some (.ref 265)),none,(.some (.str "BadPaper" 492)),(.some (.str "BadPaper" 500)),(.some (.builtin "ValueError.__new__")),(.some (.bool true))])⟩
noncomputable def zf:OO:=λ_=>⟨(.type "super"),none,(.fields (List.toArray [(.ref 281),(.ref 281),(.ref 281)])),#[]⟩
noncomputable def zg:OO:=λ_=>⟨(.type "builtin_function_or_method"),none,(.fields (List.toArray [(.builtin "object.__init_subclass__"),(.ref 281)])),#[]⟩
noncomputable def zh:OO:=λP=>⟨(.type "dict"),none,(.dict (List.toArray [kE P "__module__" 522 (.str "stillheap.errors" 194),kE P "__qualname__" 524 (.str "BadLog" 523),kE P "__firstlineno__" 526 (.int 64 525),kE P "__init__" 535 (.ref 297),kE P "called" 542 (.ref 304),kE P "__static_attributes__" 544 (.ref 305)]) 6),#[]⟩
noncomputable def zi:OO:=λ_=>⟨.none,none,(.fields (List.toArray [(.int 66 0),(.int 4 0),(.ref 296),(.int 70 0),(.int 4 0),(.ref 303)])),#[]⟩
noncomputable def zj:OO:=λ_=>⟨(.type "code"),none,(.fields (List.toArray [(.str "BadLog" 517),(.str "BadLog" 518),(.str "/claim/cut.py" 519),(.int 64 0),(.int 0 0),(.int 0 0),(.int 0 0),(.int 0 0),(.ref 287),(.bool false),(.int 181 0),(.ref 288),.none,.none,.none,.none,(.int 520 0),(.int 64 0),(.str "/claim/cut.py" 521)])),#[]⟩
noncomputable def zk:OO:=λ_=>⟨(.type "frame"),none,.plain,(List.toArray [(.some (.ref 289)),(.some (.ref 3)),(.some (.ref 286)),none,(.some (.str "stillheap.errors" 194)),none,(.some (.ref 0))])⟩
noncomputable def vR:OO:=λ_=>oT [(.str "self" 530),(.str "text" 531),(.str "row" 532)]
noncomputable def zm:OO:=λ_=>oG "__init__" "BadLog.__init__" (inClass (top 15) 0)
noncomputable def vS:OO:=λ_=>oC "__init__" 527 "BadLog.__init__" 66 3 0 0 3 291 181 292 293 294 295 533 534
noncomputable def vT:OO:=λ_=>oF "__init__" "BadLog.__init__" (inClass (top 15) 0) (.str "stillheap.errors" 194) 296
noncomputable def vU:OO:=λ_=>oT [(.str "self" 539)]
noncomputable def zo:OO:=λ_=>oG "called" "BadLog.called" (inClass (top 15) 1)
noncomputable def vV:OO:=λ_=>oC "called" 536 "BadLog.called" 70 1 0 0 3 298 181 299 300 301 302 540 541
noncomputable def vW:OO:=λ_=>oF "called" "BadLog.called" (inClass (top 15) 1) (.str "stillheap.errors" 194) 303
noncomputable def vX:OO:=λ_=>oT [(.str "row" 543)]
noncomputable def vY:OO:=λP=>⟨(.type "dict"),none,(.dict (List.toArray [kE P "__module__" 522 (.str "stillheap.errors" 194),kE P "__firstlineno__" 526 (.int 64 525),kE P "__init__" 535 (.ref 297),kE P "called" 542 (.ref 304),kE P "__static_attributes__" 544 (.ref 305),kE P "__doc__" 545 .none]) 2),#[]⟩
noncomputable def vZ:OO:=λ_=>⟨(.type "type"),none,(.cls ⟨"BadLog",[(.ref 45)],[(.ref 307),(.ref 45),(.type "ValueError"),(.type "Exception"),(.type "BaseException"),(.type "object")],306, "BadLog",true,[],[],false,none,false⟩),(List.toArray [(.some (.ref 284)),none,(.some (.str "BadLog" 515)),(.some (.str "BadLog" 523)),(.some (.builtin "ValueError.__new__")),(.some (.bool true))])⟩
noncomputable def zq:OO:=λ_=>⟨(.type "super"),none,(.fields (List.toArray [(.ref 307),(.ref 307),(.ref 307)])),#[]⟩
noncomputable def zr:OO:=λ_=>⟨(.type "builtin_function_or_method"),none,(.fields (List.toArray [(.builtin "object.__init_subclass__"),(.ref 307)])),#[]⟩
noncomputable def v9:OO:=λ_=>oT [(.str "value" 553)]
noncomputable def zt:OO:=λ_=>oG "kind_of" "kind_of" (top 17)
noncomputable def wa:OO:=λ_=>oC "kind_of" 550 "kind_of" 73 1 0 0 3 310 181 311 312 313 314 554 555
noncomputable def wb:OO:=λ_=>oF "kind_of" "kind_of" (top 17) (.str "stillheap.values" 548) 315
noncomputable def wc:OO:=λ_=>oT [(.str "memory" 562),(.str "a" 563),(.str "t" 564),(.str "values" 565),(.str "k" 566),(.str "value" 567)]
noncomputable def zu:OO:=λ_=>oG "lay" "lay" (top 19)
noncomputable def we:OO:=λ_=>oC "lay" 559 "lay" 76 4 0 0 3 317 181 318 319 320 321 568 569
noncomputable def wg:OO:=λ_=>oF "lay" "lay" (top 19) (.str "stillheap.layout" 557) 322
noncomputable def zv:OO:=λ_=>oG "thing_at" "thing_at" (top 20)
noncomputable def wj:OO:=λ_=>⟨(.type "code"),none,(.fields (List.toArray [(.str "thing_at" 571),(.str "thing_at" 572),(.str "/claim/cut.py" 573),(.int 81 0),(.int 2 0),(.int 0 0),(.int 0 0),(.int 3 0),(.ref 324),(.bool true),(.int 181 0),(.ref 325),.none,.none,.none,(.ref 326),(.int 574 0),(.int 81 0),(.str "/claim/cut.py" 575)])),#[]⟩
noncomputable def wm:OO:=λ_=>oF "thing_at" "thing_at" (top 20) (.str "stillheap.layout" 557) 327
noncomputable def wo:OO:=λ_=>oT [(.str "memory" 580),(.str "a" 581),(.str "word" 582)]
noncomputable def zw:OO:=λ_=>oG "resolved" "resolved" (top 21)
noncomputable def wq:OO:=λ_=>oC "resolved" 577 "resolved" 84 2 0 0 3 329 181 330 331 332 333 583 584
noncomputable def wt:OO:=λ_=>oF "resolved" "resolved" (top 21) (.str "stillheap.layout" 557) 334
noncomputable def wu:OO:=λ_=>oT [(.str "memory" 589),(.str "a" 590),(.str "b" 591),(.str "thing" 592)]
noncomputable def zx:OO:=λ_=>oG "move" "move" (top 22)
noncomputable def wx:OO:=λ_=>oC "move" 586 "move" 90 3 0 0 3 336 181 337 338 339 340 593 594
noncomputable def wy:OO:=λ_=>oF "move" "move" (top 22) (.str "stillheap.layout" 557) 341
noncomputable def wz:OO:=λ_=>oT [(.str "memory" 599),(.str "a" 600)]
noncomputable def zy:OO:=λ_=>oG "fields_at" "fields_at" (top 23)
noncomputable def wA:OO:=λ_=>oC "fields_at" 596 "fields_at" 94 2 0 0 3 343 181 344 345 346 347 601 602
noncomputable def wB:OO:=λ_=>oF "fields_at" "fields_at" (top 23) (.str "stillheap.layout" 557) 348
noncomputable def wC:OO:=λ_=>oT [(.str "memory" 607),(.str "a" 608),(.str "kinds" 609),(.str "word" 610)]
noncomputable def zA:OO:=λ_=>oG "fields_told" "fields_told" (top 24)
noncomputable def wD:OO:=λ_=>oC "fields_told" 604 "fields_told" 96 3 0 0 3 350 181 351 352 353 354 611 612
noncomputable def wF:OO:=λ_=>oF "fields_told" "fields_told" (top 24) (.str "stillheap.layout" 557) 355
noncomputable def wG:OO:=λ_=>oT [(.str "memory" 617),(.str "a" 618),(.str "fields" 619)]
noncomputable def zB:OO:=λ_=>oG "look_at_room" "look_at_room" (top 25)
noncomputable def wH:OO:=λ_=>oC "look_at_room" 614 "look_at_room" 102 3 0 0 3 357 181 358 359 360 361 620 621
noncomputable def wI:OO:=λ_=>oF "look_at_room" "look_at_room" (top 25) (.str "stillheap.layout" 557) 362
noncomputable def zC:OO:=λ_=>oG "book_of" "book_of" (top 27)
noncomputable def wJ:OO:=λ_=>⟨(.type "code"),none,(.fields (List.toArray [(.str "book_of" 625),(.str "book_of" 626),(.str "/claim/cut.py" 627),(.int 106 0),(.int 2 0),(.int 0 0),(.int 0 0),(.int 3 0),(.ref 364),(.bool true),(.int 181 0),(.ref 365),.none,.none,.none,(.ref 366),(.int 628 0),(.int 106 0),(.str "/claim/cut.py" 629)])),#[]⟩
noncomputable def wK:OO:=λ_=>oF "book_of" "book_of" (top 27) (.str "stillheap.books" 623) 367
noncomputable def wL:OO:=λ_=>oT [(.str "book" 634),(.str "t" 635),(.str "pair" 636)]
noncomputable def zD:OO:=λ_=>oG "address_in" "address_in" (top 28)
noncomputable def wM:OO:=λ_=>oC "address_in" 631 "address_in" 112 2 0 0 3 369 181 370 371 372 373 637 638
noncomputable def wN:OO:=λ_=>oF "address_in" "address_in" (top 28) (.str "stillheap.books" 623) 374
noncomputable def zE:OO:=λ_=>oG "is_book" "is_book" (top 29)
noncomputable def wO:OO:=λ_=>⟨(.type "code"),none,(.fields (List.toArray [(.str "is_book" 640),(.str "is_book" 641),(.str "/claim/cut.py" 642),(.int 117 0),(.int 1 0),(.int 0 0),(.int 0 0),(.int 3 0),(.ref 376),(.bool true),(.int 181 0),(.ref 377),.none,.none,.none,(.ref 378),(.int 643 0),(.int 117 0),(.str "/claim/cut.py" 644)])),#[]⟩
noncomputable def wQ:OO:=λ_=>oF "is_book" "is_book" (top 29) (.str "stillheap.books" 623) 379
noncomputable def zF:OO:=λP=>⟨(.type "dict"),none,(.dict (List.toArray [kE P "__name__" 165 (.str "law_stillheap_k35_books" 716),kE P "__doc__" 166 .none,kE P "__package__" 167 .none,kE P "__loader__" 168 (.builtin "__main__.__loader__#opaque"),kE P "__spec__" 169 .none,kE P "__annotations__" 170 (.ref 6),kE P "__builtins__" 171 (.ref 4),kE P "__file__" 173 (.str "/claim/cut.py" 172),kE P "__cached__" 174 .none,kE P "_wall" 193 (.ref 21),kE P "HeapError" 228 (.ref 45),kE P "BadHand" 251 (.ref 65),kE P "BadName" 274 (.ref 84),kE P "BadField" 297 (.ref 103),kE P "BadCount" 320 (.ref 122),kE P "NoRoom" 343 (.ref 141),kE P "TooManyWords" 366 (.ref 160),kE P "RoundOn" 389 (.ref 179),kE P "NoRound" 412 (.ref 198),kE P "BadText" 445 (.ref 224),kE P "BadView" 468 (.ref 243),kE P "BadAddress" 491 (.ref 262),kE P "BadPaper" 514 (.ref 281),kE P "BadLog" 547 (.ref 307),kE P "kind_of" 556 (.ref 316),kE P "lay" 570 (.ref 323),kE P "thing_at" 576 (.ref 328),kE P "resolved" 585 (.ref 335),kE P "move" 595 (.ref 342),kE P "fields_at" 603 (.ref 349),kE P "fields_told" 613 (.ref 356),kE P "look_at_room" 622 (.ref 363),kE P "book_of" 630 (.ref 368),kE P "address_in" 639 (.ref 375),kE P "is_book" 645 (.ref 380),kE P "Memory" 715 (.ref 432),kE P "_law_cell" 725 (.ref 443),kE P "_law_mixed" 735 (.ref 450),kE P "_law_flags" 743 (.ref 457),kE P "_law_alike" 749 (.ref 462),kE P "_law_done" 760 (.ref 469),kE P "_law_laid" 775 (.ref 476),kE P "_law_asked" 781 (.ref 481),kE P "_law_lists" 787 (.ref 486),kE P "law" 799 (.ref 493)]) 45),#[]⟩
noncomputable def Bx:OO:=λ_=>⟨.none,none,(.fields (List.toArray [(.int 1 0),(.int 0 0),(.ref 20),(.int 5 0),(.int 0 0),(.ref 27),(.int 12 0),(.int 0 0),(.ref 54),(.int 16 0),(.int 0 0),(.ref 73),(.int 20 0),(.int 0 0),(.ref 92),(.int 24 0),(.int 0 0),(.ref 111),(.int 28 0),(.int 0 0),(.ref 130),(.int 32 0),(.int 0 0),(.ref 149),(.int 36 0),(.int 0 0),(.ref 168),(.int 40 0),(.int 0 0),(.ref 187),(.int 44 0),(.int 0 0),(.ref 206),(.int 52 0),(.int 0 0),(.ref 232),(.int 56 0),(.int 0 0),(.ref 251),(.int 60 0),(.int 0 0),(.ref 270),(.int 64 0),(.int 0 0),(.ref 289),(.int 73 0),(.int 0 0),(.ref 315),(.int 76 0),(.int 0 0),(.ref 322),(.int 81 0),(.int 0 0),(.ref 327),(.int 84 0),(.int 0 0),(.ref 334),(.int 90 0),(.int 0 0),(.ref 341),(.int 94 0),(.int 0 0),(.ref 348),(.int 96 0),(.int 0 0),(.ref 355),(.int 102 0),(.int 0 0),(.ref 362),(.int 106 0),(.int 0 0),(.ref 367),(.int 112 0),(.int 0 0),(.ref 374),(.int 117 0),(.int 0 0),(.ref 379),(.int 120 0),(.int 0 0),(.ref 386),(.int 143 0),(.int 0 0),(.ref 442),(.int 147 0),(.int 0 0),(.ref 449),(.int 151 0),(.int 0 0),(.ref 456),(.int 156 0),(.int 0 0),(.ref 461),(.int 166 0),(.int 0 0),(.ref 468),(.int 178 0),(.int 0 0),(.ref 475),(.int 198 0),(.int 0 0),(.ref 480),(.int 217 0),(.int 0 0),(.ref 485),(.int 227 0),(.int 0 0),(.ref 492)])),#[]⟩
noncomputable def By:OO:=λP=>⟨(.type "dict"),none,(.dict (List.toArray [kE P "__module__" 655 (.str "stillheap.memory" 646),kE P "__qualname__" 657 (.str "Memory" 656),kE P "__firstlineno__" 659 (.int 120 658),kE P "__init__" 667 (.ref 394),kE P "size" 674 (.ref 401),kE P "at" 682 (.ref 408),kE P "put" 691 (.ref 415),kE P "copy_of" 698 (.ref 422),kE P "look_at_address" 706 (.ref 429),kE P "__static_attributes__" 708 (.ref 430)]) 10),#[]⟩
noncomputable def Bz:OO:=λ_=>⟨.none,none,(.fields (List.toArray [(.int 122 0),(.int 4 0),(.ref 393),(.int 125 0),(.int 4 0),(.ref 400),(.int 128 0),(.int 4 0),(.ref 407),(.int 132 0),(.int 4 0),(.ref 414),(.int 136 0),(.int 4 0),(.ref 421),(.int 139 0),(.int 4 0),(.ref 428)])),#[]⟩
noncomputable def BA:OO:=λ_=>⟨(.type "code"),none,(.fields (List.toArray [(.str "Memory" 650),(.str "Memory" 651),(.str "/claim/cut.py" 652),(.int 120 0),(.int 0 0),(.int 0 0),(.int 0 0),(.int 0 0),(.ref 384),(.bool false),(.int 181 0),(.ref 385),.none,.none,.none,.none,(.int 653 0),(.int 120 0),(.str "/claim/cut.py" 654)])),#[]⟩
noncomputable def BB:OO:=λ_=>⟨(.type "frame"),none,.plain,(List.toArray [(.some (.ref 386)),(.some (.ref 3)),(.some (.ref 383)),none,(.some (.str "stillheap.memory" 646)),none,(.some (.ref 0))])⟩
noncomputable def zG:OO:=λ_=>oT [(.str "self" 663),(.str "size" 664)]
noncomputable def BC:OO:=λ_=>oG "__init__" "Memory.__init__" (inClass (top 31) 0)
noncomputable def zH:OO:=λ_=>oC "__init__" 660 "Memory.__init__" 122 2 0 0 3 388 181 389 390 391 392 665 666
noncomputable def zI:OO:=λ_=>oF "__init__" "Memory.__init__" (inClass (top 31) 0) (.str "stillheap.memory" 646) 393
noncomputable def zJ:OO:=λ_=>oT [(.str "self" 671)]
noncomputable def BD:OO:=λ_=>oG "size" "Memory.size" (inClass (top 31) 1)
noncomputable def zK:OO:=λ_=>oC "size" 668 "Memory.size" 125 1 0 0 3 395 181 396 397 398 399 672 673
noncomputable def zL:OO:=λ_=>oF "size" "Memory.size" (inClass (top 31) 1) (.str "stillheap.memory" 646) 400
noncomputable def zM:OO:=λ_=>oT [(.str "self" 678),(.str "a" 679)]
noncomputable def BE:OO:=λ_=>oG "at" "Memory.at" (inClass (top 31) 2)
noncomputable def zN:OO:=λ_=>oC "at" 675 "Memory.at" 128 2 0 0 3 402 181 403 404 405 406 680 681
noncomputable def zO:OO:=λ_=>oF "at" "Memory.at" (inClass (top 31) 2) (.str "stillheap.memory" 646) 407
noncomputable def zP:OO:=λ_=>oT [(.str "self" 686),(.str "a" 687),(.str "word" 688)]
noncomputable def BF:OO:=λ_=>oG "put" "Memory.put" (inClass (top 31) 3)
noncomputable def zQ:OO:=λ_=>oC "put" 683 "Memory.put" 132 3 0 0 3 409 181 410 411 412 413 689 690
noncomputable def zR:OO:=λ_=>oF "put" "Memory.put" (inClass (top 31) 3) (.str "stillheap.memory" 646) 414
noncomputable def zS:OO:=λ_=>oT [(.str "self" 695)]
noncomputable def BG:OO:=λ_=>oG "copy_of" "Memory.copy_of" (inClass (top 31) 4)
noncomputable def zT:OO:=λ_=>oC "copy_of" 692 "Memory.copy_of" 136 1 0 0 3 416 181 417 418 419 420 696 697
noncomputable def zU:OO:=λ_=>oF "copy_of" "Memory.copy_of" (inClass (top 31) 4) (.str "stillheap.memory" 646) 421
noncomputable def zV:OO:=λ_=>oT [(.str "self" 702),(.str "a" 703)]
noncomputable def BH:OO:=λ_=>oG "look_at_address" "Memory.look_at_address" (inClass (top 31) 5)
noncomputable def zW:OO:=λ_=>oC "look_at_address" 699 "Memory.look_at_address" 139 2 0 0 3 423 181 424 425 426 427 704 705
noncomputable def zX:OO:=λ_=>oF "look_at_address" "Memory.look_at_address" (inClass (top 31) 5) (.str "stillheap.memory" 646) 428
noncomputable def zY:OO:=λ_=>oT [(.str "cells" 707)]
noncomputable def zZ:OO:=λP=>⟨(.type "dict"),none,(.dict (List.toArray [kE P "__module__" 655 (.str "stillheap.memory" 646),kE P "__firstlineno__" 659 (.int 120 658),kE P "__init__" 667 (.ref 394),kE P "size" 674 (.ref 401),kE P "at" 682 (.ref 408),kE P "put" 691 (.ref 415),kE P "copy_of" 698 (.ref 422),kE P "look_at_address" 706 (.ref 429),kE P "__static_attributes__" 708 (.ref 430),kE P "__dict__" 710 (.ref 433),kE P "__weakref__" 712 (.ref 434),kE P "__doc__" 713 .none]) 4),#[]⟩
noncomputable def z6:OO:=λ_=>⟨(.type "type"),none,(.cls ⟨"Memory",[(.type "object")],[(.ref 432),(.type "object")],431, "Memory",true,[],[],false,none,false⟩),(List.toArray [none,none,(.some (.str "Memory" 648)),(.some (.str "Memory" 656)),(.some (.builtin "object.__new__")),(.some (.bool true))])⟩
noncomputable def z7:OO:=λ_=>⟨(.type "getset_descriptor"),none,(.fields (List.toArray [(.str "__dict__" 709),(.ref 432),(.builtin "function.__dict__"),(.builtin "function.__dict__#set")])),#[]⟩
noncomputable def z8:OO:=λ_=>⟨(.type "getset_descriptor"),none,(.fields (List.toArray [(.str "__weakref__" 711),(.ref 432),(.builtin "ExceptionGroup.__weakref__"),.none])),#[]⟩
noncomputable def BI:OO:=λ_=>⟨(.type "super"),none,(.fields (List.toArray [(.ref 432),(.ref 432),(.ref 432)])),#[]⟩
noncomputable def BJ:OO:=λ_=>⟨(.type "builtin_function_or_method"),none,(.fields (List.toArray [(.builtin "object.__init_subclass__"),(.ref 432)])),#[]⟩
noncomputable def z9:OO:=λ_=>oT [(.str "script" 721),(.str "k" 722)]
noncomputable def BK:OO:=λ_=>oG "_law_cell" "_law_cell" (top 33)
noncomputable def Aa:OO:=λ_=>oC "_law_cell" 718 "_law_cell" 143 2 0 0 3 437 181 438 439 440 441 723 724
noncomputable def Ab:OO:=λ_=>oF "_law_cell" "_law_cell" (top 33) (.str "law_stillheap_k35_books" 716) 442
noncomputable def Ac:OO:=λ_=>oT [(.str "cell" 729),(.str "k" 730),(.str "first" 731),(.str "second" 732)]
noncomputable def BL:OO:=λ_=>oG "_law_mixed" "_law_mixed" (top 34)
noncomputable def Ae:OO:=λ_=>oC "_law_mixed" 726 "_law_mixed" 147 2 0 0 3 444 181 445 446 447 448 733 734
noncomputable def Af:OO:=λ_=>oF "_law_mixed" "_law_mixed" (top 34) (.str "law_stillheap_k35_books" 716) 449
noncomputable def Ag:OO:=λ_=>oT [(.str "e" 739),(.str "flags" 740)]
noncomputable def BM:OO:=λ_=>oG "_law_flags" "_law_flags" (top 35)
noncomputable def Ah:OO:=λ_=>oC "_law_flags" 736 "_law_flags" 151 1 0 0 3 451 181 452 453 454 455 741 742
noncomputable def Ai:OO:=λ_=>oF "_law_flags" "_law_flags" (top 35) (.str "law_stillheap_k35_books" 716) 456
noncomputable def BN:OO:=λ_=>oG "_law_alike" "_law_alike" (top 36)
noncomputable def Aj:OO:=λ_=>⟨(.type "code"),none,(.fields (List.toArray [(.str "_law_alike" 744),(.str "_law_alike" 745),(.str "/claim/cut.py" 746),(.int 156 0),(.int 2 0),(.int 0 0),(.int 0 0),(.int 3 0),(.ref 458),(.bool true),(.int 181 0),(.ref 459),.none,.none,.none,(.ref 460),(.int 747 0),(.int 156 0),(.str "/claim/cut.py" 748)])),#[]⟩
noncomputable def Ak:OO:=λ_=>oF "_law_alike" "_law_alike" (top 36) (.str "law_stillheap_k35_books" 716) 461
noncomputable def Al:OO:=λ_=>oT [(.str "memory" 753),(.str "firsts" 754),(.str "caught" 755),(.str "found" 756),(.str "e" 757)]
noncomputable def BO:OO:=λ_=>oG "_law_done" "_law_done" (top 37)
noncomputable def Am:OO:=λ_=>oC "_law_done" 750 "_law_done" 166 2 0 0 3 463 181 464 465 466 467 758 759
noncomputable def An:OO:=λ_=>oF "_law_done" "_law_done" (top 37) (.str "law_stillheap_k35_books" 716) 468
noncomputable def Ao:OO:=λ_=>oT [(.str "memory" 764),(.str "script" 765),(.str "where" 766),(.str "leads" 767),(.str "a" 768),(.str "k" 769),(.str "cell" 770),(.str "many" 771),(.str "t" 772)]
noncomputable def BP:OO:=λ_=>oG "_law_laid" "_law_laid" (top 38)
noncomputable def Ap:OO:=λ_=>oC "_law_laid" 761 "_law_laid" 178 2 0 0 3 470 181 471 472 473 474 773 774
noncomputable def Aq:OO:=λ_=>oF "_law_laid" "_law_laid" (top 38) (.str "law_stillheap_k35_books" 716) 475
noncomputable def BQ:OO:=λ_=>oG "_law_asked" "_law_asked" (top 39)
noncomputable def Ar:OO:=λ_=>⟨(.type "code"),none,(.fields (List.toArray [(.str "_law_asked" 776),(.str "_law_asked" 777),(.str "/claim/cut.py" 778),(.int 198 0),(.int 4 0),(.int 0 0),(.int 0 0),(.int 3 0),(.ref 477),(.bool true),(.int 181 0),(.ref 478),.none,.none,.none,(.ref 479),(.int 779 0),(.int 198 0),(.str "/claim/cut.py" 780)])),#[]⟩
noncomputable def As:OO:=λ_=>oF "_law_asked" "_law_asked" (top 39) (.str "law_stillheap_k35_books" 716) 480
noncomputable def BR:OO:=λ_=>oG "_law_lists" "_law_lists" (top 40)
noncomputable def Au:OO:=λ_=>⟨(.type "code"),none,(.fields (List.toArray [(.str "_law_lists" 782),(.str "_law_lists" 783),(.str "/claim/cut.py" 784),(.int 217 0),(.int 1 0),(.int 0 0),(.int 0 0),(.int 3 0),(.ref 482),(.bool true),(.int 181 0),(.ref 483),.none,.none,.none,(.ref 484),(.int 785 0),(.int 217 0),(.str "/claim/cut.py" 786)])),#[]⟩
noncomputable def Av:OO:=λ_=>oF "_law_lists" "_law_lists" (top 40) (.str "law_stillheap_k35_books" 716) 485
noncomputable def Aw:OO:=λ_=>oT [(.str "script" 791),(.str "memory" 792),(.str "where" 793),(.str "leads" 794),(.str "behind" 795),(.str "cell" 796)]
noncomputable def BS:OO:=λ_=>oG "law" "law" (top 41)
noncomputable def Ax:OO:=λ_=>oC "law" 788 "law" 227 1 0 0 3 487 181 488 489 490 491 797 798
noncomputable def Ay:OO:=λ_=>oF "law" "law" (top 41) (.str "law_stillheap_k35_books" 716) 492
noncomputable def hTa(P:Params):BT:=mkT P 12 (o0::o1::o2::o3::o4::o5::o6::o7::o8::o9::o10::o7::o8::o11::o12::[])
noncomputable def hSa(w:World)(os:OsState):SharedT:=⟨hTa w.params,15,⟨[],[],[],0,[],[],false,(List.toArray []),[],0,false,false,false,0,[2000,10,10],false,0,true,[],[],0,false⟩,#[],⟨0,0,0,0⟩,187,os⟩
noncomputable def hTb(P:Params):BT:=mkT P 12 (o0::o1::o2::o3::o4::o5::o6::o7::o8::o9::o10::o7::o8::o11::o12::[])
noncomputable def hSb(w:World)(os:OsState):SharedT:=⟨hTb w.params,15,⟨[],[],[],0,[],[],false,(List.toArray []),[],0,false,false,false,0,[2000,10,10],false,0,true,[],[],0,false⟩,#[],⟨0,0,0,0⟩,187,os⟩
noncomputable def hT0(P:Params):BT:=mkT P 12 (o0::o1::o2::o13::o4::o5::o6::o7::o8::o9::o10::o7::o14::o11::o12::o7::o8::o15::o7::o16::o17::o18::o19::o20::o21::o7::o22::o23::o24::o7::o8::o25::o7::o26::o27::o28::o7::o8::o29::o7::o30::o31::o32::o7::o33::o34::o35::o36::o37::o38::o20::o39::o7::o40::o41::o42::o7::o8::o43::o7::o44::o45::o46::o7::o47::o48::o49::o50::o38::o20::o51::o7::o52::o53::o54::o7::o8::o55::o7::o56::o57::o58::o7::o59::o60::o61::o62::o38::o20::o63::o7::o64::o65::o66::o7::o8::o67::o7::o68::o69::o70::o7::o71::o72::o73::o74::o38::o20::o75::o7::o76::o77::o78::o7::o8::o79::o7::o80::o81::o82::o7::o83::o84::o85::o86::o38::o20::o87::o7::o88::o89::o90::o7::o8::o91::o7::o92::o93::o94::o7::o95::o96::o97::o98::o38::o20::o99::o7::u2::u4::u6::o7::o8::ug::o7::u9::uh::ui::o7::uj::uk::va::vb::o38::o20::vc::o7::vd::ve::vf::o7::o8::um::o7::vg::uq::ur::o7::uu::uv::vh::vi::[])
noncomputable def hS0(w:World)(os:OsState):SharedT:=⟨hT0 w.params,182,⟨[],[],[],0,[],[],false,(List.toArray []),[],0,false,false,false,0,[2000,10,10],false,0,true,[],[],0,false⟩,#[],⟨0,0,0,0⟩,390,os⟩
noncomputable def hT1(P:Params):BT:=mkT P 12 (o0::o1::o2::CG::o4::o5::o6::o7::o8::o9::o10::o7::CI::o11::o12::o7::o8::o15::o7::o16::o17::o18::o19::o20::o21::o7::o22::o23::o24::o7::o8::o25::o7::o26::o27::o28::o7::o8::o29::o7::o30::o31::o32::o7::o33::vj::o35::o36::o37::o38::o20::o39::o7::o40::o41::o42::o7::o8::o43::o7::o44::o45::o46::o7::o47::o48::o49::o50::o38::o20::o51::o7::o52::o53::o54::o7::o8::o55::o7::o56::o57::o58::o7::o59::o60::o61::o62::o38::o20::o63::o7::o64::o65::o66::o7::o8::o67::o7::o68::o69::o70::o7::o71::o72::o73::o74::o38::o20::o75::o7::o76::o77::o78::o7::o8::o79::o7::o80::o81::o82::o7::o83::o84::o85::o86::o38::o20::o87::o7::o88::o89::o90::o7::o8::o91::o7::o92::o93::o94::o7::o95::o96::o97::o98::o38::o20::o99::o7::u2::u4::u6::o7::o8::ug::o7::u9::uh::ui::o7::uj::uk::va::vb::o38::o20::vc::o7::vd::ve::vf::o7::o8::um::o7::vg::uq::ur::o7::uu::uv::vh::vi::o38::o20::yy::o7::yz::yA::yB::o7::o8::vk::o7::yC::vm::vn::o7::vo::vp::yD::yE::o38::o20::yF::o7::yG::yI::yJ::o7::o8::vq::o7::yK::vt::vv::o7::o8::vw::o7::yL::vx::vy::vz::vA::vB::yM::yN::o38::o20::yO::o7::yP::yQ::yR::o7::o8::vC::o7::yS::vD::vE::o7::vF::vG::yT::yU::o38::o20::yV::o7::yW::yX::yY::o7::o8::vH::o7::yZ::vI::vJ::o7::vK::vL::y0::y6::o38::o20::y8::o7::y9::za::zb::o7::o8::vM::o7::ze::vN::vO::o7::vP::vQ::zf::zg::o38::o20::zh::o7::zi::zj::zk::o7::o8::vR::o7::zm::vS::vT::o7::o8::vU::o7::zo::vV::vW::vX::vY::vZ::zq::zr::o7::o8::v9::o7::zt::wa::wb::o7::o8::wc::o7::zu::we::wg::o7::o8::zv::wj::wm::o7::o8::wo::o7::zw::wq::wt::o7::o8::wu::o7::zx::wx::wy::o7::o8::wz::o7::zy::wA::wB::o7::o8::wC::o7::zA::wD::wF::o7::o8::wG::o7::zB::wH::wI::o7::o8::zC::wJ::wK::o7::o8::wL::o7::zD::wM::wN::o7::o8::zE::wO::wQ::[])
noncomputable def hS1(w:World)(os:OsState):SharedT:=⟨hT1 w.params,381,⟨[],[],[],0,[],[],false,(List.toArray []),[],0,false,false,false,0,[2000,10,10],false,0,true,[],[],0,false⟩,#[],⟨0,0,0,0⟩,648,os⟩
noncomputable def hT2(P:Params):BT:=mkT P 12 (o0::o1::o2::zF::o4::o5::o6::o7::o8::o9::o10::o7::Bx::o11::o12::o7::o8::o15::o7::o16::o17::o18::o19::o20::o21::o7::o22::o23::o24::o7::o8::o25::o7::o26::o27::o28::o7::o8::o29::o7::o30::o31::o32::o7::o33::vj::o35::o36::o37::o38::o20::o39::o7::o40::o41::o42::o7::o8::o43::o7::o44::o45::o46::o7::o47::o48::o49::o50::o38::o20::o51::o7::o52::o53::o54::o7::o8::o55::o7::o56::o57::o58::o7::o59::o60::o61::o62::o38::o20::o63::o7::o64::o65::o66::o7::o8::o67::o7::o68::o69::o70::o7::o71::o72::o73::o74::o38::o20::o75::o7::o76::o77::o78::o7::o8::o79::o7::o80::o81::o82::o7::o83::o84::o85::o86::o38::o20::o87::o7::o88::o89::o90::o7::o8::o91::o7::o92::o93::o94::o7::o95::o96::o97::o98::o38::o20::o99::o7::u2::u4::u6::o7::o8::ug::o7::u9::uh::ui::o7::uj::uk::va::vb::o38::o20::vc::o7::vd::ve::vf::o7::o8::um::o7::vg::uq::ur::o7::uu::uv::vh::vi::o38::o20::yy::o7::yz::yA::yB::o7::o8::vk::o7::yC::vm::vn::o7::vo::vp::yD::yE::o38::o20::yF::o7::yG::yI::yJ::o7::o8::vq::o7::yK::vt::vv::o7::o8::vw::o7::yL::vx::vy::vz::vA::vB::yM::yN::o38::o20::yO::o7::yP::yQ::yR::o7::o8::vC::o7::yS::vD::vE::o7::vF::vG::yT::yU::o38::o20::yV::o7::yW::yX::yY::o7::o8::vH::o7::yZ::vI::vJ::o7::vK::vL::y0::y6::o38::o20::y8::o7::y9::za::zb::o7::o8::vM::o7::ze::vN::vO::o7::vP::vQ::zf::zg::o38::o20::zh::o7::zi::zj::zk::o7::o8::vR::o7::zm::vS::vT::o7::o8::vU::o7::zo::vV::vW::vX::vY::vZ::zq::zr::o7::o8::v9::o7::zt::wa::wb::o7::o8::wc::o7::zu::we::wg::o7::o8::zv::wj::wm::o7::o8::wo::o7::zw::wq::wt::o7::o8::wu::o7::zx::wx::wy::o7::o8::wz::o7::zy::wA::wB::o7::o8::wC::o7::zA::wD::wF::o7::o8::wG::o7::zB::wH::wI::o7::o8::zC::wJ::wK::o7::o8::wL::o7::zD::wM::wN::o7::o8::zE::wO::wQ::o7::o20::By::o7::Bz::BA::BB::o7::o8::zG::o7::BC::zH::zI::o7::o8::zJ::o7::BD::zK::zL::o7::o8::zM::o7::BE::zN::zO::o7::o8::zP::o7::BF::zQ::zR::o7::o8::zS::o7::BG::zT::zU::o7::o8::zV::o7::BH::zW::zX::zY::zZ::z6::z7::z8::BI::BJ::o7::o8::z9::o7::BK::Aa::Ab::o7::o8::Ac::o7::BL::Ae::Af::o7::o8::Ag::o7::BM::Ah::Ai::o7::o8::BN::Aj::Ak::o7::o8::Al::o7::BO::Am::An::o7::o8::Ao::o7::BP::Ap::Aq::o7::o8::BQ::Ar::As::o7::o8::BR::Au::Av::o7::o8::Aw::o7::BS::Ax::Ay::[])
noncomputable def hS2(w:World)(os:OsState):SharedT:=⟨hT2 w.params,494,⟨[],[],[],0,[],[],false,(List.toArray []),[],0,false,false,false,0,[2000,10,10],false,0,true,[],[],0,false⟩,#[],⟨0,0,0,0⟩,800,os⟩
noncomputable def hTf(P:Params):BT:=mkT P 12 (o0::o1::o2::zF::o4::o5::o6::o7::o8::o9::o10::o7::Bx::o11::o12::o7::o8::o15::o7::o16::o17::o18::o19::o20::o21::o7::o22::o23::o24::o7::o8::o25::o7::o26::o27::o28::o7::o8::o29::o7::o30::o31::o32::o7::o33::vj::o35::o36::o37::o38::o20::o39::o7::o40::o41::o42::o7::o8::o43::o7::o44::o45::o46::o7::o47::o48::o49::o50::o38::o20::o51::o7::o52::o53::o54::o7::o8::o55::o7::o56::o57::o58::o7::o59::o60::o61::o62::o38::o20::o63::o7::o64::o65::o66::o7::o8::o67::o7::o68::o69::o70::o7::o71::o72::o73::o74::o38::o20::o75::o7::o76::o77::o78::o7::o8::o79::o7::o80::o81::o82::o7::o83::o84::o85::o86::o38::o20::o87::o7::o88::o89::o90::o7::o8::o91::o7::o92::o93::o94::o7::o95::o96::o97::o98::o38::o20::o99::o7::u2::u4::u6::o7::o8::ug::o7::u9::uh::ui::o7::uj::uk::va::vb::o38::o20::vc::o7::vd::ve::vf::o7::o8::um::o7::vg::uq::ur::o7::uu::uv::vh::vi::o38::o20::yy::o7::yz::yA::yB::o7::o8::vk::o7::yC::vm::vn::o7::vo::vp::yD::yE::o38::o20::yF::o7::yG::yI::yJ::o7::o8::vq::o7::yK::vt::vv::o7::o8::vw::o7::yL::vx::vy::vz::vA::vB::yM::yN::o38::o20::yO::o7::yP::yQ::yR::o7::o8::vC::o7::yS::vD::vE::o7::vF::vG::yT::yU::o38::o20::yV::o7::yW::yX::yY::o7::o8::vH::o7::yZ::vI::vJ::o7::vK::vL::y0::y6::o38::o20::y8::o7::y9::za::zb::o7::o8::vM::o7::ze::vN::vO::o7::vP::vQ::zf::zg::o38::o20::zh::o7::zi::zj::zk::o7::o8::vR::o7::zm::vS::vT::o7::o8::vU::o7::zo::vV::vW::vX::vY::vZ::zq::zr::o7::o8::v9::o7::zt::wa::wb::o7::o8::wc::o7::zu::we::wg::o7::o8::zv::wj::wm::o7::o8::wo::o7::zw::wq::wt::o7::o8::wu::o7::zx::wx::wy::o7::o8::wz::o7::zy::wA::wB::o7::o8::wC::o7::zA::wD::wF::o7::o8::wG::o7::zB::wH::wI::o7::o8::zC::wJ::wK::o7::o8::wL::o7::zD::wM::wN::o7::o8::zE::wO::wQ::o7::o20::By::o7::Bz::BA::BB::o7::o8::zG::o7::BC::zH::zI::o7::o8::zJ::o7::BD::zK::zL::o7::o8::zM::o7::BE::zN::zO::o7::o8::zP::o7::BF::zQ::zR::o7::o8::zS::o7::BG::zT::zU::o7::o8::zV::o7::BH::zW::zX::zY::zZ::z6::z7::z8::BI::BJ::o7::o8::z9::o7::BK::Aa::Ab::o7::o8::Ac::o7::BL::Ae::Af::o7::o8::Ag::o7::BM::Ah::Ai::o7::o8::BN::Aj::Ak::o7::o8::Al::o7::BO::Am::An::o7::o8::Ao::o7::BP::Ap::Aq::o7::o8::BQ::Ar::As::o7::o8::BR::Au::Av::o7::o8::Aw::o7::BS::Ax::Ay::[])
noncomputable def hSf(w:World)(os:OsState):SharedT:=⟨hTf w.params,494,⟨[],[],[],0,[],[],false,(List.toArray []),[],0,false,false,false,0,[2000,10,10],false,0,true,[],[],0,false⟩,#[],⟨0,0,0,0⟩,800,os⟩
def uw:Env:={scope:=(PySem.Challenge.pw_stillheap_k35_books).main.scope,locals:=mainNs,globals:=mainNs,cells:=[],code:=(.ref 13),frame:=some 14}
def hG0:List Stmt:=[top 0,top 1,top 2,top 3,top 4,top 5,top 6,top 7,top 8,top 9]
def hG1:List Stmt:=[top 10,top 11,top 12,top 13,top 14,top 15,top 16,top 17,top 18,top 19,top 20,top 21,top 22,top 23,top 24,top 25,top 26,top 27,top 28,top 29,top 30]
def hG2:List Stmt:=[top 31,top 32,top 33,top 34,top 35,top 36,top 37,top 38,top 39,top 40,top 41]
def hB:List Stmt:=hG0++(hG1++(hG2++[]))
def hC:Code:=.body hB uw
abbrev hF:List Frame:=[topFrame ⟨0,0,0,0⟩]
theorem CJ(w:World)(os:OsState):topGo treeTable PySem.Challenge.pw_stillheap_k35_books w 11 (.some (.ref 6)) 12 ⟨boot_heap w.params,#[],boot_drawn,boot_toks,os⟩ (topStub PySem.Challenge.pw_stillheap_k35_books)=some ((hSa w os).abs,⟨denote treeTable hC,hC,⟨0,0,0,0⟩,hF⟩):=by kernel_rfl
theorem CK(w:World)(os:OsState):segRun treeTable PySem.Challenge.pw_stillheap_k35_books w 11 (.some (.ref 6)) 1 1 (hSa w os).abs (blockOf hB uw hC ⟨0,0,0,0⟩ hF)=some (.next,(hSb w os).abs,hC,⟨0,0,0,0⟩):=by kernel_rfl
theorem hR0(w:World)(os:OsState):segRunT treeTable PySem.Challenge.pw_stillheap_k35_books w 11 (.some (.ref 6)) 1 1988 (hSb w os) (piecesOf hG0 uw hC ⟨0,0,0,0⟩ hF)=some (.next,hS0 w os,hC,⟨36,0,39,16⟩):=by kernel_rfl
theorem hR1(w:World)(os:OsState):segRunT treeTable PySem.Challenge.pw_stillheap_k35_books w 11 (.some (.ref 6)) 1 1891 (hS0 w os) (piecesOf hG1 uw hC ⟨36,0,39,16⟩ hF)=some (.next,hS1 w os,hC,⟨119,0,119,8⟩):=by kernel_rfl
theorem hR2(w:World)(os:OsState):segRunT treeTable PySem.Challenge.pw_stillheap_k35_books w 11 (.some (.ref 6)) 1 665 (hS1 w os) (piecesOf hG2 uw hC ⟨119,0,119,8⟩ hF)=some (.next,hS2 w os,hC,⟨227,0,234,71⟩):=by kernel_rfl
theorem CL(w:World)(os:OsState):topRun treeTable PySem.Challenge.pw_stillheap_k35_books w 11 (.some (.ref 6)) 2 (hS2 w os).abs ⟨doneF .next,hC,⟨227,0,234,71⟩,hF⟩=some (hSf w os).abs:=by kernel_rfl
theorem CM(w:World)(os:OsState):topRun treeTable PySem.Challenge.pw_stillheap_k35_books w 11 (.some (.ref 6)) (12+(1+(1988+(1891+(665+2))))) ⟨boot_heap w.params,#[],boot_drawn,boot_toks,os⟩ (topStub PySem.Challenge.pw_stillheap_k35_books)=some (hSf w os).abs:=go_top (CJ w os) (piece_block (CK w os) (piece_app (segRun_of (hR0 w os)) (piece_app (segRun_of (hR1 w os)) (piece_app (segRun_of (hR2 w os)) (CL w os)))))
noncomputable def hK(P:Params):Frag:=(nat_lit 2,o2 P)::(nat_lit 3,zF P)::(nat_lit 15,o7 P)::(nat_lit 17,o15 P)::(nat_lit 18,o7 P)::(nat_lit 20,o17 P)::(nat_lit 21,o18 P)::(nat_lit 22,o19 P)::(nat_lit 29,o7 P)::(nat_lit 31,o25 P)::(nat_lit 32,o7 P)::(nat_lit 34,o27 P)::(nat_lit 35,o28 P)::(nat_lit 36,o7 P)::(nat_lit 38,o29 P)::(nat_lit 39,o7 P)::(nat_lit 41,o31 P)::(nat_lit 42,o32 P)::(nat_lit 43,o7 P)::(nat_lit 44,o33 P)::(nat_lit 45,vj P)::(nat_lit 46,o35 P)::(nat_lit 49,o38 P)::(nat_lit 56,o7 P)::(nat_lit 58,o43 P)::(nat_lit 59,o7 P)::(nat_lit 61,o45 P)::(nat_lit 62,o46 P)::(nat_lit 63,o7 P)::(nat_lit 64,o47 P)::(nat_lit 65,o48 P)::(nat_lit 68,o38 P)::(nat_lit 75,o7 P)::(nat_lit 77,o55 P)::(nat_lit 78,o7 P)::(nat_lit 80,o57 P)::(nat_lit 81,o58 P)::(nat_lit 82,o7 P)::(nat_lit 83,o59 P)::(nat_lit 84,o60 P)::(nat_lit 87,o38 P)::(nat_lit 94,o7 P)::(nat_lit 96,o67 P)::(nat_lit 97,o7 P)::(nat_lit 99,o69 P)::(nat_lit 100,o70 P)::(nat_lit 101,o7 P)::(nat_lit 102,o71 P)::(nat_lit 103,o72 P)::(nat_lit 106,o38 P)::(nat_lit 113,o7 P)::(nat_lit 115,o79 P)::(nat_lit 116,o7 P)::(nat_lit 118,o81 P)::(nat_lit 119,o82 P)::(nat_lit 120,o7 P)::(nat_lit 121,o83 P)::(nat_lit 122,o84 P)::(nat_lit 125,o38 P)::(nat_lit 132,o7 P)::(nat_lit 134,o91 P)::(nat_lit 135,o7 P)::(nat_lit 137,o93 P)::(nat_lit 138,o94 P)::(nat_lit 139,o7 P)::(nat_lit 140,o95 P)::(nat_lit 141,o96 P)::(nat_lit 144,o38 P)::(nat_lit 151,o7 P)::(nat_lit 153,ug P)::(nat_lit 154,o7 P)::(nat_lit 156,uh P)::(nat_lit 157,ui P)::(nat_lit 158,o7 P)::(nat_lit 159,uj P)::(nat_lit 160,uk P)::(nat_lit 163,o38 P)::(nat_lit 170,o7 P)::(nat_lit 172,um P)::(nat_lit 173,o7 P)::(nat_lit 175,uq P)::(nat_lit 176,ur P)::(nat_lit 177,o7 P)::(nat_lit 178,uu P)::(nat_lit 179,uv P)::(nat_lit 182,o38 P)::(nat_lit 189,o7 P)::(nat_lit 191,vk P)::(nat_lit 192,o7 P)::(nat_lit 194,vm P)::(nat_lit 195,vn P)::(nat_lit 196,o7 P)::(nat_lit 197,vo P)::(nat_lit 198,vp P)::(nat_lit 201,o38 P)::(nat_lit 208,o7 P)::(nat_lit 210,vq P)::(nat_lit 211,o7 P)::(nat_lit 213,vt P)::(nat_lit 214,vv P)::(nat_lit 215,o7 P)::(nat_lit 217,vw P)::(nat_lit 218,o7 P)::(nat_lit 220,vx P)::(nat_lit 221,vy P)::(nat_lit 222,vz P)::(nat_lit 223,vA P)::(nat_lit 224,vB P)::(nat_lit 227,o38 P)::(nat_lit 234,o7 P)::(nat_lit 236,vC P)::(nat_lit 237,o7 P)::(nat_lit 239,vD P)::(nat_lit 240,vE P)::(nat_lit 241,o7 P)::(nat_lit 242,vF P)::(nat_lit 243,vG P)::(nat_lit 246,o38 P)::(nat_lit 253,o7 P)::(nat_lit 255,vH P)::(nat_lit 256,o7 P)::(nat_lit 258,vI P)::(nat_lit 259,vJ P)::(nat_lit 260,o7 P)::(nat_lit 261,vK P)::(nat_lit 262,vL P)::(nat_lit 265,o38 P)::(nat_lit 272,o7 P)::(nat_lit 274,vM P)::(nat_lit 275,o7 P)::(nat_lit 277,vN P)::(nat_lit 278,vO P)::(nat_lit 279,o7 P)::(nat_lit 280,vP P)::(nat_lit 281,vQ P)::(nat_lit 284,o38 P)::(nat_lit 291,o7 P)::(nat_lit 293,vR P)::(nat_lit 294,o7 P)::(nat_lit 296,vS P)::(nat_lit 297,vT P)::(nat_lit 298,o7 P)::(nat_lit 300,vU P)::(nat_lit 301,o7 P)::(nat_lit 303,vV P)::(nat_lit 304,vW P)::(nat_lit 305,vX P)::(nat_lit 306,vY P)::(nat_lit 307,vZ P)::(nat_lit 310,o7 P)::(nat_lit 312,v9 P)::(nat_lit 313,o7 P)::(nat_lit 315,wa P)::(nat_lit 316,wb P)::(nat_lit 317,o7 P)::(nat_lit 319,wc P)::(nat_lit 320,o7 P)::(nat_lit 322,we P)::(nat_lit 323,wg P)::(nat_lit 324,o7 P)::(nat_lit 327,wj P)::(nat_lit 328,wm P)::(nat_lit 329,o7 P)::(nat_lit 331,wo P)::(nat_lit 332,o7 P)::(nat_lit 334,wq P)::(nat_lit 335,wt P)::(nat_lit 336,o7 P)::(nat_lit 338,wu P)::(nat_lit 339,o7 P)::(nat_lit 341,wx P)::(nat_lit 342,wy P)::(nat_lit 343,o7 P)::(nat_lit 345,wz P)::(nat_lit 346,o7 P)::(nat_lit 348,wA P)::(nat_lit 349,wB P)::(nat_lit 350,o7 P)::(nat_lit 352,wC P)::(nat_lit 353,o7 P)::(nat_lit 355,wD P)::(nat_lit 356,wF P)::(nat_lit 357,o7 P)::(nat_lit 359,wG P)::(nat_lit 360,o7 P)::(nat_lit 362,wH P)::(nat_lit 363,wI P)::(nat_lit 364,o7 P)::(nat_lit 367,wJ P)::(nat_lit 368,wK P)::(nat_lit 369,o7 P)::(nat_lit 371,wL P)::(nat_lit 372,o7 P)::(nat_lit 374,wM P)::(nat_lit 375,wN P)::(nat_lit 376,o7 P)::(nat_lit 379,wO P)::(nat_lit 380,wQ P)::(nat_lit 388,o7 P)::(nat_lit 390,zG P)::(nat_lit 391,o7 P)::(nat_lit 393,zH P)::(nat_lit 394,zI P)::(nat_lit 395,o7 P)::(nat_lit 397,zJ P)::(nat_lit 398,o7 P)::(nat_lit 400,zK P)::(nat_lit 401,zL P)::(nat_lit 402,o7 P)::(nat_lit 404,zM P)::(nat_lit 405,o7 P)::(nat_lit 407,zN P)::(nat_lit 408,zO P)::(nat_lit 409,o7 P)::(nat_lit 411,zP P)::(nat_lit 412,o7 P)::(nat_lit 414,zQ P)::(nat_lit 415,zR P)::(nat_lit 416,o7 P)::(nat_lit 418,zS P)::(nat_lit 419,o7 P)::(nat_lit 421,zT P)::(nat_lit 422,zU P)::(nat_lit 423,o7 P)::(nat_lit 425,zV P)::(nat_lit 426,o7 P)::(nat_lit 428,zW P)::(nat_lit 429,zX P)::(nat_lit 430,zY P)::(nat_lit 431,zZ P)::(nat_lit 432,z6 P)::(nat_lit 433,z7 P)::(nat_lit 434,z8 P)::(nat_lit 437,o7 P)::(nat_lit 439,z9 P)::(nat_lit 440,o7 P)::(nat_lit 442,Aa P)::(nat_lit 443,Ab P)::(nat_lit 444,o7 P)::(nat_lit 446,Ac P)::(nat_lit 447,o7 P)::(nat_lit 449,Ae P)::(nat_lit 450,Af P)::(nat_lit 451,o7 P)::(nat_lit 453,Ag P)::(nat_lit 454,o7 P)::(nat_lit 456,Ah P)::(nat_lit 457,Ai P)::(nat_lit 458,o7 P)::(nat_lit 461,Aj P)::(nat_lit 462,Ak P)::(nat_lit 463,o7 P)::(nat_lit 465,Al P)::(nat_lit 466,o7 P)::(nat_lit 468,Am P)::(nat_lit 469,An P)::(nat_lit 470,o7 P)::(nat_lit 472,Ao P)::(nat_lit 473,o7 P)::(nat_lit 475,Ap P)::(nat_lit 476,Aq P)::(nat_lit 477,o7 P)::(nat_lit 480,Ar P)::(nat_lit 481,As P)::(nat_lit 482,o7 P)::(nat_lit 485,Au P)::(nat_lit 486,Av P)::(nat_lit 487,o7 P)::(nat_lit 489,Aw P)::(nat_lit 490,o7 P)::(nat_lit 492,Ax P)::(nat_lit 493,Ay P)::[]
def hAs:List Addr:=[2,3,15,17,18,20,21,22,29,31,32,34,35,36,38,39,41,42,43,44,45,46,49,56,58,59,61,62,63,64,65,68,75,77,78,80,81,82,83,84,87,94,96,97,99,100,101,102,103,106,113,115,116,118,119,120,121,122,125,132,134,135,137,138,139,140,141,144,151,153,154,156,157,158,159,160,163,170,172,173,175,176,177,178,179,182,189,191,192,194,195,196,197,198,201,208,210,211,213,214,215,217,218,220,221,222,223,224,227,234,236,237,239,240,241,242,243,246,253,255,256,258,259,260,261,262,265,272,274,275,277,278,279,280,281,284,291,293,294,296,297,298,300,301,303,304,305,306,307,310,312,313,315,316,317,319,320,322,323,324,327,328,329,331,332,334,335,336,338,339,341,342,343,345,346,348,349,350,352,353,355,356,357,359,360,362,363,364,367,368,369,371,372,374,375,376,379,380,388,390,391,393,394,395,397,398,400,401,402,404,405,407,408,409,411,412,414,415,416,418,419,421,422,423,425,426,428,429,430,431,432,433,434,437,439,440,442,443,444,446,447,449,450,451,453,454,456,457,458,461,462,463,465,466,468,469,470,472,473,475,476,477,480,481,482,485,486,487,489,490,492,493]
theorem fR(P:Params):hAs=(hK P).map (·.1):=rfl
def hQ:Program:={PySem.Challenge.pw_stillheap_k35_books with main:={(PySem.Challenge.pw_stillheap_k35_books).main with body:=[top 0,top 2,top 3,top 4,top 5,top 6,top 7,top 8,top 9,top 10,top 11,top 12,top 13,top 14,top 15,top 17,top 19,top 20,top 21,top 22,top 23,top 24,top 25,top 27,top 28,top 29,top 31,top 33,top 34,top 35,top 36,top 37,top 38,top 39,top 40,top 41]}}
def hLo:List Str:=[]
theorem AZ(w:World):(fencedOpening treeTable PySem.Challenge.pw_stillheap_k35_books w 9208).map (λs=>(s.heap,s.gens,s.drawn,s.toks))=some (boot_heap w.params,#[],boot_drawn,boot_toks):=by kernel_rfl
theorem A0(w:World):((boot_heap w.params).isNs mainGlobals&&(#[]:Array GenState).size == 0,(boot_heap w.params).objs.size,(boot_heap w.params).nsMap mainGlobals "__annotations__")=(true,11,((.some (.ref 6)):Option Value)):=by kernel_rfl
abbrev hXt(s:Shared):Bool:=xlAt hQ [] s&&recOk (RowW.records (OpenRow.toRowW (OpenLaw.row PySem.Challenge.rw_stillheap_k35_books))) s
theorem xJ(w:World):(λos:OsState=>((staticsOk (importedModules (PySem.Challenge.pw_stillheap_k35_books).main.body) (boot_heap w.params) (absHeap (hTf w.params) 494 ⟨[],[],[],0,[],[],false,(List.toArray []),[],0,false,false,false,0,[2000,10,10],false,0,true,[],[],0,false⟩)&&namesBound PySem.Challenge.pw_stillheap_k35_books (absHeap (hTf w.params) 494 ⟨[],[],[],0,[],[],false,(List.toArray []),[],0,false,false,false,0,[2000,10,10],false,0,true,[],[],0,false⟩)&&gensDone ⟨absHeap (hTf w.params) 494 ⟨[],[],[],0,[],[],false,(List.toArray []),[],0,false,false,false,0,[2000,10,10],false,0,true,[],[],0,false⟩,#[],⟨0,0,0,0⟩,800,os⟩&&laidKept (boot_heap w.params) (absHeap (hTf w.params) 494 ⟨[],[],[],0,[],[],false,(List.toArray []),[],0,false,false,false,0,[2000,10,10],false,0,true,[],[],0,false⟩)),
  openSeen hQ hLo (importedModules (PySem.Challenge.pw_stillheap_k35_books).main.body) hXt true ⟨absHeap (hTf w.params) 494 ⟨[],[],[],0,[],[],false,(List.toArray []),[],0,false,false,false,0,[2000,10,10],false,0,true,[],[],0,false⟩,#[],⟨0,0,0,0⟩,800,os⟩,Hook.obs (kHook hK hAs fR) ⟨absHeap (hTf w.params) 494 ⟨[],[],[],0,[],[],false,(List.toArray []),[],0,false,false,false,0,[2000,10,10],false,0,true,[],[],0,false⟩,#[],⟨0,0,0,0⟩,800,os⟩))=λ_=>(true,openGood hQ hLo,Hook.val (kHook hK hAs fR) w):=by kernel_rfl
theorem A1:LeftO PySem.Challenge.pw_stillheap_k35_books hQ hLo hXt (Hook.obs (kHook hK hAs fR)) (Hook.val (kHook hK hAs fR)) 9208 :=
 LeftO.of_pieces (H₁:=λP=>absHeap (hTf P) 494 ⟨[],[],[],0,[],[],false,(List.toArray []),[],0,false,false,false,0,[2000,10,10],false,0,true,[],[],0,false⟩) AZ A0 CM (by rfl) xJ
end
end K35
end
section
namespace L2
open PySem PySem.Spec PyProof.Rows
section
variable{κ:Type}[DecidableEq κ]
def fM(kvs:List (κ×V))(k:κ):Option V:=(kvs.find? λkv=>decide (kv.1=k)).map (·.2)
def putK(kvs:List (κ×V))(k:κ)(v:V):List (κ×V) :=
  if(kvs.any λkv=>decide (kv.1=k))=true then kvs.map (λkv=>if kv.1=k then(kv.1,v) else kv) else kvs++[(k,v)]
theorem cT{p:κ×V}{r:List (κ×V)}{k:κ}(e:p.1=k):fM (p::r) k=some p.2:=by simp[fM,Ea,e]
theorem cx{p:κ×V}{r:List (κ×V)}{k:κ}(e:¬p.1=k):fM (p::r) k=fM r k:=by simp[fM,Ea,e]
theorem gw(k:κ):∀ kvs:List (κ×V),(kvs.any λkv=>decide (kv.1=k))=(fM kvs k).isSome
  | []=>rfl
  | p::r=>by
    rw[Et];by_cases e:p.1=k
    · simp only[cT e,decide_eq_true e,Bool.true_or,Option.isSome_some]
    · rw[cx e,decide_eq_false e,Bool.false_or];exact gw k r
theorem nD(k j:κ)(y:V):∀ kvs:List (κ×V),fM (kvs.map λkv=>if kv.1=k then(kv.1,y) else kv) j=(fM kvs j).map λx=>if j=k then y else x
  | []=>rfl
  | p::r=>by
    have ih:=nD k j y r;rw[DN];by_cases h:p.1=k
    · rw[if_pos h]
      by_cases e:p.1=j
      · rw[cT (p:=(p.1,y)) e,cT e,D4,if_pos (e.symm.trans h)]
      · rw[cx (p:=(p.1,y)) e,cx e,ih]
    · rw[if_neg h]
      by_cases e:p.1=j
      · rw[cT (p:=p) e,cT e,D4,if_neg (λz=>h (e.trans z))]
      · rw[cx (p:=p) e,cx e,ih]
theorem ku(k j:κ)(y:V):∀ kvs:List (κ×V),fM kvs k=none→fM (kvs++[(k,y)]) j=if j=k then some y else fM kvs j
  | [],_=>by
    by_cases e:k=j
    · rw[if_pos e.symm];exact cT (p:=(k,y)) e
    · rw[if_neg (λz=>e z.symm)];exact cx (p:=(k,y)) e
  | p::r,hn=>by
    rw[List.cons_append];have hk:¬p.1=k:=λz=>by rw[cT z]at hn;cases hn
    rw[cx hk]at hn;have ih:=ku k j y r hn;by_cases e:p.1=j
    · rw[cT e,cT e,if_neg (λz=>hk (e.trans z))]
    · rw[cx e,cx e,ih]
theorem fj(kvs:List (κ×V))(k j:κ)(y:V):fM (putK kvs k y) j=if j=k then some y else fM kvs j:=by
  unfold putK;by_cases a:(kvs.any λkv=>decide (kv.1=k))=true
  · rw[if_pos a,nD]
    rw[gw]at a;by_cases e:j=k
    · obtain⟨x,hx⟩:=Option.isSome_iff_exists.mp a
      rw[if_pos e,e,hx,D4,if_pos rfl]
    · rw[if_neg e]
      cases fM kvs j with
      | none=>rfl
      | some x=>rw[D4,if_neg e]
  · rw[if_neg a]
    refine ku k j y kvs ?_;rw[gw]at a;cases q:fM kvs k with
    | none=>rfl
    | some x=>rw[q]at a;exact(a rfl).elim
theorem iO(kvs:List (κ×V))(k:κ)(v:V):(putK kvs k v).length≤kvs.length+1:=by
  unfold putK;split
  · rw[Dl];omega
  · rw[Dn,Dx,List.length_nil];omega
theorem nE{kvs:List (κ×V)}{k:κ}(v:V)(h:fM kvs k=none):putK kvs k v=kvs++[(k,v)]:=by
  unfold putK;rw[gw,h];exact if_neg (by decide)
theorem hX.qS{o:Option V}{u:Option Value}(r:hX o u):o.isSome=u.isSome:=by
  cases o with
  | none=>cases u with
    | none=>rfl
    | some _=>exact(show False from r).elim
  | some _=>cases u with
    | none=>exact(show False from r).elim
    | some _=>rfl
theorem hX.getD{o:Option V}{u:Option Value}{d:V}{d':Value}(r:hX o u)(rd:RelV d d'):RelV (o.getD d) (u.getD d'):=by
  cases o with
  | none=>cases u with
    | none=>exact rd
    | some _=>exact(show False from r).elim
  | some _=>cases u with
    | none=>exact(show False from r).elim
    | some _=>exact r
theorem KV.val{kvs:List (κ×V)}{vs:List (κ×Value)}(r:KV kvs vs)(k:κ):hX (fM kvs k) (valueAt vs k):=by
  unfold KV at r;induction r with
  | nil=>exact True.intro
  | @cons p q ps qs h t ih =>
    obtain⟨h1,h2⟩:=h;by_cases e:p.1=k
    · have e':q.1=k:=h1.symm.trans e
      have b:valueAt (q::qs) k=some q.2:=(by simp[valueAt,Ea,e']);rw[cT e,b];exact h2
    · have e':¬q.1=k:=λz=>e (h1.trans z)
      have b:valueAt (q::qs) k=valueAt qs k:=(by simp[valueAt,Ea,e']);rw[cx e,b];exact ih
theorem KV.any{kvs:List (κ×V)}{vs:List (κ×Value)}(r:KV kvs vs)(k:κ):(kvs.any λkv=>decide (kv.1=k))=vs.any λkv=>decide (kv.1=k):=by
  unfold KV at r;induction r with
  | nil=>rfl
  | cons h t ih=>rw[Et,Et,ih,h.1]
theorem KV.Az{kvs:List (κ×V)}{vs:List (κ×Value)}(r:KV kvs vs)(k:κ){y:V}{u:Value}(ry:RelV y u) :
    KV (kvs.map λkv=>if kv.1=k then(kv.1,y) else kv) (vs.map λkv=>if kv.1=k then(kv.1,u) else kv):=by
  unfold KV at r ⊢;induction r with
  | nil=>exact .nil
  | @cons p q ps qs h t ih =>
    rw[DN,DN];refine .cons ?_ ih;obtain⟨h1,h2⟩:=h;by_cases e:p.1=k
    · rw[if_pos e,if_pos (h1.symm.trans e)];exact⟨h1,ry⟩
    · rw[if_neg e,if_neg (λz=>e (h1.trans z))];exact⟨h1,h2⟩
theorem KV.put{kvs:List (κ×V)}{vs:List (κ×Value)}(r:KV kvs vs)(k:κ){y:V}{u:Value}(ry:RelV y u):KV (putK kvs k y) (stored vs k u):=by
  unfold putK stored;rw[r.any k];by_cases e:(vs.any λkv=>decide (kv.1=k))=true
  · rw[if_pos e,if_pos e];exact r.Az k ry
  · rw[if_neg e,if_neg e];exact Paired.snoc r ⟨rfl,ry⟩
theorem KV.keys{kvs:List (κ×V)}{vs:List (κ×Value)}(r:KV kvs vs):kvs.map (·.1)=vs.map (·.1):=by
  unfold KV at r;induction r with
  | nil=>rfl
  | cons h t ih=>rw[DN,DN,ih,h.1]
theorem KV.length{kvs:List (κ×V)}{vs:List (κ×Value)}(r:KV kvs vs):kvs.length=vs.length:=Paired.length r
end
theorem rO{P:Program}{w:World}{k:Key}{u:Value}(r:RelV (kV k) u):(bJ P w).is k u=true:=by
  cases k with
  | inl i=>obtain⟨t,e⟩:=(show ∃ t,u=Value.int i t from r);subst e;exact mC P w i t
  | inr x=>obtain⟨t,e⟩:=(show ∃ t,u=Value.str x t from r);subst e;exact mD P w x t
theorem kx{P:Program}{w:World}:∀ {ks:List Key} {us:List Value},Vals (ks.map kV) us→ItemsAre (bJ P w) ks us
  | [],_,r=>by rw[List.map_nil]at r;cases r;exact .nil
  | k::ks,_,r=>by
    rw[DN]at r;cases r with
    | cons h t=>exact .cons (rO h) (kx t)
abbrev KT(H:Hp):List (List Key×V)→List (List Key×Addr×Value)→Prop:=Paired λp q=>p.1=q.1∧H q.2.1=some (.tup (p.1.map kV))∧RelV p.2 q.2.2
theorem KT.val{H:Hp}{kvs:List (List Key×V)}{xs:List (List Key×Addr×Value)}(r:KT H kvs xs)(k:List Key):hX (fM kvs k) ((atKey xs k).map (·.2)):=by
  induction r with
  | nil=>exact True.intro
  | @cons p q ps qs h t ih =>
    obtain⟨h1,_,h2⟩:=h;by_cases e:p.1=k
    · have e':q.1=k:=h1.symm.trans e
      have b:atKey (q::qs) k=some q.2:=(by simp[atKey,Ea,e']);rw[cT e,b];exact h2
    · have e':¬q.1=k:=λz=>e (h1.trans z)
      have b:atKey (q::qs) k=atKey qs k:=(by simp[atKey,Ea,e']);rw[cx e,b];exact ih
theorem KT.Az{H:Hp}{kvs:List (List Key×V)}{xs:List (List Key×Addr×Value)}(r:KT H kvs xs)(k:List Key){y:V}{u:Value}(ry:RelV y u) :
    KT H (kvs.map λkv=>if kv.1=k then(kv.1,y) else kv) (xs.map (putAt k u)):=by
  induction r with
  | nil=>exact .nil
  | @cons p q ps qs h t ih =>
    rw[DN,DN];refine .cons ?_ ih;obtain⟨h1,h2,h3⟩:=h;unfold putAt;by_cases e:p.1=k
    · rw[if_pos e,if_pos (h1.symm.trans e)];exact⟨h1,h2,ry⟩
    · rw[if_neg e,if_neg (λz=>e (h1.trans z))];exact⟨h1,h2,h3⟩
theorem KT.put{H:Hp}{kvs:List (List Key×V)}{xs:List (List Key×Addr×Value)}(r:KT H kvs xs)(k:List Key){b:Addr}{y:V}{u:Value}(hb:H b=some (.tup (k.map kV)))(ry:RelV y u) :
    KT H (putK kvs k y) (storedH xs k b u):=by
  have e:(kvs.any λkv=>decide (kv.1=k))=(atKey xs k).isSome:=by
    rw[gw,(r.val k).qS,Option.isSome_map]
  unfold putK storedH;rw[e];by_cases q:(atKey xs k).isSome=true
  · rw[if_pos q,if_pos q];exact r.Az k ry
  · rw[if_neg q,if_neg q];exact Paired.snoc r ⟨rfl,hb,ry⟩
theorem KT.keeps{H H':Hp}{kvs:List (List Key×V)}{xs:List (List Key×Addr×Value)}(r:KT H kvs xs)(ht:∀ b ys,H b=some (.tup ys)→H' b=some (.tup ys)):KT H' kvs xs :=
  Paired.ym r λ_ _ z=>⟨z.1,ht _ _ z.2.1,z.2.2⟩
section
variable{P:Program}{w:World}{H:Hp}{h:Heap}{a:Addr}
theorem wR{u:HO}(ok:HOk P w H h)(e:Rd H a u):bV P w H h a u:=e.ok ok
theorem me{kvs:List (Key×V)}(ok:HOk P w H h)(e:Rd H a (.dK kvs)):kvs.length≤sizeLine∧(a == sysModules)=false∧∃ vs,KV kvs vs∧h.DictOf (bJ P w) a vs :=
  show bV P w H h a (.dK kvs) from wR ok e
theorem wU{kvs:List (Key×V)}(ok:HOk P w H h)(e:H a=some (.dK kvs)):kvs.length≤sizeLine∧(a == sysModules)=false∧∃ vs,KV kvs vs∧h.DictOf (bJ P w) a vs:=me ok (.inl e)
theorem mf{ks:List Key}(ok:HOk P w H h)(e:H a=some (.tup (ks.map kV))):(tupleKind (bJ P w)).is h ks a:=by
  obtain⟨_,its,r,o,h1,h2,n,h3⟩:=(show bV P w H h a (.tup (ks.map kV)) from ok a _ e);exact⟨o,its.toArray,n,h1,h2,h3,by simpa using kx r⟩
theorem ou{kvs:List (List Key×V)}(ok:HOk P w H h)(e:Rd H a (.dT kvs)):kvs.length≤sizeLine∧(a == sysModules)=false ∧
    ∃ xs,KT H kvs xs∧h.DictOfH (tupleKind (bJ P w)) a xs:=by
  obtain⟨z,y,xs,r,o,es,ep,h1,h2,h3,h4,h5⟩:=(show bV P w H h a (.dT kvs) from wR ok e);refine⟨z,y,xs,r,o,es,ep,h1,h2,h3,h4,λx hx=>?_,h5⟩;have all:∀ {l:List (List Key×V)} {m:List (List Key×Addr×Value)},KT H l m→∀ x∈m,(tupleKind (bJ P w)).is h x.1 x.2.1:=by
    intro l m q;induction q with
    | nil=>intro x hx;exact nomatch hx
    | @cons p q ps qs hq t ih =>
      intro x hx;rcases Ds.mp hx with e|hx
      · subst e
        exact mf ok (by rw[←hq.1];exact hq.2.1)
      · exact ih x hx
  exact all r x hx
theorem A2{kvs:List (List Key×V)}(ok:HOk P w H h)(e:H a=some (.dT kvs)):kvs.length≤sizeLine∧(a == sysModules)=false ∧
    ∃ xs,KT H kvs xs∧h.DictOfH (tupleKind (bJ P w)) a xs:=ou ok (.inl e)
end
def qi(H:Hp)(a:Addr)(y:V)(r:Option V):Prop :=
  (∃ kvs k,Rd H a (.dK kvs)∧y=kV k∧r=fM kvs k)∨∃ kvs k b,Rd H a (.dT kvs)∧y=.ref b∧H b=some (.tup (k.map kV))∧r=fM kvs k
def qj(H:Hp)(a:Addr)(y v:V)(H':Hp):Prop :=
  (∃ kvs k,H a=some (.dK kvs)∧y=kV k∧kvs.length<sizeLine∧H'=upd H a (.dK (putK kvs k v))) ∨
  ∃ kvs k b,H a=some (.dT kvs)∧y=.ref b∧H b=some (.tup (k.map kV))∧kvs.length<sizeLine∧H'=upd H a (.dT (putK kvs k v))
theorem qi.k{H:Hp}{a:Addr}{kvs:List (Key×V)}{k:Key}(e:H a=some (.dK kvs)):qi H a (kV k) (fM kvs k):=.inl ⟨kvs,k,.inl e,rfl,rfl⟩
theorem qj.k{H:Hp}{a:Addr}{kvs:List (Key×V)}{k:Key}{v:V}(e:H a=some (.dK kvs))(hl:kvs.length<sizeLine):qj H a (kV k) v (upd H a (.dK (putK kvs k v))):=.inl ⟨kvs,k,e,rfl,hl,rfl⟩
section
variable{X:Cx}{pins:List (Addr×Obj)}{σ:St}{H:Hp}{s:Shared}{a:Addr}{y v:V}{u r:Value}{o:Option V}{A:Around}{E:Value→Shared→Prop}
theorem Inv.big(I:Inv X pins σ H s):sysModules<s.heap.objs.size:=by
  have h:mainGlobals<s.heap.objs.size:=(I.mod.glob.keeps I.bk).lt;exact Nat.lt_trans (by decide) h
theorem qT{Q:Value→Shared→Prop}(hu:A.units+1<cLine)(I:Inv X pins σ H s)(g:qi H a y (some v))(ry:RelV y u)(h:∀ w' s',Inv X pins σ H s'→RelV v w'→Q w' s') :
    wpAny (model X.prog X.w) A (getItem (.ref a) u) Q E s:=by
  rcases g with⟨kvs,k,e,ey,l⟩|⟨kvs,k,b,e,ey,eb,l⟩
  · subst ey
    obtain⟨z,hd,vs,rel,dd⟩:=me I.hok e;obtain⟨w',hw,rw'⟩:=hX.some_of (v:=v) (o:=valueAt vs k) (by rw[l];exact rel.val k);exact wpAny_getItem_of (rO ry) dd.mapOf hw (h w' _ (I.tok _) rw')
  · subst ey
    cases (show u=Value.ref b from ry);obtain⟨z,hd,xs,rel,dd⟩:=ou I.hok e;obtain⟨w',hw,rw'⟩:=hX.some_of (v:=v) (o:=(atKey xs k).map (·.2)) (by rw[l];exact rel.val k);obtain⟨p,hp,hp2⟩:=DG.mp hw;refine wpAny_getItem_heap (tupleKind_room_in1 hu) (mf I.hok eb) dd hp ?_;rw[hp2];exact h w' _ (I.tok _) rw'
theorem qk{h':Heap}{t':Nat}{ob:HO}(I:Inv X pins σ H s)(mu:Mut (H a))(hs:Heap.SameBut a s.heap h')(he:∃ q,h'.get? a=some q)(new:bV X.prog X.w (upd H a ob) h' a ob) :
    Inv X pins σ (upd H a ob) {s with heap:=h',toks:=t'} :=
  I.write (x:=a) (e:=a) mu (.inl rfl) (λb q hb z=>(hs.2 b hb).trans z) he new
theorem xK{P:Program}{w:World}{H':Hp}{h':Heap}{kvs:List (Key×V)}{vs:List (Key×Value)}(z:kvs.length≤sizeLine)(hd:(a == sysModules)=false)(rel:KV kvs vs)(dd:h'.DictOf (bJ P w) a vs) :
    bV P w H' h' a (.dK kvs):=⟨z,hd,vs,rel,dd⟩
theorem qU{H':Hp}{Q:Unit→Shared→Prop}(hu:A.units+1<cLine)(I:Inv X pins σ H s)(g:qj H a y v H')(ry:RelV y u)(rv:RelV v r)(h:∀ s',Inv X pins σ H' s'→Q () s') :
    wpAny (model X.prog X.w) A (setItem (.ref a) u r) Q E s:=by
  rcases g with⟨kvs,k,e,ey,l,eH⟩|⟨kvs,k,b,e,ey,eb,l,eH⟩
  · subst ey eH
    obtain⟨z,hd,vs,rel,dd⟩:=wU I.hok e;have hz:vs.length≤sizeLine:=(by rw[←rel.length];exact z);have hl:(putK kvs k v).length≤sizeLine:=(by have:=iO kvs k v;omega);refine wpAny_setItem_pairs (hsz:=hz) (rO ry) dd λh' dd' hs=>h _ ?_;have he:∃ q,h'.get? a=some q:=let ⟨q,_,_,hq,_⟩:=dd';⟨q,hq⟩;exact qk I (by rw[e];exact True.intro) hs he (xK hl hd (rel.put k rv) dd')
  · subst ey eH
    cases (show u=Value.ref b from ry);obtain⟨z,hd,xs,rel,dd⟩:=A2 I.hok e;have hz:xs.length≤sizeLine:=(by rw[←Paired.length rel];exact z);have hl:(putK kvs k v).length≤sizeLine:=(by have:=iO kvs k v;omega);refine wpAny_setItem_heap (hsz:=hz) (tupleKind_room_in1 hu) (mf I.hok eb) dd λh' dd' hs=>h _ ?_;obtain⟨q,es,ep,hq,h2,h3,h4,_,h5⟩:=dd';refine qk I (by rw[e];exact True.intro) hs ⟨q,hq⟩ ⟨hl,hd,_,(rel.put k eb rv).keeps λc ys ec=>?_,q,es,ep,hq,h2,h3,h4,h5⟩;rw[ak (ee ec e (λz=>nomatch z))];exact ec
end
section
variable{X:Cx}{pins:List (Addr×Obj)}{σ:St}{H:Hp}{s:Shared}{a:Addr}{kvs:List (Key×V)}{k:Key}{u:Value}{A:Around}{E:Value→Shared→Prop}
end
def BU(i:Expr):Prop:=∀ ov iv,subscripted i false ov iv=operate [ov,iv] (getItem ov iv)
theorem ux{prog:Program}{w:World}{A:Around}{E:Value→Shared→Prop}{s:Shared}{env:Env}{value slice:Expr}{pos:Pos}{T id:String}{Q:Value→Shared→Prop}
    (hl:typeLookup (.type T) "__getitem__" = pure (some (.builtin id))) (hs:BU slice)
    (h:wpAny (model prog w) A (eval value env) (λo s₁=>wpAny (model prog w) A (eval slice env) (λi s₂=>s₂.TypeIs o T∧wpAny (model prog w) A (getItem o i) Q E s₂) E s₁) E s) :
    wpAny (model prog w) A (eval (.Subscript value slice pos) env) Q E s:=by
  refine Subscript_ (wpAny_mono h (λo s₁ h₁=>wpAny_mono h₁ (λi s₂ h₂=>?_) λ_ _ x=>x) λ_ _ x=>x);obtain⟨hT,h₂⟩:=h₂;unfold subscriptTail;refine wpAny_bind ?_;rw[getitemInPython_of_ne hT.not_modules];refine wpAny_bind (wpAny_specialOf hT hl ?_);have fin:wpAny (model prog w) A (subscripted slice false o i) (λr s₃=>wpAny (model prog w) A (letTemporaryGo value o r >>= λ_=>pure r) Q E s₃) E s₂:=by
    rw[hs o i];exact wpAny_operating (wpAny_mono h₂ (λr s₃ h₃=>wpAny_bind (wpAny_letTemporaryGo (wpAny_pure h₃))) λ_ _ x=>x)
  first
    | exact wpAny_pure (wpAny_bind fin)
    | exact wpAny_bind (wpAny_pure (wpAny_bind fin))
    | exact wpAny_bind fin
theorem mG{X:Cx}{pins:List (Addr×Obj)}{σ:St}{H:Hp}{s:Shared}{a:Addr}{y:V}{o:Option V}(I:Inv X pins σ H s)(g:qi H a y o):s.TypeIs (.ref a) "dict" := by
  rcases g with⟨kvs,k,e,_,_⟩|⟨kvs,k,b,e,_,_,_⟩
  · obtain⟨_,_,vs,_,dd⟩:=me I.hok e
    exact dd.typeIs
  · obtain⟨_,_,xs,_,dd⟩:=ou I.hok e
    exact dd.typeIs
def A3(td ty:TE):TE:=λσ H Q=>td σ H λx H1=>ty σ H1 λy H2=>∃ a v,x=.ref a∧qi H2 a y (some v)∧Q v H2
def A4(td ty tv:TE):TS:=λD σ H=>tv σ H λv H1=>td σ H1 λx H2=>ty σ H2 λy H3=>∃ a H4,x=.ref a∧qj H3 a y v H4∧D.nx σ H4
section
variable{X:Cx}{o i e value:Expr}{pos pos' Cq:Pos}{td ty tv:TE}
theorem lQ(hu:X.A.units+1<cLine)(ho:PE X o td)(hi:PE X i ty)(hs:BU i):PE X (.Subscript o i pos) (A3 td ty):=by
  intro pins s σ H Q I h;refine ux PySem.F.slot_dict_getitem.lookup hs (thn (ho pins s σ H _ I h) λu s1 ⟨x,H1,I1,rx,q1⟩=>thn (hi pins s1 σ H1 _ I1 q1) λiv s2 ⟨y,H2,I2,ry,a,v,ex,g,q2⟩=>?_);subst ex;obtain rfl:u=Value.ref a:=rx;exact⟨mG I2 g,qT hu I2 g ry λw' s3 I3 rw'=>⟨v,H2,I3,rw',q2⟩⟩
theorem jl(hu:X.A.units+1<cLine)(ho:PE X o td)(hi:PE X i ty)(hv:PE X value tv)(hs:swapsWith value (some (.Subscript o i pos')) pos.line X.env=pure false) :
    PS X (.Assign [.Subscript o i pos'] value pos) (A4 td ty tv):=by
  intro pins s σ H D I h;refine wpAny_Assign_Subscript (thn (hv pins s σ H _ I h) λr s1 ⟨v,H1,I1,rv,q1⟩=>thn (ho pins s1 σ H1 _ I1 q1) λu s2 ⟨x,H2,I2,rx,q2⟩=>thn (hi pins s2 σ H2 _ I2 q2) λiv s3 ⟨y,H3,I3,ry,a,H4,ex,g,q3⟩=>?_) hs;subst ex;obtain rfl:u=Value.ref a:=rx;exact qU hu I3 g ry rv λs4 I4=>⟨σ,H4,I4,q3⟩
end
theorem si{P:Program}{w:World}{H:Hp}(h:Heap)(hb:sysModules<h.objs.size):bV P w H (h.push {cls:=.type "dict",data:=.dict #[]}) h.objs.size (.dK []) :=
  ⟨DQ _,beq_eq_false_iff_ne.mpr (DH (Dq hb)),[],.nil,Heap.DictOf.new h⟩
def xM:TE:=λ_ H Q=>∀ p,H p=none→Q (.ref p) (upd H p (.dK []))
section
variable{X:Cx}{pos:Pos}
theorem jC:PE X (.Dict [] [] pos) xM:=λpins s σ H Q I h =>
  wpAny_Dict_empty ⟨.ref s.heap.objs.size,_,I.laid (a:=s.heap.objs.size) (o:=.dK []) (t':=s.toks) (λ_ _ q=>C9 _ q) (Dk _) (si s.heap I.big),rfl,h _ (I.hok.fresh (Dk _))⟩
end
structure M2(X:Cx)(o:Expr)(m:Str)(apos:Pos)(e f:Expr)(i7:Pos):Prop where
  base:attributeBase o m X.env (eval o X.env)=eval o X.env
  few:((backTo i7 (starEach [e,f] X.env)).all (λx=>!x.1)&&(backToKw i7 (keywordEach [] X.env)).all (λx=>x.1.isSome)
    && decide (([e,f]:List Expr).length+([]:List Keyword).length+(if([]:List Keyword).isEmpty then 0 else 1)<30))=true
  line:(apos.endLine == i7.line)=true
  trees:backTo i7 (starEach [e,f] X.env)=[(false,eval e X.env),(false,eval f X.env)]
def IsD(H:Hp)(a:Addr):Prop:=(∃ kvs,Rd H a (.dK kvs))∨∃ kvs,Rd H a (.dT kvs)
theorem xN{X:Cx}{pins:List (Addr×Obj)}{σ:St}{H:Hp}{s:Shared}{a:Addr}(I:Inv X pins σ H s)(d:IsD H a) :
    s.TypeIs (.ref a) "dict" ∧ (∀ b,Value.ref a=.ref b→∃ ob,s.heap.get? b=some ob∧ob.dict=none)∧(a == sysModules)=false:=by
  rcases d with⟨kvs,e⟩|⟨kvs,e⟩
  · obtain⟨_,hd,vs,_,dd⟩:=me I.hok e
    refine⟨dd.typeIs,λb q=>?_,hd⟩;cases q;obtain⟨ob,_,_,h1,h2,_⟩:=dd;exact⟨ob,h1,h2.2.1⟩
  · obtain⟨_,hd,xs,_,dd⟩:=ou I.hok e
    refine⟨dd.typeIs,λb q=>?_,hd⟩;cases q;obtain⟨ob,_,_,h1,h2,_⟩:=dd;exact⟨ob,h1,h2.2.1⟩
section
variable{X:Cx}{pins:List (Addr×Obj)}{σ:St}{H:Hp}{s:Shared}{a:Addr}{y d:V}{u r:Value}{o:Option V}{A:Around}{E:Value→Shared→Prop}
theorem xO{Q:Value→Shared→Prop}(hu:A.units+1<cLine)(I:Inv X pins σ H s)(g:qi H a y o)(ry:RelV y u)(rd:RelV d r)(h:∀ w' s',Inv X pins σ H s'→RelV (o.getD d) w'→Q w' s') :
    wpAny (model X.prog X.w) A (call (.builtin "dict.get") [.ref a,u,r]) Q E s:=by
  rcases g with⟨kvs,k,e,ey,l⟩|⟨kvs,k,b,e,ey,eb,l⟩
  · subst ey
    obtain⟨z,hd,vs,rel,dd⟩:=me I.hok e;refine call_meetsIn PySem.F.slot_dict_get dd.typeIs PySem.F.entry_dict_get (PySem.F.args_dict_get_3 _ _ _) (meets_dict_get_default (bJ X.prog X.w) a (rO ry) hd r) ⟨_,dd.mapOf,h _ _ (I.tok _) ?_⟩;rw[l];exact(rel.val k).getD rd
  · subst ey
    cases (show u=Value.ref b from ry);obtain⟨z,hd,xs,rel,dd⟩:=ou I.hok e;refine call_meetsIn PySem.F.slot_dict_get dd.typeIs PySem.F.entry_dict_get (PySem.F.args_dict_get_3 _ _ _) (meetsH_dict_get_default (tupleKind (bJ X.prog X.w)) a b hd r) ⟨tupleKind_room_in1 hu,k,xs,mf I.hok eb,dd,h _ _ (I.tok _) ?_⟩;rw[l];exact(rel.val k).getD rd
end
def xP(td ty tx:TE):TE:=λσ H Q=>td σ H λx H1=>∃ a,x=.ref a∧IsD H1 a∧ty σ H1 λy H2=>tx σ H2 λz H3=>∃ o,qi H3 a y o∧Q (o.getD z) H3
section
variable{X:Cx}{o e f:Expr}{apos i7:Pos}{td ty tx:TE}
theorem sj(hu:X.A.units+1<cLine)(ho:PE X o td)(he:PE X e ty)(hf:PE X f tx)(m:M2 X o "get" apos e f i7):PE X (.Call (.Attribute o "get" apos) [e,f] [] i7) (xP td ty tx):=by
  intro pins s σ H Q I h;refine wpAny_Call_method m.base m.few m.line PySem.F.plainAttrs_dict PySem.F.slot_dict_get PySem.F.type_dict_get (thn (ho pins s σ H _ I h) λu s1 ⟨x,H1,I1,rx,a,ex,d,q1⟩=>?_);subst ex;obtain rfl:u=Value.ref a:=rx;obtain⟨t1,t2,_⟩:=xN I1 d;refine⟨t1,t2,?_⟩;rw[m.trees];refine Calls.callWith_builtin rfl (Calls.evalArgs_plain (Ew (thn (he pins s1 σ H1 _ I1 q1) λiv s2 ⟨y,H2,I2,ry,q2⟩ =>
    Ew (thn (hf pins s2 σ H2 _ I2 q2) λfv s3 ⟨z,H3,I3,rz,ov,g,q3⟩=>Calls.spliced_nil ?_))))
  exact xO hu I3 g ry rz λw' s4 I4 rw'=>⟨_,H3,I4,rw',q3⟩
end
section
variable{X:Cx}{pins:List (Addr×Obj)}{σ:St}{H:Hp}{s:Shared}{a:Addr}{kvs:List (Key×V)}{A:Around}{E:Value→Shared→Prop}
end
section
variable{X:Cx}{pins:List (Addr×Obj)}{σ:St}{H:Hp}{s:Shared}{a:Addr}{y:V}{u:Value}{A:Around}{E:Value→Shared→Prop}
end
end L2
namespace L2
open PySem PySem.Spec PyProof.Rows
section
variable{X:Cx}
end
end L2
end
section
namespace LX
open PySem PySem.W
def aV(c:Value)(od:Option Addr)(fs:Array Value)(sl:Array (Option Value)):Obj:={cls:=c,dict:=od,data:=.fields fs,slots:=sl}
def sW(dd:Option Addr)(cd:ClassData)(k0 k1 k2 k3 k5:Option Value):Obj:={cls:=.type "type",dict:=dd,data:=.cls cd,slots:=#[k0,k1,k2,k3,some (.builtin "ValueError.__new__"),k5]}
structure cX(K:Frag)(C:Addr)(cd:ClassData):Prop where
 ob:∃ dd k0 k1 k2 k3 k5,K.lookup C=some (sW dd cd k0 k1 k2 k3 k5)
 del:cd.hasDel=false
 line:∃ r,cd.mro=.ref C::r
 val:cd.mro.contains (.type "ValueError")=true
 bas:cd.mro.contains (.type "BaseException")=true
 obj:cd.mro.contains (.type "object")=true
 atr:cd.mro.contains (.type "AttributeError")=false
 nam:cd.mro.contains (.type "NameError")=false
def mh(K:Frag)(C:Addr):Bool:=match K.lookup C with
 | some ⟨.type "type",_,.cls cd,sl⟩=>(match cd.mro,sl.toList with
  | .ref D::_,[_,_,_,_,some (.builtin n),_]=>D == C&&n == "ValueError.__new__" && !cd.hasDel&&cd.mro.contains (.type "ValueError")&&cd.mro.contains (.type "BaseException") &&
    cd.mro.contains (.type "object")&&!cd.mro.contains (.type "AttributeError")&&!cd.mro.contains (.type "NameError")
  | _,_=>false)
 | _=>false
theorem ql{K:Frag}{C:Addr}(e:mh K C=true):∃ cd,clsIn K C=some cd∧cX K C cd:=by
 unfold mh at e;split at e
 ·rename_i dd cd sl ho
  split at e
  ·rename_i D r k0 k1 k2 k3 n k5 hm hs
   simp only[DW,beq_iff_eq,Bool.not_eq_true']at e;obtain⟨⟨⟨⟨⟨⟨⟨rfl,rfl⟩,e1⟩,e2⟩,e3⟩,e4⟩,e5⟩,e6⟩:=e;obtain⟨sl⟩:=sl;simp only at hs;subst hs;exact⟨cd,by unfold clsIn;rw[ho],⟨dd,k0,k1,k2,k3,k5,ho⟩,e1,⟨r,hm⟩,e2,e3,e4,e5,e6⟩
  ·cases e
 ·cases e
section
variable{K:Frag}{C:Addr}{cd:ClassData}{M:Model}{h:Heap}
theorem cX.cls(x:cX K C cd):clsIn K C=some cd:=by
 obtain⟨dd,k0,k1,k2,k3,k5,e⟩:=x.ob;unfold clsIn;rw[e];rfl
theorem cX.iu(x:cX K C cd):cd.mro.isEmpty=false:=by
 obtain⟨r,e⟩:=x.line;rw[e];rfl
theorem cX.sub(x:cX K C cd)(X:K.In h)(v:Value):Looks M h (isSubtype (.ref C) v) (cd.mro.contains v) :=
 looks_mroIn X (by unfold mroIn;rw[x.cls,D8,if_neg (by rw[x.iu];decide)])
theorem cX.mro(x:cX K C cd)(X:K.In h):Looks M h (mroOf (.ref C)) cd.mro:=(looks_clsIn X x.cls).andThen .now
theorem cX.typ(x:cX K C cd)(X:K.In h):Looks M h (typeOf (.ref C)) (.type "type"):=by
 obtain⟨dd,k0,k1,k2,k3,k5,e⟩:=x.ob;exact(Looks.ld (X _ _ e)).andThen .now
theorem cX.AA(x:cX K C cd)(X:K.In h):Looks M h (isType (.ref C)) true:=by
 obtain⟨dd,k0,k1,k2,k3,k5,e⟩:=x.ob;intro A Q E s k q;unfold isType loadHead;exact wpAny_bind (wpAny_loadPart (k _ _ (X _ _ e)) (wpAny_pure q))
theorem cX.madeBy(x:cX K C cd)(X:K.In h):Looks M h (Bind.madeBy (.ref C)) (some "ValueError.__new__"):=by
 obtain⟨dd,k0,k1,k2,k3,k5,e⟩:=x.ob;obtain⟨r,hr⟩:=x.line;intro A Q E s k q;unfold Bind.madeBy;refine wpAny_bind (x.mro X A _ E s k ?_);rw[hr,List.forIn_cons];refine wpAny_bind (wpAny_bind (wpAny_bind (wpAny_bind (wpAny_loadPart (k _ _ (X _ _ e)) (wpAny_pure ?_)))));exact wpAny_pure (wpAny_pure (wpAny_pure q))
theorem cX.static(x:cX K C cd)(X:K.In h):Looks M h (Bind.staticBase (.ref C)) (.ref C):=by
 obtain⟨r,hr⟩:=x.line;intro A Q E s k q;unfold Bind.staticBase;refine wpAny_bind (x.mro X A _ E s k ?_);rw[hr,List.forIn_cons];exact wpAny_bind (wpAny_bind (wpAny_bind (x.madeBy X A _ E s k (wpAny_pure (wpAny_pure (wpAny_pure q))))))
theorem uy:Manifest.canonical "ValueError.__new__" = Manifest.canonical "BaseException.__new__" := PySem.F.excBase_ValueError.canon
theorem cX.here(x:cX K C cd)(X:K.In h):Looks M h (Bind.madeHere "BaseException.__new__" (.ref C)) () :=
 (x.static X).andThen ((x.madeBy X).andThen (Looks.of_pure (by simp only[D4,uy,bne_self_eq_false,DM,if_false])))
end
def Back(x:Addr)(R:Result→Shared→Prop)(r:Result)(s':Shared):Prop:=match r with
 | .ok (.ret v)=>v=.none∧R (.ok (.ret (.ref x))) s'
 | .ok _=>False
 | .error e=>R (.error e) s'
abbrev pN(C t:Addr):Obj:=aV (.ref C) none #[.ref t,.none,.none,.none,.bool false,.none] #[]
abbrev gR(vs:List Value):Obj:={cls:=.type "tuple",data:=.seq vs.toArray}
abbrev eZ(h:Heap)(C:Addr)(vs:List Value):Heap:=(h.push (gR vs)).push (pN C h.objs.size)
section
variable{prog:Program}{w:World}{A:Around}{R:Result→Shared→Prop}{h:Heap}{g:Array GenState}{d:Drawn}{t:Nat}{os:OsState}{K:Frag}{C:Addr}{cd:ClassData}{vs:List Value}
theorem sk(x:cX K C cd)(X:K.In h)(hv:vs.length≤sizeLine)(k:R (.ok (.ret (.ref (h.objs.size+1)))) ⟨eZ h C vs,g,d,t,os⟩) :
  codeAny (model prog w) A (.call (.builtin "ValueError.__new__") ⟨.ref C::vs,[]⟩) R ⟨h,g,d,t,os⟩:=by
 have F:=PySem.F.excBase_ValueError;have st:=x.static (M:=model prog w) X;have ty:=x.AA (M:=model prog w) X;have mb:=x.madeBy (M:=model prog w) X;have hh:=x.here (M:=model prog w) X;have s1:=x.sub (M:=model prog w) X (.type "ValueError");rw[x.val]at s1;have s2:=x.sub (M:=model prog w) X (.type "AttributeError");rw[x.atr]at s2;have s3:=x.sub (M:=model prog w) X (.type "NameError");rw[x.nam]at s3;refine codeAny_call_builtin_code (Code.quiet_builtin _ F.quiet) ?_;have star:=F.noStar;simp only[checkBuiltinCall,F.newKind,F.newSplit,F.newRow]
 repeat (first|simp only[bne_self_eq_false,DM,if_false,Bool.not_true]|lk)
 refine codeAny_builtinAt F.entry ?_;unfold Builtin.«BaseException.__new__»;refine wpAt_bind ?_;show wpAt _ _ _ (stack >>= _) _ _ _;refine wpAt_bind (wpAt_stack λp below=>wpAt_of_wpAny ?_);have C3:=F.ends;wp_walk
 refine wpAt_of_wpAny ?_;rw[F.owner]
 repeat (first|simp only[bne_self_eq_false,DM,if_false,Bool.not_true]|lk)
 rw[if_neg (by rw[Dj];omega)];obtain⟨dd,k0,k1,k2,k3,k5,ho⟩:=x.ob
 repeat lk
 refine nd_load (C9 _ (C9 _ (X _ _ ho))) (wpAny_pure (wpAny_pure ?_));rw[x.del,if_neg Df];refine wpAny_pure (wpAny_pure ?_);show R _ _;rw[Ec];exact k
theorem so{f:Addr}(x:cX K C cd)(X:K.In h)(hi:findIn K (.ref C) "__init__" = some (some (.ref f)))(hf:typeIn K (.ref f)=some (.type "function"))(hv:vs.length≤sizeLine)
  (k:codeAny (model prog w) (A.under (.builtin "type.__call__" ⟨.ref C::vs,[]⟩)) (.call (.ref f) ⟨.ref (h.objs.size+1)::vs,[]⟩) (Back (h.objs.size+1) R) ⟨eZ h C vs,g,d,t,os⟩) :
  codeAny (model prog w) A (.call (.ref C) ⟨vs,[]⟩) R ⟨h,g,d,t,os⟩:=by
 obtain⟨dd,k0,k1,k2,k3,k5,ho⟩:=x.ob;have hC:=X _ _ ho;have ht:=x.typ (M:=model prog w) X;refine codeAny_of_tree ?_;show wpAny _ _ (callAny (.ref C) _) _ _ _;refine nd_load hC ?_;show wpAny _ _ (callAny.viaDunder (.ref C) _) _ _ _;unfold callAny.viaDunder;have sp:Looks (model prog w) h (specialOf (.ref C) "__call__") (some (.builtin "type.__call__")):=ht.andThen (Looks.of_pure tc_lookup);refine wpAny_bind (sp.at ?_);dsimp only;rw[tc_bind];refine wpAny_bind (wpAny_pure (wpAny_bind (wpAny_pure ?_)));refine wpAny_pure (a:=Fin.again (.call (.builtin "type.__call__") ⟨.ref C::vs,[]⟩)) (And.intro rfl ?_);refine codeAny_call_builtin_at (Code.quiet_builtin _ (by decide +kernel)) entry_typeCall (check_slot tc_kind tc_split (ht.andThen (Looks.of_pure tc_sub)) (tc_args _ _ _) ?_);unfold Builtin.«type.__call__»;have hm:=x.mro (M:=model prog w) X;have em:=x.iu;have mb:=x.madeBy (M:=model prog w) X
 repeat (first|simp only[em,DM,if_false]|with_reducible refine wpAny_call ?_|lk)
 refine sk x X hv ?_;have kp:∀ b o,h.get? b=some o→(eZ h C vs).get? b=some o:=λb o e=>C9 _ (C9 _ e);have X1:K.In (eZ h C vs):=X.keeps kp;have hx:(eZ h C vs).get? (h.objs.size+1)=some (pN C h.objs.size):=by heap_get
 have t1:Looks (model prog w) (eZ h C vs) (typeOf (.ref (h.objs.size+1))) (.ref C):=(Looks.ld hx).andThen .now;have s1:=x.sub (M:=model prog w) X1 (.ref C);obtain⟨r,hr⟩:=x.line;rw[show cd.mro.contains (.ref C)=true by rw[hr];simp]at s1;have i1:=looks_findIn (M:=model prog w) X1 hi;have b1:=bind_fn (M:=model prog w) X1 (.ref (h.objs.size+1)) hf;unfold isInstance callSpecial? specialOf
 repeat (first|with_reducible refine wpAny_call ?_|lk)
 refine codeAny_mono k λr s' z=>?_;rcases r with e|(v|_|_|_)<;>first|exact z|exact z.elim|skip;obtain⟨rfl,z⟩:=z;exact wpAny_pure (wpAny_pure z)
end
section
variable{prog:Program}{w:World}{A:Around}{E:Value→Shared→Prop}{h:Heap}{g:Array GenState}{d:Drawn}{t:Nat}{os:OsState}{K:Frag}{C e t0:Addr}{cd:ClassData}{vs:List Value}{od:Option Addr}{fs:Array Value}{sl:Array (Option Value)}
theorem jD{M:Model}(he:h.get? e=some (aV (.ref C) od fs sl)):Looks M h (typeOf (.ref e)) (.ref C):=(Looks.ld he).andThen .now
theorem mI{Q:Value→Shared→Prop}(x:cX K C cd)(X:K.In h)(he:h.get? e=some (aV (.ref C) od fs sl))(h0:fs[0]?=some (.ref t0))(hv:vs.length≤sizeLine)
  (k:Q .none ⟨(h.push (gR vs)).update e (Obj.mapFields (·.setIfInBounds 0 (.ref h.objs.size))),g,d,t,os⟩) :
  wpAny (model prog w) A (call (.builtin "ValueError.__init__") (.ref e::vs)) Q E ⟨h,g,d,t,os⟩:=by
 have F:=PySem.F.excBase_ValueError;have ty:=jD (M:=model prog w) he;have s1:=x.sub (M:=model prog w) X (.type "ValueError");rw[x.val]at s1;obtain⟨dd,k0,k1,k2,k3,k5,ho⟩:=x.ob;have hC:h.get? C=some ⟨.type "type",dd,.cls cd,#[k0,k1,k2,k3,some (.builtin "ValueError.__new__"),k5]⟩:=X _ _ ho;have star:=F.noStar;refine wpAny_call (codeAny_call_builtin F.init.plain F.initEntry ?_);simp only[checkBuiltinCall,F.initKind,F.initSplit,F.initRow];unfold isInstance Bind.checkArgs;refine wpAny_bind (wpAny_bind (ty.at (s1.at ?_)));simp only[DM,if_false,Bool.not_true];refine wpAny_bind (m:=Bind.printed "*" true _ _) ?_;unfold Bind.printed Bind.receiverType typeNameWhole;rw[if_neg (by decide)];dsimp only;rw[if_neg (by decide)];refine wpAny_bind (ty.at ?_);refine wpAny_bind (wpAny_bind ((looks_clsIn X x.cls).at (wpAny_pure (wpAny_pure ?_))));refine wpAny_bind (m:=if("ValueError" != "*")=true then pure "ValueError" else _) ?_;rw[if_pos star];refine wpAny_pure (wpAny_onRaise ?_);show wpAny _ _ (Bind.check _ _ _ _ []) _ _ _;rw[PyProof.Rows.check_varPos];refine wpAny_pure ?_;unfold Builtin.«BaseException.__init__»;dsimp only;rw[if_neg (by simp)];unfold newTuple Builtin.BaseException.bexcPut;have hsz:0<fs.size:=(Dv.mp h0).1;have e1:=C9 (h:=h) (gR vs) he;refine wpAny_bind (wpAny_newObj_type ?_ (by show vs.toArray.size≤sizeLine;rw[Dj];exact hv));refine wpAny_bind (wpAny_bind (wpAny_field (s:=⟨h.push (gR vs),g,d,t,os⟩) e1 rfl h0 ?_));refine wpAny_bind (wpAny_setField (s:=⟨h.push (gR vs),g,d,t,os⟩) e1 rfl hsz ?_);exact wpAny_letGo (wpAny_pure k)
end
section
variable{prog:Program}{w:World}{A:Around}{E:Value→Shared→Prop}{s:Shared}{K:Frag}
theorem uz:findCls K (.type "ValueError") (.type "type") "__init__" = some (.val (.builtin "ValueError.__init__")):=by kernel_rfl
theorem wV:findIn K (.type "type") "__getattribute__" = some (some (.builtin "type.__getattribute__")):=by kernel_rfl
theorem sX{M:Model}{h:Heap}:Looks M h (typeOf (.type "ValueError")) (.type "type"):=Looks.of_pure (by kernel_rfl)
theorem xQ:subIn K (.type "type") (.type "type")=some true:=by kernel_rfl
theorem xR{M:Model}{h:Heap}:Looks M h (opaqueClassAbove (.type "ValueError")) none:=Looks.of_pure (by kernel_rfl)
theorem uA{pl:Sem Bool}{Q:Value×List Value→Shared→Prop}(X:K.In s.heap)(k:Q (.builtin "ValueError.__init__",[]) {s with toks:=s.toks+1}) :
  wpAny (model prog w) A (getMethod (.type "ValueError") "__init__" pl) Q E s:=by
 have sp:Looks (model prog w) s.heap (specialOf (.type "ValueError") "__getattribute__") (some (.builtin "type.__getattribute__")):=sX.andThen (looks_findIn X wV);unfold getMethod;refine wpAny_bind (sp.here ?_);dsimp only;rw[if_pos canon_tga];refine wpAny_bind (cls_open (hook:=none) X xR sX wV (Looks.of_pure (by kernel_rfl)) xQ uz ?_);refine wpAny_pure ?_;show wpAny _ _ (handedOut _) _ _ _;rw[handedOut_of (by kernel_rfl)];exact wpAny_pure (wpAny_pure k)
end
section
variable{prog:Program}{w:World}{A:Around}{E:Value→Shared→Prop}{s:Shared}{K:Frag}{env:Env}
def qV(K:Frag)(E:Value→Shared→Prop)(v:Value)(s1:Shared):Prop :=
 ∃(ea C:Addr) (cd:ClassData) (od:Option Addr) (fs:Array Value) (sl:Array (Option Value)),v=.ref ea∧s1.heap.get? ea=some (aV (.ref C) od fs sl)∧fs[1]?=some .none∧cX K C cd∧K.In s1.heap∧E (.ref ea) s1
theorem qW{e:Expr}{pos:Pos}{Q:Flow→Shared→Prop}(hh:A.handled=none)(k:wpAny (model prog w) A (eval e env) (qV K E) E s) :
  wpAny (model prog w) A (exec (.Raise (some e) none pos) env) Q E s:=by
 show wpAny (model prog w) A (do standAt pos;raiseStmt env (some (do let v ←eval e env;standAt pos;pure v)) none) Q E s
 refine wpAny_bind (wpAny_standAt ?_);unfold raiseStmt;dsimp only;refine wpAny_bind (wpAny_bind (wpAny_mono k (λv s1 q=>wpAny_bind (wpAny_standAt (wpAny_pure ?_))) λ_ _ z=>z));obtain⟨ea,C,cd,od,fs,sl,rfl,he,h1,x,X,hE⟩:=q;obtain⟨hp,g,d,tk,os⟩:=s1;have ty:=jD (M:=model prog w) he;have nt:Looks (model prog w) hp (isType (.ref ea)) false:=by
  intro A' Q' E' s' kk q;unfold isType loadHead;exact wpAny_bind (wpAny_loadPart (kk _ _ he) (wpAny_pure q))
 have sb:=x.sub (M:=model prog w) X (.type "BaseException");rw[x.bas]at sb;have ct:=x.typ (M:=model prog w) X;have f1:Looks (model prog w) hp (field (.ref ea) 1) .none:=looks_field he 1 h1;refine wpAny_bind (wpAny_pure ?_);dsimp only;refine wpAny_bind (wpAny_holding ?_);unfold excFromValue isExcClass isInstance
 repeat (first|simp only[DM,if_false,if_true]|lk)
 show wpAny _ _ handled _ _ _;refine wpAny_handled ?_;rw[hh];exact wpAny_throw hE
theorem mJ{ea C D:Addr}{cd cd':ClassData}{od:Option Addr}{fs:Array Value}{sl:Array (Option Value)}{h:Heap}{g:Array GenState}{d:Drawn}{t:Nat}{os:OsState}{Q:Bool→Shared→Prop}{M:Model}(x:cX K C cd)(y:cX K D cd')(X:K.In h)
  (he:h.get? ea=some (aV (.ref C) od fs sl)) (q:Q (cd.mro.contains (.ref D)) ⟨h,g,d,t,os⟩):wpAny M A (excMatches (.ref ea) (.ref D)) Q E ⟨h,g,d,t,os⟩:=by
 have ty:=jD (M:=M) he;have td:=y.typ (M:=M) X;have ti:=y.AA (M:=M) X;have tn:Looks M h (isSubtype (.type "type") (.type "tuple")) false:=Looks.of_pure tc_notTuple;have yb:=y.sub (M:=M) X (.type "BaseException");rw[y.bas]at yb;have xs:=x.sub (M:=M) X (.ref D);unfold excMatches isInstance isExcClass
 repeat (first|simp only[DM,if_false,if_true,Bool.not_true]|lk)
 cases hb:cd.mro.contains (.ref D) with
 | true =>
  rw[hb]at q;simp only[if_true]
  repeat lk
  exact q
 | false =>
  rw[hb]at q;simp only[DM,if_false]
  repeat lk
  exact q
theorem qX{ea C:Addr}{fs:Array Value}{sl:Array (Option Value)}{h:Heap}(he:h.get? ea=some (aV (.ref C) none fs sl)):InstAt h ea (aV (.ref C) none fs sl) C none:=⟨he,rfl,rfl,True.intro⟩
theorem qY{ea C dx:Addr}{o:Obj}{fs:Array Value}{sl:Array (Option Value)}{h:Heap}(he:h.get? ea=some (aV (.ref C) (some dx) fs sl))(hd:h.get? dx=some o):InstAt h ea (aV (.ref C) (some dx) fs sl) C (some o):=⟨he,rfl,rfl,hd⟩
end
structure uB(K:Frag)(C:Addr):Prop where
 ga:findIn K (.ref C) "__getattribute__" = some (some (.builtin "BaseException.__getattribute__"))
 gt:findIn K (.ref C) "__getattr__" = some none
section
variable{prog:Program}{w:World}{A:Around}{E:Value→Shared→Prop}{h:Heap}{g:Array GenState}{d:Drawn}{t:Nat}{os:OsState}{K:Frag}{C ea:Addr}{cd:ClassData}{ox:Obj}{od:Option Obj}{name:Str}
theorem qZ{tk:Tok}{fill expr:Bool}{r:Builtin.ObjectAttr.Found}{Q:Value→Shared→Prop}(x:cX K C cd)(G:uB K C)(X:K.In h)(I:InstAt h ea ox C od)(hf:findObj K C od name=some r)
  (k:match r with
   | .value v=>handedIn v=true∧Q v ⟨h,g,d,t,os⟩
   | .bind gg a=>wpAny (model prog w) A.in1 (call gg [a,.ref ea,.ref C]) (λv s'=>handedIn v=true∧Q v s') (λ_ _=>False) ⟨h,g,d,t,os⟩
   | .missing=>False) :
  wpAny (model prog w) A (getAttrBy (.ref ea) (.str name tk) fill expr) Q E ⟨h,g,d,t,os⟩:=by
 have ty:=I.type (M:=model prog w);have l1:=looks_findIn (M:=model prog w) X G.ga;have l2:=looks_findIn (M:=model prog w) X G.gt;have l3:=looks_find (M:=model prog w) X I hf;have sb:=x.sub (M:=model prog w) X (.type "BaseException");rw[x.bas]at sb;have S:=PySem.F.excAttr_ValueError.ga;unfold getAttrBy;refine wpAny_holding (wpAny_bind (ty.at (wpAny_bind (l1.at ?_))));dsimp only;rw[show(onTheHeap (Value.ref C)&&Value.builtin "BaseException.__getattribute__" == Value.builtin "object.__getattribute__")=false by rw[show(Value.builtin "BaseException.__getattribute__" == Value.builtin "object.__getattribute__")=false by decide +kernel,Ed],if_neg Df];unfold getAttrByItsOwn;have hb:Looks (model prog w) h (hookBefore (.ref C)) none:=looks_hook X (by rw[if_pos (by rfl)];exact G.gt);refine wpAny_bind (hb.at (wpAny_bind (wpAny_attempt (wpAny_holding ?_))));unfold callGetattribute;rw[show(expr&&onTheHeap (Value.builtin "BaseException.__getattribute__"))=false from Ed _,if_neg Df];unfold boundAndCalled;rw[S.bind];refine wpAny_bind (wpAny_pure ?_);show wpAny _ _ (call (.builtin "BaseException.__getattribute__") [.ref ea,.str name tk]) _ _ _;refine wpAny_call (codeAny_call_builtin S.plain PySem.F.entry_bexc_ga ?_);refine @check_slot (model prog w) _ _ ⟨h,g,d,t,os⟩ "BaseException.__getattribute__" "BaseException" "__getattribute__" (.ref ea) [.str name tk] [] _ (by decide +kernel) (by decide +kernel) (ty.andThen sb) (PySem.F.args_bexc_ga (.ref ea) (.str name tk)) ?_;unfold Builtin.«object.__getattribute__»;refine wpAny_bind (wpAny_pure (wpAny_bind (wpAny_pure (wpAny_bind (ty.at (wpAny_bind (l3.at ?_)))))));cases r with
 | value v =>
  refine wpAny_pure ?_;show wpAny _ _ (handedOut v) _ _ _;rw[handedOut_of k.1];exact wpAny_pure k.2
 | bind gg a =>
  refine wpAny_bind (wpAny_holding (wpAny_mono k (λv s' z=>wpAny_pure ?_) λ_ _ z=>z.elim));show wpAny _ _ (handedOut v) _ _ _;rw[handedOut_of z.1];exact wpAny_pure z.2
 | missing=>exact k.elim
theorem q9{Q:Option Value→Shared→Prop}(x:cX K C cd)(G:uB K C)(X:K.In h)(I:InstAt h ea ox C od)(hc:findIn K (.ref C) "__class__" = some (some (.builtin "object.__class__")))
  (k:Q (some (.ref C)) ⟨h,g,d,t+1,os⟩):wpAny (model prog w) A (getAttr? (.ref ea) "__class__") Q E ⟨h,g,d,t,os⟩:=by
 have hn:specialIn K (.builtin "object.__class__") "__get__" = some (some (.builtin "getset_descriptor.__get__")):=by kernel_rfl
 have ht:takesIn K (.builtin "object.__class__")=some true:=by kernel_rfl
 have hf:findObj K C od "__class__" = some (.bind (.builtin "getset_descriptor.__get__") (.builtin "object.__class__")):=by
  unfold findObj;rw[x.cls,D8,hc,D8];dsimp only;rw[hn,D8];dsimp only;rw[ht];rfl
 have mo:mroIn K C (.type "object")=some true:=by
  unfold mroIn;rw[x.cls,D8,if_neg (by rw[x.iu];decide),x.obj]
 unfold getAttr? getAttrBy?;refine wpAny_bind (wpAny_mkText (wpAny_bind (wpAny_attempt ?_)));refine qZ (t:=t+1) x G X I hf ?_;refine wpAny_call ?_;refine class_get (s:=⟨h,g,d,t+1,os⟩) (ox:=ox) (od:=od) X I mo ⟨rfl,?_⟩;exact wpAny_pure k
theorem uC(x:cX K C cd)(G:uB K C)(hc:findIn K (.ref C) "__class__" = some (some (.builtin "object.__class__"))):KitX K (.ref ea) (.ref C) (λh=>∃ ox od,InstAt h ea ox C od) where
 ty:=λ_ _ _ ⟨_,_,I⟩=>I.type
 it:=λ_ _ X _=>x.AA X
 ne:=λh tp dd its n sl X htp=>by
  obtain⟨d2,k0,k1,k2,k3,k5,e⟩:=x.ob;refine Bool.eq_false_iff.mpr λq=>?_;have e2:C=tp:=Value.ref.inj (beq_iff_eq.mp q);subst e2;have z:=congrArg (λo:Option Obj=>o.map (·.data)) ((X _ _ e).symm.trans htp);simp[sW]at z
 ca:=λ{_ _ _ _ _ s} X ⟨_,_,I⟩ k=>by
  obtain⟨hh,gg,dd,tt,oo⟩:=s;exact q9 x G X I hc k
end
section
variable{prog:Program}{w:World}{A:Around}{E:Value→Shared→Prop}{h:Heap}{g:Array GenState}{d:Drawn}{t:Nat}{os:OsState}{K:Frag}{C CH ea:Addr}{cd:ClassData}{fs:Array Value}{sl:Array (Option Value)}{name:Str}{v:Value}
end
end LX
end
section
namespace LX
open PySem
structure Kept(fr xs:List Addr)(h k:Heap):Prop where
 plain:∀ b o,h.get? b=some o→b∉fr→b∉xs→k.get? b=some o
 frame:∀ b o,h.get? b=some o→b∈fr→b∉xs→∃ sl,k.get? b=some {o with slots:=sl}
theorem Kept.trans{fr xs ys:List Addr}{h k m:Heap}(x:Kept fr xs h k)(y:Kept fr ys k m):Kept fr (xs++ys) h m where
 plain:=λb o e hb hx=>y.plain b o (x.plain b o e hb λz=>hx (DO _ z)) hb λz=>hx (Di _ z)
 frame:=λb o e hb hx=>by
  obtain⟨sl,e1⟩:=x.frame b o e hb λz=>hx (DO _ z);obtain⟨sm,e2⟩:=y.frame b _ e1 hb λz=>hx (Di _ z);exact⟨sm,e2⟩
theorem Kept.weak{fr xs ys:List Addr}{h k:Heap}(x:Kept fr xs h k)(s:∀ b o,h.get? b=some o→b∈xs→b∈ys):Kept fr ys h k :=
 ⟨λb o e hb hy=>x.plain b o e hb λz=>hy (s b o e z),λb o e hb hy=>x.frame b o e hb λz=>hy (s b o e z)⟩
abbrev bG(l:List Env):List Addr:=l.filterMap (·.frame)
section
variable{M:Model}{A:Around}{E:Value→Shared→Prop}{s:Shared}{base:Heap}{env:Env}{outer:List Env}{L e:Addr}{c:Value}{od:Option Addr}{fs:Array Value}{sl:Array (Option Value)}
theorem nF{l:List Env}(F:s.heap.FunFrames base l)(he:s.heap.get? e=some (aV c od fs sl)):e∉bG l:=λz=>by
 obtain⟨_,o,ho,hn⟩:=F.mem z;rw[he]at ho;cases ho;exact hn fs rfl
theorem iC{h:Heap}{a:Addr}{i:Nat}{x:Value}(ha:h.get? a=some (aV c od fs sl)) :
  (h.update a (Obj.mapFields (·.setIfInBounds i x))).get? a=some (aV c od (fs.setIfInBounds i x) sl):=Heap.get?_update_self _ ha rfl
theorem jm{head:Value}{had:Bool}{Q:Unit→Shared→Prop}(hA:A.frames=some (env::outer))(F:s.heap.FunFrames base (env::outer))(hL:env.frame=some L)
  (he:s.heap.get? e=some (aV c od fs sl)) (h1:1<fs.size)
  (k:∀ m T oc ts,s.heap.objs.size≤T→Kept (bG (env::outer)) [e] s.heap m→m.get? e=some (aV c od (fs.setIfInBounds 1 (.ref T)) sl)→m.get? T=some (aV oc none ts #[])→ts[3]?=some (rawInt L)→Q () {s with heap:=m}) :
  wpAny M A (do let a ←frameOf env;let pl ←entryPlaceOf L had;let b ←EntryCells.newEntry head a .none (rawInt L) .none pl;setField (.ref e) 1 b) Q E s:=by
 have ne:=nF F he;refine wpAny_bind (wpAny_frameOf_fun hA F hL λg hg=>?_);obtain⟨g0,g1,g2⟩:=hg;refine wpAny_bind (wpAny_entryPlaceOf λpl hp=>?_);unfold EntryCells.newEntry newFields;refine wpAny_bind (wpAny_newObj_type ?_ (hp.sizeOk5 _ _ _ _ _));have e1:g.get? e=some (aV c od fs sl):=(g1 e ne).trans he;have e2:=C9 (h:=g) {cls:=.type "traceback",dict:=none,data:=.fields ([head,.ref L,.none,rawInt L,.none]++(if pl.isEmpty then List.replicate 6 Value.none else pl)).toArray} e1;refine wpAny_setField e2 rfl h1 ?_;have Te:g.objs.size≠e:=Ei (Dh e1);refine k _ g.objs.size (.type "traceback") ([head,.ref L,.none,rawInt L,.none]++(if pl.isEmpty then List.replicate 6 Value.none else pl)).toArray (Nat.le_of_eq g0.symm) ⟨λb o q hb hx=>?_,λb o q hb hx=>?_⟩ (iC e2) ?_ ?_
 ·have be:b≠e:=λz=>hx (by rw[z];exact De.mpr rfl)
  rw[DF _ _ (DH be)];exact C9 _ ((g1 b hb).trans q)
 ·have be:b≠e:=λz=>hx (by rw[z];exact De.mpr rfl)
  obtain⟨sm,q2⟩:=g2 b o q;refine⟨sm,?_⟩;rw[DF _ _ (DH be)];exact C9 _ q2
 ·rw[DF _ _ (DH Te)]
  exact DB g rfl
 ·first|(simp;done)|(rcases hp with rfl|⟨_,_,_,_,_,_,_,rfl⟩<;>simp)
inductive gF(h:Heap)(e:Addr)(fs:Array Value):Option Addr→Prop where
 | none (h1:fs[1]?=some .none):gF h e fs none
 | some {T:Addr} {oc:Value} {ts:Array Value} {d:Option Addr} {sl:Array (Option Value)} (h1:fs[1]?=some (.ref T)) (ne:T≠e) (hT:h.get? T=some (aV oc d ts sl)) (h3:ts[3]?=some .none):gF h e fs (some T)
theorem gF.size{h:Heap}{fs:Array Value}{T:Option Addr}(t:gF h e fs T):1<fs.size:=by
 cases t with
 | none h1=>exact(Dv.mp h1).1
 | some h1=>exact(Dv.mp h1).1
theorem lR{T0:Option Addr}{Q:Unit→Shared→Prop}(hA:A.frames=some (env::outer))(F:s.heap.FunFrames base (env::outer))(hL:env.frame=some L)(he:s.heap.get? e=some (aV c od fs sl))(t:gF s.heap e fs T0)
  (k:∀ m T oc ts,s.heap.objs.size≤T→Kept (bG (env::outer)) (e::T0.toList) s.heap m→m.get? e=some (aV c od (fs.setIfInBounds 1 (.ref T)) sl)→m.get? T=some (aV oc none ts #[])→ts[3]?=some (rawInt L)→Q () {s with heap:=m}) :
  wpAny M A (noteFrame (.ref e) env) Q E s:=by
 unfold noteFrame;simp only[hL];have h1s:=t.size;cases t with
 | none h1 =>
  refine wpAny_bind (wpAny_field he rfl h1 ?_);rw[if_neg (by decide)];exact jm hA F hL he h1s k
 | @some T oc ts d sm h1 ne hT h3 =>
  refine wpAny_bind (wpAny_field he rfl h1 ?_);rw[if_pos (show(Value.ref T != Value.none)=true by simp)];refine wpAny_bind (wpAny_field hT rfl h3 ?_);rw[if_neg (show ¬((Value.none == rawInt L)=true) by simp[rawInt])];have h3s:3<ts.size:=(Dv.mp h3).1;refine wpAny_bind (wpAny_setField hT rfl h3s ?_);have oth:∀ b,b≠T→(s.heap.update T (Obj.mapFields (·.setIfInBounds 3 Value.none))).get? b=s.heap.get? b:=λb hb=>DF _ _ (DH hb);have nT:=nF F hT;have F1:(s.heap.update T (Obj.mapFields (·.setIfInBounds 3 Value.none))).FunFrames base (env::outer):=F.of_keeps λb o hb hn=>⟨o,(oth b λz=>by rw[z,hT]at hb;cases hb;exact hn ts rfl).trans hb,rfl⟩;refine jm (s:={s with heap:=s.heap.update T (Obj.mapFields (·.setIfInBounds 3 Value.none))}) hA F1 hL ((oth e (DH ne)).trans he) h1s λm T' oc' ts' z1 z2 z3 z4 z5=>k m T' oc' ts' ?_ ?_ z3 z4 z5
  ·have zz:(s.heap.update T (Obj.mapFields (·.setIfInBounds 3 Value.none))).objs.size=s.heap.objs.size:=(Heap.SameBut.update (h:=s.heap) (a:=T) (f:=Obj.mapFields (·.setIfInBounds 3 Value.none))).1
   rw[←zz];exact z1
  ·have kk:Kept (bG (env::outer)) [T] s.heap (s.heap.update T (Obj.mapFields (·.setIfInBounds 3 Value.none))) :=
    ⟨λb o q _ hx=>(oth b λz=>hx (by rw[z];exact De.mpr rfl)).trans q,λb o q _ hx=>⟨o.slots,(oth b λz=>hx (by rw[z];exact De.mpr rfl)).trans q⟩⟩
   refine(kk.trans z2).weak λb o _ q=>?_;simp only[Dz,De]at q;simp only[Option.toList_some,Ds,D9,or_false];exact q.symm
theorem fD{T:Addr}{oc:Value}{ts:Array Value}{d:Option Addr}{sm:Array (Option Value)}{Q:Unit→Shared→Prop}(he:s.heap.get? e=some (aV c od fs sl))(h1:fs[1]?=some (.ref T))(ne:T≠e)
  (hT:s.heap.get? T=some (aV oc d ts sm)) (h3:3<ts.size)
  (k:∀ m,(∀ b o,b≠T→s.heap.get? b=some o→m.get? b=some o)→gF m e fs (some T)→m.get? e=some (aV c od fs sl)→Q () {s with heap:=m}):wpAny M A (setFlight (.ref e) none) Q E s:=by
 unfold setFlight;refine wpAny_bind (wpAny_field he rfl h1 ?_);rw[if_pos (show(Value.ref T != Value.none)=true by simp)];have oth:∀ b o,b≠T→s.heap.get? b=some o→(s.heap.update T (Obj.mapFields (·.setIfInBounds 3 Value.none))).get? b=some o:=λb o hb q=>(DF _ _ (DH hb)).trans q;exact wpAny_setField hT rfl h3 (k _ oth (.some h1 ne (iC hT) (by simp[h3])) (oth e _ (DH ne) he))
theorem pO{T0:Option Addr}{Q:Unit→Shared→Prop}(hA:A.frames=some (env::outer))(F:s.heap.FunFrames base (env::outer))(hL:env.frame=some L)(he:s.heap.get? e=some (aV c od fs sl))(t:gF s.heap e fs T0)
  (k:∀ m T fs',s.heap.objs.size≤T→Kept (bG (env::outer)) (e::T0.toList) s.heap m→m.get? e=some (aV c od fs' sl)→fs'[0]?=fs[0]?→gF m e fs' (some T)→Q () {s with heap:=m}) :
  wpAny M A (leaving env (.ref e)) Q E s:=by
 unfold leaving;refine wpAny_bind (lR hA F hL he t λm T oc ts z1 z2 z3 z4 z5=>?_);have Te:T≠e:=Ei (Dm (Dh he) z1);have f1:(fs.setIfInBounds 1 (Value.ref T))[1]?=some (.ref T):=by
  have:=t.size
  simp[this]
 refine fD (s:={s with heap:=m}) z3 f1 Te z4 (Dv.mp z5).1 λm' q1 q2 q3=>k m' T _ z1 ⟨λb o q hb hx=>?_,λb o q hb hx=>?_⟩ q3 (by simp) q2
 ·exact q1 b o (Dq (Dm (Dh q) z1)) (z2.plain b o q hb hx)
 ·obtain⟨sm,r⟩:=z2.frame b o q hb hx
  exact⟨sm,q1 b _ (Dq (Dm (Dh q) z1)) r⟩
end
end LX
end
section
namespace L2
open PySem PySem.Spec PyProof.Rows LX
def ExP(fresh:Bool)(C e:Addr)(od:Option Addr)(h:Heap):Prop:=∃ fs sl t0,h.get? e=some (aV (.ref C) od fs sl)∧fs[0]?=some (.ref t0)∧(fresh=true→fs[1]?=some .none)
def exo(fresh:Bool)(C e:Addr)(od:Option Addr):HO:=.ext (ExP fresh C e od)
section
variable{P:Program}{w:World}{H:Hp}{h:Heap}{b:Bool}{C e:Addr}{od:Option Addr}
theorem pP(x:ExP b C e od h):bV P w H h e (exo b C e od):=by
 refine⟨x,?_,λh1 h2 p k=>?_⟩
 ·obtain⟨fs,sl,t0,z,_⟩:=x
  exact⟨_,z⟩
 ·obtain⟨fs,sl,t0,z,r⟩:=p
  exact⟨fs,sl,t0,k _ z,r⟩
theorem jn(ok:HOk P w H h)(z:H e=some (exo b C e od)):ExP b C e od h:=(show bV P w H h e (exo b C e od) from ok e _ z).1
end
def del(H:Hp)(a:Addr):Hp:=λb=>if b=a then none else H b
theorem nG{H:Hp}{a:Addr}:del H a a=none:=by unfold del;rw[if_pos rfl]
theorem gS{H:Hp}{a b:Addr}(h:b≠a):del H a b=H b:=by unfold del;rw[if_neg h]
theorem nI{H:Hp}{a b:Addr}{o:HO}(h:del H a b=some o):H b=some o∧b≠a:=by
 unfold del at h;by_cases q:b=a
 ·rw[if_pos q]at h;cases h
 ·rw[if_neg q]at h;exact⟨h,q⟩
section
variable{P:Program}{w:World}{H H':Hp}{h h':Heap}{a:Addr}
theorem HOk.keeps(ok:HOk P w H h)(k:∀ b u o,H b=some u→h.get? b=some o→h'.get? b=some o):HOk P w H h':=λb u q =>
 (ok b u q).n6 (λc v hc r=>by
  rcases hc with rfl|hc
  ·exact k c u v q r
  ·exact k c _ v hc r) (λ_ z=>z) λ_ _ z=>z
theorem HOk.del(ok:HOk P w H h)(ha:∀ y,H a≠some (.own y))(hb:∀ xs,H a≠some (.tup xs)):HOk P w (del H a) h:=λb u q=>by
 obtain⟨q1,q2⟩:=nI q;refine(ok b u q1).n6 (λ_ _ _ r=>r) (λc z=>?_) λc xs z=>?_
 ·rw[gS λe=>ha b (by rw[←e];exact z)];exact z
 ·rw[gS λe=>hb xs (by rw[←e];exact z)];exact z
theorem HOk.add(ok:HOk P w H h){o:HO}(ha:H a=none)(new:bV P w (upd H a o) h a o):HOk P w (upd H a o) h:=λb u q=>by
 by_cases e:b=a
 ·subst e
  rw[af]at q;cases q;exact new
 ·rw[ak e]at q
  refine(ok b u q).n6 (λ_ _ _ r=>r) (λc z=>?_) λc xs z=>?_
  ·rw[ak λe=>by rw[e,ha]at z;cases z];exact z
  ·rw[ak λe=>by rw[e,ha]at z;cases z];exact z
end
theorem f7{h k base:Heap}:∀ {l:List Env},h.FunFrames base l→(∀ b∈frs l,∀ o,h.get? b=some o→∃ sl,k.get? b=some {o with slots:=sl})→k.FunFrames base l
 | [],_,_=>True.intro
 | env::r,⟨h1,⟨L,o,e1,e2,e3,e4⟩,h2⟩,q=>by
  have hm:L∈frs (env::r):=DV.mpr ⟨env,DA,e1⟩;obtain⟨sl,z⟩:=q L hm o e3;refine⟨h1,⟨L,_,e1,e2,z,e4⟩,f7 h2 λb hb o' z'=>q b ?_ o' z'⟩;obtain⟨x,hx,hy⟩:=DV.mp hb;exact DV.mpr ⟨x,Dt _ hx,hy⟩
structure Lies(P:Program)(w:World)(outer:List Env)(H H':Hp)(s:Shared)(ea C T:Addr)(od:Option Addr)(fs:Array Value)(sl:Array (Option Value))(s':Shared):Prop where
 os:s'.os=s.os
 bare:AllBare s'.gens
 un:Un (frs outer) [] H H' s.heap s'.heap
 hok:HOk P w H' s'.heap
 uD:s.heap.get? ea=none
 CN:s.heap.get? T=none
 ow:H' ea=none
 A5:H' T=none
 at_:s'.heap.get? ea=some (aV (.ref C) od fs sl)
 args:∃ t0,fs[0]?=some (.ref t0)
 trail:gF s'.heap ea fs (some T)
def CXE(P:Program)(w:World):CXT:=λouter H s E e s'=>∃ ea C T od fs sl H',e=.ref ea∧Lies P w outer H H' s ea C T od fs sl s'∧E (.ref C) od H'
section
variable{X:Cx}{pins:List (Addr×Obj)}{σ:St}{H H':Hp}{s s':Shared}{ea C T:Addr}{od:Option Addr}{fs:Array Value}{sl:Array (Option Value)}
theorem Lies.frames(I:Inv X pins σ H s)(l:Lies X.prog X.w X.stack H H' s ea C T od fs sl s'):s'.heap.FunFrames X.base X.stack :=
 f7 I.stack λb hb o z=>l.un.any z (I.gN b hb) (by simp)
theorem Lies.on{m:Heap}{t':Nat}(I:Inv X pins σ H s)(l:Lies X.prog X.w X.stack H H' s ea C T od fs sl s')(k:Kept (bG X.stack) [ea,T] s'.heap m) :
  Un (frs X.stack) [] H H' s.heap m∧HOk X.prog X.w H' m:=by
 have fr:∀ b,b∈frs X.stack→H' b=none:=λb hb=>by
  obtain⟨_,o,z,_⟩:=I.stack.mem hb;exact l.un.free b o z (I.gN b hb) (by simp)
 have ne:∀ b o,s.heap.get? b=some o→b∉[ea,T]:=λb o z q=>by
  rcases Ds.mp q with e|q
  ·rw[e,l.uD]at z;cases z
  ·rw[De.mp q,l.CN]at z;cases z
 refine⟨⟨λb o z n hb hx=>?_,λb o z n hb hx=>?_,l.un.free,λb o z hx=>?_,l.un.ki,l.un.jH,l.un.kj⟩,?_⟩
 ·exact k.plain b o (l.un.keep b o z n hb hx) hb (ne b o z)
 ·obtain⟨s1,z1⟩:=l.un.slot b o z n hb hx
  obtain⟨s2,z2⟩:=k.frame b _ z1 hb (ne b o z);exact⟨s2,z2⟩
 ·obtain⟨o1,z1⟩:=l.un.there b o z hx
  by_cases hb:b∈bG X.stack
  ·obtain⟨s2,z2⟩:=k.frame b _ z1 hb (ne b o z)
   exact⟨_,z2⟩
  ·exact⟨_,k.plain b _ z1 hb (ne b o z)⟩
 ·refine l.hok.keeps λb u o z q=>k.plain b o q (λhb=>?_) λhx=>?_
  ·rw[fr b hb]at z;cases z
  ·rcases Ds.mp hx with e|hx
   ·rw[e,l.ow]at z;cases z
   ·rw[De.mp hx,l.A5]at z;cases z
end
section
variable{P:Program}{w:World}{K:W.Frag}{mg:Str→Option Value}{base:Heap}{N:List Str}{qual:Str}{scope:Scope}{f:Addr}{cdv:Value}{A:Around}{outer:List Env}{s₀:Shared}{H₀:Hp}{E₀:XK}
abbrev cxE(P:Program)(w:World)(K:W.Frag)(mg:Str→Option Value)(base:Heap)(N:List Str)(qual:Str)(scope:Scope)(f:Addr)(cdv:Value)(A:Around)(outer:List Env)(s₀:Shared)(H₀:Hp)(E₀:XK):Cx :=
 sT (CXE P w) P w K mg base N qual scope f cdv A outer s₀ H₀ E₀
theorem oy{pins:List (Addr×Obj)}{σ:St}{H H':Hp}{s s':Shared}{ea C T:Addr}{od:Option Addr}{fs:Array Value}{sl:Array (Option Value)}(I:Inv (cxE P w K mg base N qual scope f cdv A outer s₀ H₀ E₀) pins σ H s)
  (l:Lies P w (cxE P w K mg base N qual scope f cdv A outer s₀ H₀ E₀).stack H H' s ea C T od fs sl s') (hE:E₀ (.ref C) od H'):(cxE P w K mg base N qual scope f cdv A outer s₀ H₀ E₀).xe (.ref ea) s':=by
 refine pO I.ok.frames (Lies.frames I l) rfl l.at_ l.trail λm T' fs' z1 z2 z3 z4 z5=>?_;obtain⟨un,hok⟩:=l.on (t':=s'.toks) I z2;have J:Inv (cxE P w K mg base N qual scope f cdv A outer s₀ H₀ E₀) pins σ H' {s' with heap:=m}:=I.lY l.os un hok l.bare (λb z=>absurd z (by simp));have old:∀ b o,s₀.heap.get? b=some o→∃ o',s.heap.get? b=some o':=λb o z=>I.base.there b o z (D9);have e0:s₀.heap.get? ea=none:=by
  cases q:s₀.heap.get? ea with
  | none=>rfl
  | some o =>
   obtain⟨o',z⟩:=old ea o q;rw[l.uD]at z;cases z
 have t0:s₀.heap.get? T'=none:=by
  cases q:s₀.heap.get? T' with
  | none=>rfl
  | some o =>
   obtain⟨o1,y1⟩:=old T' o q;obtain⟨o2,y2⟩:=l.un.there T' o1 y1 (by simp);exact absurd (Dh y2) (Nat.not_lt.mpr z1)
 obtain⟨a0,ha⟩:=l.args;exact⟨ea,C,T',od,fs',sl,H',rfl,⟨J.os,J.bare,J.base,J.hok,e0,t0,l.ow,l.hok.fresh z1,z3,⟨a0,by rw[z4];exact ha⟩,z5⟩,hE⟩
theorem fS{E:XK}(hE:∀ c od H',E c od H'→E₀ c od H'):Passes (CXE P w) (cxE P w K mg base N qual scope f cdv A outer s₀ H₀ E₀) E:=λpins σ H s e s' I h=>by
 obtain⟨ea,C,T,od,fs,sl,H',rfl,l,q⟩:=h;exact oy I l (hE _ _ _ q)
theorem leave_new{pins:List (Addr×Obj)}{σ:St}{H:Hp}{s:Shared}{ea C:Addr}{od:Option Addr}(I:Inv (cxE P w K mg base N qual scope f cdv A outer s₀ H₀ E₀) pins σ H s)(h1:H ea=some (exo true C ea od))(h0:H₀ ea=none)
  (hE:E₀ (.ref C) od (del H ea)):(cxE P w K mg base N qual scope f cdv A outer s₀ H₀ E₀).xe (.ref ea) s:=by
 obtain⟨fs,sl,a0,z,ha,hf⟩:=jn I.hok h1;have frz:∀ b,b∈frs (cxE P w K mg base N qual scope f cdv A outer s₀ H₀ E₀).stack→H b=none:=I.gN;have e0:s₀.heap.get? ea=none:=by
  cases q:s₀.heap.get? ea with
  | none=>rfl
  | some o =>
   have:=I.base.free ea o q h0 D9
   rw[h1]at this;cases this
 refine pO I.ok.frames I.stack rfl z (.none (hf rfl)) λm T' fs' z1 z2 z3 z4 z5=>?_;have hd:HOk P w (del H ea) s.heap:=I.hok.del (λy q=>by rw[h1]at q;cases q) λxs q=>by rw[h1]at q;cases q
 have hm:HOk P w (del H ea) m:=hd.keeps λb u o q r=>by
  obtain⟨q1,q2⟩:=nI q;exact z2.plain b o r (λhb=>by rw[frz b hb]at q1;cases q1) (by simpa using q2)
 have neE:∀ b o,s₀.heap.get? b=some o→b≠ea:=λb o q r=>by rw[r,e0]at q;cases q
 have t0:s₀.heap.get? T'=none:=by
  cases q:s₀.heap.get? T' with
  | none=>rfl
  | some o =>
   obtain⟨o2,y2⟩:=I.base.there T' o q D9;exact absurd (Dh y2) (Nat.not_lt.mpr z1)
 have neL:∀ b o,s₀.heap.get? b=some o→b∈bG (cxE P w K mg base N qual scope f cdv A outer s₀ H₀ E₀).stack→b∈frs outer:=λb o q hb=>by
  rcases Ds.mp (I.gM b hb) with r|r
  ·exact absurd (Dh q) (by rw[r];exact Nat.not_lt.mpr I.ok.above)
  ·exact r
 have sub:∀ b,b∈frs outer→b∈bG (cxE P w K mg base N qual scope f cdv A outer s₀ H₀ E₀).stack:=λb hb=>by
  obtain⟨x,hx,hy⟩:=DV.mp hb;exact DV.mpr ⟨x,Dt _ hx,hy⟩
 refine⟨ea,C,T',od,fs',sl,del H ea,rfl,⟨I.os,I.bare,⟨λb o q n hb hx=>?_,λb o q n hb hx=>?_,λb o q n hx=>?_,λb o q hx=>?_,λb xs q=>?_,λb o u q=>?_,λb ps q=>?_⟩,hm,e0,t0,nG,?_,z3,⟨a0,by rw[z4];exact ha⟩,z5⟩,hE⟩
 ·exact z2.plain b o (I.base.keep b o q n hb hx) (λz=>hb (neL b o q z)) (by simpa using neE b o q)
 ·obtain⟨s1,y1⟩:=I.base.slot b o q n hb hx
  obtain⟨s2,y2⟩:=z2.frame b _ y1 (sub b hb) (by simpa using neE b o q);exact⟨s2,y2⟩
 ·rw[gS (neE b o q)]
  exact I.base.free b o q n hx
 ·obtain⟨o1,y1⟩:=I.base.there b o q hx
  by_cases hb:b∈bG (cxE P w K mg base N qual scope f cdv A outer s₀ H₀ E₀).stack
  ·obtain⟨s2,y2⟩:=z2.frame b _ y1 hb (by simpa using neE b o q)
   exact⟨_,y2⟩
  ·exact⟨_,z2.plain b _ y1 hb (by simpa using neE b o q)⟩
 ·have r:=I.base.ki b xs q
  rw[gS λe=>by rw[e,h1]at r;cases r];exact r
 ·have r:=I.base.jH b o u q
  rw[gS λe=>by rw[e,h1]at r;cases r];exact r
 ·obtain⟨more,r⟩:=I.base.kj b ps q
  exact⟨more,by rw[gS λe=>by rw[e,h1]at r;cases r];exact r⟩
 ·by_cases q:T'=ea
  ·rw[q];exact nG
  ·rw[gS q];exact I.hok.fresh z1
end
theorem Fun.okE{P:Program}{w:World}{K:W.Frag}{mg:Str→Option Value}{base:Heap}{x qual:Str}{st:Stmt}{f:Addr}{fd:FuncData}{N ps:List Str}{k:Nat}{sp:Sp}(F:Fun K x qual st f fd)(S:aO N ps (ar st))(len:∀ vs H Q E,sp vs H Q E→vs.length=ps.length)
  (tH:∀(cdv:Value) (A:Around) (outer:List Env) (s:Shared) (H:Hp) (vs:List V) (Q:VK) (E:XK),eh k (A.deeper (envOfC qual (ar st) s.heap.objs.size f cdv))→sp vs H Q E →
   ∃ t,PSs (cxE P w K mg base N qual (ar st) f cdv A outer s H E) (er st) t∧t {nx:=λ_ H'=>Q .non H',rt:=Q} (start N vs) H):g5 P w K mg base (CXE P w) (k+1) f fd ps sp:=by
 obtain⟨oc,od,kV,doc,pm,an,cdv,ct,osl,rfl,lk,hcd⟩:=F.ex;exact AQ lk hcd S len λA outer s H vs Q E hr hsp=>tH cdv A outer s H vs Q E hr hsp
def nJ(X:Cx)(E:XK):Prop:=∀(pins:List (Addr×Obj)) (σ:St) (H:Hp) (s:Shared) (ea C:Addr) (od:Option Addr),Inv X pins σ H s→H ea=some (exo true C ea od)→X.H₀ ea=none→E (.ref C) od (del H ea)→X.xe (.ref ea) s
theorem pQ{P:Program}{w:World}{K:W.Frag}{mg:Str→Option Value}{base:Heap}{N:List Str}{qual:Str}{scope:Scope}{f:Addr}{cdv:Value}{A:Around}{outer:List Env}{s₀:Shared}{H₀:Hp}{E₀:XK} :
  nJ (cxE P w K mg base N qual scope f cdv A outer s₀ H₀ E₀) E₀:=λ_ _ _ _ _ _ _ I h1 h0 q=>leave_new I h1 h0 q
def xS(H₀:Hp)(K:W.Frag)(E:XK)(te:TE):TS:=λ_ σ H=>te σ H λv H1=>∃ ea C od,v=.ref ea∧H1 ea=some (exo true C ea od)∧(∃ cd,cX K C cd)∧H₀ ea=none∧E (.ref C) od (del H1 ea)
section
variable{X:Cx}
theorem jE{e:Expr}{te:TE}{pos:Pos}{E:XK}(hc:X.calm=true)(hx:nJ X E)(he:PE X e te):PS X (.Raise (some e) none pos) (xS X.H₀ X.K E te):=by
 intro pins s σ H D I h;refine qW (K:=X.K) (I.ok.hd hc) (thn (he pins s σ H _ I h) λu s1 ⟨v,H1,I1,r,ea,C,od,ev,h1,⟨cd,xc⟩,h0,q⟩=>?_);subst ev;obtain rfl:u=Value.ref ea:=r;obtain⟨fs,sl,a0,z,ha,hf⟩:=jn I1.hok h1;exact⟨ea,C,cd,od,fs,sl,rfl,z,hf rfl,xc,I1.kIn,hx pins σ H1 s1 ea C od I1 h1 h0 q⟩
def dC(CX:CXT)(X:Cx)(EK:St→XK):Prop:=∀(pins:List (Addr×Obj)) (σ:St) (H:Hp) (s:Shared) (e:Value) (s':Shared),Inv X pins σ H s→CX X.stack H s (EK σ) e s'→X.xe e s'
theorem Passes.x{CX:CXT}{E:XK}(h:Passes CX X E):dC CX X (λ_=>E):=λpins σ H s e s' I q=>h pins σ H s e s' I q
def A6(sp:Sp)(dvs:List V)(EK:St→XK)(t:TA):TE:=λσ H Q=>t σ H λvs H1=>sp (vs++dvs) H1 Q (EK σ)
def wW(C:Addr)(m:Str)(sp:Sp)(dvs:List V)(EK:St→XK)(ta:TE)(t:TA):TE:=λσ H Q=>ta σ H λx H1=>∃ a dx fs,x=.ref a∧H1 a=some (.ins C dx fs)∧fs.lookup m=none ∧
 t σ H1 λvs H2=>sp (x::(vs++dvs)) H2 Q (EK σ)
def CO(C:Addr)(sp:Sp)(EK:St→XK)(t:TA):TE:=λσ H Q=>t σ H λvs H1=>∀ ea,H1 ea=none→sp (.ref ea::vs) (upd H1 ea (exo true C ea none)) (λv H2=>v=.non∧Q (.ref ea) H2) (EK σ)
variable{CX:CXT}{k:Nat}{f C:Addr}{fd:FuncData}{ps:List Str}{sp:Sp}{dvs:List V}{ds:List Value}{EK:St→XK}{x m:Str}{p pos apos:Pos}{e o:Expr}{es:List Expr}{ta:TE}{t:TA}
theorem AB{pins:List (Addr×Obj)}{σ:St}{H:Hp}{s:Shared}{Q:VK}{us:List Value}{vs:List V}(F:g5 X.prog X.w X.K X.mg X.base CX k f fd ps sp)(hr:eh k X.A)(hb:Binds X.K fd ps ds)(hd:Vals dvs ds)(hx:dC CX X EK)
  (I:Inv X pins σ H s) (r:Vals vs us) (h:sp (vs++dvs) H Q (EK σ)):wpAny (model X.prog X.w) X.A (call (.ref f) us) (EP X pins σ Q) X.xe s:=by
 have r2:Vals (vs++dvs) (us++ds):=r.append hd;have hl:(us++ds).length=ps.length:=by rw[←r2.length];exact F.len _ _ _ _ h
 refine wpAny_call (codeAny_mono (F.run X.A X.stack s H ⟨us,[]⟩ (us++ds) (vs++dvs) Q (EK σ) hr I.yv (hb s us I.kIn hl) r2 h) λr s' hq=>?_);cases r with
 | error e=>exact hx pins σ H s e s' I hq
 | ok fl =>
  cases fl with
  | ret u=>exact I.after hq
  | _=>exact False.elim hq
theorem aE(F:g5 X.prog X.w X.K X.mg X.base CX k f fd ps sp)(hr:eh k X.A)(hg:Gl X x)(hm:X.mg x=some (.ref f))(hk:PySem.W.keepIn X.K (.ref f)=true)(hb:Binds X.K fd ps ds)(hd:Vals dvs ds)(hx:dC CX X EK)
  (ha:PA X (e::es) t) (hdb:(x == ("__debug__" : Str))=false:=by decide) (he:starEach (e::es) X.env=(false,eval e X.env)::starEach es X.env:=by rfl) (hpl:(backTo pos (starEach es X.env)).any (·.1)=false:=by rfl) :
  PE X (.Call (.Name x p) (e::es) [] pos) (A6 sp dvs EK t):=by
 intro pins s σ H Q I h;refine wpAny_Call_Name_kw (iz I hg hm ?_ hdb);exact PySem.W.callWith_K (h₀:=X.base) I.ok.mod.kin hk (thn (ha pos pins s σ H _ I h) λus s1 ⟨vs,H1,I1,r,q⟩=>⟨I1.kIn,AB F hr hb hd hx I1 r q⟩) he hpl
theorem cY{pl:Sem Bool}(he:PE X o ta)(c:Cls X.K C)(hm:Meth X.K C m f)(F:g5 X.prog X.w X.K X.mg X.base CX k f fd ps sp)(hr:eh k X.A)(hb:Binds X.K fd ps ds)(hd:Vals dvs ds)(hx:dC CX X EK)(ha:PA X (e::es) t)
  (hst:starEach (e::es) X.env=(false,eval e X.env)::starEach es X.env:=by rfl) (hpl:(backTo pos (starEach es X.env)).any (·.1)=false:=by rfl)
  (ht:eval (.Call (.Attribute o m apos) (e::es) [] pos) X.env=(do
   let ov ←eval o X.env
   standAt apos.atName
   let (f,first) ←holding [ov] (getMethod ov m pl)
   callWith pos f first (backTo pos (starEach (e::es) X.env)) (backToKw pos (keywordEach [] X.env))):=by rfl) :
  PE X (.Call (.Attribute o m apos) (e::es) [] pos) (wW C m sp dvs EK ta t):=by
 intro pins s σ H Q I h;refine PySem.W.methodCall_KW (pl:=pl) (thn (he pins s σ H _ I h) λu s1 ⟨x,H1,I1,rx,a,dx,fs,ex,ea,l,q⟩=>?_) ht;subst ex;obtain rfl:u=Value.ref a:=rx;refine jj I1 ea c hm l ?_;exact PySem.W.callWith_K (first:=[.ref a]) (h₀:=X.base) I.ok.mod.kin hm.kp (thn (ha pos pins s1 σ H1 _ I1 q) λus s2 ⟨vs,H2,I2,r,q2⟩=>⟨I2.kIn,AB (us:=.ref a::us) (vs:=.ref a::vs) F hr hb hd hx I2 (.cons rfl r) q2⟩) hst hpl
theorem sq{pl:Sem Bool}(he:PE X o ta)(c:Cls X.K C)(hm:Meth X.K C m f)(F:g5 X.prog X.w X.K X.mg X.base CX k f fd ps sp)(hr:eh k X.A)(hb:Binds X.K fd ps ds)(hd:Vals dvs ds)(hx:dC CX X EK)
  (ht:eval (.Call (.Attribute o m apos) [] [] pos) X.env=(do
   let ov ←eval o X.env
   standAt apos.atName
   let (f,first) ←holding [ov] (getMethod ov m pl)
   callWith pos f first (backTo pos (starEach [] X.env)) (backToKw pos (keywordEach [] X.env))):=by rfl) :
  PE X (.Call (.Attribute o m apos) [] [] pos) (wW C m sp dvs EK ta yu):=by
 intro pins s σ H Q I h;refine PySem.W.methodCall_KW (pl:=pl) (thn (he pins s σ H _ I h) λu s1 ⟨x,H1,I1,rx,a,dx,fs,ex,ea,l,q⟩=>?_) ht;subst ex;obtain rfl:u=Value.ref a:=rx;refine jj I1 ea c hm l ?_;exact PySem.W.callWith_K0 (first:=[.ref a]) I1.kIn hm.kp (AB (us:=[.ref a]) (vs:=[.ref a]) F hr hb hd hx I1 (.cons rfl .nil) q)
structure MkX(K:W.Frag)(C f:Addr):Prop where
 cls:∃ cd,cX K C cd
 init:PySem.W.findIn K (.ref C) "__init__" = some (some (.ref f))
 fn:PySem.W.isFn K (.ref f)=true
 kp:PySem.W.keepIn K (.ref C)=true
theorem uE{pins:List (Addr×Obj)}{σ:St}{H:Hp}{s:Shared}{Q:VK}{us:List Value}{vs:List V}(M:MkX X.K C f)(F:g5 X.prog X.w X.K X.mg X.base CX k f fd ps sp)(hr:eh (k+1) X.A)(hb:Binds X.K fd ps [])(hx:dC CX X EK)(hps:ps.length≤1000)
  (I:Inv X pins σ H s) (r:Vals vs us) (h:∀ ea,H ea=none→sp (.ref ea::vs) (upd H ea (exo true C ea none)) (λv H2=>v=.non∧Q (.ref ea) H2) (EK σ)) :
  wpAny (model X.prog X.w) X.A (call (.ref C) us) (EP X pins σ Q) X.xe s:=by
 have hq:=h (s.heap.objs.size+1) (I.hok.fresh (Em _));obtain⟨cd,xc⟩:=M.cls;have r2:Vals (V.ref (s.heap.objs.size+1)::vs) (Value.ref (s.heap.objs.size+1)::us):=.cons rfl r;have hl:(Value.ref (s.heap.objs.size+1)::us).length=ps.length:=by rw[←r2.length];exact F.len _ _ _ _ hq
 have hz:us.length≤sizeLine:=by rw[Dx]at hl;rw[sizeLine_eq];omega
 have I2:Inv X pins σ (upd H (s.heap.objs.size+1) (exo true C (s.heap.objs.size+1) none)) {s with heap:=eZ s.heap C us}:=by
  refine I.laid (t':=s.toks) (λb u q=>C9 _ (C9 _ q)) (Em _) (pP ⟨#[.ref s.heap.objs.size,.none,.none,.none,.bool false,.none],#[],s.heap.objs.size,?_,rfl,λ_=>rfl⟩);show(eZ s.heap C us).get? (s.heap.objs.size+1)=some (pN C s.heap.objs.size);heap_get
 obtain⟨hh,g,d,tk,os⟩:=s;refine wpAny_call (so xc I.kIn M.init (beq_iff_eq.mp M.fn) hz (codeAny_mono (F.run _ X.stack _ _ ⟨Value.ref (hh.objs.size+1)::us,[]⟩ (Value.ref (hh.objs.size+1)::us) _ _ (EK σ) (hr.make C us []) (I2.yv.make C us [])
  (by have:=hb _ (Value.ref (hh.objs.size+1)::us) I2.kIn (by rw[ED];exact hl);rw[ED]at this;exact this) r2 hq) λr s' hq'=>?_))
 cases r with
 | error e=>exact hx pins σ _ _ e s' I2 hq'
 | ok fl =>
  cases fl with
  | ret u =>
   obtain⟨v,H',I3,rv,ev,q3⟩:=I2.after hq';subst ev;exact⟨rv,⟨V.ref (hh.objs.size+1),H',I3,rfl,q3⟩⟩
  | _=>exact False.elim hq'
theorem pR(M:MkX X.K C f)(F:g5 X.prog X.w X.K X.mg X.base CX k f fd ps sp)(hr:eh (k+1) X.A)(hg:Gl X x)(hm:X.mg x=some (.ref C))(hb:Binds X.K fd ps [])(hx:dC CX X EK)
  (ha:PA X (e::es) t) (hps:ps.length≤1000:=by decide) (hdb:(x == ("__debug__" : Str))=false:=by decide) (he:starEach (e::es) X.env=(false,eval e X.env)::starEach es X.env:=by rfl) (hpl:(backTo pos (starEach es X.env)).any (·.1)=false:=by rfl) :
  PE X (.Call (.Name x p) (e::es) [] pos) (CO C sp EK t):=by
 intro pins s σ H Q I h;refine wpAny_Call_Name_kw (iz I hg hm ?_ hdb);exact PySem.W.callWith_K (h₀:=X.base) I.ok.mod.kin M.kp (thn (ha pos pins s σ H _ I h) λus s1 ⟨vs,H1,I1,r,q⟩=>⟨I1.kIn,uE M F hr hb hx hps I1 r q⟩) he hpl
end
theorem sv{H:Hp}{a:Addr}{o:HO}(h:H a=some o):upd H a o=H:=by
 funext b
 by_cases e:b=a
 ·rw[e,af,h]
 ·rw[ak e]
section
variable{X:Cx}
def tVe(K:W.Frag)(t:TA):TE:=λσ H Q=>t σ H λvs H1=>∃ ea C od r,vs=.ref ea::r∧r.length≤1000∧H1 ea=some (exo true C ea od)∧(∃ cd,cX K C cd)∧Q .non H1
theorem A7{p apos pos:Pos}{e:Expr}{es:List Expr}{t:TA}{pl:Sem Bool}(hg:Gl X "ValueError")(hm:X.mg "ValueError" = none)(ha:PA X (e::es) t)
  (hst:starEach (e::es) X.env=(false,eval e X.env)::starEach es X.env:=by rfl) (hpl:(backTo pos (starEach es X.env)).any (·.1)=false:=by rfl)
  (ht:eval (.Call (.Attribute (.Name "ValueError" p) "__init__" apos) (e::es) [] pos) X.env=(do
   let ov ←eval (.Name "ValueError" p) X.env
   standAt apos.atName
   let (f,first) ←holding [ov] (getMethod ov "__init__" pl)
   callWith pos f first (backTo pos (starEach (e::es) X.env)) (backToKw pos (keywordEach [] X.env))):=by rfl) :
  PE X (.Call (.Attribute (.Name "ValueError" p) "__init__" apos) (e::es) [] pos) (tVe X.K t):=by
 intro pins s σ H Q I h;refine PySem.W.methodCall_KW (pl:=pl) (ie I hg hm PyProof.Rows.Boot.«ValueError» ?_) ht;refine uA I.kIn ?_;refine PyProof.Rows.callWith_builtin1 (thn (ha pos pins _ σ H _ (I.tok _) h) λus s1 ⟨vs,H1,I1,r,ea,C,od,rr,ev,hl,h1,⟨cd,xc⟩,q⟩=>?_) hst hpl;subst ev;cases r with
 | @cons _ u _ us' r1 r2 =>
 obtain rfl:u=Value.ref ea:=r1;obtain⟨fs,sl,a0,z,ha,hf⟩:=jn I1.hok h1;have hz:us'.length≤sizeLine:=by rw[←r2.length,sizeLine_eq];omega
 have I2:Inv X pins σ H1 {s1 with heap:=s1.heap.push (gR us')}:=I1.kept (t':=s1.toks) λb u q=>C9 _ q;have z2:=C9 (h:=s1.heap) (gR us') z;have hs0:0<fs.size:=(Dv.mp ha).1;have I3:Inv X pins σ (upd H1 ea (exo true C ea od)) {s1 with heap:=(s1.heap.push (gR us')).update ea (Obj.mapFields (·.setIfInBounds 0 (.ref s1.heap.objs.size)))}:=by
  refine I2.write (x:=ea) (e:=ea) (t':=s1.toks) (by rw[h1];exact True.intro) (.inl rfl) (λb u hb q=>(DF _ _ (DH hb)).trans q) ⟨_,iC z2⟩ (pP ⟨_,_,s1.heap.objs.size,iC z2,by simp[hs0],λ_=>?_⟩)
  have:=hf rfl
  simpa using this
 rw[sv h1]at I3;obtain⟨hh,g,d,tk,os⟩:=s1;exact mI xc I1.kIn z ha hz ⟨.non,H1,I3,rfl,q⟩
abbrev TF:=St→Hp→(Hp→Prop)→Prop
def PF(X:Cx)(e:Expr)(t:TF):Prop :=
 ∀(pins:List (Addr×Obj)) (s:Shared) (σ:St) (H:Hp) (Q:Hp→Prop),Inv X pins σ H s→t σ H Q→wpAny (model X.prog X.w) X.A (eval e X.env) (λv s1=>∃ y tk H1,v=.str y tk∧y.length≤2000∧Inv X pins σ H1 s1∧Q H1) X.xe s
def PFs(X:Cx)(es:List Expr)(t:TF):Prop :=
 ∀(out:Str) (pins:List (Addr×Obj)) (s:Shared) (σ:St) (H:Hp) (Q:V→Hp→Prop),out.length+2000*es.length≤100000→Inv X pins σ H s→t σ H (λH1=>∀ y,y.length≤100000→Q (.str y) H1) →
  wpAny (model X.prog X.w) X.A (joinParts out (evalEach es X.env)) (EP X pins σ Q) X.xe s
def wX:TF:=λ_ H Q=>Q H
def CP(te:TE):TF:=λσ H Q=>te σ H λv H1=>∃ i,v=.int i∧i.natAbs.log2<1920∧Q H1
def xT(t u:TF):TF:=λσ H Q=>t σ H λH1=>u σ H1 Q
theorem nK:(100000:Nat)≤sizeLine:=by rw[sizeLine_eq];omega
theorem jo{x j pos}(hl:x.length≤2000:=by decide +kernel):PF X (.Constant (.str x) j pos) wX:=λ_ _ _ H _ I h=>Calls.Constant_str ⟨_,_,H,rfl,hl,I.tok _,h⟩
theorem mj{e:Expr}{te:TE}{pos:Pos}(he:PE X e te):PF X (.FormattedValue e (-1) none pos) (CP te):=by
 intro pins s σ H Q I h;refine FormattedValue_plain (thn (he pins s σ H _ I h) λu s1 ⟨v,H1,I1,r,i,ev,hi,q⟩=>?_);subst ev;obtain⟨t,rfl⟩:=(show ∃ t,u=Value.int i t from r);exact formatField_int_small hi ⟨_,_,H1,rfl,DK (int_text_len_1921 hi) (by decide),I1.tok _,q⟩
theorem lS:PFs X [] wX:=λout pins s σ H Q hl I h =>
 joinParts_nil ⟨.str out,H,I.tok _,⟨_,rfl⟩,h out (by simpa using hl)⟩ (DK (by simpa using hl) nK)
theorem dP{e:Expr}{es:List Expr}{t u:TF}(h1:PF X e t)(h2:PFs X es u):PFs X (e::es) (xT t u):=by
 intro out pins s σ H Q hl I h;rw[Dx]at hl;refine joinParts_consE (joinParts_cons (thn (h1 pins s σ H _ I h) λv s1 ⟨y,tk,H1,ev,hy,I1,q⟩=>?_));subst ev;have hz:(out++y).length+2000*es.length≤100000:=by rw[strLen_append];omega
 exact⟨DK (by omega) nK,h2 (out++y) pins s1 σ H1 Q hz I1 q⟩
def A8(t:TF):TE:=λσ H Q=>t σ H λH1=>∀ y,y.length≤100000→Q (.str y) H1
theorem lT{e e':Expr}{es:List Expr}{t:TF}{pos:Pos}(h:PFs X (e::e'::es) t)(hl:2000*(e::e'::es).length≤100000:=by decide):PE X (.JoinedStr (e::e'::es) pos) (A8 t) :=
 λpins s σ H Q I q=>JoinedStr_many (h Str.empty pins s σ H Q (by have z:Str.empty.length=0:=rfl;rw[z];omega) I q)
inductive TyX(K:W.Frag)(H:Hp):V→Value→Prop where
 | of {x:V} {t:Value} (h:jK K H x t):TyX K H x t
 | exc {b:Bool} {a C:Addr} {od:Option Addr} {cd:ClassData} (e:H a=some (exo b C a od)) (hd:od=none∨∃ dx fs,od=some dx∧H dx=some (.xd fs)) (x:cX K C cd) (g:uB K C)
   (hc:PySem.W.findIn K (.ref C) "__class__" = some (some (.builtin "object.__class__"))):TyX K H (.ref a) (.ref C)
def BV:V→Value
 | .ref a=>.ref a
 | .ty n=>.type n
 | _=>.none
theorem sA{P:Program}{w:World}{H:Hp}{h:Heap}{b:Bool}{C a:Addr}{od:Option Addr}(ok:HOk P w H h)(e:H a=some (exo b C a od))(hd:od=none∨∃ dx fs,od=some dx∧H dx=some (.xd fs)) :
  ∃ ox o,PySem.W.InstAt h a ox C o:=by
 obtain⟨fs,sl,a0,z,_⟩:=jn ok e;rcases hd with rfl|⟨dx,gs,rfl,q⟩
 ·exact⟨_,_,qX z⟩
 ·obtain⟨mA,n,_⟩:=(show bV P w H h dx (.xd gs) from ok dx _ q)
  obtain⟨o,_,_,ho,_⟩:=n;exact⟨_,_,qY z ho⟩
def CQ(K:W.Frag):List V→Hp→VK→Prop:=λvs H Q=>∃ x c t b,vs=[x,c]∧TyX K H x t∧(∃ a,c=.ref a)∧PySem.W.kitOne K t (BV c)=some b∧Q (.bl b) H
def wY(K:W.Frag):List V→Hp→VK→Prop:=λvs H Q=>∃ x c t b,vs=[x,c]∧TyX K H x t∧(∃ n,c=.ty n)∧PySem.W.kitOne K t (BV c)=some b∧Q (.bl b) H
theorem qm{pins:List (Addr×Obj)}{s:Shared}{σ:St}{H:Hp}{x:V}{u c t:Value}{b:Bool}{Q:VK}(I:Inv X pins σ H s)(rx:RelV x u)(ty:TyX X.K H x t)(e:PySem.W.kitOne X.K t c=some b)(q:Q (.bl b) H) :
  wpAny (model X.prog X.w) X.A (call (.builtin "isinstance") [u,c]) (EP X pins σ Q) X.xe s:=by
 have fin:∀ tk,EP X pins σ Q (.bool b) {s with toks:=tk}:=λtk=>⟨.bl b,H,I.tok tk,rfl,q⟩;cases ty with
 | of h=>exact qO I rx h e fin
 | exc ea hd xc g hc =>
  cases (show u=Value.ref _ from rx);obtain⟨ox,o,J⟩:=sA I.hok ea hd;exact PySem.W.kia_one (uC xc g hc) I.kIn ⟨ox,o,J⟩ e (λz=>nomatch z) fin
theorem bQ:iq X (.builtin "isinstance") (CQ X.K):=by
 rintro pins s σ H xs us Q I r ⟨x,c,t,b,rfl,ty,⟨a,rfl⟩,e,q⟩;obtain⟨u,v,rfl,ru,rv⟩:=vals2 r;cases (show v=Value.ref a from rv);exact qm I ru ty e q
theorem aY:iq X (.builtin "isinstance") (wY X.K):=by
 rintro pins s σ H xs us Q I r ⟨x,c,t,b,rfl,ty,⟨n,rfl⟩,e,q⟩;obtain⟨u,v,rfl,ru,rv⟩:=vals2 r;cases (show v=Value.type n from rv);exact qm I ru ty e q
end
abbrev Cx.mm(X:Cx)(pins:List (Addr×Obj))(E:Value→Shared→Prop):Cx:={X with xe:=E,pn:=X.pn++pins}
abbrev Cx.fT(X:Cx)(ea:Addr):Cx:={X with A:=X.A.mark (some (.ref ea)),calm:=false,xe:=λ_ _=>False}
section
variable{X:Cx}{pins:List (Addr×Obj)}{σ:St}{H:Hp}{s:Shared}{E:Value→Shared→Prop}{ea:Addr}
theorem Inv.mm(I:Inv X pins σ H s)(E:Value→Shared→Prop):Inv (X.mm pins E) [] σ H s :=
 ⟨⟨I.ok.mod,I.ok.kind,I.ok.glob,I.ok.blt,I.ok.above,I.ok.inj,I.ok.has,I.ok.cab,I.ok.hd,I.ok.frames,I.ok.stk,I.ok.exf,I.ok.bs,I.ok.bsz,I.ok.oa,I.ok.rT,I.ok.i4,I.ok.frf⟩,
  I.os,I.bare,I.base,I.loc,I.cell,I.free,I.ef,λp hp=>I.pin p (by simpa using hp),I.hok,I.len⟩
theorem Inv.iD{oe:List (Addr×Obj)}(I:Inv (X.mm pins E) oe σ H s):Inv X pins σ H s :=
 ⟨⟨I.ok.mod,I.ok.kind,I.ok.glob,I.ok.blt,I.ok.above,I.ok.inj,I.ok.has,I.ok.cab,I.ok.hd,I.ok.frames,I.ok.stk,I.ok.exf,I.ok.bs,I.ok.bsz,I.ok.oa,I.ok.rT,I.ok.i4,I.ok.frf⟩,
  I.os,I.bare,I.base,I.loc,I.cell,I.free,I.ef,λp hp=>I.pin p (DO _ hp),I.hok,I.len⟩
theorem Inv.fT(I:Inv X pins σ H s)(ea:Addr):Inv (X.fT ea) pins σ H s :=
 ⟨⟨I.ok.mod,I.ok.kind,I.ok.glob,I.ok.blt,I.ok.above,I.ok.inj,I.ok.has,I.ok.cab,(λz=>nomatch z),I.ok.frames,I.ok.stk,I.ok.exf,I.ok.bs,I.ok.bsz,I.ok.oa,I.ok.rT,I.ok.i4,I.ok.frf⟩,
  I.os,I.bare,I.base,I.loc,I.cell,I.free,I.ef,I.pin,I.hok,I.len⟩
theorem Inv.uncaught{Y:Cx}(I:Inv (Y.fT ea) pins σ H s)(ok:Y.Ok):Inv Y pins σ H s:=⟨ok,I.os,I.bare,I.base,I.loc,I.cell,I.free,I.ef,I.pin,I.hok,I.len⟩
theorem Inv.A9{o:HO}{c:Value}{od:Option Addr}{fs:Array Value}{sl:Array (Option Value)}(I:Inv X pins σ H s)(hn:H ea=none)(h0:X.s₀.heap.get? ea=none)(hr:s.heap.get? ea=some (aV c od fs sl))
  (hp:∀ p∈X.pn++pins,p.1≠ea) (new:bV X.prog X.w (upd H ea o) s.heap ea o):Inv X pins σ (upd H ea o) s:=by
 have ne:∀ b u,H b=some u→b≠ea:=λb u q e=>by rw[e,hn]at q;cases q
 refine⟨I.ok,I.os,I.bare,⟨I.base.keep,I.base.slot,λb u q n hx=>?_,I.base.there,λb xs q=>?_,λb u v q=>?_,λb ps q=>?_⟩,I.loc,I.cell,?_,λx c' q=>?_,λp hq=>?_,I.hok.add hn new,I.len⟩
 ·rw[ak λe=>by rw[e,h0]at q;cases q]
  exact I.base.free b u q n hx
 ·have r:=I.base.ki b xs q
  rw[ak (ne b _ r)];exact r
 ·have r:=I.base.jH b u v q
  rw[ak (ne b _ r)];exact r
 ·obtain⟨more,r⟩:=I.base.kj b ps q
  exact⟨more,by rw[ak (ne b _ r)];exact r⟩
 ·rw[ak λe=>?_]
  ·exact I.free
  ·obtain⟨m,⟨oL,es,ep,ho,hd,_⟩,_⟩:=I.loc
   rw[e,hr]at ho;cases ho;cases hd
 ·rw[ak λe=>?_]
  ·exact I.ef x c' q
  ·obtain⟨v,oc,ho,hd⟩:=I.cell x c' q
   rw[e,hr]at ho;cases ho;cases hd
 ·obtain⟨e,n,z⟩:=I.pin p hq
  exact⟨e,by rw[ak (hp p hq)];exact n,z⟩
end
def qo(i:Nat)(D:Ends):Ends:={nx:=λσ H=>D.nx (σ.set i none) H,rt:=D.rt,bk:=λσ H=>D.bk (σ.set i none) H,ct:=λσ H=>D.ct (σ.set i none) H}
def tI(K:W.Frag)(Dc:Addr)(i:Nat)(ts:TS)(D:Ends):St→XK:=λσ c od H=>∃ C cd,c=.ref C∧cX K C cd∧cd.mro.contains (.ref Dc)=true∧∀ ea,H ea=none→ts (qo i D) (σ.set i (some (.ref ea))) (upd H ea (exo false C ea od))
def CS(K:W.Frag)(Dc:Addr)(i:Nat)(tb:(St→XK)→TS)(ts:TS):TS:=λD σ H=>tb (tI K Dc i ts D) D σ H
section
variable{X:Cx}
theorem sC{pins:List (Addr×Obj)}{σ:St}{H:Hp}{s:Shared}{E:Value→Shared→Prop}{n:Str}{i:Nat}{pos:Pos}{Q:Unit→Shared→Prop}(I:Inv X pins σ H s)(hN:X.N.Nodup)(hi:X.N[i]?=some n)(hx:X.env.scope.names.lookup n=some .local)
  (k:∀ s',Inv X pins (σ.set i none) H s'→Q () s'):wpAny (model X.prog X.w) X.A (do bindName X.env n .none;unbindBehindTheSuite X.env n pos) Q E s:=by
 obtain⟨m,hn,hl⟩:=id I.loc;have yn:(X.env.scope.kind == .class||(X.env.scope.kind == .module&&X.env.locals != X.env.globals))=false:=by rw[I.ok.kind];rfl
 refine wpAny_nameGoes_keeps hx hn yn λh' v hn' hs=>k _ ?_;obtain⟨oL,_,_,hoL,_⟩:=id hn;have tr:HOk X.prog X.w H h':=I.hok.keeps λb u o q r=>(hs.2 b λe=>by rw[e,I.free]at q;cases q).trans r;refine⟨I.ok,I.os,I.bare,⟨λb o e n hb hx=>?_,λb o e n hb hx=>?_,I.base.free,λb o e hx=>?_,I.base.ki,I.base.jH,I.base.kj⟩,⟨_,hn',λj y v' e1 e2 e3=>?_⟩,λy c e=>?_,I.free,I.ef,λp hp=>?_,tr,by simpa using I.len⟩
 ·exact(hs.2 b (Dq (Dm (Dh e) I.ok.above))).trans (I.base.keep b o e n hb hx)
 ·obtain⟨sl,e1⟩:=I.base.slot b o e n hb hx
  exact⟨sl,(hs.2 b (Dq (Dm (Dh e) I.ok.above))).trans e1⟩
 ·obtain⟨o',e1⟩:=I.base.there b o e hx
  exact⟨o',(hs.2 b (Dq (Dm (Dh e) I.ok.above))).trans e1⟩
 ·by_cases hj:j=i
  ·subst hj
   rw[En]at e2;simp only[if_true]at e2;split at e2<;>cases e2
  ·rw[Du (DH hj)]at e2
   obtain⟨u',r',q⟩:=hl j y v' e1 e2 e3;refine⟨u',r',?_⟩;rcases q with⟨kk,e⟩|⟨kk,c,e,z⟩
   ·refine .inl ⟨kk,?_⟩
    have:y≠n:=λe=>hj (jA hN e1 (e ▸ hi))
    simp[this,e]
   ·exact .inr ⟨kk,c,e,z.sameBut hs (I.cne y c e)⟩
 ·obtain⟨w',z⟩:=I.cell y c e
  exact⟨w',z.sameBut hs (I.cne y c e)⟩
 ·obtain⟨e,n,ne,nf,d⟩:=I.pin p hp
  exact⟨(hs.2 p.1 ne).trans e,n,ne,nf,d⟩
theorem xU{body wZ:List Stmt}{b₀:Stmt}{x n:Str}{np hpos pos:Pos}{i:Nat}{Dc:Addr}{cdD:ClassData}{tb:(St→XK)→TS}{ts:TS}(hex:X.ex=[])(hst:X.stack=X.env::X.outer)(hfr:X.env.frame=some X.env.locals)(hg:Gl X x)(hm:X.mg x=some (.ref Dc))
  (hD:cX X.K Dc cdD) (hN:X.N.Nodup) (hi:X.N[i]?=some n) (hx:X.env.scope.names.lookup n=some .local)
  (hb:∀(pins:List (Addr×Obj)) (E:Value→Shared→Prop) (EK:St→XK),dC (CXE X.prog X.w) (X.mm pins E) EK→PSs (X.mm pins E) body (tb EK))
  (hs:∀ ea,PSs (X.fT ea) (b₀::wZ) ts) (hdb:(x == ("__debug__" : Str))=false:=by decide) :
  PS X (.Try body [.ExceptHandler (some (.Name x np)) (some n) (b₀::wZ) hpos] [] [] pos) (CS X.K Dc i tb ts):=by
 intro pins s σ H D I h;refine wpAny_Try_except ?_;refine wpAny_mono (hb pins (λe s₁=>∃ σ' H1 sc,Inv X pins σ' H1 sc∧CXE X.prog X.w X.stack H1 sc (tI X.K Dc i ts D σ') e s₁) (tI X.K Dc i ts D)
  (λoe σ' H1 sc e s' J q=>⟨σ',H1,sc,J.iD,q⟩) [] s σ H D (I.mm _) h) (λfl s1 q=>?_) λe s1 q=>?_
 ·cases fl with
  | next =>
   obtain⟨σ',H',J,q⟩:=q;exact wpAny_execs_nil ⟨σ',H',J.iD,q⟩
  | brk=>obtain⟨σ',H',J,q⟩:=q;exact⟨σ',H',J.iD,q⟩
  | cont=>obtain⟨σ',H',J,q⟩:=q;exact⟨σ',H',J.iD,q⟩
  | ret u=>obtain⟨v,σ',H',J,r,q⟩:=q;exact⟨v,σ',H',J.iD,r,q⟩
 ·obtain⟨σ',H1,sc,J,ea,Cv,T,od,fs,sl,H',rfl,l,C,cd,ec,xc,hmr,q⟩:=q
  cases ec;have hA:X.A.frames=some (X.env::X.outer):=by rw[J.ok.frames,hst]
  have hF:s1.heap.FunFrames X.base (X.env::X.outer):=by rw[←hst];exact l.frames J
  have e0:X.s₀.heap.get? ea=none:=by
   cases z:X.s₀.heap.get? ea with
   | none=>rfl
   | some o =>
    obtain⟨o',z'⟩:=J.base.there ea o z (by rw[hex];exact D9);rw[l.uD]at z';cases z'
  have st:∀(m:Heap) (tk:Nat),Kept (bG X.stack) [ea,T] s1.heap m→Inv X pins σ' H' {s1 with heap:=m,toks:=tk}:=λm tk k=>by
   obtain⟨un,hok⟩:=l.on (t':=s1.toks) J k;exact J.lY l.os un hok l.bare λb z=>absurd z (by simp)
  have pn:∀ p∈X.pn++pins,p.1≠ea:=λp hp e=>by
   obtain⟨z,_⟩:=J.pin p hp;rw[e,l.uD]at z;cases z
  refine lR hA hF hfr l.at_ l.trail λm T' oc tsx z1 z2 z3 z4 z5=>?_;have Te:T'≠ea:=Ei (Dm (Dh l.at_) z1);have f1:(fs.setIfInBounds 1 (Value.ref T'))[1]?=some (.ref T'):=by
   have:=l.trail.size
   simp[this]
  have k1:Kept (bG X.stack) [ea,T] s1.heap m:=by rw[hst];exact z2
  refine fD (s:={s1 with heap:=m}) z3 f1 Te z4 (Dv.mp z5).1 λm' q1 q2 q3=>?_;have nT:∀ b o,s1.heap.get? b=some o→b≠T':=λb o q=>Dq (Dm (Dh q) z1);have k2:Kept (bG X.stack) [ea,T] s1.heap m':=⟨λb o q hb hx=>q1 b o (nT b o q) (k1.plain b o q hb hx),λb o q hb hx=>by
   obtain⟨sm,r⟩:=k1.frame b o q hb hx;exact⟨sm,q1 b _ (nT b o q) r⟩⟩
  have J2:=st m' s1.toks k2;refine wpAny_handleBy_cons (codeAny_handlers_test ?_) (by intro z;cases z);refine iz (X:=X.fT ea) (J2.fT ea) hg hm ?_ hdb;refine mJ xc hD J2.kIn q3 ?_;rw[hmr];refine codeAny_handlers_suite_as ?_;cases q2 with
  | @some _ oc2 ts2 d2 sm2 y1 y2 y3 y4 =>
  refine fD (s:={s1 with heap:=m'}) q3 y1 y2 y3 (Dv.mp y4).1 λm3 r1 r2 r3=>?_;have k3:Kept (bG X.stack) [ea,T] s1.heap m3:=⟨λb o q hb hx=>r1 b o (nT b o q) (k2.plain b o q hb hx),λb o q hb hx=>by
   obtain⟨sm,r⟩:=k2.frame b o q hb hx;exact⟨sm,r1 b _ (nT b o q) r⟩⟩
  have J3:=st m3 s1.toks k3;obtain⟨a0,ha⟩:=l.args;have J4:Inv X pins σ' (upd H' ea (exo false Cv ea od)) {s1 with heap:=m3}:=J3.A9 l.ow e0 r3 pn (pP ⟨_,_,a0,r3,by simpa using ha,λz=>nomatch z⟩);refine jB (X:=X.fT ea) (J4.fT ea) hN hi (.inl hx) (v:=.ref ea) rfl (λs5 J5=>?_) (.inr hx);refine wpAny_mono (hs ea pins s5 _ _ (qo i D) J5 (q ea l.ow)) (λfl s6 w=>?_) λ_ _ z=>False.elim z;have off:∀ {σ6:St} {H6:Hp} {Q6:Unit→Shared→Prop},Inv (X.fT ea) pins σ6 H6 s6→(∀ s7,Inv X pins (σ6.set i none) H6 s7→Q6 () s7)→wpAny (model X.prog X.w) X.A (do bindName X.env n .none;unbindBehindTheSuite X.env n hpos) Q6 X.xe s6 :=
   λJ6 k=>sC (J6.uncaught J.ok) hN hi hx k
  cases fl with
  | next=>obtain⟨σ6,H6,J6,w⟩:=w;exact off J6 λs7 J7=>⟨_,_,J7,w⟩
  | brk=>obtain⟨σ6,H6,J6,w⟩:=w;exact off J6 λs7 J7=>⟨_,_,J7,w⟩
  | cont=>obtain⟨σ6,H6,J6,w⟩:=w;exact off J6 λs7 J7=>⟨_,_,J7,w⟩
  | ret u=>obtain⟨v,σ6,H6,J6,r,w⟩:=w;exact off J6 λs7 J7=>⟨v,_,_,J7,r,w⟩
end
section
variable{X:Cx}
def Ba(K:W.Frag):R2:=λx y H Q=>∃ l b xs zs,x=.ref l∧y=.ref b∧SqL K H l xs∧SqL K H b zs∧xs.length+zs.length≤sizeLine∧∀ p,H p=none→Q (.ref p) (upd H p (.lst (xs++zs)))
theorem e7:OpR X (binaryOp .Add) (Ba X.K):=by
 intro pins s σ H x y v u Q I rx ry h;obtain⟨l,b,xs,zs,rfl,rfl,hx,hy,hz,q⟩:=h;cases rx;cases ry;obtain⟨vs,r1,⟨⟨c1,d1,da1,s1⟩,n1,e1,f1,_,g1⟩,_⟩:=I.list hx;obtain⟨ws,r2,⟨⟨c2,d2,da2,s2⟩,n2,e2,f2,_,g2⟩,_⟩:=I.list hy;simp only at f1 g1 f2 g2;subst f1 g1 f2 g2;have hl:vs.length+ws.length≤sizeLine:=by rw[←r1.length,←r2.length];exact hz
 have ea:vs.toArray++ws.toArray=(vs++ws).toArray:=by simp
 refine concat_meets ⟨_,e1,rfl⟩ ⟨_,e2,rfl⟩ noFill_list_add seq_list_add PySem.F.slot_list_add PySem.F.entry_list_add (PySem.F.args_list_add_2 _ _) (list_addW l b vs.toArray ws.toArray n1 n2 d1 d2 s1 s2 (by simpa using hl)) ⟨e1,e2,?_⟩;rw[ea];exact⟨.ref _,_,I.uc (t':=s.toks) (r1.append r2) (by rw[Dn];exact hz),rfl,q _ I.fresh⟩
theorem jq{x:V}:∀ {xs:List V} {us:List Value},Vals xs us→xs.all c6=true→us.countP (eqU x)=xs.countP λy=>eqV y x
 | _,_,.nil,_=>rfl
 | y::xs,u::us,.cons r t,f=>by
  rw[Es,DW]at f;rw[List.countP_cons,List.countP_cons,pM r f.1,jq t f.2]
def xV(K:W.Frag):V→List V→Hp→VK→Prop:=λx vs H Q=>∃ l xs y,x=.ref l∧vs=[y]∧SqL K H l xs∧c6 y=true∧xs.all c6=true∧Q (.int (xs.countP (λz=>eqV z y):Nat)) H
theorem sD:MtM X "list.count" (xV X.K):=by
 intro pins s σ H x vs v us Q I rx rv h;obtain⟨l,xs,y,rfl,rfl,hx,fy,fx,q⟩:=h;cases rx;obtain⟨u,rfl,ru⟩:=rv.one;obtain⟨its,r1,⟨⟨c1,d1,da1,s1⟩,n1,e1,f1,_,g1⟩,_⟩:=I.list hx;simp only at f1 g1;subst f1 g1;refine call_meets PySem.F.slot_list_count ⟨_,e1,rfl⟩ PySem.F.entry_list_count (PySem.F.args_list_count_2 _ _) (SeqAt.list_countAt l its.toArray n1 d1 s1 u (eqU y)) ⟨e1,λz hz=>ir ru fy r1 fx z (by simpa using hz),?_⟩;rw[show its.toArray.toList=its from rfl,jq r1 fx];exact⟨.int _,H,I.tok _,⟨_,rfl⟩,q⟩
end
theorem aA.upd{H:Hp}{a:Addr}{o:HO}(h:H a=none):aA H (L2.upd H a o):=λb u q=>by rw[ak λe=>by rw[e,h]at q;cases q];exact q
structure w4(K:W.Frag)(C:Addr):Prop where
 cls:∃ cd,cX K C cd
 get:uB K C
 own:PySem.W.findIn K (.ref C) "__class__" = some (some (.builtin "object.__class__"))
theorem w4.ty{K:W.Frag}{C a:Addr}{H:Hp}{b:Bool}(c:w4 K C)(e:H a=some (exo b C a none)):TyX K H (.ref a) (.ref C):=by
 obtain⟨cd,x⟩:=c.cls;exact .exc e (.inl rfl) x c.get c.own
def uF(K:W.Frag):Sp:=λvs H Q _=>∃ ea C od x,vs=[.ref ea,x]∧H ea=some (exo true C ea od)∧(∃ cd,cX K C cd)∧Q .non H
theorem aN{K:W.Frag}{i:Nat}{σ:St}{H:Hp}{Q:VK}{x:V}{D:String}{t:Value}{b:Bool}(h0:σ[i]?=some (some x))(ty:TyX K H x t)(hk:PySem.W.kitOne K t (.type D)=some b)(q:Q (.bl b) H) :
  tCB (wY K) (tG (yo i) (tG (tC (.ty D)) yu)) σ H Q:=⟨x,h0,x,.ty D,t,b,rfl,ty,⟨_,rfl⟩,hk,q⟩
theorem eL{X:Cx}{x:Str}{T:String}{pos:Pos}(hg:Gl X x)(hm:X.mg x=none)(hv:bootBuiltins x=some (.type T))(hn:x ≠ "__name__" := by decide)(hd:(x == ("__debug__" : Str))=false:=by decide):PE X (.Name x pos) (tC (.ty T)) :=
 λ_ _ _ H _ I h=>ie I hg hm hv ⟨.ty T,H,I,rfl,h⟩ hn hd
theorem bZ{P:Program}{w:World}{X:Cx}:dC (CXE P w) X.nox (λ_ _ _ _=>False):=λ_ _ _ _ _ _ _ ⟨_,_,_,_,_,_,_,_,_,q⟩=>q.elim
theorem ra{n:Int}(h:n.natAbs<2 ^ 1920):n.natAbs.log2<1920:=by
 by_cases z:n.natAbs=0
 ·rw[z];decide
 ·exact(Nat.log2_lt z).mpr h
theorem Bb{P:Program}{w:World}{outer:List Env}{H:Hp}{s:Shared}{e:Value}{s':Shared}(h:CXE P w outer H s (λ_ _ _=>False) e s'):False:=by
 obtain⟨_,_,_,_,_,_,_,_,_,q⟩:=h;exact q
def tJ(xs ys:List V):Bool:=(List.range xs.length).all λj=>eqV (xs.getD j .non) (ys.getD j .non)
section
variable{X:Cx}
variable{o e value:Expr}{f:Str}{pos pos':Pos}{ta tv:TE}
end
theorem fk{prog:Program}{w:World}{A:Around}{R:Result→Shared→Prop}{s:Shared}{elt target iter:Expr}{scope:Scope}{pos:Pos}{it acc:Value}{env:Env}(I:Nat→Shared→Prop)
  (turn:∀ n s,I n s→wpAny (model prog w) A (pyNext it) (λr s₁=>match r with
   | none=>R (.ok .next) s₁
   | some v=>wpAny (model prog w) A (letOwnedTupleGo target it v) (λ_ s5=>wpAny (model prog w) A (assign target env v) (λ_ s₂=>wpAny (model prog w) A (eval elt env) (λx s₃ =>
     wpAny (model prog w) A (call (.builtin "list.append") [acc,x]) (λ_ s₄=>∃ m,m<n∧I m s₄) (notedBy (model prog w) A env λe s'=>R (.error e) s') s₃)
     (notedBy (model prog w) A env λe s'=>R (.error e) s') s₂) (notedBy (model prog w) A env λe s'=>R (.error e) s') s5) (notedBy (model prog w) A env λe s'=>R (.error e) s') s₁) (notedBy (model prog w) A env λe s'=>R (.error e) s') s)
  (n:Nat) (h:I n s):codeAny (model prog w) A (.compLoop (.ListComp elt [⟨target,iter,[],0⟩] scope pos) 0 it acc env) R s:=by
 refine codeAny_loop rfl I (λn s hI=>?_) n h;show wpAny _ _ ((compTurn (.ListComp elt [⟨target,iter,[],0⟩] scope pos) 0 it acc env).onRaise (λx=>do noteFrame x env;theTreesLotGoes x)) _ _ s
 refine wpAny_noted ?_;rw[compTurn_list1];refine wpAny_bind (wpAny_standAt (wpAny_bind (wpAny_mono (turn n s hI) (λr s₁ h₁=>?_) λ_ _ h'=>h')));cases r with
 | none=>exact wpAny_pure h₁
 | some v =>
  refine wpAny_bind (wpAny_mono h₁ (λ_ s5 h5=>?_) λ_ _ h'=>h');exact wpAny_bind (wpAny_mono h5 (λ_ s₂ h₂=>wpAny_bind (wpAny_bind (wpAny_mono h₂ (λx s₃ h₃=>wpAny_bind (wpAny_mono h₃
   (λ_ s₄ h₄=>wpAny_pure (wpAny_pure ⟨rfl,h₄⟩)) λ_ _ h'=>h')) λ_ _ h'=>h'))) λ_ _ h'=>h')
abbrev cxC(X:Cx)(scope:Scope)(cl:List (Str×Addr))(NC:List Str)(C:Addr)(fp:List Addr)(s₀:Shared)(H₀:Hp):Cx :=
 {X with N:=NC,s₀:=s₀,H₀:=H₀,env:=compEnvC scope cl C X.env,outer:=X.stack,ex:=fp,fn:=λ_=>false,pn:=[],xe:=λ_ _=>False}
def h8(σ:St)(idx:List Nat):St:=idx.map λi=>(σ[i]?).getD none
structure jM(X:Cx)(scope:Scope)(cl:List (Str×Addr))(x:Str)(idx:List Nat)(NC:List Str):Prop where
 w6:closureFor scope X.env=pure cl
 sub:∀ y c,cl.lookup y=some c→X.env.cells.lookup y=some c
 has:∀ y,((relabel scope X.env).names.lookup y=some .cell∨(relabel scope X.env).names.lookup y=some .free)→∃ c,cl.lookup y=some c
 mn:∀ y∈scope.names,y.2≠.cell
 kind:scope.kind=.function
 loc:∀ y∈scope.names,y.2=.local→scope.names.lookup y.1=some .local
 xl:scope.names.lookup x=some .local
 nc:NC=x::idx.map λi=>X.N.getD i x
 nd:NC.Nodup
 cap:∀ i∈idx,i<X.N.length∧((X.env.scope.names.lookup (X.N.getD i x)=some .cell∨X.env.scope.names.lookup (X.N.getD i x)=some .free)∧((relabel scope X.env).names.lookup (X.N.getD i x)=some .cell∨(relabel scope X.env).names.lookup (X.N.getD i x)=some .free))
section
variable{X:Cx}{scope:Scope}{cl:List (Str×Addr)}{x:Str}{idx:List Nat}{NC:List Str}{C:Addr}{fp:List Addr}{pins:List (Addr×Obj)}{σ:St}{H:Hp}{s:Shared}
theorem nL{h1:Heap}{t':Nat}(c:jM X scope cl x idx NC)(I:Inv X pins σ H s)(hf:∀ b∈fp,iK X pins H b)(hlt:∀ b∈fp,b<s.heap.objs.size)(ns:h1.Ns s.heap.objs.size (λ_=>none))
  (k:∀ b o,s.heap.get? b=some o→h1.get? b=some o):Inv (cxC X scope cl NC s.heap.objs.size fp s H) [] (none::h8 σ idx) H {s with heap:=h1,toks:=t'}:=by
 have sub:∀ b,b∈frs X.stack→b∈X.env.locals::X.fs:=I.gM;refine⟨⟨I.ok.mod,c.kind,I.ok.glob,I.ok.blt,Dk _,λy z a h1 h2=>I.ok.inj y z a (c.sub _ _ h1) (c.sub _ _ h2),c.has,λy a z=>(by cases z),I.ok.hd,I.ok.frames,.inl rfl,λb hb=>⟨Dq (hlt b hb),λy a q=>(hf b hb).2.2.2.2.1 y a (c.sub _ _ q)⟩,
  λb o q=>I.bs b o q,DK I.ok.bsz I.sz,λb o q hb=>?_,λb hb z=>?_,I.stack,I.gN⟩,rfl,I.bare,Un.kept k,⟨_,ns,λi y v e1 e2 e3=>?_⟩,λy a q=>?_,I.hok.fresh (Dk _),λy a q=>I.ef _ _ (c.sub _ _ q),λp hp=>(by cases hp),I.hok.keeps λb u o _ q=>k b o q,?_⟩
 ·rcases(hf b hb).2.2.2.1 with z|z
  ·exact I.ok.oa b o q z
  ·exact absurd (Dm (Dh (I.ok.bs b o q).1) z) (DX _)
 ·rcases Ds.mp (sub b z) with r|r
  ·exact(hf b hb).2.1 r
  ·exact(hf b hb).2.2.1 r
 ·cases i with
  | zero=>cases e2
  | succ j =>
   have e1':(idx.map λi=>X.N.getD i x)[j]?=some y:=by
    have:(cxC X scope cl NC s.heap.objs.size fp s H).N=NC:=rfl
    rw[this,c.nc]at e1;exact e1
   have e2':(h8 σ idx)[j]?=some (some v):=e2;rw[Dw]at e1';unfold h8 at e2';rw[Dw]at e2';cases ei:idx[j]? with
   | none=>rw[ei]at e1';cases e1'
   | some i =>
    rw[ei]at e1' e2';simp only[D4,Option.some.injEq]at e1' e2';obtain⟨hi,h2,h3⟩:=c.cap i (Dr ei);rw[e1']at h2 h3;have hN:X.N[i]?=some y:=by
     rw[←e1'];simp[List.getD,C8 hi]
    have hσ:σ[i]?=some (some v):=by
     cases q:σ[i]? with
     | none=>rw[q]at e2';cases e2'
     | some o=>rw[q]at e2';simp only[Ef]at e2';rw[e2']
    obtain⟨m,hn,hl⟩:=I.loc;obtain⟨u,r,l⟩:=hl i y v hN hσ (h2.elim (λz=>.inr (.inl z)) λz=>.inr (.inr z));refine⟨u,r,.inr ⟨h3,?_⟩⟩;rcases l with⟨l,_⟩|⟨_,a,ha,hc⟩
    ·exfalso
     have l':X.env.scope.names.lookup y=some .local:=l;rcases h2 with z|z<;>(rw[l']at z;cases z)
    ·obtain⟨a',ha'⟩:=c.has y h3
     have:=c.sub _ _ ha'
     rw[ha]at this;cases this;exact⟨a,ha',hc.keeps k⟩
 ·obtain⟨v,z⟩:=I.cell _ _ (c.sub _ _ q)
  exact⟨v,z.keeps k⟩
 ·show _=NC.length
  rw[c.nc];simp[h8]
def pS(J:It)(D:Addr)(τ:St)(te:TE)(Q:VK)(H:Hp):Prop:=∃ W:Nat→Nat→List V→Hp→Prop,(∃ m,W 0 m [] H)∧∀ i m ys H2,W i m ys H2→H2 D=some (.lst ys) ∧
 ((J.stop i H2∧Q (.ref D) H2)∨(J.go i H2∧ys.length<sizeLine∧∃ N:List V→Hp→Prop,(∀ zs H',N zs H'→∃ m',m'<m∧W (i+1) m' zs H')∧∀ y H3,J.yld i H2 y H3→te (some y::τ) H3 λv H4=>H4 D=some (.lst ys)∧N (ys++[v]) (upd H4 D (.lst (ys++[v])))))
def w8(wi:TI)(idx:List Nat)(te:TE):TE:=λσ H Q=>wi σ H λJ H1=>∀ D,H1 D=none→pS J D (h8 σ idx) te Q (upd H1 D (.lst []))
theorem jF{X:Cx}{pins:List (Addr×Obj)}{σ:St}{H:Hp}{s:Shared}{D:Addr}{ys:List V}{v:V}{u:Value}(I:Inv X pins σ H s)(h:H D=some (.lst ys))(hz:ys.length<sizeLine)(r:RelV v u) :
  wpAny (model X.prog X.w) X.A (call (.builtin "list.append") [.ref D,u]) (λ_ s'=>Inv X pins σ (upd H D (.lst (ys++[v]))) s') X.xe s:=by
 refine thn (gD pins s σ H (.ref D) [v] (.ref D) [u] (λ_ H'=>H'=upd H D (.lst (ys++[v]))) I rfl (.cons r .nil) ⟨D,ys,v,rfl,rfl,h,hz,rfl⟩) λw s' ⟨_,H',I',_,e⟩=>?_;rw[←e];exact I'
theorem jr{elt iter:Expr}{px pos:Pos}{wi:TI}{te:TE}(c:jM X scope cl x idx NC)(hc:X.calm=true)(hi:PI X (.Name x px) iter wi)(he:∀ C fp s₀ H₀,PE (cxC X scope cl NC C fp s₀ H₀) elt te)
  (hs:∀ x,foldedSetIterable iter X.env x=pure x:=by intro _;rfl):PE X (.ListComp elt [⟨.Name x px,iter,[],0⟩] scope pos) (w8 wi idx te):=by
 intro pins s σ H Q I h;rw[eval_ListComp];refine wpAny_comprehension_free (use:=none) rfl hs c.w6 c.kind c.loc (thn (hi pins s σ H _ I h) λv s1 h1=>thn h1 λitv s2 h2=>?_);obtain⟨it,fp,tn,J,H2,rfl,I2,T,st2,f2,q⟩:=h2;refine wpAny_newObj_type (wpAny_newFunctionEnv c.mn (by intro y hy;simp at hy) (λh₁ hns₁ hsb₁=>?_) c.kind);dsimp only at hns₁ hsb₁ ⊢;have I3:Inv X pins σ (upd H2 s2.heap.objs.size (.lst [])) {s2 with heap:=s2.heap.push {cls:=.type "list",data:=.seq ([]:List Value).toArray},toks:=s2.toks}:=I2.uc (ys:=[]) (its:=[]) .nil (DQ _);obtain⟨W,⟨m0,w0⟩,turn⟩:=q s2.heap.objs.size I2.fresh;generalize hD:s2.heap.objs.size=D at *;generalize hH:s2.heap.push {cls:=.type "list",data:=.seq ([]:List Value).toArray}=h3 at *;have qq:∀ b∈fp,b<D:=λb hb=>by
  obtain⟨o,e,_⟩:=T.obj _ _ st2 b hb;rw[←hD];exact Dh e
 have hlt:∀ b∈fp,b<h3.objs.size:=λb hb=>by
  rw[←hH,Ec,hD];exact D5 (qq b hb)
 have hf:∀ b∈fp,iK X pins (upd H2 D (.lst [])) b:=λb hb=>⟨by rw[ak (Dq (qq b hb))];exact(f2 b hb).1,(f2 b hb).2⟩;have kp:∀ b o,h3.get? b=some o→h₁.get? b=some o:=λb o e=>hsb₁.extBut b o (Dq (Dh e)) (C9 _ e);have I4:Inv (cxC X scope cl NC h3.objs.size fp {s2 with heap:=h3,toks:=s2.toks} (upd H2 D (.lst []))) [] (none::h8 σ idx) (upd H2 D (.lst [])) {s2 with heap:=h₁,toks:=s2.toks+([]:List (Str×Value)).length} :=
  nL (s:={s2 with heap:=h3,toks:=s2.toks}) c I3 hf hlt hns₁ kp
 have i6:∀ {H':Hp},(∀ b∈fp,H' b=none)→∀ b∈fp,iK (cxC X scope cl NC h3.objs.size fp {s2 with heap:=h3,toks:=s2.toks} (upd H2 D (.lst []))) [] H' b:=λhn b hb =>
  ⟨hn b hb,Dq (hlt b hb),λz=>(Ds.mp (I3.gM b z)).elim (hf b hb).2.1 (hf b hb).2.2.1,.inl hb,λy a q=>(hf b hb).2.2.2.2.1 y a (c.sub _ _ q),λp hp=>(by cases hp)⟩
 have st1:tn 0 h₁:=T.keep 0 _ _ st2 λb hb o e=>kp b o (by rw[←hH];exact C9 _ e);have loop:∀ s4:Shared,s4={s2 with heap:=h₁,toks:=s2.toks+([]:List (Str×Value)).length} →
   codeAny (model X.prog X.w) X.A (.compLoop (.ListComp elt [⟨.Name x px,iter,[],0⟩] scope pos) 0 (.ref it) (.ref D) (compEnvC scope cl h3.objs.size X.env)) (compPost (model X.prog X.w) X.A X.xe none (EP X pins σ Q) (.ref D) h3.objs.size) s4:=by
  rintro s4 rfl;refine fk (λn s'=>∃ i ys H' v0,Inv (cxC X scope cl NC h3.objs.size fp {s2 with heap:=h3,toks:=s2.toks} (upd H2 D (.lst []))) [] (v0::h8 σ idx) H' s'∧tn i s'.heap∧(∀ b∈fp,H' b=none)∧W i n ys H')
   ?_ m0 ⟨0,[],_,none,I4,st1,λb hb=>(hf b hb).1,w0⟩
  rintro n s5 ⟨i,ys,H5,v0,I5,st5,fr5,w5⟩;obtain⟨hDl,alt⟩:=turn i n ys H5 w5;rcases alt with⟨stop,qn⟩|⟨go,hz,N,hN,step⟩
  ·refine thn (T.done (cxC X scope cl NC h3.objs.size fp {s2 with heap:=h3,toks:=s2.toks} (upd H2 D (.lst []))) rfl rfl rfl hc i [] s5 _ H5 _ I5 (i6 fr5) st5 stop) λr s6 ⟨hr,I6⟩=>?_
   subst hr;obtain⟨m,ns6,_⟩:=id I6.loc;refine⟨m,ns6,λh' hs'=>⟨.ref D,H5,?_,rfl,qn⟩⟩;have J6:Inv X pins σ H5 s6:=I3.lY (ch:=fp) I6.os I6.base I6.hok I6.bare λb hb=>⟨(hf b hb).2.2.2.1,(hf b hb).2.1,(hf b hb).2.2.2.2.1,(hf b hb).2.2.2.2.2⟩;refine J6.turned (t':=s6.toks) (it:=h3.objs.size) (λb o hb e=>hs'.extBut b o hb e) I6.free (Ei I3.lt) (.inr I3.sz) (λy a q z=>?_) (λp hp z=>?_)
   ·obtain⟨v,q'⟩:=I3.cell y a q
    exact absurd q'.lt (by rw[z];exact DX _)
   ·exact absurd (Dh (I3.pin p hp).1) (by rw[z];exact DX _)
  ·refine thn (T.item (cxC X scope cl NC h3.objs.size fp {s2 with heap:=h3,toks:=s2.toks} (upd H2 D (.lst []))) rfl rfl rfl hc i [] s5 _ H5 _ I5 (i6 fr5) st5 go) λr s6 ⟨u,hr,h6⟩=>?_
   subst hr;refine thn h6 λ_ s7 ⟨y,H7,I7,r7,y7,st7,fr7⟩=>?_;have I7':=I7.pinned (i6 fr7) (T.obj _ _ st7);have hnl:(relabel scope X.env).names.lookup x=some .local:=lookup_relabel_local c.xl;refine wpAny_mono (br (X:=cxC X scope cl NC h3.objs.size fp {s2 with heap:=h3,toks:=s2.toks} (upd H2 D (.lst []))) (i:=0) (x:=x) (pos:=px) c.nd (by show NC[0]?=some x;rw[c.nc];rfl) (.inl hnl) (.inr hnl) _ s7 _ H7 y u
    (λσ' H'=>σ'=some y::h8 σ idx∧H'=H7) I7' r7 ⟨rfl,rfl⟩) (λ_ s8 ⟨σ8,H8,I8,e8,e8'⟩=>?_) λ_ _ z=>z.elim
   subst e8 e8';refine wpAny_mono (he _ _ _ _ _ s8 _ H8 _ I8 (step y H8 y7)) (λw s9 ⟨v,H9,I9,r9,hD9,n9⟩=>?_) λ_ _ z=>z.elim;obtain⟨m',hm,w9⟩:=hN _ _ n9;refine wpAny_mono (jF (X:=(cxC X scope cl NC h3.objs.size fp {s2 with heap:=h3,toks:=s2.toks} (upd H2 D (.lst [])))) I9 hD9 hz r9) (λ_ s10 I10=>?_) λ_ _ z=>z.elim;refine⟨m',hm,i+1,ys++[v],_,some y,I10.dO,T.keep _ _ _ st7 λb hb o e=>(I10.pin (b,o) (Di _ (Di _ (bP hb e)))).1,λb hb=>?_,w9⟩;obtain⟨o,e,d⟩:=T.obj _ _ st7 b hb;exact(I10.pin (b,o) (Di _ (Di _ (bP hb e)))).2.1
 exact codeAny_compStart_list (loop _ rfl) (T.self _ 0 _ _ _ st1 (loop _ rfl))
end
section
variable{X:Cx}
theorem nM:∀ {bs:List Bool} {us:List Value},Vals (bs.map V.bl) us→us=bs.map Value.bool
 | [],_,.nil=>rfl
 | b::r,_,.cons h t=>by
  cases h;rw[nM t];rfl
def CT(K:W.Frag):List V→Hp→VK→Prop:=λvs H Q=>∃(p:Addr) (bs:List Bool),vs=[.ref p]∧SqL K H p (bs.map V.bl)∧Q (.bl (bs.all id)) H
theorem nN(hc:X.calm=true):iq X (.builtin "all") (CT X.K):=by
 rintro pins s σ H xs us Q I r ⟨p,bs,rfl,hq,q⟩;obtain⟨u,rfl,ru⟩:=r.one;cases (show u=Value.ref p from ru);obtain⟨its,rv,⟨o,n,e1,e2,e3,e4⟩,hz⟩:=I.list hq;have e:=nM rv;have hl:s.heap.IsList p (bs.map Value.bool).toArray:=by
  rw[←e];exact⟨o,e1,e2,n,e4⟩
 have hlt:p<s.heap.objs.size:=Dh e1;refine call_all_walk (wpAny_pyIter_list hl ?_);refine⟨s.heap.objs.size,[s.heap.objs.size,p],[s.heap.objs.size],(bs.map Value.bool).toArray.size,_,_,λi=>(bs[i]?).getD true,rfl,Walks.list (A:=X.A.in1) (I.ok.hd hc) _ p (Dq hlt) _,
  ⟨⟨_,DB _ rfl,rfl,rfl⟩,hl.push _⟩,λi v s' Q' E' hP hQ=>?_,λh' tk hk=>?_⟩
 ·simp only[List.getElem?_toArray,Dw]at hP
  cases eb:bs[i]? with
  | none=>rw[eb]at hP;cases hP
  | some b =>
   rw[eb]at hP;cases hP;simp only[eb,Ef]at hQ;exact wpAny_truthy_bool hQ
 ·have e:((List.range (bs.map Value.bool).toArray.size).all λi=>(bs[i]?).getD true)=bs.all id:=by
   rw[Dj,Dl];exact LSm.range_all bs
  rw[e];refine⟨.bl _,H,I.kept (t':=tk) λb x q=>hk b x (λhm=>?_) (C9 _ q),rfl,q⟩;rw[De.mp hm]at q;exact DX _ (Dh q)
variable{scope:Scope}{cl:List (Str×Addr)}{x:Str}{idx:List Nat}{NC:List Str}{C:Addr}{fp:List Addr}{pins:List (Addr×Obj)}{σ:St}{H:Hp}{s:Shared}
end
def Ite(K:W.Frag)(a:Addr):It :=
 ⟨λi H=>∃ xs x,SqL K H a xs∧xs[i]?=some x,λi H y H'=>∃ t x,H t=none∧y=.ref t∧(∀ xs,SqL K H a xs→xs[i]?=some x)∧H'=upd H t (.tup [.int (i:Int),x]),λi H=>∃ xs,SqL K H a xs∧xs.length≤i⟩
theorem rb{P:Program}{w:World}{K:W.Frag}{es:List Expr}{x1:Nat}{pos:Pos}(a it e:Addr)(hne:e≠it) :
  Turn P w K (.Tuple es x1 pos) (Ite K a) [e,it] e (λi h=>∃ old,IsEnum h e it i old∧h.IsListIter it a i) where
 mem:=by simp
 obj:=λi h st b hb=>by
  obtain⟨old,h1,o,q,c,d⟩:=st;rcases Ds.mp hb with z|z
  ·rw[z]
   exact⟨_,h1,λv z=>by
    have z':Data.fields _=Data.cell v:=z;cases z'⟩
  ·rw[De.mp z]
   exact⟨o,q,λv z=>by rw[d]at z;cases z⟩
 keep:=λi h h' st k=>by
  obtain⟨old,h1,h2⟩:=st;exact⟨old,k e (by simp) _ h1,h2.at λo q=>k it (by simp) o q⟩
 item:=by
  intro X hP hw hK hc i pins s σ H E I hf st hg;subst hP hw hK;obtain⟨xs,x,hq,hx⟩:=hg;obtain⟨its,rv,p,hz⟩:=I.list hq;obtain⟨u,hu,ru⟩:=rv.get hx;obtain⟨old,he,hit⟩:=st;have fr:H s.heap.objs.size=none:=I.hok.fresh (Dk _);refine wpAny_pyNext_enum_item he hit p.isList (x:=u) (by simpa using hu) hne λh1 heo hit1 ht1 hz1 hk1=>⟨_,rfl,wpAny_letOwnedTupleGo_enum heo λh2 he2 hs2=>?_⟩;replace hs2:Heap.SameBut e h1 h2:=hs2;have hel:e<s.heap.objs.size:=Dh he;have k2:∀ b o,b≠e→b≠it→s.heap.get? b=some o→h2.get? b=some o:=λb o z1 z2 q=>(hs2.2 b z1).trans (hk1 b o z1 z2 q);have ht2:h2.get? s.heap.objs.size=some {cls:=.type "tuple",data:=.seq #[.int i s.toks,u]}:=(hs2.2 _ (Ei hel)).trans ht1;have CU:h2.IsListIter it a (i+1):=hit1.extBut hs2.extBut (DH hne);have nt:∀ b o,s.heap.get? b=some o→b≠s.heap.objs.size:=λb o q=>Dq (Dh q);have nh:∀ b v,H b=some v→b≠s.heap.objs.size:=λb v q=>ai q fr;have ne':∀ b v,H b=some v→b≠e∧b≠it:=λb v q=>⟨ai q (hf e (by simp)).1,ai q (hf it (by simp)).1⟩;refine⟨.ref s.heap.objs.size,upd H s.heap.objs.size (.tup [.int (i:Int),x]),?_,rfl,⟨_,x,fr,rfl,λys hy=>by rw[I.nA hy hq];exact hx,rfl⟩,⟨_,he2,CU⟩,λb hb=>?_⟩
  ·refine Inv.step (s:=s) (h':=h2) (t':=s.toks+1) (H:=H) (g':=s.gens) (d':=s.drawn) (ch:=[e,it]) I (λb hb=>⟨(hf b hb).2.2.2.1,(hf b hb).2.1,(hf b hb).2.2.2.2.1,(hf b hb).2.2.2.2.2⟩)
    (λb o _ _ z q _=>k2 b o (λy=>z (by simp[y])) (λy=>z (by simp[y])) q) (λb o _ _ z q _=>⟨o.slots,k2 b o (λy=>z (by simp[y])) (λy=>z (by simp[y])) q⟩)
    (λb o _ q n=>by rw[ak (nt b o q)];exact n) (λb o z q=>⟨o,k2 b o (λy=>z (by simp[y])) (λy=>z (by simp[y])) q⟩)
    (λb xs q=>by rw[ak (nh b _ q)];exact q) (λb o v q=>by rw[ak (nh b _ q)];exact q) (λb ps q=>⟨#[],by rw[ak (nh b _ q),q];simp⟩) (λm hm=>?_) (λb v q=>?_) I.bare
   ·obtain⟨o,es',ep,ho,r⟩:=hm
    exact⟨o,es',ep,k2 _ o (DH (hf e (by simp)).2.1) (DH (hf it (by simp)).2.1) ho,r⟩
   ·by_cases z:b=s.heap.objs.size
    ·subst z
     rw[af]at q;cases q;exact⟨by show 2≤sizeLine;decide,[.int i s.toks,u],.cons ⟨_,rfl⟩ (.cons ru .nil),_,ht2,rfl,_,rfl⟩
    ·rw[ak z]at q
     refine(I.hok b v q).n6 (λc o hc w=>?_) (λc w=>by rw[ak (nh c _ w)];exact w) λc xs w=>by rw[ak (nh c _ w)];exact w
     rcases hc with y|y
     ·rw[y]at w ⊢
      exact k2 b o (ne' b v q).1 (ne' b v q).2 w
     ·exact k2 c o (ne' c _ y).1 (ne' c _ y).2 w
  ·have hb':b<s.heap.objs.size:=by
    rcases Ds.mp hb with z|z
    ·rw[z];exact hel
    ·rw[De.mp z]
     obtain⟨o,q,_⟩:=hit;exact Dh q
   rw[ak (Dq hb')];exact(hf b hb).1
 done:=by
  intro X hP hw hK hc i pins s σ H E I hf st hg;subst hP hw hK;obtain⟨xs,hq,hx⟩:=hg;obtain⟨its,rv,p,hz⟩:=I.list hq;obtain⟨f0,f1,f2,f3,f4,f5⟩:=hf it (by simp);have hl:=rv.length;obtain⟨old,he,hit⟩:=st;exact wpAny_pyNext_enum_end (I.ok.hd hc) he hit p.isList (by simp;omega) λh' eb=>⟨rfl,I.turned (t':=s.toks) (λb o hb q=>eb b o hb q) f0 f1 f3 f4 f5⟩
 self:=λA i s Q E st h=>by
  obtain⟨old,he,hit⟩:=st;exact wpAny_pyIter_enum he h
section
variable{X:Cx}{es:List Expr}{x1:Nat}{tp:Pos}
def Bc(K:W.Frag)(ta:TA):TI:=λσ H R=>ta σ H λvs H1=>∃ a,vs=[.ref a]∧(∃ xs,SqL K H1 a xs)∧R (Ite K a) H1
theorem qr{a:Expr}{ta:TA}{p pos:Pos}(hg:Gl X "enumerate")(hm:X.mg "enumerate" = none)(ha:PA X [a] ta)(hs:starEach [a] X.env=[(false,eval a X.env)]:=by rfl):PI X (.Tuple es x1 tp) (.Call (.Name "enumerate" p) [a] [] pos) (Bc X.K ta):=by
 intro pins s σ H R I h;refine Call_ (ie I hg hm PyProof.Rows.Boot.«enumerate» (PyProof.Rows.callWith_type1 (thn (ha pos pins s σ H _ I h) λus s1 ⟨vs,H1,I1,r1,q1⟩=>?_) hs rfl));obtain⟨l,e,⟨xs,hq⟩,q⟩:=q1;subst e;cases r1 with
 | cons r rr =>
  cases rr;cases r;obtain⟨its,rv,pl,hz⟩:=I1.list hq;refine call_enumerate_list pl.isList λh' he hit hsz hk=>?_;refine wpAny_pyIter_enum he ?_;refine⟨s1.heap.objs.size+1,[s1.heap.objs.size+1,s1.heap.objs.size],_,_,H1,rfl,I1.kept (t':=s1.toks) hk,rb l s1.heap.objs.size (s1.heap.objs.size+1) (Nat.succ_ne_self _),⟨_,he,hit⟩,λb hb=>?_,q⟩;have hb':s1.heap.objs.size≤b:=by
   rcases Ds.mp hb with z|z
   ·rw[z];exact Em _
   ·rw[De.mp z]
    exact Dk _
  exact I1.tU hb' (I1.hok.fresh hb')
end
theorem nO{K:W.Frag}{a:Addr}{xs:List V}{g:TG}{tb:TS}{D:Ends}{σ:St}{H:Hp}(Pv:Nat→St→Hp→Prop)(h0:Pv 0 σ H)(hl:∀ i σ H,i≤xs.length→Pv i σ H→SqL K H a xs)
  (hs:∀ i x σ H t,xs[i]?=some x→Pv i σ H→H t=none→g (.ref t) σ (upd H t (.tup [.int (i:Int),x])) λσ2 H2=>tb {D with nx:=Pv (i+1),ct:=Pv (i+1),bk:=D.nx} σ2 H2) (hd:∀ σ H,Pv xs.length σ H→D.nx σ H) :
  ∃ W:Nat→Nat→St→Hp→Prop,(∃ m,W 0 m σ H)∧∀ i m σ H,W i m σ H →
   ((Ite K a).stop i H∧D.nx σ H)∨((Ite K a).go i H∧∃ N:St→Hp→Prop,(∀ σ' H',N σ' H'→∃ m',m'<m∧W (i+1) m' σ' H')∧∀ x H',(Ite K a).yld i H x H'→g x σ H' λσ2 H2=>tb {D with nx:=N,ct:=N,bk:=D.nx} σ2 H2):=by
 refine⟨λi m σ H=>m=xs.length-i∧i≤xs.length∧Pv i σ H,⟨xs.length,by simp,DQ _,h0⟩,?_⟩;rintro i m σ H ⟨rfl,hi,p⟩;by_cases hlt:i<xs.length
 ·refine .inr ⟨⟨xs,xs[i],hl i σ H hi p,C8 hlt⟩,Pv (i+1),λσ' H' p'=>⟨xs.length-(i+1),by omega,rfl,hlt,p'⟩,λx H' y=>?_⟩
  obtain⟨t,v,e1,e2,e3,e4⟩:=y;subst e2 e4;exact hs i v σ H t (e3 xs (hl i σ H hi p)) p e1
 ·have e:i=xs.length:=by omega
  subst e;exact .inl ⟨⟨xs,hl _ σ H hi p,Dk _⟩,hd σ H p⟩
end L2
namespace L2
open PySem
theorem ez{lo:Int}{n:Nat}{te:TE}{Q:VK}{D:Addr}{τ:St}{H:Hp}(Pv:Nat→List V→Hp→Prop)(h0:Pv 0 [] H)(hD:∀ i ys H,i≤n→Pv i ys H→H D=some (.lst ys)∧ys.length=i)(hn:n≤sizeLine)
  (hs:∀ i ys H,i<n→Pv i ys H→te (some (.int (lo+i))::τ) H λv H4=>H4 D=some (.lst ys)∧Pv (i+1) (ys++[v]) (upd H4 D (.lst (ys++[v])))) (hd:∀ ys H,Pv n ys H→Q (.ref D) H):pS (Itr lo n) D τ te Q H:=by
 refine⟨λi m ys H=>m=n-i∧i≤n∧Pv i ys H,⟨n,by simp,DQ _,h0⟩,?_⟩;rintro i m ys H2 ⟨rfl,hi,p⟩;obtain⟨hd1,hd2⟩:=hD i ys H2 hi p;refine⟨hd1,?_⟩;by_cases hlt:i<n
 ·refine .inr ⟨hlt,by omega,Pv (i+1),λzs H' p'=>⟨n-(i+1),by omega,rfl,hlt,p'⟩,λy H3 e=>?_⟩
  obtain⟨e1,e2⟩:=e;subst e1 e2;exact hs i ys _ hlt p
 ·have e:i=n:=by omega
  subst e;exact .inl ⟨Dk _,hd ys H2 p⟩
theorem ky{K:W.Frag}{a:Addr}{xs:List V}{te:TE}{Q:VK}{D:Addr}{τ:St}{H:Hp}(Pv:Nat→List V→Hp→Prop)(h0:Pv 0 [] H)(hD:∀ i ys H,i≤xs.length→Pv i ys H→H D=some (.lst ys)∧ys.length=i)(hl:∀ i ys H,i≤xs.length→Pv i ys H→SqL K H a xs)(hn:xs.length≤sizeLine)
  (hs:∀ i x ys H,xs[i]?=some x→Pv i ys H→te (some x::τ) H λv H4=>H4 D=some (.lst ys)∧Pv (i+1) (ys++[v]) (upd H4 D (.lst (ys++[v])))) (hd:∀ ys H,Pv xs.length ys H→Q (.ref D) H):pS (Itl K a) D τ te Q H:=by
 refine⟨λi m ys H=>m=xs.length-i∧i≤xs.length∧Pv i ys H,⟨xs.length,by simp,DQ _,h0⟩,?_⟩;rintro i m ys H2 ⟨rfl,hi,p⟩;obtain⟨hd1,hd2⟩:=hD i ys H2 hi p;refine⟨hd1,?_⟩;by_cases hlt:i<xs.length
 ·refine .inr ⟨⟨xs,xs[i],hl i ys H2 hi p,C8 hlt⟩,by omega,Pv (i+1),λzs H' p'=>⟨xs.length-(i+1),by omega,rfl,hlt,p'⟩,λy H3 e=>?_⟩
  obtain⟨e1,e2⟩:=e;subst e1;exact hs i y ys _ (e2 xs (hl i ys _ hi p)) p
 ·have e:i=xs.length:=by omega
  subst e;exact .inl ⟨⟨xs,hl _ ys H2 hi p,Dk _⟩,hd ys H2 p⟩
end L2
end
section
namespace L2
open PySem PySem.Spec PyProof.Rows LX
def qt(sc:Scope)(names:List (Str×NameKind)):List (Str×NameKind):=names.map λ(n,k)=>if(k == .free&&sc.kind == .function&&sc.names.lookup n == some .cell) then(n,.cell) else(n,k)
def rP(sc scope:Scope)(x:Str)(ns N:List Str)(idx:List Nat):Prop :=
 (∀ y∈scope.names,y.2≠.cell)∧(∀ y∈scope.names,y.2=.local→scope.names.lookup y.1=some .local)∧scope.names.lookup x=some .local∧(∀ p∈qt sc scope.names,p.2=.cell∨p.2=.free→p.1∈ns)∧(x::idx.map λi=>N.getD i x).Nodup ∧
 ∀ i∈idx,i<N.length∧((sc.names.lookup (N.getD i x)=some .cell∨sc.names.lookup (N.getD i x)=some .free)∧((qt sc scope.names).lookup (N.getD i x)=some .cell∨(qt sc scope.names).lookup (N.getD i x)=some .free))
instance (sc scope:Scope) (x:Str) (ns N:List Str) (idx:List Nat):Decidable (rP sc scope x ns N idx):=by unfold rP;infer_instance
theorem gf{y:Str}:∀ {cl:List (Str×Addr)},y∈cl.map (·.1)→∃ c,cl.lookup y=some c
 | [],h=>by simp at h
 | (n,c)::r,h=>by
  by_cases e:y=n
  ·exact⟨c,by simp[List.lookup,e]⟩
  ·have h':y∈r.map (·.1):=by
    rw[DN]at h;rcases Ds.mp h with z|z
    ·exact absurd z e
    ·exact z
   obtain⟨c',q⟩:=gf h';have hb:(y == n)=false:=beq_eq_false_iff_ne.mpr e;exact⟨c',by simp only[List.lookup,hb];exact q⟩
theorem fN{X:Cx}{sc scope:Scope}{cl:List (Str×Addr)}{x:Str}{ns N:List Str}{idx:List Nat}(hsc:X.env.scope=sc)(hN:X.N=N)(hk:scope.kind=.function)(p:rP sc scope x ns N idx)(hn:cl.map (·.1)=ns)
  (tK:closureFor scope X.env=pure cl) (AD:∀ q∈cl,X.env.cells.lookup q.1=some q.2):jM X scope cl x idx (x::idx.map λi=>N.getD i x):=by
 obtain⟨p1,p2,p3,p4,p5,p6⟩:=p;have re:(relabel scope X.env).names=qt sc scope.names:=by subst hsc;rfl
 subst hsc hN hn;refine⟨tK,λy c q=>AD (y,c) (DE q),λy h=>?_,p1,hk,p2,p3,rfl,p5,λi hi=>?_⟩
 ·rw[re]at h
  refine gf ?_;rcases h with h|h
  ·exact p4 (y,.cell) (DE h) (.inl rfl)
  ·exact p4 (y,.free) (DE h) (.inr rfl)
 ·rw[re]
  exact p6 i hi
theorem oz{P:Program}{w:World}{X:Cx}:dC (CXE P w) X (λ_ _ _ _=>False):=λ_ _ _ _ _ _ _ ⟨_,_,_,_,_,_,_,_,_,q⟩=>q.elim
section
variable{X:Cx}{scope:Scope}{cl:List (Str×Addr)}{x:Str}{idx:List Nat}{NC:List Str}{pins:List (Addr×Obj)}{σ:St}{H:Hp}{s:Shared}
theorem lU{i:Nat}{y:Str}{elt iter:Expr}{px py pos uG:Pos}{wi:TI}{te:TE}(hN:X.N.Nodup)(hi':X.N[i]?=some y)(hx:X.env.scope.names.lookup y=some .local)(c:jM X scope cl x idx NC)(hc:X.calm=true)(hi:PI X (.Name x px) iter wi)
  (he:∀ C fp s₀ H₀,PE (cxC X scope cl NC C fp s₀ H₀) elt te) (hsw:swapsWith (.ListComp elt [⟨.Name x px,iter,[],0⟩] scope pos) (some (.Name y py)) uG.line X.env=pure true:=by rfl)
  (hs:∀ x,foldedSetIterable iter X.env x=pure x:=by intro _;rfl):PS X (.Assign [.Name y py] (.ListComp elt [⟨.Name x px,iter,[],0⟩] scope pos) uG) (uT (w8 wi idx te) (gC i)):=by
 intro pins s σ H D0 I h;rw[exec_Assign_Name_used _ _ _ _ hsw];refine wpAny_bind (wpAny_standAt (wpAny_bind ?_));show wpAny _ _ (do let _ ←comprehension (.ListComp elt [⟨.Name x px,iter,[],0⟩] scope pos) scope X.env _ (newList []) false (eval iter X.env) (some (assign (.Name y py) X.env))) _ _ s
 refine wpAny_bind (wpAny_mono (wpAny_comprehension_free (use:=some (assign (.Name y py) X.env)) (Q:=λ_ s'=>SP X pins D0 .next s') rfl hs c.w6 c.kind c.loc
  (thn (hi pins s σ H _ I h) λv s1 h1=>thn h1 λitv s2 h2=>?_)) (λ_ s' hq=>wpAny_pure (wpAny_pure hq)) λ_ _ e=>e)
 obtain⟨it,fp,tn,J,H2,rfl,I2,T,st2,f2,q⟩:=h2;refine wpAny_newObj_type (wpAny_newFunctionEnv c.mn (by intro y hy;simp at hy) (λh₁ hns₁ hsb₁=>?_) c.kind);dsimp only at hns₁ hsb₁ ⊢;have I3:Inv X pins σ (upd H2 s2.heap.objs.size (.lst [])) {s2 with heap:=s2.heap.push {cls:=.type "list",data:=.seq ([]:List Value).toArray},toks:=s2.toks}:=I2.uc (ys:=[]) (its:=[]) .nil (DQ _);obtain⟨W,⟨m0,w0⟩,turn⟩:=q s2.heap.objs.size I2.fresh;generalize hD:s2.heap.objs.size=D at *;generalize hH:s2.heap.push {cls:=.type "list",data:=.seq ([]:List Value).toArray}=h3 at *;have qq:∀ b∈fp,b<D:=λb hb=>by
  obtain⟨o,e,_⟩:=T.obj _ _ st2 b hb;rw[←hD];exact Dh e
 have hlt:∀ b∈fp,b<h3.objs.size:=λb hb=>by
  rw[←hH,Ec,hD];exact D5 (qq b hb)
 have hf:∀ b∈fp,iK X pins (upd H2 D (.lst [])) b:=λb hb=>⟨by rw[ak (Dq (qq b hb))];exact(f2 b hb).1,(f2 b hb).2⟩;have kp:∀ b o,h3.get? b=some o→h₁.get? b=some o:=λb o e=>hsb₁.extBut b o (Dq (Dh e)) (C9 _ e);have I4:Inv (cxC X scope cl NC h3.objs.size fp {s2 with heap:=h3,toks:=s2.toks} (upd H2 D (.lst []))) [] (none::h8 σ idx) (upd H2 D (.lst [])) {s2 with heap:=h₁,toks:=s2.toks+([]:List (Str×Value)).length} :=
  nL (s:={s2 with heap:=h3,toks:=s2.toks}) c I3 hf hlt hns₁ kp
 have i6:∀ {H':Hp},(∀ b∈fp,H' b=none)→∀ b∈fp,iK (cxC X scope cl NC h3.objs.size fp {s2 with heap:=h3,toks:=s2.toks} (upd H2 D (.lst []))) [] H' b:=λhn b hb =>
  ⟨hn b hb,Dq (hlt b hb),λz=>(Ds.mp (I3.gM b z)).elim (hf b hb).2.1 (hf b hb).2.2.1,.inl hb,λy a q=>(hf b hb).2.2.2.2.1 y a (c.sub _ _ q),λp hp=>(by cases hp)⟩
 have st1:tn 0 h₁:=T.keep 0 _ _ st2 λb hb o e=>kp b o (by rw[←hH];exact C9 _ e);have loop:∀ s4:Shared,s4={s2 with heap:=h₁,toks:=s2.toks+([]:List (Str×Value)).length} →
   codeAny (model X.prog X.w) X.A (.compLoop (.ListComp elt [⟨.Name x px,iter,[],0⟩] scope pos) 0 (.ref it) (.ref D) (compEnvC scope cl h3.objs.size X.env)) (compPost (model X.prog X.w) X.A X.xe (some (assign (.Name y py) X.env)) (λ_ s'=>SP X pins D0 .next s') (.ref D) h3.objs.size) s4:=by
  rintro s4 rfl;refine fk (λn s'=>∃ i ys H' v0,Inv (cxC X scope cl NC h3.objs.size fp {s2 with heap:=h3,toks:=s2.toks} (upd H2 D (.lst []))) [] (v0::h8 σ idx) H' s'∧tn i s'.heap∧(∀ b∈fp,H' b=none)∧W i n ys H')
   ?_ m0 ⟨0,[],_,none,I4,st1,λb hb=>(hf b hb).1,w0⟩
  rintro n s5 ⟨i5,ys,H5,v0,I5,st5,fr5,w5⟩;obtain⟨hDl,alt⟩:=turn i5 n ys H5 w5;rcases alt with⟨stop,qn⟩|⟨go,hz,N,hN',step⟩
  ·refine thn (T.done (cxC X scope cl NC h3.objs.size fp {s2 with heap:=h3,toks:=s2.toks} (upd H2 D (.lst []))) rfl rfl rfl hc i5 [] s5 _ H5 _ I5 (i6 fr5) st5 stop) λr s6 ⟨hr,I6⟩=>?_
   subst hr;obtain⟨m,ns6,_⟩:=id I6.loc;have J6:Inv X pins σ H5 s6:=I3.lY (ch:=fp) I6.os I6.base I6.hok I6.bare λb hb=>⟨(hf b hb).2.2.2.1,(hf b hb).2.1,(hf b hb).2.2.2.2.1,(hf b hb).2.2.2.2.2⟩;have fC:iK X pins H5 h3.objs.size:=I3.tU (Dk _) I6.free;obtain⟨o,es,ep,ho,rr⟩:=ns6;have od:∀ v,o.data≠.cell v:=λv z=>by
    rw[rr.1]at z;cases z
   show wpAny _ _ (assign (.Name y py) X.env (.ref D)) (λ_ s''=>∃ m,s''.heap.Ns h3.objs.size m∧∀ h',Heap.SameBut h3.objs.size s''.heap h'→SP X pins D0 .next {s'' with heap:=h'}) X.xe s6;have J7:=J6.pinned (fp:=[h3.objs.size]) (λb hb=>by rw[De.mp hb];exact fC) (λb hb=>by rw[De.mp hb];exact⟨o,ho,od⟩);refine wpAny_mono (br (pos:=py) hN hi' (.inl hx) (.inr hx) _ s6 _ H5 (.ref D) (.ref D) D0.nx J7 rfl qn) (λ_ s7 ⟨σ7,H7,I7,q7⟩=>?_) (λ_ _ z=>z);have pC:=I7.pin (h3.objs.size,o) (Di _ (Di _ (bP (De.mpr rfl) ho)));refine⟨m,⟨o,es,ep,pC.1,rr⟩,λh' hs'=>⟨σ7,H7,?_,q7⟩⟩;exact I7.dO.turned (t':=s7.toks) (it:=h3.objs.size) (λb o hb e=>hs'.extBut b o hb e) pC.2.1 fC.2.1 fC.2.2.2.1 fC.2.2.2.2.1 fC.2.2.2.2.2
  ·refine thn (T.item (cxC X scope cl NC h3.objs.size fp {s2 with heap:=h3,toks:=s2.toks} (upd H2 D (.lst []))) rfl rfl rfl hc i5 [] s5 _ H5 _ I5 (i6 fr5) st5 go) λr s6 ⟨u,hr,h6⟩=>?_
   subst hr;refine thn h6 λ_ s7 ⟨y,H7,I7,r7,y7,st7,fr7⟩=>?_;have I7':=I7.pinned (i6 fr7) (T.obj _ _ st7);have hnl:(relabel scope X.env).names.lookup x=some .local:=lookup_relabel_local c.xl;refine wpAny_mono (br (X:=cxC X scope cl NC h3.objs.size fp {s2 with heap:=h3,toks:=s2.toks} (upd H2 D (.lst []))) (i:=0) (x:=x) (pos:=px) c.nd (by show NC[0]?=some x;rw[c.nc];rfl) (.inl hnl) (.inr hnl) _ s7 _ H7 y u
    (λσ' H'=>σ'=some y::h8 σ idx∧H'=H7) I7' r7 ⟨rfl,rfl⟩) (λ_ s8 ⟨σ8,H8,I8,e8,e8'⟩=>?_) λ_ _ z=>z.elim
   subst e8 e8';refine wpAny_mono (he _ _ _ _ _ s8 _ H8 _ I8 (step y H8 y7)) (λw s9 ⟨v,H9,I9,r9,hD9,n9⟩=>?_) λ_ _ z=>z.elim;obtain⟨m',hm,w9⟩:=hN' _ _ n9;refine wpAny_mono (jF (X:=(cxC X scope cl NC h3.objs.size fp {s2 with heap:=h3,toks:=s2.toks} (upd H2 D (.lst [])))) I9 hD9 hz r9) (λ_ s10 I10=>?_) λ_ _ z=>z.elim;refine⟨m',hm,i5+1,ys++[v],_,some y,I10.dO,T.keep _ _ _ st7 λb hb o e=>(I10.pin (b,o) (Di _ (Di _ (bP hb e)))).1,λb hb=>?_,w9⟩;obtain⟨o,e,d⟩:=T.obj _ _ st7 b hb;exact(I10.pin (b,o) (Di _ (Di _ (bP hb e)))).2.1
 exact codeAny_compStart_list (loop _ rfl) (T.self _ 0 _ _ _ st1 (loop _ rfl))
def CV(K:W.Frag):R2:=λx y H Q=>∃ a b xs ys,x=.ref a∧y=.ref b∧SqL K H a xs∧SqL K H b ys∧xs.length=ys.length∧xs.all c6=true∧ys.all c6=true∧Q (.bl (!tJ xs ys)) H
theorem xW{X:Cx}(hu:X.A.units<cLine):OpR X (compareOp .NotEq) (CV X.K):=by
 intro pins s σ H x y v u Q I rx ry h;obtain⟨a,b,xs,ys,rfl,rfl,ha,hb,hl,fx,fy,q⟩:=h;cases rx;cases ry;obtain⟨vs,r1,⟨o1,n1,e1,c1,_,g1⟩,_⟩:=I.list ha;obtain⟨ws,r2,⟨o2,n2,e2,c2,_,g2⟩,_⟩:=I.list hb;have l1:=r1.length;have l2:=r2.length;refine SeqAt.RcNeAt.lists (e:=λj=>eqV (xs.getD j .non) (ys.getD j .non)) ⟨o1,e1,c1,n1,g1⟩ ⟨o2,e2,c2,n2,g2⟩ (by simp only[Dj];omega) hu (λj h1 h2=>?_) _ _ _ _ ⟨.bl _,H,I,rfl,?_⟩
 ·simp only[Dj]at h1 h2
  obtain⟨w1,z1,rz1⟩:=r1.get (i:=j) (x:=xs[j]'(by omega)) (C8 (by omega));obtain⟨w2,z2,rz2⟩:=r2.get (i:=j) (x:=ys[j]'(by omega)) (C8 (by omega));have a1:vs.toArray[j]=w1:=by
   have:=(Dd.mp z1).2
   simpa using this
  have a2:ws.toArray[j]=w2:=by
   have:=(Dd.mp z2).2
   simpa using this
  rw[a1,a2];have d1:xs.getD j .non=xs[j]'(by omega):=by simp[List.getD,C8 (show j<xs.length by omega)]
  have d2:ys.getD j .non=ys[j]'(by omega):=by simp[List.getD,C8 (show j<ys.length by omega)]
  show SeqAt.EqAt _ _ _ _ (eqV (xs.getD j .non) (ys.getD j .non));rw[d1,d2];exact md rz1 rz2 (D2.mp fx _ (Eg _)) (D2.mp fy _ (Eg _))
 ·have:vs.toArray.size=xs.length:=by simp only[Dj];omega
  rw[this];exact q
end
theorem qu:∀ {us:List Value} {ks:List Int},us.length=ks.length→(∀(j:Nat) (v:Value),us[j]?=some v→∃ t,v=Value.int (ks.getD j 0) t)→IntsAre us ks
 | [],[],_,_=>.nil
 | [],_::_,h,_=>by simp at h
 | _::_,[],h,_=>by simp at h
 | u::us,k::ks,h,f=>by
  obtain⟨t,e⟩:=f 0 u rfl;subst e;exact .cons k t (qu (by simpa using h) λj v q=>f (j+1) v q)
section
variable{X:Cx}
def xX:List V→Hp→VK→Prop:=λvs H Q=>∃(p:Addr) (kvs:List (Key×V)) (ks:List Int),vs=[.ref p]∧H p=some (.dK kvs)∧kvs.map (·.1)=ks.map Sum.inl∧ks.length<64 ∧
 ∀(l:Addr) (ns':List Int),H l=none→ns'.Perm ks→ns'.Pairwise (·≤·)→Q (.ref l) (upd H l (.lst (ns'.map V.int)))
theorem kz{P:Program}{w:World}{vs:List (Key×Value)}{ks:List Int}{acc:Array Value}(hk:vs.map (·.1)=ks.map Sum.inl)(ha:acc.size=vs.length)(h:∀(j:Nat) (v:Value),acc[j]?=some v→∃ k x,vs[j]?=some (k,x)∧(bJ P w).is k v=true):IntsAre acc.toList ks:=by
 have hl:vs.length=ks.length:=by
  have:=congrArg List.length hk
  simpa using this
 refine qu (by rw[Eh];omega) λj v e=>?_;obtain⟨k,x,h1,h2⟩:=h j v (by rw[←Array.getElem?_toList];exact e);have h3:(vs.map (·.1))[j]?=some k:=by rw[Dw,h1];rfl
 rw[hk,Dw]at h3;obtain⟨i,hi,rfl⟩:=DG.mp h3;have h4:kf (.inl i) v=true:=h2;rcases bz h4 with⟨i',t,e1,e2⟩|⟨y,t,e1,_⟩
 ·injection e1 with e1
  subst e1;exact⟨t,by rw[e2];simp[List.getD,hi]⟩
 ·cases e1
theorem h9(hc:X.calm=true):iq X (.builtin "sorted") xX:=by
 rintro pins s σ H xs us Q I r ⟨p,kvs,ks,rfl,hp,hk,h64,q⟩;obtain⟨u,rfl,ru⟩:=r.one;cases (show u=Value.ref p from ru);obtain⟨hz,hd,vs,rel,dd⟩:=wU I.hok hp;obtain⟨ep,hat⟩:=dd.dictAt;have hh:=I.ok.hd hc;have hl:ks.length=kvs.length:=by
  have:=congrArg List.length hk
  simpa using this.symm
 refine Calls.call_function_entry kind_sorted plain_sorted entry_sorted (args_sorted1 _) ?_;unfold Builtin.«sorted»;refine wpAny_bind (m:=checkCount "sorted" 1 1 _) (wpAny_pure ?_);refine wpAny_bind (PySem.W.kdu_collect (A:=X.A.in1) (PySem.W.kdl_dict (knd:=bJ X.prog X.w) (kvs:=vs) (ep:=ep) hd) hh hat (by rw[←rel.length];exact hz) λh' tk acc hkp hacc=>?_);have hI:IntsAre acc.toList ks:=kz (by rw[←rel.keys];exact hk) hacc.1 hacc.2;have hlen:=hI.length;have I1:Inv X pins σ H {s with heap:=h',toks:=tk}:=I.kept (t':=tk) hkp;refine wpAny_bind (wpAny_newList ?_);have hoL:(h'.push (seqObj "list" acc.toList.toArray 0)).get? h'.objs.size=some (seqObj "list" acc.toList.toArray 0):=DB _ rfl;show wpAny _ _ _ _ _ {s with heap:=h'.push (seqObj "list" acc.toList.toArray 0),toks:=tk};refine wpAny_bind (wpAny_holding (wpAny_call_entry slot_list_sort ⟨_,hoL,rfl⟩ entry_list_sort (list_sort_tree hoL hI (by omega) λout ns' a1 a2 a3=>⟨_,rfl,?_⟩) (args_list_sort _)));refine wpAny_pure ⟨_,rfl,?_⟩;obtain⟨e,he⟩:=sortedHeap_at (out:=out) hoL;refine⟨.ref h'.objs.size,_,I1.laid (a:=h'.objs.size) (o:=.lst (ns'.map V.int)) (t':=tk) (λb o hb=>?_) (Dk _) ?_,rfl,q _ ns' (I1.hok.fresh (Dk _)) a2 a3⟩
 ·have hlt:=Dh hb
  rw[sortedHeap_old (Dq hlt) (by rw[size_push'];exact D5 hlt),Heap.get?_push_ne _ _ _ (Dq hlt)];exact hb
 ·refine⟨by rw[Dl,a2.length_eq,hl];exact hz,out.toList,e,gE a1,?_⟩
  rw[he]
end
theorem sY{v:V}(h:c6 v=true):eqV v v=true:=by
 cases v with
 | non=>rfl
 | bl b=>cases b<;>rfl
 | int n=>simp[eqV]
 | str z=>simp[eqV]
 | _=>exact absurd (show false=true from h) Df
section
variable{X:Cx}
end
section
variable{X:Cx}{tg:Expr}
end
section
variable{X:Cx}{scope:Scope}{cl:List (Str×Addr)}{x:Str}{idx:List Nat}{NC:List Str}{pins:List (Addr×Obj)}{σ:St}{H:Hp}{s:Shared}
end
end L2
end
section
namespace L2
open PySem PySem.Spec PyProof.Rows LX
section
variable{P:Program}{w:World}{A:Around}{E:Value→Shared→Prop}{s:Shared}{a:Addr}{S:Int→Bool}{n:Nat}
end
end L2
end
section
namespace L2
open PySem PySem.Spec PyProof.Rows LX
section
variable{P:Program}{w:World}{A:Around}{R:Result→Shared→Prop}{I:Addr}{fp wr:List Addr}{G:Array GenState→Array GenState→Prop}{n:Nat}{p:Nat→Value→Prop}{St:Nat→Shared→Prop}
end
section
variable{P:Program}{w:World}{A:Around}{E:Value→Shared→Prop}{s:Shared}
end
section
variable{P:Program}{w:World}{A:Around}{E:Value→Shared→Prop}{s:Shared}{it a:Addr}{first:Value}{i n ep:Nat}
end
section
variable{P:Program}{w:World}{A:Around}{E:Value→Shared→Prop}{s:Shared}{it a:Addr}{first:Value}{i n ep:Nat}{es:Array (Int×Value)}{t:SetTable}
end
section
variable{P:Program}{w:World}{A:Around}{E:Value→Shared→Prop}{s:Shared}{I a:Addr}{ep:Nat}{es:Array (Int×Value)}{t:SetTable}{sl:Nat→Nat}{vs:List Value}
end
end L2
end
section
namespace L2
open PySem PySem.Spec PyProof.Rows LX PySem.W
section
variable{P:Program}{w:World}{A:Around}{E:Value→Shared→Prop}{s:Shared}{a:Addr}{ep:Nat}{es:Array (Int×Value)}{t:SetTable}
end
section
variable{P:Program}{w:World}{A:Around}{E:Value→Shared→Prop}{s:Shared}{a:Addr}{ep:Nat}{es:Array (Int×Value)}{t:SetTable}
end
section
variable{X:Cx}
end
end L2
end
section
namespace L2
open PySem PySem.Spec PyProof.Rows LX
section
variable{X:Cx}{pins:List (Addr×Obj)}{σ:St}{H:Hp}{s:Shared}{d:Addr}{kvs:List (Key×V)}
end
section
variable{X:Cx}
end
section
variable{X:Cx}{pins:List (Addr×Obj)}{σ:St}{H:Hp}{s:Shared}
end
theorem oA:∀ {ms ns:List Int},ms.length=ns.length→tJ (ms.map V.int) (ns.map V.int)=decide (ms=ns):=by
 intro ms ns hl;rw[Ej,decide_eq_true_eq];unfold tJ;rw[D2];constructor
 ·intro h
  refine List.ext_getElem hl λj h1 h2=>?_
  have:=h j (by rw[Dl];exact Eo.mpr h1)
  simpa[List.getD,h1,h2,eqV] using this
 ·rintro rfl j hj
  rw[Dl]at hj;have hj:=Eo.mp hj;simp[List.getD,hj,eqV]
section
variable{X:Cx}
end
section
variable{X:Cx}
def xY:List V→Hp→VK→Prop:=λvs H Q=>∃(p:Addr) (kvs:List (Key×V)) (ks:List Int),vs=[.ref p]∧Rd H p (.dK kvs)∧kvs.map (·.1)=ks.map Sum.inl∧∀ l:Addr,H l=none→Q (.ref l) (upd H l (.lst (ks.map V.int)))
theorem oB(hc:X.calm=true):iq X (.type "list") xY:=by
 rintro pins s σ H xs us Q I r ⟨p,kvs,ks,rfl,hp,hk,q⟩;obtain⟨u,rfl,ru⟩:=r.one;cases (show u=Value.ref p from ru);obtain⟨hz,hd,vs,rel,dd⟩:=me I.hok hp;obtain⟨ep,hat⟩:=dd.dictAt;have hl:ks.length=kvs.length:=by
  have:=congrArg List.length hk
  simpa using this.symm
 refine PySem.W.kdl_call (PySem.W.kdl_dict (knd:=bJ X.prog X.w) (kvs:=vs) (ep:=ep) hd) (I.ok.hd hc) hat (by rw[←rel.length];exact hz) λh' tk acc c hkp hS hacc=>?_;have hI:IntsAre acc.toList ks:=kz (by rw[←rel.keys];exact hk) hacc.1 hacc.2;refine⟨.ref s.heap.objs.size,_,I.laid (a:=s.heap.objs.size) (o:=.lst (ks.map V.int)) (t':=tk) hkp (Dk _) ?_,rfl,q _ (I.hok.fresh (Dk _))⟩;refine⟨by rw[Dl,hl];exact hz,acc.toList,c,gE hI,?_⟩;rw[hS]
end
section
variable{X:Cx}
end
section
variable{P:Program}{w:World}{A:Around}{E:Value→Shared→Prop}
end
section
variable{P:Program}{w:World}{A:Around}{R:Result→Shared→Prop}{KK:Type}[DecidableEq KK]{knd:KeyKind P w KK}
end
section
variable{P:Program}{w:World}{A:Around}{E:Value→Shared→Prop}{KK:Type}[DecidableEq KK]{knd:KeyKind P w KK}
end
section
variable{P:Program}{w:World}{A:Around}{E:Value→Shared→Prop}
end
section
variable{X:Cx}
end
section
variable{X:Cx}
end
inductive Vl where
 | a (v:V)
 | l (xs:List Vl)
 | t (xs:List Vl)
def Rp(H:Hp):Nat→V→Vl→Prop
 | 0,v,.a x=>v=x∧c6 x=true
 | 0,_,.l _=>False
 | 0,_,.t _=>False
 | _+1,v,.a x=>v=x∧c6 x=true
 | n+1,v,.l xs=>∃ p us,v=.ref p∧H p=some (.lst us)∧us.length=xs.length∧∀(i:Nat) (u:V) (x:Vl),us[i]?=some u→xs[i]?=some x→Rp H n u x
 | n+1,v,.t xs=>∃ p us,v=.ref p∧H p=some (.tup us)∧us.length=xs.length∧∀(i:Nat) (u:V) (x:Vl),us[i]?=some u→xs[i]?=some x→Rp H n u x
def eqD:Nat→Vl→Vl→Bool
 | _,.a x,.a y=>eqV x y
 | n+1,.l xs,.l ys=>(List.range xs.length).all (λi=>match xs[i]?,ys[i]? with|some x,some y=>eqD n x y|_,_=>true)&&xs.length == ys.length
 | n+1,.t xs,.t ys=>(List.range xs.length).all (λi=>match xs[i]?,ys[i]? with|some x,some y=>eqD n x y|_,_=>true)&&xs.length == ys.length
 | _,_,_=>false
theorem Rp.js{H:Hp}{n:Nat}{v x:V}(h:Rp H n v (.a x)):v=x∧c6 x=true:=by cases n<;>exact h
theorem oE{n:Nat}{x y:V}:eqD n (.a x) (.a y)=eqV x y:=by cases n<;>rfl
theorem sZ{H:Hp}{n:Nat}{us:List V}{xs ys:List Vl}(lx:us.length=xs.length)(ly:us.length=ys.length)(h:∀(i:Nat) (x y:Vl),xs[i]?=some x→ys[i]?=some y→eqD n x y=true) :
  ((List.range xs.length).all (λi=>match xs[i]?,ys[i]? with|some x,some y=>eqD n x y|_,_=>true)&&xs.length == ys.length)=true:=by
 rw[DW];refine⟨D2.mpr λi hi=>?_,beq_iff_eq.mpr (by omega)⟩;have hi:=Eo.mp hi;have e1:xs[i]?=some xs[i]:=C8 hi;have e2:ys[i]?=some (ys[i]'(by omega)):=C8 (by omega);simp only[e1,e2];exact h i _ _ e1 e2
theorem nP{H:Hp}:∀ {n:Nat} {v:V} {a b:Vl},Rp H n v a→Rp H n v b→eqD n a b=true:=by
 intro n;induction n with
 | zero =>
  intro v a b ha hb;cases a with
  | a x =>
   cases b with
   | a y =>
    obtain⟨rfl,fx⟩:=ha.js;obtain⟨rfl,_⟩:=hb.js;rw[oE];exact sY fx
   | l ys=>exact hb.elim
   | t ys=>exact hb.elim
  | l xs=>exact ha.elim
  | t xs=>exact ha.elim
 | succ n ih =>
  intro v a b ha hb;cases a with
  | a x =>
   obtain⟨rfl,fx⟩:=ha.js;cases b with
   | a y =>
    obtain⟨rfl,_⟩:=hb.js;rw[oE];exact sY fx
   | l ys =>
    obtain⟨p,us,rfl,_⟩:=hb;exact absurd (show false=true from fx) Df
   | t ys =>
    obtain⟨p,us,rfl,_⟩:=hb;exact absurd (show false=true from fx) Df
  | l xs =>
   obtain⟨p,us,rfl,hp,hl,hi⟩:=ha;cases b with
   | a y =>
    obtain⟨e,fy⟩:=hb.js;rw[←e]at fy;exact absurd (show false=true from fy) Df
   | l ys =>
    obtain⟨q,ws,e,hq,ml,mi⟩:=hb;cases e;rw[hp]at hq;cases hq;exact sZ (H:=H) hl ml λi x y e1 e2=>by
     have hiu:i<us.length:=(by rw[hl];exact(Dd.mp e1).1);exact ih (hi i _ x (C8 hiu) e1) (mi i _ y (C8 hiu) e2)
   | t ys =>
    obtain⟨q,ws,e,hq,ml,mi⟩:=hb;cases e;rw[hp]at hq;cases hq
  | t xs =>
   obtain⟨p,us,rfl,hp,hl,hi⟩:=ha;cases b with
   | a y =>
    obtain⟨e,fy⟩:=hb.js;rw[←e]at fy;exact absurd (show false=true from fy) Df
   | t ys =>
    obtain⟨q,ws,e,hq,ml,mi⟩:=hb;cases e;rw[hp]at hq;cases hq;exact sZ (H:=H) hl ml λi x y e1 e2=>by
     have hiu:i<us.length:=(by rw[hl];exact(Dd.mp e1).1);exact ih (hi i _ x (C8 hiu) e1) (mi i _ y (C8 hiu) e2)
   | l ys =>
    obtain⟨q,ws,e,hq,ml,mi⟩:=hb;cases e;rw[hp]at hq;cases hq
structure RcB(A:Around)(s:Shared)(u v:Value)(b:Bool):Prop where
 eq:SeqAt.RcAt A s u v b
 ne:SeqAt.RcNeAt A s u v (!b)
theorem rf{A:Around}{s:Shared}{y x:V}{u v:Value}(ry:RelV y u)(rx:RelV x v)(fy:c6 y=true)(fx:c6 x=true):RcB A s u v (eqV y x):=by
 cases y with
 | non =>
  cases ry;cases x with
  | non=>cases rx;exact⟨.none_none ,.none_none ⟩
  | bl b=>cases rx;exact⟨.none_bool b,.none_bool b⟩
  | int b=>obtain⟨t,rfl⟩:=rx;exact⟨.none_int b t,.none_int b t⟩
  | str b=>obtain⟨t,rfl⟩:=rx;exact⟨.none_str b t,.none_str b t⟩
  | _=>exact absurd (show false=true from fx) Df
 | bl a =>
  cases ry;cases x with
  | non=>cases rx;exact⟨.bool_none a,.bool_none a⟩
  | bl b=>cases rx;exact⟨.bool_bool a b,.bool_bool a b⟩
  | int b=>obtain⟨t,rfl⟩:=rx;exact⟨.bool_int a b t,.bool_int a b t⟩
  | str b=>obtain⟨t,rfl⟩:=rx;exact⟨.bool_str a b t,.bool_str a b t⟩
  | _=>exact absurd (show false=true from fx) Df
 | int a =>
  obtain⟨t',rfl⟩:=ry;cases x with
  | non=>cases rx;exact⟨.int_none a t',.int_none a t'⟩
  | bl b=>cases rx;exact⟨.int_bool a t' b,.int_bool a t' b⟩
  | int b=>obtain⟨t,rfl⟩:=rx;exact⟨.int_int a t' b t,.int_int a t' b t⟩
  | str b=>obtain⟨t,rfl⟩:=rx;exact⟨.int_str a t' b t,.int_str a t' b t⟩
  | _=>exact absurd (show false=true from fx) Df
 | str a =>
  obtain⟨t',rfl⟩:=ry;cases x with
  | non=>cases rx;exact⟨.str_none a t',.str_none a t'⟩
  | bl b=>cases rx;exact⟨.str_bool a t' b,.str_bool a t' b⟩
  | int b=>obtain⟨t,rfl⟩:=rx;exact⟨.str_int a t' b t,.str_int a t' b t⟩
  | str b=>obtain⟨t,rfl⟩:=rx;exact⟨.str_str a t' b t,.str_str a t' b t⟩
  | _=>exact absurd (show false=true from fx) Df
 | _=>exact absurd (show false=true from fy) Df
section
variable{X:Cx}{pins:List (Addr×Obj)}{σ:St}{H:Hp}{s:Shared}
theorem nQ{A:Around}{x:V}{u:Value}{l:Addr}{items:Array Value}(rx:RelV x u)(fx:c6 x=true)(hl:s.heap.IsList l items)(hu:A.units<cLine):RcB A s u (.ref l) false∧RcB A s (.ref l) u false∧SeqAt.EqAt A s u (.ref l) false∧SeqAt.EqAt A s (.ref l) u false:=by
 cases x with
 | non=>cases rx;exact⟨⟨.none_list hl hu,.none_list hl hu⟩,⟨.list_none hl hu,.list_none hl hu⟩,.none_list hl hu,.list_none hl hu⟩
 | bl b=>cases rx;exact⟨⟨.bool_list _ hl hu,.bool_list _ hl hu⟩,⟨.list_bool _ hl hu,.list_bool _ hl hu⟩,.bool_list _ hl hu,.list_bool _ hl hu⟩
 | int n=>obtain⟨t,rfl⟩:=rx;exact⟨⟨.int_list _ _ hl hu,.int_list _ _ hl hu⟩,⟨.list_int _ _ hl hu,.list_int _ _ hl hu⟩,.int_list _ _ hl hu,.list_int _ _ hl hu⟩
 | str z=>obtain⟨t,rfl⟩:=rx;exact⟨⟨.str_list _ _ hl hu,.str_list _ _ hl hu⟩,⟨.list_str _ _ hl hu,.list_str _ _ hl hu⟩,.str_list _ _ hl hu,.list_str _ _ hl hu⟩
 | _=>exact absurd (show false=true from fx) Df
theorem nR{A:Around}{x:V}{u:Value}{l:Addr}{items:Array Value}(rx:RelV x u)(fx:c6 x=true)(hl:s.heap.IsTuple l items)(hu:A.units<cLine):RcB A s u (.ref l) false∧RcB A s (.ref l) u false∧SeqAt.EqAt A s u (.ref l) false∧SeqAt.EqAt A s (.ref l) u false:=by
 cases x with
 | non=>cases rx;exact⟨⟨.none_tuple hl hu,.none_tuple hl hu⟩,⟨.tuple_none hl hu,.tuple_none hl hu⟩,.none_tuple hl hu,.tuple_none hl hu⟩
 | bl b=>cases rx;exact⟨⟨.bool_tuple _ hl hu,.bool_tuple _ hl hu⟩,⟨.tuple_bool _ hl hu,.tuple_bool _ hl hu⟩,.bool_tuple _ hl hu,.tuple_bool _ hl hu⟩
 | int n=>obtain⟨t,rfl⟩:=rx;exact⟨⟨.int_tuple _ _ hl hu,.int_tuple _ _ hl hu⟩,⟨.tuple_int _ _ hl hu,.tuple_int _ _ hl hu⟩,.int_tuple _ _ hl hu,.tuple_int _ _ hl hu⟩
 | str z=>obtain⟨t,rfl⟩:=rx;exact⟨⟨.str_tuple _ _ hl hu,.str_tuple _ _ hl hu⟩,⟨.tuple_str _ _ hl hu,.tuple_str _ _ hl hu⟩,.str_tuple _ _ hl hu,.tuple_str _ _ hl hu⟩
 | _=>exact absurd (show false=true from fx) Df
theorem lst_is(I:Inv X pins σ H s){p:Addr}{us:List V}(h:H p=some (.lst us)):∃ vs,Vals us vs∧s.heap.IsList p vs.toArray:=by
 obtain⟨vs,r,⟨o,n,e,c,_,g⟩,_⟩:=I.list (SqL.of h);exact⟨vs,r,o,e,c,n,g⟩
theorem tup_is(I:Inv X pins σ H s){p:Addr}{us:List V}(h:H p=some (.tup us)):∃ vs,Vals us vs∧s.heap.IsTuple p vs.toArray:=by
 obtain⟨vs,r,t,_⟩:=I.tuple (SqT.of h);exact⟨vs,r,t⟩
theorem rcG(I:Inv X pins σ H s):∀ {n:Nat} {x y:V} {a b:Vl},Rp H n x a→Rp H n y b→∀ {A:Around} {u v:Value},RelV x u→RelV y v→A.units+n<cLine →
  SeqAt.EqAt A s u v (eqD n a b)∧(¬((∃ z,a=.a z)∧∃ z,b=.a z)→RcB A s u v (eqD n a b)):=by
 intro n;induction n with
 | zero =>
  intro x y a b ha hb A u v rx ry hu;cases a with
  | a z =>
   cases b with
   | a z' =>
    obtain⟨rfl,fx⟩:=ha.js;obtain⟨rfl,fy⟩:=hb.js;rw[oE];exact⟨md rx ry fx fy,λh=>(h ⟨⟨_,rfl⟩,_,rfl⟩).elim⟩
   | _=>exact hb.elim
  | _=>exact ha.elim
 | succ n ih =>
  intro x y a b ha hb A u v rx ry hu;have hu0:A.units<cLine:=by omega
  cases a with
  | a z =>
   obtain⟨rfl,fx⟩:=ha.js;cases b with
   | a z' =>
    obtain⟨rfl,fy⟩:=hb.js;rw[oE];exact⟨md rx ry fx fy,λh=>(h ⟨⟨_,rfl⟩,_,rfl⟩).elim⟩
   | l ys =>
    obtain⟨q,ws,rfl,hq,_⟩:=hb;obtain⟨vs,_,hl⟩:=lst_is I hq;cases ry;obtain⟨h1,_,h3,_⟩:=nQ rx fx hl hu0;exact⟨h3,λ_=>h1⟩
   | t ys =>
    obtain⟨q,ws,rfl,hq,_⟩:=hb;obtain⟨vs,_,hl⟩:=tup_is I hq;cases ry;obtain⟨h1,_,h3,_⟩:=nR rx fx hl hu0;exact⟨h3,λ_=>h1⟩
  | l xs =>
   have ha':=ha;obtain⟨p,us,rfl,hp,lx,hx⟩:=ha;obtain⟨vs,r1,hl⟩:=lst_is I hp;cases rx;cases b with
   | a z' =>
    obtain⟨rfl,fy⟩:=hb.js;obtain⟨_,h2,_,h4⟩:=nQ ry fy hl hu0;exact⟨h4,λ_=>h2⟩
   | l ys =>
    have hb':=hb;obtain⟨q,ws,rfl,hq,ly,hy⟩:=hb;obtain⟨vs2,r2,hl2⟩:=lst_is I hq;cases ry;have l1:=r1.length;have l2:=r2.length;have rc:RcB A s (.ref p) (.ref q) (eqD (n+1) (.l xs) (.l ys)):=by
     by_cases hs:xs.length=ys.length
     ·have he:∀ j (h1:j<vs.toArray.size) (h2:j<vs2.toArray.size),SeqAt.EqAt A.in1 s vs.toArray[j] vs2.toArray[j] (match xs[j]?,ys[j]? with|some x,some y=>eqD n x y|_,_=>true):=λj h1 h2=>by
       simp only[Dj]at h1 h2;obtain⟨w1,z1,rz1⟩:=r1.get (i:=j) (x:=us[j]'(by omega)) (C8 (by omega));obtain⟨w2,z2,rz2⟩:=r2.get (i:=j) (x:=ws[j]'(by omega)) (C8 (by omega));have a1:vs.toArray[j]=w1:=by
        have:=(Dd.mp z1).2
        simpa using this
       have a2:vs2.toArray[j]=w2:=by
        have:=(Dd.mp z2).2
        simpa using this
       rw[a1,a2];have e1:xs[j]?=some (xs[j]'(by omega)):=C8 (by omega);have e2:ys[j]?=some (ys[j]'(by omega)):=C8 (by omega);simp only[e1,e2];exact(ih (hx j _ _ (C8 (by omega)) e1) (hy j _ _ (C8 (by omega)) e2) rz1 rz2 (by rw[Around.in1_units];omega)).1
      have e:eqD (n+1) (.l xs) (.l ys)=(List.range vs.toArray.size).all (λi=>match xs[i]?,ys[i]? with|some x,some y=>eqD n x y|_,_=>true):=by
       show(_&&_)=_;rw[beq_iff_eq.mpr hs,EA];simp only[Dj];rw[show vs.length=xs.length by omega]
      rw[e];exact⟨.lists hl hl2 (by simp only[Dj];omega) hu0 he,.lists hl hl2 (by simp only[Dj];omega) hu0 he⟩
     ·have e:eqD (n+1) (.l xs) (.l ys)=false:=by
       show(_&&_)=_;rw[beq_eq_false_iff_ne.mpr hs,Ed]
      rw[e];exact⟨.lists_lengths hl hl2 (by simp only[Dj,bne_iff_ne,ne_eq];omega) hu0,.lists_lengths hl hl2 (by simp only[Dj,bne_iff_ne,ne_eq];omega) hu0⟩
    refine⟨?_,λ_=>rc⟩;by_cases e:p=q
    ·subst e
     rw[nP ha' hb'];exact .same _
    ·exact .of_refs e rc.eq
   | t ys =>
    obtain⟨q,ws,rfl,hq,ly,hy⟩:=hb;obtain⟨vs2,r2,hl2⟩:=tup_is I hq;cases ry;have ne:p≠q:=λe=>by rw[e,hq]at hp;cases hp
    exact⟨.of_refs ne (.list_tuple hl hl2 hu0),λ_=>⟨.list_tuple hl hl2 hu0,.list_tuple hl hl2 hu0⟩⟩
  | t xs =>
   have ha':=ha;obtain⟨p,us,rfl,hp,lx,hx⟩:=ha;obtain⟨vs,r1,hl⟩:=tup_is I hp;cases rx;cases b with
   | a z' =>
    obtain⟨rfl,fy⟩:=hb.js;obtain⟨_,h2,_,h4⟩:=nR ry fy hl hu0;exact⟨h4,λ_=>h2⟩
   | l ys =>
    obtain⟨q,ws,rfl,hq,ly,hy⟩:=hb;obtain⟨vs2,r2,hl2⟩:=lst_is I hq;cases ry;have ne:p≠q:=λe=>by rw[e,hq]at hp;cases hp
    exact⟨.of_refs ne (.tuple_list hl hl2 hu0),λ_=>⟨.tuple_list hl hl2 hu0,.tuple_list hl hl2 hu0⟩⟩
   | t ys =>
    have hb':=hb;obtain⟨q,ws,rfl,hq,ly,hy⟩:=hb;obtain⟨vs2,r2,hl2⟩:=tup_is I hq;cases ry;have l1:=r1.length;have l2:=r2.length;have he:∀ j (h1:j<vs.toArray.size) (h2:j<vs2.toArray.size),SeqAt.EqAt A.in1 s vs.toArray[j] vs2.toArray[j] (match xs[j]?,ys[j]? with|some x,some y=>eqD n x y|_,_=>true):=λj h1 h2=>by
     simp only[Dj]at h1 h2;obtain⟨w1,z1,rz1⟩:=r1.get (i:=j) (x:=us[j]'(by omega)) (C8 (by omega));obtain⟨w2,z2,rz2⟩:=r2.get (i:=j) (x:=ws[j]'(by omega)) (C8 (by omega));have a1:vs.toArray[j]=w1:=by
      have:=(Dd.mp z1).2
      simpa using this
     have a2:vs2.toArray[j]=w2:=by
      have:=(Dd.mp z2).2
      simpa using this
     rw[a1,a2];have e1:xs[j]?=some (xs[j]'(by omega)):=C8 (by omega);have e2:ys[j]?=some (ys[j]'(by omega)):=C8 (by omega);simp only[e1,e2];exact(ih (hx j _ _ (C8 (by omega)) e1) (hy j _ _ (C8 (by omega)) e2) rz1 rz2 (by rw[Around.in1_units];omega)).1
    have e:eqD (n+1) (.t xs) (.t ys)=((List.range (min vs.toArray.size vs2.toArray.size)).all (λi=>match xs[i]?,ys[i]? with|some x,some y=>eqD n x y|_,_=>true)&&vs.toArray.size == vs2.toArray.size):=by
     show(_&&_)=_;simp only[Dj];by_cases hs:xs.length=ys.length
     ·rw[show min vs.length vs2.length=xs.length by omega,show(vs.length == vs2.length)=(xs.length == ys.length) by rw[show vs.length=xs.length by omega,show vs2.length=ys.length by omega]]
     ·rw[beq_eq_false_iff_ne.mpr hs,show(vs.length == vs2.length)=false from beq_eq_false_iff_ne.mpr (by omega),Ed,Ed]
    have rc:RcB A s (.ref p) (.ref q) (eqD (n+1) (.t xs) (.t ys)):=by
     rw[e];exact⟨.tuples hl hl2 hu0 he,.tuples hl hl2 hu0 he⟩
    refine⟨?_,λ_=>rc⟩;by_cases e:p=q
    ·subst e
     rw[nP ha' hb'];exact .same _
    ·exact .of_refs e rc.eq
end
def CW(n:Nat):R2:=λx y H Q=>∃ a b,Rp H n x a∧Rp H n y b∧Q (.bl (eqD n a b)) H
section
variable{X:Cx}
theorem xZ{n:Nat}(hu:X.A.units+n<cLine):OpR X (compareOp .Eq) (CW n):=by
 rintro pins s σ H x y v u Q I rx ry ⟨a,b,ha,hb,q⟩;by_cases h:(∃ z,a=.a z)∧∃ z,b=.a z
 ·obtain⟨⟨z,rfl⟩,z',rfl⟩:=h
  obtain⟨rfl,fx⟩:=ha.js;obtain⟨rfl,fy⟩:=hb.js;rw[oE]at q;exact(rf rx ry fx fy).eq _ _ _ _ ⟨.bl _,H,I,rfl,q⟩
 ·exact((rcG I ha hb rx ry hu).2 h).eq _ _ _ _ ⟨.bl _,H,I,rfl,q⟩
end
section
variable{X:Cx}{pins:List (Addr×Obj)}{σ:St}{H:Hp}{s:Shared}{d:Addr}{o:Obj}{u:HO}
end
section
variable{X:Cx}{i o:Expr}{ty td:TE}
end
section
variable{X:Cx}{K:W.Frag}
end
section
variable{X:Cx}{o:Expr}{ta:TE}
end
end L2
end
section
namespace L2
open PySem PySem.Spec PyProof.Rows LX
section
variable{prog:Program}{w:World}{A:Around}{E:Value→Shared→Prop}{s:Shared}{a₀:Array Keyed}
end
section
variable{X:Cx}
end
end L2
end
section
namespace L2
open PySem PySem.Spec PyProof.Rows LX
section
variable{P:Program}{w:World}{K:W.Frag}{mg:Str→Option Value}{base:Heap}{N:List Str}{qual:Str}{scope:Scope}{f:Addr}{cdv:Value}{A:Around}{outer:List Env}{s₀:Shared}{H₀:Hp}{E₀:XK}
def XO(P:Program)(w:World)(qual:Str)(scope:Scope)(f:Addr)(cdv:Value)(A:Around)(outer:List Env)(s₀:Shared)(H₀:Hp)(E₀:XK)(base:Heap)(e:Value)(s:Shared):Prop :=
 ∃(ea:Addr) (c:Value) (od:Option Addr) (fs:Array Value) (sl:Array (Option Value)) (T0:Option Addr),e=.ref ea∧(A.deeper (envOfC qual scope s₀.heap.objs.size f cdv)).frames=some (envOfC qual scope s₀.heap.objs.size f cdv::outer)∧s.heap.FunFrames base (envOfC qual scope s₀.heap.objs.size f cdv::outer)∧s.heap.get? ea=some (aV c od fs sl)∧gF s.heap ea fs T0 ∧
  ∀(m:Heap) (T:Addr) (fs':Array Value),s.heap.objs.size≤T→Kept (bG (envOfC qual scope s₀.heap.objs.size f cdv::outer)) (ea::T0.toList) s.heap m→m.get? ea=some (aV c od fs' sl)→fs'[0]?=fs[0]?→gF m ea fs' (some T)→CXE P w outer H₀ s₀ E₀ (.ref ea) {s with heap:=m}
def XN(P:Program)(w:World)(outer:List Env)(s₀:Shared)(H₀:Hp)(E₀:XK)(L:Addr)(e:Value)(s:Shared):Prop :=
 ∃(ea T:Addr) (c oc:Value) (od d:Option Addr) (fs ts:Array Value) (sl sm:Array (Option Value)),e=.ref ea∧s.heap.get? ea=some (aV c od fs sl)∧fs[1]?=some (.ref T)∧T≠ea∧s.heap.get? T=some (aV oc d ts sm)∧ts[3]?=some (rawInt L) ∧
  ∀ m:Heap,(∀ b o,b≠T→s.heap.get? b=some o→m.get? b=some o)→gF m ea fs (some T)→m.get? ea=some (aV c od fs sl)→CXE P w outer H₀ s₀ E₀ (.ref ea) {s with heap:=m}
def XR(P:Program)(w:World)(qual:Str)(scope:Scope)(f:Addr)(cdv:Value)(A:Around)(outer:List Env)(s₀:Shared)(H₀:Hp)(E₀:XK)(base:Heap)(e:Value)(s:Shared):Prop :=
 XO P w qual scope f cdv A outer s₀ H₀ E₀ base e s∨XN P w outer s₀ H₀ E₀ s₀.heap.objs.size e s
theorem sE{pins:List (Addr×Obj)}{σ:St}{H H':Hp}{s s':Shared}{ea C T:Addr}{od:Option Addr}{fs:Array Value}{sl:Array (Option Value)}(I:Inv (cxE P w K mg base N qual scope f cdv A outer s₀ H₀ E₀) pins σ H s)
  (l:Lies P w (cxE P w K mg base N qual scope f cdv A outer s₀ H₀ E₀).stack H H' s ea C T od fs sl s') (hE:E₀ (.ref C) od H'):XO P w qual scope f cdv A outer s₀ H₀ E₀ base (.ref ea) s':=by
 refine⟨ea,_,_,_,_,_,rfl,I.ok.frames,Lies.frames I l,l.at_,l.trail,λm T' fs' z1 z2 z3 z4 z5=>?_⟩;obtain⟨un,hok⟩:=l.on (t':=s'.toks) I z2;have J:Inv (cxE P w K mg base N qual scope f cdv A outer s₀ H₀ E₀) pins σ H' {s' with heap:=m}:=I.lY l.os un hok l.bare (λb z=>absurd z (by simp));have old:∀ b o,s₀.heap.get? b=some o→∃ o',s.heap.get? b=some o':=λb o z=>I.base.there b o z (D9);have e0:s₀.heap.get? ea=none:=by
  cases q:s₀.heap.get? ea with
  | none=>rfl
  | some o =>
   obtain⟨o',z⟩:=old ea o q;rw[l.uD]at z;cases z
 have t0:s₀.heap.get? T'=none:=by
  cases q:s₀.heap.get? T' with
  | none=>rfl
  | some o =>
   obtain⟨o1,y1⟩:=old T' o q;obtain⟨o2,y2⟩:=l.un.there T' o1 y1 (by simp);exact absurd (Dh y2) (Nat.not_lt.mpr z1)
 obtain⟨a0,ha⟩:=l.args;exact⟨ea,C,T',od,fs',sl,H',rfl,⟨J.os,J.bare,J.base,J.hok,e0,t0,l.ow,l.hok.fresh z1,z3,⟨a0,by rw[z4];exact ha⟩,z5⟩,hE⟩
theorem XR.xe{e:Value}{s:Shared}(h:XR P w qual scope f cdv A outer s₀ H₀ E₀ base e s):(cxE P w K mg base N qual scope f cdv A outer s₀ H₀ E₀).xe e s:=by
 rcases h with⟨ea,c,od,fs,sl,T0,rfl,hA,F,he,t,k⟩|⟨ea,T,c,oc,od,d,fs,ts,sl,sm,rfl,he,h1,ne,hT,h3,k⟩
 ·exact pO hA F rfl he t k
 ·have h3s:3<ts.size:=(Dv.mp h3).1
  show wpAny _ _ (leaving _ (.ref ea)) _ _ s;unfold leaving noteFrame;refine wpAny_bind ?_;show wpAny _ _ (field (.ref ea) 1 >>= _) _ _ s;refine wpAny_bind (wpAny_field he rfl h1 ?_);rw[if_pos (show(Value.ref T != Value.none)=true by simp)];refine wpAny_bind (wpAny_field hT rfl h3 ?_);rw[if_pos (by simp)];exact wpAny_pure (fD he h1 ne hT h3s k)
theorem oH:PassesOwn (model P w) (A.deeper (envOfC qual scope s₀.heap.objs.size f cdv)) (envOfC qual scope s₀.heap.objs.size f cdv) (XR P w qual scope f cdv A outer s₀ H₀ E₀ base):=by
 intro e s h;have BW:∀ {s1:Shared},XN P w outer s₀ H₀ E₀ s₀.heap.objs.size e s1→cameBackBy (model P w) (A.deeper (envOfC qual scope s₀.heap.objs.size f cdv)) (envOfC qual scope s₀.heap.objs.size f cdv) (XR P w qual scope f cdv A outer s₀ H₀ E₀ base) e s1:=by
  rintro s1 ⟨ea,T,c,oc,od,d,fs,ts,sl,sm,rfl,he,h1,ne,hT,h3,k⟩;have h3s:3<ts.size:=(Dv.mp h3).1;unfold cameBackBy setFlight;refine wpAny_bind (wpAny_field he rfl h1 ?_);dsimp only;rw[if_neg (by simp)];refine wpAny_bind (wpAny_field he rfl h1 ?_);rw[if_pos (show(Value.ref T != Value.none)=true by simp)];refine wpAny_setField hT rfl h3s ?_;have oth:∀ b o,b≠T→s1.heap.get? b=some o→(s1.heap.update T (Obj.mapFields (·.setIfInBounds 3 (rawInt s₀.heap.objs.size)))).get? b=some o:=λb o hb q=>(DF _ _ (DH hb)).trans q;exact .inr ⟨ea,T,c,oc,od,d,fs,ts.setIfInBounds 3 (rawInt s₀.heap.objs.size),sl,sm,rfl,oth _ _ (DH ne) he,h1,ne,iC hT,by simp[h3s],λm q1 q2 q3=>k m (λb o hb q=>q1 b o hb (oth b o hb q)) q2 q3⟩
 rcases h with⟨ea,c,od,fs,sl,T0,rfl,hA,F,he,t,k⟩|⟨ea,T,c,oc,od,d,fs,ts,sl,sm,rfl,he,h1,ne,hT,h3,k⟩
 ·refine lR hA F rfl he t λm T oc ts z1 z2 z3 z4 z5=>BW ?_
  have Te:T≠ea:=Ei (Dm (Dh he) z1);have f1:(fs.setIfInBounds 1 (Value.ref T))[1]?=some (.ref T):=by
   have:=t.size
   simp[this]
  refine⟨ea,T,c,oc,od,none,_,ts,sl,#[],rfl,z3,f1,Te,z4,z5,λm' q1 q2 q3=>k m' T _ z1 ⟨λb o q hb hx=>?_,λb o q hb hx=>?_⟩ q3 (by simp) q2⟩
  ·exact q1 b o (Dq (Dm (Dh q) z1)) (z2.plain b o q hb hx)
  ·obtain⟨sm,r⟩:=z2.frame b o q hb hx
   exact⟨sm,q1 b _ (Dq (Dm (Dh q) z1)) r⟩
 ·have h3s:3<ts.size:=(Dv.mp h3).1
  show wpAny _ _ (noteFrame (.ref ea) _) _ _ s;unfold noteFrame;show wpAny _ _ (field (.ref ea) 1 >>= _) _ _ s;refine wpAny_bind (wpAny_field he rfl h1 ?_);rw[if_pos (show(Value.ref T != Value.none)=true by simp)];refine wpAny_bind (wpAny_field hT rfl h3 ?_);rw[if_pos (by simp)];exact wpAny_pure (BW ⟨ea,T,c,oc,od,d,fs,ts,sl,sm,rfl,he,h1,ne,hT,h3,k⟩)
abbrev cxR(P:Program)(w:World)(K:W.Frag)(mg:Str→Option Value)(base:Heap)(N:List Str)(qual:Str)(scope:Scope)(f:Addr)(cdv:Value)(A:Around)(outer:List Env)(s₀:Shared)(H₀:Hp)(E₀:XK):Cx :=
 (cxE P w K mg base N qual scope f cdv A outer s₀ H₀ E₀).kl (XR P w qual scope f cdv A outer s₀ H₀ E₀ base)
theorem PSs.xr{st:List Stmt}{t:TS}(h:PSs (cxR P w K mg base N qual scope f cdv A outer s₀ H₀ E₀) st t):PSs (cxE P w K mg base N qual scope f cdv A outer s₀ H₀ E₀) st t:=λpins s σ H D I hw =>
 wpAny_mono (h pins s σ H D (I.kl _) hw) (λ_ _ q=>q.fh) λ_ _ z=>z.xe
theorem oI{E:XK}(hE:∀ c od H',E c od H'→E₀ c od H'):dC (CXE P w) (cxR P w K mg base N qual scope f cdv A outer s₀ H₀ E₀) (λ_=>E):=λpins σ H s e s' I h=>by
 obtain⟨ea,C,T,od,fs,sl,H',rfl,l,q⟩:=h;exact .inl (sE I.fh l (hE _ _ _ q))
theorem BX:PassesOwn (model P w) (cxR P w K mg base N qual scope f cdv A outer s₀ H₀ E₀).A (cxR P w K mg base N qual scope f cdv A outer s₀ H₀ E₀).env (cxR P w K mg base N qual scope f cdv A outer s₀ H₀ E₀).xe:=oH
end
section
open PySem.SeqAt
open PySem.AutoSeq1 (wpAny_loadPart')
open PySem.MeetsSeq PySem.MeetsSeq2 PySem.MeetsSeq3
end
section
variable{X:Cx}
end
section
variable{P:Program}{w:World}{A:Around}{E:Value→Shared→Prop}
end
section
variable{X:Cx}
end
section
variable{P:Program}{w:World}
variable{A:Around}{E:Value→Shared→Prop}{s:Shared}
end
section
variable{cmp:Nat→Nat→(Bool→Shared→Prop)→Shared→Prop}{s:Shared}
end
section
variable{P:Program}{w:World}{A:Around}{E:Value→Shared→Prop}{s:Shared}
end
theorem aF{H:Hp}{l:Addr}{o:HO}(_:aA H (upd H l o)):upd H l o l=some o:=af
section
variable{X:Cx}
def Bd:R2:=λx y H Q=>∃ c:Bool,y=.bl c∧c6 x=true∧Q (.bl (decide (x=.bl c))) H
theorem qv:OpR X (compareOp .Is) Bd:=by
 rintro pins s σ H x y v u Q I rx ry ⟨c,rfl,fx,q⟩;cases ry;cases x with
 | non=>cases rx;exact wpAny_is_plain rfl (aR I q (by cases c<;>rfl))
 | bl b=>cases rx;exact wpAny_is_plain rfl (aR I q (by cases b<;>cases c<;>rfl))
 | int n=>obtain⟨t,rfl⟩:=rx;exact wpAny_is_plain rfl (aR I q (by cases c<;>rfl))
 | str z=>obtain⟨t,rfl⟩:=rx;exact wpAny_is_plain rfl (aR I q (by cases c<;>rfl))
 | _=>exact absurd (show false=true from fx) Df
end
structure iE(X:Cx)(scope:Scope)(cl:List (Str×Addr))(xs:List Str)(idx:List Nat)(NC:List Str):Prop where
 w6:closureFor scope X.env=pure cl
 sub:∀ y c,cl.lookup y=some c→X.env.cells.lookup y=some c
 has:∀ y,((relabel scope X.env).names.lookup y=some .cell∨(relabel scope X.env).names.lookup y=some .free)→∃ c,cl.lookup y=some c
 mn:∀ y∈scope.names,y.2≠.cell
 kind:scope.kind=.function
 loc:∀ y∈scope.names,y.2=.local→scope.names.lookup y.1=some .local
 xl:∀ x∈xs,scope.names.lookup x=some .local
 nc:NC=xs++idx.map λi=>X.N.getD i ""
 nd:NC.Nodup
 cap:∀ i∈idx,i<X.N.length∧((X.env.scope.names.lookup (X.N.getD i "")=some .cell∨X.env.scope.names.lookup (X.N.getD i "")=some .free)∧((relabel scope X.env).names.lookup (X.N.getD i "")=some .cell∨(relabel scope X.env).names.lookup (X.N.getD i "")=some .free))
section
variable{X:Cx}{scope:Scope}{cl:List (Str×Addr)}{xs:List Str}{idx:List Nat}{NC:List Str}{C:Addr}{fp:List Addr}{pins:List (Addr×Obj)}{σ:St}{H:Hp}{s:Shared}
theorem rg{h1:Heap}{t':Nat}(c:iE X scope cl xs idx NC)(I:Inv X pins σ H s)(hf:∀ b∈fp,iK X pins H b)(hlt:∀ b∈fp,b<s.heap.objs.size)(ns:h1.Ns s.heap.objs.size (λ_=>none))
  (k:∀ b o,s.heap.get? b=some o→h1.get? b=some o):Inv (cxC X scope cl NC s.heap.objs.size fp s H) [] (xs.map (λ_=>none)++h8 σ idx) H {s with heap:=h1,toks:=t'}:=by
 have sub:∀ b,b∈frs X.stack→b∈X.env.locals::X.fs:=I.gM;refine⟨⟨I.ok.mod,c.kind,I.ok.glob,I.ok.blt,Dk _,λy z a h1 h2=>I.ok.inj y z a (c.sub _ _ h1) (c.sub _ _ h2),c.has,λy a z=>(by cases z),I.ok.hd,I.ok.frames,.inl rfl,λb hb=>⟨Dq (hlt b hb),λy a q=>(hf b hb).2.2.2.2.1 y a (c.sub _ _ q)⟩,
  λb o q=>I.bs b o q,DK I.ok.bsz I.sz,λb o q hb=>?_,λb hb z=>?_,I.stack,I.gN⟩,rfl,I.bare,Un.kept k,⟨_,ns,λi y v e1 e2 e3=>?_⟩,λy a q=>?_,I.hok.fresh (Dk _),λy a q=>I.ef _ _ (c.sub _ _ q),λp hp=>(by cases hp),I.hok.keeps λb u o _ q=>k b o q,?_⟩
 ·rcases(hf b hb).2.2.2.1 with z|z
  ·exact I.ok.oa b o q z
  ·exact absurd (Dm (Dh (I.ok.bs b o q).1) z) (DX _)
 ·rcases Ds.mp (sub b z) with r|r
  ·exact(hf b hb).2.1 r
  ·exact(hf b hb).2.2.1 r
 ·rcases EF i xs.length with ci|ci
  ·rw[DJ (by rw[Dl];exact ci),Dw,C8 ci]at e2
   cases e2
  ·obtain⟨j,rfl⟩:∃ j,i=xs.length+j:=⟨i-xs.length,by omega⟩
   have e1':(idx.map λi=>X.N.getD i "")[j]?=some y:=by
    have:(cxC X scope cl NC s.heap.objs.size fp s H).N=NC:=rfl
    rw[this,c.nc,DI (Nat.le_add_right _ _),Nat.add_sub_cancel_left]at e1;exact e1
   have e2':(h8 σ idx)[j]?=some (some v):=by
    rw[DI (by rw[Dl];exact Nat.le_add_right _ _),Dl,Nat.add_sub_cancel_left]at e2;exact e2
   rw[Dw]at e1';unfold h8 at e2';rw[Dw]at e2';cases ei:idx[j]? with
   | none=>rw[ei]at e1';cases e1'
   | some i =>
    rw[ei]at e1' e2';simp only[D4,Option.some.injEq]at e1' e2';obtain⟨hi,h2,h3⟩:=c.cap i (Dr ei);rw[e1']at h2 h3;have hN:X.N[i]?=some y:=by
     rw[←e1'];simp[List.getD,C8 hi]
    have hσ:σ[i]?=some (some v):=by
     cases q:σ[i]? with
     | none=>rw[q]at e2';cases e2'
     | some o=>rw[q]at e2';simp only[Ef]at e2';rw[e2']
    obtain⟨m,hn,hl⟩:=I.loc;obtain⟨u,r,l⟩:=hl i y v hN hσ (h2.elim (λz=>.inr (.inl z)) λz=>.inr (.inr z));refine⟨u,r,.inr ⟨h3,?_⟩⟩;rcases l with⟨l,_⟩|⟨_,a,ha,hc⟩
    ·exfalso
     have l':X.env.scope.names.lookup y=some .local:=l;rcases h2 with z|z<;>(rw[l']at z;cases z)
    ·obtain⟨a',ha'⟩:=c.has y h3
     have:=c.sub _ _ ha'
     rw[ha]at this;cases this;exact⟨a,ha',hc.keeps k⟩
 ·obtain⟨v,z⟩:=I.cell _ _ (c.sub _ _ q)
  exact⟨v,z.keeps k⟩
 ·show _=NC.length
  rw[c.nc];simp[h8]
theorem tf(c:iE X scope cl xs idx NC){C:Addr}{fp:List Addr}{s₀:Shared}{H₀:Hp}{i:Nat}{x:Str}{p:Pos}(h:xs[i]?=some x):PG (cxC X scope cl NC C fp s₀ H₀) (.Name x p) (gC i):=by
 have hnl:(relabel scope X.env).names.lookup x=some .local:=lookup_relabel_local (c.xl x (Dr h));exact br (X:=cxC X scope cl NC C fp s₀ H₀) (i:=i) (x:=x) (pos:=p) c.nd (by show NC[i]?=some x;rw[c.nc,DJ (Dd.mp h).1];exact h) (.inl hnl) (.inr hnl)
end
def pT(sc scope:Scope)(xs:List Str)(ns N:List Str)(idx:List Nat):Prop :=
 (∀ y∈scope.names,y.2≠.cell)∧(∀ y∈scope.names,y.2=.local→scope.names.lookup y.1=some .local)∧(∀ x∈xs,scope.names.lookup x=some .local)∧(∀ p∈qt sc scope.names,p.2=.cell∨p.2=.free→p.1∈ns)∧(xs++idx.map λi=>N.getD i "").Nodup ∧
 ∀ i∈idx,i<N.length∧((sc.names.lookup (N.getD i "")=some .cell∨sc.names.lookup (N.getD i "")=some .free)∧((qt sc scope.names).lookup (N.getD i "")=some .cell∨(qt sc scope.names).lookup (N.getD i "")=some .free))
instance (sc scope:Scope) (xs:List Str) (ns N:List Str) (idx:List Nat):Decidable (pT sc scope xs ns N idx):=by unfold pT;infer_instance
theorem sF{X:Cx}{sc scope:Scope}{cl:List (Str×Addr)}{xs:List Str}{ns N:List Str}{idx:List Nat}(hsc:X.env.scope=sc)(hN:X.N=N)(hk:scope.kind=.function)(p:pT sc scope xs ns N idx)(hn:cl.map (·.1)=ns)
  (tK:closureFor scope X.env=pure cl) (AD:∀ q∈cl,X.env.cells.lookup q.1=some q.2):iE X scope cl xs idx (xs++idx.map λi=>N.getD i ""):=by
 obtain⟨p1,p2,p3,p4,p5,p6⟩:=p;have re:(relabel scope X.env).names=qt sc scope.names:=by subst hsc;rfl
 subst hsc hN hn;refine⟨tK,λy c q=>AD (y,c) (DE q),λy h=>?_,p1,hk,p2,p3,rfl,p5,λi hi=>?_⟩
 ·rw[re]at h
  refine gf ?_;rcases h with h|h
  ·exact p4 (y,.cell) (DE h) (.inl rfl)
  ·exact p4 (y,.free) (DE h) (.inr rfl)
 ·rw[re]
  exact p6 i hi
def chk(n:Nat):PySem.W.KasT (Array Nat)→Bool
 | .ret p=>p.toList.all (decide <| ·< n)
 | .ask i j k=>decide (i<n)&&decide (j<n)&&(chk n (k true)&&chk n (k false))
theorem uH{n:Nat}{cmp:Nat→Nat→(Bool→Shared→Prop)→Shared→Prop}{G:Array Nat→Shared→Prop}{s:Shared}{t:PySem.W.KasT (Array Nat)}(h:chk n t=true)(hc:∀ i j,i<n→j<n→∀ C:Bool→Shared→Prop,(∀ b,C b s)→cmp i j C s)(hG:∀ p:Array Nat,(∀ x∈p.toList,x<n)→G p s):t.kasWp cmp G s:=by
 induction t with
 | ret p=>exact hG p λx m=>of_decide_eq_true (D2.mp h x m)
 | ask i j k ih =>
  unfold chk at h;rw[DW,DW,DW]at h;refine hc i j (of_decide_eq_true h.1.1) (of_decide_eq_true h.1.2) _ λb=>?_;cases b with
  | true=>exact ih true h.2.1
  | false=>exact ih false h.2.2
theorem sG{n:Nat}(h:n≤4):chk n (PySem.W.kas_sort n)=true:=by
 rcases(show n=0∨n=1∨n=2∨n=3∨n=4 by omega) with rfl|rfl|rfl|rfl|rfl<;>kernel_rfl
section
variable{P:Program}{w:World}{A:Around}{E:Value→Shared→Prop}{s:Shared}
def BY(P:Program)(w:World)(A:Around)(vs:List Value)(s:Shared):Prop:=∃ κ:SortKind,(∀(Q:SortKind→Shared→Prop) (E:Value→Shared→Prop),Q κ s→wpAny (model P w) A (keyKind' vs.toArray) Q E s) ∧
 ∀ i j,i<vs.length→j<vs.length→∀ C:Bool→Shared→Prop,(∀ b,C b s)→PySem.W.kas_ask P w A κ vs i j C s
theorem sH{a:Addr}{vs:List Value}{n:Nat}{F:Fin→Shared→Prop}(ho:s.heap.get? a=some (seqObj "list" vs.toArray n))(h4:vs.length≤4)
  (hr:2≤vs.length→∀ h':Heap,(∀ b o,b≠a→s.heap.get? b=some o→h'.get? b=some o)→BY P w A vs {s with heap:=h'}) (q:∀ out:List Value,out.length=vs.length→(∀ v∈out,v∈vs)→F (.done (.ret .none)) {s with heap:=sortedHeap s.heap a vs out.toArray}) :
  wpAny (model P w) A (Builtin.«list.sort» ⟨[.ref a],[]⟩) F E s:=by
 rw[list_sort_plain];have ha:a<s.heap.objs.size:=Dh ho;have h64:vs.length<64:=by omega
 refine wpAny_bind (listItems_at ho rfl (wpAny_bind (listUpdate_at ho rfl ?_ (by rw[Dj,sizeLine_eq];omega) (DQ _))));obtain⟨e1,g1⟩:∃ e1,(s.heap.update a (Obj.mapSeq λ_=>#[])).get? a=some (seqObj "list" #[] e1):=⟨_,get?_update_seq ho (λ_=>#[])⟩;refine wpAny_bind (seqEpoch_at g1 rfl (wpAny_bind (wpAny_newTuple (wpAny_bind (wpAny_newList (wpAny_holding ?_) (DQ _))) (by show vs.length≤_;rw[sizeLine_eq];omega))));obtain⟨h3,eh3⟩:∃ h3,((s.heap.update a (Obj.mapSeq λ_=>#[])).push (seqObj "tuple" vs.toArray 0)).push (seqObj "list" #[] 0)=h3:=⟨_,rfl⟩;have g6:h3.get? a=some (seqObj "list" #[] e1):=by
  rw[←eh3];exact C9 _ (C9 _ g1)
 have kp:∀ b o,b≠a→s.heap.get? b=some o→h3.get? b=some o:=λb o hb e=>by
  rw[←eh3];exact C9 _ (C9 _ ((Heap.get?_update_ne _ _ _ _ hb).trans e))
 have q':∀ out:List Value,out.length=vs.length→(∀ v∈out,v∈vs)→F (.done (.ret .none)) {s with heap:=h3.update a (Obj.mapSeq λ_=>out.toArray)}:=by
  rw[←eh3];exact q
 show wpAny (model P w) A _ F E {s with heap:=((s.heap.update a (Obj.mapSeq λ_=>#[])).push (seqObj "tuple" vs.toArray 0)).push (seqObj "list" #[] 0)};rw[eh3];dsimp only;have zs:vs.toArray.size=vs.length:=by simp
 have zz:∀ xs:Array Value,xs.size=vs.length→xs.size≤sizeLine+1:=λxs e=>by rw[e,sizeLine_eq];omega
 by_cases h2:vs.toArray.size<2
 ·rw[if_pos h2,if_pos h2]
  refine wpAny_bind (wpAny_pure ?_);rw[StateT.run_pure];have em:(arrOf (SortSt.mk' general' (vs.toArray.zip vs.toArray) #[] 7 none)).map (·.2)=vs.toArray:=by
   show(vs.toArray.zip vs.toArray).map (·.2)=vs.toArray;apply Array.toList_inj.mp
   simp[List.map_snd_zip]
  refine wpAny_bind (wpAny_pure (wpAny_bind (seqEpoch_at g6 rfl (wpAny_bind (listUpdate_at g6 rfl ?_ (DQ _) (zz _ (by rw[em,zs])))))));rw[em];simp only[bne_self_eq_false,DM,if_false];exact wpAny_pure (q' vs rfl λv m=>m)
 ·rw[if_neg h2,if_neg h2]
  have l2:2≤vs.length:=by omega
  obtain⟨κ,k1,k2⟩:=hr l2 h3 kp;refine wpAny_bind (k1 _ _ ?_);refine wpAny_bind (wpAny_mono (PySem.W.kat_run (ks:=vs) (vs:=vs) (Q:=λst' s'=>s'={s with heap:=h3}∧failedOf st'=none∧∃ out:List Value,(arrOf st').map (·.2)=out.toArray∧out.length=vs.length∧∀ v∈out,v∈vs) (G:=λp s'=>s'={s with heap:=h3}∧∀ x∈p.toList,x<vs.length) rfl l2 h64
   (λp st' s' a1 a2 a3 ⟨a4,a5⟩=>⟨a4,a3,_,PySem.W.kat_snds rfl a2,by rw[Dl,Eh];exact a1,λv hv=>?_⟩) (uH (sG h4) k2 λp hp=>⟨rfl,hp⟩)) ?_ λ_ _ e=>e)
  ·obtain⟨x,mx,rfl⟩:=Ex.mp hv
   have hx:=a5 x mx;rw[DC,C8 hx];exact Eg hx
  rintro⟨⟨⟩,st'⟩ s' ⟨rfl,hf,out,em,lo,mo⟩;dsimp only;dsimp only at hf em;refine wpAny_bind (seqEpoch_at g6 rfl (wpAny_bind (listUpdate_at g6 rfl ?_ (DQ _) (zz _ (by rw[em];simpa using lo)))));rw[hf,em];simp only[bne_self_eq_false,DM,if_false];exact wpAny_pure (q' out lo mo)
end
section
variable{X:Cx}{pins:List (Addr×Obj)}{σ:St}{H:Hp}{s:Shared}{A:Around}{E:Value→Shared→Prop}
theorem g8{us:List Value}{a b:Int}(r:Vals [.int a,.int b] us):∃ t t',us=[.int a t,.int b t']:=by
 cases r with
 | cons h1 r =>
  cases r with
  | cons h2 r =>
   cases r;obtain⟨t,rfl⟩:=h1;obtain⟨t',rfl⟩:=h2;exact⟨t,t',rfl⟩
theorem uI(I:Inv X pins σ H s){p q:Addr}{a b a' b':Int}(hp:H p=some (.tup [.int a,.int b]))(hq:H q=some (.tup [.int a',.int b'])){Q:Bool→Shared→Prop}(k:∀ c,Q c s):wpAny (model X.prog X.w) A (keyLt' (tuples' true) (.ref p) (.ref q)) Q E s:=by
 obtain⟨vs,r1,t1,_⟩:=I.tuple (SqT.of hp);obtain⟨ws,r2,t2,_⟩:=I.tuple (SqT.of hq);obtain⟨n0,n1,rfl⟩:=g8 r1;obtain⟨m0,m1,rfl⟩:=g8 r2;obtain⟨o1,ho1,_,n,hd1⟩:=t1;obtain⟨o2,ho2,_,m,hd2⟩:=t2;refine PySem.W.kat_lt ho1 hd1 ho2 hd2 (PySem.W.kat_cons (wpAny_eqBool_int ?_));by_cases h0:a=a'
 ·rw[show(a == a')=true from beq_iff_eq.mpr h0]
  refine PySem.W.kat_yes (PySem.W.kat_cons (wpAny_eqBool_int ?_));by_cases h1:b=b'
  ·rw[show(b == b')=true from beq_iff_eq.mpr h1]
   exact PySem.W.kat_yes (PySem.W.kat_nil (k _))
  ·rw[show(b == b')=false from beq_eq_false_iff_ne.mpr h1]
   exact PySem.W.kat_no (PySem.W.kat_one _ _ (PyProof.Rows.lt_int (k _)))
 ·rw[show(a == a')=false from beq_eq_false_iff_ne.mpr h0]
  exact PySem.W.kat_no (oneLt_int (k _))
def PrV(H:Hp)(u:V):Prop:=∃ q a b,u=.ref q∧H q=some (.tup [.int a,.int b])
theorem jt{H:Hp}:∀ {ps:List V} {us:List Value},Vals ps us→(∀ u∈ps,PrV H u)→∀ v∈us,∃ q a b,v=.ref q∧V.ref q∈ps∧H q=some (.tup [.int a,.int b])
 | [],_,.nil,_=>λv m=>nomatch m
 | u::ps,_,.cons h r,hp=>λv m=>by
  rcases Ds.mp m with rfl|m
  ·obtain⟨q,a,b,rfl,hq⟩:=hp u DA
   cases (show v=Value.ref q from h);exact⟨q,a,b,rfl,DA,hq⟩
  ·obtain⟨q,a,b,e,mq,hq⟩:=jt r (λu m=>hp u (Dt _ m)) v m
   exact⟨q,a,b,e,Dt _ mq,hq⟩
theorem ju(I:Inv X pins σ H s):∀ us:List Value,(∀ v∈us,∃ q a b,v=.ref q∧H q=some (.tup [.int a,.int b]))→∃ fs:List Value,fs.length=us.length∧(∀ v∈fs,∃ n t,v=Value.int n t)∧PySem.W.KatTups s.heap us fs
 | [],_=>⟨[],rfl,(λv h=>nomatch h),.nil⟩
 | e::us,hw=>by
  obtain⟨fs,h1,h2,h3⟩:=ju I us λz hz=>hw z (Dt _ hz);obtain⟨q,a,b,rfl,hq⟩:=hw e DA;obtain⟨vs,r1,⟨o,go,gc,n,gd⟩,_⟩:=I.tuple (SqT.of hq);obtain⟨n0,n1,rfl⟩:=g8 r1;refine⟨.int a n0::fs,by rw[Dx,Dx,h1],λv hv=>?_,.cons go gc gd rfl h3⟩;rcases Ds.mp hv with rfl|hv
  ·exact⟨_,_,rfl⟩
  ·exact h2 v hv
theorem rh(I:Inv X pins σ H s){us:List Value}(hw:∀ v∈us,∃ q a b,v=.ref q∧H q=some (.tup [.int a,.int b]))(h2:2≤us.length):BY X.prog X.w A us s:=by
 refine⟨tuples' true,λQ E q=>?_,λi j hi hj C c=>?_⟩
 ·obtain⟨fs,e1,e2,e3⟩:=ju I us hw
  refine PySem.W.kat_kind (T:=Value.type "int") e3 (by omega) (λv hv=>?_) (by rfl) q;obtain⟨n,t,rfl⟩:=e2 v hv;exact PySem.W.Looks.of_pure rfl
 ·unfold PySem.W.kas_ask
  rw[DC,DC,C8 hi,C8 hj,Ef,Ef];obtain⟨q1,a1,b1,e1,g1⟩:=hw _ (Eg hi);obtain⟨q2,a2,b2,e2,g2⟩:=hw _ (Eg hj);rw[e1,e2];exact uI I g1 g2 c
theorem iP{H:Hp}:∀ {out:List Value} {ps:List V},(∀ v∈out,∃ q,v=.ref q∧V.ref q∈ps)→∃ ps':List V,Vals ps' out∧ps'.length=out.length∧∀ u∈ps',u∈ps
 | [],_,_=>⟨[],.nil,rfl,λu m=>nomatch m⟩
 | v::out,ps,h=>by
  obtain⟨q,rfl,mq⟩:=h v DA;obtain⟨ps',r,l,m⟩:=iP (H:=H) λv m=>h v (Dt _ m);refine⟨.ref q::ps',.cons rfl r,by rw[Dx,Dx,l],λu mu=>?_⟩;rcases Ds.mp mu with rfl|mu
  ·exact mq
  ·exact m u mu
def x4(K:W.Frag):List V→Hp→VK→Prop:=λvs H Q=>∃(p:Addr) (ps:List V),vs=[.ref p]∧SqL K H p ps∧ps.length≤4∧(∀ u∈ps,PrV H u)∧∀(l:Addr) (ps':List V),H l=none→ps'.length=ps.length→(∀ u∈ps',u∈ps)→Q (.ref l) (upd H l (.lst ps'))
theorem kJ:iq X (.builtin "sorted") (x4 X.K):=by
 rintro pins s σ H xs us Q I r ⟨p,ps,rfl,hq,h4,hp,q⟩;obtain⟨u,rfl,ru⟩:=r.one;cases (show u=Value.ref p from ru);obtain⟨its,rv,⟨o,n,e1,e2,e3,e4⟩,hz⟩:=I.list hq;have hl:s.heap.IsList p its.toArray:=⟨o,e1,e2,n,e4⟩;have li:its.length=ps.length:=rv.length.symm;have hw:=jt rv hp;refine Calls.call_function_entry kind_sorted plain_sorted entry_sorted (args_sorted1 _) ?_;unfold Builtin.«sorted»;refine wpAny_bind (m:=checkCount "sorted" 1 1 _) (wpAny_pure ?_);refine wpAny_bind (collect_list hl ?_);refine wpAny_bind (wpAny_newList ?_);have hsz:((s.heap.push (seqObj "list" #[] 0)).update s.heap.objs.size (Obj.mapSeq (·++its.toArray))).objs.size=s.heap.objs.size+1:=by
  rw[Heap.size_update,size_push']
 have hoL:(((s.heap.push (seqObj "list" #[] 0)).update s.heap.objs.size (Obj.mapSeq (·++its.toArray))).push (seqObj "list" its.toArray 0)).get? (s.heap.objs.size+1)=some (seqObj "list" its.toArray 0):=by
  rw[←hsz];exact DB _ rfl
 show wpAny _ _ _ _ _ {s with heap:=((s.heap.push (seqObj "list" #[] 0)).update s.heap.objs.size (Obj.mapSeq (·++its.toArray))).push (seqObj "list" its.toArray 0)};rw[hsz];have kp:∀ b o,s.heap.get? b=some o→(((s.heap.push (seqObj "list" #[] 0)).update s.heap.objs.size (Obj.mapSeq (·++its.toArray))).push (seqObj "list" its.toArray 0)).get? b=some o:=λb o e=>by
  refine C9 _ ?_;rw[Heap.get?_update_ne _ _ _ _ (Dq (Dh e))];exact C9 _ e
 obtain⟨h1,eh1⟩:∃ h1,((s.heap.push (seqObj "list" #[] 0)).update s.heap.objs.size (Obj.mapSeq (·++its.toArray))).push (seqObj "list" its.toArray 0)=h1:=⟨_,rfl⟩;rw[eh1]at hoL kp ⊢;have sz1:s.heap.objs.size≤s.heap.objs.size+1:=Em _;refine wpAny_bind (wpAny_holding (wpAny_call_entry slot_list_sort ⟨_,hoL,rfl⟩ entry_list_sort (sH hoL (by rw[li];exact h4) (λh2 h3 k3=>?_) (λout lo mo=>⟨_,rfl,?_⟩)) (args_list_sort _)))
 ·have I3:Inv X pins σ H {s with heap:=h3}:=I.kept (t':=s.toks) λb o e=>k3 b o (Dq (D5 (Dh e))) (kp b o e)
  exact rh I3 (λv m=>by obtain⟨q,a,b,e,_,h⟩:=hw v m;exact⟨q,a,b,e,h⟩) h2
 ·refine wpAny_pure ⟨_,rfl,?_⟩
  obtain⟨e,he⟩:=sortedHeap_at (out:=out.toArray) hoL;obtain⟨ps',r',l',m'⟩:=iP (H:=H) (out:=out) (ps:=ps) λv m=>by obtain⟨q,a,b,e,mq,_⟩:=hw v (mo v m);exact⟨q,e,mq⟩
  refine⟨.ref (s.heap.objs.size+1),_,I.laid (a:=s.heap.objs.size+1) (o:=.lst ps') (t':=s.toks) (λb o hb=>?_) sz1 ?_,rfl,q _ ps' (I.hok.fresh sz1) (by omega) m'⟩
  ·have hlt:=Dh hb
   have hb1:=kp b o hb;rw[sortedHeap_old (Dq (D5 hlt)) (Dh hb1)];exact hb1
  ·exact⟨DK (show ps'.length≤1000 by omega) (by decide),out,e,r',he⟩
end
section
variable{X:Cx}{scope:Scope}{cl:List (Str×Addr)}{xs:List Str}{idx:List Nat}{NC:List Str}{C:Addr}{fp:List Addr}{pins:List (Addr×Obj)}{σ:St}{H:Hp}{s:Shared}
def qw(J:It)(D:Addr)(k:Nat)(τ:St)(g:TG)(te:TE)(Q:VK)(H:Hp):Prop:=∃ W:Nat→Nat→List V→Hp→Prop,(∃ m,W 0 m [] H)∧∀ i m ys H2,W i m ys H2→H2 D=some (.lst ys) ∧
 ((J.stop i H2∧Q (.ref D) H2)∨(J.go i H2∧ys.length<sizeLine∧∃ N:List V→Hp→Prop,(∀ zs H',N zs H'→∃ m',m'<m∧W (i+1) m' zs H')∧∀ y H3,J.yld i H2 y H3→∀ vs:St,vs.length=k→g y (vs++τ) H3 λσ2 H4=>∃ ws:St,ws.length=k∧σ2=ws++τ∧te (ws++τ) H4 λv H6=>H6 D=some (.lst ys)∧N (ys++[v]) (upd H6 D (.lst (ys++[v])))))
def x5(k:Nat)(wi:TI)(idx:List Nat)(g:TG)(te:TE):TE:=λσ H Q=>wi σ H λJ H1=>∀ D,H1 D=none→qw J D k (h8 σ idx) g te Q (upd H1 D (.lst []))
theorem sI{i:Nat}{y:Str}{elt iter tgt:Expr}{py pos uG:Pos}{g:TG}{wi:TI}{te:TE}(hN:X.N.Nodup)(hi':X.N[i]?=some y)(hx:X.env.scope.names.lookup y=some .local)(c:iE X scope cl xs idx NC)(hc:X.calm=true)(hi:PI X tgt iter wi)(hg:iE X scope cl xs idx NC→∀ C fp s₀ H₀,PG (cxC X scope cl NC C fp s₀ H₀) tgt g)
  (he:∀ C fp s₀ H₀,PE (cxC X scope cl NC C fp s₀ H₀) elt te) (hsw:swapsWith (.ListComp elt [⟨tgt,iter,[],0⟩] scope pos) (some (.Name y py)) uG.line X.env=pure true:=by rfl)
  (hs:∀ x,foldedSetIterable iter X.env x=pure x:=by intro _;rfl):PS X (.Assign [.Name y py] (.ListComp elt [⟨tgt,iter,[],0⟩] scope pos) uG) (uT (x5 xs.length wi idx g te) (gC i)):=by
 intro pins s σ H D0 I h;rw[exec_Assign_Name_used _ _ _ _ hsw];refine wpAny_bind (wpAny_standAt (wpAny_bind ?_));show wpAny _ _ (do let _ ←comprehension (.ListComp elt [⟨tgt,iter,[],0⟩] scope pos) scope X.env _ (newList []) false (eval iter X.env) (some (assign (.Name y py) X.env))) _ _ s
 refine wpAny_bind (wpAny_mono (wpAny_comprehension_free (use:=some (assign (.Name y py) X.env)) (Q:=λ_ s'=>SP X pins D0 .next s') rfl hs c.w6 c.kind c.loc
  (thn (hi pins s σ H _ I h) λv s1 h1=>thn h1 λitv s2 h2=>?_)) (λ_ s' hq=>wpAny_pure (wpAny_pure hq)) λ_ _ e=>e)
 obtain⟨it,fp,tn,J,H2,rfl,I2,T,st2,f2,q⟩:=h2;refine wpAny_newObj_type (wpAny_newFunctionEnv c.mn (by intro y hy;simp at hy) (λh₁ hns₁ hsb₁=>?_) c.kind);dsimp only at hns₁ hsb₁ ⊢;have I3:Inv X pins σ (upd H2 s2.heap.objs.size (.lst [])) {s2 with heap:=s2.heap.push {cls:=.type "list",data:=.seq ([]:List Value).toArray},toks:=s2.toks}:=I2.uc (ys:=[]) (its:=[]) .nil (DQ _);obtain⟨W,⟨m0,w0⟩,turn⟩:=q s2.heap.objs.size I2.fresh;generalize hD:s2.heap.objs.size=D at *;generalize hH:s2.heap.push {cls:=.type "list",data:=.seq ([]:List Value).toArray}=h3 at *;have qq:∀ b∈fp,b<D:=λb hb=>by
  obtain⟨o,e,_⟩:=T.obj _ _ st2 b hb;rw[←hD];exact Dh e
 have hlt:∀ b∈fp,b<h3.objs.size:=λb hb=>by
  rw[←hH,Ec,hD];exact D5 (qq b hb)
 have hf:∀ b∈fp,iK X pins (upd H2 D (.lst [])) b:=λb hb=>⟨by rw[ak (Dq (qq b hb))];exact(f2 b hb).1,(f2 b hb).2⟩;have kp:∀ b o,h3.get? b=some o→h₁.get? b=some o:=λb o e=>hsb₁.extBut b o (Dq (Dh e)) (C9 _ e);have I4:Inv (cxC X scope cl NC h3.objs.size fp {s2 with heap:=h3,toks:=s2.toks} (upd H2 D (.lst []))) [] (xs.map (λ_=>none)++h8 σ idx) (upd H2 D (.lst [])) {s2 with heap:=h₁,toks:=s2.toks+([]:List (Str×Value)).length} :=
  rg (s:={s2 with heap:=h3,toks:=s2.toks}) c I3 hf hlt hns₁ kp
 have i6:∀ {H':Hp},(∀ b∈fp,H' b=none)→∀ b∈fp,iK (cxC X scope cl NC h3.objs.size fp {s2 with heap:=h3,toks:=s2.toks} (upd H2 D (.lst []))) [] H' b:=λhn b hb =>
  ⟨hn b hb,Dq (hlt b hb),λz=>(Ds.mp (I3.gM b z)).elim (hf b hb).2.1 (hf b hb).2.2.1,.inl hb,λy a q=>(hf b hb).2.2.2.2.1 y a (c.sub _ _ q),λp hp=>(by cases hp)⟩
 have st1:tn 0 h₁:=T.keep 0 _ _ st2 λb hb o e=>kp b o (by rw[←hH];exact C9 _ e);have loop:∀ s4:Shared,s4={s2 with heap:=h₁,toks:=s2.toks+([]:List (Str×Value)).length} →
   codeAny (model X.prog X.w) X.A (.compLoop (.ListComp elt [⟨tgt,iter,[],0⟩] scope pos) 0 (.ref it) (.ref D) (compEnvC scope cl h3.objs.size X.env)) (compPost (model X.prog X.w) X.A X.xe (some (assign (.Name y py) X.env)) (λ_ s'=>SP X pins D0 .next s') (.ref D) h3.objs.size) s4:=by
  rintro s4 rfl;refine fk (λn s'=>∃ i ys H' vs,vs.length=xs.length∧Inv (cxC X scope cl NC h3.objs.size fp {s2 with heap:=h3,toks:=s2.toks} (upd H2 D (.lst []))) [] (vs++h8 σ idx) H' s'∧tn i s'.heap∧(∀ b∈fp,H' b=none)∧W i n ys H')
   ?_ m0 ⟨0,[],_,xs.map (λ_=>none),Dl _,I4,st1,λb hb=>(hf b hb).1,w0⟩
  rintro n s5 ⟨i5,ys,H5,vs,lvs,I5,st5,fr5,w5⟩;obtain⟨hDl,alt⟩:=turn i5 n ys H5 w5;rcases alt with⟨stop,qn⟩|⟨go,hz,N,hN',step⟩
  ·refine thn (T.done (cxC X scope cl NC h3.objs.size fp {s2 with heap:=h3,toks:=s2.toks} (upd H2 D (.lst []))) rfl rfl rfl hc i5 [] s5 _ H5 _ I5 (i6 fr5) st5 stop) λr s6 ⟨hr,I6⟩=>?_
   subst hr;obtain⟨m,ns6,_⟩:=id I6.loc;have J6:Inv X pins σ H5 s6:=I3.lY (ch:=fp) I6.os I6.base I6.hok I6.bare λb hb=>⟨(hf b hb).2.2.2.1,(hf b hb).2.1,(hf b hb).2.2.2.2.1,(hf b hb).2.2.2.2.2⟩;have fC:iK X pins H5 h3.objs.size:=I3.tU (Dk _) I6.free;obtain⟨o,es,ep,ho,rr⟩:=ns6;have od:∀ v,o.data≠.cell v:=λv z=>by
    rw[rr.1]at z;cases z
   show wpAny _ _ (assign (.Name y py) X.env (.ref D)) (λ_ s''=>∃ m,s''.heap.Ns h3.objs.size m∧∀ h',Heap.SameBut h3.objs.size s''.heap h'→SP X pins D0 .next {s'' with heap:=h'}) X.xe s6;have J7:=J6.pinned (fp:=[h3.objs.size]) (λb hb=>by rw[De.mp hb];exact fC) (λb hb=>by rw[De.mp hb];exact⟨o,ho,od⟩);refine wpAny_mono (br (pos:=py) hN hi' (.inl hx) (.inr hx) _ s6 _ H5 (.ref D) (.ref D) D0.nx J7 rfl qn) (λ_ s7 ⟨σ7,H7,I7,q7⟩=>?_) (λ_ _ z=>z);have pC:=I7.pin (h3.objs.size,o) (Di _ (Di _ (bP (De.mpr rfl) ho)));refine⟨m,⟨o,es,ep,pC.1,rr⟩,λh' hs'=>⟨σ7,H7,?_,q7⟩⟩;exact I7.dO.turned (t':=s7.toks) (it:=h3.objs.size) (λb o hb e=>hs'.extBut b o hb e) pC.2.1 fC.2.1 fC.2.2.2.1 fC.2.2.2.2.1 fC.2.2.2.2.2
  ·refine thn (T.item (cxC X scope cl NC h3.objs.size fp {s2 with heap:=h3,toks:=s2.toks} (upd H2 D (.lst []))) rfl rfl rfl hc i5 [] s5 _ H5 _ I5 (i6 fr5) st5 go) λr s6 ⟨u,hr,h6⟩=>?_
   subst hr;refine thn h6 λ_ s7 ⟨y,H7,I7,r7,y7,st7,fr7⟩=>?_;have I7':=I7.pinned (i6 fr7) (T.obj _ _ st7);refine wpAny_mono (hg c h3.objs.size fp {s2 with heap:=h3,toks:=s2.toks} (upd H2 D (.lst [])) _ s7 _ H7 y u _ I7' r7 (step y H7 y7 vs lvs)) (λ_ s8 ⟨σ8,H8,I8,ws,lws,e8,st8⟩=>?_) λ_ _ z=>z.elim;subst e8;refine wpAny_mono (he _ _ _ _ _ s8 _ H8 _ I8 st8) (λw s9 ⟨v,H9,I9,r9,hD9,n9⟩=>?_) λ_ _ z=>z.elim;obtain⟨m',hm,w9⟩:=hN' _ _ n9;refine wpAny_mono (jF (X:=(cxC X scope cl NC h3.objs.size fp {s2 with heap:=h3,toks:=s2.toks} (upd H2 D (.lst [])))) I9 hD9 hz r9) (λ_ s10 I10=>?_) λ_ _ z=>z.elim;refine⟨m',hm,i5+1,ys++[v],_,ws,lws,I10.dO,T.keep _ _ _ st7 λb hb o e=>(I10.pin (b,o) (Di _ (Di _ (bP hb e)))).1,λb hb=>?_,w9⟩;obtain⟨o,e,d⟩:=T.obj _ _ st7 b hb;exact(I10.pin (b,o) (Di _ (Di _ (bP hb e)))).2.1
 exact codeAny_compStart_list (loop _ rfl) (T.self _ 0 _ _ _ st1 (loop _ rfl))
end
theorem oJ{K:W.Frag}{a:Addr}{xs:List V}{k:Nat}{g:TG}{te:TE}{Q:VK}{D:Addr}{τ:St}{H:Hp}(Pv:Nat→List V→Hp→Prop)(h0:Pv 0 [] H)(hD:∀ i ys H,i≤xs.length→Pv i ys H→H D=some (.lst ys)∧ys.length≤i)(hl:∀ i ys H,i≤xs.length→Pv i ys H→SqL K H a xs)(hn:xs.length≤sizeLine)
  (hs:∀ i x ys H,xs[i]?=some x→Pv i ys H→∀ vs:St,vs.length=k→g x (vs++τ) H λσ2 H4=>∃ ws:St,ws.length=k∧σ2=ws++τ∧te (ws++τ) H4 λv H6=>H6 D=some (.lst ys)∧Pv (i+1) (ys++[v]) (upd H6 D (.lst (ys++[v]))))
  (hd:∀ ys H,Pv xs.length ys H→Q (.ref D) H):qw (Itl K a) D k τ g te Q H:=by
 refine⟨λi m ys H=>m=xs.length-i∧i≤xs.length∧Pv i ys H,⟨xs.length,by simp,DQ _,h0⟩,?_⟩;rintro i m ys H2 ⟨rfl,hi,p⟩;obtain⟨d1,d2⟩:=hD i ys H2 hi p;refine⟨d1,?_⟩;have hS:=hl i ys H2 hi p;by_cases hlt:i<xs.length
 ·refine .inr ⟨⟨xs,xs[i],hS,C8 hlt⟩,by omega,Pv (i+1),λzs H' p'=>⟨xs.length-(i+1),by omega,rfl,hlt,p'⟩,λy H3 q=>?_⟩
  obtain⟨e1,e2⟩:=q;subst e1;exact hs i y ys _ (e2 xs (hl i ys _ hi p)) p
 ·have e:i=xs.length:=by omega
  subst e;exact .inl ⟨⟨xs,hS,Dk _⟩,hd ys H2 p⟩
def Be:R2:=λx y H Q=>∃ b c:Bool,x=.bl b∧y=.bl c∧Q (.bl (!decide (b=c))) H
theorem uJ{X:Cx}:OpR X (compareOp .IsNot) Be:=by
 rintro pins s σ H x y v u Q I rx ry ⟨b,c,rfl,rfl,q⟩;cases rx;cases ry;refine wpAny_isNot_plain rfl (aR I q ?_);cases b<;>cases c<;>rfl
end L2
end
section
namespace K35
open PySem L2 LX
abbrev cC:Stmt:=inClass (top 2) 0
abbrev iH:Stmt:=top 17
abbrev tL:Stmt:=top 19
abbrev fE:Stmt:=top 20
abbrev g9:Stmt:=top 21
abbrev pU:Stmt:=top 22
abbrev gh:Stmt:=top 23
abbrev eS:Stmt:=top 24
abbrev d6:Stmt:=top 25
abbrev gG:Stmt:=top 27
abbrev fm:Stmt:=top 28
abbrev gH:Stmt:=top 29
abbrev dr:Stmt:=inClass (top 31) 0
abbrev eT:Stmt:=inClass (top 31) 1
abbrev gi:Stmt:=inClass (top 31) 2
abbrev fo:Stmt:=inClass (top 31) 3
abbrev bI:Stmt:=inClass (top 31) 5
abbrev gj:Stmt:=top 33
abbrev fq:Stmt:=top 34
abbrev ft:Stmt:=top 35
abbrev bf:Stmt:=top 36
abbrev gk:Stmt:=top 37
abbrev gn:Stmt:=top 38
abbrev cM:Stmt:=top 39
abbrev dX:Stmt:=top 40
abbrev tM:Stmt:=top 41
structure Ad where
 bB:Addr
 ab:Addr
 cH:Addr
 cI:Addr
 de:Addr
 dQ:Addr
 df:Addr
 cJ:Addr
 dh:Addr
 di:Addr
 dR:Addr
 dj:Addr
 dn:Addr
 ba:Addr
 aG:Addr
 az:Addr
 aM:FuncData
 cy:Addr
 d8:FuncData
 iw:Addr
 mr:FuncData
 bR:Addr
 dE:FuncData
 b8:Addr
 eA:FuncData
 fU:Addr
 jN:FuncData
 bL:Addr
 dI:FuncData
 a7:Addr
 cZ:FuncData
 aS:Addr
 bT:FuncData
 cU:Addr
 fe:FuncData
 bg:Addr
 du:FuncData
 cz:Addr
 d9:FuncData
 aQ:Addr
 bH:FuncData
 bt:Addr
 c3:FuncData
 bC:Addr
 cF:FuncData
 a8:Addr
 b4:FuncData
 aw:Addr
 aJ:FuncData
 bD:Addr
 c7:FuncData
 aX:Addr
 b5:FuncData
 bh:Addr
 dv:FuncData
 bj:Addr
 cN:FuncData
 bM:Addr
 dJ:FuncData
 bN:Addr
 dM:FuncData
 bo:Addr
 dw:FuncData
 bp:Addr
 dy:FuncData
 kg:Addr
 oK:FuncData
structure Txt(K:W.Frag)(mg:Str→Option Value)(D:Ad):Prop where
 h:∃ cd,cX K D.bB cd
 mH:mg "HeapError" = some (.ref D.bB)
 c4:mg "BadAddress" = some (.ref D.ab)
 aW:w4 K D.ab
 eU:MkX K D.ab D.az
 jO:PySem.W.kitOne K (.ref D.ab) (.type "ValueError")=some true
 i8:∃ cd,cX K D.ab cd∧cd.mro.contains (.ref D.bB)=true
 mK:mg "BadCount" = some (.ref D.cH)
 mL:mg "BadField" = some (.ref D.cI)
 oM:mg "BadHand" = some (.ref D.de)
 rj:mg "BadLog" = some (.ref D.dQ)
 oN:mg "BadName" = some (.ref D.df)
 mM:mg "BadPaper" = some (.ref D.cJ)
 oO:mg "BadText" = some (.ref D.dh)
 oP:mg "BadView" = some (.ref D.di)
 rk:mg "NoRoom" = some (.ref D.dR)
 oQ:mg "NoRound" = some (.ref D.dj)
 oR:mg "RoundOn" = some (.ref D.dn)
 iV:mg "TooManyWords" = some (.ref D.ba)
 a6:PySem.W.kitOne K (.ref D.ab) (.ref D.ab)=some true
 bW:PySem.W.kitOne K (.ref D.ab) (.ref D.cH)=some false
 bX:PySem.W.kitOne K (.ref D.ab) (.ref D.cI)=some false
 cc:PySem.W.kitOne K (.ref D.ab) (.ref D.de)=some false
 cD:PySem.W.kitOne K (.ref D.ab) (.ref D.dQ)=some false
 cf:PySem.W.kitOne K (.ref D.ab) (.ref D.df)=some false
 bY:PySem.W.kitOne K (.ref D.ab) (.ref D.cJ)=some false
 cg:PySem.W.kitOne K (.ref D.ab) (.ref D.dh)=some false
 ck:PySem.W.kitOne K (.ref D.ab) (.ref D.di)=some false
 cE:PySem.W.kitOne K (.ref D.ab) (.ref D.dR)=some false
 cn:PySem.W.kitOne K (.ref D.ab) (.ref D.dj)=some false
 cp:PySem.W.kitOne K (.ref D.ab) (.ref D.dn)=some false
 bw:PySem.W.kitOne K (.ref D.ab) (.ref D.ba)=some false
 rl:mg "Memory" = some (.ref D.aG)
 aI:Cls K D.aG
 iI:Mk K D.aG D.aQ
 bU:ij K D.aG "cells"
 i9:Meth K D.aG "size" D.bt
 dz:Meth K D.aG "at" D.bC
 cu:Meth K D.aG "put" D.a8
 cK:Meth K D.aG "look_at_address" D.aw
 kB:mg "kind_of" = some (.ref D.cy)
 gI:PySem.W.keepIn K (.ref D.cy)=true
 xa:mg "lay" = some (.ref D.iw)
 rQ:PySem.W.keepIn K (.ref D.iw)=true
 jv:mg "thing_at" = some (.ref D.bR)
 fF:PySem.W.keepIn K (.ref D.bR)=true
 oS:mg "resolved" = some (.ref D.b8)
 hJ:PySem.W.keepIn K (.ref D.b8)=true
 x6:mg "move" = some (.ref D.fU)
 pV:PySem.W.keepIn K (.ref D.fU)=true
 mN:mg "fields_at" = some (.ref D.bL)
 gp:PySem.W.keepIn K (.ref D.bL)=true
 jP:mg "fields_told" = some (.ref D.a7)
 eV:PySem.W.keepIn K (.ref D.a7)=true
 f9:mg "look_at_room" = some (.ref D.aS)
 dt:PySem.W.keepIn K (.ref D.aS)=true
 rm:mg "book_of" = some (.ref D.cU)
 iJ:PySem.W.keepIn K (.ref D.cU)=true
 kK:mg "address_in" = some (.ref D.bg)
 fu:PySem.W.keepIn K (.ref D.bg)=true
 gJ:mg "is_book" = some (.ref D.cz)
 ed:PySem.W.keepIn K (.ref D.cz)=true
 gq:mg "_law_cell" = some (.ref D.bD)
 dN:PySem.W.keepIn K (.ref D.bD)=true
 cO:mg "_law_mixed" = some (.ref D.aX)
 bK:PySem.W.keepIn K (.ref D.aX)=true
 kL:mg "_law_flags" = some (.ref D.bh)
 fw:PySem.W.keepIn K (.ref D.bh)=true
 fz:mg "_law_alike" = some (.ref D.bj)
 dA:PySem.W.keepIn K (.ref D.bj)=true
 iQ:mg "_law_done" = some (.ref D.bM)
 eM:PySem.W.keepIn K (.ref D.bM)=true
 mO:mg "_law_laid" = some (.ref D.bN)
 gr:PySem.W.keepIn K (.ref D.bN)=true
 kM:mg "_law_asked" = some (.ref D.bo)
 fA:PySem.W.keepIn K (.ref D.bo)=true
 ia:mg "_law_lists" = some (.ref D.bp)
 dY:PySem.W.keepIn K (.ref D.bp)=true
 C4:mg "law" = some (.ref D.kg)
 xb:PySem.W.keepIn K (.ref D.kg)=true
 fc:mg "len" = none
 eB:mg "range" = none
 ik:mg "list" = none
 gz:mg "sorted" = none
 aj:mg "isinstance" = none
 mw:mg "int" = none
 jQ:mg "bool" = none
 my:mg "str" = none
 jw:mg "tuple" = none
 eN:mg "enumerate" = none
 rR:mg "all" = none
 dZ:mg "ValueError" = none
structure Ok(P:Program)(w:World)(K:W.Frag)(mg:Str→Option Value)(base:Heap)(n:Nat)(f:Addr)(fd:FuncData)(ps:List Str)(sp:Sp):Prop where
 g:g5 P w K mg base (CXE P w) n f fd ps sp
 b:Binds K fd ps []
section
variable{P:Program}{w:World}{K:W.Frag}{mg:Str→Option Value}{base:Heap}{D:Ad}
theorem x8{P:Program}{w:World}{X:Cx}:Passes (CXE P w) X (λ_ _ _=>False):=λ_ _ _ _ _ _ _ ⟨_,_,_,_,_,_,_,_,_,q⟩=>q.elim
theorem ff{H0 H:Hp}{K:W.Frag}{E E2:XK}{C:Addr}{y:Str}(ec:w4 K C)(h0:∀ b,H b=none→H0 b=none)(k:∀ H',aA H H'→E (.ref C) none H')(ea:Addr)(hea:H ea=none) :
  uF K [.ref ea,.str y] (upd H ea (exo true C ea none)) (λv H2=>v=.non∧(λ(v:V) (H1:Hp)=>∃ ea C od,v=.ref ea∧H1 ea=some (exo true C ea od)∧(∃ cd,cX K C cd)∧H0 ea=none∧E (.ref C) od (del H1 ea)) (.ref ea) H2) E2:=by
 refine⟨ea,C,none,.str y,rfl,af,ec.cls,rfl,ea,C,none,rfl,af,ec.cls,h0 _ hea,k _ λb o q=>?_⟩;have nb:b≠ea:=λe=>by rw[e,hea]at q;cases q
 rw[gS nb,ak nb];exact q
def Bad(C:Addr)(H:Hp)(E:XK):Prop:=∀ H',aA H H'→E (.ref C) none H'
theorem Bad.same{C:Addr}{H H1:Hp}{E:XK}(k:Bad C H E)(s:aA H H1):Bad C H1 E:=λH' s'=>k H' (s.trans s')
def Sm(n:Int):Prop:=n.natAbs.log2<1920
theorem Sm.of{n:Int}(h0:-1000000≤n)(h1:n≤1000000):Sm n:=ra (Nat.lt_trans (show n.natAbs<2000000 by omega) (by decide))
theorem fV{xs:List V}{a:Int}{v:V}(h0:0≤a)(h:xs[a.toNat]?=some v):atI xs a=some v:=by
 have e:a=(a.toNat:Int):=by omega
 rw[e];exact qg h
theorem Bf{n:Nat}{a:Int}(h0:0≤a)(h1:a<n):ixN n a=some a.toNat:=by
 unfold ixN;rw[if_pos h0,if_pos h1]
theorem fG{b:Bool}{A B:Prop}(h:b=false)(k:B):if b=true then A else B:=by rw[h];exact k
theorem kh{b:Bool}{A B:Prop}(h:b=true)(k:A):if b=true then A else B:=by rw[h];exact k
def But(m:Addr)(H H':Hp):Prop:=∀ b u,b≠m→H b=some u→H' b=some u
theorem But.upd{m a:Addr}{H:Hp}{o:HO}(h:H a=none):But m H (L2.upd H a o):=λb u _ q=>by rw[ak (ai q h)];exact q
theorem But.self{m:Addr}{H:Hp}{o:HO}:But m H (L2.upd H m o):=λb u n q=>by rw[ak n];exact q
theorem But.trans{m:Addr}{H H1 H2:Hp}(a:But m H H1)(b:But m H1 H2):But m H H2:=λc u n q=>b c u n (a c u n q)
theorem But.same{m:Addr}{H H1:Hp}(s:aA H H1):But m H H1:=λb u _ q=>s b u q
theorem aA.none{H H':Hp}(s:aA H H'){b:Addr}(h:H' b=none):H b=none:=by
 cases q:H b with
 | none=>rfl
 | some u=>rw[s _ _ q]at h;cases h
inductive Mw where
 | no
 | num (n:Int)
 | ad (a:Int)
 | hd (t n:Int)
 | mv (a n:Int)
def Mw.its:Mw→List V
 | .no=>[]
 | .num n=>[.str "number",.int n]
 | .ad a=>[.str "at",.int a]
 | .hd t n=>[.str "head",.int t,.int n]
 | .mv a n=>[.str "moved",.int a,.int n]
def Mw.kind:Mw→Str
 | .no => "none"
 | .num _ => "number"
 | .ad _ => "at"
 | .hd _ _ => "head"
 | .mv _ _ => "moved"
def MV(H:Hp)(v:V)(w:Mw):Prop:=(w=.no∧v=.non)∨(w≠.no∧∃ t,v=.ref t∧H t=some (.tup w.its))
def cV(H H':Hp):Prop:=∀ t us,H t=some (.tup us)→H' t=some (.tup us)
theorem cV.of{H H':Hp}(s:aA H H'):cV H H':=λt us q=>s _ _ q
theorem cV.trans{H H1 H2:Hp}(a:cV H H1)(b:cV H1 H2):cV H H2:=λt us q=>b t us (a t us q)
theorem cV.set{H:Hp}{c:Addr}{xs:List V}{o:HO}(h:H c=some (.lst xs)):cV H (upd H c o):=λt us q=>by
 rw[ak (ee q h (by intro z;cases z))];exact q
theorem MV.keep{H H':Hp}{v:V}{w:Mw}(h:MV H v w)(s:cV H H'):MV H' v w:=by
 rcases h with h|⟨n,t,e,q⟩
 ·exact .inl h
 ·exact .inr ⟨n,t,e,s _ _ q⟩
def MR(H:Hp)(xs:List V)(ws:List Mw):Prop:=xs.length=ws.length∧∀(i:Nat) (v:V) (w:Mw),xs[i]?=some v→ws[i]?=some w→MV H v w
theorem MR.keep{H H':Hp}{xs:List V}{ws:List Mw}(h:MR H xs ws)(s:cV H H'):MR H' xs ws:=⟨h.1,λi v w a b=>(h.2 i v w a b).keep s⟩
theorem MR.get{H:Hp}{xs:List V}{ws:List Mw}(h:MR H xs ws){i:Nat}{w:Mw}(hw:ws[i]?=some w):∃ v,xs[i]?=some v∧MV H v w:=by
 have hi:i<xs.length:=by rw[h.1];exact(Dd.mp hw).1
 exact⟨_,C8 hi,h.2 i _ _ (C8 hi) hw⟩
theorem MR.set{H:Hp}{xs:List V}{ws:List Mw}{i:Nat}{v:V}{w:Mw}(h:MR H xs ws)(hv:MV H v w):MR H (xs.set i v) (ws.set i w):=by
 refine⟨by rw[Dy,Dy];exact h.1,λj u y a b=>?_⟩;by_cases e:i=j
 ·subst e
  rw[En]at a b;simp only[if_true]at a b;split at a
  ·split at b
   ·cases a;cases b;exact hv
   ·cases b
  ·cases a
 ·rw[Du e]at a b
  exact h.2 j u y a b
theorem MR.rep{H:Hp}{n:Nat}:MR H (List.replicate n .non) (List.replicate n .no):=⟨by rw[DU,DU],λi v w a b=>by
 rw[D6]at a b;split at a
 ·rename_i c
  rw[if_pos c]at b;cases a;cases b;exact .inl ⟨rfl,rfl⟩
 ·cases a⟩
structure Mm(D:Ad)(H:Hp)(m mx c:Addr)(xs:List V)(ws:List Mw):Prop where
 i:H m=some (.ins D.aG mx [("cells",.ref c)])
 l:H c=some (.lst xs)
 r:MR H xs ws
 z:ws.length≤10000
section
variable{D:Ad}{H H':Hp}{m mx c:Addr}{xs:List V}{ws:List Mw}
theorem Mm.same(M:Mm D H m mx c xs ws)(s:aA H H'):Mm D H' m mx c xs ws:=⟨s _ _ M.i,s _ _ M.l,M.r.keep (cV.of s),M.z⟩
theorem Mm.mc(M:Mm D H m mx c xs ws):m≠c:=ee M.i M.l (by intro z;cases z)
theorem Mm.set(M:Mm D H m mx c xs ws){i:Nat}{v:V}{w:Mw}(hv:MV H v w):Mm D (upd H c (.lst (xs.set i v))) m mx c (xs.set i v) (ws.set i w) :=
 ⟨by rw[ak M.mc];exact M.i,af,(M.r.set hv).keep (cV.set M.l),by rw[Dy];exact M.z⟩
end
theorem sJ(n:Nat):(List.replicate n [V.non]).flatten=List.replicate n .non:=by
 induction n with
 | zero=>rfl
 | succ n ih=>rw[DT,Eb,ih,DT];rfl
def thg(ws:List Mw)(a:Int):Option (Int×Int):=if 0≤a then(match ws[a.toNat]? with|some (.hd t n)=>if a+n<ws.length then some (t,n) else none|_=>none) else none
theorem nS{ws:List Mw}{a t n:Int}(h:thg ws a=some (t,n)):0≤a∧ws[a.toNat]?=some (.hd t n)∧a+n<ws.length:=by
 unfold thg at h;split at h
 ·rename_i h0
  split at h
  ·rename_i t' n' e
   split at h
   ·rename_i hl
    cases h;exact⟨h0,e,hl⟩
   ·cases h
  ·cases h
 ·cases h
structure Gm(ws:List Mw):Prop where
 hd:∀ t n,Mw.hd t n∈ws→0≤n∧n≤1000
 mv:∀ a n,Mw.mv a n∈ws→Sm a
inductive Rv(ws:List Mw):Nat→Int→Option Int→Prop where
 | out {a:Int}:¬(0≤a∧a<ws.length)→Rv ws 0 a none
 | stop {a:Int} {w:Mw}:0≤a→ws[a.toNat]?=some w→(∀ b n,w≠.mv b n)→Rv ws 0 a (some a)
 | step {k:Nat} {a b n:Int} {r:Option Int}:0≤a→ws[a.toNat]?=some (.mv b n)→Rv ws k b r→Rv ws (k+1) a r
def gK(ws:List Mw):Nat→List Mw→List Mw
 | _,[]=>ws
 | i,u::r=>gK (ws.set i u) (i+1) r
theorem kC(ws:List Mw)(i:Nat)(us:List Mw):(gK ws i us).length=ws.length:=by
 induction us generalizing ws i with
 | nil=>rfl
 | cons u r ih=>unfold gK;rw[ih,Dy]
theorem oU(ws:List Mw)(i:Nat)(us:List Mw)(u:Mw):gK ws i (us++[u])=(gK ws i us).set (i+us.length) u:=by
 induction us generalizing ws i with
 | nil=>rfl
 | cons v r ih =>
  show gK (ws.set i v) (i+1) (r++[u])=(gK (ws.set i v) (i+1) r).set (i+(r.length+1)) u;rw[ih,show i+1+r.length=i+(r.length+1) by omega]
theorem sL(ws:List Mw)(i:Nat)(us:List Mw)(j:Nat)(hl:i+us.length≤ws.length):(gK ws i us)[j]?=if i≤j∧j<i+us.length then us[j-i]? else ws[j]?:=by
 induction us generalizing ws i with
 | nil=>rw[if_neg (by simp)];rfl
 | cons u r ih =>
  show(gK (ws.set i u) (i+1) r)[j]?=_;rw[Dx]at hl ⊢;rw[ih (ws.set i u) (i+1) (by rw[Dy];omega)];by_cases c:i=j
  ·subst c
   rw[if_neg (by omega),if_pos (by omega),DL (by omega),Ey];rfl
  ·by_cases d:i+1≤j∧j<i+1+r.length
   ·rw[if_pos d,if_pos (by omega),show j-i=(j-(i+1))+1 by omega,List.getElem?_cons_succ]
   ·rw[if_neg d,if_neg (by omega),Du c]
def layW(ws:List Mw)(a:Nat)(t:Int)(us:List Mw):List Mw:=gK (ws.set a (.hd t us.length)) (a+1) us
def fW(ws:List Mw)(a n:Nat):List Mw:=(ws.drop (a+1)).take n
abbrev fX:List Str:=["self", "text"]
theorem fJ:aO fX ["self", "text"] (ar cC):=⟨rfl,rfl,rfl,by decide +kernel,rfl,by decide +kernel,by decide +kernel⟩
theorem fK(F:Fun K "__init__" "HeapError.__init__" cC D.az D.aM)(T:Txt K mg D):Ok P w K mg base 1 D.az D.aM ["self", "text"] (uF K):=by
 refine⟨?_,F.binds (ps:=["self", "text"]) λ_ _ _ _ _ _ us hl=>match us,hl with|[_,_],_=>rfl⟩
 refine F.okE fJ (λvs H Q E h=>?_) (λcdv A' outer s' H vs Q E hr h=>?_)
 ·obtain⟨ea,C,od,x,rfl,_⟩:=h
  rfl
 ·obtain⟨ea,C,od,x,rfl,h1,hc,k⟩:=h
  refine⟨_,(aq (bS (A7 rfl T.dZ (aa (pv 0) (aa (pv 1) ae))))),?_⟩;exact⟨_,rfl,_,rfl,ea,C,od,[x],rfl,(by show 1≤1000;decide),h1,hc,k⟩
def nU(D:Ad):Sp:=λvs H Q _=>∃ m dx,∃ n:Int,vs=[.ref m,.int n]∧H m=some (.ins D.aG dx [])∧0≤n∧n≤10000∧∀ c H',But m H H'→H c=none→Mm D H' m dx c (List.replicate n.toNat .non) (List.replicate n.toNat .no)→Q .non H'
abbrev hR:List Str:=["self", "size"]
theorem gX:aO hR ["self", "size"] (ar dr):=⟨rfl,rfl,rfl,by decide +kernel,rfl,by decide +kernel,by decide +kernel⟩
theorem gY(F:Fun K "__init__" "Memory.__init__" dr D.aQ D.bH)(T:Txt K mg D):Ok P w K mg base 1 D.aQ D.bH ["self", "size"] (nU D):=by
 refine⟨?_,F.binds (ps:=["self", "size"]) λ_ _ _ _ _ _ us hl=>match us,hl with|[_,_],_=>rfl⟩
 refine F.okE gX (λvs H Q E h=>?_) (λcdv A' outer s' H vs Q E hr h=>?_)
 ·obtain⟨m,dx,n,rfl,_⟩:=h
  rfl
 ·obtain⟨m,dx,n,rfl,hm,n0,n1,k⟩:=h
  refine⟨_,(aq (xy (pv 0) (aH xG (dW (aa dU ae)) (pv 1)) rfl)),?_⟩;refine⟨by show 1≤sizeLine;decide,λp hp=>⟨_,rfl,p,n,_,rfl,rfl,af,by omega,by omega,by show 1*n.toNat≤sizeLine;exact DK (show 1*n.toNat≤10000 by omega) (by decide),λq hq=>?_⟩⟩;have np:m≠p:=ai hm hp;have hm1:upd H p (.lst [.non]) m=some (.ins D.aG dx []):=by rw[ak np];exact hm
  have nq:m≠q:=ai hm1 hq;have qp:q≠p:=λe=>by rw[e,af]at hq;cases hq
  have hq0:H q=none:=by rw[ak qp]at hq;exact hq
  refine⟨_,rfl,m,D.aG,dx,[],rfl,(by rw[ak nq];exact hm1),T.aI,T.bU,by decide,?_⟩;refine k q _ (((But.upd hp).trans (But.upd hq)).trans But.self) hq0 ⟨af,?_,MR.rep,by rw[DU];omega⟩;rw[ak (DH nq),af,sJ]
def nV(D:Ad):Sp:=λvs H Q _=>∃ m mx c xs ws,vs=[.ref m]∧Mm D H m mx c xs ws∧Q (.int ws.length) H
abbrev jR:List Str:=["self"]
theorem ja:aO jR ["self"] (ar eT):=⟨rfl,rfl,rfl,by decide +kernel,rfl,by decide +kernel,by decide +kernel⟩
theorem jb(F:Fun K "size" "Memory.size" eT D.bt D.c3)(T:Txt K mg D):Ok P w K mg base 1 D.bt D.c3 ["self"] (nV D):=by
 refine⟨?_,F.binds (ps:=["self"]) λ_ _ _ _ _ _ us hl=>match us,hl with|[_],_=>rfl⟩
 refine F.okE ja (λvs H Q E h=>?_) (λcdv A' outer s' H vs Q E hr h=>?_)
 ·obtain⟨m,mx,c,xs,ws,rfl,_⟩:=h
  rfl
 ·obtain⟨m,mx,c,xs,ws,rfl,M,k⟩:=h
  refine⟨_,(PSs.nox (aq (aT (ao aP rfl T.fc PyProof.Rows.Boot.«len» (aa (l9 (pv 0) rfl) ae))))),?_⟩;refine⟨_,rfl,m,D.aG,mx,_,.ref c,rfl,M.i,T.aI,T.bU,rfl,c,_,rfl,.inl (SqL.of M.l),?_⟩;rw[M.r.1];exact k
def jG(D:Ad):Sp:=λvs H Q E=>∃ m mx c xs ws,∃ a:Int,vs=[.ref m,.int a]∧Mm D H m mx c xs ws∧Sm a∧(if 0≤a∧a<ws.length then Q .non H else Bad D.ab H E)
abbrev eF:List Str:=["self", "a"]
theorem eC:aO eF ["self", "a"] (ar bI):=⟨rfl,rfl,rfl,by decide +kernel,rfl,by decide +kernel,by decide +kernel⟩
theorem eD(F:Fun K "look_at_address" "Memory.look_at_address" bI D.aw D.aJ)(T:Txt K mg D)
  (au:Ok P w K mg base 1 D.az D.aM ["self", "text"] (uF K)):Ok P w K mg base 3 D.aw D.aJ ["self", "a"] (jG D):=by
 refine⟨?_,F.binds (ps:=["self", "a"]) λ_ _ _ _ _ _ us hl=>match us,hl with|[_,_],_=>rfl⟩
 refine F.okE eC (λvs H Q E h=>?_) (λcdv A' outer s' H vs Q E hr h=>?_)
 ·obtain⟨m,mx,c,xs,ws,a,rfl,_⟩:=h
  rfl
 ·obtain⟨m,mx,c,xs,ws,a,rfl,M,ha,k⟩:=h
  refine⟨_,(aq (dD (i0 (r8 uW oh ah (pv 1) (ao aP rfl T.fc PyProof.Rows.Boot.«len» (aa (l9 (pv 0) rfl) ae))))
    (aq (jE rfl pQ (pR T.eU au.g (hr.mono (by decide)) rfl T.c4 au.b (Passes.x (fS λ_ _ _ q=>q)) (aa (lT (dP jo (dP (mj (pv 1)) lS))) ae))))
    bq)),?_⟩
  have el:=M.r.1;by_cases g:0≤a∧a<(ws.length:Int)
  ·rw[if_pos g]at k
   refine⟨_,rfl,0,a,rfl,rfl,_,rfl,g7 (λ_=>⟨_,rfl,m,D.aG,mx,_,.ref c,rfl,M.i,T.aI,T.bU,rfl,c,_,rfl,.inl (SqL.of M.l),a,_,rfl,rfl,_,rfl,g7 (λh2=>absurd h2 (by rw[el,decide_eq_true g.2];decide)) (λ_=>k)⟩) (λh1=>absurd (decide_eq_true g.1) h1)⟩
  ·rw[if_neg g]at k
   by_cases g0:0≤a
   ·have g1:¬a<(ws.length:Int):=λz=>g ⟨g0,z⟩
    refine⟨_,rfl,0,a,rfl,rfl,_,rfl,g7 (λ_=>⟨_,rfl,m,D.aG,mx,_,.ref c,rfl,M.i,T.aI,T.bU,rfl,c,_,rfl,.inl (SqL.of M.l),a,_,rfl,rfl,_,rfl,g7 (λ_=>⟨_,rfl,a,rfl,ha,λy hy ea hea=>ff T.aW (λ_ q=>q) k ea hea⟩) (λh2=>absurd (by rw[el,decide_eq_false g1];rfl) h2)⟩) (λh1=>absurd (decide_eq_true g0) h1)⟩
   ·refine⟨_,rfl,0,a,rfl,rfl,_,rfl,g7 (λh1=>absurd (of_decide_eq_true h1) g0) (λ_=>⟨_,rfl,iB ⟨_,rfl,a,rfl,ha,λy hy ea hea=>ff T.aW (λ_ q=>q) k ea hea⟩⟩)⟩
def jS(D:Ad):Sp:=λvs H Q E=>∃ m mx c xs ws,∃ a:Int,vs=[.ref m,.int a]∧Mm D H m mx c xs ws∧Sm a∧(if 0≤a∧a<ws.length then ∀ v w,xs[a.toNat]?=some v→ws[a.toNat]?=some w→MV H v w→Q v H else Bad D.ab H E)
abbrev mP:List Str:=["self", "a"]
theorem kN:aO mP ["self", "a"] (ar gi):=⟨rfl,rfl,rfl,by decide +kernel,rfl,by decide +kernel,by decide +kernel⟩
theorem kO(F:Fun K "at" "Memory.at" gi D.bC D.cF)(T:Txt K mg D)
  (aB:Ok P w K mg base 3 D.aw D.aJ ["self", "a"] (jG D)):Ok P w K mg base 4 D.bC D.cF ["self", "a"] (jS D):=by
 refine⟨?_,F.binds (ps:=["self", "a"]) λ_ _ _ _ _ _ us hl=>match us,hl with|[_,_],_=>rfl⟩
 refine F.okE kN (λvs H Q E h=>?_) (λcdv A' outer s' H vs Q E hr h=>?_)
 ·obtain⟨m,mx,c,xs,ws,a,rfl,_⟩:=h
  rfl
 ·obtain⟨m,mx,c,xs,ws,a,rfl,M,ha,k⟩:=h
  refine⟨_,(ag (bS (cY (pv 0) T.aI T.cK aB.g (hr.mono (by decide)) aB.b .nil (Passes.x (fS λ_ _ _ q=>q)) (aa (pv 1) ae)))
   (aq (aT (b7 eo (l9 (pv 0) rfl) (pv 1) (λ_ _=>rfl))))),?_⟩
  have el:=M.r.1;refine⟨_,rfl,m,_,_,rfl,M.i,(by kernel_rfl),_,rfl,m,mx,c,xs,ws,a,rfl,M,ha,?_⟩;by_cases g:0≤a∧a<(ws.length:Int)
  ·rw[if_pos g]at k ⊢
   have hw:ws[a.toNat]?=some (ws[a.toNat]'(by omega)):=C8 _;obtain⟨v,hv,mv⟩:=M.r.get hw;exact⟨_,rfl,m,D.aG,mx,_,.ref c,rfl,M.i,T.aI,T.bU,rfl,_,rfl,c,xs,a,v,rfl,rfl,SqL.of M.l,fV g.1 hv,k v _ hv hw mv⟩
  ·rw[if_neg g]at k ⊢
   exact k
def jx(D:Ad):Sp:=λvs H Q E=>∃ m mx c xs ws,∃(a:Int) (v:V) (w:Mw),vs=[.ref m,.int a,v]∧Mm D H m mx c xs ws∧Sm a∧MV H v w∧(if 0≤a∧a<ws.length then(Mm D (upd H c (.lst (xs.set a.toNat v))) m mx c (xs.set a.toNat v) (ws.set a.toNat w)→Q .non (upd H c (.lst (xs.set a.toNat v)))) else Bad D.ab H E)
abbrev kP:List Str:=["self", "a", "word"]
theorem jT:aO kP ["self", "a", "word"] (ar fo):=⟨rfl,rfl,rfl,by decide +kernel,rfl,by decide +kernel,by decide +kernel⟩
theorem jU(F:Fun K "put" "Memory.put" fo D.a8 D.b4)(T:Txt K mg D)
  (aB:Ok P w K mg base 3 D.aw D.aJ ["self", "a"] (jG D)):Ok P w K mg base 4 D.a8 D.b4 ["self", "a", "word"] (jx D):=by
 refine⟨?_,F.binds (ps:=["self", "a", "word"]) λ_ _ _ _ _ _ us hl=>match us,hl with|[_,_,_],_=>rfl⟩
 refine F.okE jT (λvs H Q E h=>?_) (λcdv A' outer s' H vs Q E hr h=>?_)
 ·obtain⟨m,mx,c,xs,ws,a,v,w,rfl,_⟩:=h
  rfl
 ·obtain⟨m,mx,c,xs,ws,a,v,w,rfl,M,ha,hv,k⟩:=h
  refine⟨_,(ag (bS (cY (pv 0) T.aI T.cK aB.g (hr.mono (by decide)) aB.b .nil (Passes.x (fS λ_ _ _ q=>q)) (aa (pv 1) ae)))
   (aq (sQ (pv 2) (xv (l9 (pv 0) rfl) (pv 1) set_list)))),?_⟩
  have el:=M.r.1;refine⟨_,rfl,m,_,_,rfl,M.i,(by kernel_rfl),_,rfl,m,mx,c,xs,ws,a,rfl,M,ha,?_⟩;by_cases g:0≤a∧a<(ws.length:Int)
  ·rw[if_pos g]at k ⊢
   exact⟨_,rfl,_,rfl,m,D.aG,mx,_,.ref c,rfl,M.i,T.aI,T.bU,rfl,_,rfl,c,xs,a,a.toNat,rfl,rfl,M.l,Bf g.1 (by rw[el];exact g.2),k (M.set hv)⟩
  ·rw[if_neg g]at k ⊢
   exact k
def pW:Sp:=λvs H Q _=>∃ v w,vs=[v]∧MV H v w∧Q (.str w.kind) H
abbrev rn:List Str:=["value"]
theorem oV:aO rn ["value"] (ar iH):=⟨rfl,rfl,rfl,by decide +kernel,rfl,by decide +kernel,by decide +kernel⟩
theorem oW(F:Fun K "kind_of" "kind_of" iH D.cy D.d8)(T:Txt K mg D):Ok P w K mg base 1 D.cy D.d8 ["value"] (pW):=by
 refine⟨?_,F.binds (ps:=["value"]) λ_ _ _ _ _ _ us hl=>match us,hl with|[_],_=>rfl⟩
 refine F.okE oV (λvs H Q E h=>?_) (λcdv A' outer s' H vs Q E hr h=>?_)
 ·obtain⟨v,w,rfl,_⟩:=h
  rfl
 ·obtain⟨v,w,rfl,hv,k⟩:=h
  refine⟨_,(PSs.nox (aq (aT (rZ (bF i3 (pv 0) dU (aZ _)) dB (b7 cq (pv 0) ah (λ_ _=>rfl)))))),?_⟩;rcases hv with⟨rfl,rfl⟩|⟨n,t,rfl,ht⟩
  ·exact⟨_,rfl,rfl,_,rfl,g7 (λ_=>k) (λh=>absurd (by simp) h)⟩
  ·refine⟨_,rfl,rfl,_,rfl,g7 (λh=>by simp at h) (λ_=>⟨_,rfl,t,_,0,.str w.kind,rfl,rfl,SqT.of ht,?_,k⟩)⟩
   cases w with
   | no=>exact absurd rfl n
   | _=>rfl
def lV(D:Ad):Sp:=λvs H Q E=>∃ m mx c xs ws,∃ a n:Int,vs=[.ref m,.int a,.int n]∧Mm D H m mx c xs ws∧Sm a∧Sm n∧(if 0≤a∧a+n<ws.length then Q .non H else Bad D.ab H E)
abbrev jc:List Str:=["memory", "a", "fields"]
theorem iW:aO jc ["memory", "a", "fields"] (ar d6):=⟨rfl,rfl,rfl,by decide +kernel,rfl,by decide +kernel,by decide +kernel⟩
theorem iX(F:Fun K "look_at_room" "look_at_room" d6 D.aS D.bT)(T:Txt K mg D)
  (dF:Ok P w K mg base 1 D.bt D.c3 ["self"] (nV D))
  (au:Ok P w K mg base 1 D.az D.aM ["self", "text"] (uF K)):Ok P w K mg base 3 D.aS D.bT ["memory", "a", "fields"] (lV D):=by
 refine⟨?_,F.binds (ps:=["memory", "a", "fields"]) λ_ _ _ _ _ _ us hl=>match us,hl with|[_,_,_],_=>rfl⟩
 refine F.okE iW (λvs H Q E h=>?_) (λcdv A' outer s' H vs Q E hr h=>?_)
 ·obtain⟨m,mx,c,xs,ws,a,n,rfl,_⟩:=h
  rfl
 ·obtain⟨m,mx,c,xs,ws,a,n,rfl,M,ha,hn,k⟩:=h
  refine⟨_,(aq (dD (PW.pt (pw_or (bF oh (pv 1) ah (aZ _)) (pw_or1 (bF uX (aH cB (pv 1) (pv 2)) (sq (pv 0) T.aI T.i9 dF.g (hr.mono (by decide)) dF.b .nil (Passes.x (fS λ_ _ _ q=>q))) (aZ _)))))
    (aq (jE rfl pQ (pR T.eU au.g (hr.mono (by decide)) rfl T.c4 au.b (Passes.x (fS λ_ _ _ q=>q)) (aa (lT (dP jo (dP (mj (pv 2)) (dP jo (dP (mj (pv 1)) lS))))) ae))))
    bq)),?_⟩
  by_cases g0:a<0
  ·rw[if_neg (λz=>by have:=z.1;omega)]at k
   exact⟨_,rfl,a,0,rfl,rfl,_,rfl,kh (decide_eq_true g0) (iB ⟨_,rfl,n,rfl,hn,_,rfl,a,rfl,ha,λy hy ea hea=>ff T.aW (λ_ q=>q) k ea hea⟩)⟩
  ·refine⟨_,rfl,a,0,rfl,rfl,_,rfl,fG (decide_eq_false g0) ⟨_,rfl,_,rfl,a,n,rfl,rfl,_,rfl,m,_,_,rfl,M.i,(by kernel_rfl),m,mx,c,xs,ws,rfl,M,_,_,rfl,rfl,_,rfl,?_⟩⟩
   by_cases g:0≤a∧a+n<(ws.length:Int)
   ·rw[if_pos g]at k
    exact fG (decide_eq_false (by omega)) k
   ·rw[if_neg g]at k
    exact kh (decide_eq_true (by omega)) ⟨_,rfl,n,rfl,hn,_,rfl,a,rfl,ha,λy hy ea hea=>ff T.aW (λ_ q=>q) k ea hea⟩
def nW(D:Ad):Sp:=λvs H Q E=>∃ m mx c xs ws,∃(a:Int) (kd:Addr),vs=[.ref m,.int a,.ref kd]∧Mm D H m mx c xs ws∧Gm ws∧Sm a∧H kd=some (.tup [.str "head"])∧(match thg ws a with|some (_,n)=>Q (.int n) H|none=>Bad D.ab H E)
abbrev jV:List Str:=["memory", "a", "kinds", "word"]
theorem gb:aO jV ["memory", "a", "kinds"] (ar eS):=⟨rfl,rfl,rfl,by decide +kernel,rfl,by decide +kernel,by decide +kernel⟩
theorem jd(F:Fun K "fields_told" "fields_told" eS D.a7 D.cZ)(T:Txt K mg D)
  (aL:Ok P w K mg base 4 D.bC D.cF ["self", "a"] (jS D))
  (dq:Ok P w K mg base 1 D.cy D.d8 ["value"] (pW))
  (bc:Ok P w K mg base 3 D.aS D.bT ["memory", "a", "fields"] (lV D))
  (au:Ok P w K mg base 1 D.az D.aM ["self", "text"] (uF K)):Ok P w K mg base 5 D.a7 D.cZ ["memory", "a", "kinds"] (nW D):=by
 refine⟨?_,F.binds (ps:=["memory", "a", "kinds"]) λ_ _ _ _ _ _ us hl=>match us,hl with|[_,_,_],_=>rfl⟩
 refine F.okE gb (λvs H Q E h=>?_) (λcdv A' outer s' H vs Q E hr h=>?_)
 ·obtain⟨m,mx,c,xs,ws,a,kd,rfl,_⟩:=h
  rfl
 ·obtain⟨m,mx,c,xs,ws,a,kd,rfl,M,gm,ha,hkd,k⟩:=h
  refine⟨_,(ag (aU (i:=3) gb.nd rfl (Or.inl rfl) (cY (pv 0) T.aI T.dz aL.g (hr.mono (by decide)) aL.b .nil (Passes.x (fS λ_ _ _ q=>q)) (aa (pv 1) ae)))
   (ag (dD (PW.pt (pw_or (bF kI (aE dq.g (hr.mono (by decide)) rfl T.kB T.gI dq.b .nil (Passes.x (fS λ_ _ _ q=>q)) (aa (pv 3) ae)) (pv 2) (by with_unfolding_all rfl)) (pw_or1 (bF oh (b7 cq (pv 3) ah (λ_ _=>rfl)) ah (aZ _)))))
    (aq (jE rfl pQ (pR T.eU au.g (hr.mono (by decide)) rfl T.c4 au.b (Passes.x (fS λ_ _ _ q=>q)) (aa (lT (dP jo (dP (mj (pv 1)) lS))) ae))))
    bq)
   (ag (bS (aE bc.g (hr.mono (by decide)) rfl T.f9 T.dt bc.b .nil (Passes.x (fS λ_ _ _ q=>q)) (aa (pv 0) (aa (pv 1) (aa (b7 cq (pv 3) ah (λ_ _=>rfl)) ae)))))
   (aq (aT (b7 cq (pv 3) ah (λ_ _=>rfl))))))),?_⟩
  refine⟨_,rfl,m,_,_,rfl,M.i,(by kernel_rfl),_,rfl,m,mx,c,xs,ws,a,rfl,M,ha,?_⟩;by_cases g:0≤a∧a<(ws.length:Int)
  ·rw[if_pos g]
   intro v wd hv hw mv;refine⟨_,rfl,v,wd,rfl,mv,_,rfl,kd,_,rfl,.inr (SqT.of hkd),rfl,rfl,_,rfl,?_⟩;have nh:(∀ t n,wd≠.hd t n)→thg ws a=none:=λh=>by
    unfold thg;rw[if_pos g.1,hw];cases wd with
    | hd t n=>exact absurd rfl (h t n)
    | _=>rfl
   have bad:(∀ t n,wd≠.hd t n)→(!inV (V.str wd.kind) [V.str "head"])=true:=λh=>by
    cases wd with
    | hd t n=>exact absurd rfl (h t n)
    | _=>kernel_rfl
   by_cases hh:∃ t n,wd=.hd t n
   ·obtain⟨t,n,rfl⟩:=hh
    have hn:=gm.hd t n (Dr hw);obtain⟨_,p,rfl,hp⟩:=mv.resolve_left (λz=>by cases z.1);refine fG (by kernel_rfl) ⟨_,rfl,p,_,2,.int n,rfl,rfl,SqT.of hp,rfl,n,0,rfl,rfl,_,rfl,fG (decide_eq_false (by omega)) ?_⟩;refine⟨_,rfl,_,rfl,_,rfl,p,_,2,.int n,rfl,rfl,SqT.of hp,rfl,m,mx,c,xs,ws,a,n,rfl,M,ha,Sm.of (by omega) (by omega),?_⟩;by_cases l:a+n<(ws.length:Int)
    ·rw[if_pos ⟨g.1,l⟩]
     rw[show thg ws a=some (t,n) by unfold thg;rw[if_pos g.1,hw];exact if_pos l]at k;exact⟨_,rfl,p,_,2,.int n,rfl,rfl,SqT.of hp,rfl,k⟩
    ·rw[if_neg (λz=>l z.2)]
     rw[show thg ws a=none by unfold thg;rw[if_pos g.1,hw];exact if_neg l]at k;exact k
   ·have h:∀ t n,wd≠.hd t n:=λt n e=>hh ⟨t,n,e⟩
    rw[nh h]at k;exact kh (bad h) (iB ⟨_,rfl,a,rfl,ha,λy hy ea hea=>ff T.aW (λ_ q=>q) k ea hea⟩)
  ·rw[if_neg g]
   have:thg ws a=none:=by
    unfold thg;by_cases h0:0≤a
    ·rw[if_pos h0,Ee.mpr (by omega)]
    ·rw[if_neg h0]
   rw[this]at k;exact k
def tj(D:Ad):Sp:=λvs H Q E=>∃ m mx c xs ws,∃ a:Int,vs=[.ref m,.int a]∧Mm D H m mx c xs ws∧Gm ws∧Sm a∧(match thg ws a with|some (_,n)=>∀ H',aA H H'→Q (.int n) H'|none=>Bad D.ab H E)
abbrev mQ:List Str:=["memory", "a"]
theorem kQ:aO mQ ["memory", "a"] (ar gh):=⟨rfl,rfl,rfl,by decide +kernel,rfl,by decide +kernel,by decide +kernel⟩
theorem kR(F:Fun K "fields_at" "fields_at" gh D.bL D.dI)(T:Txt K mg D)
  (dG:Ok P w K mg base 5 D.a7 D.cZ ["memory", "a", "kinds"] (nW D)):Ok P w K mg base 6 D.bL D.dI ["memory", "a"] (tj D):=by
 refine⟨?_,F.binds (ps:=["memory", "a"]) λ_ _ _ _ _ _ us hl=>match us,hl with|[_,_],_=>rfl⟩
 refine F.okE kQ (λvs H Q E h=>?_) (λcdv A' outer s' H vs Q E hr h=>?_)
 ·obtain⟨m,mx,c,xs,ws,a,rfl,_⟩:=h
  rfl
 ·obtain⟨m,mx,c,xs,ws,a,rfl,M,gm,ha,k⟩:=h
  refine⟨_,(aq (aT (aE dG.g (hr.mono (by decide)) rfl T.jP T.eV dG.b .nil (Passes.x (fS λ_ _ _ q=>q)) (aa (pv 0) (aa (pv 1) (aa (b3 (aa dB ae)) ae)))))),?_⟩;refine⟨_,rfl,_,rfl,by show 1≤sizeLine;decide,λkd hkd=>?_⟩;have s1:=aA.upd (o:=.tup [V.str "head"]) hkd;refine⟨m,mx,c,xs,ws,a,kd,rfl,M.same s1,gm,ha,af,?_⟩;cases e:thg ws a with
  | none=>rw[e]at k;exact k.same s1
  | some z=>rw[e]at k;exact k _ s1
def pX(D:Ad):Sp:=λvs H Q E=>∃ m mx c xs ws,∃ a:Int,vs=[.ref m,.int a]∧Mm D H m mx c xs ws∧Gm ws∧Sm a∧(match thg ws a with|some (t,n)=>∀ p l ys H',aA H H'→H l=none→H' p=some (.tup [.int t,.ref l])→H' l=some (.lst ys)→MR H' ys (fW ws a.toNat n.toNat)→Q (.ref p) H'|none=>Bad D.ab H E)
abbrev jy:List Str:=["memory", "a", "fields"]
theorem iR:aO jy ["memory", "a"] (ar fE):=⟨rfl,rfl,rfl,by decide +kernel,rfl,by decide +kernel,by decide +kernel⟩
theorem mR(F:Fun K "thing_at" "thing_at" fE D.bR D.dE)(T:Txt K mg D)
  (eO:Ok P w K mg base 6 D.bL D.dI ["memory", "a"] (tj D))
  (aL:Ok P w K mg base 4 D.bC D.cF ["self", "a"] (jS D)):Ok P w K mg base 7 D.bR D.dE ["memory", "a"] (pX D):=by
 refine⟨?_,F.binds (ps:=["memory", "a"]) λ_ _ _ _ _ _ us hl=>match us,hl with|[_,_],_=>rfl⟩
 refine F.okE iR (λvs H Q E h=>?_) (λcdv A' outer s' H vs Q E hr h=>?_)
 ·obtain⟨m,mx,c,xs,ws,a,rfl,_⟩:=h
  rfl
 ·obtain⟨m,mx,c,xs,ws,a,rfl,M,gm,ha,k⟩:=h
  refine⟨_,(ag (aU (i:=2) iR.nd rfl (Or.inl rfl) (aE eO.g (hr.mono (by decide)) rfl T.mN T.gp eO.b .nil (Passes.x (fS λ_ _ _ q=>q)) (aa (pv 0) (aa (pv 1) ae))))
   (aq (aT (b3 (aa (b7 cq (cY (pv 0) T.aI T.dz aL.g (hr.mono (by decide)) aL.b .nil (Passes.x (fS λ_ _ _ q=>q)) (aa (pv 1) ae)) ah (λ_ _=>rfl)) (aa (jr (cl:=[("memory",s'.heap.objs.size+1),("a",s'.heap.objs.size+2)]) (x := "k") (idx:=[1,0]) (NC:=["k", "a", "memory"]) ?co1 rfl (d7 rfl T.eB (aa (pv 2) ae)) (λC fp s₀ H₀=>(cY (pv 2) T.aI T.dz aL.g (hr.mono (by decide)) aL.b .nil oz (aa (aH cB (aH cB (pv 1) ah) (pv 0)) ae)))) ae)))))),?_⟩
  case co1 =>
   exact fN (sc:=ar fE) (N:=jy) (ns:=["memory", "a"]) rfl rfl rfl (by decide +kernel) rfl rfl (by
    intro q hq;rcases Ds.mp hq with rfl|hq
    ·rfl
    rw[De.mp hq];rfl)
  have el:=M.r.1;refine⟨_,rfl,_,rfl,m,mx,c,xs,ws,a,rfl,M,gm,ha,?_⟩;cases e:thg ws a with
  | none=>rw[e]at k;exact k
  | some z =>
   obtain⟨t,n⟩:=z;rw[e]at k;obtain⟨a0,hw,al⟩:=nS e;have hn:=gm.hd t n (Dr hw);intro H1 s1;have M1:=M.same s1;refine⟨_,rfl,m,_,_,rfl,M1.i,(by kernel_rfl),_,rfl,m,mx,c,xs,ws,a,rfl,M1,ha,?_⟩;rw[if_pos ⟨a0,by omega⟩];intro v w2 hv hw2 mv;rw[hw]at hw2;cases hw2;obtain⟨_,p,rfl,hp⟩:=mv.resolve_left (λz=>by cases z.1);have z:=M.z;obtain⟨n,rfl⟩:∃ j:Nat,n=(j:Int):=⟨n.toNat,by omega⟩;simp only[Int.toNat_natCast]at k;refine⟨p,_,1,.int t,rfl,rfl,SqT.of hp,rfl,_,rfl,n,rfl,by omega,by omega,λL hL=>?_⟩;refine ez (lo:=0) (n:=n) (λi ys Hc=>ys=(xs.drop (a.toNat+1)).take i∧aA H1 Hc∧Hc L=some (.lst ys)) ⟨rfl,aA.upd hL,af⟩ (λi ys Hc hi ⟨e,_,z⟩=>⟨z,by rw[e,DD,D7];omega⟩) (by exact DK (show n≤10000 by omega) (by decide)) (λi ys Hc hi ⟨e,sc,z⟩=>?_) (λys Hc ⟨e,sc,z⟩=>?_)
   ·have M2:=M1.same sc
    have hx:ws[(a+1+(0+(i:Int))).toNat]?=some (ws[(a+1+(0+(i:Int))).toNat]'(by omega)):=C8 _;refine⟨_,rfl,m,_,_,rfl,M2.i,(by kernel_rfl),_,rfl,a,1,rfl,rfl,_,rfl,_,_,rfl,rfl,m,mx,c,xs,ws,_,rfl,M2,Sm.of (by omega) (by omega),?_⟩;rw[if_pos ⟨by omega,by omega⟩];intro v w2 hv2 _ _;refine⟨z,?_,λb u q=>by rw[ak (ai q hL)];exact sc b u q,af⟩;have hd:(xs.drop (a.toNat+1))[i]?=some v:=by
     rw[El,←hv2];congr 1
     omega
    rw[e,List.take_succ,hd];rfl
   ·refine⟨by show 2≤sizeLine;decide,λq hq=>?_⟩
    have s3:=aA.upd (o:=.tup [V.int t,V.ref L]) hq;refine k q L _ _ ((s1.trans sc).trans s3) (aA.none s1 hL) af (by rw[s3 _ _ z,e]) ⟨by unfold fW;rw[DD,DD,D7,D7,el],λi v w2 g1 g2=>?_⟩;unfold fW at g2;rw[Ez]at g1 g2;split at g1
    ·rename_i ci
     rw[if_pos ci,El]at g2;rw[El]at g1;exact(M.r.2 _ _ _ g1 g2).keep ((cV.of s1).trans ((cV.of sc).trans (cV.of s3)))
    ·cases g1
end
section
variable{P:Program}{w:World}{K:W.Frag}{mg:Str→Option Value}{base:Heap}{D:Ad}
theorem gT{n:Nat}(h:n≤20000):n<sizeLine:=Nat.lt_of_le_of_lt h (by decide)
theorem eW{n:Nat}(h:n≤20000):n≤sizeLine:=EC (gT h)
theorem take_snoc{α:Type}{gs:List α}{i:Nat}{t:α}(e:gs[i]?=some t):gs.take (i+1)=gs.take i++[t]:=by rw[List.take_succ_eq_append_getElem (Dd.mp e).1,(Dd.mp e).2]
theorem gA{ws:List Mw}{a:Nat}{t:Int}{us:List Mw}:(layW ws a t us).length=ws.length:=by unfold layW;rw[kC,Dy]
theorem oX{ws:List Mw}{a n:Nat}(h:a+n<ws.length):(fW ws a n).length=n:=by unfold fW;rw[DD,D7];omega
def pY(D:Ad):Sp:=λvs H Q _=>∃ m mx c xs ws,∃(a t:Int) (l:Addr) (ys:List V) (us:List Mw),vs=[.ref m,.int a,.int t,.ref l]∧Mm D H m mx c xs ws∧H l=some (.lst ys)∧MR H ys us∧l≠c∧0≤a∧a+us.length<ws.length∧∀ xs' H',But c H H'→Mm D H' m mx c xs' (layW ws a.toNat t us)→Q .non H'
abbrev Bg:List Str:=["memory", "a", "t", "values", "k", "value"]
theorem pZ:aO Bg ["memory", "a", "t", "values"] (ar tL):=⟨rfl,rfl,rfl,by decide +kernel,rfl,by decide +kernel,by decide +kernel⟩
theorem x9(F:Fun K "lay" "lay" tL D.iw D.mr)(T:Txt K mg D)
  (bc:Ok P w K mg base 3 D.aS D.bT ["memory", "a", "fields"] (lV D))
  (aC:Ok P w K mg base 4 D.a8 D.b4 ["self", "a", "word"] (jx D)):Ok P w K mg base 6 D.iw D.mr ["memory", "a", "t", "values"] (pY D):=by
 refine⟨?_,F.binds (ps:=["memory", "a", "t", "values"]) λ_ _ _ _ _ _ us hl=>match us,hl with|[_,_,_,_],_=>rfl⟩
 refine F.okE pZ (λvs H Q E h=>?_) (λcdv A' outer s' H vs Q E hr h=>?_)
 ·obtain⟨m,mx,c,xs,ws,a,t,l,ys,us,rfl,_⟩:=h
  rfl
 ·obtain⟨m,mx,c,xs,ws,a,t,l,ys,us,rfl,M,hl,ru,nlc,a0,al,k⟩:=h
  refine⟨_,(PSs.nox (ag (bS (aE bc.g (hr.mono (by decide)) rfl T.f9 T.dt bc.b .nil bZ (aa (pv 0) (aa (pv 1) (aa (ao aP rfl T.fc PyProof.Rows.Boot.«len» (aa (pv 3) ae)) ae)))))
   (ag (bS (cY (pv 0) T.aI T.cu aC.g (hr.mono (by decide)) aC.b .nil bZ (aa (pv 1) (aa (b3 (aa dB (aa (pv 2) (aa (ao aP rfl T.fc PyProof.Rows.Boot.«len» (aa (pv 3) ae)) ae)))) ae))))
   (aq (fP DY rfl (qr rfl T.eN (aa (pv 3) ae)) (jI rfl (cS (br (i:=4) pZ.nd rfl (Or.inl rfl)) (cS (br (i:=5) pZ.nd rfl (Or.inl rfl)) iA)))
    (aq (bS (cY (pv 0) T.aI T.cu aC.g (hr.mono (by decide)) aC.b .nil bZ (aa (aH cB (aH cB (pv 1) ah) (pv 4)) (aa (pv 5) ae)))))))))),?_⟩
  have z:=M.z;have eu:=ru.1;refine⟨_,rfl,_,rfl,_,rfl,l,ys,rfl,.inl (SqL.of hl),m,mx,c,xs,ws,a,ys.length,rfl,M,Sm.of (by omega) (by omega),Sm.of (by omega) (by omega),?_⟩;rw[if_pos ⟨a0,by omega⟩];refine⟨_,rfl,m,_,_,rfl,M.i,(by kernel_rfl),_,rfl,_,rfl,_,rfl,l,ys,rfl,.inl (SqL.of hl),by show 3≤sizeLine;decide,λp hp=>?_⟩;have s1:=aA.upd (o:=.tup [V.str "head",V.int t,V.int ys.length]) hp;refine⟨m,mx,c,xs,ws,a,.ref p,.hd t us.length,rfl,M.same s1,Sm.of (by omega) (by omega),.inr ⟨(by intro z;cases z),p,rfl,by rw[af,eu];rfl⟩,?_⟩;rw[if_pos ⟨a0,by omega⟩];intro M2;have b2:But c H (upd (upd H p (.tup [V.str "head",V.int t,V.int ys.length])) c (.lst (xs.set a.toNat (.ref p)))):=(But.same s1).trans But.self;refine⟨_,rfl,l,rfl,⟨_,SqL.of (b2 l _ nlc hl)⟩,nO (K:=K) (a:=l) (xs:=ys) (λi σ Hx=>∃ v4 v5 xs',σ=[some (.ref m),some (.int a),some (.int t),some (.ref l),v4,v5]∧But c H Hx∧Mm D Hx m mx c xs' (gK (ws.set a.toNat (.hd t us.length)) (a.toNat+1) (us.take i)))
   ⟨none,none,_,rfl,b2,M2⟩ (λi σ Hx _ ⟨_,_,_,_,b,_⟩=>SqL.of (b l _ nlc hl)) ?_ ?_⟩
  ·rintro i v σ Hx tp hi ⟨v4,v5,xs',rfl,bx,Mx⟩ htp
   have s3:=aA.upd (o:=.tup [.int (i:Int),v]) htp;refine⟨tp,_,rfl,SqT.of af,rfl,_,_,rfl,_,_,rfl,rfl,?_⟩;have hil:i<us.length:=(by rw[←eu];exact(Dd.mp hi).1);have hu':us[i]?=some us[i]:=C8 hil;have ll:(gK (ws.set a.toNat (.hd t us.length)) (a.toNat+1) (us.take i)).length=ws.length:=(by rw[kC,Dy]);have M3:=Mx.same s3;have tv:cV H (upd Hx tp (.tup [.int (i:Int),v])):=λb us q=>s3 _ _ (bx b _ (ee q M.l (by intro z;cases z)) q);refine⟨_,rfl,m,_,_,rfl,M3.i,(by kernel_rfl),_,rfl,a,1,rfl,rfl,_,rfl,_,_,rfl,rfl,_,rfl,m,mx,c,xs',_,a+1+(i:Int),v,us[i],rfl,M3,Sm.of (by omega) (by omega),(ru.2 i v _ hi hu').keep tv,?_⟩;rw[ll,if_pos ⟨by omega,by omega⟩];intro M4;refine⟨_,_,xs'.set (a+1+(i:Int)).toNat v,rfl,(bx.trans (But.same s3)).trans But.self,?_⟩;rw[take_snoc hu',oU,DD,show a.toNat+1+min i us.length=(a+1+(i:Int)).toNat by omega];exact M4
  ·rintro σ Hx ⟨v4,v5,xs',rfl,bx,Mx⟩
   rw[eu,D1 (Dk _)]at Mx;exact k xs' Hx bx Mx
def tm(D:Ad):Sp:=λvs H Q E=>∃ m mx c xs ws,∃(a:Int) (j:Nat) (r:Option Int),vs=[.ref m,.int a]∧Mm D H m mx c xs ws∧Gm ws∧Sm a∧Rv ws j a r∧(match r with|some z=>Q (.int z) H|none=>Bad D.ab H E)
abbrev oY:List Str:=["memory", "a", "word"]
theorem eP:aO oY ["memory", "a"] (ar g9):=⟨rfl,rfl,rfl,by decide +kernel,rfl,by decide +kernel,by decide +kernel⟩
theorem mS(F:Fun K "resolved" "resolved" g9 D.b8 D.eA)(T:Txt K mg D)
  (aL:Ok P w K mg base 4 D.bC D.cF ["self", "a"] (jS D))
  (dq:Ok P w K mg base 1 D.cy D.d8 ["value"] (pW)):Ok P w K mg base 5 D.b8 D.eA ["memory", "a"] (tm D):=by
 refine⟨?_,F.binds (ps:=["memory", "a"]) λ_ _ _ _ _ _ us hl=>match us,hl with|[_,_],_=>rfl⟩
 refine F.okE eP (λvs H Q E h=>?_) (λcdv A' outer s' H vs Q E hr h=>?_)
 ·obtain⟨m,mx,c,xs,ws,a,j,r,rfl,_⟩:=h
  rfl
 ·obtain⟨m,mx,c,xs,ws,a,j,r,rfl,M,gm,ha,hr',k⟩:=h
  refine⟨_,(PSs.xr (ag (aU (i:=2) eP.nd rfl (Or.inl rfl) (cY (pv 0) T.aI T.dz aL.g (hr.mono (by decide)) aL.b .nil (oI λ_ _ _ q=>q) (aa (pv 1) ae)))
   (ag (r6 BX (bF iT (aE dq.g (hr.mono (by decide)) rfl T.kB T.gI dq.b .nil (oI λ_ _ _ q=>q) (aa (pv 2) ae)) dB (aZ _))
    (ag (aU (i:=1) eP.nd rfl (Or.inl rfl) (b7 cq (pv 2) ah (λ_ _=>rfl)))
    (aq (aU (i:=2) eP.nd rfl (Or.inl rfl) (cY (pv 0) T.aI T.dz aL.g (hr.mono (by decide)) aL.b .nil (oI λ_ _ _ q=>q) (aa (pv 1) ae))))))
   (aq (aT (pv 1)))))),?_⟩
  have at_:∀(Q':VK) (a:Int) (j:Nat),Sm a→Rv ws j a r→(∀ v w,xs[a.toNat]?=some v→ws[a.toNat]?=some w→MV H v w→0≤a→a<ws.length→Q' v H)→jS D [.ref m,.int a] H Q' E:=λQ' a j ha hr' q=>by
   refine⟨m,mx,c,xs,ws,a,rfl,M,ha,?_⟩;by_cases g:0≤a∧a<(ws.length:Int)
   ·rw[if_pos g]
    exact λv w h1 h2 h3=>q v w h1 h2 h3 g.1 g.2
   ·rw[if_neg g]
    cases hr' with
    | out _=>exact k
    | stop h0 hw _=>exact absurd ⟨h0,by have:=(Dd.mp hw).1;omega⟩ g
    | step h0 hw _=>exact absurd ⟨h0,by have:=(Dd.mp hw).1;omega⟩ g
  refine⟨_,rfl,m,_,_,rfl,M.i,(by kernel_rfl),_,rfl,at_ _ a j ha hr' λv w hv hw mv a0 al=>?_⟩;refine⟨λn σ Hx=>∃(a:Int) (v:V) (w:Mw),σ=[some (.ref m),some (.int a),some v]∧Hx=H∧Rv ws n a r∧MV H v w∧ws[a.toNat]?=some w∧0≤a∧a<ws.length,⟨j,a,v,w,rfl,rfl,hr',mv,hw,a0,al⟩,?_⟩;rintro n σ Hx ⟨a,v,w,rfl,rfl,hr2,mv,hw,a0,al⟩;refine⟨_,rfl,v,w,rfl,mv,rfl,_,rfl,?_⟩;by_cases hm:∃ b z,w=.mv b z
  ·obtain⟨b,z,rfl⟩:=hm
   obtain⟨_,p,rfl,hp⟩:=mv.resolve_left (λz=>by cases z.1);refine kh (by kernel_rfl) ?_;cases hr2 with
   | out h=>exact absurd ⟨a0,al⟩ h
   | stop _ h2 h3=>rw[hw]at h2;cases h2;exact absurd rfl (h3 b z)
   | @step n' _ b' _ _ _ h2 h3 =>
    rw[hw]at h2;cases h2;have sb:=gm.mv b z (Dr hw);refine⟨λσ' H'=>∃ m',m'<n'+1∧∃(a:Int) (v:V) (w:Mw),σ'=[some (.ref m),some (.int a),some v]∧H'=Hx∧Rv ws m' a r∧MV Hx v w∧ws[a.toNat]?=some w∧0≤a∧a<ws.length,λ_ _ h=>h,?_⟩;refine⟨_,rfl,p,_,1,.int b,rfl,rfl,SqT.of hp,rfl,?_⟩;exact⟨_,rfl,m,_,_,rfl,M.i,(by kernel_rfl),_,rfl,at_ _ b n' sb h3 λv w hv hw mv a0 al=>⟨n',Ep _,b,v,w,rfl,rfl,h3,mv,hw,a0,al⟩⟩
  ·have nm:∀ b z,w≠.mv b z:=λb z e=>hm ⟨b,z,e⟩
   refine fG ?_ ?_
   ·cases w with
    | mv b z=>exact absurd rfl (nm b z)
    | _=>kernel_rfl
   ·cases hr2 with
    | out h=>exact absurd ⟨a0,al⟩ h
    | stop _ _ _=>exact⟨_,rfl,k⟩
    | step _ h2 _=>rw[hw]at h2;cases h2;exact absurd rfl (nm _ _)
def qx(D:Ad):Sp:=λvs H Q _=>∃ m mx c xs ws,∃ a b t n:Int,vs=[.ref m,.int a,.int b]∧Mm D H m mx c xs ws∧Gm ws∧thg ws a=some (t,n)∧0≤b∧b+n<ws.length∧∀ xs' H',But c H H'→Mm D H' m mx c xs' ((layW ws b.toNat t (fW ws a.toNat n.toNat)).set a.toNat (.mv b n))→Q .non H'
abbrev ya:List Str:=["memory", "a", "b", "thing"]
theorem qy:aO ya ["memory", "a", "b"] (ar pU):=⟨rfl,rfl,rfl,by decide +kernel,rfl,by decide +kernel,by decide +kernel⟩
theorem uK(F:Fun K "move" "move" pU D.fU D.jN)(T:Txt K mg D)
  (cL:Ok P w K mg base 7 D.bR D.dE ["memory", "a"] (pX D))
  (jz:Ok P w K mg base 6 D.iw D.mr ["memory", "a", "t", "values"] (pY D))
  (aC:Ok P w K mg base 4 D.a8 D.b4 ["self", "a", "word"] (jx D)):Ok P w K mg base 8 D.fU D.jN ["memory", "a", "b"] (qx D):=by
 refine⟨?_,F.binds (ps:=["memory", "a", "b"]) λ_ _ _ _ _ _ us hl=>match us,hl with|[_,_,_],_=>rfl⟩
 refine F.okE qy (λvs H Q E h=>?_) (λcdv A' outer s' H vs Q E hr h=>?_)
 ·obtain⟨m,mx,c,xs,ws,a,b,t,n,rfl,_⟩:=h
  rfl
 ·obtain⟨m,mx,c,xs,ws,a,b,t,n,rfl,M,gm,ht,b0,bl,k⟩:=h
  refine⟨_,(PSs.nox (ag (aU (i:=3) qy.nd rfl (Or.inl rfl) (aE cL.g (hr.mono (by decide)) rfl T.jv T.fF cL.b .nil bZ (aa (pv 0) (aa (pv 1) ae))))
   (ag (bS (aE jz.g (hr.mono (by decide)) rfl T.xa T.rQ jz.b .nil bZ (aa (pv 0) (aa (pv 2) (aa (b7 cq (pv 3) ah (λ_ _=>rfl)) (aa (b7 cq (pv 3) ah (λ_ _=>rfl)) ae))))))
   (aq (bS (cY (pv 0) T.aI T.cu aC.g (hr.mono (by decide)) aC.b .nil bZ (aa (pv 1) (aa (b3 (aa dB (aa (pv 2) (aa (ao aP rfl T.fc PyProof.Rows.Boot.«len» (aa (b7 cq (pv 3) ah (λ_ _=>rfl)) ae)) ae)))) ae)))))))),?_⟩
  have z:=M.z;obtain⟨a0,hw,al⟩:=nS ht;have hn:=gm.hd t n (Dr hw);have sl:(fW ws a.toNat n.toNat).length=n.toNat:=oX (by omega);refine⟨_,rfl,_,rfl,m,mx,c,xs,ws,a,rfl,M,gm,Sm.of (by omega) (by omega),?_⟩;rw[ht];intro p l ys H1 s1 hl0 hp hl ry;have M1:=M.same s1;have nlc:l≠c:=DH (ai M.l hl0);refine⟨_,rfl,_,rfl,_,rfl,p,_,0,.int t,rfl,rfl,SqT.of hp,rfl,_,rfl,p,_,1,.ref l,rfl,rfl,SqT.of hp,rfl,m,mx,c,xs,ws,b,t,l,ys,_,rfl,M1,hl,ry,nlc,b0,by rw[sl];omega,λxs2 H2 b2 M2=>?_⟩;have hp2:=b2 p _ (ee hp M1.l (by intro z;cases z)) hp;have hl2:=b2 l _ nlc hl;refine⟨_,rfl,m,_,_,rfl,M2.i,(by kernel_rfl),_,rfl,_,rfl,_,rfl,p,_,1,.ref l,rfl,rfl,SqT.of hp2,rfl,l,ys,rfl,.inl (SqL.of hl2),by show 3≤sizeLine;decide,λq hq=>?_⟩;have s3:=aA.upd (o:=.tup [V.str "moved",V.int b,V.int ys.length]) hq;have ey:(ys.length:Int)=n:=by rw[ry.1,sl];omega
  refine⟨m,mx,c,xs2,_,a,.ref q,.mv b n,rfl,M2.same s3,Sm.of (by omega) (by omega),.inr ⟨(by intro z;cases z),q,rfl,by rw[af,ey];rfl⟩,?_⟩;rw[gA,if_pos ⟨a0,by omega⟩];intro M4;exact k _ _ (((But.same s1).trans b2).trans ((But.same s3).trans But.self)) M4
theorem qz:∀ {a b:List Int},a.Pairwise (·< ·)→b.Pairwise (·< ·)→(∀ t,t∈a↔t∈b)→a=b
 | [],[],_,_,_=>rfl
 | [],y::b,_,_,h=>absurd ((h y).mpr DA) (by simp)
 | x::a,[],_,_,h=>absurd ((h x).mp DA) (by simp)
 | x::a,y::b,pa,pb,h=>by
  rw[List.pairwise_cons]at pa pb;have e:x=y:=by
   rcases Ds.mp ((h x).mp DA) with e|e
   ·exact e
   ·rcases Ds.mp ((h y).mpr DA) with f|f
    ·exact f.symm
    ·have:=pb.1 x e
     have:=pa.1 y f
     omega
  subst e;rw[qz pa.2 pb.2 λt=>⟨λm=>?_,λm=>?_⟩]
  ·rcases Ds.mp ((h t).mp (Dt _ m)) with e|e
   ·have:=pa.1 t m;omega
   ·exact e
  ·rcases Ds.mp ((h t).mpr (Dt _ m)) with e|e
   ·have:=pb.1 t m;omega
   ·exact e
theorem gu:∀ {l:List Int},l.Pairwise (·≤·)→l.Nodup→l.Pairwise (·< ·)
 | [],_,_=>.nil
 | a::r,h,n=>by
  rw[List.pairwise_cons]at h ⊢;rw[Ek]at n;exact⟨λb m=>by have h1:=h.1 b m;have h2:a≠b:=λe=>n.1 (by rw[e];exact m);omega,gu h.2 n.2⟩
def Kys(kvs:List (Key×V))(ms:List Int):Prop:=kvs.map (·.1)=ms.map Sum.inl
theorem Kys.len{kvs:List (Key×V)}{ms:List Int}(k:Kys kvs ms):kvs.length=ms.length:=by have:=congrArg List.length k;simpa using this
theorem Kys.non{kvs:List (Key×V)}{ms:List Int}(k:Kys kvs ms){t:Int}(h:t∉ms):fM kvs (Sum.inl t)=none:=by
 induction kvs generalizing ms with
 | nil=>rfl
 | cons p r ih=>cases ms with
  | nil=>cases k
  | cons a ms =>
   unfold Kys at k;rw[DN,DN]at k;injection k with k1 k2;rw[cx (λz=>h (by rw[←Sum.inl.inj (k1.symm.trans z)];exact DA))];exact ih k2 λz=>h (Dt _ z)
structure Dg(kvs:List (Key×V))(ms:List Int)(g:Int→Int):Prop where
 k:Kys kvs ms
 n:ms.Nodup
 v:∀ t∈ms,fM kvs (Sum.inl t)=some (.int (g t))
theorem Dg.nil{g:Int→Int}:Dg [] [] g:=⟨rfl,List.nodup_nil,λt m=>nomatch m⟩
theorem kD{kvs:List (Key×V)}{ms:List Int}{t:Int}{v:V}(k:Kys kvs ms)(h:t∈ms):Kys (putK kvs (Sum.inl t) v) ms:=by
 unfold Kys at k ⊢;rw[←k];have hs:(kvs.any λkv=>decide (kv.1=(Sum.inl t:Key)))=true:=by
  have m:(Sum.inl t:Key)∈kvs.map (·.1):=by rw[k];exact Ex.mpr ⟨t,h,rfl⟩
  obtain⟨p,mp,e⟩:=Ex.mp m;exact List.any_eq_true.mpr ⟨p,mp,decide_eq_true e⟩
 unfold putK;rw[if_pos hs,List.map_map];refine List.map_congr_left λp _=>?_;show(if p.1=Sum.inl t then(p.1,v) else p).1=p.1;split<;>rfl
theorem Dg.put{kvs:List (Key×V)}{ms:List Int}{g:Int→Int}(d:Dg kvs ms g){t:Int}:∃ ms',Dg (putK kvs (Sum.inl t) (.int (g t))) ms' g∧(∀ u,u∈ms'↔u∈ms∨u=t)∧ms'.length≤ms.length+1:=by
 by_cases c:t∈ms
 ·refine⟨ms,⟨kD d.k c,d.n,λu m=>?_⟩,λu=>⟨.inl,λz=>z.elim id λe=>by rw[e];exact c⟩,Em _⟩
  by_cases e:u=t
  ·subst e;rw[fj,if_pos rfl]
  ·rw[fj,if_neg (λz=>e (Sum.inl.inj z))];exact d.v u m
 ·refine⟨ms++[t],⟨?_,?_,λu m=>?_⟩,λu=>by rw[Dz,De],by rw[Dn];exact Dk _⟩
  ·rw[nE _ (d.k.non c)]
   have:=d.k
   unfold Kys at this ⊢;rw[DR,DR,this];rfl
  ·rw[List.nodup_append]
   exact⟨d.n,by simp,λa ha b hb=>by rw[De.mp hb];exact λe=>c (by rw[←e];exact ha)⟩
  ·by_cases e:u=t
   ·subst e;rw[fj,if_pos rfl]
   ·rw[fj,if_neg (λz=>e (Sum.inl.inj z))];exact d.v u ((Dz.mp m).resolve_right λz=>e (De.mp z))
def Ld(ws:List Mw)(a:Int)(o:Option (Int×Int)):Prop:=∃ j r,Rv ws j a r∧(match r with|none=>o=none|some z=>(match thg ws z with|some (t,_)=>o=some (t,z)|none=>o=none))
def Pr(H:Hp)(ps:List V)(ks:List Int)(g:Int→Int):Prop:=ps.length=ks.length∧∀(i:Nat) (u:V) (t:Int),ps[i]?=some u→ks[i]?=some t→∃ q,u=.ref q∧H q=some (.tup [.int t,.int (g t)])
theorem Pr.keep{H H':Hp}{ps:List V}{ks:List Int}{g:Int→Int}(p:Pr H ps ks g)(s:cV H H'):Pr H' ps ks g:=⟨p.1,λi u t a b=>by obtain⟨q,e,h⟩:=p.2 i u t a b;exact⟨q,e,s _ _ h⟩⟩
theorem Bh{ws:List Mw}{j:Nat}{a z:Int}(h:Rv ws j a (some z)):0≤z∧z<ws.length:=by
 generalize e:some z=r at h;induction h with
 | out _=>cases e
 | stop h0 hw _=>cases e;exact⟨h0,by have:=(Dd.mp hw).1;omega⟩
 | step _ _ _ ih=>exact ih e
def qA(D:Ad):Sp:=λvs H Q E=>∃ m mx c xs ws,∃(l:Addr) (as:List Int) (F:Int→Option (Int×Int)) (g:Int→Int),vs=[.ref m,.ref l]∧Mm D H m mx c xs ws∧Gm ws∧H l=some (.lst (as.map V.int))∧as.length<60∧(∀ a∈as,Sm a∧Ld ws a (F a))∧(∀ a∈as,∀ t z,F a=some (t,z)→z=g t)∧((∀ a∈as,(F a).isSome=true)→∀ p ps ks H',aA H H'→H p=none→H' p=some (.lst ps)→Pr H' ps ks g→ks.Pairwise (·< ·)→(∀ t,t∈ks↔∃ a∈as,∃ z,F a=some (t,z))→ks.length<64→Q (.ref p) H')∧(¬(∀ a∈as,(F a).isSome=true)→Bad D.ab H E)
abbrev kF:List Str:=["memory", "firsts", "stands", "first", "a"]
theorem fH:aO kF ["memory", "firsts"] (ar gG):=⟨rfl,rfl,rfl,by decide +kernel,rfl,by decide +kernel,by decide +kernel⟩
theorem oZ(F:Fun K "book_of" "book_of" gG D.cU D.fe)(T:Txt K mg D)
  (fI:Ok P w K mg base 5 D.b8 D.eA ["memory", "a"] (tm D))
  (cL:Ok P w K mg base 7 D.bR D.dE ["memory", "a"] (pX D)):Ok P w K mg base 8 D.cU D.fe ["memory", "firsts"] (qA D):=by
 refine⟨?_,F.binds (ps:=["memory", "firsts"]) λ_ _ _ _ _ _ us hl=>match us,hl with|[_,_],_=>rfl⟩
 refine F.okE fH (λvs H Q E h=>?_) (λcdv A' outer s' H vs Q E hr h=>?_)
 ·obtain⟨m,mx,c,xs,ws,l,as,F,g,rfl,_⟩:=h
  rfl
 ·obtain⟨m,mx,c,xs,ws,l,as,F,g,rfl,M,gm,hl,la,hF,hg,k,kb⟩:=h
  have hu:=rN hr;refine⟨_,(PSs.xr (ag (aU (i:=2) fH.nd rfl (Or.inr rfl) jC)
   (ag (fP BX rfl (eY (pv 1)) (br (i:=3) fH.nd rfl (Or.inl rfl))
    (ag (aU (i:=4) fH.nd rfl (Or.inl rfl) (aE fI.g (hr.mono (by decide)) rfl T.oS T.hJ fI.b .nil (oI λ_ _ _ q=>q) (aa (pv 0) (aa (pv 3) ae))))
    (aq (jl hu (pv 2) (b7 cq (aE cL.g (hr.mono (by decide)) rfl T.jv T.fF cL.b .nil (oI λ_ _ _ q=>q) (aa (pv 0) (aa (pv 4) ae))) ah (λ_ _=>rfl)) (pv 4) rfl))))
   (aq (aT (jr (cl:=[("stands",s'.heap.objs.size+1)]) (x := "t") (idx:=[2]) (NC:=["t", "stands"]) ?co1 rfl (eY (ao (h9 rfl) rfl T.gz PyProof.Rows.Boot.«sorted» (aa (pv 2) ae))) (λC fp s₀ H₀=>(b3 (aa (pv 0) (aa (lQ hu (pv 1) (pv 0) (λ_ _=>rfl)) ae)))))))))),?_⟩
  case co1 =>
   exact fN (sc:=ar gG) (N:=kF) (ns:=["stands"]) rfl rfl rfl (by decide +kernel) rfl rfl (by
    intro q hq;rw[De.mp hq];rfl)
  have z:=M.z;intro d hd;have s0:=aA.upd (o:=.dK []) hd;refine⟨_,rfl,l,rfl,⟨_,SqL.of (s0 _ _ hl)⟩,gv (K:=K) (a:=l) (xs:=as.map V.int) (λi σ Hx=>∃ v3 v4 kvs ms,σ=[some (.ref m),some (.ref l),some (.ref d),v3,v4]∧aA H Hx∧Hx d=some (.dK kvs)∧Dg kvs ms g∧ms.length≤i∧(∀ t,t∈ms↔∃ a∈as.take i,∃ z,F a=some (t,z))∧∀ a∈as.take i,(F a).isSome=true)
   ⟨none,none,[],[],rfl,s0,af,Dg.nil,Dk _,(λt=>⟨(λm=>nomatch m),λ⟨a,m,_⟩=>nomatch m⟩),(λa m=>nomatch m)⟩ (λi σ Hx _ ⟨_,_,_,_,_,sx,_⟩=>SqL.of (sx _ _ hl)) ?_ ?_⟩
  ·rintro i v σ Hx hi ⟨v3,v4,kvs,ms,rfl,sx,zd,dg,lm,hm,hs⟩
   rw[Dw]at hi;obtain⟨a,hai,rfl⟩:=DG.mp hi;have ma:a∈as:=Dr hai;have tk:=take_snoc hai;obtain⟨sa,j,r,hr1,hr2⟩:=hF a ma;have Mx:=M.same sx;refine⟨_,rfl,_,rfl,m,mx,c,xs,ws,a,j,r,rfl,Mx,gm,sa,hr1,?_⟩;have bad:F a=none→Bad D.ab Hx E:=λe=>(kb λh=>by have:=h a ma;rw[e]at this;cases this).same sx;cases r with
   | none=>exact bad hr2
   | some zz =>
    obtain⟨z0,z1⟩:=Bh hr1;refine⟨_,rfl,?_⟩;refine⟨_,rfl,_,rfl,_,rfl,m,mx,c,xs,ws,zz,rfl,Mx,gm,Sm.of (by omega) (by omega),?_⟩;cases et:thg ws zz with
    | none =>
     simp only[et]at hr2;exact bad hr2
    | some q =>
     obtain⟨t,n⟩:=q;simp only[et]at hr2;intro p l2 ys H1 s1 _ hp _ _;have eg:=hg a ma t zz hr2;obtain⟨ms',dg',hm',lm'⟩:=dg.put (t:=t);have lk:=dg.k.len;refine⟨p,_,0,.int t,rfl,rfl,SqT.of hp,rfl,d,_,rfl,qj.k (k:=Sum.inl t) (s1 _ _ zd) (by rw[lk];exact gT (by have:=(Dd.mp hai).1;omega)),?_⟩;rw[eg];refine⟨_,_,_,ms',rfl,λb u q=>by rw[ak (ai q hd)];exact s1 _ _ (sx b u q),af,dg',by omega,λu=>?_,λb mb=>?_⟩
     ·rw[hm' u,hm u,tk]
      constructor
      ·rintro(⟨b,mb,y⟩|rfl)
       ·exact⟨b,DO _ mb,y⟩
       ·exact⟨a,Di _ (De.mpr rfl),zz,hr2⟩
      ·rintro⟨b,mb,y,hy⟩
       rcases Dz.mp mb with mb|mb
       ·exact .inl ⟨b,mb,y,hy⟩
       ·rw[De.mp mb,hr2]at hy
        cases hy;exact .inr rfl
     ·rw[tk]at mb
      rcases Dz.mp mb with mb|mb
      ·exact hs b mb
      ·rw[De.mp mb,hr2];rfl
  ·rintro σ Hx ⟨v3,v4,kvs,ms,rfl,sx,zd,dg,lm,hm,hs⟩
   rw[Dl]at lm;rw[Dl,D1 (Dk _)]at hm hs;refine⟨_,rfl,d,kvs,ms,rfl,zd,dg.k,by omega,λp1 ks hp1 pm srt=>?_⟩;have s2:=aA.upd (o:=.lst (ks.map V.int)) hp1;have zd2:=s2 _ _ zd;have asc:=gu srt (pm.nodup_iff.mpr dg.n);have lks:ks.length=ms.length:=pm.length_eq;refine⟨p1,rfl,⟨_,SqL.of af⟩,λL hL=>?_⟩;refine ky (K:=K) (a:=p1) (xs:=ks.map V.int) (λi ys Hc=>ys.length=i∧aA (upd Hx p1 (.lst (ks.map V.int))) Hc∧Hc L=some (.lst ys)∧∀(j:Nat) (u:V) (t:Int),ys[j]?=some u→ks[j]?=some t→∃ q,u=.ref q∧Hc q=some (.tup [.int t,.int (g t)])) ⟨rfl,aA.upd hL,af,(λj u t h=>by cases h)⟩ (λi ys Hc _ ⟨e,_,z,_⟩=>⟨z,e⟩) (λi ys Hc _ ⟨_,sc,_⟩=>SqL.of (sc _ _ af)) (by rw[Dl];exact eW (by omega)) (λi v ys Hc hi ⟨e,sc,z,hq⟩=>?_) (λys Hc ⟨e,sc,z,hq⟩=>?_)
   ·rw[Dw]at hi
    obtain⟨t,ht,rfl⟩:=DG.mp hi;have mt:t∈ms:=pm.mem_iff.mp (Dr ht);refine⟨_,rfl,_,rfl,_,rfl,d,.int (g t),rfl,.inl ⟨kvs,Sum.inl t,.inl (sc _ _ zd2),rfl,(dg.v t mt).symm⟩,by show 2≤sizeLine;decide,λq hq'=>?_⟩;have s3:=aA.upd (o:=.tup [V.int t,V.int (g t)]) hq';have z3:=s3 _ _ z;refine⟨z3,by rw[Dn,e];rfl,λb u y=>by rw[ak (ai y hL)];exact s3 _ _ (sc b u y),af,λj u t' h1 h2=>?_⟩;rcases EF j ys.length with cj|cj
    ·rw[DJ cj]at h1
     obtain⟨q',e1,e2⟩:=hq j u t' h1 h2;exact⟨q',e1,by rw[ak (ee (s3 _ _ e2) z3 (by intro y;cases y))];exact s3 _ _ e2⟩
    ·have ej:j=ys.length:=by have:=(Dd.mp h1).1;rw[Dn,D3]at this;omega
     rw[ej,DI (Dk _),Ey]at h1;cases h1;rw[ej,e,ht]at h2;cases h2;exact⟨q,rfl,by rw[ak (ee (aF s3) z3 (by intro y;cases y))];exact aF s3⟩
   ·rw[Dl]at e
    refine k hs L ys ks Hc ((sx.trans s2).trans sc) (aA.none (sx.trans s2) hL) z ⟨e,hq⟩ asc (λt=>?_) (by omega);rw[pm.mem_iff,hm t]
def qB:Sp:=λvs H Q _=>∃(b:Addr) (ps:List V) (ks:List Int) (g:Int→Int) (t:Int),vs=[.ref b,.int t]∧H b=some (.lst ps)∧Pr H ps ks g∧Q (if t∈ks then .int (g t) else .non) H
abbrev kS:List Str:=["book", "t", "pair"]
theorem gU:aO kS ["book", "t"] (ar fm):=⟨rfl,rfl,rfl,by decide +kernel,rfl,by decide +kernel,by decide +kernel⟩
theorem jW(F:Fun K "address_in" "address_in" fm D.bg D.du)(T:Txt K mg D):Ok P w K mg base 1 D.bg D.du ["book", "t"] (qB):=by
 refine⟨?_,F.binds (ps:=["book", "t"]) λ_ _ _ _ _ _ us hl=>match us,hl with|[_,_],_=>rfl⟩
 refine F.okE gU (λvs H Q E h=>?_) (λcdv A' outer s' H vs Q E hr h=>?_)
 ·obtain⟨b,ps,ks,g,t,rfl,_⟩:=h
  rfl
 ·obtain⟨b,ps,ks,g,t,rfl,hb,pr,k⟩:=h
  refine⟨_,(PSs.nox (ag (fP DY rfl (eY (pv 0)) (br (i:=2) gU.nd rfl (Or.inl rfl))
    (aq (dD (bF iT (b7 cq (pv 2) ah (λ_ _=>rfl)) (pv 1) (aZ _))
     (aq (aT (b7 cq (pv 2) ah (λ_ _=>rfl))))
     bq)))
   (aq (aT dU)))),?_⟩
  refine⟨_,rfl,b,rfl,⟨_,SqL.of hb⟩,gv (K:=K) (a:=b) (xs:=ps) (λi σ Hx=>∃ v2,σ=[some (.ref b),some (.int t),v2]∧Hx=H∧t∉ks.take i) ⟨none,rfl,rfl,(λm=>nomatch m)⟩ (λi σ Hx _ ⟨_,_,e,_⟩=>by rw[e];exact SqL.of hb) ?_ ?_⟩
  ·rintro i v σ Hx hi ⟨v2,rfl,rfl,nt⟩
   have hil:i<ks.length:=(by rw[←pr.1];exact(Dd.mp hi).1);have hk:ks[i]?=some ks[i]:=C8 hil;obtain⟨u,eu⟩:∃ u,ks[i]=u:=⟨_,rfl⟩;rw[eu]at hk;obtain⟨q,rfl,hq⟩:=pr.2 i v u hi hk;refine⟨_,rfl,q,_,0,.int u,rfl,rfl,SqT.of hq,rfl,_,rfl,rfl,_,rfl,?_⟩;by_cases c:u=t
   ·subst c
    rw[if_pos (Dr hk)]at k;exact kh (by simp) ⟨_,rfl,q,_,1,.int (g u),rfl,rfl,SqT.of hq,rfl,k⟩
   ·refine fG (by simp[c]) ⟨_,rfl,rfl,?_⟩
    rw[take_snoc hk,Dz];exact λz=>z.elim nt λz=>c (De.mp z).symm
  ·rintro σ Hx ⟨v2,rfl,rfl,nt⟩
   rw[pr.1,D1 (Dk _)]at nt;rw[if_neg nt]at k;exact k
def nX(ks:List Int):Bool:=(List.range (ks.length-1)).all λi=>decide (ks.getD i 0<ks.getD (i+1) 0)
def p0:Sp:=λvs H Q _=>∃(b:Addr) (ps:List V) (ks:List Int),vs=[.ref b]∧H b=some (.lst ps)∧ps.length=ks.length∧ks.length≤1000∧(∀(i:Nat) (u:V) (t:Int),ps[i]?=some u→ks[i]?=some t→∃ q y,u=.ref q∧H q=some (.tup [.int t,y]))∧∀ H',aA H H'→Q (.bl (nX ks)) H'
abbrev kG:List Str:=["book"]
theorem pe:aO kG ["book"] (ar gH):=⟨rfl,rfl,rfl,by decide +kernel,rfl,by decide +kernel,by decide +kernel⟩
theorem pf(F:Fun K "is_book" "is_book" gH D.cz D.d9)(T:Txt K mg D):Ok P w K mg base 1 D.cz D.d9 ["book"] (p0):=by
 refine⟨?_,F.binds (ps:=["book"]) λ_ _ _ _ _ _ us hl=>match us,hl with|[_],_=>rfl⟩
 refine F.okE pe (λvs H Q E h=>?_) (λcdv A' outer s' H vs Q E hr h=>?_)
 ·obtain⟨b,ps,ks,rfl,_⟩:=h
  rfl
 ·obtain⟨b,ps,ks,rfl,hb,le,l1,hp,k⟩:=h
  refine⟨_,(PSs.nox (aq (aT (ao (nN rfl) rfl T.rR PyProof.Rows.Boot.«all» (aa (jr (cl:=[("book",s'.heap.objs.size+1)]) (x := "i") (idx:=[0]) (NC:=["i", "book"]) ?co1 rfl (d7 rfl T.eB (aa (aH pL (ao aP rfl T.fc PyProof.Rows.Boot.«len» (aa (pv 0) ae)) ah) ae)) (λC fp s₀ H₀=>(da oh (b7 (r:=uZ K) cq (b7 (r:=ub K) eo (pv 1) (pv 0) (λ_ _=>rfl)) ah (λ_ _=>rfl)) (b7 (r:=uZ K) cq (b7 (r:=ub K) eo (pv 1) (aH cB (pv 0) ah) (λ_ _=>rfl)) ah (λ_ _=>rfl)) (aZ _)))) ae))))),?_⟩
  case co1 =>
   exact fN (sc:=ar gH) (N:=kG) (ns:=["book"]) rfl rfl rfl (by decide +kernel) rfl rfl (by
    intro q hq;rw[De.mp hq];rfl)
  refine⟨_,rfl,b,_,rfl,.inl (SqL.of hb),_,1,rfl,rfl,_,rfl,by omega,by omega,λL hL=>?_⟩;obtain⟨n,en⟩:∃ n:Nat,((ps.length:Int)-1).toNat=n:=⟨_,rfl⟩;rw[en];refine ez (lo:=0) (n:=n) (λi ys Hc=>ys=((List.range i).map λi=>decide (ks.getD i 0<ks.getD (i+1) 0)).map V.bl∧aA H Hc∧Hc L=some (.lst ys)) ⟨rfl,aA.upd hL,af⟩ (λi ys Hc hi ⟨e,_,z⟩=>⟨z,by rw[e,Dl,Dl,List.length_range]⟩) (eW (by omega)) (λi ys Hc hi ⟨e,sc,z⟩=>?_) (λys Hc ⟨e,sc,z⟩=>?_)
  ·have h1:i<ks.length:=by omega
   have h2:i+1<ks.length:=(by omega);have p1:ps[i]?=some (ps[i]'(by omega)):=C8 _;have p2:ps[i+1]?=some (ps[i+1]'(by omega)):=C8 _;have k1:ks[i]?=some ks[i]:=C8 h1;have k2:ks[i+1]?=some ks[i+1]:=C8 h2;obtain⟨q1,y1,e1,g1⟩:=hp i _ _ p1 k1;obtain⟨q2,y2,e2,g2⟩:=hp (i+1) _ _ p2 k2;rw[e1]at p1;rw[e2]at p2;refine⟨_,rfl,_,rfl,b,ps,_,.ref q1,rfl,rfl,SqL.of (sc _ _ hb),(by rw[Int.zero_add];exact qg p1),q1,_,0,.int ks[i],rfl,rfl,SqT.of (sc _ _ g1),rfl,_,rfl,_,rfl,_,1,rfl,rfl,b,ps,_,.ref q2,rfl,rfl,SqL.of (sc _ _ hb),fV (by omega) (by rw[show(0+(i:Int)+1).toNat=i+1 by omega];exact p2),q2,_,0,.int ks[i+1],rfl,rfl,SqT.of (sc _ _ g2),rfl,_,_,rfl,rfl,z,?_,λb u q=>by rw[ak (ai q hL)];exact sc b u q,af⟩;rw[List.range_succ,DR,DR,e];simp[List.getD,k1,k2]
  ·refine⟨L,_,rfl,SqL.of (by rw[z,e]),?_⟩
   have eb:(((List.range n).map λi=>decide (ks.getD i 0<ks.getD (i+1) 0)).all id)=nX ks:=by
    unfold nX;rw[List.all_map,show n=ks.length-1 by omega];rfl
   rw[eb];exact k _ sc
theorem sM{H H':Hp}{a:Addr}{xs:List V}(e:aA H H')(h:SqT K H a xs):SqT K H' a xs:=by
 rcases h with(h|⟨o,h⟩)|h
 ·exact .inl (.inl (e _ _ h))
 ·exact .inl (.inr ⟨o,e _ _ h⟩)
 ·exact .inr h
def Dp:Nat→Hp→V→V→Prop
 | 0,_,u,v=>u=v∧(v=.non∨(∃ n:Int,v=.int n)∨∃ z:Str,v=.str z)
 | n+1,H,u,v=>(u=v∧(v=.non∨(∃ n:Int,v=.int n)∨∃ z:Str,v=.str z))∨∃(s t:Addr) (xs ys:List V),u=.ref s∧v=.ref t∧((H s=some (.tup xs)∧H t=some (.tup ys))∨(H s=some (.lst xs)∧H t=some (.lst ys)))∧xs.length=ys.length∧ys.length≤100 ∧
   ∀(i:Nat) (x y:V),xs[i]?=some x→ys[i]?=some y→Dp n H x y
theorem Dp.mono{H H':Hp}(s:aA H H'):∀ {n:Nat} {u v:V},Dp n H u v→Dp n H' u v
 | 0,_,_,h=>h
 | n+1,_,_,h=>by
  rcases h with h|⟨a,b,xs,ys,e1,e2,e3,e4,e5,e6⟩
  ·exact .inl h
  ·refine .inr ⟨a,b,xs,ys,e1,e2,?_,e4,e5,λi x y hx hy=>Dp.mono s (e6 i x y hx hy)⟩
   rcases e3 with⟨g1,g2⟩|⟨g1,g2⟩
   ·exact .inl ⟨s _ _ g1,s _ _ g2⟩
   ·exact .inr ⟨s _ _ g1,s _ _ g2⟩
def tq(n:Nat):Sp:=λvs H Q _=>∃ u v,vs=[u,v]∧Dp n H u v∧∀ H',aA H H'→Q (.bl true) H'
theorem scA:aO ["found", "due"] ["found", "due"] (ar bf):=⟨rfl,rfl,rfl,by decide +kernel,rfl,by decide +kernel,by decide +kernel⟩
theorem yc{f:Addr}{fd:FuncData}(F:Fun K "_law_alike" "_law_alike" bf f fd)(T:Txt K mg D):g5 P w K mg base (CXE P w) 1 f fd ["found", "due"] (tq 0):=by
 refine F.okE scA (λvs H Q E h=>?_) (λcdv A outer s H vs Q E hr h=>?_)
 ·obtain⟨u,v,rfl,_⟩:=h
  rfl
 ·obtain⟨u,v,rfl,⟨rfl,hv⟩,k⟩:=h
  refine⟨_,ag (dD (bF i3 (pv 1) dU (aZ _)) (aq (aT (da i3 (pv 0) dU (aZ _)))) bq)
   (ag (dD (eR (ao aY rfl T.aj PyProof.Rows.Boot.«isinstance» (aa (pv 1) (aa (eL rfl T.my PyProof.Rows.Boot.«str») ae))))
     (aq (aT (fO (ao aY rfl T.aj PyProof.Rows.Boot.«isinstance» (aa (pv 0) (aa (eL rfl T.my PyProof.Rows.Boot.«str») ae))) (ig (da iT (pv 0) (pv 1) (aZ _)))))) bq)
   (ag (dD (eR (ao aY rfl T.aj PyProof.Rows.Boot.«isinstance» (aa (pv 1) (aa (eL rfl T.mw PyProof.Rows.Boot.«int») ae))))
     (aq (aT (fO (ao aY rfl T.aj PyProof.Rows.Boot.«isinstance» (aa (pv 0) (aa (eL rfl T.mw PyProof.Rows.Boot.«int») ae)))
      (fO (sP (ao aY rfl T.aj PyProof.Rows.Boot.«isinstance» (aa (pv 0) (aa (eL rfl T.jQ PyProof.Rows.Boot.«bool») ae)))) (ig (da iT (pv 0) (pv 1) (aZ _))))))) bq)
   qI)),?_⟩
  rcases hv with rfl|⟨n,rfl⟩|⟨z,rfl⟩
  ·refine⟨_,rfl,rfl,_,rfl,g7 (λ_=>⟨_,rfl,rfl,?_⟩) (λh=>by simp at h)⟩
   rw[decide_eq_true rfl];exact k H (aA.refl _)
  ·refine⟨_,rfl,rfl,_,rfl,g7 (λh=>by simp at h) (λ_=>?_)⟩
   refine aN (x:=.int n) (t:=.type "int") (b:=false) rfl (.of (.int n)) (by kernel_rfl) ⟨_,rfl,sV ?_⟩;refine aN (x:=.int n) (t:=.type "int") (b:=true) rfl (.of (.int n)) rfl ⟨_,rfl,iB ?_⟩;refine aN (x:=.int n) (t:=.type "int") (b:=true) rfl (.of (.int n)) rfl ⟨_,rfl,iB ?_⟩;refine aN (x:=.int n) (t:=.type "int") (b:=false) rfl (.of (.int n)) (by kernel_rfl) ⟨_,rfl,_,rfl,iB ?_⟩;refine⟨_,rfl,_,rfl,rfl,?_⟩;rw[decide_eq_true rfl];exact k H (aA.refl _)
  ·refine⟨_,rfl,rfl,_,rfl,g7 (λh=>by simp at h) (λ_=>?_)⟩
   refine aN (x:=.str z) (t:=.type "str") (b:=true) rfl (.of (.str z)) rfl ⟨_,rfl,iB ?_⟩;refine aN (x:=.str z) (t:=.type "str") (b:=true) rfl (.of (.str z)) rfl ⟨_,rfl,iB ?_⟩;refine⟨_,rfl,_,rfl,rfl,?_⟩;rw[decide_eq_true rfl];exact k H (aA.refl _)
abbrev CY:Stmt→Option Expr
 | .Assign _ e _=>some e
 | .Return (some (.BoolOp _ [_,.Call _ [e] _ _] _)) _=>some e
 | .Return (some (.Call _ [e] _ _)) _=>some e
 | .Return (some (.Tuple [_,e] _ _)) _=>some e
 | _=>none
def uL:Option Expr→Scope
 | some (.ListComp _ _ sc _)=>sc
 | _=>default
abbrev BZ:Scope:=uL (CY ((er bf).getLast!))
theorem cA:rP (ar bf) BZ "k" ["found", "due"] ["found", "due"] [0,1]:=by decide +kernel
theorem yd{n:Nat}{f:Addr}{fd:FuncData}(F:Fun K "_law_alike" "_law_alike" bf f fd)(T:Txt K mg D)(mA:mg "_law_alike" = some (.ref f))(kA:PySem.W.keepIn K (.ref f)=true)(bA:Binds K fd ["found", "due"] [])
  (G0:g5 P w K mg base (CXE P w) (n+1) f fd ["found", "due"] (tq n)):g5 P w K mg base (CXE P w) (n+2) f fd ["found", "due"] (tq (n+1)):=by
 refine F.okE scA (λvs H Q E h=>?_) (λcdv A outer s H vs Q E hr h=>?_)
 ·obtain⟨u,v,rfl,_⟩:=h
  rfl
 ·obtain⟨u,v,rfl,hd,k⟩:=h
  have co:jM (cxE P w K mg base ["found", "due"] "_law_alike" (ar bf) f cdv A outer s H E).nox BZ [("found",s.heap.objs.size+1),("due",s.heap.objs.size+1+1)] "k" [0,1] ["k", "found", "due"] :=
   fN rfl rfl rfl cA rfl rfl (by
    intro q hq;rcases Ds.mp hq with rfl|hq
    ·rfl
    ·rw[De.mp hq]
     rfl)
  refine⟨_,PSs.nox (ag (dD (bF i3 (pv 1) dU (aZ _)) (aq (aT (da i3 (pv 0) dU (aZ _)))) bq)
   (ag (dD (eR (ao aY rfl T.aj PyProof.Rows.Boot.«isinstance» (aa (pv 1) (aa (eL rfl T.my PyProof.Rows.Boot.«str») ae))))
     (aq (aT (fO (ao aY rfl T.aj PyProof.Rows.Boot.«isinstance» (aa (pv 0) (aa (eL rfl T.my PyProof.Rows.Boot.«str») ae))) (ig (da iT (pv 0) (pv 1) (aZ _)))))) bq)
   (ag (dD (eR (ao aY rfl T.aj PyProof.Rows.Boot.«isinstance» (aa (pv 1) (aa (eL rfl T.mw PyProof.Rows.Boot.«int») ae))))
     (aq (aT (fO (ao aY rfl T.aj PyProof.Rows.Boot.«isinstance» (aa (pv 0) (aa (eL rfl T.mw PyProof.Rows.Boot.«int») ae)))
      (fO (sP (ao aY rfl T.aj PyProof.Rows.Boot.«isinstance» (aa (pv 0) (aa (eL rfl T.jQ PyProof.Rows.Boot.«bool») ae)))) (ig (da iT (pv 0) (pv 1) (aZ _))))))) bq)
   (ag (dD (PW.pt (pw_or (bF tF (ao aY rfl T.aj PyProof.Rows.Boot.«isinstance» (aa (pv 1) (aa (eL rfl T.jw PyProof.Rows.Boot.«tuple») ae))) (ao aY rfl T.aj PyProof.Rows.Boot.«isinstance» (aa (pv 0) (aa (eL rfl T.jw PyProof.Rows.Boot.«tuple») ae))) (aZ _))
     (pw_or1 (bF tF (ao aY rfl T.aj PyProof.Rows.Boot.«isinstance» (aa (pv 1) (aa (eL rfl T.ik PyProof.Rows.Boot.«list») ae))) (ao aY rfl T.aj PyProof.Rows.Boot.«isinstance» (aa (pv 0) (aa (eL rfl T.ik PyProof.Rows.Boot.«list») ae))) (aZ _))))) (aq (aT gZ)) bq)
   (aq (aT (fO (da iT (ao aP rfl T.fc PyProof.Rows.Boot.«len» (aa (pv 0) ae)) (ao aP rfl T.fc PyProof.Rows.Boot.«len» (aa (pv 1) ae)) (aZ _))
    (ig (ao (nN rfl) rfl T.rR PyProof.Rows.Boot.«all» (aa (jr co rfl (d7 rfl T.eB (aa (ao aP rfl T.fc PyProof.Rows.Boot.«len» (aa (pv 1) ae)) ae))
     (λC fp s₀ H₀=>aE G0 hr rfl mA kA bA .nil oz (aa (b7 (r:=rIx K) sU (pv 1) (pv 0) (λ_ _=>rfl)) (aa (b7 (r:=rIx K) sU (pv 2) (pv 0) (λ_ _=>rfl)) ae)))) ae)))))))))),?_⟩
  rcases hd with⟨rfl,hv⟩|⟨a,b,xs,ys,rfl,rfl,e3,hlen,hz,hy⟩
  ·rcases hv with rfl|⟨n,rfl⟩|⟨z,rfl⟩
   ·refine⟨_,rfl,rfl,_,rfl,g7 (λ_=>⟨_,rfl,rfl,?_⟩) (λh=>by simp at h)⟩
    rw[decide_eq_true rfl];exact k H (aA.refl _)
   ·refine⟨_,rfl,rfl,_,rfl,g7 (λh=>by simp at h) (λ_=>?_)⟩
    refine aN (x:=.int n) (t:=.type "int") (b:=false) rfl (.of (.int n)) (by kernel_rfl) ⟨_,rfl,sV ?_⟩;refine aN (x:=.int n) (t:=.type "int") (b:=true) rfl (.of (.int n)) rfl ⟨_,rfl,iB ?_⟩;refine aN (x:=.int n) (t:=.type "int") (b:=true) rfl (.of (.int n)) rfl ⟨_,rfl,iB ?_⟩;refine aN (x:=.int n) (t:=.type "int") (b:=false) rfl (.of (.int n)) (by kernel_rfl) ⟨_,rfl,_,rfl,iB ?_⟩;refine⟨_,rfl,_,rfl,rfl,?_⟩;rw[decide_eq_true rfl];exact k H (aA.refl _)
   ·refine⟨_,rfl,rfl,_,rfl,g7 (λh=>by simp at h) (λ_=>?_)⟩
    refine aN (x:=.str z) (t:=.type "str") (b:=true) rfl (.of (.str z)) rfl ⟨_,rfl,iB ?_⟩;refine aN (x:=.str z) (t:=.type "str") (b:=true) rfl (.of (.str z)) rfl ⟨_,rfl,iB ?_⟩;refine⟨_,rfl,_,rfl,rfl,?_⟩;rw[decide_eq_true rfl];exact k H (aA.refl _)
  ·have tys:∃(t:String) (ib il:Bool),TyX K H (.ref a) (.type t)∧TyX K H (.ref b) (.type t)∧PySem.W.kitOne K (.type t) (.type "str")=some false∧PySem.W.kitOne K (.type t) (.type "int")=some false∧PySem.W.kitOne K (.type t) (.type "tuple")=some ib∧PySem.W.kitOne K (.type t) (.type "list")=some il ∧
     (SqL K H a xs∨SqT K H a xs)∧(SqL K H b ys∨SqT K H b ys):=by
    rcases e3 with⟨g1,g2⟩|⟨g1,g2⟩
    ·exact⟨"tuple",true,false,.of (.tup g1),.of (.tup g2),by kernel_rfl,by kernel_rfl,rfl,by kernel_rfl,.inr (SqT.of g1),.inr (SqT.of g2)⟩
    ·exact⟨"list",false,true,.of (.lst g1),.of (.lst g2),by kernel_rfl,by kernel_rfl,by kernel_rfl,rfl,.inl (SqL.of g1),.inl (SqL.of g2)⟩
   obtain⟨t,ib,il,ta,tb,k1,k2,k3,k4,qa,qb⟩:=tys;refine⟨_,rfl,rfl,_,rfl,g7 (λh=>by simp at h) (λ_=>?_)⟩;refine aN (x:=.ref b) (t:=.type t) (b:=false) rfl tb k1 ⟨_,rfl,sV ?_⟩;refine aN (x:=.ref b) (t:=.type t) (b:=false) rfl tb k2 ⟨_,rfl,sV ?_⟩;refine aN (x:=.ref b) (t:=.type t) (b:=ib) rfl tb k3 (aN (x:=.ref a) (t:=.type t) (b:=ib) rfl ta k3 ⟨rfl,_,rfl,u1 rfl ?_⟩);refine aN (x:=.ref b) (t:=.type t) (b:=il) rfl tb k4 (aN (x:=.ref a) (t:=.type t) (b:=il) rfl ta k4 ⟨rfl,_,rfl,u1 rfl ?_⟩);have h62:(ys.length:Int)<2 ^ 62:=(by omega);refine⟨_,rfl,a,xs,rfl,qa,_,rfl,b,ys,rfl,qb,rfl,_,rfl,?_⟩;rw[decide_eq_true (show V.int (xs.length:Int)=V.int (ys.length:Int) by rw[hlen])];refine iB ⟨_,rfl,b,ys,rfl,qb,(ys.length:Int),rfl,by omega,h62,λD hD=>?_⟩;refine ez (lo:=0) (n:=ys.length) (λi zs H2=>zs=List.replicate i (.bl true)∧aA H H2∧H2 D=some (.lst zs)) ⟨rfl,aA.upd hD,af⟩ (λi zs H2 _ ⟨e,_,z⟩=>⟨z,by rw[e,DU]⟩) (DK hz (by decide)) (λi zs H2 hi ⟨e,s2,z⟩=>?_) (λzs H2 ⟨e,s2,z⟩=>?_)
   ·have hix:i<xs.length:=by omega
    have gx:xs[i]?=some xs[i]:=C8 hix;have gy:ys[i]?=some ys[i]:=C8 hi;have ei:(0+(i:Int)).toNat=i:=(by omega);have ax:atI xs (0+(i:Int))=some xs[i]:=fV (by omega) (by rw[ei];exact gx);have ay:atI ys (0+(i:Int))=some ys[i]:=fV (by omega) (by rw[ei];exact gy);have six:∀ {p:Addr} {us:List V} {v:V} {Q:VK},(SqL K H p us∨SqT K H p us)→atI us (0+(i:Int))=some v→Q v H2→rIx K (.ref p) (.int (0+(i:Int))) H2 Q:=λ{p us v Q} q h1 h2=>by
     rcases q with q|q
     ·exact .inl ⟨p,us,_,v,rfl,rfl,s2.seq q,h1,h2⟩
     ·exact .inr (.inl ⟨p,us,_,v,rfl,rfl,sM s2 q,h1,h2⟩)
    refine⟨_,rfl,_,rfl,six qa ax ?_⟩;refine⟨_,rfl,_,rfl,six qb ay ?_⟩;refine⟨_,_,rfl,(hy i _ _ gx gy).mono s2,λH3 s3=>⟨s3 _ _ z,?_,?_,af⟩⟩
    ·rw[e,List.replicate_succ']
    ·exact λb u q=>by rw[ak (ai q hD)];exact s3 _ _ (s2 b u q)
   ·refine⟨D,List.replicate ys.length true,rfl,SqL.of (by rw[List.map_replicate,←e];exact z),?_⟩
    rw[show(List.replicate ys.length true).all id=true by simp];exact k _ s2
theorem xf{f:Addr}{fd:FuncData}(F:Fun K "_law_alike" "_law_alike" bf f fd)(T:Txt K mg D)(mA:mg "_law_alike" = some (.ref f))(kA:PySem.W.keepIn K (.ref f)=true)(bA:Binds K fd ["found", "due"] []):∀ n,g5 P w K mg base (CXE P w) (n+1) f fd ["found", "due"] (tq n)
 | 0=>yc F T
 | n+1=>yd F T mA kA bA (xf F T mA kA bA n)
theorem jX(F:Fun K "_law_alike" "_law_alike" bf D.bj D.cN)(T:Txt K mg D):Ok P w K mg base 4 D.bj D.cN ["found", "due"] (tq 3):=by
 have b:Binds K D.cN ["found", "due"] []:=F.binds (ps:=["found", "due"]) λ_ _ _ _ _ _ us hl=>match us,hl with|[_,_],_=>rfl
 exact⟨xf F T T.fz T.dA b 3,b⟩
def lW(K:W.Frag):Sp:=λvs H Q _=>∃(a:Addr) (ns:List Int) (j:Int),vs=[.ref a,.int j]∧SqL K H a (ns.map V.int)∧0≤j∧Q (.int (ns.getD j.toNat 0)) H
abbrev mT:List Str:=["script", "k"]
theorem kT:aO mT ["script", "k"] (ar gj):=⟨rfl,rfl,rfl,by decide +kernel,rfl,by decide +kernel,by decide +kernel⟩
theorem kU(F:Fun K "_law_cell" "_law_cell" gj D.bD D.c7)(T:Txt K mg D):Ok P w K mg base 1 D.bD D.c7 ["script", "k"] (lW K):=by
 refine⟨?_,F.binds (ps:=["script", "k"]) λ_ _ _ _ _ _ us hl=>match us,hl with|[_,_],_=>rfl⟩
 refine F.okE kT (λvs H Q E h=>?_) (λcdv A' outer s' H vs Q E hr h=>?_)
 ·obtain⟨a,ns,j,rfl,_⟩:=h
  rfl
 ·obtain⟨a,ns,j,rfl,hS,j0,k⟩:=h
  refine⟨_,(PSs.nox (ag (dD (bF oh (pv 1) (ao aP rfl T.fc PyProof.Rows.Boot.«len» (aa (pv 0) ae)) (aZ _))
    (aq (aT (b7 eo (pv 0) (pv 1) (λ_ _=>rfl))))
    bq)
   (aq (aT ah)))),?_⟩
  refine⟨_,rfl,_,rfl,a,_,rfl,.inl hS,j,_,rfl,rfl,_,rfl,g7 (λh=>?_) (λh=>?_)⟩
  case refine_2 =>
   have hl:ns.length≤j.toNat:=by
    have h:=of_decide_eq_false (Bool.eq_false_iff.mpr h);rw[Dl]at h;omega
   rw[DC,Ee.mpr hl]at k;exact k
  have hl:j.toNat<ns.length:=by
   have:=of_decide_eq_true h
   rw[Dl]at this;omega
  exact⟨_,rfl,_,rfl,a,_,j,.int ns[j.toNat],rfl,rfl,hS,fV j0 (by rw[Dw,C8 hl];rfl),by rw[DC,C8 hl]at k;exact k⟩
def ix:Sp:=λvs H Q _=>∃ c j:Int,vs=[.int c,.int j]∧0≤j∧j≤1000∧∀ r:Int,0≤r→r≤300000000→Q (.int r) H
abbrev kW:List Str:=["cell", "k", "first", "second"]
theorem eX:aO kW ["cell", "k"] (ar fq):=⟨rfl,rfl,rfl,by decide +kernel,rfl,by decide +kernel,by decide +kernel⟩
theorem jY(F:Fun K "_law_mixed" "_law_mixed" fq D.aX D.b5)(T:Txt K mg D):Ok P w K mg base 1 D.aX D.b5 ["cell", "k"] (ix):=by
 refine⟨?_,F.binds (ps:=["cell", "k"]) λ_ _ _ _ _ _ us hl=>match us,hl with|[_,_],_=>rfl⟩
 refine F.okE eX (λvs H Q E h=>?_) (λcdv A' outer s' H vs Q E hr h=>?_)
 ·obtain⟨c,j,rfl,_⟩:=h
  rfl
 ·obtain⟨c,j,rfl,j0,j1,k⟩:=h
  refine⟨_,(PSs.nox (ag (aU (i:=2) eX.nd rfl (Or.inl rfl) (aH cW (aH fQ (aH cB (aH cB (pv 0) (aH fQ ah (pv 1))) ah) ah) ah))
   (ag (aU (i:=3) eX.nd rfl (Or.inl rfl) (aH cW (aH cB (aH cB (aH fQ (pv 2) (pv 2)) (aH fQ ah (pv 1))) ah) ah))
   (aq (aT (aH tV (aH cW (aH fQ (pv 3) (pv 3)) ah) ah)))))),?_⟩
  refine⟨_,rfl,_,rfl,7919,j,rfl,rfl,.inl ⟨by decide,by decide⟩,c,_,rfl,rfl,_,1,rfl,rfl,_,48271,rfl,rfl,.inr ⟨by decide,by decide⟩,_,2147483647,rfl,rfl,(by show(0:Int)<2147483647;decide),?_⟩;have q0:=DZ ((c+7919*j+1)*48271) (show(2147483647:Int)≠0 by decide);have q1:=DS ((c+7919*j+1)*48271) (show(0:Int)<2147483647 by decide);obtain⟨n2,en2⟩:∃ n2:Int,(c+7919*j+1)*48271%2147483647=n2:=⟨_,rfl⟩;rw[en2]at q0 q1;simp only[en2,gC];refine⟨_,rfl,_,rfl,n2,n2,rfl,rfl,.inl ⟨by omega,by omega⟩,_,rfl,40692,j,rfl,rfl,.inl ⟨by decide,by decide⟩,_,_,rfl,rfl,_,3,rfl,rfl,_,2147483629,rfl,rfl,(by show(0:Int)<2147483629;decide),?_⟩;have q2:=DZ (n2*n2+40692*j+3) (show(2147483629:Int)≠0 by decide);have q3:=DS (n2*n2+40692*j+3) (show(0:Int)<2147483629 by decide);obtain⟨n3,en3⟩:∃ n3:Int,(n2*n2+40692*j+3)%2147483629=n3:=⟨_,rfl⟩;rw[en3]at q2 q3;simp only[en3,gC];refine⟨_,rfl,_,rfl,n3,n3,rfl,rfl,.inl ⟨by omega,by omega⟩,_,2147483587,rfl,rfl,(by show(0:Int)<2147483587;decide),_,8,rfl,rfl,⟨by decide,by decide⟩,?_⟩;have q4:=DZ (n3*n3) (show(2147483587:Int)≠0 by decide);have q5:=DS (n3*n3) (show(0:Int)<2147483587 by decide);exact k _ (Int.ediv_nonneg q4 (by decide)) (by generalize n3*n3%2147483587=y at q4 q5;show y/8≤_;omega)
def nY(D:Ad):Sp:=λvs H Q _=>∃(ea:Addr) (b:Bool),vs=[.ref ea]∧H ea=some (exo b D.ab ea none)∧∀ p H',aA H H'→H' p=some (.lst [V.bl true,V.bl false,V.bl false,V.bl false,V.bl false,V.bl false,V.bl false,V.bl false,V.bl false,V.bl false,V.bl false,V.bl false,V.bl false])→Q (.ref p) H'
abbrev kX:List Str:=["e", "flags"]
theorem dH:aO kX ["e"] (ar ft):=⟨rfl,rfl,rfl,by decide +kernel,rfl,by decide +kernel,by decide +kernel⟩
theorem jZ(F:Fun K "_law_flags" "_law_flags" ft D.bh D.dv)(T:Txt K mg D):Ok P w K mg base 1 D.bh D.dv ["e"] (nY D):=by
 refine⟨?_,F.binds (ps:=["e"]) λ_ _ _ _ _ _ us hl=>match us,hl with|[_],_=>rfl⟩
 refine F.okE dH (λvs H Q E h=>?_) (λcdv A' outer s' H vs Q E hr h=>?_)
 ·obtain⟨ea,b,rfl,_⟩:=h
  rfl
 ·obtain⟨ea,b,rfl,he,k⟩:=h
  refine⟨_,(PSs.nox (ag (aU (i:=1) dH.nd rfl (Or.inl rfl) (dW (aa (ao bQ rfl T.aj PyProof.Rows.Boot.«isinstance» (aa (pv 0) (aa (cG (v:=.ref D.ab) rfl T.c4 rfl) ae))) (aa (ao bQ rfl T.aj PyProof.Rows.Boot.«isinstance» (aa (pv 0) (aa (cG (v:=.ref D.cH) rfl T.mK rfl) ae))) (aa (ao bQ rfl T.aj PyProof.Rows.Boot.«isinstance» (aa (pv 0) (aa (cG (v:=.ref D.cI) rfl T.mL rfl) ae))) (aa (ao bQ rfl T.aj PyProof.Rows.Boot.«isinstance» (aa (pv 0) (aa (cG (v:=.ref D.de) rfl T.oM rfl) ae))) ae))))))
   (ag (aU (i:=1) dH.nd rfl (Or.inl rfl) (aH e7 (pv 1) (dW (aa (ao bQ rfl T.aj PyProof.Rows.Boot.«isinstance» (aa (pv 0) (aa (cG (v:=.ref D.dQ) rfl T.rj rfl) ae))) (aa (ao bQ rfl T.aj PyProof.Rows.Boot.«isinstance» (aa (pv 0) (aa (cG (v:=.ref D.df) rfl T.oN rfl) ae))) (aa (ao bQ rfl T.aj PyProof.Rows.Boot.«isinstance» (aa (pv 0) (aa (cG (v:=.ref D.cJ) rfl T.mM rfl) ae))) (aa (ao bQ rfl T.aj PyProof.Rows.Boot.«isinstance» (aa (pv 0) (aa (cG (v:=.ref D.dh) rfl T.oO rfl) ae))) ae)))))))
   (ag (aU (i:=1) dH.nd rfl (Or.inl rfl) (aH e7 (pv 1) (dW (aa (ao bQ rfl T.aj PyProof.Rows.Boot.«isinstance» (aa (pv 0) (aa (cG (v:=.ref D.di) rfl T.oP rfl) ae))) (aa (ao bQ rfl T.aj PyProof.Rows.Boot.«isinstance» (aa (pv 0) (aa (cG (v:=.ref D.dR) rfl T.rk rfl) ae))) (aa (ao bQ rfl T.aj PyProof.Rows.Boot.«isinstance» (aa (pv 0) (aa (cG (v:=.ref D.dj) rfl T.oQ rfl) ae))) (aa (ao bQ rfl T.aj PyProof.Rows.Boot.«isinstance» (aa (pv 0) (aa (cG (v:=.ref D.dn) rfl T.oR rfl) ae))) ae)))))))
   (aq (aT (aH e7 (pv 1) (dW (aa (ao bQ rfl T.aj PyProof.Rows.Boot.«isinstance» (aa (pv 0) (aa (cG (v:=.ref D.ba) rfl T.iV rfl) ae))) ae))))))))),?_⟩
  have ty:TyX K H (.ref ea) (.ref D.ab):=T.aW.ty he;refine⟨_,rfl,.ref ea,.ref D.ab,.ref D.ab,true,rfl,ty,⟨_,rfl⟩,T.a6,_,rfl,.ref ea,.ref D.cH,.ref D.ab,false,rfl,ty,⟨_,rfl⟩,T.bW,_,rfl,.ref ea,.ref D.cI,.ref D.ab,false,rfl,ty,⟨_,rfl⟩,T.bX,_,rfl,.ref ea,.ref D.de,.ref D.ab,false,rfl,ty,⟨_,rfl⟩,T.cc,by show 4≤sizeLine;decide,λp1 h1=>?_⟩;have s1:=aA.upd (o:=.lst [V.bl true,V.bl false,V.bl false,V.bl false]) h1;have t1:TyX K _ (.ref ea) (.ref D.ab):=T.aW.ty (s1 _ _ he);refine⟨_,rfl,_,rfl,.ref ea,.ref D.dQ,.ref D.ab,false,rfl,t1,⟨_,rfl⟩,T.cD,_,rfl,.ref ea,.ref D.df,.ref D.ab,false,rfl,t1,⟨_,rfl⟩,T.cf,_,rfl,.ref ea,.ref D.cJ,.ref D.ab,false,rfl,t1,⟨_,rfl⟩,T.bY,_,rfl,.ref ea,.ref D.dh,.ref D.ab,false,rfl,t1,⟨_,rfl⟩,T.cg,by show 4≤sizeLine;decide,λp2 h2=>?_⟩;have s2:=aA.upd (o:=.lst [V.bl false,V.bl false,V.bl false,V.bl false]) h2;refine⟨p1,p2,_,_,rfl,rfl,SqL.of (s2 _ _ (aF s1)),SqL.of (aF s2),by show 8≤sizeLine;decide,λp3 h3=>?_⟩;have s3:=aA.upd (o:=.lst ([V.bl true,V.bl false,V.bl false,V.bl false]++[V.bl false,V.bl false,V.bl false,V.bl false])) h3;have u3:=(s1.trans s2).trans s3;have t3:TyX K _ (.ref ea) (.ref D.ab):=T.aW.ty (u3 _ _ he);refine⟨_,rfl,_,rfl,.ref ea,.ref D.di,.ref D.ab,false,rfl,t3,⟨_,rfl⟩,T.ck,_,rfl,.ref ea,.ref D.dR,.ref D.ab,false,rfl,t3,⟨_,rfl⟩,T.cE,_,rfl,.ref ea,.ref D.dj,.ref D.ab,false,rfl,t3,⟨_,rfl⟩,T.cn,_,rfl,.ref ea,.ref D.dn,.ref D.ab,false,rfl,t3,⟨_,rfl⟩,T.cp,by show 4≤sizeLine;decide,λp4 h4=>?_⟩;have s4:=aA.upd (o:=.lst [V.bl false,V.bl false,V.bl false,V.bl false]) h4;refine⟨p3,p4,_,_,rfl,rfl,SqL.of (s4 _ _ (aF s3)),SqL.of (aF s4),by show 12≤sizeLine;decide,λp5 h5=>?_⟩;have s5:=aA.upd (o:=.lst (([V.bl true,V.bl false,V.bl false,V.bl false]++[V.bl false,V.bl false,V.bl false,V.bl false])++[V.bl false,V.bl false,V.bl false,V.bl false])) h5;have u5:=(u3.trans s4).trans s5;have t5:TyX K _ (.ref ea) (.ref D.ab):=T.aW.ty (u5 _ _ he);refine⟨_,rfl,_,rfl,.ref ea,.ref D.ba,.ref D.ab,false,rfl,t5,⟨_,rfl⟩,T.bw,by show 1≤sizeLine;decide,λp6 h6=>?_⟩;have s6:=aA.upd (o:=.lst [V.bl false]) h6;refine⟨p5,p6,_,_,rfl,rfl,SqL.of (s6 _ _ (aF s5)),SqL.of (aF s6),by show 13≤sizeLine;decide,λp7 h7=>?_⟩;exact k p7 _ ((u5.trans s6).trans (aA.upd h7)) af
def qC(D:Ad):Sp:=λvs H Q _=>∃ m mx c xs ws,∃(l:Addr) (as:List Int) (F:Int→Option (Int×Int)) (g:Int→Int),vs=[.ref m,.ref l]∧Mm D H m mx c xs ws∧Gm ws∧H l=some (.lst (as.map V.int))∧as.length<60∧(∀ a∈as,Sm a∧Ld ws a (F a))∧(∀ a∈as,∀ t z,F a=some (t,z)→z=g t)∧((∀ a∈as,(F a).isSome=true)→∀ r p ps ks H',aA H H'→H p=none→H' r=some (.tup [.str "told",.ref p])→H' p=some (.lst ps)→Pr H' ps ks g→ks.Pairwise (·< ·)→(∀ t,t∈ks↔∃ a∈as,∃ z,F a=some (t,z))→ks.length<64→Q (.ref r) H')∧(¬(∀ a∈as,(F a).isSome=true)→∀ r H',aA H H'→H' r=some (.tup [.str "refused"])→Q (.ref r) H')
abbrev mU:List Str:=["memory", "firsts", "caught", "found", "e"]
theorem cP:aO mU ["memory", "firsts"] (ar gk):=⟨rfl,rfl,rfl,by decide +kernel,rfl,by decide +kernel,by decide +kernel⟩
theorem kY(F:Fun K "_law_done" "_law_done" gk D.bM D.dJ)(T:Txt K mg D)
  (gL:Ok P w K mg base 8 D.cU D.fe ["memory", "firsts"] (qA D))
  (d0:Ok P w K mg base 1 D.bh D.dv ["e"] (nY D)):Ok P w K mg base 9 D.bM D.dJ ["memory", "firsts"] (qC D):=by
 refine⟨?_,F.binds (ps:=["memory", "firsts"]) λ_ _ _ _ _ _ us hl=>match us,hl with|[_,_],_=>rfl⟩
 refine F.okE cP (λvs H Q E h=>?_) (λcdv A' outer s' H vs Q E hr h=>?_)
 ·obtain⟨m,mx,c,xs,ws,l,as,F,g,rfl,_⟩:=h
  rfl
 ·obtain⟨m,mx,c,xs,ws,l,as,F,g,rfl,M,gm,hl,la,hF,hg,k,kb⟩:=h
  obtain⟨cdH,xH⟩:=T.h;refine⟨_,(ag (aU (i:=2) cP.nd rfl (Or.inl rfl) dU)
   (ag (aU (i:=3) cP.nd rfl (Or.inl rfl) dU)
   (ag (xU (i:=4) rfl rfl rfl rfl T.mH xH cP.nd rfl rfl (λpins E' EK hp=>aq (aU (i:=3) cP.nd rfl (Or.inl rfl) (aE gL.g (hr.mono (by decide)) rfl T.rm T.iJ gL.b .nil hp (aa (pv 0) (aa (pv 1) ae))))) (λea=>aq (aU (i:=2) cP.nd rfl (Or.inl rfl) (pv 4))))
   (ag (dD (bF i3 (pv 2) dU (aZ _))
    (aq (aT (b3 (aa dB (aa (pv 3) ae)))))
    bq)
   (ag (dD (PW.pt (pw_and (eR (ao bQ rfl T.aj PyProof.Rows.Boot.«isinstance» (aa (pv 2) (aa (cG (v:=.ref D.ab) rfl T.c4 rfl) ae)))) (pw_and (eR (ao aY rfl T.aj PyProof.Rows.Boot.«isinstance» (aa (pv 2) (aa (eL rfl T.dZ PyProof.Rows.Boot.«ValueError») ae)))) (pw_and1 (bF iT (rM PySem.F.plainAttrs_list PySem.F.slot_list_count PySem.F.type_list_count sD (aE d0.g (hr.mono (by decide)) rfl T.kL T.fw d0.b .nil (Passes.x (fS λ_ _ _ q=>q)) (aa (pv 2) ae)) (aa gZ ae)) ah (aZ _))))))
    (aq (aT (b3 (aa dB ae))))
    bq)
   (aq (aT (b3 (aa dB ae))))))))),?_⟩
  obtain⟨cd,xc,hm⟩:=T.i8;refine⟨_,rfl,_,rfl,m,mx,c,xs,ws,l,as,F,g,rfl,M,gm,hl,la,hF,hg,λha p ps ks H1 s1 hp zp pr asc mem l64=>?_,λhn H1 s1=>?_⟩
  ·refine⟨_,rfl,rfl,_,rfl,g7 (λ_=>⟨_,rfl,by show 2≤sizeLine;decide,λr hr'=>?_⟩) (λh=>by simp at h)⟩
   have s2:=aA.upd (o:=.tup [V.str "told",V.ref p]) hr';exact k ha r p ps ks _ (s1.trans s2) hp af (s2 _ _ zp) (pr.keep (cV.of s2)) asc mem l64
  ·refine⟨D.ab,cd,rfl,xc,hm,λea hea=>⟨.ref ea,rfl,_,rfl,rfl,_,rfl,g7 (λh=>by simp at h) (λ_=>?_)⟩⟩
   have ty:TyX K (upd H1 ea (exo false D.ab ea none)) (.ref ea) (.ref D.ab):=T.aW.ty af;refine⟨_,rfl,.ref ea,.ref D.ab,.ref D.ab,true,rfl,ty,⟨_,rfl⟩,T.a6,_,rfl,iB ?_⟩;refine aN (x:=.ref ea) (t:=.ref D.ab) (b:=true) rfl ty T.jO ⟨_,rfl,iB ?_⟩;refine⟨_,rfl,ea,false,rfl,af,λp H3 s3 h3=>⟨.inl ⟨rfl,_,SqL.of h3⟩,p,_,.bl true,rfl,rfl,SqL.of h3,rfl,(by rfl),?_⟩⟩;refine⟨rfl,_,rfl,g7 (λ_=>⟨by show 1≤sizeLine;decide,λp2 hp2=>?_⟩) (λz=>absurd (by decide +kernel) z)⟩;exact kb hn p2 _ ((s1.trans (aA.upd hea)).trans (s3.trans (aA.upd hp2))) af
theorem lX{H:Hp}:∀ {ps:List V},(∀ u∈ps,PrV H u)→∃ ks:List Int,ps.length=ks.length∧∀(i:Nat) (u:V) (t:Int),ps[i]?=some u→ks[i]?=some t→∃ q y,u=.ref q∧H q=some (.tup [.int t,y])
 | [],_=>⟨[],rfl,λi u t h=>by cases h⟩
 | u::ps,h=>by
  obtain⟨ks,l,r⟩:=lX λu m=>h u (Dt _ m);obtain⟨q,a,b,rfl,hq⟩:=h u DA;refine⟨a::ks,by rw[Dx,Dx,l],λi u t h1 h2=>?_⟩;cases i with
  | zero=>cases h1;cases h2;exact⟨q,_,rfl,hq⟩
  | succ i=>exact r i u t h1 h2
theorem sN{ks:List Int}(h:ks.length≤1):nX ks=true:=by
 unfold nX;rw[show ks.length-1=0 by omega];rfl
def nZ:Sp:=λvs H Q _=>∃ c:Int,vs=[.int c]∧∀ H',aA H H'→Q (.bl true) H'
abbrev ic:List Str:=["cell", "pairs", "due", "k", "found"]
theorem cv:aO ic ["cell"] (ar dX):=⟨rfl,rfl,rfl,by decide +kernel,rfl,by decide +kernel,by decide +kernel⟩
theorem j2(F:Fun K "_law_lists" "_law_lists" dX D.bp D.dy)(T:Txt K mg D)
  (aD:Ok P w K mg base 1 D.aX D.b5 ["cell", "k"] (ix))
  (bO:Ok P w K mg base 1 D.cz D.d9 ["book"] (p0)):Ok P w K mg base 3 D.bp D.dy ["cell"] (nZ):=by
 refine⟨?_,F.binds (ps:=["cell"]) λ_ _ _ _ _ _ us hl=>match us,hl with|[_],_=>rfl⟩
 refine F.okE cv (λvs H Q E h=>?_) (λcdv A' outer s' H vs Q E hr h=>?_)
 ·obtain⟨c,rfl,_⟩:=h
  rfl
 ·obtain⟨c,rfl,k⟩:=h
  refine⟨_,(PSs.nox (ag (lU (cl:=[("cell",s'.heap.objs.size+1)]) (x := "j") (idx:=[0]) (NC:=["j", "cell"]) (i:=1) cv.nd rfl rfl ?co1 rfl (d7 rfl T.eB (aa (aH cW (pv 0) ah) ae)) (λC fp s₀ H₀=>(b3 (aa (aH pL (aH cW (aE aD.g (hr.mono (by decide)) rfl T.cO T.bK aD.b .nil oz (aa (pv 1) (aa (aH cB ah (pv 0)) ae))) ah) ah) (aa (aH cW (aE aD.g (hr.mono (by decide)) rfl T.cO T.bK aD.b .nil oz (aa (pv 1) (aa (aH cB ah (pv 0)) ae))) ah) ae)))))
   (ag (aU (i:=2) cv.nd rfl (Or.inl rfl) gZ)
   (ag (fP DY rfl (qK rfl T.eB (aa ah (aa (ao aP rfl T.fc PyProof.Rows.Boot.«len» (aa (pv 1) ae)) ae))) (br (i:=3) cv.nd rfl (Or.inl rfl))
    (aq (dD (bF uX (b7 cq (b7 eo (pv 1) (aH pL (pv 3) ah) (λ_ _=>rfl)) ah (λ_ _=>rfl)) (b7 cq (b7 eo (pv 1) (pv 3) (λ_ _=>rfl)) ah (λ_ _=>rfl)) (aZ _))
     (aq (aU (i:=2) cv.nd rfl (Or.inl rfl) gZ))
     bq)))
   (ag (aU (i:=4) cv.nd rfl (Or.inl rfl) (aE bO.g (hr.mono (by decide)) rfl T.gJ T.ed bO.b .nil bZ (aa (iG hZ rfl T.ik PyProof.Rows.Boot.«list» (aa (pv 1) ae)) ae)))
   (ag (dD (PW.pt (pw_or (i0 (eR (ao aY rfl T.aj PyProof.Rows.Boot.«isinstance» (aa (pv 4) (aa (eL rfl T.jQ PyProof.Rows.Boot.«bool») ae))))) (pw_or1 (bF tF (pv 4) (pv 2) (aZ _)))))
    (aq (aT gZ))
    bq)
   (aq (aT (fO (da qv (aE bO.g (hr.mono (by decide)) rfl T.gJ T.ed bO.b .nil bZ (aa (fi gQ (ao kJ rfl T.gz PyProof.Rows.Boot.«sorted» (aa (pv 1) ae)) gO (gP ah)) ae)) gZ (aZ _)) (ig (da qv (aE bO.g (hr.mono (by decide)) rfl T.gJ T.ed bO.b .nil bZ (aa (dW ae) ae)) gZ (aZ _)))))))))))),?_⟩
  case co1 =>
   exact fN (sc:=ar dX) (N:=ic) (ns:=["cell"]) rfl rfl rfl (by decide +kernel) rfl rfl (by
    intro q hq;rw[De.mp hq];rfl)
  have c0:=DZ c (show(5:Int)≠0 by decide);have c5:=DS c (show(0:Int)<5 by decide);refine⟨_,rfl,c,5,rfl,rfl,(by show(0:Int)<5;decide),_,rfl,by omega,by omega,λL hL=>?_⟩;refine ez (lo:=0) (n:=(c%5).toNat) (λi ys Hc=>aA H Hc∧Hc L=some (.lst ys)∧ys.length=i∧∀ u∈ys,PrV Hc u) ⟨aA.upd hL,af,rfl,(λu m=>nomatch m)⟩ (λi ys Hc _ ⟨_,z,e,_⟩=>⟨z,e⟩) (eW (by omega)) (λi ys Hc hi ⟨sc,z,e,hp⟩=>?_) (λys H1 ⟨s1,z1,e,hp⟩=>?_)
  ·refine⟨_,rfl,_,rfl,20,_,rfl,rfl,c,20+(0+(i:Int)),rfl,by omega,by omega,λr r0 r1=>⟨r,9,rfl,rfl,(by show(0:Int)<9;decide),_,1,rfl,rfl,?_⟩⟩
   refine⟨_,rfl,_,rfl,30,_,rfl,rfl,c,30+(0+(i:Int)),rfl,by omega,by omega,λr' r0' r1'=>⟨r',50,rfl,rfl,(by show(0:Int)<50;decide),by show 2≤sizeLine;decide,λq hq=>?_⟩⟩;have s3:=aA.upd (o:=.tup [V.int (r%9-1),V.int (r' % 50)]) hq;have z3:=s3 _ _ z;refine⟨z3,λb u y=>by rw[ak (ai y hL)];exact s3 _ _ (sc b u y),af,by rw[Dn,e];rfl,λu m=>?_⟩;rcases Dz.mp m with m|m
   ·obtain⟨q',a,b,e1,e2⟩:=hp u m
    exact⟨q',a,b,e1,by rw[ak (ee (s3 _ _ e2) z3 (by intro y;cases y))];exact s3 _ _ e2⟩
   ·rw[De.mp m]
    exact⟨q,_,_,rfl,by rw[ak (ee (aF s3) z3 (by intro y;cases y))];exact aF s3⟩
  ·obtain⟨ks,le,hk⟩:=lX hp
   have l4:ys.length≤4:=(by omega);have PSx:∀ {i:Nat},i<ks.length→∃ q y,ys[i]?=some (.ref q)∧H1 q=some (.tup [.int (ks.getD i 0),y]):=λ{i} h=>by
    have h1:ys[i]?=some (ys[i]'(by omega)):=C8 _;have h2:ks[i]?=some ks[i]:=C8 h;obtain⟨q,y,e1,e2⟩:=hk i _ _ h1 h2;rw[e1]at h1;exact⟨q,y,h1,by rw[DC,h2];exact e2⟩
   refine⟨_,rfl,L,_,rfl,.inl (SqL.of z1),1,_,rfl,⟨by decide,by decide,by omega,by omega⟩,km (lo:=1) (n:=((ys.length:Int)-1).toNat) (λi σ Hx=>∃ v3,σ=[some (.int c),some (.ref L),some (.bl ((List.range i).all λj=>decide (ks.getD j 0<ks.getD (j+1) 0))),v3,none]∧Hx=H1) ⟨none,rfl,rfl⟩ ?_ ?_⟩
   ·rintro i σ Hx hi ⟨v3,rfl,rfl⟩
    obtain⟨q1,y1,p1,g1⟩:=PSx (show i<ks.length by omega);obtain⟨q2,y2,p2,g2⟩:=PSx (show i+1<ks.length by omega);refine⟨_,rfl,_,rfl,_,1,rfl,rfl,L,ys,_,.ref q1,rfl,rfl,SqL.of z1,fV (by omega) (by rw[show(1+(i:Int)-1).toNat=i by omega];exact p1),q1,_,0,.int (ks.getD i 0),rfl,rfl,SqT.of g1,rfl,_,rfl,_,rfl,L,ys,_,.ref q2,rfl,rfl,SqL.of z1,fV (by omega) (by rw[show(1+(i:Int)).toNat=i+1 by omega];exact p2),q2,_,0,.int (ks.getD (i+1) 0),rfl,rfl,SqT.of g2,rfl,_,_,rfl,rfl,_,rfl,?_⟩;rw[List.range_succ,List.all_append];by_cases h:ks.getD i 0<ks.getD (i+1) 0
    ·refine fG (decide_eq_false (by omega)) ⟨some (.int (1+(i:Int))),?_,rfl⟩
     have e9:([i].all λj=>decide (ks.getD j 0<ks.getD (j+1) 0))=true:=(by simp only[Es,List.all_nil,EA];exact decide_eq_true h);rw[e9,EA];rfl
    ·refine kh (decide_eq_true (by omega)) ⟨some (.int (1+(i:Int))),?_,rfl⟩
     have e9:([i].all λj=>decide (ks.getD j 0<ks.getD (j+1) 0))=false:=(by simp only[Es,List.all_nil,EA];exact decide_eq_false h);rw[e9,Ed];rfl
   ·rintro σ Hx ⟨v3,rfl,rfl⟩
    rw[show((ys.length:Int)-1).toNat=ks.length-1 by omega];refine⟨_,rfl,L,_,rfl,.inl (SqL.of z1),λp2 hp2=>?_⟩;have s2:=aA.upd (o:=.lst ys) hp2;refine⟨p2,ys,ks,rfl,af,le,by omega,λi u t h1 h2=>(by obtain⟨q,y,e1,e2⟩:=hk i u t h1 h2;exact⟨q,y,e1,s2 _ _ e2⟩),λH3 s3=>?_⟩;refine aN (x:=.bl (nX ks)) (t:=.type "bool") (b:=true) rfl (.of (.bl _)) rfl ⟨_,rfl,sV ?_⟩;refine⟨_,rfl,_,rfl,rfl,_,rfl,fG (by unfold nX;simp) ?_⟩;have S3:=s2.trans s3;refine⟨_,rfl,L,ys,rfl,SqL.of (S3 _ _ z1),l4,λu m=>(by obtain⟨q,a,b,e1,e2⟩:=hp u m;exact⟨q,a,b,e1,S3 _ _ e2⟩),λl ps' hl lp mp=>?_⟩;have s4:=aA.upd (o:=.lst ps') hl;refine⟨1,rfl,l,_,rfl,SqL.of af,λp5 hp5=>?_⟩;have s5:=aA.upd (o:=.lst (jk ps' none (some 1))) hp5;have S5:=(S3.trans s4).trans s5;have mc:∀ u∈jk ps' none (some 1),u∈ps':=λu m=>by unfold jk at m;exact List.mem_of_mem_drop (Er m)
    obtain⟨ks2,le2,hk2⟩:=lX (H:=upd (upd H3 l (.lst ps')) p5 (.lst (jk ps' none (some 1)))) (ps:=jk ps' none (some 1)) λu m=>by
     obtain⟨q,a,b,e1,e2⟩:=hp u (mp u (mc u m));exact⟨q,a,b,e1,S5 _ _ e2⟩
    have lc:(jk ps' none (some 1)).length≤1:=by
     unfold jk;rw[DD,show HT.sIx ps'.length ps'.length (some 1)=min 1 ps'.length from HT.tZ _ _ 1];omega
    refine⟨p5,_,ks2,rfl,af,le2,by omega,hk2,λH6 s6=>⟨true,rfl,rfl,?_⟩⟩;rw[sN (ks:=ks2) (by omega),decide_eq_true (show(V.bl true)=.bl true from rfl)];refine⟨_,rfl,iB ⟨by show 0≤sizeLine;decide,λp7 hp7=>?_⟩⟩;have s7:=aA.upd (o:=.lst ([]:List V)) hp7;refine⟨p7,[],[],rfl,af,rfl,by decide,(λi u t h=>by cases h),λH8 s8=>⟨true,rfl,rfl,?_⟩⟩;rw[show nX []=true from rfl,decide_eq_true (show(V.bl true)=.bl true from rfl)];exact k _ (((s1.trans S5).trans s6).trans (s7.trans s8))
theorem dS{ws:List Mw}{a:Nat}{t:Int}{us:List Mw}(h:a+1+us.length≤ws.length)(j:Nat):(layW ws a t us)[j]?=if j=a then some (.hd t us.length) else if a+1≤j∧j<a+1+us.length then us[j-(a+1)]? else ws[j]?:=by
 unfold layW;rw[sL _ _ _ _ (by rw[Dy];exact h)];by_cases e:j=a
 ·subst e
  rw[if_pos rfl,if_neg (by omega),DL (by omega)]
 ·rw[if_neg e,Du (DH e)]
theorem Gm.of{ws:List Mw}(h1:∀(j:Nat) (t n:Int),ws[j]?=some (.hd t n)→0≤n∧n≤1000)(h2:∀(j:Nat) (a n:Int),ws[j]?=some (.mv a n)→Sm a):Gm ws :=
 ⟨λt n m=>by obtain⟨j,e⟩:=List.mem_iff_getElem?.mp m;exact h1 j t n e,λt n m=>by obtain⟨j,e⟩:=List.mem_iff_getElem?.mp m;exact h2 j t n e⟩
theorem Gm.hdj{ws:List Mw}(g:Gm ws){j:Nat}{t n:Int}(e:ws[j]?=some (.hd t n)):0≤n∧n≤1000:=g.hd t n (Dr e)
theorem Gm.mvj{ws:List Mw}(g:Gm ws){j:Nat}{t n:Int}(e:ws[j]?=some (.mv t n)):Sm t:=g.mv t n (Dr e)
def Plain(us:List Mw):Prop:=∀ u∈us,(∀ t n,u≠.hd t n)∧∀ b n,u≠.mv b n
theorem Gm.lay{ws:List Mw}(g:Gm ws){a:Nat}{t:Int}{us:List Mw}(h:a+1+us.length≤ws.length)(p:Plain us)(l:us.length≤1000):Gm (layW ws a t us):=by
 refine Gm.of (λj t' n e=>?_) (λj b n e=>?_)
 ·rw[dS h]at e
  split at e
  ·cases e;omega
  ·split at e
   ·exact absurd rfl ((p _ (Dr e)).1 t' n)
   ·exact g.hdj e
 ·rw[dS h]at e
  split at e
  ·cases e
  ·split at e
   ·exact absurd rfl ((p _ (Dr e)).2 b n)
   ·exact g.mvj e
theorem Gm.set{ws:List Mw}(g:Gm ws){i:Nat}{w:Mw}(h1:∀ t n,w=.hd t n→0≤n∧n≤1000)(h2:∀ b n,w=.mv b n→Sm b):Gm (ws.set i w):=by
 refine Gm.of (λj t n e=>?_) (λj b n e=>?_)
 ·by_cases c:i=j
  ·subst c
   rw[En]at e;simp only[if_true]at e;split at e
   ·cases e;exact h1 t n rfl
   ·cases e
  ·rw[Du c]at e;exact g.hdj e
 ·by_cases c:i=j
  ·subst c
   rw[En]at e;simp only[if_true]at e;split at e
   ·cases e;exact h2 b n rfl
   ·cases e
  ·rw[Du c]at e;exact g.mvj e
def gB(g:Int→Int)(t b:Int):Int→Int:=λu=>if u=t then b else g u
theorem Dg.upd{kvs:List (Key×V)}{ms:List Int}{g:Int→Int}(d:Dg kvs ms g){t b:Int}:∃ ms',Dg (putK kvs (Sum.inl t) (.int b)) ms' (gB g t b)∧(∀ u,u∈ms'↔u∈ms∨u=t)∧ms'.length≤ms.length+1∧(t∈ms→ms'=ms):=by
 have ev:(V.int b)=.int (gB g t b t):=by unfold gB;rw[if_pos rfl]
 by_cases c:t∈ms
 ·refine⟨ms,⟨kD d.k c,d.n,λu m=>?_⟩,λu=>⟨.inl,λz=>z.elim id λe=>by rw[e];exact c⟩,Em _,λ_=>rfl⟩
  rw[fj];by_cases e:u=t
  ·subst e;rw[if_pos rfl,ev]
  ·rw[if_neg (λz=>e (Sum.inl.inj z))];unfold gB;rw[if_neg e];exact d.v u m
 ·refine⟨ms++[t],⟨?_,?_,λu m=>?_⟩,λu=>by rw[Dz,De],by rw[Dn];exact Dk _,λz=>absurd z c⟩
  ·rw[nE _ (d.k.non c)]
   have:=d.k
   unfold Kys at this ⊢;rw[DR,DR,this];rfl
  ·rw[List.nodup_append]
   exact⟨d.n,by simp,λa ha b hb=>by rw[De.mp hb];exact λe=>c (by rw[←e];exact ha)⟩
  ·rw[fj]
   by_cases e:u=t
   ·subst e;rw[if_pos rfl,ev]
   ·rw[if_neg (λz=>e (Sum.inl.inj z))];unfold gB;rw[if_neg e];exact d.v u ((Dz.mp m).resolve_right λz=>e (De.mp z))
abbrev Rg(a:Int)(i:Nat)(b:Int):Prop:=0≤b∧(b<a∨(75≤b∧b<75+5*i))
structure Ly(ws:List Mw)(ls:List (Int×Int))(ms:List Int)(g:Int→Int)(c1 a:Int)(i:Nat):Prop where
 len:ws.length=150
 gm:Gm ws
 a0:0≤a
 a1:a≤3+5*i
 lm:∀ t∈ms,∃ j:Nat,j<i∧t=(j*37+c1)%41
 ld:∀ p∈ls,p.1∈ms∧Rg a i p.2∧((∃ n:Int,ws[p.2.toNat]?=some (.hd p.1 n)∧g p.1=p.2∧p.2+n<150)∨(∃ n:Int,ws[p.2.toNat]?=some (.mv (g p.1) n)∧Rg a i (g p.1)∧ws[(g p.1).toNat]?=some (.hd p.1 n)∧g p.1+n<150))
 no:∀ j:Nat,75+5*i≤j→j<150→ws[j]?=some .no
theorem Ly.keep{ws ws':List Mw}{ls:List (Int×Int)}{ms ms':List Int}{g g':Int→Int}{c1 a a':Int}{i:Nat}(L:Ly ws ls ms g c1 a i)(hi:i<14)(ha:a≤a')(he:∀ b:Int,Rg a i b→ws'[b.toNat]?=ws[b.toNat]?)(hm:∀ t∈ms,t∈ms')(hg:∀ t∈ms,g' t=g t) :
  ∀ p∈ls,p.1∈ms'∧Rg a' (i+1) p.2∧((∃ n:Int,ws'[p.2.toNat]?=some (.hd p.1 n)∧g' p.1=p.2∧p.2+n<150)∨(∃ n:Int,ws'[p.2.toNat]?=some (.mv (g' p.1) n)∧Rg a' (i+1) (g' p.1)∧ws'[(g' p.1).toNat]?=some (.hd p.1 n)∧g' p.1+n<150)):=λp mp=>by
 obtain⟨h1,h2,h3⟩:=L.ld p mp;have up:∀ {b:Int},Rg a i b→Rg a' (i+1) b:=λ{b} r=>⟨r.1,by have:=r.2;omega⟩;refine⟨hm _ h1,up h2,?_⟩;rw[hg _ h1];rcases h3 with⟨n,e1,e2,e3⟩|⟨n,e1,e2,e3,e4⟩
 ·exact .inl ⟨n,by rw[he _ h2];exact e1,e2,e3⟩
 ·exact .inr ⟨n,by rw[he _ h2];exact e1,up e2,by rw[he _ e2];exact e3,e4⟩
theorem Ly.new{ws:List Mw}{ls:List (Int×Int)}{ms:List Int}{g:Int→Int}{c1 a:Int}{i:Nat}(L:Ly ws ls ms g c1 a i)(hi:i<14):((i:Int)*37+c1)%41∉ms:=λm=>by
 obtain⟨j,hj,e⟩:=L.lm _ m;omega
theorem Ly.Bi{ws:List Mw}{ls:List (Int×Int)}{ms ms':List Int}{g:Int→Int}{c1 a:Int}{i:Nat}(L:Ly ws ls ms g c1 a i)(hi:i<14){us:List Mw}(h4:us.length≤4)(p:Plain us)(hm:∀ u,u∈ms'↔u∈ms∨u=((i:Int)*37+c1)%41) :
  Ly (layW ws a.toNat (((i:Int)*37+c1)%41) us) (ls++[(((i:Int)*37+c1)%41,a)]) ms' (gB g (((i:Int)*37+c1)%41) a) c1 (a+us.length+1) (i+1):=by
 have l:=L.len;have a0:=L.a0;have a1:=L.a1;have nw:=L.new hi;generalize et:((i:Int)*37+c1)%41=t at hm nw ⊢;have fit:a.toNat+1+us.length≤ws.length:=by omega
 refine⟨by rw[gA];exact l,L.gm.lay fit p (by omega),by omega,by omega,λu m=>?_,λq mq=>?_,λj h1 h2=>?_⟩
 ·rcases(hm u).mp m with m|e
  ·obtain⟨j,hj,e⟩:=L.lm u m;exact⟨j,by omega,e⟩
  ·exact⟨i,by omega,by rw[e,←et]⟩
 ·rcases Dz.mp mq with mq|mq
  ·refine L.keep hi (by omega) (λb r=>?_) (λu m=>(hm u).mpr (.inl m)) (λu m=>?_) q mq
   ·rw[dS fit,if_neg (by have:=r.1;have:=r.2;omega),if_neg (by have:=r.1;have:=r.2;omega)]
   ·unfold gB;rw[if_neg (λe=>nw (by rw[←e];exact m))]
  ·rw[De.mp mq]
   refine⟨(hm t).mpr (.inr rfl),⟨a0,by omega⟩,.inl ⟨us.length,by rw[dS fit,if_pos rfl],by unfold gB;rw[if_pos rfl],by show a+(us.length:Int)<150;omega⟩⟩
 ·rw[dS fit,if_neg (by omega),if_neg (by omega)]
  exact L.no j (by omega) h2
theorem Ly.Bj{ws:List Mw}{ls:List (Int×Int)}{ms ms':List Int}{g:Int→Int}{c1 a:Int}{i:Nat}(L:Ly ws ls ms g c1 a i)(hi:i<14){us:List Mw}(h4:us.length≤4)(p:Plain us)(hm:∀ u,u∈ms'↔u∈ms∨u=((i:Int)*37+c1)%41) :
  thg (layW ws a.toNat (((i:Int)*37+c1)%41) us) a=some (((i:Int)*37+c1)%41,(us.length:Int))∧fW (layW ws a.toNat (((i:Int)*37+c1)%41) us) a.toNat us.length=us ∧
  Ly ((layW (layW ws a.toNat (((i:Int)*37+c1)%41) us) (75+5*(i:Int)).toNat (((i:Int)*37+c1)%41) us).set a.toNat (.mv (75+5*(i:Int)) us.length)) (ls++[(((i:Int)*37+c1)%41,a)]++[(((i:Int)*37+c1)%41,75+5*(i:Int))]) ms' (gB g (((i:Int)*37+c1)%41) (75+5*(i:Int))) c1 (a+us.length+1) (i+1):=by
 have l:=L.len;have a0:=L.a0;have a1:=L.a1;have nw:=L.new hi;generalize et:((i:Int)*37+c1)%41=t at hm nw ⊢;have fit:a.toNat+1+us.length≤ws.length:=by omega
 have l1:(layW ws a.toNat t us).length=150:=by rw[gA];exact l
 have B0:(75+5*(i:Int)).toNat+1+us.length≤(layW ws a.toNat t us).length:=by omega
 have l2:(layW (layW ws a.toNat t us) (75+5*(i:Int)).toNat t us).length=150:=by rw[gA];exact l1
 have at2:∀ j:Nat,j≠a.toNat→((layW (layW ws a.toNat t us) (75+5*(i:Int)).toNat t us).set a.toNat (.mv (75+5*(i:Int)) us.length))[j]?=if j=(75+5*(i:Int)).toNat then some (.hd t us.length) else if(75+5*(i:Int)).toNat+1≤j∧j<(75+5*(i:Int)).toNat+1+us.length then us[j-((75+5*(i:Int)).toNat+1)]? else(layW ws a.toNat t us)[j]?:=λj h=>by
  rw[Du (DH h),dS B0]
 refine⟨?_,?_,by rw[Dy];exact l2,((L.gm.lay fit p (by omega)).lay B0 p (by omega)).set (λ_ _ e=>by cases e) (λb n e=>by cases e;exact Sm.of (by omega) (by omega)),by omega,by omega,λu m=>?_,λq mq=>?_,λj h1 h2=>?_⟩
 ·unfold thg
  rw[if_pos a0,dS fit,if_pos rfl];show(if a+(us.length:Int)<((layW ws a.toNat t us).length:Int) then _ else _)=_;rw[if_pos (by rw[l1];omega)]
 ·unfold fW
  refine List.ext_getElem? λj=>?_;rw[Ez,El,dS fit];by_cases c:j<us.length
  ·rw[if_pos c,if_neg (by omega),if_pos (by omega),show a.toNat+1+j-(a.toNat+1)=j by omega]
  ·rw[if_neg c,Ee.mpr (by omega)]
 ·rcases(hm u).mp m with m|e
  ·obtain⟨j,hj,e⟩:=L.lm u m;exact⟨j,by omega,e⟩
  ·exact⟨i,by omega,by rw[e,←et]⟩
 ·rcases Dz.mp mq with mq|mq
  ·rcases Dz.mp mq with mq|mq
   ·refine L.keep hi (by omega) (λb r=>?_) (λu m=>(hm u).mpr (.inl m)) (λu m=>?_) q mq
    ·have r1:=r.1
     have r2:=r.2;rw[at2 _ (by omega),if_neg (by omega),if_neg (by omega),dS fit,if_neg (by omega),if_neg (by omega)]
    ·unfold gB;rw[if_neg (λe=>nw (by rw[←e];exact m))]
   ·rw[De.mp mq]
    have eg:gB g t (75+5*(i:Int)) t=75+5*(i:Int):=(by unfold gB;rw[if_pos rfl]);refine⟨(hm t).mpr (.inr rfl),⟨a0,by omega⟩,.inr ⟨us.length,?_,?_,?_,?_⟩⟩
    ·show _=some (Mw.mv (gB g t (75+5*(i:Int)) t) us.length)
     rw[eg,DL (by omega)]
    ·show Rg _ _ (gB g t (75+5*(i:Int)) t)
     rw[eg];exact⟨by omega,by omega⟩
    ·show _[(gB g t (75+5*(i:Int)) t).toNat]?=_
     rw[eg,at2 _ (by omega),if_pos rfl]
    ·show gB g t (75+5*(i:Int)) t+_<150
     rw[eg];omega
  ·rw[De.mp mq]
   refine⟨(hm t).mpr (.inr rfl),⟨by show 0≤75+5*(i:Int);omega,by show 75+5*(i:Int)<_∨_;omega⟩,.inl ⟨us.length,?_,by unfold gB;rw[if_pos rfl],by show 75+5*(i:Int)+(us.length:Int)<150;omega⟩⟩;show _[(75+5*(i:Int)).toNat]?=_;rw[at2 _ (by omega),if_pos rfl]
 ·rw[at2 _ (by omega),if_neg (by omega),if_neg (by omega),dS fit,if_neg (by omega),if_neg (by omega)]
  exact L.no j (by omega) h2
structure Lw(ws:List Mw)(ls:List (Int×Int))(ms:List Int)(g:Int→Int):Prop where
 gm:Gm ws
 ld:∀ p∈ls,p.1∈ms∧Ld ws p.2 (some (p.1,g p.1))∧0≤p.2∧p.2<150
 bad:∀ x∈([149,-1,150,10 ^ 30,145,146,147]:List Int),Ld ws x none
 m41:∀ t∈ms,0≤t∧t<41
theorem Ly.last{ws:List Mw}{ls:List (Int×Int)}{ms:List Int}{g:Int→Int}{c1 a:Int}{i:Nat}(L:Ly ws ls ms g c1 a i)(hi:i≤14):Lw (((ws.set 145 (.mv 149 0)).set 146 (.mv 200 0)).set 147 (.mv 145 2)) ls ms g:=by
 have l:=L.len;have a1:=L.a1;have at_:∀ j:Nat,j≠145→j≠146→j≠147→(((ws.set 145 (.mv 149 0)).set 146 (.mv 200 0)).set 147 (.mv 145 2))[j]?=ws[j]?:=λj h1 h2 h3=>by
  rw[Du (DH h3),Du (DH h2),Du (DH h1)]
 have B2:(((ws.set 145 (.mv 149 0)).set 146 (.mv 200 0)).set 147 (.mv 145 2))[145]?=some (.mv 149 0):=by
  rw[Du (by decide),Du (by decide),DL (by omega)]
 have CZ:(((ws.set 145 (.mv 149 0)).set 146 (.mv 200 0)).set 147 (.mv 145 2))[146]?=some (.mv 200 0):=by
  rw[Du (by decide),DL (by rw[Dy];omega)]
 have C0:(((ws.set 145 (.mv 149 0)).set 146 (.mv 200 0)).set 147 (.mv 145 2))[147]?=some (.mv 145 2):=by
  rw[DL (by rw[Dy,Dy];omega)]
 have B3:(((ws.set 145 (.mv 149 0)).set 146 (.mv 200 0)).set 147 (.mv 145 2))[149]?=some .no:=by
  rw[at_ 149 (by decide) (by decide) (by decide)];exact L.no 149 (by omega) (by decide)
 have lf:(((ws.set 145 (.mv 149 0)).set 146 (.mv 200 0)).set 147 (.mv 145 2)).length=150:=by rw[Dy,Dy,Dy];exact l
 have gm:Gm (((ws.set 145 (.mv 149 0)).set 146 (.mv 200 0)).set 147 (.mv 145 2)):=((L.gm.set (λ_ _ e=>by cases e) (λb n e=>by cases e;exact Sm.of (by decide) (by decide))).set (λ_ _ e=>by cases e) (λb n e=>by cases e;exact Sm.of (by decide) (by decide))).set (λ_ _ e=>by cases e) (λb n e=>by cases e;exact Sm.of (by decide) (by decide));generalize ((ws.set 145 (.mv 149 0)).set 146 (.mv 200 0)).set 147 (.mv 145 2)=wf at *;have AE:Rv wf 0 149 (some 149):=.stop (by decide) B3 (λb n e=>by cases e);have C1:thg wf 149=none:=by
  unfold thg;rw[if_pos (by decide),show(149:Int).toNat=149 from rfl,B3]
 have AF:∀ {j:Nat} {x:Int},Rv wf j x (some 149)→Ld wf x none:=λ{j x} r=>⟨j,some 149,r,by show(match thg wf 149 with|some (t,_)=>_|none=>_);rw[C1]⟩
 have out:∀ {x:Int},¬(0≤x∧x<150)→Ld wf x none:=λ{x} h=>⟨0,none,.out (by rw[lf];exact h),rfl⟩;refine⟨gm,λp mp=>?_,λx mx=>?_,λt m=>?_⟩
 ·obtain⟨h1,h2,h3⟩:=L.ld p mp
  have r1:=h2.1;have r2:=h2.2;refine⟨h1,?_,by omega,by omega⟩;rcases h3 with⟨n,e1,e2,e3⟩|⟨n,e1,e2,e3,e4⟩
  ·have e1':wf[p.2.toNat]?=some (.hd p.1 n):=by rw[at_ _ (by omega) (by omega) (by omega)];exact e1
   refine⟨0,some p.2,.stop r1 e1' (λb n e=>by cases e),?_⟩;show(match thg wf p.2 with|some (t,_)=>_|none=>_)
   rw[show thg wf p.2=some (p.1,n) by unfold thg;rw[if_pos r1,e1'];exact if_pos (by rw[lf];exact e3)];show some (p.1,g p.1)=some (p.1,p.2);rw[e2]
  ·have q1:=e2.1
   have q2:=e2.2;have e1':wf[p.2.toNat]?=some (.mv (g p.1) n):=(by rw[at_ _ (by omega) (by omega) (by omega)];exact e1);have e3':wf[(g p.1).toNat]?=some (.hd p.1 n):=(by rw[at_ _ (by omega) (by omega) (by omega)];exact e3);refine⟨1,some (g p.1),.step r1 e1' (.stop q1 e3' (λb n e=>by cases e)),?_⟩;show(match thg wf (g p.1) with|some (t,_)=>_|none=>_)
   rw[show thg wf (g p.1)=some (p.1,n) by unfold thg;rw[if_pos q1,e3'];exact if_pos (by rw[lf];exact e4)]
 ·simp only[Ds,EB,or_false]at mx
  rcases mx with rfl|rfl|rfl|rfl|rfl|rfl|rfl
  ·exact AF AE
  ·exact out (by decide)
  ·exact out (by decide)
  ·exact out (by decide)
  ·exact AF (.step (by decide) B2 AE)
  ·exact⟨1,none,.step (by decide) CZ (.out (by rw[lf];decide)),rfl⟩
  ·exact AF (.step (by decide) C0 (.step (by decide) B2 AE))
 ·obtain⟨j,_,e⟩:=L.lm t m
  rw[e];exact⟨DZ _ (by decide),DS _ (by decide)⟩
def PL(H:Hp)(ps:List V)(ls:List (Int×Int)):Prop:=ps.length=ls.length∧∀(j:Nat) (u:V) (p:Int×Int),ps[j]?=some u→ls[j]?=some p→∃ q,u=.ref q∧H q=some (.tup [.int p.1,.int p.2])
theorem PL.keep{H H':Hp}{ps:List V}{ls:List (Int×Int)}(p:PL H ps ls)(s:cV H H'):PL H' ps ls:=⟨p.1,λi u t a b=>by obtain⟨q,e,h⟩:=p.2 i u t a b;exact⟨q,e,s _ _ h⟩⟩
theorem PL.snoc{H:Hp}{ps:List V}{ls:List (Int×Int)}(p:PL H ps ls){q:Addr}{t a:Int}(h:H q=some (.tup [.int t,.int a])):PL H (ps++[.ref q]) (ls++[(t,a)]):=by
 refine⟨by rw[Dn,Dn,p.1];rfl,λj u x h1 h2=>?_⟩;rcases EF j ps.length with c|c
 ·rw[DJ c]at h1
  rw[DJ (by rw[←p.1];exact c)]at h2;exact p.2 j u x h1 h2
 ·have ej:j=ps.length:=by have:=(Dd.mp h1).1;rw[Dn,D3]at this;omega
  rw[ej,DI (Dk _),Ey]at h1;rw[ej,p.1,DI (Dk _),Ey]at h2;cases h1;cases h2;exact⟨q,rfl,h⟩
theorem iy(ns:List Int)(lo hi:Option Int):∃ cs:List Int,jk (ns.map V.int) lo hi=cs.map V.int∧cs.length≤ns.length∧(∀ c∈cs,c∈ns)∧∀ m,hi=some m→0≤m→cs.length≤m.toNat:=by
 refine⟨(ns.drop (HT.sIx ns.length 0 lo)).take (HT.sIx ns.length ns.length hi-HT.sIx ns.length 0 lo),?_,?_,λc hc=>List.mem_of_mem_drop (Er hc),λm e m0=>?_⟩
 ·unfold jk
  rw[Dl,List.map_take,List.map_drop]
 ·rw[DD,D7]
  omega
 ·subst e
  rw[DD]
  have:HT.sIx ns.length ns.length (some m)≤m.toNat:=by
   show(if m<0 then(m+(ns.length:Int)).toNat else min m.toNat ns.length)≤_;rw[if_neg (by omega)];omega
  omega
theorem C2{x0 x1 x2 x3:V}:∀ {n:Nat},n<5→jk [x0,x1,x2,x3] none (some (n:Int))=[x0,x1,x2,x3].take n
 | 0,_=>rfl
 | 1,_=>rfl
 | 2,_=>rfl
 | 3,_=>rfl
 | 4,_=>rfl
 | n+5,h=>absurd h (by omega)
theorem Mm.uo{D:Ad}{H:Hp}{m mx c b:Addr}{xs:List V}{ws:List Mw}{o:HO}(M:Mm D H m mx c xs ws)(hb:b≠c)(hm:b≠m)(tu:cV H (upd H b o)):Mm D (upd H b o) m mx c xs ws:=⟨by rw[ak (DH hm)];exact M.i,by rw[ak (DH hb)];exact M.l,M.r.keep tu,M.z⟩
theorem cV.xg{H:Hp}{c:Addr}{xs:List (Key×V)}{o:HO}(h:H c=some (.dK xs)):cV H (upd H c o):=λt us q=>by
 rw[ak (ee q h (by intro z;cases z))];exact q
theorem Ly.zero{c1 a:Int}(a0:0≤a)(a1:a≤3):Ly (List.replicate 150 .no) [] [] (λ_=>0) c1 a 0:=by
 have at_:∀(j:Nat) (w:Mw),(List.replicate 150 Mw.no)[j]?=some w→w=.no:=λj w e=>by
  rw[D6]at e;split at e
  ·cases e;rfl
  ·cases e
 exact⟨DU,Gm.of (λj t n e=>by cases at_ j _ e) (λj t n e=>by cases at_ j _ e),a0,by omega,(λt m=>nomatch m),(λt m=>nomatch m),λj _ h=>by rw[D6,if_pos h]⟩
theorem MR.four{H:Hp}{q1 q2:Addr}{a:Int}(h1:H q1=some (.tup [.str "number",.int 4]))(h2:H q2=some (.tup [.str "at",.int a])){n:Nat}(hn:n<5):MR H ([V.non,.ref q1,.ref q2,.non].take n) ([Mw.no,.num 4,.ad a,.no].take n):=by
 refine⟨by rw[DD,DD];rfl,λi v w e1 e2=>?_⟩;rw[Ez]at e1 e2;split at e1
 ·rename_i c
  rw[if_pos c]at e2
  match i,e1,e2 with
  | 0,e1,e2=>cases e1;cases e2;exact .inl ⟨rfl,rfl⟩
  | 1,e1,e2=>cases e1;cases e2;exact .inr ⟨(by intro z;cases z),q1,rfl,h1⟩
  | 2,e1,e2=>cases e1;cases e2;exact .inr ⟨(by intro z;cases z),q2,rfl,h2⟩
  | 3,e1,e2=>cases e1;cases e2;exact .inl ⟨rfl,rfl⟩
  | i+4,e1,_=>cases e1
 ·cases e1
theorem Plain.four{a:Int}{n:Nat}:Plain ([Mw.no,.num 4,.ad a,.no].take n):=λu m=>by
 have m:=Er m;simp only[Ds,EB,or_false]at m;rcases m with rfl|rfl|rfl|rfl<;>exact⟨(λ_ _ z=>by cases z),(λ_ _ z=>by cases z)⟩
def iS(c d l:Addr)(H H':Hp):Prop:=∀ b u,b≠c→b≠d→b≠l→H b=some u→H' b=some u
theorem iS.but{c d l:Addr}{H H1 H2:Hp}(a:iS c d l H H1)(b:But c H1 H2):iS c d l H H2:=λx u h1 h2 h3 q=>b x u h1 (a x u h1 h2 h3 q)
theorem iS.same{c d l:Addr}{H H1 H2:Hp}(a:iS c d l H H1)(b:aA H1 H2):iS c d l H H2:=λx u h1 h2 h3 q=>b _ _ (a x u h1 h2 h3 q)
theorem iS.ud{c d l:Addr}{H H1:Hp}{o:HO}(a:iS c d l H H1):iS c d l H (upd H1 d o):=λx u h1 h2 h3 q=>by rw[ak h2];exact a x u h1 h2 h3 q
theorem iS.ul{c d l:Addr}{H H1:Hp}{o:HO}(a:iS c d l H H1):iS c d l H (upd H1 l o):=λx u h1 h2 h3 q=>by rw[ak h3];exact a x u h1 h2 h3 q
def qD(K:W.Frag)(D:Ad):Sp:=λvs H Q _=>∃ m mx c xs,∃(Hb:Hp) (S:Addr) (ns:List Int),vs=[.ref m,.ref S]∧Mm D H m mx c xs (List.replicate 150 .no)∧SqL K Hb S (ns.map V.int)∧aA Hb H∧Hb c=none∧∀ r d l xs' ws kvs ms g ps ls (a:Int) H',But c H H'→H' r=some (.tup [.ref d,.ref l,.int a])→Mm D H' m mx c xs' ws→Lw ws ls ms g→H' d=some (.dK kvs)→Dg kvs ms g→H' l=some (.lst ps)→PL H' ps ls→0<ls.length→ls.length≤28→a≤74→ms.length≤14→l≠c→H l=none→Q (.ref r) H'
abbrev mV:List Str:=["memory", "script", "where", "leads", "a", "k", "cell", "many", "t"]
theorem a9:aO mV ["memory", "script"] (ar gn):=⟨rfl,rfl,rfl,by decide +kernel,rfl,by decide +kernel,by decide +kernel⟩
theorem kZ(F:Fun K "_law_laid" "_law_laid" gn D.bN D.dM)(T:Txt K mg D)
  (bE:Ok P w K mg base 1 D.bD D.c7 ["script", "k"] (lW K))
  (aD:Ok P w K mg base 1 D.aX D.b5 ["cell", "k"] (ix))
  (jz:Ok P w K mg base 6 D.iw D.mr ["memory", "a", "t", "values"] (pY D))
  (mz:Ok P w K mg base 8 D.fU D.jN ["memory", "a", "b"] (qx D))
  (aC:Ok P w K mg base 4 D.a8 D.b4 ["self", "a", "word"] (jx D)):Ok P w K mg base 9 D.bN D.dM ["memory", "script"] (qD K D):=by
 refine⟨?_,F.binds (ps:=["memory", "script"]) λ_ _ _ _ _ _ us hl=>match us,hl with|[_,_],_=>rfl⟩
 refine F.okE a9 (λvs H Q E h=>?_) (λcdv A' outer s' H vs Q E hr h=>?_)
 ·obtain⟨m,mx,c,xs,Hb,S,ns,rfl,_⟩:=h
  rfl
 ·obtain⟨m,mx,c,xs,Hb,S,ns,rfl,M,hS,sb,hbc,k⟩:=h
  have hu:=rN hr;refine⟨_,(PSs.nox (ag (aU (i:=2) a9.nd rfl (Or.inl rfl) jC)
   (ag (aU (i:=3) a9.nd rfl (Or.inl rfl) (dW ae))
   (ag (aU (i:=4) a9.nd rfl (Or.inl rfl) (aH cW (aE bE.g (hr.mono (by decide)) rfl T.gq T.dN bE.b .nil bZ (aa (pv 1) (aa ah ae))) ah))
   (ag (fP DY rfl (qr rfl T.eN (aa (aH e7 (dW (aa ah ae)) (fi gQ (pv 1) gO (gP ah))) ae)) (jI rfl (cS (br (i:=5) a9.nd rfl (Or.inl rfl)) (cS (br (i:=6) a9.nd rfl (Or.inl rfl)) iA)))
    (ag (aU (i:=6) a9.nd rfl (Or.inl rfl) (aH cW (pv 6) (aH l5 ah ah)))
    (ag (aU (i:=7) a9.nd rfl (Or.inl rfl) (aH cW (aE aD.g (hr.mono (by decide)) rfl T.cO T.bK aD.b .nil bZ (aa (pv 6) (aa (pv 5) ae))) ah))
    (ag (aU (i:=8) a9.nd rfl (Or.inl rfl) (aH cW (aH cB (aH fQ (pv 5) ah) (aE bE.g (hr.mono (by decide)) rfl T.gq T.dN bE.b .nil bZ (aa (pv 1) (aa ah ae)))) ah))
    (ag (bS (aE jz.g (hr.mono (by decide)) rfl T.xa T.rQ jz.b .nil bZ (aa (pv 0) (aa (pv 4) (aa (pv 8) (aa (fi gQ (dW (aa dU (aa (b3 (aa dB (aa ah ae))) (aa (b3 (aa dB (aa (pv 4) ae))) (aa dU ae))))) gO (gP (pv 7))) ae))))))
    (ag (bS (rM PySem.F.plainAttrs_list PySem.F.slot_list_append PySem.F.type_list_append gD (pv 3) (aa (b3 (aa (pv 8) (aa (pv 4) ae))) ae)))
    (ag (jl hu (pv 2) (pv 8) (pv 4) rfl)
    (ag (dD (bF iT (aH cW (pv 6) ah) ah (aZ _))
     (ag (bS (aE mz.g (hr.mono (by decide)) rfl T.x6 T.pV mz.b .nil bZ (aa (pv 0) (aa (pv 4) (aa (aH cB ah (aH fQ ah (pv 5))) ae)))))
     (ag (bS (rM PySem.F.plainAttrs_list PySem.F.slot_list_append PySem.F.type_list_append gD (pv 3) (aa (b3 (aa (pv 8) (aa (aH cB ah (aH fQ ah (pv 5))) ae))) ae)))
     (aq (jl hu (pv 2) (pv 8) (aH cB ah (aH fQ ah (pv 5))) rfl))))
     bq)
    (aq (aU (i:=4) a9.nd rfl (Or.inl rfl) (aH cB (aH cB (pv 4) (pv 7)) ah)))))))))))
   (ag (bS (cY (pv 0) T.aI T.cu aC.g (hr.mono (by decide)) aC.b .nil bZ (aa ah (aa (b3 (aa dB (aa ah (aa ah ae)))) ae))))
   (ag (bS (cY (pv 0) T.aI T.cu aC.g (hr.mono (by decide)) aC.b .nil bZ (aa ah (aa (b3 (aa dB (aa ah (aa ah ae)))) ae))))
   (ag (bS (cY (pv 0) T.aI T.cu aC.g (hr.mono (by decide)) aC.b .nil bZ (aa ah (aa (b3 (aa dB (aa ah (aa ah ae)))) ae))))
   (aq (aT (b3 (aa (pv 2) (aa (pv 3) (aa (pv 4) ae)))))))))))))),?_⟩
  intro d hd;refine⟨by show 0≤sizeLine;decide,λl hl=>?_⟩;obtain⟨cs,ec,cl,cm,cb⟩:=iy ns none (some 13);have cb:=cb 13 rfl (by decide);have s1:=aA.upd (o:=.dK []) hd;have s2:=aA.upd (o:=.lst ([]:List V)) hl;refine⟨_,rfl,S,ns,0,rfl,(sb.trans (s1.trans s2)).seq hS,by decide,_,4,rfl,rfl,(by show(0:Int)<4;decide),by show 1≤sizeLine;decide,λp1 hp1=>?_⟩;have s3:=aA.upd (o:=.lst [V.int 11]) hp1;refine⟨_,rfl,13,rfl,S,_,rfl,(sb.trans ((s1.trans s2).trans s3)).seq hS,λp2 hp2=>?_⟩;rw[ec];have s4:=aA.upd (o:=.lst (cs.map V.int)) hp2;refine⟨p1,p2,_,_,rfl,rfl,SqL.of (s4 _ _ (aF s3)),SqL.of (aF s4),by show 1+(cs.map V.int).length≤sizeLine;rw[Dl];exact eW (by omega),λp3 hp3=>?_⟩;have s5:=aA.upd (o:=.lst ([V.int 11]++cs.map V.int)) hp3;have S5:aA H _:=(s1.trans s2).trans ((s3.trans s4).trans s5);have dl:d≠l:=λe=>by rw[←e,af]at hl;cases hl
  have hl0:H l=none:=aA.none s1 hl;have dc:d≠c:=DH (ai M.l hd);have lc:l≠c:=DH (ai M.l hl0);have pc:p3≠c:=DH (ai (s4 _ _ (s3 _ _ (s2 _ _ (s1 _ _ M.l)))) hp3);have pd:p3≠d:=DH (ai (s4 _ _ (s3 _ _ (s2 _ _ (aF s1)))) hp3);have pl:p3≠l:=DH (ai (s4 _ _ (s3 _ _ (aF s2))) hp3);have zd:=s5 _ _ (s4 _ _ (s3 _ _ (s2 _ _ (aF s1))));have zl:=s5 _ _ (s4 _ _ (s3 _ _ (aF s2)));have z3:=aF s5;have hbd:=aA.none sb hd;have hbl:=aA.none sb hl0;have dm:d≠m:=DH (ai M.i hd);have lm:l≠m:=DH (ai M.i hl0);refine⟨p3,rfl,⟨_,SqL.of z3⟩,?_⟩;rw[show[V.int 11]++cs.map V.int=(11::cs).map V.int from rfl]at z3 S5 zd zl ⊢;generalize upd (upd (upd (upd (upd H d (.dK [])) l (.lst [])) p1 (.lst [V.int 11])) p2 (.lst (cs.map V.int))) p3 (.lst ((11::cs).map V.int))=Hs at z3 S5 zd zl ⊢;have hb5:=sb.trans S5;have g0:=DZ (ns.getD (Int.toNat 0) 0) (show(4:Int)≠0 by decide);have g4:=DS (ns.getD (Int.toNat 0) 0) (show(0:Int)<4 by decide);refine nO (K:=K) (a:=p3) (xs:=(11::cs).map V.int) (λi σ Hx=>∃(a:Int) (v5 v6 v7 v8:Option V) (xs':List V) (ws:List Mw) (kvs:List (Key×V)) (ms:List Int) (g:Int→Int) (ps:List V) (ls:List (Int×Int)),σ=[some (.ref m),some (.ref S),some (.ref d),some (.ref l),some (.int a),v5,v6,v7,v8]∧iS c d l Hs Hx∧Mm D Hx m mx c xs' ws∧Ly ws ls ms g (ns.getD (Int.toNat 1) 0) a i∧Hx d=some (.dK kvs)∧Dg kvs ms g∧ms.length≤i∧Hx l=some (.lst ps)∧PL Hx ps ls∧i≤ls.length∧ls.length≤2*i)
   ⟨_,none,none,none,none,xs,_,[],[],(λ_=>0),[],[],rfl,λb u _ _ _ q=>q,M.same S5,Ly.zero g0 (by omega),zd,Dg.nil,Dk _,zl,⟨rfl,λj u p h=>by cases h⟩,Dk _,Dk _⟩ (λi σ Hx _ ⟨_,_,_,_,_,_,_,_,_,_,_,_,_,b,_⟩=>SqL.of (b p3 _ pc pd pl z3)) ?_ ?_
  ·rintro i v σ Hx tp hi ⟨a,v5,v6,v7,v8,xs',ws,kvs,ms,g,ps,ls,rfl,bx,Mx,Lx,hdx,dg,lms,hlx,plx,l1,l2⟩ htp
   rw[Dw]at hi;obtain⟨zc,hz,rfl⟩:=DG.mp hi;have i14:i<14:=(by have:=(Dd.mp hz).1;rw[Dx]at this;omega);have t1:=aA.upd (o:=.tup [.int (i:Int),.int zc]) htp;refine⟨tp,_,rfl,SqT.of af,rfl,_,_,rfl,_,_,rfl,rfl,?_⟩;have hS1:SqL K (upd Hx tp (.tup [.int (i:Int),.int zc])) S (ns.map V.int):=aA.seq (λb u q=>t1 _ _ (bx b u (ai q hbc) (ai q hbd) (ai q hbl) (hb5 _ _ q))) hS;refine⟨_,rfl,10,60,rfl,rfl,⟨by decide,by decide⟩,zc,_,rfl,rfl,(by show(0:Int)<10 ^ Int.toNat 60;decide +kernel),?_⟩;refine⟨_,rfl,_,rfl,_,i,rfl,by omega,by omega,λr r0 r1=>⟨r,5,rfl,rfl,(by show(0:Int)<5;decide),?_⟩⟩;obtain⟨n,en⟩:∃ n:Nat,r%5=(n:Int):=⟨(r%5).toNat,by omega⟩;have n5:n<5:=(by omega);show gC 7 (V.int (r%5)) _ _ _;rw[en];refine⟨_,rfl,i,37,rfl,rfl,.inr ⟨by decide,by decide⟩,_,rfl,S,ns,1,rfl,hS1,by decide,_,_,rfl,rfl,_,41,rfl,rfl,(by show(0:Int)<41;decide),?_⟩;obtain⟨t,et⟩:∃ t,((i:Int)*37+(ns.getD (Int.toNat 1) 0))%41=t:=⟨_,rfl⟩;show gC 8 (V.int (((i:Int)*37+(ns.getD (Int.toNat 1) 0))%41)) _ _ _;rw[et];refine⟨_,rfl,_,rfl,_,rfl,by show 2≤sizeLine;decide,λq1 hq1=>?_⟩;have t2:=aA.upd (o:=.tup [V.str "number",V.int 4]) hq1;refine⟨_,rfl,by show 2≤sizeLine;decide,λq2 hq2=>?_⟩;have t3:=aA.upd (o:=.tup [V.str "at",V.int a]) hq2;refine⟨by show 4≤sizeLine;decide,λq3 hq3=>?_⟩;have t4:=aA.upd (o:=.lst [V.non,.ref q1,.ref q2,.non]) hq3;refine⟨_,rfl,_,rfl,q3,_,rfl,SqL.of (aF t4),λq4 hq4=>?_⟩;rw[C2 n5];have t5:=aA.upd (o:=.lst ([V.non,.ref q1,.ref q2,.non].take n)) hq4;have T5:=(t1.trans t2).trans ((t3.trans t4).trans t5);have M5:=Mx.same T5;have ul:([Mw.no,.num 4,.ad a,.no].take n).length=n:=(by rw[DD];show min n 4=n;omega);have nw:=Lx.new i14;have len:=Lx.len;have a0:=Lx.a0;have a1:=Lx.a1;refine⟨m,mx,c,xs',ws,a,_,q4,_,[Mw.no,.num 4,.ad a,.no].take n,rfl,M5,af,MR.four (t5 _ _ (t4 _ _ (t3 _ _ (aF t2)))) (t5 _ _ (t4 _ _ (aF t3))) n5,DH (ai ((t1.trans t2).trans (t3.trans t4) _ _ Mx.l) hq4),a0,by rw[ul];omega,λxs6 H6 b6 M6=>?_⟩;have hd6:=b6 d _ dc (T5 _ _ hdx);have hl6:=b6 l _ lc (T5 _ _ hlx);have tu6:cV Hx H6:=λb us q=>b6 b _ (ee (T5 _ _ q) M5.l (by intro z;cases z)) (T5 _ _ q);have bx6:=(bx.same T5).but b6;refine⟨_,rfl,.inl ⟨rfl,_,SqL.of hl6⟩,_,rfl,_,rfl,by show 2≤sizeLine;decide,λq5 hq5=>⟨l,ps,.ref q5,rfl,rfl,(aA.upd hq5) _ _ hl6,gT (by have:=plx.1;omega),?_⟩⟩;have t7:=aA.upd (o:=.tup [.int t,.int a]) hq5;have M7:=(M6.same t7).uo (o:=.lst (ps++[.ref q5])) lc lm (cV.set (t7 _ _ hl6));have u7:cV Hx _:=(tu6.trans (cV.of t7)).trans (cV.set (o:=.lst (ps++[.ref q5])) (t7 _ _ hl6));have p7:PL (upd (upd H6 q5 (.tup [.int t,.int a])) l (.lst (ps++[.ref q5]))) (ps++[.ref q5]) (ls++[(t,a)]):=(plx.keep u7).snoc (by rw[ak (ee (aF t7) (t7 _ _ hl6) (by intro z;cases z))];exact aF t7);have hd7:(upd (upd H6 q5 (.tup [.int t,.int a])) l (.lst (ps++[.ref q5]))) d=some (.dK kvs):=(by rw[ak dl];exact t7 _ _ hd6);have bx7:iS c d l Hs (upd (upd H6 q5 (.tup [.int t,.int a])) l (.lst (ps++[.ref q5]))):=(bx6.same t7).ul;have hl7:(upd (upd H6 q5 (.tup [.int t,.int a])) l (.lst (ps++[.ref q5]))) l=some (.lst (ps++[.ref q5])):=af;generalize upd (upd H6 q5 (.tup [.int t,.int a])) l (.lst (ps++[.ref q5]))=H7 at M7 p7 hd7 bx7 hl7 ⊢;have lk:=dg.k.len;refine⟨_,rfl,_,rfl,_,rfl,d,_,rfl,qj.k (k:=Sum.inl t) hd7 (by rw[lk];exact gT (by omega)),?_⟩;have M8:=M7.uo (o:=.dK (putK kvs (Sum.inl t) (.int a))) dc dm (cV.xg hd7);have p8:=p7.keep (cV.xg (o:=.dK (putK kvs (Sum.inl t) (.int a))) hd7);have hl8:(upd H7 d (.dK (putK kvs (Sum.inl t) (.int a)))) l=some (.lst (ps++[.ref q5])):=(by rw[ak (DH dl)];exact hl7);have hd8:(upd H7 d (.dK (putK kvs (Sum.inl t) (.int a)))) d=some (.dK (putK kvs (Sum.inl t) (.int a))):=af;have bx8:iS c d l Hs (upd H7 d (.dK (putK kvs (Sum.inl t) (.int a)))):=bx7.ud;generalize upd H7 d (.dK (putK kvs (Sum.inl t) (.int a)))=H8 at M8 p8 hl8 hd8 bx8 ⊢;obtain⟨ms',dg',hm',lm',_⟩:=dg.upd (t:=t) (b:=a);refine⟨_,rfl,_,3,rfl,rfl,(by show(0:Int)<3;decide),rfl,_,rfl,g7 (λ_=>?_) (λ_=>?_)⟩
   ·obtain⟨x1,x2,x3⟩:=Lx.Bj i14 (us:=[Mw.no,.num 4,.ad a,.no].take n) (ms':=ms') (by rw[ul];omega) Plain.four (by rw[et];exact hm')
    rw[et,ul]at x1 x2 x3;refine⟨_,rfl,_,rfl,_,rfl,5,_,rfl,rfl,.inl ⟨by decide,by decide⟩,75,_,rfl,rfl,m,mx,c,xs6,_,a,75+5*(i:Int),t,n,rfl,M8,Lx.gm.lay (by omega) Plain.four (by omega),x1,by omega,by rw[gA];omega,λxs9 H9 b9 M9=>?_⟩;rw[Int.toNat_natCast,x2]at M9;have hd9:=b9 d _ dc hd8;have hl9:=b9 l _ lc hl8;have tu9:cV H8 H9:=λb us q=>b9 b _ (ee q M8.l (by intro z;cases z)) q;have bx9:=bx8.but b9;refine⟨_,rfl,.inl ⟨rfl,_,SqL.of hl9⟩,_,rfl,_,rfl,5,_,rfl,rfl,.inl ⟨by decide,by decide⟩,75,_,rfl,rfl,by show 2≤sizeLine;decide,λq6 hq6=>⟨l,_,.ref q6,rfl,rfl,(aA.upd hq6) _ _ hl9,gT (by have:=plx.1;rw[Dn,D3];omega),?_⟩⟩;have ta:=aA.upd (o:=.tup [.int t,.int (75+5*(i:Int))]) hq6;have Ma:=(M9.same ta).uo (o:=.lst (ps++[.ref q5]++[.ref q6])) lc lm (cV.set (ta _ _ hl9));have ua:cV H8 _:=(tu9.trans (cV.of ta)).trans (cV.set (o:=.lst (ps++[.ref q5]++[.ref q6])) (ta _ _ hl9));have pa:PL (upd (upd H9 q6 (.tup [.int t,.int (75+5*(i:Int))])) l (.lst (ps++[.ref q5]++[.ref q6]))) (ps++[.ref q5]++[.ref q6]) (ls++[(t,a)]++[(t,75+5*(i:Int))]):=(p8.keep ua).snoc (by rw[ak (ee (aF ta) (ta _ _ hl9) (by intro z;cases z))];exact aF ta);have hda:(upd (upd H9 q6 (.tup [.int t,.int (75+5*(i:Int))])) l (.lst (ps++[.ref q5]++[.ref q6]))) d=some (.dK (putK kvs (Sum.inl t) (.int a))):=(by rw[ak dl];exact ta _ _ hd9);have bxa:iS c d l Hs (upd (upd H9 q6 (.tup [.int t,.int (75+5*(i:Int))])) l (.lst (ps++[.ref q5]++[.ref q6]))):=(bx9.same ta).ul;have hla:(upd (upd H9 q6 (.tup [.int t,.int (75+5*(i:Int))])) l (.lst (ps++[.ref q5]++[.ref q6]))) l=some (.lst (ps++[.ref q5]++[.ref q6])):=af;generalize upd (upd H9 q6 (.tup [.int t,.int (75+5*(i:Int))])) l (.lst (ps++[.ref q5]++[.ref q6]))=Ha at Ma pa hda bxa hla ⊢;have lk':=dg'.k.len;obtain⟨ms2,dg2,hm2,lm2,e2⟩:=dg'.upd (t:=t) (b:=75+5*(i:Int));have e2:=e2 ((hm' t).mpr (.inr rfl));subst e2;refine⟨_,rfl,5,_,rfl,rfl,.inl ⟨by decide,by decide⟩,75,_,rfl,rfl,_,rfl,_,rfl,d,_,rfl,qj.k (k:=Sum.inl t) hda (by rw[lk'];exact gT (by omega)),?_⟩;refine⟨_,rfl,_,rfl,a,n,rfl,rfl,_,1,rfl,rfl,?_⟩;have gg:gB (gB g t a) t (75+5*(i:Int))=gB g t (75+5*(i:Int)):=(by funext u;unfold gB;split<;>rfl);rw[gg]at dg2;exact⟨a+n+1,_,_,_,_,_,_,_,_,_,_,_,rfl,bxa.ud,Ma.uo dc dm (cV.xg hda),x3,af,dg2,by omega,by rw[ak (DH dl)];exact hla,pa.keep (cV.xg hda),by rw[Dn,Dn];show i+1≤ls.length+1+1;omega,by rw[Dn,Dn];show ls.length+1+1≤_;omega⟩
   ·have x3:=Lx.Bi i14 (us:=[Mw.no,.num 4,.ad a,.no].take n) (ms':=ms') (by rw[ul];omega) Plain.four (by rw[et];exact hm')
    rw[et,ul]at x3;refine⟨_,rfl,_,rfl,a,n,rfl,rfl,_,1,rfl,rfl,?_⟩;exact⟨a+n+1,_,_,_,_,_,_,_,_,_,_,_,rfl,bx8,M8,x3,hd8,dg',by omega,hl8,p8,by rw[Dn];show i+1≤ls.length+1;omega,by rw[Dn];show ls.length+1≤_;omega⟩
  ·rintro σ Hx ⟨a,v5,v6,v7,v8,xs',ws,kvs,ms,g,ps,ls,rfl,bx,Mx,Lx,hdx,dg,lms,hlx,plx,l1,l2⟩
   have i14:((11::cs).map V.int).length≤14:=(by rw[Dl,Dx];omega);have i1:1≤((11::cs).map V.int).length:=(by rw[Dl,Dx];omega);generalize ((11::cs).map V.int).length=i at i14 i1 Lx lms l1 l2;have len:=Lx.len;have a1:=Lx.a1;refine⟨_,rfl,m,_,_,rfl,Mx.i,(by kernel_rfl),by show 3≤sizeLine;decide,λq1 hq1=>?_⟩;have t1:=aA.upd (o:=.tup [V.str "moved",V.int 149,V.int 0]) hq1;refine⟨m,mx,c,_,_,145,.ref q1,.mv 149 0,rfl,Mx.same t1,Sm.of (by decide) (by decide),.inr ⟨(by intro z;cases z),q1,rfl,af⟩,?_⟩;rw[if_pos ⟨by decide,by rw[len];decide⟩];intro M1;refine⟨_,rfl,m,_,_,rfl,M1.i,(by kernel_rfl),by show 3≤sizeLine;decide,λq2 hq2=>?_⟩;have t2:=aA.upd (o:=.tup [V.str "moved",V.int 200,V.int 0]) hq2;refine⟨m,mx,c,_,_,146,.ref q2,.mv 200 0,rfl,M1.same t2,Sm.of (by decide) (by decide),.inr ⟨(by intro z;cases z),q2,rfl,af⟩,?_⟩;rw[if_pos ⟨by decide,by rw[Dy];rw[len];decide⟩];intro M2;refine⟨_,rfl,m,_,_,rfl,M2.i,(by kernel_rfl),by show 3≤sizeLine;decide,λq3 hq3=>?_⟩;have t3:=aA.upd (o:=.tup [V.str "moved",V.int 145,V.int 2]) hq3;refine⟨m,mx,c,_,_,147,.ref q3,.mv 145 2,rfl,M2.same t3,Sm.of (by decide) (by decide),.inr ⟨(by intro z;cases z),q3,rfl,af⟩,?_⟩;rw[if_pos ⟨by decide,by rw[Dy];rw[Dy];rw[len];decide⟩];intro M3;refine⟨_,rfl,_,rfl,_,rfl,by show 3≤sizeLine;decide,λr hr'=>?_⟩;have t9:=aA.upd (o:=.tup [.ref d,.ref l,.int a]) hr';have bb:But c Hx _:=((But.same t1).trans But.self).trans (((But.same t2).trans But.self).trans (((But.same t3).trans But.self).trans (But.same t9)));have tu:cV Hx _:=λb us q=>bb b _ (ee q Mx.l (by intro z;cases z)) q;exact k r d l _ _ kvs ms g ps ls a _ (λb u nb q=>bb b u nb (bx b u nb (ai q hd) (ai q hl0) (S5 _ _ q))) af (M3.same t9) (Lx.last i14) (bb d _ dc hdx) dg (bb l _ lc hlx) (plx.keep tu) (by omega) (by omega) (by omega) (by omega) lc hl0
theorem ye{ws:List Mw}{j:Nat}{a:Int}{r:Option Int}(h:Rv ws j a r):∀ {j':Nat} {r':Option Int},Rv ws j' a r'→r=r':=by
 have inn:∀ {a:Int} {w:Mw},0≤a→ws[a.toNat]?=some w→0≤a∧a<ws.length:=λh0 h=>⟨h0,by have:=(Dd.mp h).1;omega⟩;induction h with
 | out h=>intro j' r' h';cases h' with
  | out _=>rfl
  | stop h0 hw _=>exact absurd (inn h0 hw) h
  | step h0 hw _=>exact absurd (inn h0 hw) h
 | stop h0 hw hn=>intro j' r' h';cases h' with
  | out h=>exact absurd (inn h0 hw) h
  | stop _ _ _=>rfl
  | step _ hw' _=>rw[hw]at hw';cases hw';exact absurd rfl (hn _ _)
 | step h0 hw _ ih=>intro j' r' h';cases h' with
  | out h=>exact absurd (inn h0 hw) h
  | stop _ hw' hn=>rw[hw]at hw';cases hw';exact absurd rfl (hn _ _)
  | step _ hw' h''=>rw[hw]at hw';cases hw';exact ih h''
theorem tw{ws:List Mw}{a:Int}{o o':Option (Int×Int)}(h:Ld ws a o)(h':Ld ws a o'):o=o':=by
 obtain⟨j,r,h1,h2⟩:=h;obtain⟨j',r',h3,h4⟩:=h';have e:=ye h1 h3;subst e;cases r with
 | none=>exact h2.trans h4.symm
 | some z =>
  cases et:thg ws z with
  | none=>simp only[et]at h2 h4;exact h2.trans h4.symm
  | some q=>obtain⟨t,n⟩:=q;simp only[et]at h2 h4;exact h2.trans h4.symm
def Fd(ls:List (Int×Int))(g:Int→Int)(a:Int):Option (Int×Int):=(ls.find? λp=>decide (p.2=a)).map λp=>(p.1,g p.1)
theorem Lw.fd{ws:List Mw}{ls:List (Int×Int)}{ms:List Int}{g:Int→Int}(W:Lw ws ls ms g){p:Int×Int}(mp:p∈ls):Fd ls g p.2=some (p.1,g p.1):=by
 cases h:ls.find? λq=>decide (q.2=p.2) with
 | none=>exact absurd (decide_eq_true rfl) (List.find?_eq_none.mp h p mp)
 | some q =>
  have mq:=List.mem_of_find?_eq_some h;have h0:=List.find?_some h;have eq:q.2=p.2:=of_decide_eq_true h0;have l1:=(W.ld q mq).2.1;rw[eq]at l1;unfold Fd;rw[h];exact tw l1 (W.ld p mp).2.1
theorem Lw.fb{ws:List Mw}{ls:List (Int×Int)}{ms:List Int}{g:Int→Int}(W:Lw ws ls ms g){x:Int}(mx:x∈([149,-1,150,10 ^ 30,145,146,147]:List Int)):Fd ls g x=none:=by
 cases h:ls.find? λq=>decide (q.2=x) with
 | none=>unfold Fd;rw[h];rfl
 | some q =>
  have mq:=List.mem_of_find?_eq_some h;have h0:=List.find?_some h;have eq:q.2=x:=of_decide_eq_true h0;have l1:=(W.ld q mq).2.1;rw[eq]at l1;cases tw l1 (W.bad x mx)
theorem sO{H:Hp}{p q:Addr}{us zs:List V}{ks:List Int}{g:Int→Int}(h1:Pr H us ks g)(h2:Pr H zs ks g)(hp:H p=some (.lst us))(hq:H q=some (.lst zs))(l:ks.length≤100):Dp 2 H (.ref p) (.ref q):=by
 refine .inr ⟨p,q,us,zs,rfl,rfl,.inr ⟨hp,hq⟩,h1.1.trans h2.1.symm,by rw[h2.1];exact l,λi x y hx hy=>?_⟩;have hi:i<ks.length:=by rw[←h1.1];exact(Dd.mp hx).1
 have hk:ks[i]?=some ks[i]:=C8 hi;obtain⟨a,rfl,ha⟩:=h1.2 i x _ hx hk;obtain⟨b,rfl,hb⟩:=h2.2 i y _ hy hk;refine .inr ⟨a,b,_,_,rfl,rfl,.inl ⟨ha,hb⟩,rfl,by show 2≤100;decide,λj x y hx hy=>?_⟩
 match j,hx,hy with
 | 0,hx,hy=>cases hx;cases hy;exact⟨rfl,.inr (.inl ⟨_,rfl⟩)⟩
 | 1,hx,hy=>cases hx;cases hy;exact⟨rfl,.inr (.inl ⟨_,rfl⟩)⟩
 | j+2,hx,_=>cases hx
theorem ph{H:Hp}{r w:Addr}{x y:V}(hr:H r=some (.tup [.str "told",x]))(hw:H w=some (.tup [.str "told",y]))(h:Dp 2 H x y):Dp 3 H (.ref r) (.ref w):=by
 refine .inr ⟨r,w,_,_,rfl,rfl,.inl ⟨hr,hw⟩,rfl,by show 2≤100;decide,λj a b hx hy=>?_⟩
 match j,hx,hy with
 | 0,hx,hy=>cases hx;cases hy;exact .inl ⟨rfl,.inr (.inr ⟨_,rfl⟩)⟩
 | 1,hx,hy=>cases hx;cases hy;exact h
 | j+2,hx,_=>cases hx
theorem uM{ks:List Int}(h:ks.Pairwise (·< ·)):nX ks=true:=by
 unfold nX;refine D2.mpr λi m=>?_;have hi:=Eo.mp m;have h1:i<ks.length:=by omega
 have h2:i+1<ks.length:=by omega
 refine decide_eq_true ?_;rw[DC,DC,C8 h1,C8 h2];exact List.pairwise_iff_getElem.mp h i (i+1) h1 h2 (Ep i)
theorem xh(as:List Int):(as.map V.int).all c6=true:=by
 rw[List.all_map];exact D2.mpr λ_ _=>rfl
def n4(D:Ad):Sp:=λvs H Q _=>∃ m mx c xs ws,∃(d l:Addr) (kvs:List (Key×V)) (ms:List Int) (g:Int→Int) (ps:List V) (ls:List (Int×Int)) (cell:Int),vs=[.ref m,.ref d,.ref l,.int cell]∧Mm D H m mx c xs ws∧Lw ws ls ms g∧H d=some (.dK kvs)∧Dg kvs ms g∧H l=some (.lst ps)∧PL H ps ls∧0<ls.length∧ls.length≤28∧ms.length≤14∧∀ H',aA H H'→Q (.bl true) H'
abbrev d3:List Str:=["memory", "where", "leads", "cell", "some", "due", "t", "a", "firsts", "handed", "wanted", "turn", "told", "bad", "at"]
theorem aK:aO d3 ["memory", "where", "leads", "cell"] (ar cM):=⟨rfl,rfl,rfl,by decide +kernel,rfl,by decide +kernel,by decide +kernel⟩
theorem j3(F:Fun K "_law_asked" "_law_asked" cM D.bo D.dw)(T:Txt K mg D)
  (aD:Ok P w K mg base 1 D.aX D.b5 ["cell", "k"] (ix))
  (c8:Ok P w K mg base 9 D.bM D.dJ ["memory", "firsts"] (qC D))
  (cQ:Ok P w K mg base 4 D.bj D.cN ["found", "due"] (tq 3))
  (bO:Ok P w K mg base 1 D.cz D.d9 ["book"] (p0))
  (d4:Ok P w K mg base 1 D.bg D.du ["book", "t"] (qB)):Ok P w K mg base 11 D.bo D.dw ["memory", "where", "leads", "cell"] (n4 D):=by
 refine⟨?_,F.binds (ps:=["memory", "where", "leads", "cell"]) λ_ _ _ _ _ _ us hl=>match us,hl with|[_,_,_,_],_=>rfl⟩
 refine F.okE aK (λvs H Q E h=>?_) (λcdv A' outer s' H vs Q E hr h=>?_)
 ·obtain⟨m,mx,c,xs,ws,d,l,kvs,ms,g,ps,ls,cell,rfl,_⟩:=h
  rfl
 ·obtain⟨m,mx,c,xs,ws,d,l,kvs,ms,g,ps,ls,cell,rfl,M,W,hd,dg,hl,pl,l0,l28,m14,k⟩:=h
  have hu:=rN hr;refine⟨_,(PSs.nox (ag (lU (cl:=[("leads",s'.heap.objs.size+1),("cell",s'.heap.objs.size+2)]) (x := "j") (idx:=[3,2]) (NC:=["j", "cell", "leads"]) (i:=4) aK.nd rfl rfl ?co2 rfl (d7 rfl T.eB (aa (aH cW (pv 3) ah) ae)) (λC fp s₀ H₀=>(b7 (r:=ub K) eo (pv 2) (aH cW (aE aD.g (hr.mono (by decide)) rfl T.cO T.bK aD.b .nil oz (aa (pv 1) (aa (pv 0) ae))) (ao (r:=λxs H Q=>∃ p ys,xs=[V.ref p]∧(SqL K H p ys∨SqT K H p ys)∧Q (V.int ys.length) H) aP rfl T.fc PyProof.Rows.Boot.«len» (aa (pv 2) ae))) (λ_ _=>rfl))))
   (ag (aU (i:=5) aK.nd rfl (Or.inr rfl) jC)
   (ag (fP DY rfl (eY (pv 4)) (jI rfl (cS (br (i:=6) aK.nd rfl (Or.inl rfl)) (cS (br (i:=7) aK.nd rfl (Or.inl rfl)) iA)))
    (aq (jl hu (pv 5) (pv 6) (lQ hu (pv 1) (pv 6) (λ_ _=>rfl)) rfl)))
   (ag (sI (cl:=[]) (xs:=["t", "a"]) (idx:=[]) (NC:=["t", "a"]) (g:=Bs K 2 (tE (gC 0) (tE (gC 1) Br))) (i:=8) aK.nd rfl rfl (by exact sF (sc:=ar cM) (N:=d3) (ns:=[]) rfl rfl rfl (by decide +kernel) rfl rfl (by intro q hq;cases hq)) rfl (eY (pv 4)) (λc C fp s₀ H₀=>jI rfl (cS (tf (i:=0) c rfl) (cS (tf (i:=1) c rfl) iA))) (λC fp s₀ H₀=>(pv 1)))
   (ag (aU (i:=9) aK.nd rfl (Or.inl rfl) (iG hZ rfl T.ik PyProof.Rows.Boot.«list» (aa (pv 8) ae)))
   (ag (lU (cl:=[("due",s'.heap.objs.size+3)]) (x := "t") (idx:=[5]) (NC:=["t", "due"]) (i:=10) aK.nd rfl rfl ?co1 rfl (eY (ao (h9 rfl) rfl T.gz PyProof.Rows.Boot.«sorted» (aa (pv 5) ae))) (λC fp s₀ H₀=>(b3 (aa (pv 0) (aa (lQ hu (pv 1) (pv 0) (λ_ _=>rfl)) ae)))))
   (ag (fP DY rfl (d7 rfl T.eB (aa ah ae)) (br (i:=11) aK.nd rfl (Or.inl rfl))
    (ag (aU (i:=12) aK.nd rfl (Or.inl rfl) (aE c8.g (hr.mono (by decide)) rfl T.iQ T.eM c8.b .nil bZ (aa (pv 0) (aa (pv 9) ae))))
    (ag (dD (PW.pt (pw_or (i0 (eR (aE cQ.g (hr.mono (by decide)) rfl T.fz T.dA cQ.b .nil bZ (aa (pv 12) (aa (b3 (aa dB (aa (pv 10) ae))) ae))))) (pw_or (bF (xW hr.xA) (pv 9) (pv 8) (aZ _)) (pw_or1 (bF uJ (aE bO.g (hr.mono (by decide)) rfl T.gJ T.ed bO.b .nil bZ (aa (b7 cq (pv 12) ah (λ_ _=>rfl)) ae)) gZ (aZ _))))))
     (aq (aT gZ))
     bq)
    (ag (fP DY rfl (eY (aH e7 (iG (oB rfl) rfl T.ik PyProof.Rows.Boot.«list» (aa (pv 1) ae)) (dW (aa (uV sR ah) (aa ah ae))))) (br (i:=6) aK.nd rfl (Or.inl rfl))
     (aq (dD (i0 (eR (aE cQ.g (hr.mono (by decide)) rfl T.fz T.dA cQ.b .nil bZ (aa (aE d4.g (hr.mono (by decide)) rfl T.kK T.fu d4.b .nil bZ (aa (b7 cq (pv 12) ah (λ_ _=>rfl)) (aa (pv 6) ae))) (aa (sj hu (pv 5) (pv 6) dU ⟨rfl,rfl,rfl,rfl⟩) ae)))))
      (aq (aT gZ))
      bq)))
    (aq (bS (rM PySem.F.plainAttrs_list PySem.F.slot_list_append PySem.F.type_list_append gD (b7 cq (pv 12) ah (λ_ _=>rfl)) (aa (b3 (aa ah (aa ah ae))) ae))))))))
   (ag (aU (i:=13) aK.nd rfl (Or.inl rfl) (b7 eo (dW (aa ah (aa (uV sR ah) (aa ah (aa (aH l5 ah ah) (aa ah (aa ah (aa ah ae)))))))) (aH cW (aE aD.g (hr.mono (by decide)) rfl T.cO T.bK aD.b .nil bZ (aa (pv 3) (aa ah ae))) ah) (λ_ _=>rfl)))
   (ag (aU (i:=14) aK.nd rfl (Or.inl rfl) (aH cW (aE aD.g (hr.mono (by decide)) rfl T.cO T.bK aD.b .nil bZ (aa (pv 3) (aa ah ae))) (aH cB (ao aP rfl T.fc PyProof.Rows.Boot.«len» (aa (pv 8) ae)) ah)))
   (aq (aT (da (xZ (n:=1) hu) (aE c8.g (hr.mono (by decide)) rfl T.iQ T.eM c8.b .nil bZ (aa (pv 0) (aa (aH e7 (aH e7 (fi gQ (pv 8) gO (gP (pv 14))) (dW (aa (pv 13) ae))) (fi gQ (pv 8) (gP (pv 14)) gO)) ae))) (b3 (aa dB ae)) (aZ _)))))))))))))),?_⟩
  case co1 =>
   exact fN (sc:=ar cM) (N:=d3) (ns:=["due"]) rfl rfl rfl (by decide +kernel) rfl rfl (by
    intro q hq;rw[De.mp hq];rfl)
  case co2 =>
   exact fN (sc:=ar cM) (N:=d3) (ns:=["leads", "cell"]) rfl rfl rfl (by decide +kernel) rfl rfl (by
    intro q hq;rcases Ds.mp hq with rfl|hq
    ·rfl
    rw[De.mp hq];rfl)
  have c0:=DZ cell (show(9:Int)≠0 by decide);have c9:=DS cell (show(0:Int)<9 by decide);have lp:=pl.1;refine⟨_,rfl,cell,9,rfl,rfl,(by show(0:Int)<9;decide),_,rfl,by omega,by omega,λL hL=>?_⟩;refine ez (lo:=0) (n:=(cell%9).toNat) (λi ys Hc=>aA H Hc∧Hc L=some (.lst ys)∧ys.length=i∧∃ qs,PL Hc ys qs∧∀ p∈qs,p∈ls) ⟨aA.upd hL,af,rfl,[],⟨rfl,λj u p h=>by cases h⟩,λp m=>nomatch m⟩ (λi ys Hc _ ⟨_,z,e,_⟩=>⟨z,e⟩) (eW (by omega)) (λi ys Hc hi ⟨sc,z,e,qs,pq,mq⟩=>?_) (λys H1 ⟨s1,z1,e1,qs,pq,mq⟩=>?_)
  ·refine⟨_,rfl,_,rfl,_,rfl,cell,0+(i:Int),rfl,by omega,by omega,λr r0 r1=>⟨_,rfl,l,ps,rfl,.inl (SqL.of (sc _ _ hl)),r,_,rfl,rfl,by show(0:Int)<ps.length;omega,?_⟩⟩
   have x0:=DZ r (show(ps.length:Int)≠0 by omega);have x1:=DS r (show(0:Int)<ps.length by omega);obtain⟨x,ex⟩:∃ x:Nat,r%(ps.length:Int)=x:=⟨(r%(ps.length:Int)).toNat,by omega⟩;have xl:x<ps.length:=(by omega);have hx:ps[x]?=some ps[x]:=C8 xl;obtain⟨⟨pt,pa⟩,hp⟩:∃ p,ls[x]?=some p:=⟨ls[x]'(by omega),C8 _⟩;obtain⟨q,eq,hq⟩:=pl.2 x _ _ hx hp;rw[eq]at hx;refine⟨l,ps,_,.ref q,rfl,rfl,SqL.of (sc _ _ hl),fV x0 (by rw[ex];exact hx),z,λb u y=>by rw[ak (ai y hL)];exact sc b u y,af,by rw[Dn,e];rfl,qs++[(pt,pa)],(pq.keep (cV.set z)).snoc (by rw[ak (ai hq hL)];exact sc _ _ hq),λp m=>?_⟩;rcases Dz.mp m with m|m
   ·exact mq p m
   ·rw[De.mp m];exact Dr hp
  ·have q8:qs.length≤8:=by have:=pq.1;omega
   intro dd hdd;have s2:=aA.upd (o:=.dK []) hdd;refine⟨_,rfl,L,rfl,⟨_,SqL.of (s2 _ _ z1)⟩,gv (K:=K) (a:=L) (xs:=ys) (λi σ Hx=>∃ v6 v7 kv dms,σ=[some (.ref m),some (.ref d),some (.ref l),some (.int cell),some (.ref L),some (.ref dd),v6,v7,none,none,none,none,none,none,none]∧aA H1 Hx∧Hx dd=some (.dK kv)∧Dg kv dms g∧dms.length≤i∧∀ t,t∈dms↔∃ p∈qs.take i,p.1=t)
    ⟨none,none,[],[],rfl,s2,af,Dg.nil,Dk _,(λt=>⟨(λm=>nomatch m),λ⟨a,m,_⟩=>nomatch m⟩)⟩ (λi σ Hx _ ⟨_,_,_,_,_,sx,_⟩=>SqL.of (sx _ _ z1)) ?_ ?_⟩
   ·rintro i v σ Hx hi ⟨v6,v7,kv,dms,rfl,sx,hk,dk,ld,hm⟩
    have il:i<ys.length:=(Dd.mp hi).1;obtain⟨⟨pt,pa⟩,hp⟩:∃ p,qs[i]?=some p:=⟨qs[i]'(by rw[←pq.1];exact il),C8 _⟩;obtain⟨q,rfl,hq⟩:=pq.2 i _ _ hi hp;have mt:pt∈ms:=(W.ld _ (mq _ (Dr hp))).1;refine⟨q,_,rfl,SqT.of (sx _ _ hq),rfl,_,_,rfl,_,_,rfl,rfl,?_⟩;have lk:=dk.k.len;have l8:=pq.1;refine⟨_,rfl,_,rfl,d,.int (g pt),rfl,.inl ⟨kvs,Sum.inl pt,.inl (sx _ _ (s1 _ _ hd)),rfl,(dg.v pt mt).symm⟩,_,rfl,_,rfl,dd,_,rfl,qj.k (k:=Sum.inl pt) hk (by rw[lk];exact gT (by omega)),?_⟩;obtain⟨ms',dg',hm',lm'⟩:=dk.put (t:=pt);refine⟨_,_,_,ms',rfl,λb u y=>by rw[ak (ai y hdd)];exact sx b u y,af,dg',by omega,λu=>?_⟩;rw[hm' u,hm u,take_snoc hp];constructor
    ·rintro(⟨p,m,e⟩|rfl)
     ·exact⟨p,DO _ m,e⟩
     ·exact⟨_,Di _ (De.mpr rfl),rfl⟩
    ·rintro⟨p,m,e⟩
     rcases Dz.mp m with m|m
     ·exact .inl ⟨p,m,e⟩
     ·rw[De.mp m]at e;exact .inr e.symm
   ·rintro σ H2 ⟨v6,v7,kv,dms,rfl,sx2,hk2,dk,ld,hm⟩
    have l8:=pq.1;rw[show qs.take ys.length=qs by rw[l8];exact D1 (Dk _)]at hm;obtain⟨as,eas⟩:∃ as:List Int,as=qs.map (·.2):=⟨_,rfl⟩;have la:as.length=qs.length:=(by rw[eas,Dl]);refine⟨_,rfl,L,rfl,⟨_,SqL.of (sx2 _ _ z1)⟩,λL2 hL2=>?_⟩;refine oJ (K:=K) (a:=L) (xs:=ys) (λi zs Hc=>zs=(as.take i).map V.int∧aA H2 Hc∧Hc L2=some (.lst zs)) ⟨rfl,aA.upd hL2,af⟩ (λi zs Hc hi ⟨e,_,z⟩=>⟨z,by rw[e,Dl,DD];omega⟩) (λi zs Hc _ ⟨_,sc,_⟩=>SqL.of (sc _ _ (sx2 _ _ z1))) (eW (by omega)) (λi v zs Hc hi ⟨e,sc,z⟩ vs lvs=>?_) (λzs H3 ⟨e,s3,z3⟩=>?_)
    ·have il:i<ys.length:=(Dd.mp hi).1
     obtain⟨⟨pt,pa⟩,hp⟩:∃ p,qs[i]?=some p:=⟨qs[i]'(by rw[←pq.1];exact il),C8 _⟩;obtain⟨q,rfl,hq⟩:=pq.2 i _ _ hi hp;have ha:as[i]?=some pa:=by rw[eas,Dw,hp];rfl
     match vs,lvs with
     | [w0,w1],_ =>
      refine⟨q,_,rfl,SqT.of (sc _ _ (sx2 _ _ hq)),rfl,_,_,rfl,_,_,rfl,rfl,[_,_],rfl,rfl,?_⟩;refine⟨_,rfl,z,?_,λb u y=>by rw[ak (ai y hL2)];exact sc b u y,af⟩;rw[take_snoc ha,DR,e];rfl
    ·rw[show as.take ys.length=as by rw[l8,←la];exact D1 (Dk _)]at e
     subst e;refine⟨_,rfl,L2,_,rfl,.inl (SqL.of z3),λL3 hL3=>?_⟩;have s4:=aA.upd (o:=.lst (as.map V.int)) hL3;have hk4:=s4 _ _ (s3 _ _ hk2);refine⟨_,rfl,dd,kv,dms,rfl,hk4,dk.k,by omega,λp1 wk hp1 pm srt=>?_⟩;have s5:=aA.upd (o:=.lst (wk.map V.int)) hp1;have hk5:=s5 _ _ hk4;have asc:=gu srt (pm.nodup_iff.mpr dk.n);have lwk:wk.length=dms.length:=pm.length_eq;refine⟨p1,rfl,⟨_,SqL.of af⟩,λL5 hL5=>?_⟩;refine ky (K:=K) (a:=p1) (xs:=wk.map V.int) (λi ys Hc=>ys.length=i∧aA (upd (upd H3 L3 (.lst (as.map V.int))) p1 (.lst (wk.map V.int))) Hc∧Hc L5=some (.lst ys)∧∀(j:Nat) (u:V) (t:Int),ys[j]?=some u→wk[j]?=some t→∃ q,u=.ref q∧Hc q=some (.tup [.int t,.int (g t)])) ⟨rfl,aA.upd hL5,af,(λj u t h=>by cases h)⟩ (λi ys Hc _ ⟨e,_,z,_⟩=>⟨z,e⟩) (λi ys Hc _ ⟨_,sc,_⟩=>SqL.of (sc _ _ af)) (by rw[Dl];exact eW (by omega)) (λi v ys Hc hi ⟨e,sc,z,hq⟩=>?_) (λzs Hw ⟨e,sw,z,hq⟩=>?_)
     ·rw[Dw]at hi
      obtain⟨t,ht,rfl⟩:=DG.mp hi;have mt:t∈dms:=pm.mem_iff.mp (Dr ht);refine⟨_,rfl,_,rfl,_,rfl,dd,.int (g t),rfl,.inl ⟨kv,Sum.inl t,.inl (sc _ _ hk5),rfl,(dk.v t mt).symm⟩,by show 2≤sizeLine;decide,λq hq'=>?_⟩;have s3:=aA.upd (o:=.tup [V.int t,V.int (g t)]) hq';have z3:=s3 _ _ z;refine⟨z3,by rw[Dn,e];rfl,λb u y=>by rw[ak (ai y hL5)];exact s3 _ _ (sc b u y),af,λj u t' h1 h2=>?_⟩;rcases EF j ys.length with cj|cj
      ·rw[DJ cj]at h1
       obtain⟨q',e1,e2⟩:=hq j u t' h1 h2;exact⟨q',e1,by rw[ak (ee (s3 _ _ e2) z3 (by intro y;cases y))];exact s3 _ _ e2⟩
      ·have ej:j=ys.length:=by have:=(Dd.mp h1).1;rw[Dn,D3]at this;omega
       rw[ej,DI (Dk _),Ey]at h1;cases h1;rw[ej,e,ht]at h2;cases h2;exact⟨q,rfl,by rw[ak (ee (aF s3) z3 (by intro y;cases y))];exact aF s3⟩
     ·rw[Dl]at e
      have pw:Pr Hw zs wk g:=⟨e,hq⟩;have S2:aA H2 Hw:=(s3.trans s4).trans (s5.trans sw);have S0:aA H Hw:=(s1.trans sx2).trans S2;have h2:Hw L2=some (.lst (as.map V.int)):=sw _ _ (s5 _ _ (s4 _ _ z3));have h3:Hw L3=some (.lst (as.map V.int)):=sw _ _ (s5 _ _ (aF s4));have hkw:=sw _ _ hk5;have hF:∀ a∈as,∃ p∈qs,p.2=a:=λa ma=>by rw[eas]at ma;exact Ex.mp ma
      have hA:∀ a∈as,Sm a∧Ld ws a (Fd ls g a):=λa ma=>by
       obtain⟨p,mp,rfl⟩:=hF a ma;obtain⟨_,y1,y2,y3⟩:=W.ld p (mq p mp);exact⟨Sm.of (by omega) (by omega),by rw[W.fd (mq p mp)];exact y1⟩
      have hG:∀(a t z:Int),Fd ls g a=some (t,z)→z=g t:=λa t z y=>by
       unfold Fd at y;obtain⟨p,_,ep⟩:=DG.mp y;cases ep;rfl
      have hS:∀ a∈as,(Fd ls g a).isSome=true:=λa ma=>by
       obtain⟨p,mp,rfl⟩:=hF a ma;rw[W.fd (mq p mp)];rfl
      refine⟨2,rfl,by decide,by decide,km (lo:=0) (n:=2) (λi σ Hx=>∃ v6 v11 v12,σ=[some (.ref m),some (.ref d),some (.ref l),some (.int cell),some (.ref L),some (.ref dd),v6,v7,some (.ref L2),some (.ref L3),some (.ref L5),v11,v12,none,none]∧aA Hw Hx) ⟨v6,none,none,rfl,aA.refl _⟩ ?_ ?_⟩
      ·rintro i σ Hx hi ⟨v6,v11,v12,rfl,sx⟩
       refine⟨_,rfl,_,rfl,m,mx,c,xs,ws,L3,as,Fd ls g,g,rfl,M.same (S0.trans sx),W.gm,sx _ _ h3,by omega,hA,λa _=>hG a,λ_ r p us ks Hr sr hp0 hr' zp pr asck mem l64=>?_,λhn=>absurd hS hn⟩;have ek:ks=wk:=qz asck asc λt=>by
        rw[mem t,pm.mem_iff,hm t];constructor
        ·rintro⟨a,ma,z',ea⟩
         obtain⟨p,mp,rfl⟩:=hF a ma;rw[W.fd (mq p mp)]at ea;cases ea;exact⟨p,mp,rfl⟩
        ·rintro⟨p,mp,rfl⟩
         exact⟨p.2,by rw[eas];exact Ex.mpr ⟨p,mp,rfl⟩,g p.1,W.fd (mq p mp)⟩
       subst ek;refine⟨_,rfl,_,rfl,by show 2≤sizeLine;decide,λw hw=>?_⟩;have sw1:=aA.upd (o:=.tup [.str "told",.ref L5]) hw;have S1:=(sx.trans sr).trans sw1;refine⟨_,_,rfl,ph (sw1 _ _ hr') af (sO (pr.keep (cV.of sw1)) (pw.keep (cV.of S1)) (sw1 _ _ zp) (S1 _ _ z) (by omega)),λH4 s4'=>⟨true,rfl,fG rfl ?_⟩⟩;have S4:=S1.trans s4';have T4:=sw1.trans s4';refine⟨_,rfl,_,rfl,L3,L2,_,_,rfl,rfl,SqL.of (S4 _ _ h3),SqL.of (S4 _ _ h2),rfl,xh as,xh as,_,rfl,fG (by rw[oA rfl,decide_eq_true rfl];rfl) ?_⟩;refine⟨_,rfl,r,_,1,.ref p,rfl,rfl,SqT.of (T4 _ _ hr'),rfl,p,us,ks,rfl,T4 _ _ zp,pr.1,by omega,(λi u t h1 h2=>by obtain⟨q,e1,e2⟩:=pr.2 i u t h1 h2;exact⟨q,_,e1,T4 _ _ e2⟩),λH5 s5'=>⟨_,true,rfl,rfl,_,rfl,fG (by rw[uM asc];rfl) ?_⟩⟩;have S5:=S4.trans s5';have T5:=T4.trans s5';refine⟨_,rfl,d,kvs,ms,rfl,.inl (S5 _ _ (S0 _ _ hd)),dg.k,λl6 hl6=>⟨1,rfl,by show 2≤sizeLine;decide,λl7 hl7=>?_⟩⟩;have s6:=aA.upd (o:=.lst (ms.map V.int)) hl6;have s7:=aA.upd (o:=.lst [V.int (-1),.int 41]) hl7;refine⟨l6,l7,_,_,rfl,rfl,SqL.of (s7 _ _ (aF s6)),SqL.of (aF s7),by rw[Dl];exact eW (by show ms.length+2≤_;omega),λl8 hl8=>?_⟩;have s8:=aA.upd (o:=.lst (ms.map V.int++[V.int (-1),.int 41])) hl8;have U8:=(s6.trans s7).trans s8;have e8:ms.map V.int++[V.int (-1),.int 41]=(ms++[-1,41]).map V.int:=(by rw[DR];rfl);refine⟨l8,rfl,⟨_,SqL.of af⟩,gv (K:=K) (a:=l8) (xs:=(ms++[-1,41]).map V.int) (λ_ σ Hy=>∃ v6,σ=[some (.ref m),some (.ref d),some (.ref l),some (.int cell),some (.ref L),some (.ref dd),v6,v7,some (.ref L2),some (.ref L3),some (.ref L5),some (.int (0+(i:Int))),some (.ref r),none,none]∧aA H5 Hy∧Hy l8=some (.lst ((ms++[-1,41]).map V.int))) ⟨_,rfl,U8,by rw[af,←e8]⟩ (λ_ σ Hy _ ⟨_,_,_,y⟩=>SqL.of y) ?_ ?_⟩
       ·rintro j v σ Hy hj ⟨v6,rfl,sy,hy8⟩
        rw[Dw]at hj;obtain⟨t,_,rfl⟩:=DG.mp hj;have T6:=T5.trans sy;have hky:=sy _ _ (S5 _ _ hkw);refine⟨_,rfl,r,_,1,.ref p,rfl,rfl,SqT.of (T6 _ _ hr'),rfl,_,rfl,p,us,ks,g,t,rfl,T6 _ _ zp,pr.keep (cV.of T6),_,rfl,dd,rfl,.inl ⟨_,.inl hky⟩,_,rfl,_,qi.k (k:=Sum.inl t) hky,_,_,rfl,?_,λH7 s7'=>⟨true,rfl,fG rfl ⟨_,rfl,sy.trans s7',s7' _ _ hy8⟩⟩⟩;have mk:t∈ks↔t∈dms:=pm.mem_iff;by_cases ct:t∈ks
        ·rw[if_pos ct,dk.v t (mk.mp ct)]
         exact .inl ⟨rfl,.inr (.inl ⟨_,rfl⟩)⟩
        ·rw[if_neg ct,dk.k.non (λz=>ct (mk.mpr z))]
         exact .inl ⟨rfl,.inl rfl⟩
       ·rintro σ Hy ⟨v6,rfl,sy,_⟩
        have T6:=T5.trans sy;refine⟨_,rfl,r,_,1,.ref p,rfl,rfl,SqT.of (T6 _ _ hr'),rfl,.inl ⟨rfl,_,SqL.of (T6 _ _ zp)⟩,by show 2≤sizeLine;decide,λw2 hw2=>⟨p,us,.ref w2,rfl,rfl,(aA.upd hw2) _ _ (T6 _ _ zp),gT (by rw[pr.1];omega),?_⟩⟩;exact⟨_,_,_,rfl,λb u y=>by rw[ak (ai y (aA.none sx hp0))];exact(aA.upd hw2) _ _ ((S5.trans sy) _ _ y)⟩
      ·rintro σ Hx ⟨v6,v11,v12,rfl,sx⟩
       refine⟨1,rfl,10,30,rfl,rfl,⟨by decide,by decide⟩,by show 7≤sizeLine;decide,λlb hlb=>?_⟩;have s6:=aA.upd (o:=.lst (([149,-1,150,10 ^ 30,145,146,147]:List Int).map V.int)) hlb;refine⟨_,rfl,cell,11,rfl,by decide,by decide,λr r0 r1=>⟨r,7,rfl,rfl,(by show(0:Int)<7;decide),?_⟩⟩;obtain⟨n,en⟩:∃ n:Nat,r%7=n:=⟨(r%7).toNat,by omega⟩;have n7:n<([149,-1,150,10 ^ 30,145,146,147]:List Int).length:=(by show n<7;omega);obtain⟨bad,B4⟩:∃ x,([149,-1,150,10 ^ 30,145,146,147]:List Int)[n]?=some x:=⟨_,C8 n7⟩;have mb:=Dr B4;refine⟨lb,([149,-1,150,10 ^ 30,145,146,147]:List Int).map V.int,_,.int bad,rfl,rfl,SqL.of af,fV (by omega) (by rw[en];show(([149,-1,150,10 ^ 30,145,146,147]:List Int).map V.int)[n]?=_;rw[Dw,B4];rfl),?_⟩;have S6:=sx.trans s6;refine⟨_,rfl,cell,12,rfl,by decide,by decide,λr' r0' r1'=>⟨_,rfl,L2,_,rfl,.inl (SqL.of (S6 _ _ h2)),_,1,rfl,rfl,r',_,rfl,rfl,by show(0:Int)<((as.map V.int).length:Int)+1;omega,?_⟩⟩;obtain⟨at_,eat⟩:∃ x:Int,r' % (((as.map V.int).length:Int)+1)=x:=⟨_,rfl⟩;show gC 14 (V.int (r' % (((as.map V.int).length:Int)+1))) _ _ _;rw[eat];obtain⟨as1,ec1,cl1,cm1,_⟩:=iy as none (some at_);obtain⟨as2,ec2,cl2,cm2,_⟩:=iy as (some at_) none;refine⟨_,rfl,_,rfl,_,rfl,_,rfl,L2,_,rfl,SqL.of (S6 _ _ h2),λq1 hq1=>?_⟩;rw[ec1];have t1:=aA.upd (o:=.lst (as1.map V.int)) hq1;refine⟨_,rfl,by show 1≤sizeLine;decide,λq2 hq2=>?_⟩;have t2:=aA.upd (o:=.lst [V.int bad]) hq2;refine⟨q1,q2,_,_,rfl,rfl,SqL.of (t2 _ _ (aF t1)),SqL.of (aF t2),by rw[Dl];exact eW (by show as1.length+1≤_;omega),λq3 hq3=>?_⟩;have t3:=aA.upd (o:=.lst (as1.map V.int++[V.int bad])) hq3;have T3:=(t1.trans t2).trans t3;refine⟨_,rfl,_,rfl,_,rfl,L2,_,rfl,SqL.of (T3 _ _ (S6 _ _ h2)),λq4 hq4=>?_⟩;rw[ec2];have t4:=aA.upd (o:=.lst (as2.map V.int)) hq4;refine⟨q3,q4,_,_,rfl,rfl,SqL.of (t4 _ _ (aF t3)),SqL.of (aF t4),by rw[Dn,Dl,Dl];exact eW (by show as1.length+1+as2.length≤_;omega),λq5 hq5=>?_⟩;have t5:=aA.upd (o:=.lst (as1.map V.int++[V.int bad]++as2.map V.int)) hq5;have S9:=S6.trans ((T3.trans t4).trans t5);have ea:as1.map V.int++[V.int bad]++as2.map V.int=(as1++[bad]++as2).map V.int:=(by rw[DR,DR];rfl);have lb:=W.fb mb;have sb:Sm bad:=by
        simp only[Ds,EB,or_false]at mb;rcases mb with rfl|rfl|rfl|rfl|rfl|rfl|rfl<;>exact(by unfold Sm;decide +kernel)
       refine⟨m,mx,c,xs,ws,q5,as1++[bad]++as2,Fd ls g,g,rfl,M.same (S0.trans S9),W.gm,by rw[af,ea],by rw[Dn,Dn];show as1.length+1+as2.length<60;omega,λa ma=>?_,λa _=>hG a,λha=>?_,λ_ r2 H' s' hr2=>?_⟩
       ·rcases Dz.mp ma with ma|ma
        ·rcases Dz.mp ma with ma|ma
         ·exact hA a (cm1 a ma)
         ·rw[De.mp ma,lb];exact⟨sb,W.bad bad mb⟩
        ·exact hA a (cm2 a ma)
       ·have:=ha bad (DO _ (Di _ (De.mpr rfl)))
        rw[lb]at this;cases this
       ·refine⟨by show 1≤sizeLine;decide,λw hw=>⟨.t [.a (.str "refused")],.t [.a (.str "refused")],⟨r2,_,rfl,(aA.upd hw) _ _ hr2,rfl,λj u x h1 h2=>(by match j,h1,h2 with|0,h1,h2=>cases h1;cases h2;exact⟨rfl,rfl⟩|j+1,h1,_=>cases h1)⟩,⟨w,_,rfl,af,rfl,λj u x h1 h2=>(by match j,h1,h2 with|0,h1,h2=>cases h1;cases h2;exact⟨rfl,rfl⟩|j+1,h1,_=>cases h1)⟩,?_⟩⟩
        exact k _ (((S0.trans S9).trans s').trans (aA.upd hw))
def rS(K:W.Frag):Sp:=λvs H Q _=>∃(a:Addr) (ns:List Int),vs=[.ref a]∧SqL K H a (ns.map V.int)∧ns.length≤63∧∀ H',Q (.bl true) H'
abbrev Bk:List Str:=["script", "memory", "where", "leads", "behind", "cell"]
theorem ip:aO Bk ["script"] (ar tM):=⟨rfl,rfl,rfl,by decide +kernel,rfl,by decide +kernel,by decide +kernel⟩
theorem yf(F:Fun K "law" "law" tM D.kg D.oK)(T:Txt K mg D)
  (cw:Ok P w K mg base 1 D.aQ D.bH ["self", "size"] (nU D))
  (eQ:Ok P w K mg base 9 D.bN D.dM ["memory", "script"] (qD K D))
  (d5:Ok P w K mg base 11 D.bo D.dw ["memory", "where", "leads", "cell"] (n4 D))
  (cR:Ok P w K mg base 3 D.bp D.dy ["cell"] (nZ))
  (bE:Ok P w K mg base 1 D.bD D.c7 ["script", "k"] (lW K)):Ok P w K mg base 12 D.kg D.oK ["script"] (rS K):=by
 refine⟨?_,F.binds (ps:=["script"]) λ_ _ _ _ _ _ us hl=>match us,hl with|[_],_=>rfl⟩
 refine F.okE ip (λvs H Q E h=>?_) (λcdv A' outer s' H vs Q E hr h=>?_)
 ·obtain⟨a,ns,rfl,_⟩:=h
  rfl
 ·obtain⟨a,ns,rfl,hS,hlen,k⟩:=h
  have hu:=rN hr;refine⟨_,(PSs.nox (ag (aU (i:=1) ip.nd rfl (Or.inl rfl) (tY T.iI cw.g (hr.mono (by decide)) rfl T.rl cw.b .nil x8 (aa ah ae)))
   (ag (sQ (aE eQ.g (hr.mono (by decide)) rfl T.mO T.gr eQ.b .nil bZ (aa (pv 1) (aa (pv 0) ae))) (jI rfl (cS (br (i:=2) ip.nd rfl (Or.inl rfl)) (cS (br (i:=3) ip.nd rfl (Or.inl rfl)) (cS (br (i:=4) ip.nd rfl (Or.inl rfl)) iA)))))
   (ag (fP DY rfl (eY (aH e7 (dW (aa ah ae)) (fi gQ (pv 0) gO (gP ah)))) (br (i:=5) ip.nd rfl (Or.inl rfl))
    (ag (aU (i:=5) ip.nd rfl (Or.inl rfl) (aH cW (pv 5) (aH l5 ah ah)))
    (aq (dD (PW.pt (pw_or (i0 (eR (aE d5.g (hr.mono (by decide)) rfl T.kM T.fA d5.b .nil bZ (aa (pv 1) (aa (pv 2) (aa (pv 3) (aa (pv 5) ae))))))) (pw_or1 (i0 (eR (aE cR.g (hr.mono (by decide)) rfl T.ia T.dY cR.b .nil bZ (aa (pv 5) ae)))))))
     (aq (aT gZ))
     bq))))
   (aq (aT (fO (da uW (pv 4) ah (aZ _)) (ig (aE cR.g (hr.mono (by decide)) rfl T.ia T.dY cR.b .nil bZ (aa (aH cW (aE bE.g (hr.mono (by decide)) rfl T.gq T.dN bE.b .nil bZ (aa (pv 0) (aa ah ae))) (aH l5 ah ah)) ae)))))))))),?_⟩
  intro m mx hm hmx nd;refine⟨m,mx,150,rfl,af,by decide,by decide,λc H1 B1 hc M1=>⟨rfl,?_⟩⟩;have s1:aA H H1:=λb u q=>B1 b u (ai q hm) (by rw[ak (ai q hm),ak (ai q hmx)];exact q);have hHc:H c=none:=by
   by_cases e:c=m
   ·rw[e];exact hm
   ·by_cases e2:c=mx
    ·rw[e2];exact hmx
    ·rw[ak e,ak e2]at hc;exact hc
  refine⟨_,rfl,_,rfl,m,mx,c,_,H,a,ns,rfl,M1,hS,s1,hHc,λr d l xs' ws kvs ms g ps ls av H2 b2 hr' M2 W hd dg hl pl l0 l28 a74 m14 lc hl1=>?_⟩;have s2:aA H H2:=λb u q=>b2 b u (ai q hHc) (s1 _ _ q);refine⟨r,_,rfl,SqT.of hr',rfl,_,_,rfl,_,_,rfl,_,_,rfl,rfl,?_⟩;obtain⟨cs,ec,cl,cm,cb⟩:=iy ns none (some 10);have cb:=cb 10 rfl (by decide);refine⟨by show 1≤sizeLine;decide,λp1 hp1=>?_⟩;have s3:=aA.upd (o:=.lst [V.int 0]) hp1;refine⟨_,rfl,10,rfl,a,_,rfl,(s2.trans s3).seq hS,λp2 hp2=>?_⟩;rw[ec];have s4:=aA.upd (o:=.lst (cs.map V.int)) hp2;refine⟨p1,p2,_,_,rfl,rfl,SqL.of (s4 _ _ (aF s3)),SqL.of (aF s4),by show 1+(cs.map V.int).length≤sizeLine;rw[Dl];exact eW (by omega),λp3 hp3=>?_⟩;have s5:=aA.upd (o:=.lst ([V.int 0]++cs.map V.int)) hp3;have S5:=(s3.trans s4).trans s5;refine⟨p3,rfl,⟨_,SqL.of af⟩,gv (K:=K) (a:=p3) (xs:=(0::cs).map V.int) (λi σ Hx=>∃ v5,σ=[some (.ref a),some (.ref m),some (.ref d),some (.ref l),some (.int av),v5]∧aA H2 Hx∧Hx p3=some (.lst ((0::cs).map V.int))) ⟨none,rfl,S5,af⟩ (λi σ Hx _ ⟨_,_,_,y⟩=>SqL.of y) ?_ ?_⟩
  ·rintro i v σ Hx hi ⟨v5,rfl,sx,h3⟩
   rw[Dw]at hi;obtain⟨zc,_,rfl⟩:=DG.mp hi;refine⟨_,rfl,10,60,rfl,rfl,⟨by decide,by decide⟩,zc,_,rfl,rfl,(by show(0:Int)<10 ^ Int.toNat 60;decide +kernel),?_⟩;refine⟨_,rfl,_,rfl,_,rfl,_,rfl,m,mx,c,xs',ws,d,l,kvs,ms,g,ps,ls,_,rfl,M2.same sx,W,sx _ _ hd,dg,sx _ _ hl,pl.keep (cV.of sx),l0,l28,m14,λH4 s4=>⟨true,rfl,fG rfl ?_⟩⟩;exact⟨_,rfl,_,rfl,λH5 s5=>⟨true,rfl,fG rfl ⟨_,rfl,(sx.trans s4).trans s5,s5 _ _ (s4 _ _ h3)⟩⟩⟩
  ·rintro σ Hx ⟨v5,rfl,sx,_⟩
   refine⟨_,rfl,av,74,rfl,rfl,_,rfl,kh (decide_eq_true a74) ?_⟩;exact⟨_,rfl,a,ns,2,rfl,(s2.trans sx).seq hS,by decide,10,60,rfl,rfl,⟨by decide,by decide⟩,_,_,rfl,rfl,(by show(0:Int)<10 ^ Int.toNat 60;decide +kernel),_,rfl,λH5 _=>k _⟩
end
open PySem.W
section
variable{K:Frag}
def LK(K:Frag)(n q:Str)(s:Stmt)(f:Addr):Prop:=(∃ d,Fun K n q s f d)∧keepIn K (.ref f)=true∧isFn K (.ref f)=true
theorem LK.mk{n q:Str}{s:Stmt}{f:Addr}{od an:Option Addr}{sl:Array (Option Value)}{oc kV dc pm cd ct:Value}(h1:K.lookup f=some ⟨oc,od,.func (fnOf n q (fL s) (er s) (ar s) .none kV dc pm an cd ct),sl⟩)(h2:codeIn K cd q=true)(h3:keepIn K (.ref f)=true)(h4:isFn K (.ref f)=true):LK K n q s f:=⟨⟨_,xI (st:=s) h1 h2 h3⟩,h3,h4⟩
def FI(K:Frag)(c:Addr)(n:Str)(f:Addr):Prop:=findIn K (.ref c) n=some (some (.ref f))
def NF(K:Frag)(c:Addr)(n:Str):Prop:=findIn K (.ref c) n=some none
structure PK(K:Frag)(c:Addr):Prop where
 g:plainGet K c Str.empty=true
 d:hasDictIn K c=true
 o:plainOver K c=true
 s:findIn K (.ref c) "__setattr__" = some (some (.builtin "object.__setattr__"))
 k:keepIn K (.ref c)=true
structure EK(K:Frag)(b e i:Addr):Prop where
 x:mh K e=true
 a:findIn K (.ref e) "__getattribute__" = some (some (.builtin "BaseException.__getattribute__"))
 t:findIn K (.ref e) "__getattr__" = some none
 c:findIn K (.ref e) "__class__" = some (some (.builtin "object.__class__"))
 i:findIn K (.ref e) "__init__" = some (some (.ref i))
 k:keepIn K (.ref e)=true
 v:kitOne K (.ref e) (.type "ValueError")=some true
 s:mroIn K e (.ref b)=some true
end
theorem all_mk{l:OpenLaw}{w:World}{K:Frag}{h:Heap}{mg:Str→Option Value}{fa bB ab cH cI de dQ df cJ dh di dR dj dn ba aG az cy iw bR b8 fU bL a7 aS cU bg cz aQ bt bC a8 aw bD aX bh bj bM bN bo bp kg:Addr}(X:K.In h)(G:h.Ns mainGlobals mg)(hfa:mg "law" = some (.ref fa))
  (nH:nsIn K mainGlobals "HeapError" = some (some (.ref bB)))
  (xH:mh K bB=true)
  (rp:nsIn K mainGlobals "kind_of" = some (some (.ref cy)))
  (Bl:nsIn K mainGlobals "lay" = some (some (.ref iw)))
  (pj:nsIn K mainGlobals "thing_at" = some (some (.ref bR)))
  (pk:nsIn K mainGlobals "resolved" = some (some (.ref b8)))
  (yg:nsIn K mainGlobals "move" = some (some (.ref fU)))
  (mW:nsIn K mainGlobals "fields_at" = some (some (.ref bL)))
  (j4:nsIn K mainGlobals "fields_told" = some (some (.ref a7)))
  (je:nsIn K mainGlobals "look_at_room" = some (some (.ref aS)))
  (rq:nsIn K mainGlobals "book_of" = some (some (.ref cU)))
  (k6:nsIn K mainGlobals "address_in" = some (some (.ref bg)))
  (rA:nsIn K mainGlobals "is_book" = some (some (.ref cz)))
  (mX:nsIn K mainGlobals "_law_cell" = some (some (.ref bD)))
  (k7:nsIn K mainGlobals "_law_mixed" = some (some (.ref aX)))
  (k8:nsIn K mainGlobals "_law_flags" = some (some (.ref bh)))
  (k9:nsIn K mainGlobals "_law_alike" = some (some (.ref bj)))
  (mY:nsIn K mainGlobals "_law_done" = some (some (.ref bM)))
  (mZ:nsIn K mainGlobals "_law_laid" = some (some (.ref bN)))
  (lg:nsIn K mainGlobals "_law_asked" = some (some (.ref bo)))
  (lh:nsIn K mainGlobals "_law_lists" = some (some (.ref bp)))
  (xi:nsIn K mainGlobals "law" = some (some (.ref kg)))
  (rB:nsIn K mainGlobals "Memory" = some (some (.ref aG)))
  (fg:PK K aG)
  (rC:FI K aG "__init__" aQ)
  (iI:makesIn K aG=true)
  (iY:NF K aG "cells")
  (jf:FI K aG "size" bt)
  (lj:FI K aG "at" bC)
  (j5:FI K aG "put" a8)
  (eE:FI K aG "look_at_address" aw)
  (lq:nsIn K mainGlobals "BadAddress" = some (some (.ref ab)))
  (fi0:FI K ab "__init__" az)
  (bu:EK K bB ab az)
  (m4:nsIn K mainGlobals "BadCount" = some (some (.ref cH)))
  (m5:nsIn K mainGlobals "BadField" = some (some (.ref cI)))
  (pz:nsIn K mainGlobals "BadHand" = some (some (.ref de)))
  (rD:nsIn K mainGlobals "BadLog" = some (some (.ref dQ)))
  (pA:nsIn K mainGlobals "BadName" = some (some (.ref df)))
  (m6:nsIn K mainGlobals "BadPaper" = some (some (.ref cJ)))
  (pB:nsIn K mainGlobals "BadText" = some (some (.ref dh)))
  (pD:nsIn K mainGlobals "BadView" = some (some (.ref di)))
  (rE:nsIn K mainGlobals "NoRoom" = some (some (.ref dR)))
  (pE:nsIn K mainGlobals "NoRound" = some (some (.ref dj)))
  (pF:nsIn K mainGlobals "RoundOn" = some (some (.ref dn)))
  (iZ:nsIn K mainGlobals "TooManyWords" = some (some (.ref ba)))
  (a6:kitOne K (.ref ab) (.ref ab)=some true)
  (bW:kitOne K (.ref ab) (.ref cH)=some false)
  (bX:kitOne K (.ref ab) (.ref cI)=some false)
  (cc:kitOne K (.ref ab) (.ref de)=some false)
  (cD:kitOne K (.ref ab) (.ref dQ)=some false)
  (cf:kitOne K (.ref ab) (.ref df)=some false)
  (bY:kitOne K (.ref ab) (.ref cJ)=some false)
  (cg:kitOne K (.ref ab) (.ref dh)=some false)
  (ck:kitOne K (.ref ab) (.ref di)=some false)
  (cE:kitOne K (.ref ab) (.ref dR)=some false)
  (cn:kitOne K (.ref ab) (.ref dj)=some false)
  (cp:kitOne K (.ref ab) (.ref dn)=some false)
  (bw:kitOne K (.ref ab) (.ref ba)=some false)
  (fY:LK K "__init__" "HeapError.__init__" cC az)
  (rF:LK K "kind_of" "kind_of" iH cy)
  (Bm:LK K "lay" "lay" tL iw)
  (pG:LK K "thing_at" "thing_at" fE bR)
  (pH:LK K "resolved" "resolved" g9 b8)
  (yh:LK K "move" "move" pU fU)
  (m7:LK K "fields_at" "fields_at" gh bL)
  (j6:LK K "fields_told" "fields_told" eS a7)
  (jg:LK K "look_at_room" "look_at_room" d6 aS)
  (rG:LK K "book_of" "book_of" gG cU)
  (lr:LK K "address_in" "address_in" fm bg)
  (rH:LK K "is_book" "is_book" gH cz)
  (hU:LK K "__init__" "Memory.__init__" dr aQ)
  (j7:LK K "size" "Memory.size" eT bt)
  (m8:LK K "at" "Memory.at" gi bC)
  (lu:LK K "put" "Memory.put" fo a8)
  (eG:LK K "look_at_address" "Memory.look_at_address" bI aw)
  (m9:LK K "_law_cell" "_law_cell" gj bD)
  (lz:LK K "_law_mixed" "_law_mixed" fq aX)
  (lA:LK K "_law_flags" "_law_flags" ft bh)
  (lB:LK K "_law_alike" "_law_alike" bf bj)
  (ng:LK K "_law_done" "_law_done" gk bM)
  (ni:LK K "_law_laid" "_law_laid" gn bN)
  (lC:LK K "_law_asked" "_law_asked" cM bo)
  (lD:LK K "_law_lists" "_law_lists" dX bp)
  (Bn:LK K "law" "law" tM kg)
  (fc:nsIn K mainGlobals "len" = some none)
  (eB:nsIn K mainGlobals "range" = some none)
  (ik:nsIn K mainGlobals "list" = some none)
  (gz:nsIn K mainGlobals "sorted" = some none)
  (aj:nsIn K mainGlobals "isinstance" = some none)
  (mw:nsIn K mainGlobals "int" = some none)
  (jQ:nsIn K mainGlobals "bool" = some none)
  (my:nsIn K mainGlobals "str" = some none)
  (jw:nsIn K mainGlobals "tuple" = some none)
  (eN:nsIn K mainGlobals "enumerate" = some none)
  (rR:nsIn K mainGlobals "all" = some none)
  (dZ:nsIn K mainGlobals "ValueError" = some none) :
  ∃ fd:FuncData,(∀(s:Shared) (v:Value),BindsTo s fd ⟨[v],[]⟩ [("script",v)])∧∀ base:Heap,K.In base→base.Ns mainGlobals mg→g5 l.prog w K mg base (CXE l.prog w) 12 fa fd ["script"] (rS K):=by
 have e:=(mg_of X G xi).symm.trans hfa;cases e;obtain⟨cdH,_,yH⟩:=ql xH;obtain⟨gW,j8,fB⟩:=ql bu.x;have su:∀ {D:Addr} {cd:ClassData},clsIn K D=some cd→cX K D cd→mroIn K D (.ref bB)=some true→∃ cd,cX K D cd∧cd.mro.contains (.ref bB)=true:=λ{D cd} hc y sb=>⟨cd,y,by
  unfold mroIn at sb;rw[hc,D8,if_neg (by rw[y.iu];decide)]at sb;exact DP sb⟩
 have m:=λ{n:Str} {v:Value} (q:nsIn K mainGlobals n=some (some v))=>mg_of X G q;obtain⟨⟨aM,fZ⟩,mB,f6⟩:=fY;obtain⟨⟨d8,rJ⟩,gI,yj⟩:=rF;obtain⟨⟨mr,Bo⟩,rQ,C5⟩:=Bm;obtain⟨⟨dE,pI⟩,fF,xj⟩:=pG;obtain⟨⟨eA,pJ⟩,hJ,xk⟩:=pH;obtain⟨⟨jN,yi⟩,pV,B5⟩:=yh;obtain⟨⟨dI,nj⟩,gp,uN⟩:=m7;obtain⟨⟨cZ,j9⟩,eV,tD⟩:=j6;obtain⟨⟨bT,jh⟩,dt,rX⟩:=jg;obtain⟨⟨fe,rK⟩,iJ,yk⟩:=rG;obtain⟨⟨du,lE⟩,fu,tN⟩:=lr;obtain⟨⟨d9,rL⟩,ed,yl⟩:=rH;obtain⟨⟨bH,hV⟩,pK,hW⟩:=hU;obtain⟨⟨c3,ka⟩,kc,ke⟩:=j7;obtain⟨⟨cF,nk⟩,nr,nu⟩:=m8;obtain⟨⟨b4,lF⟩,lG,lH⟩:=lu;obtain⟨⟨aJ,eI⟩,eJ,eK⟩:=eG;obtain⟨⟨c7,nv⟩,dN,uO⟩:=m9;obtain⟨⟨b5,lI⟩,bK,tO⟩:=lz;obtain⟨⟨dv,lJ⟩,fw,tP⟩:=lA;obtain⟨⟨cN,lK⟩,dA,tQ⟩:=lB;obtain⟨⟨dJ,ny⟩,eM,uP⟩:=ng;obtain⟨⟨dM,nz⟩,gr,uQ⟩:=ni;obtain⟨⟨dw,lL⟩,fA,tR⟩:=lC;obtain⟨⟨dy,lM⟩,dY,tS⟩:=lD;obtain⟨⟨oK,xm⟩,xb,C6⟩:=Bn
 let D:Ad:=⟨bB,ab,cH,cI,de,dQ,df,cJ,dh,di,dR,dj,dn,ba,aG,az,aM,cy,d8,iw,mr,bR,dE,b8,eA,fU,jN,bL,dI,a7,cZ,aS,bT,cU,fe,bg,du,cz,d9,aQ,bH,bt,c3,bC,cF,a8,b4,aw,aJ,bD,c7,aX,b5,bh,dv,bj,cN,bM,dJ,bN,dM,bo,dw,bp,dy,fa,oK⟩
 have T:Txt K mg D:=⟨⟨cdH,yH⟩,m nH,m lq,⟨⟨gW,fB⟩,⟨bu.a,bu.t⟩,bu.c⟩,⟨⟨gW,fB⟩,bu.i,f6,bu.k⟩,bu.v,su j8 fB bu.s,m m4,m m5,m pz,m rD,m pA,m m6,m pB,m pD,m rE,m pE,m pF,m iZ,a6,bW,bX,cc,cD,cf,bY,cg,ck,cE,cn,cp,bw,m rB,⟨fg.g,fg.d,fg.o,fg.s⟩,⟨iI,rC,hW,fg.k⟩,iY,⟨jf,ke,kc⟩,⟨lj,nu,nr⟩,⟨j5,lH,lG⟩,⟨eE,eK,eJ⟩,m rp,gI,m Bl,rQ,m pj,fF,m pk,hJ,m yg,pV,m mW,gp,m j4,eV,m je,dt,m rq,iJ,m k6,fu,m rA,ed,m mX,dN,m k7,bK,m k8,fw,m k9,dA,m mY,eM,m mZ,gr,m lg,fA,m lh,dY,m xi,xb,mg_none_of X G fc,mg_none_of X G eB,mg_none_of X G ik,mg_none_of X G gz,mg_none_of X G aj,mg_none_of X G mw,mg_none_of X G jQ,mg_none_of X G my,mg_none_of X G jw,mg_none_of X G eN,mg_none_of X G rR,mg_none_of X G dZ⟩;refine⟨oK,λs v=>?_,λbase _ _=>?_⟩
 ·obtain⟨_,_,_,_,_,_,_,_,_,e,_⟩:=xm.ex
  rw[e];exact .of_eq rfl
 have au:=fK (P:=l.prog) (w:=w) (mg:=mg) (base:=base) fZ T;have cw:=gY (P:=l.prog) (w:=w) (mg:=mg) (base:=base) hV T;have dF:=jb (P:=l.prog) (w:=w) (mg:=mg) (base:=base) ka T;have aB:=eD (P:=l.prog) (w:=w) (mg:=mg) (base:=base) eI T au;have aL:=kO (P:=l.prog) (w:=w) (mg:=mg) (base:=base) nk T aB;have aC:=jU (P:=l.prog) (w:=w) (mg:=mg) (base:=base) lF T aB;have dq:=oW (P:=l.prog) (w:=w) (mg:=mg) (base:=base) rJ T;have bc:=iX (P:=l.prog) (w:=w) (mg:=mg) (base:=base) jh T dF au;have dG:=jd (P:=l.prog) (w:=w) (mg:=mg) (base:=base) j9 T aL dq bc au;have eO:=kR (P:=l.prog) (w:=w) (mg:=mg) (base:=base) nj T dG;have cL:=mR (P:=l.prog) (w:=w) (mg:=mg) (base:=base) pI T eO aL;have jz:=x9 (P:=l.prog) (w:=w) (mg:=mg) (base:=base) Bo T bc aC;have fI:=mS (P:=l.prog) (w:=w) (mg:=mg) (base:=base) pJ T aL dq;have mz:=uK (P:=l.prog) (w:=w) (mg:=mg) (base:=base) yi T cL jz aC;have gL:=oZ (P:=l.prog) (w:=w) (mg:=mg) (base:=base) rK T fI cL;have d4:=jW (P:=l.prog) (w:=w) (mg:=mg) (base:=base) lE T;have bO:=pf (P:=l.prog) (w:=w) (mg:=mg) (base:=base) rL T;have cQ:=jX (P:=l.prog) (w:=w) (mg:=mg) (base:=base) lK T;have bE:=kU (P:=l.prog) (w:=w) (mg:=mg) (base:=base) nv T;have aD:=jY (P:=l.prog) (w:=w) (mg:=mg) (base:=base) lI T;have d0:=jZ (P:=l.prog) (w:=w) (mg:=mg) (base:=base) lJ T;have c8:=kY (P:=l.prog) (w:=w) (mg:=mg) (base:=base) ny T gL d0;have cR:=j2 (P:=l.prog) (w:=w) (mg:=mg) (base:=base) lM T aD bO;have eQ:=kZ (P:=l.prog) (w:=w) (mg:=mg) (base:=base) nz T bE aD jz mz aC;have d5:=j3 (P:=l.prog) (w:=w) (mg:=mg) (base:=base) lL T aD c8 cQ bO d4;exact(yf (P:=l.prog) (w:=w) (mg:=mg) (base:=base) xm T cw eQ d5 cR bE).g
theorem walk{l:OpenLaw}{q:Program}{loose:List Str}{XP:(Str→Option Value)→Heap→Prop}{YP:World→Heap→Prop}{d:DefRec}{K:Params→Frag}(hn:l.most=some 63)(hdf:d.params.defaults=[])
  (hY:∀(w:World) (h:Heap),YP w h→(K w.params).In h)
  (F:∀(w:World) (mg:Str→Option Value) (fa:Addr) (h:Heap),(K w.params).In h→h.Ns mainGlobals mg→mg d.name=some (.ref fa) →
   ∃ fd:FuncData,(∀(s:Shared) (u:Value),BindsTo s fd ⟨[u],[]⟩ [("script",u)])∧∀ base:Heap,(K w.params).In base→base.Ns mainGlobals mg→g5 l.prog w (K w.params) mg base (CXE l.prog w) 12 fa fd ["script"] (rS (K w.params))) :
  WalkO q loose XP YP l.row.toRowW d [] (λf vs=>PySem.call f vs) :=
 L2.uf (n:=63) (k:=12) (x := "script") (CX:=λw=>CXE l.prog w) (sp:=λw=>rS (K w.params)) hn (by decide) hdf ⟨rfl,by decide,by decide⟩ hY F (λ_ _ a ns hl _ hS=>⟨a,ns,rfl,hS,hl,λ_=>rfl⟩) λ_ _ _ _ _ z=>Bb z
end K35
end
section
open PySem PySem.W PyProof.Rows
set_option maxRecDepth 100000 in
set_option maxHeartbeats 0 in
theorem PySem.Challenge.cw_stillheap_k35_books_holds : PySem.Challenge.rw_stillheap_k35_books.Holds := by
 w_on;o_law
 refine holds_open (q:=K35.hQ) (loose:=K35.hLo) (Xt:=λs=>xlAt K35.hQ [] s&&recOk (RowW.records (OpenRow.toRowW (OpenLaw.row PySem.Challenge.rw_stillheap_k35_books))) s)
  (XP:=XL K35.hQ []) (Yf:=Hook.obs (kHook K35.hK K35.hAs K35.fR)) (Ya:=Hook.val (kHook K35.hK K35.hAs K35.fR)) (YP:=Hook.says (kHook K35.hK K35.hAs K35.fR)) (N:=9208)
  ?hl (Hook.of (kHook K35.hK K35.hAs K35.fR)) (Hook.keeps (kHook K35.hK K35.hAs K35.fR))
  (λs e=>xl_of s (Bool.and_eq_true_iff.mp e).1) XL.keeps (by rfl) (by rfl) (by rfl)
  (λs e=>recFacts_of (Bool.and_eq_true_iff.mp e).2) (by rfl) (by first|assumption|decide +kernel)
  (by decide +kernel) ⟨rfl,rfl,rfl,rfl,rfl,by decide +kernel⟩ ?hw ?hc
 (case hl=>exact K35.A1)
 (case hw=>w_witness2)
 k_fill
 refine K35.walk (l:=PySem.Challenge.rw_stillheap_k35_books) rfl rfl (λw h Y=>PySem.W.kIn_of Y) ?F
 case F =>
  intro w mg fa h KX G hmg;refine' K35.all_mk KX G hmg ?_ ?_ ?_ ?_ ?_ ?_ ?_ ?_ ?_ ?_ ?_ ?_ ?_ ?_ ?_ ?_ ?_ ?_ ?_ ?_ ?_ ?_ ?_ ?_ ?_ ?_ ?_ ?_ ?_ ?_ ?_ ?_ ?_ ?_ ?_ ?_ ?_ ?_ ?_ ?_ ?_ ?_ ?_ ?_ ?_ ?_ ?_ ?_ ?_ ?_ ?_ ?_ ?_ ?_ ?_ ?_ ?_ ?_ ?_ ?_ ?_ ?_ ?_ ?_ ?_ ?_ ?_ ?_ ?_ ?_ ?_ ?_ ?_ ?_ ?_ ?_ ?_ ?_ ?_ ?_ ?_ ?_ ?_ ?_ ?_ ?_ ?_ ?_ ?_ ?_ ?_ ?_ ?_ ?_ ?_ ?_ ?_
  all_goals first
   | k_is
   | (unfold K35.FI;k_is)
   | (unfold K35.NF;k_is)
   | (refine' K35.LK.mk ?la ?lb ?lc ?ld;(case la=>k_is);(case lb=>k_is);(case lc=>k_is);(case ld=>k_is))
   | kernel_rfl
   | (refine' K35.PK.mk ?_ ?_ ?_ ?_ ?_<;>k_is)
   | (refine' K35.EK.mk ?_ ?_ ?_ ?_ ?_ ?_ ?_ ?_<;>first|k_is|kernel_rfl)
   | skip
end
