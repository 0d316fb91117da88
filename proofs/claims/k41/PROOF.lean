import PyProof.Rows.All
import Wide.All
import OpenK.AllK
import Wide.FinOn
import PyProof.EqAt
import PyProof.EqKinds
import PyProof.TupleCall
import OpenK.KCls
import PyProof.ExcClass2
import PyProof.ExcBaseAll.ValueError
import PyProof.ExcArgs
import PyProof.Rows.Exc
import KE.KIsAll
import PyProof.StationsW
import PyProof.EnumFor
import PyProof.EnumStmt
import PyProof.EnumMake
import PyProof.NeKinds
import PyProof.Rows.SumAny
import KE.KDictSum
import PyProof.Rows.SortWalk
import PyProof.Rows.Range3
import PyProof.Rows.SetFrom
import KE.KEqDict
import PyProof.Rows.DictUnroll
import KE.KRevSl
import PyProof.AutoListH
import PyProof.AttrMiss
import KE.KRevIter
import KE.KSortTup
import KE.KLam
import PyProof.ListRange
import PyProof.SeqI3
import Wide.Seal
import PySem.Challenge.RW_stillheap_k41_forwards_left
set_option Elab.async false
set_option linter.all false
set_option maxRecDepth 100000
set_option maxHeartbeats 4000000
set_option exponentiation.threshold 4000
section
open PySem PySem.W PySem.Spec PyProof.Rows
def Cc:=@List.getElem?_eq_getElem
def Cd:=@List.getElem?_eq_some_iff
def Ce:=@Heap.get?_push_of_some
def Cf:=@List.mem_singleton
def Cg:=@Nat.le_refl
def Ci:=@List.mem_append_right
def Cj:=@List.size_toArray
def Ck:=@Bool.false_ne_true
def Cm:=@List.mem_cons_of_mem
def Cn:=@List.length_map
def Co:=@List.mem_cons_self
def Cp:=@List.take_of_length_le
def Cq:=@List.getElem?_map
def Cr:=@Heap.lt_size
def Cs:=@List.length_append
def Ct:=@List.mem_of_getElem?
def Cu:=@Nat.lt_of_lt_of_le
def Cv:=@Nat.ne_of_lt
def Cw:=@List.mem_cons
def Cy:=@List.mem_append
def Cz:=@List.getD_eq_getElem?_getD
def CA:=@List.length_take
def CB:=@Heap.get?_push_size
def CC:=@Option.some.inj
def CD:=@Option.map_eq_some_iff
def CF:=@List.map_append
def CG:=@Nat.zero_le
def CI:=@List.length_cons
def CJ:=@Int.emod_lt_of_pos
def CK:=@Nat.le_trans
def CL:=@PassesOwn.never
def CM:=@List.getElem?_append_left
def CN:=@List.length_replicate
def CO:=@List.getElem?_append_right
def CP:=@PySem.mem_of_lookup
def CQ:=@List.map_cons
def CS:=@List.length_set
def CT:=@Int.emod_nonneg
def CU:=@Heap.get?_update_other
def CV:=@Ne.symm
def CW:=@Array.getElem?_eq_some_iff
def CY:=@Bool.false_eq_true
def CZ:=@List.getElem?_eq_none
def C0:=@List.replicate_succ
def C1:=@List.length_singleton
def C2:=@List.mem_filterMap
def C3:=@List.take_append_of_le_length
def C4:=@List.getElem?_of_mem
def C5:=@List.nodup_append
def C6:=@Nat.lt_irrefl
def C7:=@Nat.ne_of_gt
def C8:=@List.mem_map
def C9:=@List.take_succ_eq_append_getElem
def Dc:=@List.mem_append_left
def De:=@List.getElem?_set_ne
def Df:=@Option.map_some
def Dh:=@Heap.SameBut.update
def Di:=@List.length_drop
def Dj:=@List.getElem?_set_self
def Dk:=@List.nodup_cons
def Dl:=@List.find?_cons
def Dm:=@List.take_append_drop
def Dn:=@List.flatten_cons
def Dp:=@Around.under_plainId
def Dq:=@List.mem_range
def Dr:=@Option.getD_some
def Ds:=@Nat.le_succ
def Dt:=@Bool.eq_iff_iff
def Du:=@List.any_cons
def Dv:=@Nat.lt_of_le_of_lt
def Dw:=@List.getElem?_drop
def Dx:=@List.getElem?_take
def Dy:=@List.ext_getElem?
def Dz:=@Heap.size_push
def DA:=@Bool.and_false
def DB:=@Nat.sub_self
def DC:=@Bool.and_eq_true
def DD:=@List.not_mem_nil
def DE:=@List.all_eq_true
def DF:=@List.getElem_mem
def DG:=@Array.length_toList
def DH:=@Nat.add_le_add_left
def DI:=@Calls.Name_function_global
def DJ:=@Nat.le_of_lt
def DK:=@List.nodup_nil
def DL:=@List.append_assoc
def DM:=@Option.isSome_map
def DN:=@List.length_range
def DO:=@List.getElem?_set
def DP:=@List.prefix_refl
def DQ:=@List.append_nil
def DR:=@List.of_mem_zip
end
section
namespace L2
open PySem PySem.Spec PyProof.Rows
abbrev Key:=Sum Int Str
def lg:Key→Value→Bool
  | .inl k,v=>Value.isInt k v
  | .inr x,v=>Value.isStrOf x v
def A7(w:World):Key→Int
  | .inl k=>hashInt k
  | .inr x=>hashStr w x
theorem bD:∀ {k:Key} {v:Value},lg k v=true→(∃ i t,k=Sum.inl i∧v=Value.int i t)∨(∃ x t,k=Sum.inr x∧v=Value.str x t)
  | .inl i,v,h=>by
    obtain⟨t,e⟩:=Value.isInt_shape (k:=i) (v:=v) h;exact .inl ⟨i,t,rfl,e⟩
  | .inr x,v,h=>by
    obtain⟨t,e⟩:=Value.isStrOf_shape (x:=x) (v:=v) h;exact .inr ⟨x,t,rfl,e⟩
theorem rd(i:Int)(t:Tok):lg (.inl i) (.int i t)=true:=by simp[lg,Value.isInt]
theorem rf(x:Str)(t:Tok):lg (.inr x) (.str x t)=true:=by simp[lg,Value.isStrOf]
theorem wD(a b:Int):decide ((Sum.inl a:Key)=Sum.inl b)=(a == b):=by
  by_cases e:a=b
  · subst e;simp
  · have h:¬(Sum.inl a:Key)=Sum.inl b:=λq=>e (Sum.inl.inj q)
    rw[decide_eq_false h];exact(beq_eq_false_iff_ne.mpr e).symm
theorem wF(a b:Str):decide ((Sum.inr a:Key)=Sum.inr b)=decide (a=b):=by
  by_cases e:a=b
  · subst e;simp
  · have h:¬(Sum.inr a:Key)=Sum.inr b:=λq=>e (Sum.inr.inj q)
    rw[decide_eq_false h,decide_eq_false e]
theorem wG(a:Int)(b:Str):decide ((Sum.inl a:Key)=Sum.inr b)=false:=decide_eq_false (λq=>nomatch q)
theorem wH(a:Str)(b:Int):decide ((Sum.inr a:Key)=Sum.inl b)=false:=decide_eq_false (λq=>nomatch q)
def bR(prog:Program)(w:World):PySem.KeyKind prog w Key where
  is:=lg
  hash:=A7 w
  inj:=λv a b ha hb=>by
    rcases bD ha with⟨i,t,rfl,rfl⟩|⟨x,t,rfl,rfl⟩
    · rcases bD hb with⟨j,u,rfl,e⟩|⟨y,u,rfl,e⟩
      · injection e with e1 _;rw[e1]
      · exact nomatch e
    · rcases bD hb with⟨j,u,rfl,e⟩|⟨y,u,rfl,e⟩
      · exact nomatch e
      · injection e with e1 _;rw[e1]
  byValue:=λk v h=>by
    rcases bD h with⟨i,t,rfl,rfl⟩|⟨x,t,rfl,rfl⟩<;>rfl
  pyHash:=λhv h=>by
    rcases bD hv with⟨i,t,rfl,rfl⟩|⟨x,t,rfl,rfl⟩
    · exact wpAny_pyHash_int h
    · exact wpAny_pyHash_str h
  eqBool:=λhu hv h=>by
    rcases bD hu with⟨i,t,rfl,rfl⟩|⟨x,t,rfl,rfl⟩
    · rcases bD hv with⟨j,u,rfl,rfl⟩|⟨y,u,rfl,rfl⟩
      · rw[wD]at h;exact wpAny_eqBool_int h
      · rw[wG]at h;exact SeqAt.EqAt.int_str i t y u _ _ _ _ h
    · rcases bD hv with⟨j,u,rfl,rfl⟩|⟨y,u,rfl,rfl⟩
      · rw[wH]at h;exact SeqAt.EqAt.str_int x t j u _ _ _ _ h
      · rw[wF]at h;exact wpAny_eqBool_str h
  «strs» := λk x t v h=>by
    rcases bD h with⟨i,u,rfl,e⟩|⟨y,u,rfl,e⟩
    · exact nomatch e
    · injection e with e1 _
      subst e1;cases v<;>rfl
theorem nR(prog:Program)(w:World)(i:Int)(t:Tok):(bR prog w).is (.inl i) (.int i t)=true:=rd i t
theorem nS(prog:Program)(w:World)(x:Str)(t:Tok):(bR prog w).is (.inr x) (.str x t)=true:=rf x t
end L2
namespace L2
open PySem PySem.Spec PyProof.Rows
inductive V where
  | non|bl (b:Bool)|int (i:Int)|str (x:Str)|byt (b:Array UInt8)|flt (b:UInt64)|ref (a:Addr)|ty (n:String)
  deriving DecidableEq
def RelV:V→Value→Prop
  | .non,u=>u=Value.none
  | .bl b,u=>u=Value.bool b
  | .int i,u=>∃ t,u=Value.int i t
  | .str x,u=>∃ t,u=Value.str x t
  | .byt b,u=>∃ t,u=Value.bytes b t
  | .flt b,u=>∃ t,u=Value.float b t
  | .ref a,u=>u=Value.ref a
  | .ty n,u=>u=Value.type n
abbrev Vals:List V→List Value→Prop:=Paired RelV
theorem Vals.length{xs:List V}{us:List Value}(r:Vals xs us):xs.length=us.length:=Paired.length r
theorem Vals.get:∀ {xs:List V} {us:List Value} {i:Nat} {x:V},Vals xs us→xs[i]?=some x→∃ u,us[i]?=some u∧RelV x u
  | _,_,_,_,.nil,e=>by simp at e
  | _,_,0,_,.cons r _,e=>by simp at e;subst e;exact⟨_,rfl,r⟩
  | _,_,i+1,x,.cons _ t,e=>by
    obtain⟨u,h1,h2⟩:=Vals.get (i:=i) (x:=x) t (by simpa using e);exact⟨u,by simpa using h1,h2⟩
theorem Vals.set{x:V}{u:Value}(r:RelV x u):∀ {xs:List V} {us:List Value} (i:Nat),Vals xs us→Vals (xs.set i x) (us.set i u)
  | _,_,_,.nil=>.nil
  | _,_,0,.cons _ t=>.cons r t
  | _,_,i+1,.cons q t=>.cons q (Vals.set r i t)
theorem Vals.append:∀ {xs ys:List V} {us ws:List Value},Vals xs us→Vals ys ws→Vals (xs++ys) (us++ws)
  | _,_,_,_,.nil,s=>s
  | _,_,_,_,.cons r t,s=>.cons r (Vals.append t s)
theorem Vals.take:∀ {xs:List V} {us:List Value} (n:Nat),Vals xs us→Vals (xs.take n) (us.take n)
  | _,_,0,_=>.nil
  | _,_,_+1,.nil=>.nil
  | _,_,n+1,.cons r t=>.cons r (Vals.take n t)
theorem Vals.drop:∀ {xs:List V} {us:List Value} (n:Nat),Vals xs us→Vals (xs.drop n) (us.drop n)
  | _,_,0,r=>r
  | _,_,_+1,.nil=>.nil
  | _,_,n+1,.cons _ t=>Vals.drop n t
def iD:Option V→Option Value→Prop
  | some v,some u=>RelV v u
  | none,none=>True
  | _,_=>False
def KV{κ:Type}:List (κ×V)→List (κ×Value)→Prop:=Paired λ(p:κ×V) (q:κ×Value)=>p.1=q.1∧RelV p.2 q.2
def kV:Key→V
  | .inl i=>.int i
  | .inr x=>.str x
inductive HO where
  | lst (xs:List V)
  | tup (xs:List V)
  | dK (kvs:List (Key×V))|dT (kvs:List (List Key×V))
  | set (S:Int→Bool) (n:Nat)
  | ins (C dx:Addr) (fs:List (Str×V))
  | own (x:Addr)
  | xd (fs:List (Str×V))
  | met (f x:Addr)
  | rng (lo hi:Int)
  | frz (o:Obj) (u:HO)
  | tbl (ps:Array Value)
  | ext (φ:Heap→Prop)
abbrev Hp:=Addr→Option HO
def upd(H:Hp)(a:Addr)(o:HO):Hp:=λb=>if b=a then some o else H b
theorem ab{H:Hp}{a:Addr}{o:HO}:upd H a o a=some o:=by unfold upd;rw[if_pos rfl]
theorem ag{H:Hp}{a b:Addr}{o:HO}(h:b≠a):upd H a o b=H b:=by unfold upd;rw[if_neg h]
theorem bo{H:Hp}{a b:Addr}{o u:HO}(h:H a=some o)(h':H b=some u)(d:o≠u):a≠b:=by
  intro e;subst e;rw[h]at h';exact d (CC h')
theorem ae{H:Hp}{a b:Addr}{o:HO}(h:H a=some o)(h':H b=none):a≠b:=by
  intro e;subst e;rw[h]at h';cases h'
section
variable(P:Program)(w:World)
def cb(H:Hp)(h:Heap)(a:Addr):HO→Prop
  | .lst xs=>xs.length≤sizeLine∧∃(its:List Value) (n:Nat),Vals xs its∧h.get? a=some {cls:=.type "list",data:=.seq its.toArray n}
  | .tup xs=>xs.length≤sizeLine∧∃ its:List Value,Vals xs its∧IsTup h a its.toArray
  | .dK kvs=>kvs.length≤sizeLine∧(a == sysModules)=false∧∃ vs,KV kvs vs∧h.DictOf (bR P w) a vs
  | .dT kvs=>kvs.length≤sizeLine∧(a == sysModules)=false∧∃ xs:List (List Key×Addr×Value),
      Paired (λ(p:List Key×V) (q:List Key×Addr×Value)=>p.1=q.1∧H q.2.1=some (.tup (p.1.map kV))∧RelV p.2 q.2.2) kvs xs ∧
      ∃ o es ep,h.get? a=some o∧o.ExactDict∧o.data=.dict es ep∧es.toList=xs.map (entryOfKey (tupleKind (bR P w)))∧(xs.map (·.1)).Nodup
  | .set S n=>h.SetOf (intKind P w) a S n
  | .ins C dx fs=>H dx=some (.own a)∧fs.length≤1000∧dx≠a∧h.get? a=some (PySem.W.instObj C dx) ∧
      ∃ mA,h.Ns1 dx mA∧(∀ f,iD (fs.lookup f) (mA f))∧PySem.Within mA (fs.map (·.1))
  | .own _=>∃ o,h.get? a=some o
  | .xd fs=>∃ mA,h.Ns1 a mA∧∀ f,iD (fs.lookup f) (mA f)
  | .rng lo hi=>∃ t u v,h.get? a=some {cls:=.type "range",data:=.fields #[.int lo t,.int hi u,.int 1 v]}
  | .frz o u=>h.get? a=some o∧cb H h a u
  | .tbl ps=>h.get? a=some {cls:=.none,data:=.fields ps}
  | .met f x=>h.get? a=some (PySem.W.methodObj (.ref f) (.ref x))
  | .ext φ=>φ h∧(∃ o,h.get? a=some o)∧∀ h1 h2:Heap,φ h1→(∀ o,h1.get? a=some o→h2.get? a=some o)→φ h2
def HOk(H:Hp)(h:Heap):Prop:=∀ a o,H a=some o→cb P w H h a o
end
section
variable{P:Program}{w:World}{H H':Hp}{h h':Heap}{a:Addr}{o:HO}
theorem cb.lt(x:cb P w H h a o):a<h.objs.size:=by
  cases o with
  | lst xs=>obtain⟨_,_,_,_,e⟩:=x;exact Cr e
  | tup xs=>obtain⟨_,_,_,p⟩:=x;exact p.lt
  | dK kvs=>obtain⟨_,_,_,_,o,_,_,e,_⟩:=x;exact Cr e
  | dT kvs=>obtain⟨_,_,_,_,o,_,_,e,_⟩:=x;exact Cr e
  | set S n=>obtain⟨o,_,_,_,e,_⟩:=x;exact Cr e
  | ins C dx fs=>obtain⟨_,_,_,e,_⟩:=x;exact Cr e
  | own y=>obtain⟨_,e⟩:=x;exact Cr e
  | xd fs=>obtain⟨_,⟨_,_,_,e,_⟩,_⟩:=x;exact Cr e
  | rng lo hi=>obtain⟨_,_,_,e⟩:=x;exact Cr e
  | frz ob u=>obtain⟨e,_⟩:=x;exact Cr e
  | tbl ps=>exact Cr (show h.get? a=some _ from x)
  | met f y=>exact Cr (show h.get? a=some _ from x)
  | ext φ=>obtain⟨_,⟨_,e⟩,_⟩:=x;exact Cr e
theorem Paired.xC{α β:Type}{F G:α→β→Prop}:∀ {l₁:List α} {l₂:List β},Paired F l₁ l₂→(∀ a b,F a b→G a b)→Paired G l₁ l₂
  | _,_,.nil,_=>.nil
  | _,_,.cons r t,f=>.cons (f _ _ r) (Paired.xC t f)
theorem cb.mX(x:cb P w H h a o)(k:∀ b u,(b=a∨H b=some (.own a))→h.get? b=some u→h'.get? b=some u)
    (ho:∀ b,H b=some (.own a)→H' b=some (.own a)) (ht:∀ b xs,H b=some (.tup xs)→H' b=some (.tup xs)):cb P w H' h' a o:=by
  induction o with
  | lst xs=>obtain⟨z,its,n,r,e⟩:=x;exact⟨z,its,n,r,k _ _ (.inl rfl) e⟩
  | tup xs=>obtain⟨z,its,r,ob,e,c⟩:=x;exact⟨z,its,r,ob,k _ _ (.inl rfl) e,c⟩
  | dK kvs=>obtain⟨z,y,vs,r,ob,es,ep,e,c⟩:=x;exact⟨z,y,vs,r,ob,es,ep,k _ _ (.inl rfl) e,c⟩
  | dT kvs =>
    obtain⟨z,y,xs,r,ob,es,ep,e,c⟩:=x;exact⟨z,y,xs,Paired.xC r λp q z=>⟨z.1,ht _ _ z.2.1,z.2.2⟩,ob,es,ep,k _ _ (.inl rfl) e,c⟩
  | set S n=>obtain⟨ob,es,ep,t,e,c⟩:=x;exact⟨ob,es,ep,t,k _ _ (.inl rfl) e,c⟩
  | ins C dx fs =>
    obtain⟨d,z,ne,e,mA,⟨od,es,ep,e2,c⟩,r⟩:=x;exact⟨ho _ d,z,ne,k _ _ (.inl rfl) e,mA,⟨od,es,ep,k _ _ (.inr d) e2,c⟩,r⟩
  | own y=>obtain⟨ob,e⟩:=x;exact⟨ob,k _ _ (.inl rfl) e⟩
  | xd fs=>obtain⟨mA,⟨od,es,ep,e,c⟩,r⟩:=x;exact⟨mA,⟨od,es,ep,k _ _ (.inl rfl) e,c⟩,r⟩
  | rng lo hi=>obtain⟨t,u,v,e⟩:=x;exact⟨t,u,v,k _ _ (.inl rfl) e⟩
  | frz ob u ih=>obtain⟨e,q⟩:=x;exact⟨k _ _ (.inl rfl) e,ih q⟩
  | tbl ps =>
    have e:h.get? a=some {cls:=.none,data:=.fields ps}:=x;show h'.get? a=some {cls:=.none,data:=.fields ps};exact k a _ (.inl rfl) e
  | met f y =>
    have e:h.get? a=some (PySem.W.methodObj (.ref f) (.ref y)):=x;show h'.get? a=some (PySem.W.methodObj (.ref f) (.ref y));exact k a _ (.inl rfl) e
  | ext φ=>obtain⟨p,⟨o,e⟩,st⟩:=x;exact⟨st _ _ p λo q=>k _ _ (.inl rfl) q,⟨o,k _ _ (.inl rfl) e⟩,st⟩
theorem HOk.lt(x:HOk P w H h)(e:H a=some o):a<h.objs.size:=(x a o e).lt
theorem HOk.fresh(x:HOk P w H h)(e:h.objs.size≤a):H a=none:=by
  cases q:H a with
  | none=>rfl
  | some u=>exact absurd (Cu (x.lt q) e) (C6 _)
theorem HOk.kept(x:HOk P w H h)(k:∀ b u,h.get? b=some u→h'.get? b=some u):HOk P w H h':=λa o e =>
  (x a o e).mX (λb u _ q=>k b u q) (λ_ q=>q) λ_ _ q=>q
theorem HOk.laid(x:HOk P w H h)(k:∀ b u,h.get? b=some u→h'.get? b=some u)(hp:h.objs.size≤a)(new:cb P w (upd H a o) h' a o):HOk P w (upd H a o) h':=λb u e=>by
  have hn:=x.fresh hp;by_cases hb:b=a
  · subst hb;rw[ab]at e;cases e;exact new
  · rw[ag hb]at e
    exact(x b u e).mX (λc v _ q=>k c v q) (λc q=>by rw[ag (ae q hn)];exact q) λc xs q=>by rw[ag (ae q hn)];exact q
end
def Rd(H:Hp)(a:Addr)(u:HO):Prop:=H a=some u∨∃ o,H a=some (.frz o u)
theorem Rd.ok{P:Program}{w:World}{H:Hp}{h:Heap}{a:Addr}{u:HO}(r:Rd H a u)(x:HOk P w H h):cb P w H h a u:=by
  rcases r with r|⟨o,r⟩
  · exact x a u r
  · obtain⟨_,q⟩:=x a _ r
    exact q
def Mut:Option HO→Prop
  | some (.lst _)=>True
  | some (.dK _)=>True
  | some (.dT _)=>True
  | some (.set _ _)=>True
  | some (.ins _ _ _)=>True
  | some (.ext _)=>True
  | _=>False
section
variable{P:Program}{w:World}{H:Hp}{h h':Heap}{x e:Addr}{o':HO}
theorem HOk.write(ok:HOk P w H h)(mu:Mut (H x))(he:e=x∨H e=some (.own x))(k:∀ b u,b≠e→h.get? b=some u→h'.get? b=some u)(heo:∃ u,h'.get? e=some u)
    (new:cb P w (upd H x o') h' x o'):HOk P w (upd H x o') h':=λb u q=>by
  have Ac:∀ c y,H c=some (.own y)→c≠x:=λc y r z=>by subst z;rw[r]at mu;exact mu
  have A8:∀ c xs,H c=some (.tup xs)→c≠x:=λc xs r z=>by subst z;rw[r]at mu;exact mu
  by_cases hb:b=x
  · subst hb;rw[ab]at q;cases q;exact new
  · rw[ag hb]at q
    by_cases hbe:b=e
    · have q':H b=some (.own x):=by
        rcases he with z|z
        · exact absurd (hbe.trans z) hb
        · rw[hbe];exact z
      rw[q]at q';cases q';obtain⟨v,hv⟩:=heo;exact⟨v,by rw[hbe];exact hv⟩
    · refine(ok b u q).mX (λc v hc r=>k c v ?_ r) (λc r=>by rw[ag (Ac c b r)];exact r) λc xs r=>by rw[ag (A8 c xs r)];exact r
      rcases hc with rfl|hc
      · exact hbe
      · rintro rfl
        rcases he with z|z
        · exact Ac c b hc z
        · rw[hc]at z;cases z;exact hb rfl
end
structure Un(fs ex:List Addr)(H H':Hp)(h h':Heap):Prop where
  keep:∀ b o,h.get? b=some o→H b=none→b∉fs→b∉ex→h'.get? b=some o
  slot:∀ b o,h.get? b=some o→H b=none→b∈fs→b∉ex→∃ sl,h'.get? b=some {o with slots:=sl}
  free:∀ b o,h.get? b=some o→H b=none→b∉ex→H' b=none
  there:∀ b o,h.get? b=some o→b∉ex→∃ o',h'.get? b=some o'
  jy:∀ b xs,H b=some (.tup xs)→H' b=some (.tup xs)
  lq:∀ b o u,H b=some (.frz o u)→H' b=some (.frz o u)
  lu:∀ b ps,H b=some (.tbl ps)→∃ more,H' b=some (.tbl (ps++more))
section
variable{fs fs' ex ex':List Addr}{H H1 H2:Hp}{h h1 h2 h':Heap}{a x e:Addr}{o:HO}
theorem Un.any(u:Un fs ex H H1 h h1){b:Addr}{ob:Obj}(q:h.get? b=some ob)(n:H b=none)(hx:b∉ex):∃ sl,h1.get? b=some {ob with slots:=sl}:=by
  by_cases hb:b∈fs
  · exact u.slot b ob q n hb hx
  · exact⟨ob.slots,u.keep b ob q n hb hx⟩
theorem Un.kept(k:∀ b u,h.get? b=some u→h'.get? b=some u):Un fs ex H H h h' :=
  ⟨λb ob q _ _ _=>k b ob q,λb ob q _ _ _=>⟨ob.slots,k b ob q⟩,λ_ _ _ n _=>n,λb ob q _=>⟨ob,k b ob q⟩,λ_ _ q=>q,λ_ _ _ q=>q,λ_ ps q=>⟨#[],by rw[q];simp⟩⟩
theorem Un.refl:Un fs ex H H h h:=Un.kept λ_ _ q=>q
theorem Un.laid(k:∀ b u,h.get? b=some u→h'.get? b=some u)(hp:h.objs.size≤a)(hn:H a=none):Un fs ex H (upd H a o) h h' where
  keep:=λb u q _ _ _=>k b u q
  slot:=λb u q _ _ _=>⟨u.slots,k b u q⟩
  free:=λb u q n _=>by rw[ag (Cv (Cu (Cr q) hp))];exact n
  there:=λb u q _=>⟨u,k b u q⟩
  jy:=λb xs q=>by rw[ag (ae q hn)];exact q
  lq:=λb u xs q=>by rw[ag (ae q hn)];exact q
  lu:=λb ps q=>⟨#[],by rw[ag (ae q hn),q];simp⟩
theorem Un.write(mu:Mut (H x))(he:e=x∨H e=some (.own x))(k:∀ b u,b≠e→h.get? b=some u→h'.get? b=some u)(heo:∃ u,h'.get? e=some u):Un fs ex H (upd H x o) h h':=by
  have hx:∀ b,H b=none→b≠x:=λb n z=>by subst z;rw[n]at mu;exact mu
  have hb:∀ b,H b=none→b≠e:=λb n z=>by
    subst z;rcases he with r|r
    · exact hx b n r
    · rw[n]at r;cases r
  have hm:∀ b u,H b=some u→¬Mut (some u)→b≠x:=λb u q nm z=>by subst z;rw[q]at mu;exact nm mu
  refine⟨λb u q n _ _=>k b u (hb b n) q,λb u q n _ _=>⟨u.slots,k b u (hb b n) q⟩,λb u q n _=>by rw[ag (hx b n)];exact n,λb u q _=>?_,
    λb xs q=>by rw[ag (hm b _ q λz=>z)];exact q,λb u xs q=>by rw[ag (hm b _ q λz=>z)];exact q,λb ps q=>⟨#[],by rw[ag (hm b _ q λz=>z),q];simp⟩⟩
  by_cases hbe:b=e
  · subst hbe;exact heo
  · exact⟨u,k b u hbe q⟩
end
def trk(h:Heap)(H:Hp):List Addr:=(List.range h.objs.size).filter λa=>(H a).isSome
def oI(h:Heap)(H:Hp):Heap:=PySem.W.hideAll h (trk h H)
theorem rg(h:Heap)(H:Hp):(oI h H).objs.size=h.objs.size:=PySem.W.hideAll_size _ _
theorem sR{h:Heap}{H:Hp}{b:Addr}{o:Obj}(e:h.get? b=some o)(n:H b=none):(oI h H).get? b=some o :=
  PySem.W.hideAll_get _ e λhm=>by
    have q:(H b).isSome=true:=(List.mem_filter.mp hm).2;rw[n]at q;simp at q
theorem uV{h:Heap}{H:Hp}{b:Addr}{o:Obj}(e:(oI h H).get? b=some o):h.get? b=some o∧H b=none:=by
  have e':h.get? b=some o:=PySem.W.of_hideAll (trk h H) e;refine⟨e',?_⟩;cases q:H b with
  | none=>rfl
  | some x =>
    have hm:b∈trk h H:=List.mem_filter.mpr ⟨Dq.mpr (Cr e'),by simp[q]⟩;have z:(oI h H).get? b=none:=PySem.W.hideAll_none (trk h H) hm;rw[z]at e;cases e
end L2
namespace L2
open PySem PySem.Spec PyProof.Rows
structure Mod(K:W.Frag)(mg:Str→Option Value)(base:Heap):Prop where
  kin:K.In base
  glob:base.Ns mainGlobals mg
  blt:∃ mb,base.Ns builtinsNs mb∧∀ x:Str,x ≠ "__name__" → mb x=bootBuiltins x
  nolimit:base.NoLimit
structure Cx where
  prog:Program
  w:World
  K:W.Frag
  mg:Str→Option Value
  base:Heap
  A:Around
  N:List Str
  s₀:Shared
  H₀:Hp
  env:Env
  outer:List Env
  stack:List Env
  ex:List Addr
  fn:Str→Bool
  calm:Bool
  pn:List (Addr×Obj)
  xe:Value→Shared→Prop
def frs(l:List Env):List Addr:=l.filterMap (·.frame)
abbrev Cx.fs(X:Cx):List Addr:=frs X.outer
def Vis(sc:Scope)(x:Str):Prop:=sc.names.lookup x=some .local∨sc.names.lookup x=some .cell∨sc.names.lookup x=some .free
def Loc(sc:Scope)(x:Str):Prop:=sc.names.lookup x=some .local∨sc.names.lookup x=some .cell
def Look(env:Env)(h:Heap)(m:Str→Option Value)(x:Str)(u:Value):Prop :=
  (env.kindOf x=some .local∧m x=some u)∨((env.kindOf x=some .cell∨env.kindOf x=some .free)∧∃ c,env.cells.lookup x=some c∧h.IsCell c (some u))
structure Cx.Ok(X:Cx):Prop where
  mod:Mod X.K X.mg X.base
  kind:X.env.scope.kind=.function
  glob:X.env.globals=mainGlobals
  blt:X.env.builtins=builtinsNs
  above:X.s₀.heap.objs.size≤X.env.locals
  inj:∀ x y c,X.env.cells.lookup x=some c→X.env.cells.lookup y=some c→x=y
  has:∀ x,(X.env.kindOf x=some .cell∨X.env.kindOf x=some .free)→∃ c,X.env.cells.lookup x=some c
  cab:∀ x c,X.fn x=true→X.env.cells.lookup x=some c→X.s₀.heap.objs.size≤c
  hd:X.calm=true→X.A.handled=none
  frames:X.A.frames=some X.stack
  stk:X.stack=X.outer∨(X.stack=X.env::X.outer∧X.env.frame=some X.env.locals)
  exf:∀ b∈X.ex,b≠X.env.locals∧∀ x c,X.env.cells.lookup x=some c→c≠b
  bs:∀ b o,X.base.get? b=some o→X.s₀.heap.get? b=some o∧X.H₀ b=none
  bsz:X.base.objs.size≤X.s₀.heap.objs.size
  uW:∀ b o,X.base.get? b=some o→b∉X.ex
  vD:∀ b∈X.ex,b∉X.fs
  lA:X.s₀.heap.FunFrames X.base X.outer
  frf:∀ b∈X.fs,X.H₀ b=none
structure Inv(X:Cx)(pins:List (Addr×Obj))(σ:List (Option V))(H:Hp)(s:Shared):Prop where
  ok:X.Ok
  os:s.os=X.s₀.os
  bare:AllBare s.gens
  base:Un X.fs X.ex X.H₀ H X.s₀.heap s.heap
  loc:∃ m,s.heap.Ns X.env.locals m∧∀(i:Nat) (x:Str) (v:V),X.N[i]?=some x→σ[i]?=some (some v)→Vis X.env.scope x→∃ u,RelV v u∧Look X.env s.heap m x u
  cell:∀ x c,X.env.cells.lookup x=some c→∃ v,s.heap.IsCell c v
  free:H X.env.locals=none
  gH:∀ x c,X.env.cells.lookup x=some c→H c=none
  pin:∀ p∈X.pn++pins,s.heap.get? p.1=some p.2∧H p.1=none∧p.1≠X.env.locals∧p.1∉X.fs∧∀ v,p.2.data≠.cell v
  hok:HOk X.prog X.w H s.heap
  len:σ.length=X.N.length
section
variable{X:Cx}{pins:List (Addr×Obj)}{σ:List (Option V)}{H H':Hp}{s:Shared}{h':Heap}
theorem Cx.Ok.A9(ok:X.Ok){b:Addr}{o:Obj}(e:X.base.get? b=some o):b∉X.fs:=λhb=>by
  have:=(ok.lA.mem hb).1
  rw[e]at this;cases this
theorem Inv.bs(I:Inv X pins σ H s):∀ b o,X.base.get? b=some o→s.heap.get? b=some o∧H b=none:=λb o e =>
  ⟨I.base.keep b o (I.ok.bs b o e).1 (I.ok.bs b o e).2 (I.ok.A9 e) (I.ok.uW b o e),I.base.free b o (I.ok.bs b o e).1 (I.ok.bs b o e).2 (I.ok.uW b o e)⟩
theorem Inv.bk(I:Inv X pins σ H s):∀ b o,X.base.get? b=some o→s.heap.get? b=some o:=λb o e=>(I.bs b o e).1
theorem Inv.mod(I:Inv X pins σ H s):Mod X.K X.mg X.base:=I.ok.mod
theorem Inv.kIn(I:Inv X pins σ H s):X.K.In s.heap:=I.ok.mod.kin.keeps I.bk
theorem Inv.nolimit(I:Inv X pins σ H s):s.heap.NoLimit:=I.ok.mod.nolimit.keeps I.bk
theorem Inv.lt(I:Inv X pins σ H s):X.env.locals<s.heap.objs.size:=let ⟨_,hn,_⟩:=I.loc;hn.lt
theorem Inv.sz(I:Inv X pins σ H s):X.s₀.heap.objs.size≤s.heap.objs.size:=CK I.ok.above (DJ I.lt)
theorem Inv.uX(I:Inv X pins σ H s){a:Addr}(h:s.heap.objs.size≤a):a∉X.fs:=λhb=>by
  obtain⟨_,o,ho,_⟩:=I.ok.lA.mem hb;exact absurd (Cu (Cr ho) (CK I.sz h)) (C6 _)
theorem Inv.cne(I:Inv X pins σ H s):∀ x c,X.env.cells.lookup x=some c→c≠X.env.locals:=λx c e z=>by
  obtain⟨v,o,ho,hd⟩:=I.cell x c e;obtain⟨m,⟨o',es,ep,ho',hd',_⟩,_⟩:=I.loc;rw[z,ho']at ho;cases ho;rw[hd']at hd;cases hd
theorem Inv.lA(I:Inv X pins σ H s):s.heap.FunFrames X.base X.outer:=by
  have all:∀(l:List Env),(∀ b∈frs l,b∈X.fs)→X.s₀.heap.FunFrames X.base l→s.heap.FunFrames X.base l:=by
    intro l;induction l with
    | nil=>intro _ _;trivial
    | cons env r ih =>
      intro hs hl;obtain⟨hk,⟨L,o,hf,hn,ho,hd⟩,hr⟩:=hl;have hL:L∈X.fs:=hs L (by unfold frs;rw[List.filterMap_cons,hf];exact Co);obtain⟨sl,e⟩:=I.base.slot L o ho (I.ok.frf L hL) hL λz=>I.ok.vD L z hL;exact⟨hk,⟨L,_,hf,hn,e,hd⟩,ih (λb hb=>hs b (by unfold frs;rw[List.filterMap_cons,hf];exact Cm _ hb)) hr⟩
  exact all X.outer (λ_ hb=>hb) I.ok.lA
theorem Inv.stack(I:Inv X pins σ H s):s.heap.FunFrames X.base X.stack:=by
  rcases I.ok.stk with e|⟨e,hf⟩
  · rw[e];exact I.lA
  · rw[e]
    obtain⟨m,hn,_⟩:=I.loc;refine .cons (by rw[I.ok.kind];decide) hf hn ?_ I.lA;exact Heap.get?_none_of_le (CK I.ok.bsz I.ok.above)
theorem Inv.iY(I:Inv X pins σ H s):∀ b∈frs X.stack,b∈X.env.locals::X.fs:=λb hb=>by
  rcases I.ok.stk with e|⟨e,hf⟩
  · rw[e]at hb;exact Cm _ hb
  · rw[e]at hb
    unfold frs at hb;rw[List.filterMap_cons,hf]at hb;exact hb
theorem Inv.gN(I:Inv X pins σ H s):∀ b∈frs X.stack,H b=none:=λb hb=>by
  rcases Cw.mp (I.iY b hb) with e|hb
  · rw[e];exact I.free
  · obtain⟨_,o,ho,_⟩:=I.ok.lA.mem hb
    exact I.base.free b o ho (I.ok.frf b hb) λz=>I.ok.vD b z hb
theorem Inv.step{g':Array GenState}{t':Nat}{d':Drawn}{ch:List Addr}(I:Inv X pins σ H s)
    (hch:∀ b∈ch,(b∈X.ex∨X.s₀.heap.objs.size≤b)∧b≠X.env.locals∧(∀ x c,X.env.cells.lookup x=some c→c≠b)∧∀ p∈X.pn++pins,p.1≠b)
    (keep:∀ b o,b≠X.env.locals→b∉X.fs→b∉ch→s.heap.get? b=some o→H b=none→h'.get? b=some o)
    (slot:∀ b o,b≠X.env.locals→b∈X.fs→b∉ch→s.heap.get? b=some o→H b=none→∃ sl,h'.get? b=some {o with slots:=sl}) (free:∀ b o,b∉ch→s.heap.get? b=some o→H b=none→H' b=none)
    (there:∀ b o,b∉ch→s.heap.get? b=some o→∃ o',h'.get? b=some o')
    (jy:∀ b xs,H b=some (.tup xs)→H' b=some (.tup xs)) (lq:∀ b o u,H b=some (.frz o u)→H' b=some (.frz o u)) (lu:∀ b ps,H b=some (.tbl ps)→∃ more,H' b=some (.tbl (ps++more)))
    (ns:∀ m,s.heap.Ns X.env.locals m→h'.Ns X.env.locals m) (hok:HOk X.prog X.w H' h') (hg:AllBare g') :
    Inv X pins σ H' {s with heap:=h',gens:=g',drawn:=d',toks:=t'}:=by
  have neL:∀ b o,X.s₀.heap.get? b=some o→b≠X.env.locals:=λb o e=>Cv (Cu (Cr e) I.ok.above);have neC:∀ b o,X.s₀.heap.get? b=some o→b∉X.ex→b∉ch:=λb o e hx hb=>by
    rcases(hch b hb).1 with z|z
    · exact hx z
    · exact absurd (Cu (Cr e) z) (C6 _)
  have cellK:∀ x c,X.env.cells.lookup x=some c→∀ v,s.heap.IsCell c v→h'.IsCell c v:=λx c e v ⟨o,ho,hd⟩=>by
    have nch:c∉ch:=λz=>(hch c z).2.2.1 x c e rfl;by_cases hc:c∈X.fs
    · obtain⟨sl,q⟩:=slot c o (I.cne x c e) hc nch ho (I.gH x c e)
      exact⟨_,q,hd⟩
    · exact⟨o,keep c o (I.cne x c e) hc nch ho (I.gH x c e),hd⟩
  refine⟨I.ok,I.os,hg,⟨λb o e n hb hx=>?_,λb o e n hb hx=>?_,λb o e n hx=>?_,λb o e hx=>?_,λb xs e=>jy b xs (I.base.jy b xs e),λb o xs e=>lq b o xs (I.base.lq b o xs e),λb ps e=>?_⟩,?_,λx c e=>?_,?_,λx c e=>?_,λp hp=>?_,hok,I.len⟩
  · exact keep b o (neL b o e) hb (neC b o e hx) (I.base.keep b o e n hb hx) (I.base.free b o e n hx)
  · obtain⟨sl,e1⟩:=I.base.slot b o e n hb hx
    obtain⟨sl',e2⟩:=slot b _ (neL b o e) hb (neC b o e hx) e1 (I.base.free b o e n hx);exact⟨sl',e2⟩
  · obtain⟨o',e1⟩:=I.base.there b o e hx
    exact free b o' (neC b o e hx) e1 (I.base.free b o e n hx)
  · obtain⟨o',e1⟩:=I.base.there b o e hx
    exact there b o' (neC b o e hx) e1
  · obtain⟨m1,e1⟩:=I.base.lu b ps e
    obtain⟨m2,e2⟩:=lu b _ e1;exact⟨m1++m2,by rw[e2,Array.append_assoc]⟩
  · obtain⟨m,hn,hl⟩:=I.loc
    refine⟨m,ns m hn,λi x v e1 e2 e3=>?_⟩;obtain⟨u,r,l⟩:=hl i x v e1 e2 e3;refine⟨u,r,?_⟩;rcases l with l|⟨k,c,e,z⟩
    · exact .inl l
    · exact .inr ⟨k,c,e,cellK x c e _ z⟩
  · obtain⟨v,z⟩:=I.cell x c e
    exact⟨v,cellK x c e v z⟩
  · obtain⟨m,⟨o,_,_,ho,_⟩,_⟩:=I.loc
    exact free _ o (λz=>(hch _ z).2.1 rfl) ho I.free
  · obtain⟨v,o,ho,hd⟩:=I.cell x c e
    exact free c o (λz=>(hch c z).2.2.1 x c e rfl) ho (I.gH x c e)
  · obtain⟨e,n,ne,nf,d⟩:=I.pin p hp
    have nch:p.1∉ch:=λz=>(hch p.1 z).2.2.2 p hp rfl;exact⟨keep p.1 p.2 ne nf nch e n,free p.1 p.2 nch e n,ne,nf,d⟩
theorem Inv.un{t':Nat}(I:Inv X pins σ H s)(u:Un X.fs [] H H' s.heap h')(hok:HOk X.prog X.w H' h'):Inv X pins σ H' {s with heap:=h',toks:=t'}:=by
  obtain⟨m,⟨o,es,ep,ho,r⟩,_⟩:=id I.loc;obtain⟨sl,hL⟩:=u.any ho I.free (by simp);exact I.step (g':=s.gens) (d':=s.drawn) (ch:=[]) (λ_ z=>nomatch z) (λb o _ hb _ e n=>u.keep b o e n hb (by simp)) (λb o _ hb _ e n=>u.slot b o e n hb (by simp)) (λb o _ e n=>u.free b o e n (by simp)) (λb o _ e=>u.there b o e (by simp)) u.jy u.lq u.lu (λm' hm=>by
    obtain⟨o',es',ep',ho',r'⟩:=hm;rw[ho]at ho';cases ho';exact⟨_,es',ep',hL,r'⟩) hok I.bare
theorem Inv.call{g':Array GenState}{t':Nat}{d':Drawn}{ch:List Addr}(I:Inv X pins σ H s)(u:Un (frs X.stack) ch H H' s.heap h')(hok:HOk X.prog X.w H' h')(hg:AllBare g')
    (hch:∀ b∈ch,(b∈X.ex∨X.s₀.heap.objs.size≤b)∧b≠X.env.locals∧(∀ x c,X.env.cells.lookup x=some c→c≠b)∧∀ p∈X.pn++pins,p.1≠b) :
    Inv X pins σ H' {s with heap:=h',gens:=g',drawn:=d',toks:=t'}:=by
  obtain⟨m,⟨o,es,ep,ho,r⟩,_⟩:=id I.loc;obtain⟨sl,hL⟩:=u.any ho I.free λz=>(hch _ z).2.1 rfl;exact I.step (ch:=ch) hch (λb o hL hb hc e n=>u.keep b o e n (λz=>(Cw.mp (I.iY b z)).elim hL hb) hc) (λb o _ _ hc e n=>u.any e n hc) (λb o hc e n=>u.free b o e n hc) (λb o hc e=>u.there b o e hc) u.jy u.lq u.lu (λm' hm=>by
    obtain⟨o',es',ep',ho',r'⟩:=hm;rw[ho]at ho';cases ho';exact⟨_,es',ep',hL,r'⟩) hok hg
theorem Inv.turned{t':Nat}{it:Addr}(I:Inv X pins σ H s)(k:∀ b o,b≠it→s.heap.get? b=some o→h'.get? b=some o)(hn:H it=none)(hL:it≠X.env.locals)
    (h1:it∈X.ex∨X.s₀.heap.objs.size≤it) (h2:∀ x c,X.env.cells.lookup x=some c→c≠it) (h3:∀ p∈X.pn++pins,p.1≠it):Inv X pins σ H {s with heap:=h',toks:=t'}:=by
  have nit:∀ b u,H b=some u→b≠it:=λb u e z=>by rw[z,hn]at e;cases e
  refine I.step (g':=s.gens) (d':=s.drawn) (ch:=[it]) (λb hb=>?_) (λb o _ _ hc e _=>k b o (λz=>hc (by simp[z])) e) (λb o _ _ hc e _=>⟨o.slots,k b o (λz=>hc (by simp[z])) e⟩) (λ_ _ _ _ n=>n)
    (λb o hc e=>⟨o,k b o (λz=>hc (by simp[z])) e⟩) (λ_ _ e=>e) (λ_ _ _ e=>e) (λb ps e=>⟨#[],by rw[e];simp⟩) (λm hm=>?_) (λb u e=>?_) I.bare
  · have e:b=it:=by simpa using hb
    subst e;exact⟨h1,hL,h2,h3⟩
  · obtain⟨o,es,ep,ho,r⟩:=hm
    exact⟨o,es,ep,k _ o (CV hL) ho,r⟩
  · refine(I.hok b u e).mX (λc v hc q=>k c v ?_ q) (λ_ q=>q) λ_ _ q=>q
    rcases hc with z|z
    · rw[z];exact nit b u e
    · exact nit c _ z
theorem Inv.tok(I:Inv X pins σ H s)(t:Nat):Inv X pins σ H {s with toks:=t}:=I.un (h':=s.heap) (t':=t) Un.refl I.hok
theorem Inv.kept{t':Nat}(I:Inv X pins σ H s)(k:∀ b u,s.heap.get? b=some u→h'.get? b=some u):Inv X pins σ H {s with heap:=h',toks:=t'}:=I.un (Un.kept k) (I.hok.kept k)
theorem Inv.laid{a:Addr}{o:HO}{t':Nat}(I:Inv X pins σ H s)(k:∀ b u,s.heap.get? b=some u→h'.get? b=some u)(hp:s.heap.objs.size≤a)(new:cb X.prog X.w (upd H a o) h' a o) :
    Inv X pins σ (upd H a o) {s with heap:=h',toks:=t'}:=I.un (Un.laid k hp (I.hok.fresh hp)) (I.hok.laid k hp new)
theorem Inv.write{x e:Addr}{o:HO}{t':Nat}(I:Inv X pins σ H s)(mu:Mut (H x))(he:e=x∨H e=some (.own x))(k:∀ b u,b≠e→s.heap.get? b=some u→h'.get? b=some u)(heo:∃ u,h'.get? e=some u)
    (new:cb X.prog X.w (upd H x o) h' x o):Inv X pins σ (upd H x o) {s with heap:=h',toks:=t'}:=I.un (Un.write mu he k heo) (I.hok.write mu he k heo new)
theorem Inv.gO{uF:List (Addr×Obj)}(I:Inv X pins σ H s)(h:∀ p∈uF,s.heap.get? p.1=some p.2∧H p.1=none∧p.1≠X.env.locals∧p.1∉X.fs∧∀ v,p.2.data≠.cell v):Inv X uF σ H s :=
  ⟨I.ok,I.os,I.bare,I.base,I.loc,I.cell,I.free,I.gH,λp hp=>(Cy.mp hp).elim (λz=>I.pin p (Dc _ z)) (h p),I.hok,I.len⟩
theorem oJ{N:List Str}(hN:N.Nodup){i j:Nat}{x:Str}(a:N[i]?=some x)(b:N[j]?=some x):i=j:=by
  obtain⟨h1,e1⟩:=Cd.mp a;obtain⟨h2,e2⟩:=Cd.mp b;exact(List.getElem_inj hN).mp (e1.trans e2.symm)
theorem rh{M:Model}{A:Around}{E:Value→Shared→Prop}{i:Nat}{x:Str}{v:V}{u:Value}{Q:Unit→Shared→Prop}(I:Inv X pins σ H s)(hN:X.N.Nodup)(hi:X.N[i]?=some x)(hx:Loc X.env.scope x)(r:RelV v u)
    (h:∀ s',Inv X pins (σ.set i (some v)) H s'→(∃ a,Heap.SameBut a s.heap s'.heap∧(a=X.env.locals∨X.env.cells.lookup x=some a))→Q () s') (hf:X.fn x=true∨X.env.scope.names.lookup x=some .local:=by first|exact .inl rfl|exact .inr rfl|assumption):wpAny M A (storeName X.env x u) Q E s:=by
  obtain⟨m,hn,hl⟩:=id I.loc;have Ba:(X.env.scope.kind == .class||(X.env.scope.kind == .module&&X.env.locals != X.env.globals))=false:=by rw[I.ok.kind];rfl
  have hiσ:i<σ.length:=by rw[I.len];exact(Cd.mp hi).1
  have cne:=I.cne;have tracked:∀ {a:Addr} {h':Heap},(∃ o,s.heap.get? a=some o∧H a=none)→Heap.SameBut a s.heap h'→HOk X.prog X.w H h':=λ{a h'} ha hs b ob e=>by
    obtain⟨_,_,vE⟩:=ha;refine(I.hok b ob e).mX (λc w' hc q=>(hs.2 c ?_).trans q) (λ_ q=>q) λ_ _ q=>q;rintro rfl;rcases hc with rfl|hc
    · rw[vE]at e;cases e
    · rw[vE]at hc;cases hc
  rcases hx with hk|hk
  · refine wpAny_storeName_local hk hn (λh' hn' hs=>?_) Ba
    obtain⟨oL,_,_,hoL,_⟩:=id hn;refine h _ ⟨I.ok,I.os,I.bare,⟨λb o e n hb hx=>?_,λb o e n hb hx=>?_,I.base.free,λb o e hx=>?_,I.base.jy,I.base.lq,I.base.lu⟩,⟨_,hn',λj y v' e1 e2 e3=>?_⟩,λy c e=>?_,I.free,I.gH,λp hp=>?_,tracked ⟨oL,hoL,I.free⟩ hs,by simpa using I.len⟩ ⟨_,hs,.inl rfl⟩
    · exact(hs.2 b (Cv (Cu (Cr e) I.ok.above))).trans (I.base.keep b o e n hb hx)
    · obtain⟨sl,e1⟩:=I.base.slot b o e n hb hx
      exact⟨sl,(hs.2 b (Cv (Cu (Cr e) I.ok.above))).trans e1⟩
    · obtain⟨o',e1⟩:=I.base.there b o e hx
      exact⟨o',(hs.2 b (Cv (Cu (Cr e) I.ok.above))).trans e1⟩
    · by_cases hj:j=i
      · subst hj
        rw[hi]at e1;cases e1;rw[Dj hiσ]at e2;cases e2;exact⟨u,r,.inl ⟨hk,by simp⟩⟩
      · rw[De (CV hj)]at e2
        obtain⟨u',r',q⟩:=hl j y v' e1 e2 e3;refine⟨u',r',?_⟩;rcases q with⟨k,e⟩|⟨k,c,e,z⟩
        · refine .inl ⟨k,?_⟩
          have:y≠x:=λe=>hj (oJ hN e1 (e ▸ hi))
          simp[this,e]
        · exact .inr ⟨k,c,e,z.sameBut hs (cne y c e)⟩
    · obtain⟨w',z⟩:=I.cell y c e
      exact⟨w',z.sameBut hs (cne y c e)⟩
    · obtain⟨e,n,ne,nf,d⟩:=I.pin p hp
      exact⟨(hs.2 p.1 ne).trans e,n,ne,nf,d⟩
  · have hfn:X.fn x=true:=by
      rcases hf with z|z
      · exact z
      · rw[z]at hk;cases hk
    obtain⟨c,hc⟩:=I.ok.has x (.inl hk);obtain⟨w',z⟩:=I.cell x c hc;refine wpAny_storeName_cell I.ok.kind hk hc z (λh' hc' hs=>?_);obtain⟨oc,hoc,Bb⟩:=id z;refine h {s with heap:=h'} ⟨I.ok,I.os,I.bare,⟨λb o e n hb hx=>?_,λb o e n hb hx=>?_,I.base.free,λb o e hx=>?_,I.base.jy,I.base.lq,I.base.lu⟩,⟨m,hn.sameBut hs (CV (cne x c hc)),λj y v' e1 e2 e3=>?_⟩,λy c' e=>?_,I.free,I.gH,λp hp=>?_,tracked ⟨oc,hoc,I.gH x c hc⟩ hs,by simpa using I.len⟩ ⟨c,hs,.inr hc⟩
    · exact(hs.2 b (Cv (Cu (Cr e) (I.ok.cab x c hfn hc)))).trans (I.base.keep b o e n hb hx)
    · obtain⟨sl,e1⟩:=I.base.slot b o e n hb hx
      exact⟨sl,(hs.2 b (Cv (Cu (Cr e) (I.ok.cab x c hfn hc)))).trans e1⟩
    · obtain⟨o',e1⟩:=I.base.there b o e hx
      exact⟨o',(hs.2 b (Cv (Cu (Cr e) (I.ok.cab x c hfn hc)))).trans e1⟩
    · by_cases hj:j=i
      · subst hj
        rw[hi]at e1;cases e1;rw[Dj hiσ]at e2;cases e2;exact⟨u,r,.inr ⟨.inl hk,c,hc,hc'⟩⟩
      · rw[De (CV hj)]at e2
        obtain⟨u',r',q⟩:=hl j y v' e1 e2 e3;refine⟨u',r',?_⟩;rcases q with q|⟨k,c',e,z'⟩
        · exact .inl q
        · refine .inr ⟨k,c',e,z'.sameBut hs ?_⟩
          rintro rfl;exact hj (oJ hN e1 (I.ok.inj _ _ _ e hc ▸ hi))
    · by_cases hcc:c'=c
      · subst hcc;exact⟨_,hc'⟩
      · obtain⟨w2,z2⟩:=I.cell y c' e
        exact⟨w2,z2.sameBut hs hcc⟩
    · obtain⟨e,n,ne,nf,d⟩:=I.pin p hp
      refine⟨(hs.2 p.1 ?_).trans e,n,ne,nf,d⟩;intro q;rw[q,hoc]at e;have q':oc=p.2:=CC e;exact d w' (by rw[←q'];exact Bb)
theorem jS{M:Model}{A:Around}{E:Value→Shared→Prop}{i:Nat}{x:Str}{v:V}{u:Value}{Q:Unit→Shared→Prop}(I:Inv X pins σ H s)(hN:X.N.Nodup)(hi:X.N[i]?=some x)(hx:Loc X.env.scope x)(r:RelV v u)
    (h:∀ s',Inv X pins (σ.set i (some v)) H s'→Q () s') (hf:X.fn x=true∨X.env.scope.names.lookup x=some .local:=by first|exact .inl rfl|exact .inr rfl|assumption):wpAny M A (storeName X.env x u) Q E s :=
  rh I hN hi hx r (λs' I' _=>h s' I') hf
theorem Inv.sh{s':Shared}{ch:List Addr}(I:Inv X pins σ H s)(ho:s'.os=s.os)(u:Un (frs X.stack) ch H H' s.heap s'.heap)(hok:HOk X.prog X.w H' s'.heap)(hg:AllBare s'.gens)
    (hch:∀ b∈ch,(b∈X.ex∨X.s₀.heap.objs.size≤b)∧b≠X.env.locals∧(∀ x c,X.env.cells.lookup x=some c→c≠b)∧∀ p∈X.pn++pins,p.1≠b):Inv X pins σ H' s':=by
  obtain⟨h',g',d',t',o'⟩:=s';have e:o'=s.os:=ho;subst e;exact I.call (g':=g') (t':=t') (d':=d') u hok hg hch
end
abbrev XK:=Value→Option Addr→Hp→Prop
abbrev St:=List (Option V)
abbrev VK:=V→Hp→Prop
abbrev TE:=St→Hp→VK→Prop
abbrev TT:=St→Hp→(Bool→Hp→Prop)→Prop
abbrev TA:=St→Hp→(List V→Hp→Prop)→Prop
structure Ends where
  nx:St→Hp→Prop
  rt:VK
  bk:St→Hp→Prop:=λ_ _=>False
  ct:St→Hp→Prop:=λ_ _=>False
abbrev TS:=Ends→St→Hp→Prop
def EP(X:Cx)(pins:List (Addr×Obj))(σ:St)(Q:VK)(u:Value)(s':Shared):Prop:=∃ v H',Inv X pins σ H' s'∧RelV v u∧Q v H'
def TP(X:Cx)(pins:List (Addr×Obj))(σ:St)(Q:Bool→Hp→Prop)(b:Bool)(s':Shared):Prop:=∃ H',Inv X pins σ H' s'∧Q b H'
def AP(X:Cx)(pins:List (Addr×Obj))(σ:St)(Q:List V→Hp→Prop)(us:List Value)(s':Shared):Prop:=∃ vs H',Inv X pins σ H' s'∧Vals vs us∧Q vs H'
def SP(X:Cx)(pins:List (Addr×Obj))(D:Ends)(f:Flow)(s':Shared):Prop :=
  match f with
  | .next=>∃ σ' H',Inv X pins σ' H' s'∧D.nx σ' H'
  | .brk=>∃ σ' H',Inv X pins σ' H' s'∧D.bk σ' H'
  | .cont=>∃ σ' H',Inv X pins σ' H' s'∧D.ct σ' H'
  | .ret u=>∃ v σ' H',Inv X pins σ' H' s'∧RelV v u∧D.rt v H'
def PE(X:Cx)(e:Expr)(t:TE):Prop :=
  ∀(pins:List (Addr×Obj)) (s:Shared) (σ:St) (H:Hp) (Q:VK),Inv X pins σ H s→t σ H Q→wpAny (model X.prog X.w) X.A (eval e X.env) (EP X pins σ Q) X.xe s
def PT(X:Cx)(e:Expr)(t:TT):Prop :=
  ∀(pins:List (Addr×Obj)) (s:Shared) (σ:St) (H:Hp) (Q:Bool→Hp→Prop),Inv X pins σ H s→t σ H Q→wpAny (model X.prog X.w) X.A (isTrue e X.env (eval e X.env)) (TP X pins σ Q) X.xe s
def PW(X:Cx)(e:Expr)(t:TT):Prop :=
  ∀(whole:Sem Value) (pins:List (Addr×Obj)) (s:Shared) (σ:St) (H:Hp) (Q:Bool→Hp→Prop),Inv X pins σ H s→t σ H Q→wpAny (model X.prog X.w) X.A (isTrue e X.env whole) (TP X pins σ Q) X.xe s
theorem PW.pt{X:Cx}{e:Expr}{t:TT}(h:PW X e t):PT X e t:=h _
def PA(X:Cx)(es:List Expr)(t:TA):Prop :=
  ∀(pos:Pos) (pins:List (Addr×Obj)) (s:Shared) (σ:St) (H:Hp) (Q:List V→Hp→Prop),Inv X pins σ H s→t σ H Q→wpAny (model X.prog X.w) X.A (spliced (backTo pos (starEach es X.env))) (AP X pins σ Q) X.xe s
def PS(X:Cx)(st:Stmt)(t:TS):Prop :=
  ∀(pins:List (Addr×Obj)) (s:Shared) (σ:St) (H:Hp) (D:Ends),Inv X pins σ H s→t D σ H→wpAny (model X.prog X.w) X.A (exec st X.env) (SP X pins D) X.xe s
def PSs(X:Cx)(st:List Stmt)(t:TS):Prop :=
  ∀(pins:List (Addr×Obj)) (s:Shared) (σ:St) (H:Hp) (D:Ends),Inv X pins σ H s→t D σ H→wpAny (model X.prog X.w) X.A (execs st X.env) (SP X pins D) X.xe s
theorem thn{α:Type}{t:Sem α}{Q Q':α→Shared→Prop}{M:Model}{A:Around}{E:Value→Shared→Prop}{s:Shared}(h:wpAny M A t Q E s)(hQ:∀ a s,Q a s→Q' a s):wpAny M A t Q' E s:=wpAny_mono h hQ λ_ _ x=>x
end L2
namespace L2
open PySem PySem.Spec PyProof.Rows
section
variable{X:Cx}
def Ae(i:Nat):TE:=λσ H Q=>∃ v,σ[i]?=some (some v)∧Q v H
def tC(v:V):TE:=λ_ H Q=>Q v H
theorem wI{i:Nat}{x:Str}{pos:Pos}(hN:X.N[i]?=some x)(hv:Vis X.env.scope x)(hd:(x == ("__debug__" : Str))=false:=by decide)(hcd:(x == ("__classdict__" : Str))=false:=by decide):PE X (.Name x pos) (Ae i):=by
  intro pins s σ H Q I h;obtain⟨v,e,h⟩:=h;obtain⟨m,hn,hl⟩:=I.loc;obtain⟨u,r,l⟩:=hl i x v hN e hv;have fin:EP X pins σ Q u s:=⟨v,H,I,r,h⟩;rcases l with⟨hk,hm⟩|⟨hk,c,hc,sj⟩
  · exact wpAny_Name (wpAny_loadName_local I.ok.kind hk hn hm fin) hd
  · rcases hk with hk|hk
    · exact wpAny_Name (wpAny_loadName_cell I.ok.kind hk hc sj fin) hd
    · exact wpAny_Name (wpAny_loadName_free I.ok.kind hk hc sj fin hcd) hd
theorem ai{i j pos}:PE X (.Constant (.int i) j pos) (tC (.int i)):=λ_ _ _ H _ I h=>wpAny_Constant_int ⟨.int i,H,I.tok _,⟨_,rfl⟩,h⟩
theorem ib{j pos}:PE X (.Constant .none j pos) (tC .non):=λ_ _ _ H _ I h=>Constant_none ⟨.non,H,I,rfl,h⟩
theorem dX{x j pos}:PE X (.Constant (.str x) j pos) (tC (.str x)):=λ_ _ _ H _ I h=>Calls.Constant_str ⟨.str x,H,I.tok _,⟨_,rfl⟩,h⟩
def Gl(X:Cx)(x:Str):Prop:=X.env.kindOf x=some .globalImplicit
theorem mY{E:Value→Shared→Prop}{pins:List (Addr×Obj)}{s:Shared}{σ:St}{H:Hp}{x:Str}{u:Value}{pos:Pos}{Q:Value→Shared→Prop}(I:Inv X pins σ H s)(hg:Gl X x)(hm:X.mg x=some u)(h:Q u s)
    (hd:(x == ("__debug__" : Str))=false:=by decide):wpAny (model X.prog X.w) X.A (eval (.Name x pos) X.env) Q E s :=
  DI I.ok.kind hg (Calls.loadGlobal_global (by rw[I.ok.glob];exact I.mod.glob.keeps I.bk) hm h) hd
theorem iZ{E:Value→Shared→Prop}{pins:List (Addr×Obj)}{s:Shared}{σ:St}{H:Hp}{x:Str}{u:Value}{pos:Pos}{Q:Value→Shared→Prop}(I:Inv X pins σ H s)(hg:Gl X x)(hm:X.mg x=none)(hv:bootBuiltins x=some u)(h:Q u s)
    (hn:x ≠ "__name__" := by decide) (hd:(x == ("__debug__" : Str))=false:=by decide):wpAny (model X.prog X.w) X.A (eval (.Name x pos) X.env) Q E s:=by
  obtain⟨mb,h1,h2⟩:=I.mod.blt;exact DI I.ok.kind hg (Calls.loadGlobal_builtin (by rw[I.ok.glob];exact I.mod.glob.keeps I.bk) hm (by rw[I.ok.blt];exact h1.keeps I.bk) ((h2 x hn).trans hv) h) hd
variable{a b:Expr}{ta tb:TE}{pos:Pos}
def PC(X:Cx)(op:CmpOp)(a b:Expr)(t:TE):Prop :=
  ∀(pins:List (Addr×Obj)) (s:Shared) (σ:St) (H:Hp) (Q:VK),Inv X pins σ H s→t σ H Q →
    wpAny (model X.prog X.w) X.A (eval a X.env) (λv s₁=>wpAny (model X.prog X.w) X.A (eval b X.env) (λu s₂=>wpAny (model X.prog X.w) X.A (compareOp op v u) (EP X pins σ Q) X.xe s₂) X.xe s₁) X.xe s
def tB(t:TE):TT:=λσ H Q=>t σ H λx H1=>∃ c,x=.bl c∧Q c H1
theorem tV{op:CmpOp}{t:TE}(h:PC X op a b t)(h1:behindInMarks op b=false:=by first|exact nobehind _ (by decide) (by decide)|rfl):PT X (.Compare a [op] [b] pos) (tB t):=by
  intro pins s σ H Q I hw;refine wpAny_isTrue_Compare1 (thn (h pins s σ H _ I hw) λv s1 h1=>thn h1 λu s2 h2=>thn h2 λc s3 ⟨x,H1,I1,r1,q1⟩=>?_) h1;obtain⟨d,rfl,q⟩:=q1;cases r1;exact wpAny_truthy_bool ⟨H1,I1,q⟩
variable{tA tB':TT}{rest:List Expr}
def Bc(t u:TT):TT:=λσ H Q=>t σ H λc H1=>if c=true then u σ H1 Q else Q false H1
def tOr(t u:TT):TT:=λσ H Q=>t σ H λc H1=>if c=true then Q true H1 else u σ H1 Q
def Bd(t:TT):TT:=λσ H Q=>t σ H λc H1=>Q (!c) H1
theorem pw_and1(ha:PT X a tA):PW X (.BoolOp .And [a] pos) tA:=by
  intro wh pins s σ H Q I h;refine isTrue_and (thn (ha pins s σ H Q I h) λc s1 e=>?_);cases c with
  | true=>exact isTrue_and_nil e
  | false=>exact e
theorem pw_or1(ha:PT X a tA):PW X (.BoolOp .Or [a] pos) tA:=by
  intro wh pins s σ H Q I h;refine isTrue_or (thn (ha pins s σ H Q I h) λc s1 e=>?_);cases c with
  | false=>exact isTrue_or_nil e
  | true=>exact e
theorem pw_and(ha:PT X a tA)(hb:PW X (.BoolOp .And (b::rest) pos) tB'):PW X (.BoolOp .And (a::b::rest) pos) (Bc tA tB'):=by
  intro wh pins s σ H Q I h;refine isTrue_and (thn (ha pins s σ H _ I h) λc s1 ⟨H1,I1,q1⟩=>?_);cases c with
  | true=>exact hb wh pins s1 σ H1 Q I1 q1
  | false=>exact⟨H1,I1,q1⟩
theorem pw_or(ha:PT X a tA)(hb:PW X (.BoolOp .Or (b::rest) pos) tB'):PW X (.BoolOp .Or (a::b::rest) pos) (tOr tA tB'):=by
  intro wh pins s σ H Q I h;refine isTrue_or (thn (ha pins s σ H _ I h) λc s1 ⟨H1,I1,q1⟩=>?_);cases c with
  | true=>exact⟨H1,I1,q1⟩
  | false=>exact hb wh pins s1 σ H1 Q I1 q1
theorem wJ(ha:PT X a tA):PT X (.UnaryOp .Not a pos) (Bd tA):=by
  intro pins s σ H Q I h;exact isTrue_not (ha pins s σ H (λc H1=>Q (!c) H1) I h)
def tIf(t:TT)(ta tb:TE):TE:=λσ H Q=>t σ H λc H1=>if c=true then ta σ H1 Q else tb σ H1 Q
theorem oK{c:Expr}(hc:PT X c tA)(ha:PE X a ta)(hb:PE X b tb):PE X (.IfExp c a b pos) (tIf tA ta tb):=by
  intro pins s σ H Q I h;refine wpAny_IfExp (thn (hc pins s σ H _ I h) λd s1 ⟨H1,I1,q1⟩=>?_);cases d with
  | true=>exact ha pins s1 σ H1 Q I1 q1
  | false=>exact hb pins s1 σ H1 Q I1 q1
end
end L2
namespace L2
open PySem PySem.Spec PyProof.Rows
def SqL(K:W.Frag)(H:Hp)(a:Addr)(xs:List V):Prop :=
  Rd H a (.lst xs) ∨
    ∃(o:Obj) (its:Array Value) (n:Nat),K.lookup a=some o∧o.cls=.type "list" ∧ o.dict=none∧o.data=.seq its n∧its.size≤sizeLine∧Vals xs its.toList
def SqT(K:W.Frag)(H:Hp)(a:Addr)(xs:List V):Prop :=
  Rd H a (.tup xs) ∨
    ∃(o:Obj) (its:Array Value) (n:Nat),K.lookup a=some o∧o.cls=.type "tuple" ∧ o.data=.seq its n∧its.size≤sizeLine∧Vals xs its.toList
def Be:Value→Option V
  | .none=>some .non
  | .bool b=>some (.bl b)
  | .int i _=>some (.int i)
  | .str x _=>some (.str x)
  | .bytes b _=>some (.byt b)
  | .float b _=>some (.flt b)
  | .ref a=>some (.ref a)
  | .type n=>some (.ty n)
  | _=>none
theorem RelV.abs{x:V}{u:Value}(r:RelV x u):Be u=some x:=by
  cases x with
  | non=>cases r;rfl
  | bl _=>cases r;rfl
  | int _=>obtain⟨t,rfl⟩:=r;rfl
  | str _=>obtain⟨t,rfl⟩:=r;rfl
  | byt _=>obtain⟨t,rfl⟩:=r;rfl
  | flt _=>obtain⟨t,rfl⟩:=r;rfl
  | ref _=>cases r;rfl
  | ty _=>cases r;rfl
theorem RelV.inj{x y:V}{u:Value}(r:RelV x u)(q:RelV y u):x=y:=CC (r.abs.symm.trans q.abs)
theorem Vals.inj:∀ {xs ys:List V} {us:List Value},Vals xs us→Vals ys us→xs=ys
  | _,_,_,.nil,.nil=>rfl
  | _,_,_,.cons r t,.cons r' t'=>by rw[r.inj r',Vals.inj t t']
section
variable{X:Cx}{pins:List (Addr×Obj)}{σ:St}{H:Hp}{s:Shared}{a:Addr}{xs ys:List V}
theorem SqL.of{K:W.Frag}(h:H a=some (.lst xs)):SqL K H a xs:=.inl (.inl h)
theorem SqT.of{K:W.Frag}(h:H a=some (.tup xs)):SqT K H a xs:=.inl (.inl h)
theorem Inv.list(I:Inv X pins σ H s)(h:SqL X.K H a xs):∃ its:List Value,Vals xs its∧PlainL s.heap a its.toArray∧xs.length≤sizeLine:=by
  rcases h with h|⟨o,its,n,hk,hc,hd,hs,hz,r⟩
  · obtain⟨z,its,n,r,e⟩:=h.ok I.hok
    exact⟨its,r,⟨_,n,e,rfl,rfl,rfl⟩,z⟩
  · refine⟨its.toList,r,⟨o,n,I.kIn a o hk,hc,hd,by simpa using hs⟩,?_⟩
    have e:=r.length;simp only[DG]at e;omega
theorem Inv.tuple(I:Inv X pins σ H s)(h:SqT X.K H a xs):∃ its:List Value,Vals xs its∧IsTup s.heap a its.toArray∧xs.length≤sizeLine:=by
  rcases h with h|⟨o,its,n,hk,hc,hs,hz,r⟩
  · obtain⟨z,its,r,p⟩:=h.ok I.hok
    exact⟨its,r,p,z⟩
  · refine⟨its.toList,r,⟨o,I.kIn a o hk,hc,n,by simpa using hs⟩,?_⟩
    have e:=r.length;simp only[DG]at e;omega
theorem Inv.oM(I:Inv X pins σ H s)(h:SqL X.K H a xs)(h':SqL X.K H a ys):xs=ys:=by
  obtain⟨its,r,⟨o,n,e,_,_,d⟩,_⟩:=I.list h;obtain⟨lB,r',⟨o',n',e',_,_,d'⟩,_⟩:=I.list h';rw[e]at e';cases e';rw[d]at d';injection d' with d1 _
  have:its=lB:=by simpa using congrArg Array.toList d1
  subst this;exact r.inj r'
end
abbrev Cx.oN(X:Cx)(E:Value→Shared→Prop):Cx:={X with xe:=E}
abbrev Cx.nox(X:Cx):Cx:=X.oN λ_ _=>False
theorem Cx.Ok.oN{X:Cx}(ok:X.Ok)(E:Value→Shared→Prop):(X.oN E).Ok :=
  ⟨ok.mod,ok.kind,ok.glob,ok.blt,ok.above,ok.inj,ok.has,ok.cab,ok.hd,ok.frames,ok.stk,ok.exf,ok.bs,ok.bsz,ok.uW,ok.vD,ok.lA,ok.frf⟩
theorem Cx.Ok.gP{X:Cx}{E:Value→Shared→Prop}(ok:(X.oN E).Ok):X.Ok :=
  ⟨ok.mod,ok.kind,ok.glob,ok.blt,ok.above,ok.inj,ok.has,ok.cab,ok.hd,ok.frames,ok.stk,ok.exf,ok.bs,ok.bsz,ok.uW,ok.vD,ok.lA,ok.frf⟩
section
variable{X:Cx}{pins:List (Addr×Obj)}{σ:St}{H:Hp}{s:Shared}{E:Value→Shared→Prop}
theorem Inv.oN(I:Inv X pins σ H s)(E:Value→Shared→Prop):Inv (X.oN E) pins σ H s:=⟨I.ok.oN E,I.os,I.bare,I.base,I.loc,I.cell,I.free,I.gH,I.pin,I.hok,I.len⟩
theorem Inv.gP(I:Inv (X.oN E) pins σ H s):Inv X pins σ H s:=⟨I.ok.gP,I.os,I.bare,I.base,I.loc,I.cell,I.free,I.gH,I.pin,I.hok,I.len⟩
theorem SP.gP{D:Ends}{f:Flow}{s':Shared}(h:SP (X.oN E) pins D f s'):SP X pins D f s':=by
  cases f with
  | next=>obtain⟨σ',H',I,q⟩:=h;exact⟨σ',H',I.gP,q⟩
  | brk=>obtain⟨σ',H',I,q⟩:=h;exact⟨σ',H',I.gP,q⟩
  | cont=>obtain⟨σ',H',I,q⟩:=h;exact⟨σ',H',I.gP,q⟩
  | ret u=>obtain⟨v,σ',H',I,r,q⟩:=h;exact⟨v,σ',H',I.gP,r,q⟩
theorem PSs.nox{st:List Stmt}{t:TS}(h:PSs X.nox st t):PSs X st t:=λpins s σ H D I hw =>
  wpAny_mono (h pins s σ H D (I.oN _) hw) (λ_ _ q=>q.gP) λ_ _ z=>False.elim z
end
section
variable{X:Cx}{st:Stmt}{rest:List Stmt}{t u:TS}{e:Expr}{te:TE}{pos:Pos}
def y6:TS:=λD σ H=>D.nx σ H
def Af(t u:TS):TS:=λD σ H=>t {D with nx:=u D} σ H
theorem cH:PSs X [] y6:=λ_ _ σ H _ I h=>wpAny_execs_nil ⟨σ,H,I,h⟩
theorem af(h1:PS X st t)(h2:PSs X rest u):PSs X (st::rest) (Af t u):=by
  intro pins s σ H D I h;refine wpAny_execs_cons (thn (h1 pins s σ H {D with nx:=u D} I h) λf s1 q=>?_);cases f with
  | next =>
    obtain⟨σ',H',I',q⟩:=q;exact h2 pins s1 σ' H' D I' q
  | ret v=>exact q
  | brk=>exact q
  | cont=>exact q
theorem ak(h1:PS X st t):PSs X [st] t:=by
  intro pins s σ H D I h;refine wpAny_execs_cons (thn (h1 pins s σ H D I h) λf s1 q=>?_);cases f with
  | next=>exact wpAny_execs_nil q
  | ret v=>exact q
  | brk=>exact q
  | cont=>exact q
theorem Inv.quiet{pins:List (Addr×Obj)}{σ:St}{H:Hp}{s:Shared}(I:Inv X pins σ H s):interactive X.env=false:=by simp[interactive,I.ok.kind]
def y9(te:TE):TS:=λD σ H=>te σ H λ_ H1=>D.nx σ H1
theorem bL(he:PE X e te)(hs:swapsWith e none pos.line X.env=pure false:=by rfl):PS X (.Expr e pos) (y9 te):=by
  intro pins s σ H D I h;exact wpAny_Expr_any (thn (he pins s σ H _ I h) λv s1 ⟨x,H1,I1,r1,q1⟩=>⟨σ,H1,I1,q1⟩) I.quiet hs
def Bf(te:TE):TS:=λD σ H=>te σ H D.rt
theorem bA(he:PE X e te):PS X (.Return (some e) pos) (Bf te):=by
  intro pins s σ H D I h;exact wpAny_Return_some (thn (he pins s σ H _ I h) λv s1 ⟨x,H1,I1,r1,q1⟩=>⟨x,σ,H1,I1,r1,q1⟩)
def Bg(c:TT)(t u:TS):TS:=λD σ H=>c σ H λb H1=>if b=true then t D σ H1 else u D σ H1
theorem fW{c:Expr}{a b:List Stmt}{tc:TT}(hc:PT X c tc)(ha:PSs X a t)(hb:PSs X b u):PS X (.If c a b pos) (Bg tc t u):=by
  intro pins s σ H D I h;refine wpAny_If (thn (hc pins s σ H _ I h) λd s1 ⟨H1,I1,q1⟩=>?_);cases d with
  | true=>exact ha pins s1 σ H1 D I1 q1
  | false=>exact hb pins s1 σ H1 D I1 q1
end
abbrev TG:=V→St→Hp→(St→Hp→Prop)→Prop
abbrev TGs:=List V→St→Hp→(St→Hp→Prop)→Prop
def PG(X:Cx)(target:Expr)(t:TG):Prop :=
  ∀(pins:List (Addr×Obj)) (s:Shared) (σ:St) (H:Hp) (v:V) (u:Value) (Q:St→Hp→Prop),Inv X pins σ H s→RelV v u→t v σ H Q →
    wpAny (model X.prog X.w) X.A (assign target X.env u) (λ_ s'=>∃ σ' H',Inv X pins σ' H' s'∧Q σ' H') X.xe s
def PGs(X:Cx)(ts:List Expr)(t:TGs):Prop :=
  ∀(pins:List (Addr×Obj)) (s:Shared) (σ:St) (H:Hp) (vs:List V) (us:List Value) (Q:St→Hp→Prop),Inv X pins σ H s→Vals vs us→t vs σ H Q →
    wpAny (model X.prog X.w) X.A (assignInOrder ((assignEach ts X.env).map (·.2)) us) (λ_ s'=>∃ σ' H',Inv X pins σ' H' s'∧Q σ' H') X.xe s
abbrev xD:=V→V→V→Hp→(Hp→Prop)→Prop
def Ag(X:Cx)(t:xD):Prop :=
  ∀(pins:List (Addr×Obj)) (s:Shared) (σ:St) (H:Hp) (o i v:V) (ov iv u:Value) (Q:Hp→Prop),Inv X pins σ H s→RelV o ov→RelV i iv→RelV v u→t o i v H Q →
    wpAny (model X.prog X.w) X.A (setItem ov iv u) (λ_ s'=>∃ H',Inv X pins σ H' s'∧Q H') X.xe s
abbrev TIp:=V→V→Hp→VK→Prop
def PIp(X:Cx)(op:Operator)(t:TIp):Prop :=
  ∀(pins:List (Addr×Obj)) (s:Shared) (σ:St) (H:Hp) (x y:V) (v u:Value) (Q:VK),Inv X pins σ H s→RelV x v→RelV y u→t x y H Q →
    wpAny (model X.prog X.w) X.A (inplaceOp op v u) (EP X pins σ Q) X.xe s
section
variable{X:Cx}{pos:Pos}
def nr(i:Nat):TG:=λv σ H Q=>Q (σ.set i (some v)) H
theorem aE{i:Nat}{x:Str}(hN:X.N.Nodup)(hi:X.N[i]?=some x)(hx:Loc X.env.scope x)(hf:X.fn x=true∨X.env.scope.names.lookup x=some .local:=by first|exact .inl rfl|exact .inr rfl|assumption):PG X (.Name x pos) (nr i):=by
  intro pins s σ H v u Q I r h;exact wpAny_assign_Name (jS I hN hi hx r (λs' I'=>⟨_,H,I',h⟩) hf)
def Bh:TGs:=λvs σ H Q=>vs=[]∧Q σ H
def za(t:TG)(u:TGs):TGs:=λvs σ H Q=>∃ v r,vs=v::r∧t v σ H λσ' H'=>u r σ' H' Q
theorem eK:PGs X [] Bh:=by
  intro pins s σ H vs us Q I r h;obtain⟨e,h⟩:=h;subst e;cases r;exact assignInOrder_nil ⟨σ,H,I,h⟩
theorem aM{e:Expr}{es:List Expr}{t:TG}{u:TGs}(h1:PG X e t)(h2:PGs X es u)
    (hs:(assignEach (e::es) X.env).map (·.2)=assign e X.env::(assignEach es X.env).map (·.2):=by rfl):PGs X (e::es) (za t u):=by
  intro pins s σ H vs us Q I r h;obtain⟨v,vr,e1,h⟩:=h;subst e1;cases r with
  | cons r rr =>
    rw[hs];refine assignInOrder_cons (thn (h1 pins s σ H _ _ _ I r h) λ_ s1 ⟨σ1,H1,I1,q1⟩=>?_);exact h2 pins s1 σ1 H1 _ _ Q I1 rr q1
def Bi(K:W.Frag)(n:Nat)(t:TGs):TG:=λv σ H Q=>∃ a xs,v=.ref a∧SqT K H a xs∧xs.length=n∧t xs σ H Q
theorem gh{es:List Expr}{k:Nat}{t:TGs}{n:Nat}(hc:X.calm=true)(h:PGs X es t)
    (hn:(assignEach es X.env).length=n:=by rfl) (hst:(assignEach es X.env).findIdx? (·.1)=none:=by rfl):PG X (.Tuple es k pos) (Bi X.K n t):=by
  intro pins s σ H v u Q I r hw;obtain⟨a,xs,e1,hq,hl,hw⟩:=hw;subst e1;cases r;obtain⟨its,rv,ht,hz⟩:=I.tuple hq;refine assign_Tuple_tuple (I.ok.hd hc) ht (by simp[hn,←hl,rv.length]) hst λh' hx=>?_;have I1:Inv X pins σ H {s with heap:=h'}:=I.kept (t':=s.toks) λb o e=>hx b o (Cv (Cr e)) e;exact h pins _ σ H xs _ Q I1 (by simpa using rv) hw
def Bj(to ti:TE)(t:xD):TG:=λv σ H Q=>to σ H λo H1=>ti σ H1 λi H2=>t o i v H2 λH3=>Q σ H3
theorem nu{o i:Expr}{to ti:TE}{t:xD}(ho:PE X o to)(hi:PE X i ti)(hs:Ag X t)
    (ha:∀ v,assign (.Subscript o i pos) X.env v=(do
      let ov ←holding [v] (eval o X.env)
      let iv ←holding [v,ov] (eval i X.env)
      standAt pos
      holding [v,ov,iv] (setItem ov iv v)
      release [v,ov,iv] []):=by intro _;rfl):PG X (.Subscript o i pos) (Bj to ti t):=by
  intro pins s σ H v u Q I r h;rw[ha];refine wpAny_bind (wpAny_holding (thn (ho pins s σ H _ I h) λov s1 ⟨x,H1,I1,r1,q1⟩=>?_));refine wpAny_bind (wpAny_holding (thn (hi pins s1 σ H1 _ I1 q1) λiv s2 ⟨y,H2,I2,r2,q2⟩=>?_));refine wpAny_bind (wpAny_standAt (wpAny_bind (wpAny_holding (thn (hs pins s2 σ H2 x y v ov iv u _ I2 r1 r2 r q2) λ_ s3 ⟨H3,I3,q3⟩=>?_))));exact wpAny_release ⟨σ,H3,I3,q3⟩
def xE(te:TE)(g:TG):TS:=λD σ H=>te σ H λx H1=>g x σ H1 D.nx
theorem ka{tg e:Expr}{te:TE}{g:TG}(he:PE X e te)(hg:PG X tg g)(hs:swapsWithSole [tg] e pos.line X.env=pure false:=by rfl)(hw:swappedStores [tg] e X.env=pure none:=by rfl)
    (h1:(assignEach [tg] X.env).map (·.2)=[assign tg X.env]:=by rfl):PS X (.Assign [tg] e pos) (xE te g):=by
  intro pins s σ H D I h;refine wpAny_Assign_stores (thn (he pins s σ H _ I h) λv s1 ⟨x,H1,I1,r1,q1⟩=>?_) hs hw;rw[h1];exact thn (hg pins s1 σ H1 x v _ I1 r1 q1) λ_ s2 q=>q
theorem aC{i:Nat}{x:Str}{e:Expr}{te:TE}{pos':Pos}(hN:X.N.Nodup)(hi:X.N[i]?=some x)(hx:Loc X.env.scope x)(he:PE X e te)(hs:swapsWith e (some (.Name x pos')) pos.line X.env=pure false:=by rfl)(hf:X.fn x=true∨X.env.scope.names.lookup x=some .local:=by first|exact .inl rfl|exact .inr rfl|assumption) :
    PS X (.Assign [.Name x pos'] e pos) (xE te (nr i)):=by
  intro pins s σ H D I h;refine wpAny_Assign_Name (thn (he pins s σ H _ I h) λv s1 ⟨y,H1,I1,r1,q1⟩=>?_) hs;exact jS I1 hN hi hx r1 (λs2 I2=>⟨_,H1,I2,q1⟩) hf
def Bk(i:Nat)(te:TE)(ti:TIp):TS:=λD σ H=>∃ x,σ[i]?=some (some x)∧te σ H λy H1=>ti x y H1 λz H2=>D.nx (σ.set i (some z)) H2
theorem tW{i:Nat}{x:Str}{e:Expr}{te:TE}{op:Operator}{ti:TIp}{pos':Pos}(hN:X.N.Nodup)(hi:X.N[i]?=some x)(hx:Loc X.env.scope x)(he:PE X e te)(ho:PIp X op ti)(hf:X.fn x=true∨X.env.scope.names.lookup x=some .local:=by first|exact .inl rfl|exact .inr rfl|assumption) :
    PS X (.AugAssign (.Name x pos') op e pos) (Bk i te ti):=by
  intro pins s σ H D I h;obtain⟨v,e1,h⟩:=h;obtain⟨m,hn,hl⟩:=I.loc;have vis:Vis X.env.scope x:=by rcases hx with k|k;exact .inl k;exact .inr (.inl k)
  obtain⟨u,r,l⟩:=hl i x v hi e1 vis;refine wpAny_AugAssign_Name ?_;have go:wpAny (model X.prog X.w) X.A (eval e X.env) (λw s₂=>wpAny (model X.prog X.w) X.A (inplaceOp op u w) (λr s₃=>wpAny (model X.prog X.w) X.A (storeName X.env x r) (λ_=>SP X pins D .next) X.xe s₃) X.xe s₂) X.xe s:=by
    refine thn (he pins s σ H _ I h) λw s1 ⟨y,H1,I1,r1,q1⟩=>?_;refine thn (ho pins s1 σ H1 v y u w _ I1 r r1 q1) λz s2 ⟨zv,H2,I2,r2,q2⟩=>?_;exact jS I2 hN hi hx r2 (λs3 I3=>⟨_,H2,I3,q2⟩) hf
  rcases l with⟨hk,hm⟩|⟨hk,c,hc,sj⟩
  · exact wpAny_loadName_local I.ok.kind hk hn hm go
  · rcases hk with hk|hk
    · exact wpAny_loadName_cell I.ok.kind hk hc sj go
    · rcases hx with k|k
      · have:X.env.scope.names.lookup x=some .free:=hk
        rw[k]at this;cases this
      · have:X.env.scope.names.lookup x=some .free:=hk
        rw[k]at this;cases this
def ipI(f:Int→Int→Int):TIp:=λx y H Q=>∃ i j,x=.int i∧y=.int j∧Q (.int (f i j)) H
theorem tX:PIp X .Add (ipI λi j=>i+j):=by
  intro pins s σ H x y v u Q I r1 r2 h;obtain⟨i,j,e1,e2,q⟩:=h;subst e1;subst e2;obtain⟨t,rfl⟩:=r1;obtain⟨t',rfl⟩:=r2;exact iadd_int ⟨.int _,H,I.tok _,⟨_,rfl⟩,q⟩
end
section
variable{X:Cx}{pos:Pos}
def wK(c:TT)(tb:TS):TS:=λD σ H=>∃ W:Nat→St→Hp→Prop,(∃ m,W m σ H)∧∀ m σ H,W m σ H →
  c σ H λb H1=>if b=true then ∃ N:St→Hp→Prop,(∀ σ' H',N σ' H'→∃ m',m'<m∧W m' σ' H')∧tb {D with nx:=N,ct:=N,bk:=D.nx} σ H1 else D.nx σ H1
theorem oO{c:Expr}{body:List Stmt}{tc:TT}{tb:TS}(hp:PassesOwn (model X.prog X.w) X.A X.env X.xe)(hc:PT X c tc)(hb:PSs X body tb):PS X (.While c body [] pos) (wK tc tb):=by
  intro pins s σ H D I h;obtain⟨W,⟨m0,w0⟩,turn⟩:=h;refine wpAny_While (codeAny_whileLoop (λn s'=>∃ σ' H',Inv X pins σ' H' s'∧W n σ' H') ?_ m0 ⟨σ,H,I,w0⟩);rintro n s1 ⟨σ1,H1,I1,w1⟩;refine wpAny_passesOwn hp (thn (hc pins s1 σ1 H1 _ I1 (turn n σ1 H1 w1)) λb s2 ⟨H2,I2,q2⟩=>?_);cases b with
  | true =>
    obtain⟨N,hN,q2⟩:=q2;rw[if_pos rfl];refine wpAny_passesOwn hp (thn (hb pins s2 σ1 H2 _ I2 q2) λf s3 q3=>?_);cases f with
    | next =>
      obtain⟨σ3,H3,I3,n3⟩:=q3;obtain⟨m',hm,w3⟩:=hN σ3 H3 n3;exact⟨m',hm,σ3,H3,I3,w3⟩
    | cont =>
      obtain⟨σ3,H3,I3,n3⟩:=q3;obtain⟨m',hm,w3⟩:=hN σ3 H3 n3;exact⟨m',hm,σ3,H3,I3,w3⟩
    | brk=>exact q3
    | ret v=>exact q3
  | false =>
    rw[if_neg Ck];exact wpAny_execs_nil ⟨σ1,H2,I2,q2⟩
end
structure It where
  go:Nat→Hp→Prop
  yld:Nat→Hp→V→Hp→Prop
  stop:Nat→Hp→Prop
def lC(X:Cx)(pins:List (Addr×Obj))(H:Hp)(b:Addr):Prop :=
  H b=none∧b≠X.env.locals∧b∉X.fs∧(b∈X.ex∨X.s₀.heap.objs.size≤b)∧(∀ x c,X.env.cells.lookup x=some c→c≠b)∧∀ p∈X.pn++pins,p.1≠b
theorem Inv.uY{X:Cx}{pins:List (Addr×Obj)}{σ:St}{H H':Hp}{s:Shared}{b:Addr}(I:Inv X pins σ H s)(hb:s.heap.objs.size≤b)(hn:H' b=none):lC X pins H' b:=by
  refine⟨hn,C7 (Cu I.lt hb),I.uX hb,.inr (CK I.sz hb),λx c e z=>?_,λp hp z=>?_⟩
  · obtain⟨v,q⟩:=I.cell x c e
    exact absurd (Cu q.lt (by rw[z];exact hb)) (C6 _)
  · exact absurd (Cu (Cr (I.pin p hp).1) (by rw[z];exact hb)) (C6 _)
structure Turn(P:Program)(w:World)(K:W.Frag)(tg:Expr)(J:It)(fp:List Addr)(it:Addr)(tn:Nat→Heap→Prop):Prop where
  mem:it∈fp
  obj:∀ i h,tn i h→∀ b∈fp,∃ o,h.get? b=some o∧∀ v,o.data≠.cell v
  keep:∀ i h h',tn i h→(∀ b∈fp,∀ o,h.get? b=some o→h'.get? b=some o)→tn i h'
  item:∀(X:Cx),X.prog=P→X.w=w→X.K=K→X.calm=true→∀(i:Nat) (pins:List (Addr×Obj)) (s:Shared) (σ:St) (H:Hp) (E:Value→Shared→Prop),Inv X pins σ H s→(∀ b∈fp,lC X pins H b)→tn i s.heap→J.go i H →
    wpAny (model P w) X.A (pyNext (.ref it)) (λr s1=>∃ u,r=some u ∧
      wpAny (model P w) X.A (letOwnedTupleGo tg (.ref it) u) (λ_ s2=>∃ x H',Inv X pins σ H' s2∧RelV x u∧J.yld i H x H'∧tn (i+1) s2.heap∧∀ b∈fp,H' b=none) E s1) E s
  done:∀(X:Cx),X.prog=P→X.w=w→X.K=K→X.calm=true→∀(i:Nat) (pins:List (Addr×Obj)) (s:Shared) (σ:St) (H:Hp) (E:Value→Shared→Prop),Inv X pins σ H s→(∀ b∈fp,lC X pins H b)→tn i s.heap→J.stop i H →
    wpAny (model P w) X.A (pyNext (.ref it)) (λr s1=>r=none∧Inv X pins σ H s1) E s
  self:∀(A:Around) (i:Nat) (s:Shared) (Q:Value→Shared→Prop) (E:Value→Shared→Prop),tn i s.heap→Q (.ref it) s→wpAny (model P w) A (pyIter (.ref it)) Q E s
abbrev TI:=St→Hp→(It→Hp→Prop)→Prop
def PIE(X:Cx)(pins:List (Addr×Obj))(σ:St)(tg:Expr)(R:It→Hp→Prop)(itv:Value)(s2:Shared):Prop :=
  ∃(it:Addr) (fp:List Addr) (tn:Nat→Heap→Prop) (J:It) (H':Hp),itv=.ref it∧Inv X pins σ H' s2∧Turn X.prog X.w X.K tg J fp it tn∧tn 0 s2.heap∧(∀ b∈fp,lC X pins H' b)∧R J H'
def PI(X:Cx)(tg iter:Expr)(wi:TI):Prop :=
  ∀(pins:List (Addr×Obj)) (s:Shared) (σ:St) (H:Hp) (R:It→Hp→Prop),Inv X pins σ H s→wi σ H R →
    wpAny (model X.prog X.w) X.A (eval iter X.env) (λv s1=>wpAny (model X.prog X.w) X.A (pyIter v) (PIE X pins σ tg R) X.xe s1) X.xe s
theorem vF{M:Model}{A:Around}{E:Value→Shared→Prop}{s:Shared}{tg:Expr}{it:Addr}{u:Value}{o:Obj}{n:String}{vs:Array Value}{Q:Unit→Shared→Prop}(ho:s.heap.get? it=some o)(hc:o.cls=.type n)(hd:o.data=.fields vs)
    (hn:["enumerate", "zip", "dict_itemiterator", "dict_reverseitemiterator", "odict_iterator", "itertools.zip_longest", "itertools.pairwise"].contains n=false) (hQ:Q () s):wpAny M A (letOwnedTupleGo tg (.ref it) u) Q E s:=by
  unfold letOwnedTupleGo;cases tg<;>first
    | exact wpAny_pure hQ
    | (cases u<;>first
        | exact wpAny_pure hQ
        | (refine wpAny_bind (wpAny_load ho ?_)
           rw[hc,hd];show wpAny M A (if(["enumerate", "zip", "dict_itemiterator", "dict_reverseitemiterator", "odict_iterator", "itertools.zip_longest", "itertools.pairwise"].contains n&&vs[0]? == some (rawInt _))=true then _ else _) Q E s;rw[if_neg (by intro h;rw[hn,Bool.false_and]at h;cases h)];exact wpAny_pure hQ))
def Itl(K:W.Frag)(a:Addr):It :=
  ⟨λi H=>∃ xs x,SqL K H a xs∧xs[i]?=some x,λi H x H'=>H'=H∧∀ xs,SqL K H a xs→xs[i]?=some x,λi H=>∃ xs,SqL K H a xs∧xs.length≤i⟩
def Itr(lo:Int)(n:Nat):It:=⟨λi _=>i<n,λi H x H'=>H'=H∧x=.int (lo+i),λi _=>n≤i⟩
theorem rj{P:Program}{w:World}{K:W.Frag}{tg:Expr}(a it:Addr):Turn P w K tg (Itl K a) [it] it (λi h=>h.IsListIter it a i) where
  mem:=by simp
  obj:=λi h st b hb=>by
    have e:b=it:=(by simpa using hb);subst e;obtain⟨o,e,c,d⟩:=st;exact⟨o,e,λv z=>by rw[d]at z;cases z⟩
  keep:=λi h h' st k=>st.at λo e=>k it (by simp) o e
  item:=by
    intro X hP hw hK hc i pins s σ H E I hf st hg;subst hP hw hK;obtain⟨xs,x,hq,hx⟩:=hg;obtain⟨its,rv,p,hz⟩:=I.list hq;obtain⟨u,hu,ru⟩:=rv.get hx;obtain⟨f0,f1,f2,f3,f4,f5⟩:=hf it (by simp);refine wpAny_pyNext_list_item st p.isList (x:=u) (by simpa using hu) λh' st' sb=>?_;have I1:Inv X pins σ H {s with heap:=h'}:=I.turned (t':=s.toks) (λb o hb e=>(sb.2 b hb).trans e) f0 f1 f3 f4 f5;obtain⟨o,e,c,d⟩:=id st';exact⟨u,rfl,vF (s:={s with heap:=h'}) e c d (by decide) ⟨x,H,I1,ru,⟨rfl,λys hy=>by rw[I.oM hy hq];exact hx⟩,st',λb hb=>(hf b hb).1⟩⟩
  done:=by
    intro X hP hw hK hc i pins s σ H E I hf st hg;subst hP hw hK;obtain⟨xs,hq,hx⟩:=hg;obtain⟨its,rv,p,hz⟩:=I.list hq;obtain⟨f0,f1,f2,f3,f4,f5⟩:=hf it (by simp);have hl:=rv.length;exact wpAny_pyNext_list_end (I.ok.hd hc) st p.isList (by simp;omega) λh' eb=>⟨rfl,I.turned (t':=s.toks) (λb o hb e=>eb b o hb e) f0 f1 f3 f4 f5⟩
  self:=λ_ _ _ _ _ st h=>wpAny_pyIter_listiter st h
theorem pK{P:Program}{w:World}{K:W.Frag}{tg:Expr}(it:Addr)(lo:Int)(n:Nat):Turn P w K tg (Itr lo n) [it] it (λi h=>IsRangeIter h it (lo+(i:Nat)*1) ((n:Int)-(i:Nat)) 1) where
  mem:=by simp
  obj:=λi h st b hb=>by
    have e:b=it:=(by simpa using hb);subst e;exact⟨_,st,λv z=>by
      have z':Data.fields _=Data.cell v:=z;cases z'⟩
  keep:=λi h h' st k=>k it (by simp) _ st
  item:=by
    intro X hP hw hK hc i pins s σ H E I hf st hg;subst hP hw hK;obtain⟨f0,f1,f2,f3,f4,f5⟩:=hf it (by simp);have W:=Walks.range (prog:=X.prog) (w:=X.w) (I.ok.hd hc) it lo 1 n;refine W.item i s _ _ hg st λv h' tk hv st' kk=>?_;obtain⟨t,rfl⟩:=hv;have I1:Inv X pins σ H {s with heap:=h',toks:=tk}:=I.turned (λb o hb e=>kk b o (by simpa using hb) e) f0 f1 f3 f4 f5;refine⟨_,rfl,vF (s:={s with heap:=h',toks:=tk}) (n := "range_iterator") st' rfl rfl (by decide) ⟨.int (lo+i),H,I1,⟨t,?_⟩,⟨rfl,rfl⟩,st',λb hb=>(hf b hb).1⟩⟩;rw[Int.mul_one]
  done:=by
    intro X hP hw hK hc i pins s σ H E I hf st hg;subst hP hw hK;obtain⟨f0,f1,f2,f3,f4,f5⟩:=hf it (by simp);exact wpAny_pyNext_range_end (I.ok.hd hc) st (by have:n≤i:=hg;omega) λh' eb=>⟨rfl,I.turned (t':=s.toks) (λb o hb e=>eb b o hb e) f0 f1 f3 f4 f5⟩
  self:=λ_ _ _ _ _ st h=>wpAny_pyIter_rangeiter st h
end L2
namespace L2
open PySem PySem.Spec PyProof.Rows
section
variable{X:Cx}{tg:Expr}
def zb(K:W.Frag)(tl:TE):TI:=λσ H R=>tl σ H λx H1=>∃ a,x=.ref a∧(∃ xs,SqL K H1 a xs)∧R (Itl K a) H1
theorem dq{l:Expr}{tl:TE}(hl:PE X l tl):PI X tg l (zb X.K tl):=by
  intro pins s σ H R I h;refine thn (hl pins s σ H _ I h) λv s1 ⟨x,H1,I1,r1,q1⟩=>?_;obtain⟨a,e,⟨xs,hq⟩,q⟩:=q1;subst e;cases r1;obtain⟨its,rv,p,hz⟩:=I1.list hq;refine wpAny_pyIter_list p.isList ?_;refine⟨s1.heap.objs.size,[s1.heap.objs.size],_,_,H1,rfl,I1.kept (t':=s1.toks) λb o e=>Ce _ e,rj a _,⟨_,CB _ rfl,rfl,rfl⟩,λb hb=>?_,q⟩;have e:b=s1.heap.objs.size:=by simpa using hb
  subst e;exact I1.uY (Cg _) (I1.hok.fresh (Cg _))
theorem sS{pins:List (Addr×Obj)}{σ:St}{H:Hp}{s:Shared}{R:It→Hp→Prop}{E:Value→Shared→Prop}{lo hi:Int}{t u v:Tok}{tk:Nat}(I:Inv X pins σ H s)(h1:-(2 ^ 62)≤lo)(h2:lo<2 ^ 62)(h3:-(2 ^ 62)≤hi)(h4:hi<2 ^ 62)
    (q:R (Itr lo (hi-lo).toNat) H):wpAny (model X.prog X.w) X.A (pyIter (.ref s.heap.objs.size)) (PIE X pins σ tg R) E {s with heap:=s.heap.push {cls:=.type "range",data:=.fields #[.int lo t,.int hi u,.int 1 v]},toks:=tk}:=by
  refine wpAny_pyIter_range (IsRange.new ..) (small_one h1 h2 h3 h4) ?_;have I1:Inv X pins σ H {s with heap:=s.heap.push {cls:=.type "range",data:=.fields #[.int lo t,.int hi u,.int 1 v]},toks:=tk}:=I.kept λb o e=>Ce _ e;refine⟨(s.heap.push {cls:=.type "range",data:=.fields #[.int lo t,.int hi u,.int 1 v]}).objs.size,[(s.heap.push {cls:=.type "range",data:=.fields #[.int lo t,.int hi u,.int 1 v]}).objs.size],_,_,H,rfl,
    I1.kept (t':=tk) λb o e=>Ce _ e,pK _ lo (hi-lo).toNat,?_,λb hb=>?_,q⟩
  · have e1:lo+((0:Nat):Int)*1=lo:=by simp
    have e2:(((hi-lo).toNat:Nat):Int)-((0:Nat):Int)=Builtin.Range.rangeSize lo hi 1:=(by rw[rangeSize_one];split<;>omega);show IsRangeIter _ _ (lo+((0:Nat):Int)*1) ((((hi-lo).toNat:Nat):Int)-((0:Nat):Int)) 1;rw[e1,e2];exact CB _ rfl
  · have e:b=(s.heap.push {cls:=.type "range",data:=.fields #[.int lo t,.int hi u,.int 1 v]}).objs.size:=by simpa using hb
    subst e;exact I1.uY (Cg _) (I1.hok.fresh (Cg _))
def zc(ta:TA):TI:=λσ H R=>ta σ H λvs H1=>∃ j:Int,vs=[.int j]∧-(2 ^ 62)≤j∧j<2 ^ 62∧R (Itr 0 j.toNat) H1
theorem dJ{a:Expr}{ta:TA}{p pos:Pos}(hg:Gl X "range")(hm:X.mg "range" = none)(ha:PA X [a] ta)(hs:starEach [a] X.env=[(false,eval a X.env)]:=by rfl):PI X tg (.Call (.Name "range" p) [a] [] pos) (zc ta):=by
  intro pins s σ H R I h;refine Call_ (iZ I hg hm boot_range (PyProof.Rows.callWith_type1 (thn (ha pos pins s σ H _ I h) λus s1 ⟨vs,H1,I1,r1,q1⟩=>?_) hs rfl));obtain⟨j,e,q1,q2,q⟩:=q1;subst e;cases r1 with
  | cons r rr =>
    cases rr;obtain⟨t,rfl⟩:=r;exact call_range_1 (sS I1 (by omega) (by omega) q1 q2 (by simpa using q))
def Bl(wi:TI)(g:TG)(tb:TS):TS:=λD σ H=>wi σ H λJ H1=>∃ W:Nat→Nat→St→Hp→Prop,(∃ m,W 0 m σ H1)∧∀ i m σ H,W i m σ H →
  (J.stop i H∧D.nx σ H)∨(J.go i H∧∃ N:St→Hp→Prop,(∀ σ' H',N σ' H'→∃ m',m'<m∧W (i+1) m' σ' H')∧∀ x H',J.yld i H x H'→g x σ H' λσ2 H2=>tb {D with nx:=N,ct:=N,bk:=D.nx} σ2 H2)
def nv(fp:List Addr)(h:Heap):List (Addr×Obj):=fp.filterMap λb=>(h.get? b).map λo=>(b,o)
theorem cS{fp:List Addr}{h:Heap}{b:Addr}{o:Obj}(hb:b∈fp)(e:h.get? b=some o):(b,o)∈nv fp h:=C2.mpr ⟨b,hb,by rw[e];rfl⟩
theorem rk{fp:List Addr}{h:Heap}{p:Addr×Obj}(hp:p∈nv fp h):p.1∈fp∧h.get? p.1=some p.2:=by
  obtain⟨b,hb,e⟩:=C2.mp hp;cases q:h.get? b with
  | none=>rw[q]at e;cases e
  | some o =>
    rw[q]at e;have e':(b,o)=p:=CC e;subst e';exact⟨hb,q⟩
theorem Inv.pinned{pins:List (Addr×Obj)}{σ:St}{H:Hp}{s:Shared}{fp:List Addr}(I:Inv X pins σ H s)(hf:∀ b∈fp,lC X pins H b)(ho:∀ b∈fp,∃ o,s.heap.get? b=some o∧∀ v,o.data≠.cell v):Inv X (pins++nv fp s.heap) σ H s :=
  I.gO λp hp=>(Cy.mp hp).elim (λz=>I.pin p (Ci _ z)) λz=>by
    obtain⟨hb,e⟩:=rk z;obtain⟨f0,f1,f2,_⟩:=hf p.1 hb;obtain⟨o,e',d⟩:=ho p.1 hb;rw[e]at e';cases e';exact⟨e,f0,f1,f2,d⟩
theorem Inv.fJ{pins pl:List (Addr×Obj)}{σ:St}{H:Hp}{s:Shared}(I:Inv X (pins++pl) σ H s):Inv X pins σ H s:=I.gO λp hp=>I.pin p (Ci _ (Dc _ hp))
theorem di{iter:Expr}{body:List Stmt}{wi:TI}{g:TG}{tb:TS}{pos:Pos}(hp:PassesOwn (model X.prog X.w) X.A X.env X.xe)(hc:X.calm=true)(hi:PI X tg iter wi)(hg:PG X tg g)(hb:PSs X body tb)
    (hs:∀ x,foldedSetIterable iter X.env x=pure x:=by intro _;rfl):PS X (.For tg iter body [] pos) (Bl wi g tb):=by
  intro pins s σ H D I h;refine wpAny_For (thn (hi pins s σ H _ I h) λv s1 h1=>thn h1 λitv s2 h2=>?_) hs;obtain⟨it,fp,tn,J,H2,e,I2,T,st2,f2,W,⟨m0,w0⟩,turn⟩:=h2;subst e;have mZ:∀ {H':Hp},(∀ b∈fp,H' b=none)→∀ b∈fp,lC X pins H' b:=λhn b hb=>⟨hn b hb,(f2 b hb).2⟩;refine codeAny_forLoop_any (λn s'=>∃ i σ' H',Inv X pins σ' H' s'∧tn i s'.heap∧(∀ b∈fp,H' b=none)∧W i n σ' H') ?_ m0 ⟨0,σ,H2,I2,st2,λb hb=>(f2 b hb).1,w0⟩;rintro n s3 ⟨i,σ3,H3,I3,st3,fr3,w3⟩;rcases turn i n σ3 H3 w3 with⟨stop,qn⟩|⟨go,N,hN,step⟩
  · refine wpAny_passesOwn hp (thn (T.done X rfl rfl rfl hc i pins s3 σ3 H3 X.xe I3 (mZ fr3) st3 stop) λr s4 ⟨hr,I4⟩=>?_)
    subst hr;exact wpAny_execs_nil ⟨σ3,H3,I4,qn⟩
  · refine wpAny_passesOwn hp (thn (T.item X rfl rfl rfl hc i pins s3 σ3 H3 X.xe I3 (mZ fr3) st3 go) λr s4 ⟨u,hr,h4⟩=>?_)
    subst hr;refine wpAny_passesOwn hp (thn h4 λ_ s5 ⟨x,H5,I5,r5,y5,st5,fr5⟩=>?_);have I5':=I5.pinned (mZ fr5) (T.obj _ _ st5);refine wpAny_passesOwn hp (thn (hg _ s5 σ3 H5 x u _ I5' r5 (step x H5 y5)) λ_ s6 ⟨σ6,H6,I6,q6⟩=>?_);refine wpAny_passesOwn hp (thn (hb _ s6 σ6 H6 _ I6 q6) λf s7 q7=>?_);have again:∀ {σ7:St} {H7:Hp},Inv X (pins++nv fp s5.heap) σ7 H7 s7→N σ7 H7→∃ m,m<n∧∃ i σ' H',Inv X pins σ' H' s7∧tn i s7.heap∧(∀ b∈fp,H' b=none)∧W i m σ' H':=λ{σ7 H7} I7 n7=>by
      obtain⟨m',hm,w7⟩:=hN σ7 H7 n7;refine⟨m',hm,i+1,σ7,H7,I7.fJ,T.keep _ _ _ st5 λb hb o e=>(I7.pin (b,o) (Ci _ (Ci _ (cS hb e)))).1,λb hb=>?_,w7⟩;obtain⟨o,e,d⟩:=T.obj _ _ st5 b hb;exact(I7.pin (b,o) (Ci _ (Ci _ (cS hb e)))).2.1
    cases f with
    | next=>obtain⟨σ7,H7,I7,n7⟩:=q7;exact again I7 n7
    | cont=>obtain⟨σ7,H7,I7,n7⟩:=q7;exact again I7 n7
    | brk=>obtain⟨σ7,H7,I7,q7⟩:=q7;exact⟨σ7,H7,I7.fJ,q7⟩
    | ret v=>obtain⟨x7,σ7,H7,I7,r7,q7⟩:=q7;exact⟨x7,σ7,H7,I7.fJ,r7,q7⟩
end
theorem eS{K:W.Frag}{a:Addr}{xs:List V}{g:TG}{tb:TS}{D:Ends}{σ:St}{H:Hp}(Pv:Nat→St→Hp→Prop)(h0:Pv 0 σ H)(hl:∀ i σ H,i≤xs.length→Pv i σ H→SqL K H a xs)
    (hs:∀ i x σ H,xs[i]?=some x→Pv i σ H→g x σ H λσ2 H2=>tb {D with nx:=Pv (i+1),ct:=Pv (i+1),bk:=D.nx} σ2 H2) (hd:∀ σ H,Pv xs.length σ H→D.nx σ H) :
    ∃ W:Nat→Nat→St→Hp→Prop,(∃ m,W 0 m σ H)∧∀ i m σ H,W i m σ H →
      ((Itl K a).stop i H∧D.nx σ H)∨((Itl K a).go i H∧∃ N:St→Hp→Prop,(∀ σ' H',N σ' H'→∃ m',m'<m∧W (i+1) m' σ' H')∧∀ x H',(Itl K a).yld i H x H'→g x σ H' λσ2 H2=>tb {D with nx:=N,ct:=N,bk:=D.nx} σ2 H2):=by
  refine⟨λi m σ H=>m=xs.length-i∧i≤xs.length∧Pv i σ H,⟨xs.length,by simp,CG _,h0⟩,?_⟩;rintro i m σ H ⟨rfl,hi,p⟩;have q:=hl i σ H hi p;by_cases hlt:i<xs.length
  · refine .inr ⟨⟨xs,xs[i],q,by simp[hlt]⟩,Pv (i+1),λσ' H' p'=>⟨xs.length-(i+1),by omega,rfl,hlt,p'⟩,λx H' y=>?_⟩
    obtain⟨e,y⟩:=y;subst e;exact hs i x σ _ (y xs q) p
  · have e:i=xs.length:=by omega
    subst e;exact .inl ⟨⟨xs,q,Cg _⟩,hd σ H p⟩
theorem lD{lo:Int}{n:Nat}{g:TG}{tb:TS}{D:Ends}{σ:St}{H:Hp}(Pv:Nat→St→Hp→Prop)(h0:Pv 0 σ H)
    (hs:∀ i σ H,i<n→Pv i σ H→g (.int (lo+i)) σ H λσ2 H2=>tb {D with nx:=Pv (i+1),ct:=Pv (i+1),bk:=D.nx} σ2 H2) (hd:∀ σ H,Pv n σ H→D.nx σ H) :
    ∃ W:Nat→Nat→St→Hp→Prop,(∃ m,W 0 m σ H)∧∀ i m σ H,W i m σ H →
      ((Itr lo n).stop i H∧D.nx σ H)∨((Itr lo n).go i H∧∃ N:St→Hp→Prop,(∀ σ' H',N σ' H'→∃ m',m'<m∧W (i+1) m' σ' H')∧∀ x H',(Itr lo n).yld i H x H'→g x σ H' λσ2 H2=>tb {D with nx:=N,ct:=N,bk:=D.nx} σ2 H2):=by
  refine⟨λi m σ H=>m=n-i∧i≤n∧Pv i σ H,⟨n,by simp,CG _,h0⟩,?_⟩;rintro i m σ H ⟨rfl,hi,p⟩;by_cases hlt:i<n
  · refine .inr ⟨hlt,Pv (i+1),λσ' H' p'=>⟨n-(i+1),by omega,rfl,hlt,p'⟩,λx H' y=>?_⟩
    obtain⟨e,y⟩:=y;subst e y;exact hs i σ _ hlt p
  · have e:i=n:=by omega
    subst e;exact .inl ⟨Cg _,hd σ H p⟩
end L2
namespace L2
open PySem PySem.Spec PyProof.Rows
abbrev R2:=V→V→Hp→VK→Prop
def OpR(X:Cx)(f:Value→Value→Sem Value)(r:R2):Prop :=
  ∀(pins:List (Addr×Obj)) (s:Shared) (σ:St) (H:Hp) (x y:V) (v u:Value) (Q:VK),Inv X pins σ H s→RelV x v→RelV y u→r x y H Q →
    wpAny (model X.prog X.w) X.A (f v u) (EP X pins σ Q) X.xe s
def jz(X:Cx)(f:Value)(r:List V→Hp→VK→Prop):Prop :=
  ∀(pins:List (Addr×Obj)) (s:Shared) (σ:St) (H:Hp) (xs:List V) (us:List Value) (Q:VK),Inv X pins σ H s→Vals xs us→r xs H Q →
    wpAny (model X.prog X.w) X.A (call f us) (EP X pins σ Q) X.xe s
def tOp(r:R2)(ta tb:TE):TE:=λσ H Q=>ta σ H λx H1=>tb σ H1 λy H2=>r x y H2 Q
def rI(C:Int→Int→Prop)(g:Int→Int→V):R2:=λx y H Q=>∃ i j,x=.int i∧y=.int j∧C i j∧Q (g i j) H
def rI0(g:Int→Int→V):R2:=λx y H Q=>∃ i j,x=.int i∧y=.int j∧Q (g i j) H
section
variable{X:Cx}{a b c:Expr}{ta tb tc:TE}{pos:Pos}
theorem xF(ha:PE X a ta)(hb:PE X b tb){pins:List (Addr×Obj)}{s:Shared}{σ:St}{H:Hp}{R:V→V→Hp→Prop}(I:Inv X pins σ H s)
    (h:ta σ H λx H1=>tb σ H1 λy H2=>R x y H2) {Q:Value→Shared→Prop} {f:Value→Value→Sem Value}
    (hf:∀ v u s2 x y H2,Inv X pins σ H2 s2→RelV x v→RelV y u→R x y H2→wpAny (model X.prog X.w) X.A (f v u) Q X.xe s2) :
    wpAny (model X.prog X.w) X.A (eval a X.env) (λv s₁=>wpAny (model X.prog X.w) X.A (eval b X.env) (λu s₂=>wpAny (model X.prog X.w) X.A (f v u) Q X.xe s₂) X.xe s₁) X.xe s:=by
  refine thn (ha pins s σ H _ I h) λv s1 ⟨x,H1,I1,r1,q1⟩=>?_;refine thn (hb pins s1 σ H1 _ I1 q1) λu s2 ⟨y,H2,I2,r2,q2⟩=>?_;exact hf v u s2 x y H2 I2 r1 r2 q2
theorem aw{op:Operator}{r:R2}(ho:OpR X (binaryOp op) r)(ha:PE X a ta)(hb:PE X b tb):PE X (.BinOp a op b pos) (tOp r ta tb):=by
  intro pins s σ H Q I h;exact wpAny_BinOp (xF ha hb I h λv u s2 x y H2 I2 rx ry q=>ho pins s2 σ H2 x y v u Q I2 rx ry q)
theorem opI{f:Value→Value→Sem Value}{C:Int→Int→Prop}{g:Int→Int→Int}
    (rule:∀(i j:Int) (t u:Tok) (s:Shared) (Q:Value→Shared→Prop) (E:Value→Shared→Prop),C i j→Q (.int (g i j) s.toks) {s with toks:=s.toks+1}→wpAny (model X.prog X.w) X.A (f (.int i t) (.int j u)) Q E s) :
    OpR X f (rI C λi j=>.int (g i j)):=by
  intro pins s σ H x y v u Q I rx ry h;obtain⟨i,j,rfl,rfl,hc,q⟩:=h;obtain⟨t,rfl⟩:=rx;obtain⟨t',rfl⟩:=ry;exact rule i j t t' s _ _ hc ⟨.int (g i j),H,I.tok _,⟨_,rfl⟩,q⟩
theorem Ah{f:Value→Value→Sem Value}{g:Int→Int→Int}
    (rule:∀(i j:Int) (t u:Tok) (s:Shared) (Q:Value→Shared→Prop) (E:Value→Shared→Prop),Q (.int (g i j) s.toks) {s with toks:=s.toks+1}→wpAny (model X.prog X.w) X.A (f (.int i t) (.int j u)) Q E s) :
    OpR X f (rI0 λi j=>.int (g i j)):=by
  intro pins s σ H x y v u Q I rx ry h;obtain⟨i,j,rfl,rfl,q⟩:=h;obtain⟨t,rfl⟩:=rx;obtain⟨t',rfl⟩:=ry;exact rule i j t t' s _ _ ⟨.int (g i j),H,I.tok _,⟨_,rfl⟩,q⟩
theorem vG{f:Value→Value→Sem Value}{g:Int→Int→Bool}
    (rule:∀(i j:Int) (t u:Tok) (s:Shared) (Q:Value→Shared→Prop) (E:Value→Shared→Prop),Q (.bool (g i j)) s→wpAny (model X.prog X.w) X.A (f (.int i t) (.int j u)) Q E s) :
    OpR X f (rI0 λi j=>.bl (g i j)):=by
  intro pins s σ H x y v u Q I rx ry h;obtain⟨i,j,rfl,rfl,q⟩:=h;obtain⟨t,rfl⟩:=rx;obtain⟨t',rfl⟩:=ry;exact rule i j t t' s _ _ ⟨.bl (g i j),H,I,rfl,q⟩
def Bm(i j:Int):Prop:=0<j∧j<1073741824
def xG(i j:Int):Prop:=(-(2 ^ 64)<i∧i<2 ^ 64)∨(-(2 ^ 64)<j∧j<2 ^ 64)
theorem xG.ok{i j:Int}(h:xG i j):IntMulOk i j:=by
  rcases h with⟨h1,h2⟩|⟨h1,h2⟩
  · exact .of_left (intBits_le_64 h1 h2)
  · exact .of_right (intBits_le_64 h1 h2)
theorem aS:OpR X (binaryOp .Add) (rI0 λi j=>.int (i+j)):=Ah λ_ _ _ _ _ _ _ q=>add_int q
theorem wL:OpR X (binaryOp .Sub) (rI0 λi j=>.int (i-j)):=Ah λ_ _ _ _ _ _ _ q=>sub_int q
theorem fK:OpR X (binaryOp .Mult) (rI xG λi j=>.int (i*j)):=opI λ_ _ _ _ _ _ _ hc q=>mul_int q hc.ok
theorem dP:OpR X (binaryOp .FloorDiv) (rI Bm λi j=>.int (i/j)):=opI λi j _ _ _ _ _ hc q=>by
  have h1:(0:Int)<j:=hc.1;have h2:j<1073741824:=hc.2;exact floordiv_int (by omega) (by rw[Int.fdiv_eq_ediv_of_nonneg i (by omega)];exact q) (.inl (PyProof.noPylong_small (by omega)))
theorem bS:OpR X (binaryOp .Mod) (rI (λ_ j=>0<j) λi j=>.int (i%j)):=opI λi j _ _ _ _ _ hc q=>by
  have h1:(0:Int)<j:=hc;exact mod_int' (by omega) (by rw[Int.fmod_eq_emod_of_nonneg i (by omega)];exact q)
end
def Ai:V→V→Bool
  | .non,.non=>true|.non,.int _=>true|.int _,.non=>true|.non,.bl _=>true|.bl _,.non=>true|.non,.str _=>true|.str _,.non=>true
  | .int _,.int _=>true|.bl _,.bl _=>true|.str _,.str _=>true|.byt _,.byt _=>true
  | .int _,.str _=>true|.str _,.int _=>true|.bl _,.str _=>true|.str _,.bl _=>true
  | _,_=>false
def rEq:R2:=λx y H Q=>Ai x y=true∧Q (.bl (decide (x=y))) H
def rNe:R2:=λx y H Q=>Ai x y=true∧Q (.bl (!decide (x=y))) H
theorem qF{i j:Int}:decide (V.int i=V.int j)=(i == j):=by
  rw[Dt];simp
theorem tY{i j:Bool}:decide (V.bl i=V.bl j)=(i == j):=by
  rw[Dt];simp
theorem qG{i j:Str}:decide (V.str i=V.str j)=(i == j):=by
  rw[Dt];simp
theorem qH{i j:Array UInt8}:decide (V.byt i=V.byt j)=(i.toList == j.toList):=by
  rw[Dt];cases i;cases j;simp
section
variable{X:Cx}{a b c:Expr}{ta tb tc:TE}{pos:Pos}
theorem aT{pins:List (Addr×Obj)}{σ:St}{H:Hp}{s:Shared}{Q:VK}{k k':Bool}(I:Inv X pins σ H s)(q:Q (.bl k) H)(e:k=k'):EP X pins σ Q (.bool k') s:=by
  subst e;exact⟨.bl k,H,I,rfl,q⟩
theorem sk:OpR X (compareOp .Eq) rEq:=by
  intro pins s σ H x y v u Q I rx ry h;obtain⟨hs,q⟩:=h;cases x with
  | non =>
    cases rx;cases y with
    | non=>cases ry;exact PySem.EqNone.eq_none_none (aT I q (by simp))
    | bl j=>cases ry;exact PySem.EqNone.eq_none_bool (aT I q (by simp))
    | int j=>obtain⟨t',rfl⟩:=ry;exact PySem.EqNone.eq_none_int (aT I q (by simp))
    | str j=>obtain⟨t',rfl⟩:=ry;exact PySem.EqNone.eq_none_str (aT I q (by simp))
    | _=>exact absurd (show false=true from hs) Ck
  | bl i =>
    cases rx;cases y with
    | non=>cases ry;exact PySem.EqNone.eq_bool_none (aT I q (by simp))
    | bl j=>cases ry;exact eq_bool (aT I q tY)
    | str j=>obtain⟨t',rfl⟩:=ry;exact PySem.EqMixed.eq_bool_str (aT I q (by simp))
    | _=>exact absurd (show false=true from hs) Ck
  | int i =>
    obtain⟨t,rfl⟩:=rx;cases y with
    | non=>cases ry;exact PySem.EqNone.eq_int_none (aT I q (by simp))
    | int j=>obtain⟨t',rfl⟩:=ry;exact eq_int (aT I q qF)
    | str j=>obtain⟨t',rfl⟩:=ry;exact PySem.EqMixed.eq_int_str (aT I q (by simp))
    | _=>exact absurd (show false=true from hs) Ck
  | str i =>
    obtain⟨t,rfl⟩:=rx;cases y with
    | non=>cases ry;exact PySem.EqNone.eq_str_none (aT I q (by simp))
    | bl j=>cases ry;exact PySem.EqMixed.eq_str_bool (aT I q (by simp))
    | int j=>obtain⟨t',rfl⟩:=ry;exact PySem.EqMixed.eq_str_int (aT I q (by simp))
    | str j=>obtain⟨t',rfl⟩:=ry;exact eq_str (aT I q qG)
    | _=>exact absurd (show false=true from hs) Ck
  | byt i =>
    obtain⟨t,rfl⟩:=rx;cases y with
    | byt j=>obtain⟨t',rfl⟩:=ry;exact PySem.W.eq_bytes (aT I q qH)
    | _=>exact absurd (show false=true from hs) Ck
  | _=>cases y<;>exact absurd (show false=true from hs) Ck
theorem ze:OpR X (compareOp .NotEq) rNe:=by
  intro pins s σ H x y v u Q I rx ry h;obtain⟨hs,q⟩:=h;cases x with
  | non =>
    cases rx;cases y with
    | non=>cases ry;exact PySem.EqNone.ne_none_none (aT I q (by simp))
    | bl j=>cases ry;exact PySem.EqNone.ne_none_bool (aT I q (by simp))
    | int j=>obtain⟨t',rfl⟩:=ry;exact PySem.EqNone.ne_none_int (aT I q (by simp))
    | str j=>obtain⟨t',rfl⟩:=ry;exact PySem.EqNone.ne_none_str (aT I q (by simp))
    | _=>exact absurd (show false=true from hs) Ck
  | bl i =>
    cases rx;cases y with
    | non=>cases ry;exact PySem.EqNone.ne_bool_none (aT I q (by simp))
    | bl j=>cases ry;exact ne_bool (aT I q (congrArg not tY))
    | str j=>obtain⟨t',rfl⟩:=ry;exact PySem.EqMixed.ne_bool_str (aT I q (by simp))
    | _=>exact absurd (show false=true from hs) Ck
  | int i =>
    obtain⟨t,rfl⟩:=rx;cases y with
    | non=>cases ry;exact PySem.EqNone.ne_int_none (aT I q (by simp))
    | int j=>obtain⟨t',rfl⟩:=ry;exact ne_int (aT I q (congrArg not qF))
    | str j=>obtain⟨t',rfl⟩:=ry;exact PySem.EqMixed.ne_int_str (aT I q (by simp))
    | _=>exact absurd (show false=true from hs) Ck
  | str i =>
    obtain⟨t,rfl⟩:=rx;cases y with
    | non=>cases ry;exact PySem.EqNone.ne_str_none (aT I q (by simp))
    | bl j=>cases ry;exact PySem.EqMixed.ne_str_bool (aT I q (by simp))
    | int j=>obtain⟨t',rfl⟩:=ry;exact PySem.EqMixed.ne_str_int (aT I q (by simp))
    | str j=>obtain⟨t',rfl⟩:=ry;exact ne_str (aT I q (congrArg not qG))
    | _=>exact absurd (show false=true from hs) Ck
  | byt i =>
    obtain⟨t,rfl⟩:=rx;cases y with
    | byt j=>obtain⟨t',rfl⟩:=ry;exact PySem.W.ne_bytes (aT I q (congrArg not qH))
    | _=>exact absurd (show false=true from hs) Ck
  | _=>cases y<;>exact absurd (show false=true from hs) Ck
theorem nz:OpR X (compareOp .Lt) (rI0 λi j=>.bl (decide (i<j))):=vG λ_ _ _ _ _ _ _ q=>lt_int q
theorem zf:OpR X (compareOp .LtE) (rI0 λi j=>.bl (decide (i≤j))):=vG λ_ _ _ _ _ _ _ q=>le_int q
theorem uG:OpR X (compareOp .Gt) (rI0 λi j=>.bl (decide (j<i))):=vG λ_ _ _ _ _ _ _ q=>gt_int q
theorem zg:OpR X (compareOp .GtE) (rI0 λi j=>.bl (decide (j≤i))):=vG λ_ _ _ _ _ _ _ q=>ge_int q
theorem tZ:OpR X (compareOp .Is) (λx y H Q=>y=.non∧Q (.bl (decide (x=.non))) H):=by
  intro pins s σ H x y v u Q I rx ry h;obtain⟨rfl,q⟩:=h;cases ry;refine is_none_gen (aT I q ?_);cases x<;>first
    | (cases rx;rfl)
    | (obtain⟨t,rfl⟩:=rx;rfl)
theorem qI:OpR X (compareOp .IsNot) (λx y H Q=>y=.non∧Q (.bl (!decide (x=.non))) H):=by
  intro pins s σ H x y v u Q I rx ry h;obtain⟨rfl,q⟩:=h;cases ry;refine isnot_none_gen (aT I q ?_);cases x<;>first
    | (cases rx;rfl)
    | (obtain⟨t,rfl⟩:=rx;rfl)
theorem bT(b:Expr){op:CmpOp}(h:op≠.In:=by decide)(h2:op≠.NotIn:=by decide):behindInMarks op b=false:=by
  have e1:(op == CmpOp.In)=false:=by cases op<;>first|rfl|exact absurd rfl h
  have e2:(op == CmpOp.NotIn)=false:=by cases op<;>first|rfl|exact absurd rfl h2
  cases b<;>simp[behindInMarks,e1,e2]
theorem uZ{op:CmpOp}{r:R2}(ho:OpR X (compareOp op) r)(ha:PE X a ta)(hb:PE X b tb)(hm:behindInMarks op b=false):PE X (.Compare a [op] [b] pos) (tOp r ta tb):=by
  intro pins s σ H Q I h;exact wpAny_Compare1 (xF ha hb I h λv u s2 x y H2 I2 rx ry q=>ho pins s2 σ H2 x y v u Q I2 rx ry q) hm
def vH(t:TE):TT:=λσ H Q=>t σ H λx H'=>∃ k,x=.bl k∧Q k H'
theorem aW{op:CmpOp}{r:R2}(ho:OpR X (compareOp op) r)(ha:PE X a ta)(hb:PE X b tb)(hm:behindInMarks op b=false):PT X (.Compare a [op] [b] pos) (vH (tOp r ta tb)):=by
  intro pins s σ H Q I h;refine wpAny_isTrue_Compare1 (thn (ha pins s σ H _ I h) λv s1 ⟨x,H1,I1,r1,q1⟩=>thn (hb pins s1 σ H1 _ I1 q1) λu s2 ⟨y,H2,I2,r2,q2⟩ =>
    thn (ho pins s2 σ H2 x y v u _ I2 r1 r2 q2) λc s3 ⟨z,H3,I3,r3,k,e,q3⟩=>?_) hm
  subst e;cases r3;exact wpAny_truthy_bool ⟨H3,I3,q3⟩
def wM(r r':R2)(ta tb tc:TE):TE:=λσ H Q=>ta σ H λx H1=>tb σ H1 λy H2=>r x y H2 λz H3=>∃ k,z=.bl k ∧
  (if k=true then tc σ H3 λw' H4=>r' y w' H4 Q else Q (.bl false) H3)
theorem sT{op op':CmpOp}{r r':R2}(ho:OpR X (compareOp op) r)(ho':OpR X (compareOp op') r')(ha:PE X a ta)(hb:PE X b tb)(hc:PE X c tc)
    (hm:lastMarks [op,op'] [b,c]=false:=by with_unfolding_all rfl):PT X (.Compare a [op,op'] [b,c] pos) (vH (wM r r' ta tb tc)):=by
  intro pins s σ H Q I h;refine isTrue_chain (thn (ha pins s σ H _ I h) λv s1 ⟨x,H1,I1,r1,q1⟩=>test_link (thn (hb pins s1 σ H1 _ I1 q1) λu s2 ⟨y,H2,I2,r2,q2⟩ =>
    thn (ho pins s2 σ H2 x y v u _ I2 r1 r2 q2) λd s3 ⟨z,H3,I3,r3,k,e,q3⟩=>?_)) hm
  subst e;cases r3;refine wpAny_truthy_bool ?_;cases k with
  | false =>
    obtain⟨k',e',q'⟩:=q3;cases e';exact ite_ff ⟨H3,I3,q'⟩
  | true =>
    refine ite_tt (test_last (thn (hc pins s3 σ H3 _ I3 q3) λw' s4 ⟨z',H4,I4,r4,q4⟩=>thn (ho' pins s4 σ H4 y z' u w' _ I4 r2 r4 q4) λd' s5 ⟨z2,H5,I5,r5,k2,e2,q5⟩=>?_));subst e2;cases r5;exact wpAny_truthy_bool ⟨H5,I5,q5⟩
theorem nA:(sizeLine:Nat)<2 ^ 63:=by rw[sizeLine_eq];decide
theorem vals1{x:V}{us:List Value}(r:Vals [x] us):∃ u,us=[u]∧RelV x u:=by
  cases r with
  | cons r1 r2=>cases r2;exact⟨_,rfl,r1⟩
end
end L2
namespace L2
open PySem PySem.Spec PyProof.Rows
structure sH(h:Heap)(x dx C:Addr)(mA:Str→Option Value):Prop where
  obj:h.get? x=some (PySem.W.instObj C dx)
  ns:h.Ns1 dx mA
  ne:dx≠x
theorem rn{h:Heap}{dx:Addr}{mA:Str→Option Value}(n:h.Ns1 dx mA):∃ od,h.get? dx=some od∧∀ name,PySem.W.lookIn name od=some (mA name):=by
  obtain⟨o,es,ep,ho,hd,hk,_,hm⟩:=n;refine⟨o,ho,λname=>?_⟩;have e:=hm name;unfold nsFind findBy at e;rw[←Array.find?_toList]at e;unfold PySem.W.lookIn;rw[hd];dsimp only;split
  · rename_i y q
    rw[q]at e;exact congrArg some e
  · rename_i q
    rw[q]at e;have a:es.toList.any (·.refKey)=false:=by
      rw[List.any_eq_false];intro y hy;obtain⟨z,t,Bn⟩:=hk y (Array.mem_toList_iff.mp hy);simp[DictEntry.refKey,Bn]
    have a':¬es.toList.any (·.refKey)=true:=(by rw[a];exact Ck);rw[if_neg a'];exact congrArg some e
theorem sH.look{h:Heap}{x dx C:Addr}{mA:Str→Option Value}(I:sH h x dx C mA):∃ od,PySem.W.InstAt h x (PySem.W.instObj C dx) C (some od)∧∀ name,PySem.W.lookIn name od=some (mA name) :=
  let ⟨od,ho,hl⟩:=rn I.ns
  ⟨od,⟨I.obj,rfl,rfl,ho⟩,hl⟩
section
variable{prog:Program}{w:World}{A:Around}{E:Value→Shared→Prop}{s:Shared}{K:W.Frag}{x dx C f:Addr}{mA:Str→Option Value}{name:Str}{v:Value}
theorem get_map{expr:Bool}{Q:Value→Shared→Prop}(X:K.In s.heap)(I:sH s.heap x dx C mA)(hg:PySem.W.plainGet K C name=true)(hh:PySem.W.hasDictIn K C=true)
    (ha:PySem.W.findIn K (.ref C) name=some none) (hv:mA name=some v) (hv':PySem.W.handedIn v=true) (h:Q v {s with toks:=s.toks+1}) :
    wpAny (model prog w) A (getAttr (.ref x) name expr) Q E s:=by
  obtain⟨od,J,hl⟩:=I.look;exact PySem.W.get_value X J (PySem.W.plainGet_of hg).1 (PySem.W.findObj_own hh ha rfl (by rw[hl,hv])) hv' h
theorem sU{pl:Sem Bool}{Q:Value×List Value→Shared→Prop}(X:K.In s.heap)(I:sH s.heap x dx C mA)(hg:PySem.W.plainGet K C name=true)
    (hf:PySem.W.findIn K (.ref C) name=some (some (.ref f))) (ht:PySem.W.isFn K (.ref f)=true) (hv:mA name=none) (h:Q (.ref f,[.ref x]) s) :
    wpAny (model prog w) A (getMethod (.ref x) name pl) Q E s:=by
  obtain⟨od,J,hl⟩:=I.look;exact PySem.W.method_fn X J (PySem.W.plainGet_of hg).1 (PySem.W.plainGet_of hg).2 hf (beq_iff_eq.mp ht) (by show(PySem.W.lookIn name od).map (·.isSome)=some false;rw[hl,hv];rfl) h
theorem u0{ns:List Str}{Q:Unit→Shared→Prop}(X:K.In s.heap)(I:sH s.heap x dx C mA)
    (hs:PySem.W.findIn K (.ref C) "__setattr__" = some (some (.builtin "object.__setattr__"))) (hp:PySem.W.plainOver K C=true) (ht:PySem.W.takerIn K C name=some none) (hh:PySem.W.hasDictIn K C=true)
    (hw:PySem.Within mA ns) (hsz:ns.length≤sizeLine)
    (h:∀ h',sH h' x dx C (λy=>if y=name then some v else mA y)→Heap.SameBut dx s.heap h'→Q () {s with heap:=h',toks:=s.toks+2}) :
    wpAny (model prog w) A (setAttr (.ref x) name v) Q E s:=by
  obtain⟨od,J,hl⟩:=I.look;refine PySem.W.set_plain X J hs (PySem.W.osa_open (s:={s with toks:=s.toks+1}) (r:=none) X J hp ht λb=>?_);obtain⟨cd,hc,hd'⟩:=PySem.W.any_some hh;have hx:s.heap.get? x=some ⟨.ref C,some dx,.plain,#[]⟩:=I.obj;refine wpAny_bind (wpAny_pure (wpAny_bind (wpAny_bind (wpAny_loadPart hx (wpAny_bind (PySem.W.Looks.here (s:={s with toks:=s.toks+1}) (PySem.W.looks_clsIn X hc) ?_))))));rw[hd'];refine wpAny_pure (a:=some dx) (wpAny_bind (wpAny_pure (wpAny_bind ?_)));refine wpAny_nsSet1 (s:={s with toks:=s.toks+1}) I.ns λh' hn2 hs2=>?_;obtain⟨oD,esD,epD,hoD,hdD,hcD⟩:=hn2.count (PySem.Within.cons name v hw);refine wpAny_bind (wpAny_lookBehind hoD (by rw[hdD];exact pastItsLine_dict (CK hcD (by rw[CI];omega))) ?_);exact wpAny_pure (h _ ⟨(hs2.2 _ (CV I.ne)).trans I.obj,hn2,I.ne⟩ hs2)
theorem sV{R:Result→Shared→Prop}{vs:List Value}{kw:List (Str×Value)}(X:K.In s.heap)(hm:PySem.W.makesIn K C=true)
    (hi:PySem.W.findIn K (.ref C) "__init__" = some (some (.ref f))) (hf:PySem.W.typeIn K (.ref f)=some (.type "function"))
    (h:codeAny (model prog w) (A.under (.builtin "type.__call__" ⟨.ref C::vs,kw⟩)) (.call (.ref f) ⟨.ref (s.heap.objs.size+1)::vs,kw⟩) (PySem.W.InitBack (s.heap.objs.size+1) R)
      {s with heap:=(s.heap.push PySem.W.emptyDict).push (PySem.W.instObj C s.heap.objs.size)}) :
    codeAny (model prog w) A (.call (.ref C) ⟨vs,kw⟩) R s:=by
  obtain⟨hh,g,d,t,os⟩:=s;exact PySem.W.make_core (PySem.W.makes_of X hm) (PySem.W.looks_findIn X hi) (λself=>PySem.W.bind_fn X self hf) (.inl rfl) h
end
def iE(f:Str)(v:V):List (Str×V)→List (Str×V)
  | []=>[(f,v)]
  | (g,x)::r=>if g=f then(g,v)::r else(g,x)::iE f v r
theorem iF(f g:Str)(v:V):∀ fs:List (Str×V),(iE f v fs).lookup g=if g=f then some v else fs.lookup g
  | []=>by
    show List.lookup g [(f,v)]=_;by_cases h:g=f
    · have hb:(g == f)=true:=beq_iff_eq.mpr h
      simp only[List.lookup,hb,if_pos h]
    · have hb:(g == f)=false:=beq_eq_false_iff_ne.mpr h
      simp only[List.lookup,hb,if_neg h]
  | (k,x)::r=>by
    have ih:=iF f g v r;rw[show iE f v ((k,x)::r)=(if k=f then(k,v)::r else(k,x)::iE f v r) from rfl];by_cases hk:k=f
    · rw[if_pos hk]
      by_cases h:g=k
      · have hb:(g == k)=true:=beq_iff_eq.mpr h
        simp only[List.lookup,hb,if_pos (h.trans hk)]
      · have hb:(g == k)=false:=beq_eq_false_iff_ne.mpr h
        simp only[List.lookup,hb,if_neg (λe:g=f=>h (e.trans hk.symm))]
    · rw[if_neg hk]
      by_cases h:g=k
      · have hb:(g == k)=true:=beq_iff_eq.mpr h
        simp only[List.lookup,hb,if_neg (λe:g=f=>hk (h.symm.trans e))]
      · have hb:(g == k)=false:=beq_eq_false_iff_ne.mpr h
        simp only[List.lookup,hb];exact ih
theorem iy(f:Str)(v:V):∀ fs:List (Str×V),f∈(iE f v fs).map (·.1)∧∀ g,g∈fs.map (·.1)→g∈(iE f v fs).map (·.1)
  | []=>⟨by simp[iE],λg h=>by simp at h⟩
  | (k,x)::r=>by
    obtain⟨i1,i2⟩:=iy f v r;rw[show iE f v ((k,x)::r)=(if k=f then(k,v)::r else(k,x)::iE f v r) from rfl];by_cases hk:k=f
    · rw[if_pos hk]
      subst hk;exact⟨by simp,λg h=>by simpa using h⟩
    · rw[if_neg hk]
      refine⟨?_,λg h=>?_⟩
      · rw[CQ]
        exact Cm _ i1
      · rw[CQ]at h ⊢
        rcases Cw.mp h with e|e
        · exact Cw.mpr (.inl e)
        · exact Cm _ (i2 g e)
theorem iG(f:Str)(v:V):∀ fs:List (Str×V),(iE f v fs).length≤fs.length+1
  | []=>by simp[iE]
  | (k,x)::r=>by
    have ih:=iG f v r;rw[show iE f v ((k,x)::r)=(if k=f then(k,v)::r else(k,x)::iE f v r) from rfl];by_cases hk:k=f
    · rw[if_pos hk,CI,CI];omega
    · rw[if_neg hk,CI,CI];omega
theorem iD.some_of{v:V}{o:Option Value}(r:iD (some v) o):∃ u,o=some u∧RelV v u:=by
  cases o with
  | none=>exact(show False from r).elim
  | some u=>exact⟨u,rfl,r⟩
theorem iD.none_of{o:Option Value}(r:iD none o):o=none:=by
  cases o with
  | none=>rfl
  | some u=>exact(show False from r).elim
theorem rp{v:V}{u:Value}(r:RelV v u):PySem.W.handedIn u=true:=by
  cases v with
  | non=>cases (show u=Value.none from r);rfl
  | bl b=>cases (show u=Value.bool b from r);rfl
  | int i=>obtain⟨t,e⟩:=(show ∃ t,u=Value.int i t from r);cases e;rfl
  | str x=>obtain⟨t,e⟩:=(show ∃ t,u=Value.str x t from r);cases e;rfl
  | byt b=>obtain⟨t,e⟩:=(show ∃ t,u=Value.bytes b t from r);cases e;rfl
  | flt b=>obtain⟨t,e⟩:=(show ∃ t,u=Value.float b t from r);cases e;rfl
  | ref a=>cases (show u=Value.ref a from r);rfl
  | ty n=>cases (show u=Value.type n from r);rfl
section
variable{P:Program}{w:World}{H H':Hp}{h h':Heap}{a C dx:Addr}{fs fs':List (Str×V)}
theorem m4(hok:HOk P w H h)(e:H a=some (.ins C dx fs)):∃ mA,sH h a dx C mA∧(∀ f,iD (fs.lookup f) (mA f))∧PySem.Within mA (fs.map (·.1))∧fs.length≤1000∧H dx=some (.own a):=by
  obtain⟨d,z,ne,ob,mA,n,r,q⟩:=(show cb P w H h a (.ins C dx fs) from hok a _ e);exact⟨mA,⟨ob,n,ne⟩,r,q,z,d⟩
end
structure Cls(K:W.Frag)(C:Addr):Prop where
  pg:PySem.W.plainGet K C Str.empty=true
  hd:PySem.W.hasDictIn K C=true
  po:PySem.W.plainOver K C=true
  sa:PySem.W.findIn K (.ref C) "__setattr__" = some (some (.builtin "object.__setattr__"))
theorem Cls.get{K:W.Frag}{C:Addr}(c:Cls K C)(f:Str):PySem.W.plainGet K C f=true:=c.pg
def ic(K:W.Frag)(C:Addr)(f:Str):Prop:=PySem.W.findIn K (.ref C) f=some none
theorem ic.zh{K:W.Frag}{C:Addr}{f:Str}(n:ic K C f):PySem.W.takerIn K C f=some none:=by
  unfold PySem.W.takerIn;rw[show PySem.W.findIn K (.ref C) f=some none from n];rfl
structure Meth(K:W.Frag)(C:Addr)(m:Str)(f:Addr):Prop where
  at_:PySem.W.findIn K (.ref C) m=some (some (.ref f))
  fn:PySem.W.isFn K (.ref f)=true
  kp:PySem.W.keepIn K (.ref f)=true
section
variable{X:Cx}{pins:List (Addr×Obj)}{σ:St}{H:Hp}{s:Shared}{a C dx:Addr}{fs:List (Str×V)}{f:Str}{v:V}{A:Around}{E:Value→Shared→Prop}
theorem pL{b:Bool}{Q:Value→Shared→Prop}(I:Inv X pins σ H s)(e:H a=some (.ins C dx fs))(c:Cls X.K C)(n:ic X.K C f)(l:fs.lookup f=some v)
    (h:∀ u s',Inv X pins σ H s'→RelV v u→Q u s'):wpAny (model X.prog X.w) A (getAttr (.ref a) f b) Q E s:=by
  obtain⟨mA,O,r,_,_,_⟩:=m4 I.hok e;obtain⟨u,hu,ru⟩:=iD.some_of (v:=v) (o:=mA f) (by rw[←l];exact r f);exact get_map I.kIn O (c.get f) c.hd n hu (rp ru) (h u _ (I.tok _) ru)
theorem jA{m:Str}{g:Addr}{pl:Sem Bool}{Q:Value×List Value→Shared→Prop}(I:Inv X pins σ H s)(e:H a=some (.ins C dx fs))(c:Cls X.K C)(k:Meth X.K C m g)(l:fs.lookup m=none)
    (h:Q (.ref g,[.ref a]) s):wpAny (model X.prog X.w) A (getMethod (.ref a) m pl) Q E s:=by
  obtain⟨mA,O,r,_,_,_⟩:=m4 I.hok e;have hn:mA m=none:=iD.none_of (by rw[←l];exact r m);exact sU I.kIn O (c.get m) k.at_ k.fn hn h
theorem pM{y:V}{u:Value}{Q:Unit→Shared→Prop}(I:Inv X pins σ H s)(e:H a=some (.ins C dx fs))(c:Cls X.K C)(n:ic X.K C f)(hl:fs.length<1000)(ry:RelV y u)
    (h:∀ s',Inv X pins σ (upd H a (.ins C dx (iE f y fs))) s'→Q () s'):wpAny (model X.prog X.w) A (setAttr (.ref a) f u) Q E s:=by
  obtain⟨mA,O,r,wi,_,ho⟩:=m4 I.hok e;have hz:(fs.map (·.1)).length≤sizeLine:=by rw[Cn,sizeLine_eq];omega
  refine u0 I.kIn O c.sa c.po n.zh c.hd wi hz λh' O' sb=>h _ ?_;have hd:∃ o,h'.get? dx=some o:=let ⟨o,_,_,e',_⟩:=O'.ns;⟨o,e'⟩;refine I.write (x:=a) (e:=dx) (by rw[e];exact True.intro) (.inr ho) (λb q hb z=>(sb.2 b hb).trans z) hd ?_;refine⟨by rw[ag O.ne];exact ho,?_,O.ne,O'.obj,_,O'.ns,λg=>?_,λg hg=>?_⟩
  · have:=iG f y fs;omega
  · show iD ((iE f y fs).lookup g) (if g=f then some u else mA g)
    rw[iF];by_cases q:g=f
    · rw[if_pos q,if_pos q];exact ry
    · rw[if_neg q,if_neg q];exact r g
  · by_cases q:g=f
    · rw[q];exact(iy f y fs).1
    · refine(iy f y fs).2 g (wi g λz=>hg ?_)
      show(if g=f then some u else mA g)=none;rw[if_neg q];exact z
theorem Inv.made(I:Inv X pins σ H s):Inv X pins σ (upd (upd H s.heap.objs.size (.own (s.heap.objs.size+1))) (s.heap.objs.size+1) (.ins C s.heap.objs.size []))
    {s with heap:=(s.heap.push PySem.W.emptyDict).push (PySem.W.instObj C s.heap.objs.size)}:=by
  have e1:(s.heap.push PySem.W.emptyDict).get? s.heap.objs.size=some PySem.W.emptyDict:=CB s.heap rfl;have e2:((s.heap.push PySem.W.emptyDict).push (PySem.W.instObj C s.heap.objs.size)).get? (s.heap.objs.size+1)=some (PySem.W.instObj C s.heap.objs.size):=by
    have:=CB (s.heap.push PySem.W.emptyDict) (o:=PySem.W.instObj C s.heap.objs.size) rfl
    rwa[Dz]at this
  have e3:(s.heap.push PySem.W.emptyDict).Ns s.heap.objs.size (λ_=>none):=⟨PySem.W.emptyDict,#[],_,e1,rfl,(λe he=>absurd he (by simp)),λ_=>rfl⟩;have I1:=I.laid (a:=s.heap.objs.size) (o:=.own (s.heap.objs.size+1)) (h':=s.heap.push PySem.W.emptyDict) (t':=s.toks) (λb u q=>Ce _ q) (Cg _) ⟨_,e1⟩;refine I1.laid (a:=s.heap.objs.size+1) (o:=.ins C s.heap.objs.size []) (t':=s.toks) (λb u q=>Ce _ q) (Nat.le_of_eq (Dz _ _)) ?_;have ne:s.heap.objs.size≠s.heap.objs.size+1:=Cv (Nat.lt_succ_self _);refine⟨by rw[ag ne,ab],CG _,ne,e2,λ_=>none,(Heap.Ns1.of_empty e3).at λo q=>Ce _ q,λ_=>True.intro,λy hy=>absurd rfl hy⟩
theorem u1{prog:Program}{w:World}{env:Env}{e:Expr}{f:Str}{pos:Pos}{s:Shared}{Q:Value→Shared→Prop}(hb:attributeBase e f env (eval e env)=eval e env)
    (h:wpAny (model prog w) A (eval e env) (λo s₁=>wpAny (model prog w) A (getAttr o f true) Q E s₁) E s):wpAny (model prog w) A (eval (.Attribute e f pos) env) Q E s :=
  Attribute_any_ h (by rw[arm_eval_Attribute,hb])
end
def Bo(K:W.Frag)(ta:TE)(f:Str):TE:=λσ H Q=>ta σ H λx H1=>∃ a C dx fs v,x=.ref a∧H1 a=some (.ins C dx fs)∧Cls K C∧ic K C f∧fs.lookup f=some v∧Q v H1
def Bp(K:W.Frag)(ta tv:TE)(f:Str):TS:=λD σ H=>tv σ H λy H1=>ta σ H1 λx H2=>∃ a C dx fs,x=.ref a∧H2 a=some (.ins C dx fs)∧Cls K C∧ic K C f∧fs.length<1000 ∧
  D.nx σ (upd H2 a (.ins C dx (iE f y fs)))
section
variable{X:Cx}{o e value:Expr}{f:Str}{pos pos' Bq:Pos}{ta tv:TE}
theorem nB(he:PE X e ta)(hb:attributeBase e f X.env (eval e X.env)=eval e X.env):PE X (.Attribute e f pos) (Bo X.K ta f):=by
  intro pins s σ H Q I h;refine u1 hb (thn (he pins s σ H _ I h) λu s1 ⟨x,H1,I1,rx,a,C,dx,fs,v,ex,ea,c,n,l,q⟩=>?_);subst ex;obtain rfl:u=Value.ref a:=rx;exact pL I1 ea c n l λu' s2 I2 ru=>⟨v,H1,I2,ru,q⟩
theorem wN(ha:PE X o ta)(hv:PE X value tv)(hs:swapsWith value (some (.Attribute o f pos')) pos.line X.env=pure false):PS X (.Assign [.Attribute o f pos'] value pos) (Bp X.K ta tv f):=by
  intro pins s σ H D I h;refine plainObj_wpAny_Assign_Attribute (thn (hv pins s σ H _ I h) λu s1 ⟨y,H1,I1,ry,q⟩=>thn (ha pins s1 σ H1 _ I1 q) λov s2 ⟨x,H2,I2,rx,a,C,dx,fs,ex,ea,c,n,l,q2⟩=>?_) hs;subst ex;obtain rfl:ov=Value.ref a:=rx;exact pM I2 ea c n l ry λs3 I3=>⟨σ,_,I3,q2⟩
end
section
variable{X:Cx}{pins:List (Addr×Obj)}{σ:St}{H:Hp}{s:Shared}{A:Around}{E:Value→Shared→Prop}{Q:Value→Shared→Prop}{c:Value}{b:Bool}
end
end L2
namespace L2
open PySem PySem.Spec PyProof.Rows
structure dY(k:Nat)(A:Around):Prop where
  hd:A.handled=none
  dp:A.depth+3*k+5<recursionLimit
  un:A.units+16*k+200<cLine
theorem dY.mono{j k:Nat}{A:Around}(r:dY k A)(h:j≤k):dY j A:=⟨r.hd,by have:=r.dp;omega,by have:=r.un;omega⟩
theorem dY.deeper{k:Nat}{A:Around}(r:dY (k+1) A)(env:Env):dY k (A.deeper env) :=
  ⟨r.hd,by have:=r.dp;show A.depth+1+3*k+5<_;omega,by have:=r.un;show A.units+3+16*k+200<_;omega⟩
theorem pN{A:Around}{C:Addr}{us:List Value}{kw:List (Str×Value)}:(A.under (.builtin "type.__call__" ⟨.ref C::us,kw⟩)).depth=A.depth+1:=by
  first|rfl|simp[Around.under,Code.weight,Code.isCreation,Code.isGuard,Code.isCaller,Code.frames,Code.isFrame,guardIds]
theorem pO{A:Around}{C:Addr}{us:List Value}{kw:List (Str×Value)}:(A.under (.builtin "type.__call__" ⟨.ref C::us,kw⟩)).units=A.units+1:=by
  first|rfl|simp[Around.under,Code.cUnits,Code.frames,Code.isFrame]
theorem dY.make{k:Nat}{A:Around}(r:dY (k+1) A)(C:Addr)(us:List Value)(kw:List (Str×Value)):dY k (A.under (.builtin "type.__call__" ⟨.ref C::us,kw⟩)) :=
  ⟨r.hd,by have:=r.dp;rw[pN];omega,by have:=r.un;rw[pO];omega⟩
theorem dY.depth{k:Nat}{A:Around}(r:dY k A):A.depth<recursionLimit:=by have:=r.dp;omega
theorem dY.units{k:Nat}{A:Around}(r:dY k A):A.units+64<cLine:=by have:=r.un;omega
def Aj:TA:=λ_ H Q=>Q [] H
def zk(ta:TE)(tr:TA):TA:=λσ H Q=>ta σ H λx H1=>tr σ H1 λxs H2=>Q (x::xs) H2
section
variable{X:Cx}{e:Expr}{es:List Expr}{te:TE}{t:TA}{pos:Pos}
theorem ah:PA X [] Aj:=λ_ _ _ _ H Q I h=>Calls.spliced_nil ⟨[],H,I,.nil,h⟩
theorem aa(ha:PE X e te)(hr:PA X es t)(hs:starEach (e::es) X.env=(false,eval e X.env)::starEach es X.env:=by rfl):PA X (e::es) (zk te t):=by
  intro pos pins s σ H Q I h;rw[hs];show wpAny _ _ (spliced ((false,eval e X.env)::backTo pos (starEach es X.env))) _ _ s;refine Calls.spliced_cons (thn (ha pins s σ H _ I h) λu s1 ⟨x,H1,I1,r1,q1⟩=>?_);exact thn (hr pos pins s1 σ H1 _ I1 q1) λus s2 ⟨xs,H2,I2,r2,q2⟩=>⟨x::xs,H2,I2,.cons r1 r2,q2⟩
def Br(t:TA):TE:=λσ H Q=>t σ H λxs H1=>xs.length≤sizeLine∧∀ p,H1 p=none→Q (.ref p) (upd H1 p (.tup xs))
def Bs(t:TA):TE:=λσ H Q=>t σ H λxs H1=>xs.length≤sizeLine∧∀ p,H1 p=none→Q (.ref p) (upd H1 p (.lst xs))
theorem cT{x1}(h:PA X es t):PE X (.Tuple es x1 pos) (Br t):=by
  intro pins s σ H Q I hq;refine wpAny_Tuple_spliced (thn (h pos pins s σ H _ I hq) λus s1 ⟨xs,H1,I1,r,z,q⟩=>⟨by rw[←r.length];exact z,?_⟩);have hf:H1 s1.heap.objs.size=none:=I1.hok.fresh (Cg _);refine⟨.ref s1.heap.objs.size,upd H1 s1.heap.objs.size (.tup xs),I1.laid (t':=s1.toks) (λb u e=>Ce _ e) (Cg _) ?_,rfl,q _ hf⟩;exact⟨z,us,r,⟨_,CB _ rfl,rfl,_,rfl⟩⟩
theorem fL(h:PA X es t):PE X (.List es pos) (Bs t):=by
  intro pins s σ H Q I hq;refine wpAny_List_spliced (thn (h pos pins s σ H _ I hq) λus s1 ⟨xs,H1,I1,r,z,q⟩=>⟨by rw[←r.length];exact z,?_⟩);have hf:H1 s1.heap.objs.size=none:=I1.hok.fresh (Cg _);refine⟨.ref s1.heap.objs.size,upd H1 s1.heap.objs.size (.lst xs),I1.laid (t':=s1.toks) (λb u e=>Ce _ e) (Cg _) ?_,rfl,q _ hf⟩;exact⟨z,us,0,r,CB _ rfl⟩
end
abbrev Sp:=List V→Hp→VK→XK→Prop
abbrev CXT:=List Env→Hp→Shared→XK→Value→Shared→Prop
structure sI(P:Program)(w:World)(K:W.Frag)(mg:Str→Option Value)(base:Heap)(A:Around)(outer:List Env)(s:Shared)(H:Hp):Prop where
  frames:A.frames=some outer
  mod:Mod K mg base
  bs:∀ b o,base.get? b=some o→s.heap.get? b=some o∧H b=none
  bsz:base.objs.size≤s.heap.objs.size
  lA:s.heap.FunFrames base outer
  frf:∀ b∈frs outer,H b=none
  hok:HOk P w H s.heap
  bare:AllBare s.gens
def CE(outer:List Env)(P:Program)(w:World)(H:Hp)(s:Shared)(Q:VK)(u:Value)(s':Shared):Prop :=
  ∃ v H',s'.os=s.os∧AllBare s'.gens∧Un (frs outer) [] H H' s.heap s'.heap∧HOk P w H' s'.heap∧RelV v u∧Q v H'
def CR(CX:CXT)(outer:List Env)(P:Program)(w:World)(H:Hp)(s:Shared)(Q:VK)(E:XK)(r:Result)(s':Shared):Prop :=
  match r with
  | .ok (.ret u)=>CE outer P w H s Q u s'
  | .ok _=>False
  | .error e=>CX outer H s E e s'
structure iH(P:Program)(w:World)(K:W.Frag)(mg:Str→Option Value)(base:Heap)(CX:CXT)(k:Nat)(f:Addr)(fd:FuncData)(ps:List Str)(sp:Sp):Prop where
  len:∀ vs H Q E,sp vs H Q E→vs.length=ps.length
  run:∀(A:Around) (outer:List Env) (s:Shared) (H:Hp) (args:Args) (us:List Value) (vs:List V) (Q:VK) (E:XK),dY k A→sI P w K mg base A outer s H→BindsTo s fd args (ps.zip us)→Vals vs us→sp vs H Q E →
    codeAny (model P w) A (.call (.ref f) args) (CR CX outer P w H s Q E) s
theorem sI.make{P:Program}{w:World}{K:W.Frag}{mg:Str→Option Value}{base:Heap}{A:Around}{outer:List Env}{s:Shared}{H:Hp}(e:sI P w K mg base A outer s H)(C:Addr)(us:List Value)(kw:List (Str×Value)) :
    sI P w K mg base (A.under (.builtin "type.__call__" ⟨.ref C::us,kw⟩)) outer s H:=⟨by first|exact e.frames|(simpa[Around.under,Code.envs,Code.isFrame,pushEnvs] using e.frames),e.mod,e.bs,e.bsz,e.lA,e.frf,e.hok,e.bare⟩
section
variable{X:Cx}{pins:List (Addr×Obj)}{σ:St}{H:Hp}{s s':Shared}
theorem Inv.xI(I:Inv X pins σ H s):sI X.prog X.w X.K X.mg X.base X.A X.stack s H :=
  ⟨I.ok.frames,I.ok.mod,I.bs,CK I.ok.bsz I.sz,I.stack,I.gN,I.hok,I.bare⟩
theorem Inv.after{Q:VK}{u:Value}(I:Inv X pins σ H s)(h:CE X.stack X.prog X.w H s Q u s'):EP X pins σ Q u s':=by
  obtain⟨v,H',os,bare,un,hok,r,q⟩:=h;obtain⟨hh,g,d,t,os'⟩:=s';obtain rfl:os'=s.os:=os;exact⟨v,H',I.call (h':=hh) (g':=g) (d':=d) (t':=t) (ch:=[]) un hok bare (λb z=>absurd z (by simp)),r,q⟩
end
def zm(C:Addr)(sp:Sp)(dvs:List V)(E:XK)(t:TA):TE:=λσ H Q=>t σ H λvs H1=>∀ x dx,H1 x=none→H1 dx=none→dx≠x →
  sp (.ref x::(vs++dvs)) (upd (upd H1 dx (.own x)) x (.ins C dx [])) (λv H2=>v=.non∧Q (.ref x) H2) E
def Binds(K:W.Frag)(fd:FuncData)(ps:List Str)(ds:List Value):Prop :=
  ∀(s:Shared) (us:List Value),K.In s.heap→(us++ds).length=ps.length→BindsTo s fd ⟨us,[]⟩ (ps.zip (us++ds))
theorem Binds.all{K:W.Frag}{fd:FuncData}{ps:List Str}(h:∀ us:List Value,us.length=ps.length→bindArgs fd ⟨us,[]⟩=pure (ps.zip us)):Binds K fd ps []:=λs us _ hl=>by
  rw[DQ]at hl ⊢;exact .of_eq (h us hl)
def Passes(CX:CXT)(X:Cx)(E:XK):Prop:=∀(pins:List (Addr×Obj)) (σ:St) (H:Hp) (s:Shared) (e:Value) (s':Shared),Inv X pins σ H s→CX X.stack H s E e s'→X.xe e s'
section
variable{X:Cx}{CX:CXT}{k:Nat}{f C:Addr}{fd:FuncData}{ps:List Str}{sp:Sp}{dvs:List V}{ds:List Value}{E:XK}{x m:Str}{p pos apos:Pos}{e o:Expr}{es:List Expr}{ta:TE}{t:TA}
structure Mk(K:W.Frag)(C f:Addr):Prop where
  makes:PySem.W.makesIn K C=true
  init:PySem.W.findIn K (.ref C) "__init__" = some (some (.ref f))
  fn:PySem.W.isFn K (.ref f)=true
  kp:PySem.W.keepIn K (.ref C)=true
theorem sW{pins:List (Addr×Obj)}{σ:St}{H:Hp}{s:Shared}{Q:VK}{us:List Value}{vs:List V}(M:Mk X.K C f)(F:iH X.prog X.w X.K X.mg X.base CX k f fd ps sp)(hr:dY (k+1) X.A)(hb:Binds X.K fd ps ds)(hd:Vals dvs ds)
    (hx:Passes CX X E) (I:Inv X pins σ H s) (r:Vals vs us)
    (h:∀ x dx,H x=none→H dx=none→dx≠x→sp (.ref x::(vs++dvs)) (upd (upd H dx (.own x)) x (.ins C dx [])) (λv H2=>v=.non∧Q (.ref x) H2) E) :
    wpAny (model X.prog X.w) X.A (call (.ref C) us) (EP X pins σ Q) X.xe s:=by
  have hq:=h (s.heap.objs.size+1) s.heap.objs.size (I.hok.fresh (Ds _)) (I.hok.fresh (Cg _)) (Cv (Nat.lt_succ_self _));have I2:=Inv.made (C:=C) I;have r2:Vals (V.ref (s.heap.objs.size+1)::(vs++dvs)) (Value.ref (s.heap.objs.size+1)::(us++ds)):=.cons rfl (r.append hd);have hl:(Value.ref (s.heap.objs.size+1)::us++ds).length=ps.length:=by
    have e:=r2.length;rw[F.len _ _ _ _ hq]at e;exact e.symm
  refine wpAny_call (sV (f:=f) I.kIn M.makes M.init (beq_iff_eq.mp M.fn) (codeAny_mono (F.run _ X.stack _ _ ⟨Value.ref (s.heap.objs.size+1)::us,[]⟩ (Value.ref (s.heap.objs.size+1)::(us++ds)) _ _ E (hr.make C us [])
    (I2.xI.make C us []) (hb _ (Value.ref (s.heap.objs.size+1)::us) I2.kIn hl) r2 hq) λr s' hq'=>?_))
  cases r with
  | error e=>exact hx pins σ _ _ e s' I2 hq'
  | ok fl =>
    cases fl with
    | ret u =>
      obtain⟨v,H',I3,rv,ev,q3⟩:=I2.after hq';subst ev;exact⟨rv,⟨V.ref (s.heap.objs.size+1),H',I3,rfl,q3⟩⟩
    | next=>exact False.elim hq'
    | brk=>exact False.elim hq'
    | cont=>exact False.elim hq'
theorem qJ(M:Mk X.K C f)(F:iH X.prog X.w X.K X.mg X.base CX k f fd ps sp)(hr:dY (k+1) X.A)(hg:Gl X x)(hm:X.mg x=some (.ref C))(hb:Binds X.K fd ps ds)(hd:Vals dvs ds)(hx:Passes CX X E)
    (ha:PA X (e::es) t) (hdb:(x == ("__debug__" : Str))=false:=by decide) (he:starEach (e::es) X.env=(false,eval e X.env)::starEach es X.env:=by rfl) (hpl:(backTo pos (starEach es X.env)).any (·.1)=false:=by rfl) :
    PE X (.Call (.Name x p) (e::es) [] pos) (zm C sp dvs E t):=by
  intro pins s σ H Q I h;refine wpAny_Call_Name_kw (mY I hg hm ?_ hdb);refine PySem.W.callWith_K (h₀:=X.base) I.ok.mod.kin M.kp (thn (ha pos pins s σ H _ I h) λus s1 ⟨vs,H1,I1,r,q⟩=>⟨I1.kIn,?_⟩) he hpl;exact sW M F hr hb hd hx I1 r q
end
section
variable{X:Cx}{CX:CXT}{k:Nat}{f C:Addr}{fd:FuncData}{ps ks:List Str}{sp:Sp}{E:XK}{x m:Str}{p pos apos xJ:Pos}{e o:Expr}{es:List Expr}{kws:List Keyword}{te ta:TE}{t tk:TA}{nm:Option Str}
variable{g:List Value→List Value→List Value}{gV:List V→List V→List V}
end
structure aG(N P:List Str)(sc:Scope):Prop where
  kind:sc.kind=.function
  co:sc.isCoroutine=false
  gen:sc.isGenerator=false
  nd:N.Nodup
  pre:N.take P.length=P
  par:∀ x∈P,sc.names.lookup x=some .local∨sc.names.lookup x=some .cell
  wO:∀ y∈sc.names,y.2≠.free
theorem lE{kindOf:Str→Option NameKind}{x:Str}:∀ {binds:List (Str×Value)} {m:Str→Option Value},(∀ v,(x,v)∉binds)→bindL kindOf binds m x=m x
  | [],_,_=>rfl
  | (n,v)::r,m,h=>by
    unfold bindL;rw[lE λw hw=>h w (Cm _ hw)];split
    · have:x≠n:=by rintro rfl;exact h v Co
      simp[this]
    · rfl
theorem lF{kindOf:Str→Option NameKind}{x:Str}:∀ {binds:List (Str×Value)} {m:Str→Option Value},(∀ v,(x,v)∉binds)→bindC kindOf binds m x=m x
  | [],_,_=>rfl
  | (n,v)::r,m,h=>by
    unfold bindC;rw[lF λw hw=>h w (Cm _ hw)];split
    · rfl
    · have:x≠n:=by rintro rfl;exact h v Co
      simp[this]
theorem lG{kindOf:Str→Option NameKind}{x:Str}{v:Value}:∀ {P:List Str} {vs:List Value} {i:Nat} {m:Str→Option Value},P.Nodup→P[i]?=some x→vs[i]?=some v→kindOf x=some .local →
    bindL kindOf (P.zip vs) m x=some v
  | [],_,_,_,_,h,_,_=>by simp at h
  | _::_,[],_,_,_,_,h,_=>by simp at h
  | p::P,w::vs,0,m,nd,h1,h2,hk=>by
    simp at h1 h2;subst h1;subst h2;show bindL kindOf ((p,w)::P.zip vs) m p=_;unfold bindL;rw[lE λv hv=>(Dk.mp nd).1 (DR hv).1,if_pos hk];simp
  | p::P,w::vs,i+1,m,nd,h1,h2,hk=>by
    show bindL kindOf ((p,w)::P.zip vs) m x=_;unfold bindL;exact lG (i:=i) (Dk.mp nd).2 (by simpa using h1) (by simpa using h2) hk
theorem lH{kindOf:Str→Option NameKind}{x:Str}{v:Value}:∀ {P:List Str} {vs:List Value} {i:Nat} {m:Str→Option Value},P.Nodup→P[i]?=some x→vs[i]?=some v→kindOf x≠some .local →
    bindC kindOf (P.zip vs) m x=some v
  | [],_,_,_,_,h,_,_=>by simp at h
  | _::_,[],_,_,_,_,h,_=>by simp at h
  | p::P,w::vs,0,m,nd,h1,h2,hk=>by
    simp at h1 h2;subst h1;subst h2;show bindC kindOf ((p,w)::P.zip vs) m p=_;unfold bindC;rw[lF λv hv=>(Dk.mp nd).1 (DR hv).1,if_neg hk];simp
  | p::P,w::vs,i+1,m,nd,h1,h2,hk=>by
    show bindC kindOf ((p,w)::P.zip vs) m x=_;unfold bindC;exact lH (i:=i) (Dk.mp nd).2 (by simpa using h1) (by simpa using h2) hk
def start(N:List Str)(vs:List V):St:=vs.map some++List.replicate (N.length-vs.length) none
def t4(CX:CXT)(P:Program)(w:World)(K:W.Frag)(mg:Str→Option Value)(base:Heap)(N:List Str)(qual:Str)(scope:Scope)(f:Addr)(cd:Value)(A:Around)(outer:List Env)(s:Shared)(H:Hp)(E:XK):Cx where
  prog:=P
  w:=w
  K:=K
  mg:=mg
  base:=base
  A:=A.deeper (envOfC qual scope s.heap.objs.size f cd)
  N:=N
  s₀:=s
  H₀:=H
  env:=envOfC qual scope s.heap.objs.size f cd
  outer:=outer
  stack:=envOfC qual scope s.heap.objs.size f cd::outer
  ex:=[]
  calm:=true
  fn:=λ_=>true
  pn:=[]
  xe:=λe s'=>wpAny (model P w) (A.deeper (envOfC qual scope s.heap.objs.size f cd)) (leaving (envOfC qual scope s.heap.objs.size f cd) e) (λ_ s''=>CX outer H s E e s'') (λe' s''=>CX outer H s E e' s'') s'
theorem oP{sc:Scope}{n:Nat}{x:Str}(h:sc.names.lookup x=some .cell):∃ c,(cellsFrom n sc.names []).lookup x=some c:=by
  have q:=PySem.W.cellsFrom_some sc.names n [] (.inl h);exact Option.isSome_iff_exists.mp q
theorem rq{CX:CXT}{P:Program}{w:World}{K:W.Frag}{mg:Str→Option Value}{base:Heap}{N ps:List Str}{qual:Str}{scope:Scope}{f:Addr}{cd:Value}{A:Around}{outer:List Env}{s s1:Shared}{H:Hp}{E:XK}{us:List Value}{vs:List V}
    (S:aG N ps scope) (hd:A.handled=none) (e0:sI P w K mg base A outer s H) (hl:vs.length=ps.length) (r:Vals vs us)
    (x:InCallC s s.heap.objs.size (bindL (envOfC qual scope s.heap.objs.size f cd).kindOf (ps.zip us) λ_=>none) (cellsFrom (s.heap.objs.size+1) scope.names []) (bindC (envOfC qual scope s.heap.objs.size f cd).kindOf (ps.zip us) λ_=>none) s1) :
    Inv (t4 CX P w K mg base N qual scope f cd A outer s H E) [] (start N vs) H s1:=by
  have hpl:ps.length≤N.length:=by have:=congrArg List.length S.pre;rw[CA]at this;omega
  obtain⟨h1,tk,rfl,hk⟩:=x.done;have noA:∀ b:Addr,b∉(t4 CX P w K mg base N qual scope f cd A outer s H E).ex:=λb z=>absurd (show b∈([]:List Addr) from z) (by simp);refine⟨⟨e0.mod,S.kind,rfl,rfl,Cg _,λy z c h1 h2=>?_,λy hy=>?_,λy c _ h=>?_,λ_=>hd,Around.frames_deeper e0.frames,.inr ⟨rfl,rfl⟩,λb z=>absurd z (noA b),e0.bs,e0.bsz,λb _ _=>noA b,λb z=>absurd z (noA b),e0.lA,e0.frf⟩,
    rfl,e0.bare,Un.kept hk,⟨_,x.toInCall.ns,λi y v h1 h2 h3=>?_⟩,λy c h=>⟨_,x.cell y c h⟩,e0.hok.fresh (Cg _),λy c h=>?_,λp hp=>absurd (show p∈([]:List (Addr×Obj)) from hp) (by simp),e0.hok.kept hk,?_⟩
  · exact name_of_addr x.apart (CP h1) (CP h2)
  · have hy:scope.names.lookup y=some .cell∨scope.names.lookup y=some .free:=hy
    rcases hy with hy|hy
    · exact oP hy
    · exact absurd rfl (S.wO _ (CP hy))
  · exact DJ (x.above y c (CP h))
  · have hi:i<vs.length:=by
      unfold start at h2;by_cases hi:i<vs.length
      · exact hi
      · rw[CO (by simpa using hi)]at h2
        rw[List.getElem?_replicate]at h2;split at h2<;>cases h2
    have ha:vs[i]?=some v:=by
      unfold start at h2;rw[CM (by simpa using hi),Cq]at h2;cases e:vs[i]? with
      | none=>rw[e]at h2;cases h2
      | some a=>rw[e]at h2;cases h2;rfl
    obtain⟨u,hu,rv⟩:=r.get ha;have hp:ps[i]?=some y:=by
      rw[←S.pre,List.getElem?_take_of_lt (by omega)];exact h1
    have ndP:ps.Nodup:=(by rw[←S.pre];exact S.nd.sublist (List.take_sublist _ _));refine⟨u,rv,?_⟩;rcases S.par y (Ct hp) with k|k
    · exact .inl ⟨k,lG ndP hp hu k⟩
    · obtain⟨c,e⟩:=oP (n:=s.heap.objs.size+1) k
      refine .inr ⟨.inl k,c,e,?_⟩;have q:=x.cell y c e;rw[lH ndP hp hu (by show scope.names.lookup y≠_;rw[k];decide)]at q;exact q
  · exact e0.hok.fresh (DJ (x.above y c (CP h)))
  · unfold start
    show _=N.length;rw[Cs,Cn,CN];omega
theorem vI{CX:CXT}{P:Program}{w:World}{K:W.Frag}{mg:Str→Option Value}{base:Heap}{k:Nat}{f:Addr}{name qual:Str}{params:Arguments}{body:List Stmt}{scope:Scope}{dV kV doc pm cdv ct oc:Value}{an od:Option Addr}
    {osl:Array (Option Value)} {N ps:List Str} {sp:Sp} (lk:K.lookup f=some ⟨oc,od,.func (PySem.W.fnOf name qual params body scope dV kV doc pm an cdv ct),osl⟩) (hcd:PySem.W.codeIn K cdv qual=true) (S:aG N ps scope)
    (len:∀ vs H Q E,sp vs H Q E→vs.length=ps.length)
    (pP:∀(A:Around) (outer:List Env) (s:Shared) (H:Hp) (vs:List V) (Q:VK) (E:XK),dY k (A.deeper (envOfC qual scope s.heap.objs.size f cdv))→sp vs H Q E →
      ∃ t,PSs (t4 CX P w K mg base N qual scope f cdv A outer s H E) body t∧t {nx:=λ_ H'=>Q .non H',rt:=Q} (start N vs) H) :
    iH P w K mg base CX (k+1) f (PySem.W.fnOf name qual params body scope dV kV doc pm an cdv ct) ps sp:=by
  refine⟨len,λA outer s H args us vs Q E hr e0 hb r hsp=>?_⟩;have hl:=len _ _ _ _ hsp;have KX:K.In s.heap:=e0.mod.kin.keeps λb o e=>(e0.bs b o e).1;have lim:s.heap.NoLimit:=e0.mod.nolimit.keeps λb o e=>(e0.bs b o e).1;have zo:∀ y∈ps.zip us,scope.names.lookup y.1=some .local∨(scope.names.lookup y.1=some .cell∧((cellsFrom (s.heap.objs.size+1) scope.names []).lookup y.1).isSome=true):=λ⟨n,v⟩ hy=>by
    rcases S.par n (DR hy).1 with q|q
    · exact .inl q
    · exact .inr ⟨q,PySem.W.cellsFrom_some _ _ _ (.inl q)⟩
  refine codeAny_call_function hr.depth (KX _ _ lk) rfl S.co S.gen rfl (PySem.W.codeRec_of KX hcd) (hb _ _ _ _ ?_);refine wpAny_newFunctionEnv_cells S.kind zo λenv he s1 x=>?_;subst he;refine⟨lim.keeps x.toInCall.keep,codeAny_func ?_⟩;obtain⟨t,ht,hq⟩:=pP A outer s H vs Q E (hr.deeper _) hsp;have I:Inv (t4 CX P w K mg base N qual scope f cdv A outer s H E) [] (start N vs) H s1:=rq S hr.hd e0 hl r x;refine wpAny_mono (ht [] s1 (start N vs) H _ I hq) (λfl s' hs=>?_) λe s' hs=>hs;have fin:∀ {σ':St} {H':Hp} {v:V} {u:Value},Inv (t4 CX P w K mg base N qual scope f cdv A outer s H E) [] σ' H' s'→RelV v u→Q v H'→CE outer P w H s Q u s' :=
    λ{σ' H' v u} J rv q=>⟨v,H',J.os,J.bare,J.base,J.hok,rv,q⟩
  cases fl with
  | ret u =>
    obtain⟨v,σ',H',J,rv,q⟩:=hs;exact fin J rv q
  | next =>
    obtain⟨σ',H',J,q⟩:=hs;exact fin (v:=V.non) (u:=Value.none) J rfl q
  | brk =>
    obtain⟨_,_,_,q⟩:=hs;exact False.elim q
  | cont =>
    obtain⟨_,_,_,q⟩:=hs;exact False.elim q
end L2
namespace L2
open PySem PySem.Spec PyProof.Rows
section
variable{X:Cx}{x:Str}{p pos:Pos}{e:Expr}{es:List Expr}{t:TA}{id T:String}{r:List V→Hp→VK→Prop}
def tCB(r:List V→Hp→VK→Prop)(t:TA):TE:=λσ H Q=>t σ H λvs H1=>r vs H1 Q
theorem bJ(hc:jz X (.builtin id) r)(hg:Gl X x)(hm:X.mg x=none)(hv:bootBuiltins x=some (.builtin id))(ha:PA X (e::es) t)(hn:x ≠ "__name__" := by decide)(hdb:(x == ("__debug__" : Str))=false:=by decide)
    (he:starEach (e::es) X.env=(false,eval e X.env)::starEach es X.env:=by rfl) (hpl:(backTo pos (starEach es X.env)).any (·.1)=false:=by rfl):PE X (.Call (.Name x p) (e::es) [] pos) (tCB r t):=by
  intro pins s σ H Q I h;refine wpAny_Call_Name_kw (iZ I hg hm hv ?_ hn hdb);exact PyProof.Rows.callWith_builtin1 (thn (ha pos pins s σ H _ I h) λus s1 ⟨vs,H1,I1,r1,q1⟩=>hc pins s1 σ H1 vs us Q I1 r1 q1) he hpl
theorem eD(hc:jz X (.type T) r)(hg:Gl X x)(hm:X.mg x=none)(hv:bootBuiltins x=some (.type T))(ha:PA X (e::es) t)(hn:x ≠ "__name__" := by decide)(hdb:(x == ("__debug__" : Str))=false:=by decide)
    (he:starEach (e::es) X.env=(false,eval e X.env)::starEach es X.env:=by rfl) (hpl:(backTo pos (starEach es X.env)).any (·.1)=false:=by rfl):PE X (.Call (.Name x p) (e::es) [] pos) (tCB r t):=by
  intro pins s σ H Q I h;refine wpAny_Call_Name_kw (iZ I hg hm hv ?_ hn hdb);exact PyProof.Rows.callWith_type1 (thn (ha pos pins s σ H _ I h) λus s1 ⟨vs,H1,I1,r1,q1⟩=>hc pins s1 σ H1 vs us Q I1 r1 q1) he hpl
end
end L2
namespace HT
open PySem PyProof.Rows
section
open PySem.SeqAt
open PySem.AutoSeq1 (wpAny_loadPart')
open PySem.MeetsSeq PySem.MeetsSeq2 PySem.MeetsSeq3
end
section
variable{prog:Program}{w:World}{A:Around}{E:Value→Shared→Prop}{s:Shared}
def sIx(n d:Nat):Option Int→Nat
  | none=>d
  | some v=>if v<0 then(v+(n:Int)).toNat else min v.toNat n
theorem qK(n d k:Nat):sIx n d (some (k:Int))=min k n:=by
  show(if(k:Int)<0 then((k:Int)+(n:Int)).toNat else min (k:Int).toNat n)=min k n;rw[if_neg (by omega),Int.toNat_natCast]
end
end HT
namespace L2
open PySem PySem.Spec PyProof.Rows
abbrev TO:=St→Hp→(Option Int→Hp→Prop)→Prop
def PO(X:Cx)(e:Option Expr)(t:TO):Prop :=
  ∀(pins:List (Addr×Obj)) (s:Shared) (σ:St) (H:Hp) (Q:Option Int→Hp→Prop),Inv X pins σ H s→t σ H Q →
    wpAny (model X.prog X.w) X.A (evalPart e X.env) (λu s'=>∃ o H',Inv X pins σ H' s'∧IsPart u o∧Q o H') X.xe s
def u3:TO:=λ_ H Q=>Q none H
def zq(t:TE):TO:=λσ H Q=>t σ H λx H1=>∃ i,x=.int i∧Q (some i) H1
section
variable{X:Cx}{e:Expr}{te:TE}{lo hi:Option Expr}{tl th:TO}{pos p2:Pos}
theorem u6:PO X none u3:=by
  intro pins s σ H Q I h;rw[evalPart_none];exact wpAny_pure ⟨none,H,I,.none,h⟩
theorem iu(h:PE X e te):PO X (some e) (zq te):=by
  intro pins s σ H Q I hw;rw[evalPart_some];refine thn (h pins s σ H _ I hw) λu s1 ⟨x,H1,I1,r1,q1⟩=>?_;obtain⟨i,rfl,q⟩:=q1;obtain⟨t,rfl⟩:=r1;exact⟨some i,H1,I1,.int i t,q⟩
def SlR(X:Cx)(r:V→Option Int→Option Int→Hp→VK→Prop):Prop :=
  ∀(pins:List (Addr×Obj)) (s:Shared) (σ:St) (H:Hp) (x:V) (v vl vu:Value) (lo hi:Option Int) (sl:Addr) (Q:VK),Inv X pins σ H s→RelV x v→s.heap.IsSliceOf sl vl vu .none→IsPart vl lo→IsPart vu hi→r x lo hi H Q →
    ∃ T id,typeLookup (.type T) "__getitem__" = pure (some (.builtin id))∧s.TypeIs v T∧wpAny (model X.prog X.w) X.A (getItem v (.ref sl)) (EP X pins σ Q) X.xe s
def tSl(r:V→Option Int→Option Int→Hp→VK→Prop)(te:TE)(tl th:TO):TE:=λσ H Q=>te σ H λx H1=>tl σ H1 λl H2=>th σ H2 λu H3=>r x l u H3 Q
theorem jT{r:V→Option Int→Option Int→Hp→VK→Prop}(hr:SlR X r)(he:PE X e te)(hl:PO X lo tl)(hu:PO X hi th):PE X (.Subscript e (.Slice lo hi none p2) pos) (tSl r te tl th):=by
  intro pins s σ H Q I h;refine Subscript_ (thn (he pins s σ H _ I h) λv s1 ⟨x,H1,I1,r1,q1⟩=>?_);refine wpAny_Slice (thn (hl pins s1 σ H1 _ I1 q1) λvl s2 ⟨l,H2,I2,pl,q2⟩=>thn (hu pins s2 σ H2 _ I2 q2) λvu s3 ⟨u,H3,I3,pu,q3⟩=>?_);rw[evalPart_none];refine wpAny_pure ?_;have I4:Inv X pins σ H3 {s3 with heap:=s3.heap.push {cls:=.type "slice",data:=.fields #[vl,vu,.none]}}:=I3.kept (t':=s3.toks) λb ob q=>Ce _ q;obtain⟨T,id,hT,ht,hg⟩:=hr pins {s3 with heap:=s3.heap.push {cls:=.type "slice",data:=.fields #[vl,vu,.none]}} σ H3 x v vl vu l u s3.heap.objs.size Q I4 r1 (Heap.IsSliceOf.new ..) pl pu q3;show wpAny (model X.prog X.w) X.A (subscriptTail e (.Slice lo hi none p2) v (.ref s3.heap.objs.size)) (EP X pins σ Q) X.xe {s3 with heap:=s3.heap.push {cls:=.type "slice",data:=.fields #[vl,vu,.none]}};exact tail_any (ops:=[.ref s3.heap.objs.size,v]) ht hT hg (by with_unfolding_all rfl)
def sJ(xs:List V)(lo hi:Option Int):List V:=(xs.drop (HT.sIx xs.length 0 lo)).take (HT.sIx xs.length xs.length hi-HT.sIx xs.length 0 lo)
theorem nU(xs:List V)(lo hi:Option Int):(sJ xs lo hi).length≤xs.length:=by
  unfold sJ;rw[CA,Di];omega
end
end L2
namespace L2
open PySem PySem.Spec PyProof.Rows
def ixN(n:Nat)(i:Int):Option Nat:=if 0≤i then(if i<n then some i.toNat else none) else if -(n:Int)≤i then some (i+n).toNat else none
def atI{α:Type}(xs:List α)(i:Int):Option α:=(ixN xs.length i).bind λj=>xs[j]?
theorem qL{n:Nat}{i:Int}{j:Nat}(h:ixN n i=some j):seqIndex? i n=some j∧j<n∧-(n:Int)≤i∧i<n:=by
  unfold ixN at h;by_cases h0:0≤i
  · rw[if_pos h0]at h
    by_cases h1:i<n
    · rw[if_pos h1]at h
      have e:i.toNat=j:=CC h;exact⟨by rw[seqIndex_of h0 h1,e],by omega,by omega,h1⟩
    · rw[if_neg h1]at h;cases h
  · rw[if_neg h0]at h
    by_cases h1:-(n:Int)≤i
    · rw[if_pos h1]at h
      have e:(i+n).toNat=j:=CC h;exact⟨by rw[seqIndex_neg (by omega) h1,e],by omega,h1,by omega⟩
    · rw[if_neg h1]at h;cases h
theorem qM{α:Type}{xs:List α}{i:Int}{v:α}(h:atI xs i=some v):∃ j,seqIndex? i xs.length=some j∧xs[j]?=some v∧j<xs.length∧-(xs.length:Int)≤i∧i<xs.length:=by
  unfold atI at h;cases e:ixN xs.length i with
  | none=>rw[e]at h;cases h
  | some j =>
    rw[e]at h;obtain⟨h1,h2,h3,h4⟩:=qL e;exact⟨j,h1,h,h2,h3,h4⟩
theorem qN{α:Type}{xs:List α}{j:Nat}{v:α}(h:xs[j]?=some v):atI xs (j:Int)=some v:=by
  have hj:j<xs.length:=(Cd.mp h).1;have e:ixN xs.length (j:Int)=some j:=by
    unfold ixN;rw[if_pos (by omega),if_pos (by omega)];simp
  unfold atI;rw[e];exact h
def u7(b:Expr):Prop:=∀ o i,subscripted b false o i=operate [o,i] (getItem o i)
def IxR(X:Cx)(r:R2):Prop :=
  ∀(value slice:Expr) (pins:List (Addr×Obj)) (s:Shared) (σ:St) (H:Hp) (x y:V) (v u:Value) (Q:VK),Inv X pins σ H s→RelV x v→RelV y u→r x y H Q →
    subscripted slice false v u=operate [v,u] (getItem v u)→wpAny (model X.prog X.w) X.A (subscriptTail value slice v u) (EP X pins σ Q) X.xe s
def MtR(X:Cx)(id:String)(r:V→List V→Hp→VK→Prop):Prop :=
  ∀(pins:List (Addr×Obj)) (s:Shared) (σ:St) (H:Hp) (x:V) (xs:List V) (v:Value) (us:List Value) (Q:VK),Inv X pins σ H s→RelV x v→Vals xs us→r x xs H Q →
    wpAny (model X.prog X.w) X.A (call (.builtin id) (v::us)) (EP X pins σ Q) X.xe s
section
variable{X:Cx}{a b:Expr}{ta tb:TE}{pos:Pos}
theorem cn{r:R2}(hr:IxR X r)(ha:PE X a ta)(hb:PE X b tb)(hs:u7 b):PE X (.Subscript a b pos) (tOp r ta tb):=by
  intro pins s σ H Q I h;exact Subscript_ (xF ha hb I h λv u s2 x y H2 I2 rx ry q=>hr a b pins s2 σ H2 x y v u Q I2 rx ry q (hs _ _))
def xK(K:W.Frag):R2:=λx y H Q=>∃ p xs i v,x=.ref p∧y=.int i∧SqL K H p xs∧atI xs i=some v∧Q v H
def Ak(K:W.Frag):R2:=λx y H Q=>∃ p xs i v,x=.ref p∧y=.int i∧SqT K H p xs∧atI xs i=some v∧Q v H
theorem cB:IxR X (xK X.K):=by
  intro value slice pins s σ H x y v u Q I rx ry h hs;obtain⟨p,xs,i,z,rfl,rfl,hq,he,q⟩:=h;cases rx;obtain⟨t,rfl⟩:=ry;obtain⟨its,r,pl,hz⟩:=I.list hq;obtain⟨j,h1,h2,h3,h4,h5⟩:=qM he;obtain⟨w,ew,rw'⟩:=r.get h2;have hl:=r.length;have hn:=nA;have fin:EP X pins σ Q w s:=⟨z,H,I,rw',q⟩;by_cases h0:0≤i
  · have hj:i.toNat=j:=by
      rw[seqIndex_of h0 h5]at h1;exact CC h1
    exact item_listR pl.isList h0 (by omega) (by rw[hj];simpa using ew) fin hs
  · have hj:(i+(its.toArray.size:Int)).toNat=j:=by
      rw[seqIndex_neg (by omega) h4]at h1;rw[Cj,←hl];exact CC h1
    exact subscriptTail_builtinR (x:=w) pl.isList.typeIs slot_list_getitem.lookup
      (wpAny_getItem_list_neg (Q:=λr s'=>r=w∧EP X pins σ Q r s') pl.isList (by omega) (by rw[Cj]<;>omega) (by omega) (by rw[hj];simpa using ew) ⟨rfl,fin⟩) hs
theorem dw:IxR X (Ak X.K):=by
  intro value slice pins s σ H x y v u Q I rx ry h hs;obtain⟨p,xs,i,z,rfl,rfl,hq,he,q⟩:=h;cases rx;obtain⟨t,rfl⟩:=ry;obtain⟨its,r,pl,hz⟩:=I.tuple hq;obtain⟨j,h1,h2,h3,h4,h5⟩:=qM he;obtain⟨w,ew,rw'⟩:=r.get h2;have hl:=r.length;have hn:=nA;have fin:EP X pins σ Q w s:=⟨z,H,I,rw',q⟩;exact subscriptTail_builtinR (x:=w) pl.typeIs slot_tuple_getitem.lookup
    (getItem_tuple (j:=j) (Q:=λr s'=>r=w∧EP X pins σ Q r s') pl (by omega) (by omega) (by rw[Cj,←hl];exact h1) (by simpa using ew) ⟨rfl,fin⟩) hs
theorem pQ(its:List Value)(n j:Nat)(u:Value):Obj.mapSeq (·.setIfInBounds j u) {cls:=.type "list",data:=.seq its.toArray n}={cls:=.type "list",data:=.seq (its.set j u).toArray n}:=by
  simp[Obj.mapSeq]
theorem Inv.lst{pins:List (Addr×Obj)}{σ:St}{H:Hp}{s:Shared}{p:Addr}{xs:List V}(I:Inv X pins σ H s)(h:H p=some (.lst xs)) :
    ∃(its:List Value) (n:Nat),Vals xs its∧s.heap.get? p=some {cls:=.type "list",data:=.seq its.toArray n}∧xs.length≤sizeLine:=by
  obtain⟨z,its,n,r,e⟩:=I.hok p _ h;exact⟨its,n,r,e,z⟩
theorem Inv.wQ{pins:List (Addr×Obj)}{σ:St}{H:Hp}{s:Shared}{p:Addr}{xs ys:List V}{its lB:List Value}{n n':Nat}{f:Obj→Obj}(I:Inv X pins σ H s)(h:H p=some (.lst xs))
    (ho:s.heap.get? p=some {cls:=.type "list",data:=.seq its.toArray n}) (hf:f {cls:=.type "list",data:=.seq its.toArray n}={cls:=.type "list",data:=.seq lB.toArray n'}) (r:Vals ys lB) (hz:ys.length≤sizeLine) (t:Nat) :
    Inv X pins σ (upd H p (.lst ys)) {s with heap:=s.heap.update p f,toks:=t}:=by
  have e:(s.heap.update p f).get? p=some {cls:=.type "list",data:=.seq lB.toArray n'}:=by
    rw[Heap.get?_update_self f ho (by rw[hf]<;>rfl),hf]
  refine I.write (x:=p) (e:=p) (by rw[h];trivial) (.inl rfl) (λb u hb q=>(CU _ _ (CV hb)).trans q) ⟨_,e⟩ ?_;exact⟨hz,lB,n',r,e⟩
def zt:V→V→V→Hp→(Hp→Prop)→Prop:=λo i v H Q=>∃ p xs k j,o=.ref p∧i=.int k∧H p=some (.lst xs)∧ixN xs.length k=some j∧Q (upd H p (.lst (xs.set j v)))
theorem set_list:Ag X zt:=by
  intro pins s σ H o i v ov iv u Q I ro ri rv h;obtain⟨p,xs,k,j,rfl,rfl,hp,hj,q⟩:=h;cases ro;obtain⟨t,rfl⟩:=ri;obtain⟨its,n,r,ho,hz⟩:=I.lst hp;obtain⟨h1,h2,h3,h4⟩:=qL hj;have hl:=r.length;have hn:=nA;have I':Inv X pins σ (upd H p (.lst (xs.set j v))) {s with heap:=s.heap.update p (Obj.mapSeq (·.setIfInBounds j u))} :=
    I.wQ hp ho (pQ its n j u) (r.set rv j) (by rw[CS];exact hz) s.toks
  by_cases h0:0≤k
  · have hk:k.toNat=j:=by
      rw[seqIndex_of h0 h4]at h1;exact CC h1
    exact PySem.W.ki_setAt ho h0 (by omega) (by rw[Cj,←hl];exact h4) (by rw[hk];exact⟨_,I',q⟩)
  · have hk:(k+(its.toArray.size:Int)).toNat=j:=by
      rw[seqIndex_neg (by omega) h3]at h1;rw[Cj,←hl];exact CC h1
    exact PySem.W.ki_setBack ho (by omega) (by rw[Cj,←hl];exact h3) (by omega) (by rw[hk];exact⟨_,I',q⟩)
theorem l4(lo hi:Option Int)(n:Nat):(sliceBounds lo hi none n).1=((HT.sIx n 0 lo:Nat):Int)∧(sliceBounds lo hi none n).2.1=((HT.sIx n n hi:Nat):Int)∧(sliceBounds lo hi none n).2.2=1:=by
  refine⟨?_,?_,rfl⟩
  · cases lo with
    | none=>simp[sliceBounds,HT.sIx]
    | some i =>
      simp only[sliceBounds,HT.sIx,Option.getD_none,show(1:Int)>0 by decide,if_true];by_cases h:i<0
      · simp only[h,if_true]<;>omega
      · simp only[h,if_false]<;>omega
  · cases hi with
    | none=>simp[sliceBounds,HT.sIx]
    | some i =>
      simp only[sliceBounds,HT.sIx,Option.getD_none,show(1:Int)>0 by decide,if_true];by_cases h:i<0
      · simp only[h,if_true]<;>omega
      · simp only[h,if_false]<;>omega
theorem kb(its:List Value)(lo hi:Option Int):slicePick its.toArray lo hi none=((its.drop (HT.sIx its.length 0 lo)).take (HT.sIx its.length its.length hi-HT.sIx its.length 0 lo)).toArray:=by
  obtain⟨h1,h2,h3⟩:=l4 lo hi its.toArray.size;unfold slicePick;rw[h1,h2,h3];simp only[sliceRange_one,pick_run,Cj]<;>rfl
def Bu(K:W.Frag):V→Option Int→Option Int→Hp→VK→Prop:=λx lo hi H Q=>∃ a xs,x=.ref a∧SqL K H a xs∧∀ p,H p=none→Q (.ref p) (upd H p (.lst (sJ xs lo hi)))
theorem m5:SlR X (Bu X.K):=by
  intro pins s σ H x v vl vu lo hi sl Q I rx hs pl pu h;obtain⟨a,xs,rfl,hx,q⟩:=h;cases rx;obtain⟨its,r,ht,hz⟩:=I.list hx;have hlen:=r.length;refine⟨"list",_,slot_list_getitem.lookup,ht.isList.typeIs,?_⟩;refine wpAny_getItem_list_slice ht.isList hs pl pu .none (by simp) ?_ (by rw[Cj]<;>omega);rw[kb,←hlen];refine⟨.ref s.heap.objs.size,_,I.laid (t':=s.toks) (o:=.lst (sJ xs lo hi)) (λb ob q=>Ce _ q) (Cg _) ?_,rfl,q _ (I.hok.fresh (Cg _))⟩;exact⟨CK (nU xs lo hi) hz,_,0,(r.drop (HT.sIx xs.length 0 lo)).take (HT.sIx xs.length xs.length hi-HT.sIx xs.length 0 lo),CB _ rfl⟩
def dj:V→Bool
  | .non=>true
  | .bl _=>true
  | .int _=>true
  | .str _=>true
  | _=>false
def eqV:V→V→Bool
  | .non,.non=>true
  | .bl a,.bl b=>a == b
  | .bl a,.int b=>(if a then 1 else 0) == b
  | .int a,.bl b=>a == (if b then 1 else 0)
  | .int a,.int b=>a == b
  | .str a,.str b=>a == b
  | _,_=>false
theorem nC{A:Around}{s:Shared}{y x:V}{u v:Value}(ry:RelV y u)(rx:RelV x v)(fy:dj y=true)(fx:dj x=true):SeqAt.EqAt A s u v (eqV y x):=by
  cases y with
  | non =>
    cases ry;cases x with
    | non=>cases rx;exact SeqAt.EqAt.same _
    | bl b=>cases rx;exact SeqAt.EqAt.none_bool b
    | int b=>obtain⟨t,rfl⟩:=rx;exact SeqAt.EqAt.none_int b t
    | str b=>obtain⟨t,rfl⟩:=rx;exact SeqAt.EqAt.none_str b t
    | _=>exact absurd (show false=true from fx) Ck
  | bl a =>
    cases ry;cases x with
    | non=>cases rx;exact SeqAt.EqAt.bool_none a
    | bl b=>cases rx;exact SeqAt.EqAt.bool_bool a b
    | int b=>obtain⟨t,rfl⟩:=rx;exact SeqAt.EqAt.bool_int a b t
    | str b=>obtain⟨t,rfl⟩:=rx;exact SeqAt.EqAt.bool_str a b t
    | _=>exact absurd (show false=true from fx) Ck
  | int a =>
    obtain⟨t',rfl⟩:=ry;cases x with
    | non=>cases rx;exact SeqAt.EqAt.int_none a t'
    | bl b=>cases rx;exact SeqAt.EqAt.int_bool a t' b
    | int b=>obtain⟨t,rfl⟩:=rx;exact SeqAt.EqAt.int_int a t' b t
    | str b=>obtain⟨t,rfl⟩:=rx;exact SeqAt.EqAt.int_str a t' b t
    | _=>exact absurd (show false=true from fx) Ck
  | str a =>
    obtain⟨t',rfl⟩:=ry;cases x with
    | non=>cases rx;exact SeqAt.EqAt.str_none a t'
    | bl b=>cases rx;exact SeqAt.EqAt.str_bool a t' b
    | int b=>obtain⟨t,rfl⟩:=rx;exact SeqAt.EqAt.str_int a t' b t
    | str b=>obtain⟨t,rfl⟩:=rx;exact SeqAt.EqAt.str_str a t' b t
    | _=>exact absurd (show false=true from fx) Ck
  | _=>exact absurd (show false=true from fy) Ck
def eqU(x:V)(u:Value):Bool:=match u with
  | .none=>eqV .non x
  | .bool b=>eqV (.bl b) x
  | .int i _=>eqV (.int i) x
  | .str z _=>eqV (.str z) x
  | _=>false
theorem t5{x y:V}{u:Value}(r:RelV y u)(f:dj y=true):eqU x u=eqV y x:=by
  cases y with
  | non=>cases r;rfl
  | bl b=>cases r;rfl
  | int i=>obtain⟨t,rfl⟩:=r;rfl
  | str z=>obtain⟨t,rfl⟩:=r;rfl
  | _=>exact absurd (show false=true from f) Ck
theorem iw{x:V}:∀ {xs:List V} {us:List Value},Vals xs us→xs.all dj=true→us.any (eqU x)=xs.any λy=>eqV y x
  | _,_,.nil,_=>rfl
  | y::xs,u::us,.cons r t,f=>by
    rw[List.all_cons,DC]at f;rw[Du,Du,t5 r f.1,iw t f.2]
theorem gC{A:Around}{s:Shared}{x:V}{v:Value}(rx:RelV x v)(fx:dj x=true):∀ {xs:List V} {us:List Value},Vals xs us→xs.all dj=true→∀ u∈us,SeqAt.EqAt A s u v (eqU x u)
  | _,_,.nil,_=>λu hu=>by cases hu
  | y::xs,u::us,.cons r t,f=>λu' hu=>by
    rw[List.all_cons,DC]at f;rcases Cw.mp hu with rfl|hu
    · rw[t5 r f.1];exact nC r rx f.1 fx
    · exact gC rx fx t f.2 u' hu
def inV(x:V)(xs:List V):Bool:=xs.any λy=>eqV y x
def rIn(K:W.Frag)(neg:Bool):R2:=λx y H Q=>∃ p xs,y=.ref p∧(SqL K H p xs∨SqT K H p xs)∧dj x=true∧xs.all dj=true∧Q (.bl (if neg then !inV x xs else inV x xs)) H
theorem rA:OpR X (compareOp .In) (rIn X.K false):=by
  intro pins s σ H x y v u Q I rx ry h;obtain⟨p,xs,rfl,hq,fx,fs,q⟩:=h;cases ry;rcases hq with hq|hq
  · obtain⟨its,r,pl,hz⟩:=I.list hq
    refine SeqAt.in_listAt (eqU x) pl.isList (λw hw=>gC rx fx r fs w (by simpa using hw)) ⟨.bl _,H,I,rfl,?_⟩;rw[show its.toArray.any (eqU x)=its.any (eqU x) by simp,iw r fs];exact q
  · obtain⟨its,r,pl,hz⟩:=I.tuple hq
    refine SeqAt.in_tupleAt (eqU x) pl (λw hw=>gC rx fx r fs w (by simpa using hw)) ⟨.bl _,H,I,rfl,?_⟩;rw[show its.toArray.any (eqU x)=its.any (eqU x) by simp,iw r fs];exact q
theorem hW:OpR X (compareOp .NotIn) (rIn X.K true):=by
  intro pins s σ H x y v u Q I rx ry h;obtain⟨p,xs,rfl,hq,fx,fs,q⟩:=h;cases ry;rcases hq with hq|hq
  · obtain⟨its,r,pl,hz⟩:=I.list hq
    refine SeqAt.notIn_listAt (eqU x) pl.isList (λw hw=>gC rx fx r fs w (by simpa using hw)) ⟨.bl _,H,I,rfl,?_⟩;rw[show its.toArray.any (eqU x)=its.any (eqU x) by simp,iw r fs];exact q
  · obtain⟨its,r,pl,hz⟩:=I.tuple hq
    refine SeqAt.notIn_tupleAt (eqU x) pl (λw hw=>gC rx fx r fs w (by simpa using hw)) ⟨.bl _,H,I,rfl,?_⟩;rw[show its.toArray.any (eqU x)=its.any (eqU x) by simp,iw r fs];exact q
theorem aI:jz X (.builtin "len") (λxs H Q=>∃ p ys,xs=[.ref p]∧(SqL X.K H p ys∨SqT X.K H p ys)∧Q (.int ys.length) H):=by
  intro pins s σ H xs us Q I r h;obtain⟨p,ys,rfl,hq,q⟩:=h;obtain⟨u,rfl,rx⟩:=vals1 r;cases rx;have hn:=nA;rcases hq with hq|hq
  · obtain⟨its,r',pl,hz⟩:=I.list hq
    have hlen:=r'.length;exact Calls.call_len_list pl.isList (by simp only[Cj]<;>omega) ⟨.int ys.length,H,I.tok _,⟨s.toks+1,by rw[Cj,hlen]⟩,q⟩
  · obtain⟨its,r',pl,hz⟩:=I.tuple hq
    have hlen:=r'.length;exact len_tuple pl (by simp only[Cj]<;>omega) ⟨.int ys.length,H,I.tok _,⟨s.toks+1,by rw[Cj,hlen]⟩,q⟩
theorem dZ:jz X (.type "list") (λxs H Q=>∃ p ys,xs=[.ref p]∧(SqL X.K H p ys∨SqT X.K H p ys)∧∀ l,H l=none→Q (.ref l) (upd H l (.lst ys))):=by
  intro pins s σ H xs us Q I r h;obtain⟨p,ys,rfl,hq,q⟩:=h;obtain⟨u,rfl,rx⟩:=vals1 r;cases rx;have fin:∀(its:List Value),Vals ys its→ys.length≤sizeLine→∀(h':Heap) (c':Nat),(∀ b o',s.heap.get? b=some o'→h'.get? b=some o') →
      h'.get? s.heap.objs.size=some {cls:=.type "list",dict:=none,data:=.seq its.toArray c',slots:=#[]}→EP X pins σ Q (.ref s.heap.objs.size) {s with heap:=h'}:=λits r' hz h' c' kp e =>
    ⟨.ref s.heap.objs.size,_,I.laid (t':=s.toks) kp (Cg _) (show cb X.prog X.w _ h' _ (.lst ys) from⟨hz,its,c',r',e⟩),rfl,q _ (I.hok.fresh (Cg _))⟩
  rcases hq with hq|hq
  · obtain⟨its,r',pl,hz⟩:=I.list hq
    have hlen:=r'.length;obtain⟨o,ho,hc,n,hd⟩:=pl.isList;exact call_list_seq p (.inl rfl) ho hc hd (λh' c' kp e=>fin its r' hz h' c' kp e) (by simp only[Cj]<;>omega)
  · obtain⟨its,r',pl,hz⟩:=I.tuple hq
    have hlen:=r'.length;obtain⟨o,ho,hc,n,hd⟩:=pl;exact call_list_seq p (.inr rfl) ho hc hd (λh' c' kp e=>fin its r' hz h' c' kp e) (by simp only[Cj]<;>omega)
def tyV(K:W.Frag)(T:String)(x:V)(H:Hp):Prop:=match x with
  | .str _=>T = "str"
  | .int _=>T = "int"
  | .ref p=>(T = "list" ∧ ∃ xs,SqL K H p xs)∨(T = "tuple" ∧ ∃ o,K.lookup p=some o∧o.cls=.type "tuple" ∧ o.dict=none) ∨
      (T = "dict" ∧ ((∃ kvs,H p=some (.dK kvs))∨∃ kvs,H p=some (.dT kvs)))∨(T = "set" ∧ ∃ S n,H p=some (.set S n))
  | _=>False
theorem wU{pins:List (Addr×Obj)}{σ:St}{H:Hp}{s:Shared}{T:String}{x:V}{v:Value}(I:Inv X pins σ H s)(r:RelV x v)(ty:tyV X.K T x H) :
    s.TypeIs v T∧∀ a,v=.ref a→∃ ob,s.heap.get? a=some ob∧ob.dict=none:=by
  cases x with
  | str z =>
    obtain⟨t,rfl⟩:=r;cases (show T = "str" from ty);exact⟨typeIs_str s z t,λ_ e=>nomatch e⟩
  | int i =>
    obtain⟨t,rfl⟩:=r;cases (show T = "int" from ty);exact⟨typeIs_int s i t,λ_ e=>nomatch e⟩
  | ref p =>
    cases r;rcases ty with⟨rfl,xs,hq⟩|⟨rfl,o,hk,hc,hd⟩|⟨rfl,hk⟩|⟨rfl,S,n,hk⟩
    · obtain⟨its,_,pl,_⟩:=I.list hq
      refine⟨pl.isList.typeIs,λa e=>?_⟩;cases e;obtain⟨o,n,e,c,hd,_⟩:=pl;exact⟨o,e,hd⟩
    · refine⟨⟨o,I.kIn p o hk,hc⟩,λa e=>?_⟩
      cases e;exact⟨o,I.kIn _ o hk,hd⟩
    · have z:∃ o,s.heap.get? p=some o∧o.ExactDict:=by
        rcases hk with⟨kvs,hk⟩|⟨kvs,hk⟩
        · obtain⟨_,_,_,_,o,_,_,e,ex,_⟩:=I.hok p _ hk
          exact⟨o,e,ex⟩
        · obtain⟨_,_,_,_,o,_,_,e,ex,_⟩:=I.hok p _ hk
          exact⟨o,e,ex⟩
      obtain⟨o,e,ex⟩:=z;refine⟨⟨o,e,ex.1⟩,λa e2=>?_⟩;cases e2;exact⟨o,e,ex.2.1⟩
    · obtain⟨o,_,_,_,e,ex,_⟩:=I.hok p _ hk
      refine⟨⟨o,e,ex.1⟩,λa e2=>?_⟩;cases e2;exact⟨o,e,ex.2.1⟩
  | _=>exact False.elim ty
def tBM(K:W.Frag)(T:String)(r:V→List V→Hp→VK→Prop)(to:TE)(t:TA):TE:=λσ H Q=>to σ H λx H1=>tyV K T x H1∧t σ H1 λxs H2=>r x xs H2 Q
variable{o e:Expr}{es:List Expr}{to:TE}{t:TA}{name:Str}{apos qO:Pos}{T id:String}{r:V→List V→Hp→VK→Prop}
theorem nE(pa:PlainAttrs T)(slot:Slot T name id)(hty:typeOf (.builtin id)=pure (.type "method_descriptor"))(hm:MtR X id r)(ho:PE X o to)(ha:PA X (e::es) t)
    (zu:attributeBase o name X.env (eval o X.env)=eval o X.env:=by rfl)
    (Bv:((backTo qO (starEach (e::es) X.env)).all (λx=>!x.1)&&(backToKw qO (keywordEach [] X.env)).all (λx=>x.1.isSome)
      && decide ((e::es).length+([]:List Keyword).length+(if([]:List Keyword).isEmpty then 0 else 1)<30))=true:=by rfl)
    (zw:(apos.endLine == qO.line)=true:=by rfl) (hs:starEach (e::es) X.env=(false,eval e X.env)::starEach es X.env:=by rfl) (wV:(backTo qO (starEach es X.env)).any (·.1)=false:=by rfl) :
    PE X (.Call (.Attribute o name apos) (e::es) [] qO) (tBM X.K T r to t):=by
  intro pins s σ H Q I h;refine wpAny_Call_method_late zu Bv zw rfl (thn (ho pins s σ H _ I h) λv s1 ⟨x,H1,I1,r1,ty,q1⟩=>?_);obtain⟨h1,h2⟩:=wU I1 r1 ty;refine⟨T,id,pa,slot,hty,h1,h2,?_⟩;have hA:=ha qO pins s1 σ H1 _ I1 q1;rw[hs]at hA ⊢;refine Calls.callWith_builtin (by show(false||(backTo qO (starEach es X.env)).any (·.1))=false;rw[wV]<;>rfl) (Calls.evalArgs_plain ?_);exact thn hA λus s2 ⟨vs,H2,I2,r2,q2⟩=>hm pins s2 σ H2 x vs v us Q I2 r1 r2 q2
end
end L2
namespace L2
open PySem PySem.Spec PyProof.Rows
def MtM(X:Cx)(id:String)(r:V→List V→Hp→VK→Prop):Prop :=
  ∀(pins:List (Addr×Obj)) (s:Shared) (σ:St) (H:Hp) (x:V) (xs:List V) (v:Value) (us:List Value) (Q:VK),Inv X pins σ H s→RelV x v→Vals xs us→r x xs H Q →
    wpAny (model X.prog X.w) X.A (call (.builtin id) (v::us)) (EP X pins σ Q) X.xe s
theorem Vals.one:∀ {x:V} {us:List Value},Vals [x] us→∃ u,us=[u]∧RelV x u
  | _,_,.cons r .nil=>⟨_,rfl,r⟩
theorem Vals.rep{xs:List V}{us:List Value}(h:Vals xs us):∀ k:Nat,Vals (List.replicate k xs).flatten (List.replicate k us).flatten
  | 0=>.nil
  | k+1=>by
    rw[C0,C0,Dn,Dn];exact Vals.append h (Vals.rep h k)
theorem foldl_rep(its:List Value):∀(k:Nat) (acc:List Value),
    List.foldl (λx1 x2=>x1++x2) acc.toArray (List.replicate k its.toArray)=(acc++(List.replicate k its).flatten).toArray
  | 0,acc=>by simp
  | k+1,acc=>by
    have e:acc.toArray++its.toArray=(acc++its).toArray:=(by simp);have e2:(acc++its)++(List.replicate k its).flatten=acc++(List.replicate (k+1) its).flatten:=by
      rw[C0,Dn,DL]
    rw[←e2,←foldl_rep its k (acc++its),←e,C0,List.foldl_cons]
section
variable{X:Cx}{pins:List (Addr×Obj)}{σ:St}{H:Hp}{s:Shared}{l b:Addr}{xs ys zs:List V}
theorem Inv.Al{its lB:List Value}{n:Nat}{f:Array Value→Array Value}{t':Nat}(I:Inv X pins σ H s)(hH:H l=some (.lst xs))
    (e:s.heap.get? l=some {cls:=.type "list",data:=.seq its.toArray n}) (hf:f its.toArray=lB.toArray) (hv:Vals ys lB) (hz:ys.length≤sizeLine) :
    Inv X pins σ (upd H l (.lst ys)) {s with heap:=s.heap.update l (Obj.mapSeq f),toks:=t'}:=by
  have q:=PySem.IsL.update e f;rw[hf]at q;refine I.write (x:=l) (e:=l) (by rw[hH];exact trivial) (.inl rfl) (λb' u hb hu=>(CU s.heap (Obj.mapSeq f) (CV hb)).trans hu) ⟨_,q⟩ ?_;exact⟨hz,lB,_,hv,q⟩
theorem Inv.xM{its:List Value}{t':Nat}(I:Inv X pins σ H s)(hv:Vals ys its)(hz:ys.length≤sizeLine) :
    Inv X pins σ (upd H s.heap.objs.size (.lst ys)) {s with heap:=s.heap.push {cls:=.type "list",data:=.seq its.toArray},toks:=t'} :=
  I.laid (λ_ _ q=>Ce _ q) (Cg _) ⟨hz,its,0,hv,CB _ rfl⟩
theorem Inv.fresh(I:Inv X pins σ H s):H s.heap.objs.size=none:=I.hok.fresh (Cg _)
theorem Inv.vJ(I:Inv X pins σ H s)(hH:H l=some (.lst xs)):xs.length≤sizeLine∧∃(its:List Value) (n:Nat),Vals xs its∧xs.length=its.length∧s.heap.get? l=some {cls:=.type "list",data:=.seq its.toArray n}:=by
  obtain⟨z,its,n,r,e⟩:=I.hok l _ hH;exact⟨z,its,n,r,r.length,e⟩
theorem oQ{n:Nat}(h:n≤sizeLine):Builtin.List.listTooLong n=false:=by
  unfold Builtin.List.listTooLong;exact decide_eq_false (by omega)
end
section
variable{X:Cx}
def u9:V→List V→Hp→VK→Prop:=λx vs H Q=>∃ l xs y,x=.ref l∧vs=[y]∧H l=some (.lst xs)∧xs.length<sizeLine∧Q .non (upd H l (.lst (xs++[y])))
theorem eE:MtM X "list.append" u9:=by
  intro pins s σ H x vs v us Q I rx rv h;obtain⟨l,xs,y,rfl,rfl,hH,hz,q⟩:=h;cases rx;obtain⟨u,rfl,ru⟩:=rv.one;obtain⟨z,its,n,r,hl,e⟩:=I.vJ hH;refine call_meets F.slot_list_append ⟨_,e,rfl⟩ F.entry_list_append (F.args_list_append_2 _ _) (PySem.list_append l its.toArray n u (by rw[Cj];omega)) ⟨e,?_⟩;refine⟨.non,_,I.Al (lB:=its++[u]) hH e (by simp) (r.append (.cons ru .nil)) ?_,rfl,q⟩;rw[Cs,C1];omega
def va:V→List V→Hp→VK→Prop:=λx vs H Q=>∃ l b xs zs,x=.ref l∧vs=[.ref b]∧H l=some (.lst xs)∧H b=some (.lst zs)∧xs.length+zs.length≤sizeLine∧Q .non (upd H l (.lst (xs++zs)))
theorem rB:MtM X "list.extend" va:=by
  intro pins s σ H x vs v us Q I rx rv h;obtain⟨l,b,xs,zs,rfl,rfl,hH,hB,hz,q⟩:=h;cases rx;obtain⟨u,rfl,ru⟩:=rv.one;cases ru;obtain⟨z,its,n,r,hl,e⟩:=I.vJ hH;obtain⟨z2,vK,n2,r2,hl2,e2⟩:=I.vJ hB;have hsz:its.toArray.size+vK.toArray.size≤sizeLine:=by rw[Cj,Cj];omega
  have uH:¬(!its.toArray.isEmpty&&Builtin.List.listTooLong (its.toArray.size+vK.toArray.size))=true:=by
    rw[oQ hsz,DA];exact Ck
  refine call_meets F.slot_list_extend ⟨_,e,rfl⟩ F.entry_list_extend (F.args_list_extend_2 _ _)
    (AutoSeq1.list_extend_list_list_0 l its.toArray n b vK.toArray n2 uH (by rw[Cj];omega) (by omega)) ⟨e,e2,?_⟩
  refine⟨.non,_,I.Al (lB:=its++vK) hH e (by simp) (r.append r2) ?_,rfl,q⟩;rw[Cs];omega
def Bw:R2:=λx y H Q=>∃ l k xs,x=.ref l∧y=.int k∧H l=some (.lst xs)∧-(2 ^ 63)≤k∧k<2 ^ 63∧xs.length*k.toNat≤sizeLine ∧
  ∀ p,H p=none→Q (.ref p) (upd H p (.lst (List.replicate k.toNat xs).flatten))
theorem len_rep{α:Type}(xs:List α)(k:Nat):(List.replicate k xs).flatten.length=k*xs.length:=by
  induction k with
  | zero=>simp
  | succ k ih=>rw[C0,Dn,Cs,ih,Nat.succ_mul,Nat.add_comm]
theorem wW:OpR X (binaryOp .Mult) Bw:=by
  intro pins s σ H x y v u Q I rx ry h;obtain⟨l,k,xs,rfl,rfl,hH,h1,h2,hz,q⟩:=h;cases rx;obtain⟨t,rfl⟩:=ry;obtain⟨z,its,n,r,hl,e⟩:=I.vJ hH;have hlen:its.toArray.size*k.toNat≤sizeLine:=by rw[Cj,←hl];exact hz
  have Bx:¬its.toArray.size*k.toNat>(2 ^ 63-1)/8:=by
    have:(sizeLine:Nat)≤(2 ^ 63-1)/8:=by decide
    omega
  have By:¬(!Builtin.List.listFitsIndex k)=true:=by
    rw[fitsIndex_both h1 h2];exact Ck
  have uH:¬Builtin.List.listTooLong (its.toArray.size*k.toNat)=true:=by
    rw[oQ hlen];exact Ck
  have vL:List.foldl (λx1 x2=>x1++x2) #[] (List.replicate (if its.toArray.isEmpty=true then 0 else k.toNat) its.toArray)=(List.replicate k.toNat its).flatten.toArray:=by
    have f0:∀ m:Nat,List.foldl (λx1 x2=>x1++x2) #[] (List.replicate m its.toArray)=(List.replicate m its).flatten.toArray:=λm=>by
      have:=foldl_rep its m []
      rw[List.nil_append]at this;exact this
    rw[f0];cases its with
    | nil=>simp
    | cons a r'=>rw[if_neg (by simp)]
  refine wpAny_binaryOp_repeat_ref (T := "list") (U := "int") (by decide) ⟨_,e,rfl⟩ (λs'=>typeIs_int s' k t) noFill_list_mul F.fills_int_mul F.slot_int_rmul repeat_list F.slot_int_index.lookup
    (call_meets F.slot_int_rmul (typeIs_int s k t) F.entry_int_rmul (F.args_int_rmul_2 _ _) (int___rmul___int_list k t l its.toArray n)
      ⟨e,rfl,⟨_,e,rfl⟩,call_meets F.slot_list_mul ⟨_,e,rfl⟩ F.entry_list_mul (F.args_list_mul_2 _ _) (AutoListH.list___mul___list_int_3 l its.toArray n k t By Bx uH) ⟨e,?_⟩⟩)
  rw[vL];exact⟨.ref _,_,I.xM (t':=s.toks) (r.rep k.toNat) (by rw[len_rep,Nat.mul_comm];exact hz),rfl,q _ I.fresh⟩
end
section
variable{prog:Program}{w:World}{A:Around}{E:Value→Shared→Prop}{s:Shared}
end
section
variable{X:Cx}
end
end L2
namespace Att
open PySem PySem.W PySem.Calls PyProof.Rows
theorem iN{P:Params}{h:Heap}:∀(ns:List Int) (vs:List Value),WellAll P h vs (ns.map WData.int)→IntsAre vs ns:=by
  intro ns;induction ns with
  | nil =>
    intro vs w;rw[List.map_nil]at w;cases w;exact .nil
  | cons n ns ih =>
    intro vs w;rw[CQ]at w;cases w with
    | cons a b =>
      cases a;exact .cons _ _ (ih _ b)
theorem rC{l:OpenLaw}{n:Nat}(hn:l.most=some n){P:Params}{h:Heap}{args:List WData}{vals:List Value}
    (vM:l.row.toRowW.claim.pre args=true) (hwl:WellAll P h vals args) :
    ∃ a vs ns,vals=[Value.ref a]∧args=[WData.list (ns.map WData.int)]∧h.get? a=some {cls:=.type "list",data:=.seq vs.toArray}∧IntsAre vs ns∧ns.length≤n:=by
  have hsh:WShape.hasAll [] args [.list .int]=true:=(pre_splitW vM).1;have hc:l.pre.holds [] {args:=args}=true:=(pre_splitW vM).2;obtain⟨d,r,rfl,h1,h2⟩:=hasAllW_cons hsh;obtain rfl:=hasAllW_nil h2;obtain⟨xs,rfl,h3⟩:=hasW_list h1;obtain⟨ns,rfl⟩:=items_int h3;have hlen:ns.length≤n:=by
    unfold OpenLaw.pre at hc;have h4:(WTm.not (.lt (.lit (.int (n:Int))) (.len (.arg 0)))).holds [] {args:=[.list (ns.map .int)]}=true:=by
      have h4:=(holds_andW hc).1;rw[hn]at h4;exact h4
    have h5:=condW_of h4 (w_not (w_lt w_lit (w_len_list (w_arg rfl))));rw[Cn]at h5;refine Nat.le_of_not_lt λq=>?_;have q':(n:Int)<((ns.length:Nat):Int):=by omega
    first
      | (rw[decide_eq_true q']at h5;exact absurd h5 (by decide))
      | (simp at h5;omega)
  cases hwl with
  | cons w1 w2 =>
    cases w2;cases w1 with
    | list ho hall=>exact⟨_,_,ns,rfl,rfl,ho,iN ns _ hall,hlen⟩
theorem rD(l:OpenLaw)(args:List WData):l.row.toRowW.claim.post args (.bool true) args=true :=
  postW_of (r:=l.row.toRowW) (X:=(true == true))
    (show WShape.has [] (.bool true) .bool=true by first|rfl|decide|simp[WShape.has,WShape.arms,WShape.armsAll])
    (show(WTm.eq .res (.lit (.bool true))).value [] {args:=args,res:=some (.bool true),after:=args}=some (.bool (true == true)) from w_eq_bool (w_res rfl) w_lit) rfl
theorem nV{l:OpenLaw}{n:Nat}{q:Program}{loose:List Str}{XP:(Str→Option Value)→Heap→Prop}{YP:World→Heap→Prop}{d:DefRec}
    (hn:l.most=some n) (hdf:d.params.defaults=[])
    (call:∀(w:World) (s₀ s₁:Shared) (mg mb:Str→Option Value) (fa:Addr) (o:Obj) (pm cd doc:Value) (a:Addr) (vs:List Value) (ns:List Int),
      Ground q loose [] XP w s₀ mg mb s₁.heap→YP w s₁.heap →
      s₁.heap.get? fa=some o→o.data=.func (docDef d.name d.params d.body d.scope pm cd doc)→s₁.heap.CodeRec cd d.name→mg d.name=some (.ref fa) →
      s₁.heap.get? a=some {cls:=.type "list",data:=.seq vs.toArray}→IntsAre vs ns→ns.length≤n→s₁.gens=#[] →
      codeAny (model l.prog w) callerA (.call (.ref fa) ⟨[.ref a],[]⟩) (λr s'=>r=.ok (.ret (.bool true))∧OldK s₁.heap s'.heap∧s'.os=s₁.os∧AllBare s'.gens) s₁) :
    WalkO q loose XP YP l.row.toRowW d [] (λf vs=>PySem.call f vs):=by
  intro w s₀ s₁ mg mb G Y fa o pm cd doc dV kV ho hd hcd hD hmg hg args vals as vM hlay hrd hwl hlo;obtain rfl:dV=.none:=Dflts.none hD hdf;obtain rfl:kV=.none:=Dflts.noKw hD;obtain⟨a,vs,ns,rfl,rfl,xN,hints,hlen⟩:=rC hn vM hwl;refine enter_call (codeAny_mono (call w s₀ s₁ mg mb fa o pm cd doc a vs ns G Y ho (fd_plain hd) hcd hmg xN hints hlen hg) λr s' hq=>?_);obtain⟨rfl,h2,h3,h4⟩:=hq;exact⟨.inl ⟨.bool true,.bool true,[],rfl,λ_=>rfl,.bool true,rD l _,λ_=>⟨List.Pairwise.nil,λ_ hm=>(nomatch hm)⟩⟩,h2,h3,h4⟩
section
variable{prog:Program}{w:World}{A:Around}{E:Value→Shared→Prop}{s:Shared}{K:Frag}
end
end Att
namespace L2
open PySem PySem.Spec PyProof.Rows
theorem lI:∀ {vs:List Value} {ns:List Int},IntsAre vs ns→Vals (ns.map V.int) vs
  | _,_,.nil=>.nil
  | _,_,.cons n t h=>.cons ⟨t,rfl⟩ (lI h)
end L2
namespace L2
open PySem PySem.Spec PyProof.Rows
end L2
namespace L2
open PySem PySem.Spec PyProof.Rows
def inClass(s:Stmt)(j:Nat):Stmt:=match s with
  | .ClassDef _ _ _ body _ _ _ _ _ _ _=>body.getD j (.Pass ⟨0,0,0,0⟩)
  | _=>.Pass ⟨0,0,0,0⟩
def fD(s:Stmt):Arguments:=match s with
  | .FunctionDef _ a _ _ _ _ _ _ _ _=>a
  | _=>{posonlyargs:=[],args:=[],vararg:=none,kwonlyargs:=[],kw_defaults:=[],kwarg:=none,defaults:=[]}
def dQ(s:Stmt):List Stmt:=match s with
  | .FunctionDef _ _ b _ _ _ _ _ _ _=>b
  | _=>[]
def aj(s:Stmt):Scope:=match s with
  | .FunctionDef _ _ _ _ _ _ sc _ _ _=>sc
  | _=>{kind:=.function,names:=[],isGenerator:=false,isCoroutine:=false}
structure Fun(K:W.Frag)(x qual:Str)(st:Stmt)(f:Addr)(fd:FuncData):Prop where
  ex:∃(oc:Value) (od:Option Addr) (kV doc pm:Value) (an:Option Addr) (cdv ct:Value) (osl:Array (Option Value)),
    fd=PySem.W.fnOf x qual (fD st) (dQ st) (aj st) .none kV doc pm an cdv ct∧K.lookup f=some ⟨oc,od,.func fd,osl⟩∧PySem.W.codeIn K cdv qual=true
  kp:PySem.W.keepIn K (.ref f)=true
section
variable{P:Program}{w:World}{K:W.Frag}{mg:Str→Option Value}{base:Heap}
theorem Fun.binds{x qual:Str}{st:Stmt}{f:Addr}{fd:FuncData}{ps:List Str}(F:Fun K x qual st f fd)
    (h:∀(kV doc pm:Value) (an:Option Addr) (cdv ct:Value) (us:List Value),us.length=ps.length→bindArgs (PySem.W.fnOf x qual (fD st) (dQ st) (aj st) .none kV doc pm an cdv ct) ⟨us,[]⟩=pure (ps.zip us)):Binds K fd ps []:=by
  obtain⟨oc,od,kV,doc,pm,an,cdv,ct,osl,rfl,lk,hcd⟩:=F.ex;exact .all (h kV doc pm an cdv ct)
theorem t6{x qual:Str}{st:Stmt}{f:Addr}{oc:Value}{od an:Option Addr}{osl:Array (Option Value)}{kV doc pm cdv ct:Value}(l:K.lookup f=some ⟨oc,od,.func (PySem.W.fnOf x qual (fD st) (dQ st) (aj st) .none kV doc pm an cdv ct),osl⟩)
    (c:PySem.W.codeIn K cdv qual=true) (k:PySem.W.keepIn K (.ref f)=true):Fun K x qual st f (PySem.W.fnOf x qual (fD st) (dQ st) (aj st) .none kV doc pm an cdv ct):=⟨⟨oc,od,kV,doc,pm,an,cdv,ct,osl,rfl,l,c⟩,k⟩
end
theorem iO{A:Around}{k:Nat}(hr:dY k A):A.units+1<cLine:=Dv (DH (by decide:1≤64) _) hr.units
section
variable{X:Cx}
theorem pv(i:Nat){x:Str}{pos:Pos}(hN:X.N[i]?=some x:=by rfl)(hv:Vis X.env.scope x:=by first|exact Or.inl rfl|exact Or.inr (Or.inl rfl)|exact Or.inr (Or.inr rfl))(hd:(x == ("__debug__" : Str))=false:=by decide)
    (hcd:(x == ("__classdict__" : Str))=false:=by decide):PE X (.Name x pos) (Ae i):=wI hN hv hd hcd
end
theorem xO{A B:Prop}(h:B):if false=true then A else B:=by
  rw[if_neg Ck];exact h
theorem vb{A B:Prop}(h:A):if true=true then A else B:=by
  rw[if_pos rfl];exact h
theorem jB{c A B:Prop}[Decidable c](h1:c→A)(h2:¬c→B):if c then A else B:=by
  by_cases h:c
  · rw[if_pos h]
    exact h1 h
  · rw[if_neg h]
    exact h2 h
def au(H H':Hp):Prop:=∀ b o,H b=some o→H' b=some o
theorem au.refl(H:Hp):au H H:=λ_ _ h=>h
theorem au.trans{H H1 H2:Hp}(a:au H H1)(b:au H1 H2):au H H2:=λc o h=>b c o (a c o h)
end L2
end
section
namespace K41
open PySem PySem.W L2 PySem.PyData
def top(i:Nat):Stmt:=PySem.Challenge.pw_stillheap_k41_forwards_left.main.body.getD i (.Pass ⟨0,0,0,0⟩)
section
abbrev OO:=Params→Obj
def oF(n q:Str)(s:Stmt)(m:Value)(r:Addr):Obj:=⟨.type "function",none,.func (fnOf n q (fD s) (dQ s) (aj s) .none .none .none m none (.ref r) .none),#[]⟩
def oG(n q:Str)(s:Stmt):Obj:=⟨.none,none,.func ⟨n,q,fD s,.stmts (dQ s),aj s,0,[],.none,.none,.none,.none,none,.none,.none,0⟩,#[]⟩
def oT(l:List Value):Obj:=⟨.type "tuple",none,.seq (List.toArray l) 0,#[]⟩
def kE(P:Params)(x:Str)(n:Tok)(v:Value):DictEntry:=⟨keyHash P x,.str x n,v⟩
def oC(n:Str)(t:Tok)(q:Str)(l a b c d:Int)(r:Addr)(e:Int)(f g h i:Addr)(z:Int)(u:Tok):Obj:=⟨.type "code",none,.fields (List.toArray [.str n t,.str q (t+1),.str "/claim/cut.py" (t+2),.int l 0,.int a 0,.int b 0,.int c 0,.int d 0,.ref r,.bool true,.int e 0,.ref f,.none,.ref g,.ref h,.ref i,.int z 0,.int l 0,.str "/claim/cut.py" u]),#[]⟩
def spl:List (Params→Obj)→List (Params→Obj)×List (Params→Obj)
 | []=>([],[])
 | [a]=>([a],[])
 | a::b::r=>(a::(spl r).1,b::(spl r).2)
def mkT(P:Params):Nat→List (Params→Obj)→BT
 | 0,_=>.nil
 | _+1,[]=>.nil
 | n+1,x::r=>.node (x P) (mkT P n (spl r).1) (mkT P n (spl r).2)
noncomputable def o0:OO:=λP=>⟨(.type "dict"),none,(.dict (List.toArray [kE P "__name__" 1 (.str "builtins" 160),kE P "__doc__" 2 (.builtin "builtins.__doc__:str#opaque"),kE P "__package__" 3 (.builtin "builtins.__package__:str#opaque"),kE P "__loader__" 4 (.builtin "builtins.__loader__:shared#opaque"),kE P "__spec__" 5 (.builtin "builtins.__spec__#opaque"),kE P "__build_class__" 6 (.builtin "__build_class__"),kE P "__import__" 7 (.builtin "__import__"),kE P "abs" 8 (.builtin "abs"),kE P "all" 9 (.builtin "all"),kE P "any" 10 (.builtin "any"),kE P "ascii" 11 (.builtin "ascii"),kE P "bin" 12 (.builtin "bin"),kE P "breakpoint" 13 (.builtin "breakpoint"),kE P "callable" 14 (.builtin "callable"),kE P "chr" 15 (.builtin "chr"),kE P "compile" 16 (.builtin "compile"),kE P "delattr" 17 (.builtin "delattr"),kE P "dir" 18 (.builtin "dir"),kE P "divmod" 19 (.builtin "divmod"),kE P "eval" 20 (.builtin "eval"),kE P "exec" 21 (.builtin "exec"),kE P "format" 22 (.builtin "format"),kE P "getattr" 23 (.builtin "getattr"),kE P "globals" 24 (.builtin "globals"),kE P "hasattr" 25 (.builtin "hasattr"),kE P "hash" 26 (.builtin "hash"),kE P "hex" 27 (.builtin "hex"),kE P "id" 28 (.builtin "id"),kE P "input" 29 (.builtin "input"),kE P "isinstance" 30 (.builtin "isinstance"),kE P "issubclass" 31 (.builtin "issubclass"),kE P "iter" 32 (.builtin "iter"),kE P "aiter" 33 (.builtin "aiter"),kE P "len" 34 (.builtin "len"),kE P "locals" 35 (.builtin "locals"),kE P "max" 36 (.builtin "max"),kE P "min" 37 (.builtin "min"),kE P "next" 38 (.builtin "next"),kE P "anext" 39 (.builtin "anext"),kE P "oct" 40 (.builtin "oct"),kE P "ord" 41 (.builtin "ord"),kE P "pow" 42 (.builtin "pow"),kE P "print" 43 (.builtin "print"),kE P "repr" 44 (.builtin "repr"),kE P "round" 45 (.builtin "round"),kE P "setattr" 46 (.builtin "setattr"),kE P "sorted" 47 (.builtin "sorted"),kE P "sum" 48 (.builtin "sum"),kE P "vars" 49 (.builtin "vars"),kE P "None" 50 .none,kE P "Ellipsis" 51 .ellipsis,kE P "NotImplemented" 52 .notImplemented,kE P "False" 53 (.bool false),kE P "True" 54 (.bool true),kE P "bool" 55 (.type "bool"),kE P "memoryview" 56 (.type "memoryview"),kE P "bytearray" 57 (.type "bytearray"),kE P "bytes" 58 (.type "bytes"),kE P "classmethod" 59 (.type "classmethod"),kE P "complex" 60 (.type "complex"),kE P "dict" 61 (.type "dict"),kE P "enumerate" 62 (.type "enumerate"),kE P "filter" 63 (.type "filter"),kE P "float" 64 (.type "float"),kE P "frozenset" 65 (.type "frozenset"),kE P "property" 66 (.type "property"),kE P "int" 67 (.type "int"),kE P "list" 68 (.type "list"),kE P "map" 69 (.type "map"),kE P "object" 70 (.type "object"),kE P "range" 71 (.type "range"),kE P "reversed" 72 (.type "reversed"),kE P "set" 73 (.type "set"),kE P "slice" 74 (.type "slice"),kE P "staticmethod" 75 (.type "staticmethod"),kE P "str" 76 (.type "str"),kE P "super" 77 (.type "super"),kE P "tuple" 78 (.type "tuple"),kE P "type" 79 (.type "type"),kE P "zip" 80 (.type "zip"),kE P "__debug__" 81 (.bool true),kE P "BaseException" 82 (.type "BaseException"),kE P "BaseExceptionGroup" 83 (.type "BaseExceptionGroup"),kE P "Exception" 84 (.type "Exception"),kE P "GeneratorExit" 85 (.type "GeneratorExit"),kE P "KeyboardInterrupt" 86 (.type "KeyboardInterrupt"),kE P "SystemExit" 87 (.type "SystemExit"),kE P "ArithmeticError" 88 (.type "ArithmeticError"),kE P "AssertionError" 89 (.type "AssertionError"),kE P "AttributeError" 90 (.type "AttributeError"),kE P "BufferError" 91 (.type "BufferError"),kE P "EOFError" 92 (.type "EOFError"),kE P "ImportError" 93 (.type "ImportError"),kE P "LookupError" 94 (.type "LookupError"),kE P "MemoryError" 95 (.type "MemoryError"),kE P "NameError" 96 (.type "NameError"),kE P "OSError" 97 (.type "OSError"),kE P "ReferenceError" 98 (.type "ReferenceError"),kE P "RuntimeError" 99 (.type "RuntimeError"),kE P "StopAsyncIteration" 100 (.type "StopAsyncIteration"),kE P "StopIteration" 101 (.type "StopIteration"),kE P "SyntaxError" 102 (.type "SyntaxError"),kE P "SystemError" 103 (.type "SystemError"),kE P "TypeError" 104 (.type "TypeError"),kE P "ValueError" 105 (.type "ValueError"),kE P "Warning" 106 (.type "Warning"),kE P "FloatingPointError" 107 (.type "FloatingPointError"),kE P "OverflowError" 108 (.type "OverflowError"),kE P "ZeroDivisionError" 109 (.type "ZeroDivisionError"),kE P "BytesWarning" 110 (.type "BytesWarning"),kE P "DeprecationWarning" 111 (.type "DeprecationWarning"),kE P "EncodingWarning" 112 (.type "EncodingWarning"),kE P "FutureWarning" 113 (.type "FutureWarning"),kE P "ImportWarning" 114 (.type "ImportWarning"),kE P "PendingDeprecationWarning" 115 (.type "PendingDeprecationWarning"),kE P "ResourceWarning" 116 (.type "ResourceWarning"),kE P "RuntimeWarning" 117 (.type "RuntimeWarning"),kE P "SyntaxWarning" 118 (.type "SyntaxWarning"),kE P "UnicodeWarning" 119 (.type "UnicodeWarning"),kE P "UserWarning" 120 (.type "UserWarning"),kE P "BlockingIOError" 121 (.type "BlockingIOError"),kE P "ChildProcessError" 122 (.type "ChildProcessError"),kE P "ConnectionError" 123 (.type "ConnectionError"),kE P "FileExistsError" 124 (.type "FileExistsError"),kE P "FileNotFoundError" 125 (.type "FileNotFoundError"),kE P "InterruptedError" 126 (.type "InterruptedError"),kE P "IsADirectoryError" 127 (.type "IsADirectoryError"),kE P "NotADirectoryError" 128 (.type "NotADirectoryError"),kE P "PermissionError" 129 (.type "PermissionError"),kE P "ProcessLookupError" 130 (.type "ProcessLookupError"),kE P "TimeoutError" 131 (.type "TimeoutError"),kE P "IndentationError" 132 (.type "IndentationError"),kE P "_IncompleteInputError" 133 (.type "_IncompleteInputError"),kE P "IndexError" 134 (.type "IndexError"),kE P "KeyError" 135 (.type "KeyError"),kE P "ModuleNotFoundError" 136 (.type "ModuleNotFoundError"),kE P "NotImplementedError" 137 (.type "NotImplementedError"),kE P "PythonFinalizationError" 138 (.type "PythonFinalizationError"),kE P "RecursionError" 139 (.type "RecursionError"),kE P "UnboundLocalError" 140 (.type "UnboundLocalError"),kE P "UnicodeError" 141 (.type "UnicodeError"),kE P "BrokenPipeError" 142 (.type "BrokenPipeError"),kE P "ConnectionAbortedError" 143 (.type "ConnectionAbortedError"),kE P "ConnectionRefusedError" 144 (.type "ConnectionRefusedError"),kE P "ConnectionResetError" 145 (.type "ConnectionResetError"),kE P "TabError" 146 (.type "TabError"),kE P "UnicodeDecodeError" 147 (.type "UnicodeDecodeError"),kE P "UnicodeEncodeError" 148 (.type "UnicodeEncodeError"),kE P "UnicodeTranslateError" 149 (.type "UnicodeTranslateError"),kE P "ExceptionGroup" 150 (.type "ExceptionGroup"),kE P "EnvironmentError" 151 (.type "OSError"),kE P "IOError" 152 (.type "OSError"),kE P "open" 153 (.builtin "open"),kE P "quit" 154 (.builtin "builtins.quit#opaque"),kE P "exit" 155 (.builtin "builtins.exit#opaque"),kE P "copyright" 156 (.builtin "builtins.copyright#opaque"),kE P "credits" 157 (.builtin "builtins.credits#opaque"),kE P "license" 158 (.builtin "builtins.license#opaque"),kE P "help" 159 (.builtin "builtins.help#opaque")]) 159),#[]⟩
noncomputable def o1:OO:=λP=>⟨(.type "dict"),none,(.dict (List.toArray [kE P "builtins" 162 (.ref 4),kE P "__main__" 163 (.ref 5)]) 2),#[]⟩
noncomputable def o2:OO:=λ_=>⟨.none,none,(.dict #[] 0),#[]⟩
noncomputable def o3:OO:=λP=>⟨(.type "dict"),none,(.dict (List.toArray [kE P "__name__" 165 (.str "__main__" 164),kE P "__doc__" 166 .none,kE P "__package__" 167 .none,kE P "__loader__" 168 (.builtin "__main__.__loader__#opaque"),kE P "__spec__" 169 .none,kE P "__annotations__" 170 (.ref 6),kE P "__builtins__" 171 (.ref 4),kE P "__file__" 173 (.str "/claim/cut.py" 172),kE P "__cached__" 174 .none]) 9),#[]⟩
noncomputable def o4:OO:=λ_=>⟨(.type "module"),(.some 0),.plain,#[]⟩
noncomputable def o5:OO:=λ_=>⟨(.type "module"),(.some 3),.plain,#[]⟩
noncomputable def o6:OO:=λ_=>⟨(.type "dict"),none,(.dict #[] 0),#[]⟩
noncomputable def o7:OO:=λ_=>⟨(.type "tuple"),none,(.seq #[] 0),#[]⟩
noncomputable def o8:OO:=λ_=>⟨.none,none,(.fields #[]),#[]⟩
noncomputable def o9:OO:=λ_=>⟨(.type "code"),none,(.fields (List.toArray [(.str "<module>" 176),(.str "<module>" 177),(.str "/claim/cut.py" 178),(.int 1 0),(.int 0 0),(.int 0 0),(.int 0 0),(.int 0 0),(.ref 7),(.bool false),(.int 175 0),(.ref 8),.none,.none,.none,.none,(.int 179 0),(.int 1 0),(.str "/claim/cut.py" 180)])),#[]⟩
noncomputable def o10:OO:=λ_=>⟨(.type "frame"),none,.plain,(List.toArray [(.some (.ref 9)),(.some (.ref 3)),(.some (.ref 3)),none,(.some (.str "__main__" 164)),none,(.some (.ref 0))])⟩
noncomputable def o11:OO:=λ_=>⟨(.type "code"),none,(.fields (List.toArray [(.str "<module>" 182),(.str "<module>" 183),(.str "/claim/cut.py" 184),(.int 1 0),(.int 0 0),(.int 0 0),(.int 0 0),(.int 0 0),(.ref 11),(.bool false),(.int 181 0),(.ref 12),.none,.none,.none,.none,(.int 185 0),(.int 1 0),(.str "/claim/cut.py" 186)])),#[]⟩
noncomputable def o12:OO:=λ_=>⟨(.type "frame"),none,.plain,(List.toArray [(.some (.ref 13)),(.some (.ref 3)),(.some (.ref 3)),none,(.some (.str "__main__" 164)),none,(.some (.ref 0))])⟩
noncomputable def o13:OO:=λP=>⟨(.type "dict"),none,(.dict (List.toArray [kE P "__name__" 165 (.str "law_stillheap_k41_forwards_left" 454),kE P "__doc__" 166 .none,kE P "__package__" 167 .none,kE P "__loader__" 168 (.builtin "__main__.__loader__#opaque"),kE P "__spec__" 169 .none,kE P "__annotations__" 170 (.ref 6),kE P "__builtins__" 171 (.ref 4),kE P "__file__" 173 (.str "/claim/cut.py" 172),kE P "__cached__" 174 .none,kE P "_wall" 193 (.ref 21),kE P "HeapError" 228 (.ref 45),kE P "NoRoom" 251 (.ref 65),kE P "BadAddress" 274 (.ref 84),kE P "kind_of" 283 (.ref 93),kE P "lay" 297 (.ref 100),kE P "thing_at" 303 (.ref 105),kE P "fields_at" 311 (.ref 112),kE P "fields_told" 321 (.ref 119),kE P "look_at_room" 330 (.ref 126),kE P "copied" 338 (.ref 131),kE P "things_met" 350 (.ref 138),kE P "address_told" 357 (.ref 145),kE P "words_among" 363 (.ref 150),kE P "places_from" 374 (.ref 157),kE P "told_anew" 383 (.ref 164),kE P "Memory" 453 (.ref 216),kE P "_law_cell" 463 (.ref 227),kE P "_law_digits" 474 (.ref 234),kE P "_law_stream" 480 (.ref 239),kE P "_law_word_by" 488 (.ref 246),kE P "_law_built" 494 (.ref 251),kE P "_law_memory" 508 (.ref 258),kE P "_law_words" 514 (.ref 263),kE P "_law_met" 530 (.ref 270),kE P "_law_pairs" 544 (.ref 277),kE P "_law_anew" 552 (.ref 284),kE P "law" 570 (.ref 291)]) 37),#[]⟩
noncomputable def o14:OO:=λ_=>⟨.none,none,(.fields (List.toArray [(.int 1 0),(.int 0 0),(.ref 20),(.int 5 0),(.int 0 0),(.ref 27),(.int 12 0),(.int 0 0),(.ref 54),(.int 16 0),(.int 0 0),(.ref 73),(.int 21 0),(.int 0 0),(.ref 92),(.int 24 0),(.int 0 0),(.ref 99),(.int 29 0),(.int 0 0),(.ref 104),(.int 32 0),(.int 0 0),(.ref 111),(.int 34 0),(.int 0 0),(.ref 118),(.int 40 0),(.int 0 0),(.ref 125),(.int 44 0),(.int 0 0),(.ref 130),(.int 55 0),(.int 0 0),(.ref 137),(.int 66 0),(.int 0 0),(.ref 144),(.int 72 0),(.int 0 0),(.ref 149),(.int 74 0),(.int 0 0),(.ref 156),(.int 81 0),(.int 0 0),(.ref 163),(.int 85 0),(.int 0 0),(.ref 170),(.int 108 0),(.int 0 0),(.ref 226),(.int 112 0),(.int 0 0),(.ref 233),(.int 124 0),(.int 0 0),(.ref 238),(.int 131 0),(.int 0 0),(.ref 245),(.int 137 0),(.int 0 0),(.ref 250),(.int 155 0),(.int 0 0),(.ref 257),(.int 162 0),(.int 0 0),(.ref 262),(.int 164 0),(.int 0 0),(.ref 269),(.int 180 0),(.int 0 0),(.ref 276),(.int 189 0),(.int 0 0),(.ref 283),(.int 193 0),(.int 0 0),(.ref 290)])),#[]⟩
noncomputable def o15:OO:=λ_=>oT [(.str "k" 190)]
noncomputable def o16:OO:=λ_=>oG "_wall" "_wall" (top 0)
noncomputable def o17:OO:=λ_=>oC "_wall" 187 "_wall" 1 1 0 0 3 15 181 16 17 18 19 191 192
noncomputable def o18:OO:=λ_=>oF "_wall" "_wall" (top 0) (.str "__main__" 164) 20
noncomputable def o19:OO:=λ_=>oT [(.type "ValueError")]
noncomputable def o20:OO:=λ_=>⟨(.type "builtin_function_or_method"),none,(.fields (List.toArray [(.builtin "type.__prepare__"),(.type "type")])),#[]⟩
noncomputable def o21:OO:=λP=>⟨(.type "dict"),none,(.dict (List.toArray [kE P "__module__" 203 (.str "stillheap.errors" 194),kE P "__qualname__" 205 (.str "HeapError" 204),kE P "__firstlineno__" 207 (.int 5 206),kE P "__init__" 215 (.ref 35),kE P "called" 222 (.ref 42),kE P "__static_attributes__" 223 (.ref 43)]) 6),#[]⟩
noncomputable def o22:OO:=λ_=>⟨.none,none,(.fields (List.toArray [(.int 7 0),(.int 4 0),(.ref 34),(.int 10 0),(.int 4 0),(.ref 41)])),#[]⟩
noncomputable def o23:OO:=λ_=>⟨(.type "code"),none,(.fields (List.toArray [(.str "HeapError" 198),(.str "HeapError" 199),(.str "/claim/cut.py" 200),(.int 5 0),(.int 0 0),(.int 0 0),(.int 0 0),(.int 0 0),(.ref 25),(.bool false),(.int 181 0),(.ref 26),.none,.none,.none,.none,(.int 201 0),(.int 5 0),(.str "/claim/cut.py" 202)])),#[]⟩
noncomputable def o24:OO:=λ_=>⟨(.type "frame"),none,.plain,(List.toArray [(.some (.ref 27)),(.some (.ref 3)),(.some (.ref 24)),none,(.some (.str "stillheap.errors" 194)),none,(.some (.ref 0))])⟩
noncomputable def o25:OO:=λ_=>oT [(.str "self" 211),(.str "text" 212)]
noncomputable def o26:OO:=λ_=>oG "__init__" "HeapError.__init__" (inClass (top 2) 0)
noncomputable def o27:OO:=λ_=>oC "__init__" 208 "HeapError.__init__" 7 2 0 0 3 29 181 30 31 32 33 213 214
noncomputable def o28:OO:=λ_=>oF "__init__" "HeapError.__init__" (inClass (top 2) 0) (.str "stillheap.errors" 194) 34
noncomputable def o29:OO:=λ_=>oT [(.str "self" 219)]
noncomputable def o30:OO:=λ_=>oG "called" "HeapError.called" (inClass (top 2) 1)
noncomputable def o31:OO:=λ_=>oC "called" 216 "HeapError.called" 10 1 0 0 3 36 181 37 38 39 40 220 221
noncomputable def o32:OO:=λ_=>oF "called" "HeapError.called" (inClass (top 2) 1) (.str "stillheap.errors" 194) 41
noncomputable def o33:OO:=λP=>⟨(.type "dict"),none,(.dict (List.toArray [kE P "__module__" 203 (.str "stillheap.errors" 194),kE P "__firstlineno__" 207 (.int 5 206),kE P "__init__" 215 (.ref 35),kE P "called" 222 (.ref 42),kE P "__static_attributes__" 223 (.ref 43),kE P "__weakref__" 225 (.ref 46),kE P "__doc__" 226 .none]) 3),#[]⟩
noncomputable def o34:OO:=λ_=>⟨(.type "type"),none,(.cls ⟨"HeapError",[(.type "ValueError")],[(.ref 45),(.type "ValueError"),(.type "Exception"),(.type "BaseException"),(.type "object")],44, "HeapError",true,[],[(.ref 65),(.ref 84)],false,none,false⟩),(List.toArray [(.some (.ref 22)),none,(.some (.str "HeapError" 196)),(.some (.str "HeapError" 204)),(.some (.builtin "ValueError.__new__")),(.some (.bool true))])⟩
noncomputable def o35:OO:=λ_=>⟨(.type "getset_descriptor"),none,(.fields (List.toArray [(.str "__weakref__" 224),(.ref 45),(.builtin "ExceptionGroup.__weakref__"),.none])),#[]⟩
noncomputable def o36:OO:=λ_=>⟨(.type "super"),none,(.fields (List.toArray [(.ref 45),(.ref 45),(.ref 45)])),#[]⟩
noncomputable def o37:OO:=λ_=>⟨(.type "builtin_function_or_method"),none,(.fields (List.toArray [(.builtin "object.__init_subclass__"),(.ref 45)])),#[]⟩
noncomputable def o38:OO:=λ_=>oT [(.ref 45)]
noncomputable def o39:OO:=λP=>⟨(.type "dict"),none,(.dict (List.toArray [kE P "__module__" 236 (.str "stillheap.errors" 194),kE P "__qualname__" 238 (.str "NoRoom" 237),kE P "__firstlineno__" 240 (.int 12 239),kE P "called" 247 (.ref 62),kE P "__static_attributes__" 248 (.ref 63)]) 5),#[]⟩
noncomputable def o40:OO:=λ_=>⟨.none,none,(.fields (List.toArray [(.int 14 0),(.int 4 0),(.ref 61)])),#[]⟩
noncomputable def o41:OO:=λ_=>⟨(.type "code"),none,(.fields (List.toArray [(.str "NoRoom" 231),(.str "NoRoom" 232),(.str "/claim/cut.py" 233),(.int 12 0),(.int 0 0),(.int 0 0),(.int 0 0),(.int 0 0),(.ref 52),(.bool false),(.int 181 0),(.ref 53),.none,.none,.none,.none,(.int 234 0),(.int 12 0),(.str "/claim/cut.py" 235)])),#[]⟩
noncomputable def o42:OO:=λ_=>⟨(.type "frame"),none,.plain,(List.toArray [(.some (.ref 54)),(.some (.ref 3)),(.some (.ref 51)),none,(.some (.str "stillheap.errors" 194)),none,(.some (.ref 0))])⟩
noncomputable def o43:OO:=λ_=>oT [(.str "self" 244)]
noncomputable def o44:OO:=λ_=>oG "called" "NoRoom.called" (inClass (top 3) 0)
noncomputable def o45:OO:=λ_=>oC "called" 241 "NoRoom.called" 14 1 0 0 3 56 181 57 58 59 60 245 246
noncomputable def o46:OO:=λ_=>oF "called" "NoRoom.called" (inClass (top 3) 0) (.str "stillheap.errors" 194) 61
noncomputable def o47:OO:=λP=>⟨(.type "dict"),none,(.dict (List.toArray [kE P "__module__" 236 (.str "stillheap.errors" 194),kE P "__firstlineno__" 240 (.int 12 239),kE P "called" 247 (.ref 62),kE P "__static_attributes__" 248 (.ref 63),kE P "__doc__" 249 .none]) 2),#[]⟩
noncomputable def o48:OO:=λ_=>⟨(.type "type"),none,(.cls ⟨"NoRoom",[(.ref 45)],[(.ref 65),(.ref 45),(.type "ValueError"),(.type "Exception"),(.type "BaseException"),(.type "object")],64, "NoRoom",true,[],[],false,none,false⟩),(List.toArray [(.some (.ref 49)),none,(.some (.str "NoRoom" 229)),(.some (.str "NoRoom" 237)),(.some (.builtin "ValueError.__new__")),(.some (.bool true))])⟩
noncomputable def o49:OO:=λ_=>⟨(.type "super"),none,(.fields (List.toArray [(.ref 65),(.ref 65),(.ref 65)])),#[]⟩
noncomputable def o50:OO:=λ_=>⟨(.type "builtin_function_or_method"),none,(.fields (List.toArray [(.builtin "object.__init_subclass__"),(.ref 65)])),#[]⟩
noncomputable def o51:OO:=λP=>⟨(.type "dict"),none,(.dict (List.toArray [kE P "__module__" 259 (.str "stillheap.errors" 194),kE P "__qualname__" 261 (.str "BadAddress" 260),kE P "__firstlineno__" 263 (.int 16 262),kE P "called" 270 (.ref 81),kE P "__static_attributes__" 271 (.ref 82)]) 5),#[]⟩
noncomputable def o52:OO:=λ_=>⟨.none,none,(.fields (List.toArray [(.int 18 0),(.int 4 0),(.ref 80)])),#[]⟩
noncomputable def o53:OO:=λ_=>⟨(.type "code"),none,(.fields (List.toArray [(.str "BadAddress" 254),(.str "BadAddress" 255),(.str "/claim/cut.py" 256),(.int 16 0),(.int 0 0),(.int 0 0),(.int 0 0),(.int 0 0),(.ref 71),(.bool false),(.int 181 0),(.ref 72),.none,.none,.none,.none,(.int 257 0),(.int 16 0),(.str "/claim/cut.py" 258)])),#[]⟩
noncomputable def o54:OO:=λ_=>⟨(.type "frame"),none,.plain,(List.toArray [(.some (.ref 73)),(.some (.ref 3)),(.some (.ref 70)),none,(.some (.str "stillheap.errors" 194)),none,(.some (.ref 0))])⟩
noncomputable def o55:OO:=λ_=>oT [(.str "self" 267)]
noncomputable def o56:OO:=λ_=>oG "called" "BadAddress.called" (inClass (top 4) 0)
noncomputable def o57:OO:=λ_=>oC "called" 264 "BadAddress.called" 18 1 0 0 3 75 181 76 77 78 79 268 269
noncomputable def o58:OO:=λ_=>oF "called" "BadAddress.called" (inClass (top 4) 0) (.str "stillheap.errors" 194) 80
noncomputable def o59:OO:=λP=>⟨(.type "dict"),none,(.dict (List.toArray [kE P "__module__" 259 (.str "stillheap.errors" 194),kE P "__firstlineno__" 263 (.int 16 262),kE P "called" 270 (.ref 81),kE P "__static_attributes__" 271 (.ref 82),kE P "__doc__" 272 .none]) 2),#[]⟩
noncomputable def o60:OO:=λ_=>⟨(.type "type"),none,(.cls ⟨"BadAddress",[(.ref 45)],[(.ref 84),(.ref 45),(.type "ValueError"),(.type "Exception"),(.type "BaseException"),(.type "object")],83, "BadAddress",true,[],[],false,none,false⟩),(List.toArray [(.some (.ref 68)),none,(.some (.str "BadAddress" 252)),(.some (.str "BadAddress" 260)),(.some (.builtin "ValueError.__new__")),(.some (.bool true))])⟩
noncomputable def o61:OO:=λ_=>⟨(.type "super"),none,(.fields (List.toArray [(.ref 84),(.ref 84),(.ref 84)])),#[]⟩
noncomputable def o62:OO:=λ_=>⟨(.type "builtin_function_or_method"),none,(.fields (List.toArray [(.builtin "object.__init_subclass__"),(.ref 84)])),#[]⟩
noncomputable def o63:OO:=λ_=>oT [(.str "value" 280)]
noncomputable def o64:OO:=λ_=>oG "kind_of" "kind_of" (top 6)
noncomputable def o65:OO:=λ_=>oC "kind_of" 277 "kind_of" 21 1 0 0 3 87 181 88 89 90 91 281 282
noncomputable def o66:OO:=λ_=>oF "kind_of" "kind_of" (top 6) (.str "stillheap.values" 275) 92
noncomputable def o67:OO:=λ_=>oT [(.str "memory" 289),(.str "a" 290),(.str "t" 291),(.str "values" 292),(.str "k" 293),(.str "value" 294)]
noncomputable def o68:OO:=λ_=>oG "lay" "lay" (top 8)
noncomputable def o69:OO:=λ_=>oC "lay" 286 "lay" 24 4 0 0 3 94 181 95 96 97 98 295 296
noncomputable def o70:OO:=λ_=>oF "lay" "lay" (top 8) (.str "stillheap.layout" 284) 99
noncomputable def o71:OO:=λ_=>oG "thing_at" "thing_at" (top 9)
noncomputable def o72:OO:=λ_=>⟨(.type "code"),none,(.fields (List.toArray [(.str "thing_at" 298),(.str "thing_at" 299),(.str "/claim/cut.py" 300),(.int 29 0),(.int 2 0),(.int 0 0),(.int 0 0),(.int 3 0),(.ref 101),(.bool true),(.int 181 0),(.ref 102),.none,.none,.none,(.ref 103),(.int 301 0),(.int 29 0),(.str "/claim/cut.py" 302)])),#[]⟩
noncomputable def o73:OO:=λ_=>oF "thing_at" "thing_at" (top 9) (.str "stillheap.layout" 284) 104
noncomputable def o74:OO:=λ_=>oT [(.str "memory" 307),(.str "a" 308)]
noncomputable def o75:OO:=λ_=>oG "fields_at" "fields_at" (top 10)
noncomputable def o76:OO:=λ_=>oC "fields_at" 304 "fields_at" 32 2 0 0 3 106 181 107 108 109 110 309 310
noncomputable def o77:OO:=λ_=>oF "fields_at" "fields_at" (top 10) (.str "stillheap.layout" 284) 111
noncomputable def o78:OO:=λ_=>oT [(.str "memory" 315),(.str "a" 316),(.str "kinds" 317),(.str "word" 318)]
noncomputable def o79:OO:=λ_=>oG "fields_told" "fields_told" (top 11)
noncomputable def o80:OO:=λ_=>oC "fields_told" 312 "fields_told" 34 3 0 0 3 113 181 114 115 116 117 319 320
noncomputable def o81:OO:=λ_=>oF "fields_told" "fields_told" (top 11) (.str "stillheap.layout" 284) 118
noncomputable def o82:OO:=λ_=>oT [(.str "memory" 325),(.str "a" 326),(.str "fields" 327)]
noncomputable def o83:OO:=λ_=>oG "look_at_room" "look_at_room" (top 12)
noncomputable def o84:OO:=λ_=>oC "look_at_room" 322 "look_at_room" 40 3 0 0 3 120 181 121 122 123 124 328 329
noncomputable def o85:OO:=λ_=>oF "look_at_room" "look_at_room" (top 12) (.str "stillheap.layout" 284) 125
noncomputable def o86:OO:=λ_=>oG "copied" "copied" (top 14)
noncomputable def o87:OO:=λ_=>⟨(.type "code"),none,(.fields (List.toArray [(.str "copied" 333),(.str "copied" 334),(.str "/claim/cut.py" 335),(.int 44 0),(.int 4 0),(.int 0 0),(.int 0 0),(.int 3 0),(.ref 127),(.bool true),(.int 181 0),(.ref 128),.none,.none,.none,(.ref 129),(.int 336 0),(.int 44 0),(.str "/claim/cut.py" 337)])),#[]⟩
noncomputable def o88:OO:=λ_=>oF "copied" "copied" (top 14) (.str "stillheap.copying" 331) 130
noncomputable def o89:OO:=λ_=>oT [(.str "source" 342),(.str "roots" 343),(.str "things" 344),(.str "words" 345),(.str "done" 346),(.str "a" 347)]
noncomputable def o90:OO:=λ_=>oG "things_met" "things_met" (top 15)
noncomputable def o91:OO:=λ_=>oC "things_met" 339 "things_met" 55 2 0 0 3 132 181 133 134 135 136 348 349
noncomputable def o92:OO:=λ_=>oF "things_met" "things_met" (top 15) (.str "stillheap.copying" 331) 137
noncomputable def o93:OO:=λ_=>oT [(.str "word" 354)]
noncomputable def o94:OO:=λ_=>oG "address_told" "address_told" (top 16)
noncomputable def o95:OO:=λ_=>oC "address_told" 351 "address_told" 66 1 0 0 3 139 181 140 141 142 143 355 356
noncomputable def o96:OO:=λ_=>oF "address_told" "address_told" (top 16) (.str "stillheap.copying" 331) 144
noncomputable def o97:OO:=λ_=>oG "words_among" "words_among" (top 17)
noncomputable def o98:OO:=λ_=>⟨(.type "code"),none,(.fields (List.toArray [(.str "words_among" 358),(.str "words_among" 359),(.str "/claim/cut.py" 360),(.int 72 0),(.int 1 0),(.int 0 0),(.int 0 0),(.int 3 0),(.ref 146),(.bool true),(.int 181 0),(.ref 147),.none,.none,.none,(.ref 148),(.int 361 0),(.int 72 0),(.str "/claim/cut.py" 362)])),#[]⟩
noncomputable def o99:OO:=λ_=>oF "words_among" "words_among" (top 17) (.str "stillheap.copying" 331) 149
noncomputable def xP:OO:=λ_=>oT [(.str "first" 367),(.str "things" 368),(.str "places" 369),(.str "place" 370),(.str "a" 371)]
noncomputable def Am:OO:=λ_=>oG "places_from" "places_from" (top 18)
noncomputable def xQ:OO:=λ_=>oC "places_from" 364 "places_from" 74 2 0 0 3 151 181 152 153 154 155 372 373
noncomputable def xR:OO:=λ_=>oF "places_from" "places_from" (top 18) (.str "stillheap.copying" 331) 156
noncomputable def xS:OO:=λ_=>oT [(.str "word" 378),(.str "places" 379),(.str "a" 380)]
noncomputable def An:OO:=λ_=>oG "told_anew" "told_anew" (top 19)
noncomputable def xT:OO:=λ_=>oC "told_anew" 375 "told_anew" 81 2 0 0 3 158 181 159 160 161 162 381 382
noncomputable def xU:OO:=λ_=>oF "told_anew" "told_anew" (top 19) (.str "stillheap.copying" 331) 163
noncomputable def Ao:OO:=λP=>⟨(.type "dict"),none,(.dict (List.toArray [kE P "__module__" 393 (.str "stillheap.memory" 384),kE P "__qualname__" 395 (.str "Memory" 394),kE P "__firstlineno__" 397 (.int 85 396),kE P "__init__" 405 (.ref 178),kE P "size" 412 (.ref 185),kE P "at" 420 (.ref 192),kE P "put" 429 (.ref 199),kE P "copy_of" 436 (.ref 206),kE P "look_at_address" 444 (.ref 213),kE P "__static_attributes__" 446 (.ref 214)]) 10),#[]⟩
noncomputable def Ap:OO:=λ_=>⟨.none,none,(.fields (List.toArray [(.int 87 0),(.int 4 0),(.ref 177),(.int 90 0),(.int 4 0),(.ref 184),(.int 93 0),(.int 4 0),(.ref 191),(.int 97 0),(.int 4 0),(.ref 198),(.int 101 0),(.int 4 0),(.ref 205),(.int 104 0),(.int 4 0),(.ref 212)])),#[]⟩
noncomputable def Aq:OO:=λ_=>⟨(.type "code"),none,(.fields (List.toArray [(.str "Memory" 388),(.str "Memory" 389),(.str "/claim/cut.py" 390),(.int 85 0),(.int 0 0),(.int 0 0),(.int 0 0),(.int 0 0),(.ref 168),(.bool false),(.int 181 0),(.ref 169),.none,.none,.none,.none,(.int 391 0),(.int 85 0),(.str "/claim/cut.py" 392)])),#[]⟩
noncomputable def Ar:OO:=λ_=>⟨(.type "frame"),none,.plain,(List.toArray [(.some (.ref 170)),(.some (.ref 3)),(.some (.ref 167)),none,(.some (.str "stillheap.memory" 384)),none,(.some (.ref 0))])⟩
noncomputable def xV:OO:=λ_=>oT [(.str "self" 401),(.str "size" 402)]
noncomputable def As:OO:=λ_=>oG "__init__" "Memory.__init__" (inClass (top 21) 0)
noncomputable def xW:OO:=λ_=>oC "__init__" 398 "Memory.__init__" 87 2 0 0 3 172 181 173 174 175 176 403 404
noncomputable def xX:OO:=λ_=>oF "__init__" "Memory.__init__" (inClass (top 21) 0) (.str "stillheap.memory" 384) 177
noncomputable def xY:OO:=λ_=>oT [(.str "self" 409)]
noncomputable def Au:OO:=λ_=>oG "size" "Memory.size" (inClass (top 21) 1)
noncomputable def xZ:OO:=λ_=>oC "size" 406 "Memory.size" 90 1 0 0 3 179 181 180 181 182 183 410 411
noncomputable def x8:OO:=λ_=>oF "size" "Memory.size" (inClass (top 21) 1) (.str "stillheap.memory" 384) 184
noncomputable def x9:OO:=λ_=>oT [(.str "self" 416),(.str "a" 417)]
noncomputable def Av:OO:=λ_=>oG "at" "Memory.at" (inClass (top 21) 2)
noncomputable def ya:OO:=λ_=>oC "at" 413 "Memory.at" 93 2 0 0 3 186 181 187 188 189 190 418 419
noncomputable def yb:OO:=λ_=>oF "at" "Memory.at" (inClass (top 21) 2) (.str "stillheap.memory" 384) 191
noncomputable def yc:OO:=λ_=>oT [(.str "self" 424),(.str "a" 425),(.str "word" 426)]
noncomputable def Aw:OO:=λ_=>oG "put" "Memory.put" (inClass (top 21) 3)
noncomputable def yd:OO:=λ_=>oC "put" 421 "Memory.put" 97 3 0 0 3 193 181 194 195 196 197 427 428
noncomputable def ye:OO:=λ_=>oF "put" "Memory.put" (inClass (top 21) 3) (.str "stillheap.memory" 384) 198
noncomputable def yf:OO:=λ_=>oT [(.str "self" 433)]
noncomputable def Ax:OO:=λ_=>oG "copy_of" "Memory.copy_of" (inClass (top 21) 4)
noncomputable def yg:OO:=λ_=>oC "copy_of" 430 "Memory.copy_of" 101 1 0 0 3 200 181 201 202 203 204 434 435
noncomputable def yh:OO:=λ_=>oF "copy_of" "Memory.copy_of" (inClass (top 21) 4) (.str "stillheap.memory" 384) 205
noncomputable def yi:OO:=λ_=>oT [(.str "self" 440),(.str "a" 441)]
noncomputable def Ay:OO:=λ_=>oG "look_at_address" "Memory.look_at_address" (inClass (top 21) 5)
noncomputable def yj:OO:=λ_=>oC "look_at_address" 437 "Memory.look_at_address" 104 2 0 0 3 207 181 208 209 210 211 442 443
noncomputable def yk:OO:=λ_=>oF "look_at_address" "Memory.look_at_address" (inClass (top 21) 5) (.str "stillheap.memory" 384) 212
noncomputable def yl:OO:=λ_=>oT [(.str "cells" 445)]
noncomputable def ym:OO:=λP=>⟨(.type "dict"),none,(.dict (List.toArray [kE P "__module__" 393 (.str "stillheap.memory" 384),kE P "__firstlineno__" 397 (.int 85 396),kE P "__init__" 405 (.ref 178),kE P "size" 412 (.ref 185),kE P "at" 420 (.ref 192),kE P "put" 429 (.ref 199),kE P "copy_of" 436 (.ref 206),kE P "look_at_address" 444 (.ref 213),kE P "__static_attributes__" 446 (.ref 214),kE P "__dict__" 448 (.ref 217),kE P "__weakref__" 450 (.ref 218),kE P "__doc__" 451 .none]) 4),#[]⟩
noncomputable def yn:OO:=λ_=>⟨(.type "type"),none,(.cls ⟨"Memory",[(.type "object")],[(.ref 216),(.type "object")],215, "Memory",true,[],[],false,none,false⟩),(List.toArray [none,none,(.some (.str "Memory" 386)),(.some (.str "Memory" 394)),(.some (.builtin "object.__new__")),(.some (.bool true))])⟩
noncomputable def yo:OO:=λ_=>⟨(.type "getset_descriptor"),none,(.fields (List.toArray [(.str "__dict__" 447),(.ref 216),(.builtin "function.__dict__"),(.builtin "function.__dict__#set")])),#[]⟩
noncomputable def yp:OO:=λ_=>⟨(.type "getset_descriptor"),none,(.fields (List.toArray [(.str "__weakref__" 449),(.ref 216),(.builtin "ExceptionGroup.__weakref__"),.none])),#[]⟩
noncomputable def Az:OO:=λ_=>⟨(.type "super"),none,(.fields (List.toArray [(.ref 216),(.ref 216),(.ref 216)])),#[]⟩
noncomputable def AA:OO:=λ_=>⟨(.type "builtin_function_or_method"),none,(.fields (List.toArray [(.builtin "object.__init_subclass__"),(.ref 216)])),#[]⟩
noncomputable def yq:OO:=λ_=>oT [(.str "script" 459),(.str "k" 460)]
noncomputable def AB:OO:=λ_=>oG "_law_cell" "_law_cell" (top 23)
noncomputable def yr:OO:=λ_=>oC "_law_cell" 456 "_law_cell" 108 2 0 0 3 221 181 222 223 224 225 461 462
noncomputable def yt:OO:=λ_=>oF "_law_cell" "_law_cell" (top 23) (.str "law_stillheap_k41_forwards_left" 454) 226
noncomputable def yu:OO:=λ_=>oT [(.str "cell" 467),(.str "rest" 468),(.str "told" 469),(.str "k" 470),(.str "near" 471)]
noncomputable def AD:OO:=λ_=>oG "_law_digits" "_law_digits" (top 24)
noncomputable def yv:OO:=λ_=>oC "_law_digits" 464 "_law_digits" 112 1 0 0 3 228 181 229 230 231 232 472 473
noncomputable def yw:OO:=λ_=>oF "_law_digits" "_law_digits" (top 24) (.str "law_stillheap_k41_forwards_left" 454) 233
noncomputable def AE:OO:=λ_=>oG "_law_stream" "_law_stream" (top 25)
noncomputable def yx:OO:=λ_=>⟨(.type "code"),none,(.fields (List.toArray [(.str "_law_stream" 475),(.str "_law_stream" 476),(.str "/claim/cut.py" 477),(.int 124 0),(.int 2 0),(.int 0 0),(.int 0 0),(.int 3 0),(.ref 235),(.bool true),(.int 181 0),(.ref 236),.none,.none,.none,(.ref 237),(.int 478 0),(.int 124 0),(.str "/claim/cut.py" 479)])),#[]⟩
noncomputable def yy:OO:=λ_=>oF "_law_stream" "_law_stream" (top 25) (.str "law_stillheap_k41_forwards_left" 454) 238
noncomputable def yz:OO:=λ_=>oT [(.str "number" 484),(.str "places" 485)]
noncomputable def AF:OO:=λ_=>oG "_law_word_by" "_law_word_by" (top 26)
noncomputable def yA:OO:=λ_=>oC "_law_word_by" 481 "_law_word_by" 131 2 0 0 3 240 181 241 242 243 244 486 487
noncomputable def yB:OO:=λ_=>oF "_law_word_by" "_law_word_by" (top 26) (.str "law_stillheap_k41_forwards_left" 454) 245
noncomputable def AG:OO:=λ_=>oG "_law_built" "_law_built" (top 27)
noncomputable def vc:OO:=λ_=>⟨(.type "code"),none,(.fields (List.toArray [(.str "_law_built" 489),(.str "_law_built" 490),(.str "/claim/cut.py" 491),(.int 137 0),(.int 1 0),(.int 0 0),(.int 0 0),(.int 3 0),(.ref 247),(.bool true),(.int 181 0),(.ref 248),.none,.none,.none,(.ref 249),(.int 492 0),(.int 137 0),(.str "/claim/cut.py" 493)])),#[]⟩
noncomputable def yC:OO:=λ_=>oF "_law_built" "_law_built" (top 27) (.str "law_stillheap_k41_forwards_left" 454) 250
noncomputable def yD:OO:=λ_=>oT [(.str "things" 498),(.str "size" 499),(.str "memory" 500),(.str "t" 501),(.str "a" 502),(.str "fields" 503),(.str "k" 504),(.str "word" 505)]
noncomputable def AH:OO:=λ_=>oG "_law_memory" "_law_memory" (top 28)
noncomputable def yE:OO:=λ_=>oC "_law_memory" 495 "_law_memory" 155 2 0 0 3 252 181 253 254 255 256 506 507
noncomputable def yF:OO:=λ_=>oF "_law_memory" "_law_memory" (top 28) (.str "law_stillheap_k41_forwards_left" 454) 257
noncomputable def AI:OO:=λ_=>oG "_law_words" "_law_words" (top 29)
noncomputable def yG:OO:=λ_=>⟨(.type "code"),none,(.fields (List.toArray [(.str "_law_words" 509),(.str "_law_words" 510),(.str "/claim/cut.py" 511),(.int 162 0),(.int 1 0),(.int 0 0),(.int 0 0),(.int 3 0),(.ref 259),(.bool true),(.int 181 0),(.ref 260),.none,.none,.none,(.ref 261),(.int 512 0),(.int 162 0),(.str "/claim/cut.py" 513)])),#[]⟩
noncomputable def yI:OO:=λ_=>oF "_law_words" "_law_words" (top 29) (.str "law_stillheap_k41_forwards_left" 454) 262
noncomputable def yJ:OO:=λ_=>oT [(.str "things" 518),(.str "roots" 519),(.str "at" 520),(.str "t" 521),(.str "a" 522),(.str "fields" 523),(.str "row" 524),(.str "left" 525),(.str "place" 526),(.str "word" 527)]
noncomputable def AJ:OO:=λ_=>oG "_law_met" "_law_met" (top 30)
noncomputable def yK:OO:=λ_=>oC "_law_met" 515 "_law_met" 164 2 0 0 3 264 181 265 266 267 268 528 529
noncomputable def yL:OO:=λ_=>oF "_law_met" "_law_met" (top 30) (.str "law_stillheap_k41_forwards_left" 454) 269
noncomputable def yM:OO:=λ_=>oT [(.str "things" 534),(.str "roots" 535),(.str "first" 536),(.str "at" 537),(.str "t" 538),(.str "a" 539),(.str "fields" 540),(.str "pairs" 541)]
noncomputable def AK:OO:=λ_=>oG "_law_pairs" "_law_pairs" (top 31)
noncomputable def yN:OO:=λ_=>oC "_law_pairs" 531 "_law_pairs" 180 3 0 0 3 271 181 272 273 274 275 542 543
noncomputable def yO:OO:=λ_=>oF "_law_pairs" "_law_pairs" (top 31) (.str "law_stillheap_k41_forwards_left" 454) 276
noncomputable def AL:OO:=λ_=>oT [(.str "word" 548),(.str "pairs" 549)]
noncomputable def AM:OO:=λ_=>oG "_law_anew" "_law_anew" (top 32)
noncomputable def AN:OO:=λ_=>oC "_law_anew" 545 "_law_anew" 189 2 0 0 3 278 181 279 280 281 282 550 551
noncomputable def AO:OO:=λ_=>oF "_law_anew" "_law_anew" (top 32) (.str "law_stillheap_k41_forwards_left" 454) 283
noncomputable def yP:OO:=λ_=>oT [(.str "script" 556),(.str "things" 557),(.str "roots" 558),(.str "size" 559),(.str "first" 560),(.str "pairs" 561),(.str "source" 562),(.str "due" 563),(.str "at" 564),(.str "t" 565),(.str "a" 566),(.str "fields" 567)]
noncomputable def AQ:OO:=λ_=>oG "law" "law" (top 33)
noncomputable def yQ:OO:=λ_=>oC "law" 553 "law" 193 1 0 0 3 285 181 286 287 288 289 568 569
noncomputable def yR:OO:=λ_=>oF "law" "law" (top 33) (.str "law_stillheap_k41_forwards_left" 454) 290
noncomputable def hTa(P:Params):BT:=mkT P 12 (o0::o1::o2::o3::o4::o5::o6::o7::o8::o9::o10::o7::o8::o11::o12::[])
noncomputable def hSa(w:World)(os:OsState):SharedT:=⟨hTa w.params,15,⟨[],[],[],0,[],[],false,(List.toArray []),[],0,false,false,false,0,[2000,10,10],false,0,true,[],[],0,false⟩,#[],⟨0,0,0,0⟩,187,os⟩
noncomputable def hTb(P:Params):BT:=mkT P 12 (o0::o1::o2::o3::o4::o5::o6::o7::o8::o9::o10::o7::o8::o11::o12::[])
noncomputable def hSb(w:World)(os:OsState):SharedT:=⟨hTb w.params,15,⟨[],[],[],0,[],[],false,(List.toArray []),[],0,false,false,false,0,[2000,10,10],false,0,true,[],[],0,false⟩,#[],⟨0,0,0,0⟩,187,os⟩
noncomputable def hT0(P:Params):BT:=mkT P 12 (o0::o1::o2::o13::o4::o5::o6::o7::o8::o9::o10::o7::o14::o11::o12::o7::o8::o15::o7::o16::o17::o18::o19::o20::o21::o7::o22::o23::o24::o7::o8::o25::o7::o26::o27::o28::o7::o8::o29::o7::o30::o31::o32::o7::o33::o34::o35::o36::o37::o38::o20::o39::o7::o40::o41::o42::o7::o8::o43::o7::o44::o45::o46::o7::o47::o48::o49::o50::o38::o20::o51::o7::o52::o53::o54::o7::o8::o55::o7::o56::o57::o58::o7::o59::o60::o61::o62::o7::o8::o63::o7::o64::o65::o66::o7::o8::o67::o7::o68::o69::o70::o7::o8::o71::o72::o73::o7::o8::o74::o7::o75::o76::o77::o7::o8::o78::o7::o79::o80::o81::o7::o8::o82::o7::o83::o84::o85::o7::o8::o86::o87::o88::o7::o8::o89::o7::o90::o91::o92::o7::o8::o93::o7::o94::o95::o96::o7::o8::o97::o98::o99::o7::o8::xP::o7::Am::xQ::xR::o7::o8::xS::o7::An::xT::xU::o7::o20::Ao::o7::Ap::Aq::Ar::o7::o8::xV::o7::As::xW::xX::o7::o8::xY::o7::Au::xZ::x8::o7::o8::x9::o7::Av::ya::yb::o7::o8::yc::o7::Aw::yd::ye::o7::o8::yf::o7::Ax::yg::yh::o7::o8::yi::o7::Ay::yj::yk::yl::ym::yn::yo::yp::Az::AA::o7::o8::yq::o7::AB::yr::yt::o7::o8::yu::o7::AD::yv::yw::o7::o8::AE::yx::yy::o7::o8::yz::o7::AF::yA::yB::o7::o8::AG::vc::yC::o7::o8::yD::o7::AH::yE::yF::o7::o8::AI::yG::yI::o7::o8::yJ::o7::AJ::yK::yL::o7::o8::yM::o7::AK::yN::yO::o7::o8::AL::o7::AM::AN::AO::o7::o8::yP::o7::AQ::yQ::yR::[])
noncomputable def hS0(w:World)(os:OsState):SharedT:=⟨hT0 w.params,292,⟨[],[],[],0,[],[],false,(List.toArray []),[],0,false,false,false,0,[2000,10,10],false,0,true,[],[],0,false⟩,#[],⟨0,0,0,0⟩,571,os⟩
noncomputable def hTf(P:Params):BT:=mkT P 12 (o0::o1::o2::o13::o4::o5::o6::o7::o8::o9::o10::o7::o14::o11::o12::o7::o8::o15::o7::o16::o17::o18::o19::o20::o21::o7::o22::o23::o24::o7::o8::o25::o7::o26::o27::o28::o7::o8::o29::o7::o30::o31::o32::o7::o33::o34::o35::o36::o37::o38::o20::o39::o7::o40::o41::o42::o7::o8::o43::o7::o44::o45::o46::o7::o47::o48::o49::o50::o38::o20::o51::o7::o52::o53::o54::o7::o8::o55::o7::o56::o57::o58::o7::o59::o60::o61::o62::o7::o8::o63::o7::o64::o65::o66::o7::o8::o67::o7::o68::o69::o70::o7::o8::o71::o72::o73::o7::o8::o74::o7::o75::o76::o77::o7::o8::o78::o7::o79::o80::o81::o7::o8::o82::o7::o83::o84::o85::o7::o8::o86::o87::o88::o7::o8::o89::o7::o90::o91::o92::o7::o8::o93::o7::o94::o95::o96::o7::o8::o97::o98::o99::o7::o8::xP::o7::Am::xQ::xR::o7::o8::xS::o7::An::xT::xU::o7::o20::Ao::o7::Ap::Aq::Ar::o7::o8::xV::o7::As::xW::xX::o7::o8::xY::o7::Au::xZ::x8::o7::o8::x9::o7::Av::ya::yb::o7::o8::yc::o7::Aw::yd::ye::o7::o8::yf::o7::Ax::yg::yh::o7::o8::yi::o7::Ay::yj::yk::yl::ym::yn::yo::yp::Az::AA::o7::o8::yq::o7::AB::yr::yt::o7::o8::yu::o7::AD::yv::yw::o7::o8::AE::yx::yy::o7::o8::yz::o7::AF::yA::yB::o7::o8::AG::vc::yC::o7::o8::yD::o7::AH::yE::yF::o7::o8::AI::yG::yI::o7::o8::yJ::o7::AJ::yK::yL::o7::o8::yM::o7::AK::yN::yO::o7::o8::AL::o7::AM::AN::AO::o7::o8::yP::o7::AQ::yQ::yR::[])
noncomputable def hSf(w:World)(os:OsState):SharedT:=⟨hTf w.params,292,⟨[],[],[],0,[],[],false,(List.toArray []),[],0,false,false,false,0,[2000,10,10],false,0,true,[],[],0,false⟩,#[],⟨0,0,0,0⟩,571,os⟩
def yS:Env:={scope:=(PySem.Challenge.pw_stillheap_k41_forwards_left).main.scope,locals:=mainNs,globals:=mainNs,cells:=[],code:=(.ref 13),frame:=some 14}
def hG0:List Stmt:=[top 0,top 1,top 2,top 3,top 4,top 5,top 6,top 7,top 8,top 9,top 10,top 11,top 12,top 13,top 14,top 15,top 16,top 17,top 18,top 19,top 20,top 21,top 22,top 23,top 24,top 25,top 26,top 27,top 28,top 29,top 30,top 31,top 32,top 33]
def hB:List Stmt:=hG0++[]
def hC:Code:=.body hB yS
abbrev hF:List Frame:=[topFrame ⟨0,0,0,0⟩]
theorem Bz(w:World)(os:OsState):topGo treeTable PySem.Challenge.pw_stillheap_k41_forwards_left w 11 (.some (.ref 6)) 12 ⟨boot_heap w.params,#[],boot_drawn,boot_toks,os⟩ (topStub PySem.Challenge.pw_stillheap_k41_forwards_left)=some ((hSa w os).abs,⟨denote treeTable hC,hC,⟨0,0,0,0⟩,hF⟩):=by kernel_rfl
theorem BA(w:World)(os:OsState):segRun treeTable PySem.Challenge.pw_stillheap_k41_forwards_left w 11 (.some (.ref 6)) 1 1 (hSa w os).abs (blockOf hB yS hC ⟨0,0,0,0⟩ hF)=some (.next,(hSb w os).abs,hC,⟨0,0,0,0⟩):=by kernel_rfl
theorem hR0(w:World)(os:OsState):segRunT treeTable PySem.Challenge.pw_stillheap_k41_forwards_left w 11 (.some (.ref 6)) 1 1911 (hSb w os) (piecesOf hG0 yS hC ⟨0,0,0,0⟩ hF)=some (.next,hS0 w os,hC,⟨193,0,204,36⟩):=by kernel_rfl
theorem BB(w:World)(os:OsState):topRun treeTable PySem.Challenge.pw_stillheap_k41_forwards_left w 11 (.some (.ref 6)) 2 (hS0 w os).abs ⟨doneF .next,hC,⟨193,0,204,36⟩,hF⟩=some (hSf w os).abs:=by kernel_rfl
theorem BC(w:World)(os:OsState):topRun treeTable PySem.Challenge.pw_stillheap_k41_forwards_left w 11 (.some (.ref 6)) (12+(1+(1911+2))) ⟨boot_heap w.params,#[],boot_drawn,boot_toks,os⟩ (topStub PySem.Challenge.pw_stillheap_k41_forwards_left)=some (hSf w os).abs:=go_top (Bz w os) (piece_block (BA w os) (piece_app (segRun_of (hR0 w os)) (BB w os)))
noncomputable def hK0(P:Params):Frag:=(nat_lit 2,o2 P)::(nat_lit 3,o13 P)::(nat_lit 15,o7 P)::(nat_lit 17,o15 P)::(nat_lit 18,o7 P)::(nat_lit 20,o17 P)::(nat_lit 21,o18 P)::(nat_lit 22,o19 P)::(nat_lit 29,o7 P)::(nat_lit 31,o25 P)::(nat_lit 32,o7 P)::(nat_lit 34,o27 P)::(nat_lit 35,o28 P)::(nat_lit 36,o7 P)::(nat_lit 38,o29 P)::(nat_lit 39,o7 P)::(nat_lit 41,o31 P)::(nat_lit 42,o32 P)::(nat_lit 43,o7 P)::(nat_lit 44,o33 P)::(nat_lit 45,o34 P)::(nat_lit 46,o35 P)::(nat_lit 49,o38 P)::(nat_lit 56,o7 P)::(nat_lit 58,o43 P)::(nat_lit 59,o7 P)::(nat_lit 61,o45 P)::(nat_lit 62,o46 P)::(nat_lit 63,o7 P)::(nat_lit 64,o47 P)::(nat_lit 65,o48 P)::(nat_lit 68,o38 P)::(nat_lit 75,o7 P)::(nat_lit 77,o55 P)::(nat_lit 78,o7 P)::(nat_lit 80,o57 P)::(nat_lit 81,o58 P)::(nat_lit 82,o7 P)::(nat_lit 83,o59 P)::(nat_lit 84,o60 P)::(nat_lit 87,o7 P)::(nat_lit 89,o63 P)::(nat_lit 90,o7 P)::(nat_lit 92,o65 P)::(nat_lit 93,o66 P)::(nat_lit 94,o7 P)::(nat_lit 96,o67 P)::(nat_lit 97,o7 P)::(nat_lit 99,o69 P)::(nat_lit 100,o70 P)::(nat_lit 101,o7 P)::(nat_lit 104,o72 P)::(nat_lit 105,o73 P)::(nat_lit 106,o7 P)::(nat_lit 108,o74 P)::(nat_lit 109,o7 P)::(nat_lit 111,o76 P)::(nat_lit 112,o77 P)::(nat_lit 113,o7 P)::(nat_lit 115,o78 P)::(nat_lit 116,o7 P)::(nat_lit 118,o80 P)::(nat_lit 119,o81 P)::(nat_lit 120,o7 P)::(nat_lit 122,o82 P)::(nat_lit 123,o7 P)::(nat_lit 125,o84 P)::(nat_lit 126,o85 P)::(nat_lit 127,o7 P)::(nat_lit 130,o87 P)::(nat_lit 131,o88 P)::(nat_lit 132,o7 P)::(nat_lit 134,o89 P)::(nat_lit 135,o7 P)::(nat_lit 137,o91 P)::(nat_lit 138,o92 P)::(nat_lit 139,o7 P)::(nat_lit 141,o93 P)::(nat_lit 142,o7 P)::(nat_lit 144,o95 P)::(nat_lit 145,o96 P)::(nat_lit 146,o7 P)::(nat_lit 149,o98 P)::(nat_lit 150,o99 P)::(nat_lit 151,o7 P)::(nat_lit 153,xP P)::(nat_lit 154,o7 P)::(nat_lit 156,xQ P)::(nat_lit 157,xR P)::(nat_lit 158,o7 P)::(nat_lit 160,xS P)::(nat_lit 161,o7 P)::(nat_lit 163,xT P)::(nat_lit 164,xU P)::(nat_lit 172,o7 P)::(nat_lit 174,xV P)::(nat_lit 175,o7 P)::(nat_lit 177,xW P)::(nat_lit 178,xX P)::(nat_lit 179,o7 P)::(nat_lit 181,xY P)::(nat_lit 182,o7 P)::(nat_lit 184,xZ P)::(nat_lit 185,x8 P)::(nat_lit 186,o7 P)::(nat_lit 188,x9 P)::(nat_lit 189,o7 P)::(nat_lit 191,ya P)::(nat_lit 192,yb P)::(nat_lit 193,o7 P)::(nat_lit 195,yc P)::(nat_lit 196,o7 P)::(nat_lit 198,yd P)::(nat_lit 199,ye P)::(nat_lit 200,o7 P)::(nat_lit 202,yf P)::(nat_lit 203,o7 P)::(nat_lit 205,yg P)::(nat_lit 206,yh P)::(nat_lit 207,o7 P)::(nat_lit 209,yi P)::(nat_lit 210,o7 P)::(nat_lit 212,yj P)::(nat_lit 213,yk P)::(nat_lit 214,yl P)::(nat_lit 215,ym P)::(nat_lit 216,yn P)::(nat_lit 217,yo P)::(nat_lit 218,yp P)::(nat_lit 221,o7 P)::(nat_lit 223,yq P)::(nat_lit 224,o7 P)::(nat_lit 226,yr P)::(nat_lit 227,yt P)::(nat_lit 228,o7 P)::(nat_lit 230,yu P)::(nat_lit 231,o7 P)::(nat_lit 233,yv P)::(nat_lit 234,yw P)::(nat_lit 235,o7 P)::(nat_lit 238,yx P)::(nat_lit 239,yy P)::(nat_lit 240,o7 P)::(nat_lit 242,yz P)::(nat_lit 243,o7 P)::(nat_lit 245,yA P)::(nat_lit 246,yB P)::(nat_lit 247,o7 P)::(nat_lit 250,vc P)::(nat_lit 251,yC P)::(nat_lit 252,o7 P)::(nat_lit 254,yD P)::(nat_lit 255,o7 P)::(nat_lit 257,yE P)::(nat_lit 258,yF P)::(nat_lit 259,o7 P)::(nat_lit 262,yG P)::(nat_lit 263,yI P)::(nat_lit 264,o7 P)::(nat_lit 266,yJ P)::(nat_lit 267,o7 P)::(nat_lit 269,yK P)::(nat_lit 270,yL P)::(nat_lit 271,o7 P)::(nat_lit 273,yM P)::(nat_lit 274,o7 P)::(nat_lit 276,yN P)::(nat_lit 277,yO P)::(nat_lit 285,o7 P)::(nat_lit 287,yP P)::(nat_lit 288,o7 P)::(nat_lit 290,yQ P)::(nat_lit 291,yR P)::[]
noncomputable def hK(P:Params):Frag:=(nat_lit 248,o8 P)::hK0 P
def hAs:List Addr:=[248,2,3,15,17,18,20,21,22,29,31,32,34,35,36,38,39,41,42,43,44,45,46,49,56,58,59,61,62,63,64,65,68,75,77,78,80,81,82,83,84,87,89,90,92,93,94,96,97,99,100,101,104,105,106,108,109,111,112,113,115,116,118,119,120,122,123,125,126,127,130,131,132,134,135,137,138,139,141,142,144,145,146,149,150,151,153,154,156,157,158,160,161,163,164,172,174,175,177,178,179,181,182,184,185,186,188,189,191,192,193,195,196,198,199,200,202,203,205,206,207,209,210,212,213,214,215,216,217,218,221,223,224,226,227,228,230,231,233,234,235,238,239,240,242,243,245,246,247,250,251,252,254,255,257,258,259,262,263,264,266,267,269,270,271,273,274,276,277,285,287,288,290,291]
theorem fe(P:Params):hAs=(hK P).map (·.1):=rfl
theorem hP0(w:World):(hK0 w.params).lookup 248=Option.none:=by kernel_rfl
theorem hY{w:World}{h:Heap}(X:(hK w.params).In h):(hK0 w.params).In h∧h.get? 248=some (tabObj #[])∧CodeHd h 250 248:=by
 refine⟨λb o e=>X b o ?_,X 248 (tabObj #[]) (by kernel_rfl),vc w.params,_,_,_,_,_,_,_,_,X 250 (vc w.params) (by kernel_rfl),rfl,rfl,rfl,rfl,rfl,rfl,rfl,rfl,by decide⟩;by_cases c:b=248
 ·rw[c,hP0]at e;cases e
 ·show List.lookup b ((248,o8 w.params)::hK0 w.params)=some o
  rw[List.lookup_cons,show(b == 248)=false from beq_eq_false_iff_ne.mpr c];exact e
def hQ:Program:={PySem.Challenge.pw_stillheap_k41_forwards_left with main:={(PySem.Challenge.pw_stillheap_k41_forwards_left).main with body:=[top 0,top 2,top 3,top 4,top 6,top 8,top 9,top 10,top 11,top 12,top 14,top 15,top 16,top 17,top 18,top 19,top 21,top 23,top 24,top 25,top 26,top 27,top 28,top 29,top 30,top 31,top 32,top 33]}}
def hLo:List Str:=[]
theorem zy(w:World):(fencedOpening treeTable PySem.Challenge.pw_stillheap_k41_forwards_left w 3946).map (λs=>(s.heap,s.gens,s.drawn,s.toks))=some (boot_heap w.params,#[],boot_drawn,boot_toks):=by kernel_rfl
theorem zA(w:World):((boot_heap w.params).isNs mainGlobals&&(#[]:Array GenState).size == 0,(boot_heap w.params).objs.size,(boot_heap w.params).nsMap mainGlobals "__annotations__")=(true,11,((.some (.ref 6)):Option Value)):=by kernel_rfl
abbrev hXt(s:Shared):Bool:=xlAt hQ [] s&&recOk (RowW.records (OpenRow.toRowW (OpenLaw.row PySem.Challenge.rw_stillheap_k41_forwards_left))) s
noncomputable abbrev hFH(w:World):Heap:=(absHeap (hTf w.params) 292 ⟨[],[],[],0,[],[],false,(List.toArray []),[],0,false,false,false,0,[2000,10,10],false,0,true,[],[],0,false⟩)
noncomputable abbrev hFS(w:World)(os:OsState):Shared:=⟨hFH w,#[],⟨0,0,0,0⟩,571,os⟩
theorem hK1(w:World)(os:OsState):staticsOk (importedModules (PySem.Challenge.pw_stillheap_k41_forwards_left).main.body) (boot_heap w.params) (hFH w)=true:=by kernel_rfl
theorem hK2(w:World)(os:OsState):namesBound PySem.Challenge.pw_stillheap_k41_forwards_left (hFH w)=true:=by kernel_rfl
theorem hK3(w:World)(os:OsState):gensDone (hFS w os)=true:=by kernel_rfl
theorem hK4(w:World)(os:OsState):laidKept (boot_heap w.params) (hFH w)=true:=by kernel_rfl
theorem hK5(w:World)(os:OsState):openSeen hQ hLo (importedModules (PySem.Challenge.pw_stillheap_k41_forwards_left).main.body) hXt true (hFS w os)=openGood hQ hLo:=by kernel_rfl
theorem hK6(w:World)(os:OsState):Hook.obs (kHook hK hAs fe) (hFS w os)=Hook.val (kHook hK hAs fe) w:=by kernel_rfl
theorem wX(w:World):(λos:OsState=>((staticsOk (importedModules (PySem.Challenge.pw_stillheap_k41_forwards_left).main.body) (boot_heap w.params) (hFH w)&&namesBound PySem.Challenge.pw_stillheap_k41_forwards_left (hFH w)&&gensDone (hFS w os)&&laidKept (boot_heap w.params) (hFH w)),
  openSeen hQ hLo (importedModules (PySem.Challenge.pw_stillheap_k41_forwards_left).main.body) hXt true (hFS w os),Hook.obs (kHook hK hAs fe) (hFS w os)))=λ_=>(true,openGood hQ hLo,Hook.val (kHook hK hAs fe) w):=by
 funext os
 rw[hK1 w os,hK2 w os,hK3 w os,hK4 w os,hK5 w os,hK6 w os];rfl
theorem zB:LeftO PySem.Challenge.pw_stillheap_k41_forwards_left hQ hLo hXt (Hook.obs (kHook hK hAs fe)) (Hook.val (kHook hK hAs fe)) 3946 :=
 LeftO.of_pieces (H₁:=λP=>absHeap (hTf P) 292 ⟨[],[],[],0,[],[],false,(List.toArray []),[],0,false,false,false,0,[2000,10,10],false,0,true,[],[],0,false⟩) zy zA BC (by rfl) wX
end
end K41
end
section
namespace L2
open PySem PySem.Spec PyProof.Rows
section
variable{κ:Type}[DecidableEq κ]
def ff(kvs:List (κ×V))(k:κ):Option V:=(kvs.find? λkv=>decide (kv.1=k)).map (·.2)
def putK(kvs:List (κ×V))(k:κ)(v:V):List (κ×V) :=
  if(kvs.any λkv=>decide (kv.1=k))=true then kvs.map (λkv=>if kv.1=k then(kv.1,v) else kv) else kvs++[(k,v)]
theorem cu{p:κ×V}{r:List (κ×V)}{k:κ}(e:p.1=k):ff (p::r) k=some p.2:=by simp[ff,Dl,e]
theorem bZ{p:κ×V}{r:List (κ×V)}{k:κ}(e:¬p.1=k):ff (p::r) k=ff r k:=by simp[ff,Dl,e]
theorem gE(k:κ):∀ kvs:List (κ×V),(kvs.any λkv=>decide (kv.1=k))=(ff kvs k).isSome
  | []=>rfl
  | p::r=>by
    rw[Du];by_cases e:p.1=k
    · simp only[cu e,decide_eq_true e,Bool.true_or,Option.isSome_some]
    · rw[bZ e,decide_eq_false e,Bool.false_or];exact gE k r
theorem oR(k j:κ)(y:V):∀ kvs:List (κ×V),ff (kvs.map λkv=>if kv.1=k then(kv.1,y) else kv) j=(ff kvs j).map λx=>if j=k then y else x
  | []=>rfl
  | p::r=>by
    have ih:=oR k j y r;rw[CQ];by_cases h:p.1=k
    · rw[if_pos h]
      by_cases e:p.1=j
      · rw[cu (p:=(p.1,y)) e,cu e,Df,if_pos (e.symm.trans h)]
      · rw[bZ (p:=(p.1,y)) e,bZ e,ih]
    · rw[if_neg h]
      by_cases e:p.1=j
      · rw[cu (p:=p) e,cu e,Df,if_neg (λz=>h (e.trans z))]
      · rw[bZ (p:=p) e,bZ e,ih]
theorem lJ(k j:κ)(y:V):∀ kvs:List (κ×V),ff kvs k=none→ff (kvs++[(k,y)]) j=if j=k then some y else ff kvs j
  | [],_=>by
    by_cases e:k=j
    · rw[if_pos e.symm];exact cu (p:=(k,y)) e
    · rw[if_neg (λz=>e z.symm)];exact bZ (p:=(k,y)) e
  | p::r,hn=>by
    rw[List.cons_append];have hk:¬p.1=k:=λz=>by rw[cu z]at hn;cases hn
    rw[bZ hk]at hn;have ih:=lJ k j y r hn;by_cases e:p.1=j
    · rw[cu e,cu e,if_neg (λz=>hk (e.trans z))]
    · rw[bZ e,bZ e,ih]
theorem cG(kvs:List (κ×V))(k j:κ)(y:V):ff (putK kvs k y) j=if j=k then some y else ff kvs j:=by
  unfold putK;by_cases a:(kvs.any λkv=>decide (kv.1=k))=true
  · rw[if_pos a,oR]
    rw[gE]at a;by_cases e:j=k
    · obtain⟨x,hx⟩:=Option.isSome_iff_exists.mp a
      rw[if_pos e,e,hx,Df,if_pos rfl]
    · rw[if_neg e]
      cases ff kvs j with
      | none=>rfl
      | some x=>rw[Df,if_neg e]
  · rw[if_neg a]
    refine lJ k j y kvs ?_;rw[gE]at a;cases q:ff kvs k with
    | none=>rfl
    | some x=>rw[q]at a;exact(a rfl).elim
theorem iI(kvs:List (κ×V))(k:κ)(v:V):(putK kvs k v).length≤kvs.length+1:=by
  unfold putK;split
  · rw[Cn];omega
  · rw[Cs,CI,List.length_nil];omega
theorem ie{kvs:List (κ×V)}{k:κ}(v:V)(h:ff kvs k=none):putK kvs k v=kvs++[(k,v)]:=by
  unfold putK;rw[gE,h];exact if_neg (by decide)
theorem iD.fF{o:Option V}{u:Option Value}(r:iD o u):o.isSome=u.isSome:=by
  cases o with
  | none=>cases u with
    | none=>rfl
    | some _=>exact(show False from r).elim
  | some _=>cases u with
    | none=>exact(show False from r).elim
    | some _=>rfl
theorem KV.val{kvs:List (κ×V)}{vs:List (κ×Value)}(r:KV kvs vs)(k:κ):iD (ff kvs k) (valueAt vs k):=by
  unfold KV at r;induction r with
  | nil=>exact True.intro
  | @cons p q ps qs h t ih =>
    obtain⟨h1,h2⟩:=h;by_cases e:p.1=k
    · have e':q.1=k:=h1.symm.trans e
      have b:valueAt (q::qs) k=some q.2:=(by simp[valueAt,Dl,e']);rw[cu e,b];exact h2
    · have e':¬q.1=k:=λz=>e (h1.trans z)
      have b:valueAt (q::qs) k=valueAt qs k:=(by simp[valueAt,Dl,e']);rw[bZ e,b];exact ih
theorem KV.any{kvs:List (κ×V)}{vs:List (κ×Value)}(r:KV kvs vs)(k:κ):(kvs.any λkv=>decide (kv.1=k))=vs.any λkv=>decide (kv.1=k):=by
  unfold KV at r;induction r with
  | nil=>rfl
  | cons h t ih=>rw[Du,Du,ih,h.1]
theorem KV.yT{kvs:List (κ×V)}{vs:List (κ×Value)}(r:KV kvs vs)(k:κ){y:V}{u:Value}(ry:RelV y u) :
    KV (kvs.map λkv=>if kv.1=k then(kv.1,y) else kv) (vs.map λkv=>if kv.1=k then(kv.1,u) else kv):=by
  unfold KV at r ⊢;induction r with
  | nil=>exact .nil
  | @cons p q ps qs h t ih =>
    rw[CQ,CQ];refine .cons ?_ ih;obtain⟨h1,h2⟩:=h;by_cases e:p.1=k
    · rw[if_pos e,if_pos (h1.symm.trans e)];exact⟨h1,ry⟩
    · rw[if_neg e,if_neg (λz=>e (h1.trans z))];exact⟨h1,h2⟩
theorem KV.put{kvs:List (κ×V)}{vs:List (κ×Value)}(r:KV kvs vs)(k:κ){y:V}{u:Value}(ry:RelV y u):KV (putK kvs k y) (stored vs k u):=by
  unfold putK stored;rw[r.any k];by_cases e:(vs.any λkv=>decide (kv.1=k))=true
  · rw[if_pos e,if_pos e];exact r.yT k ry
  · rw[if_neg e,if_neg e];exact Paired.snoc r ⟨rfl,ry⟩
theorem KV.length{kvs:List (κ×V)}{vs:List (κ×Value)}(r:KV kvs vs):kvs.length=vs.length:=Paired.length r
end
theorem nF{P:Program}{w:World}{k:Key}{u:Value}(r:RelV (kV k) u):(bR P w).is k u=true:=by
  cases k with
  | inl i=>obtain⟨t,e⟩:=(show ∃ t,u=Value.int i t from r);subst e;exact nR P w i t
  | inr x=>obtain⟨t,e⟩:=(show ∃ t,u=Value.str x t from r);subst e;exact nS P w x t
theorem lK{P:Program}{w:World}:∀ {ks:List Key} {us:List Value},Vals (ks.map kV) us→ItemsAre (bR P w) ks us
  | [],_,r=>by rw[List.map_nil]at r;cases r;exact .nil
  | k::ks,_,r=>by
    rw[CQ]at r;cases r with
    | cons h t=>exact .cons (nF h) (lK t)
abbrev KT(H:Hp):List (List Key×V)→List (List Key×Addr×Value)→Prop:=Paired λp q=>p.1=q.1∧H q.2.1=some (.tup (p.1.map kV))∧RelV p.2 q.2.2
theorem KT.val{H:Hp}{kvs:List (List Key×V)}{xs:List (List Key×Addr×Value)}(r:KT H kvs xs)(k:List Key):iD (ff kvs k) ((atKey xs k).map (·.2)):=by
  induction r with
  | nil=>exact True.intro
  | @cons p q ps qs h t ih =>
    obtain⟨h1,_,h2⟩:=h;by_cases e:p.1=k
    · have e':q.1=k:=h1.symm.trans e
      have b:atKey (q::qs) k=some q.2:=(by simp[atKey,Dl,e']);rw[cu e,b];exact h2
    · have e':¬q.1=k:=λz=>e (h1.trans z)
      have b:atKey (q::qs) k=atKey qs k:=(by simp[atKey,Dl,e']);rw[bZ e,b];exact ih
theorem KT.yT{H:Hp}{kvs:List (List Key×V)}{xs:List (List Key×Addr×Value)}(r:KT H kvs xs)(k:List Key){y:V}{u:Value}(ry:RelV y u) :
    KT H (kvs.map λkv=>if kv.1=k then(kv.1,y) else kv) (xs.map (putAt k u)):=by
  induction r with
  | nil=>exact .nil
  | @cons p q ps qs h t ih =>
    rw[CQ,CQ];refine .cons ?_ ih;obtain⟨h1,h2,h3⟩:=h;unfold putAt;by_cases e:p.1=k
    · rw[if_pos e,if_pos (h1.symm.trans e)];exact⟨h1,h2,ry⟩
    · rw[if_neg e,if_neg (λz=>e (h1.trans z))];exact⟨h1,h2,h3⟩
theorem KT.put{H:Hp}{kvs:List (List Key×V)}{xs:List (List Key×Addr×Value)}(r:KT H kvs xs)(k:List Key){b:Addr}{y:V}{u:Value}(hb:H b=some (.tup (k.map kV)))(ry:RelV y u) :
    KT H (putK kvs k y) (storedH xs k b u):=by
  have e:(kvs.any λkv=>decide (kv.1=k))=(atKey xs k).isSome:=by
    rw[gE,(r.val k).fF,DM]
  unfold putK storedH;rw[e];by_cases q:(atKey xs k).isSome=true
  · rw[if_pos q,if_pos q];exact r.yT k ry
  · rw[if_neg q,if_neg q];exact Paired.snoc r ⟨rfl,hb,ry⟩
theorem KT.keeps{H H':Hp}{kvs:List (List Key×V)}{xs:List (List Key×Addr×Value)}(r:KT H kvs xs)(ht:∀ b ys,H b=some (.tup ys)→H' b=some (.tup ys)):KT H' kvs xs :=
  Paired.xC r λ_ _ z=>⟨z.1,ht _ _ z.2.1,z.2.2⟩
section
variable{P:Program}{w:World}{H:Hp}{h:Heap}{a:Addr}
theorem vN{u:HO}(ok:HOk P w H h)(e:Rd H a u):cb P w H h a u:=e.ok ok
theorem pR{kvs:List (Key×V)}(ok:HOk P w H h)(e:Rd H a (.dK kvs)):kvs.length≤sizeLine∧(a == sysModules)=false∧∃ vs,KV kvs vs∧h.DictOf (bR P w) a vs :=
  show cb P w H h a (.dK kvs) from vN ok e
theorem vO{kvs:List (Key×V)}(ok:HOk P w H h)(e:H a=some (.dK kvs)):kvs.length≤sizeLine∧(a == sysModules)=false∧∃ vs,KV kvs vs∧h.DictOf (bR P w) a vs:=pR ok (.inl e)
theorem kc{ks:List Key}(ok:HOk P w H h)(e:H a=some (.tup (ks.map kV))):(tupleKind (bR P w)).is h ks a:=by
  obtain⟨_,its,r,o,h1,h2,n,h3⟩:=(show cb P w H h a (.tup (ks.map kV)) from ok a _ e);exact⟨o,its.toArray,n,h1,h2,h3,by simpa using lK r⟩
theorem pS{kvs:List (List Key×V)}(ok:HOk P w H h)(e:Rd H a (.dT kvs)):kvs.length≤sizeLine∧(a == sysModules)=false ∧
    ∃ xs,KT H kvs xs∧h.DictOfH (tupleKind (bR P w)) a xs:=by
  obtain⟨z,y,xs,r,o,es,ep,h1,h2,h3,h4,h5⟩:=(show cb P w H h a (.dT kvs) from vN ok e);refine⟨z,y,xs,r,o,es,ep,h1,h2,h3,h4,λx hx=>?_,h5⟩;have all:∀ {l:List (List Key×V)} {m:List (List Key×Addr×Value)},KT H l m→∀ x∈m,(tupleKind (bR P w)).is h x.1 x.2.1:=by
    intro l m q;induction q with
    | nil=>intro x hx;exact nomatch hx
    | @cons p q ps qs hq t ih =>
      intro x hx;rcases Cw.mp hx with e|hx
      · subst e
        exact kc ok (by rw[←hq.1];exact hq.2.1)
      · exact ih x hx
  exact all r x hx
theorem zC{kvs:List (List Key×V)}(ok:HOk P w H h)(e:H a=some (.dT kvs)):kvs.length≤sizeLine∧(a == sysModules)=false ∧
    ∃ xs,KT H kvs xs∧h.DictOfH (tupleKind (bR P w)) a xs:=pS ok (.inl e)
end
def sL(H:Hp)(a:Addr)(y:V)(r:Option V):Prop :=
  (∃ kvs k,Rd H a (.dK kvs)∧y=kV k∧r=ff kvs k)∨∃ kvs k b,Rd H a (.dT kvs)∧y=.ref b∧H b=some (.tup (k.map kV))∧r=ff kvs k
def qP(H:Hp)(a:Addr)(y v:V)(H':Hp):Prop :=
  (∃ kvs k,H a=some (.dK kvs)∧y=kV k∧kvs.length<sizeLine∧H'=upd H a (.dK (putK kvs k v))) ∨
  ∃ kvs k b,H a=some (.dT kvs)∧y=.ref b∧H b=some (.tup (k.map kV))∧kvs.length<sizeLine∧H'=upd H a (.dT (putK kvs k v))
theorem qP.k{H:Hp}{a:Addr}{kvs:List (Key×V)}{k:Key}{v:V}(e:H a=some (.dK kvs))(hl:kvs.length<sizeLine):qP H a (kV k) v (upd H a (.dK (putK kvs k v))):=.inl ⟨kvs,k,e,rfl,hl,rfl⟩
section
variable{X:Cx}{pins:List (Addr×Obj)}{σ:St}{H:Hp}{s:Shared}{a:Addr}{y v:V}{u r:Value}{o:Option V}{A:Around}{E:Value→Shared→Prop}
theorem Inv.big(I:Inv X pins σ H s):sysModules<s.heap.objs.size:=by
  have h:mainGlobals<s.heap.objs.size:=(I.mod.glob.keeps I.bk).lt;exact Nat.lt_trans (by decide) h
theorem rE{Q:Value→Shared→Prop}(hu:A.units+1<cLine)(I:Inv X pins σ H s)(g:sL H a y (some v))(ry:RelV y u)(h:∀ w' s',Inv X pins σ H s'→RelV v w'→Q w' s') :
    wpAny (model X.prog X.w) A (getItem (.ref a) u) Q E s:=by
  rcases g with⟨kvs,k,e,ey,l⟩|⟨kvs,k,b,e,ey,eb,l⟩
  · subst ey
    obtain⟨z,hd,vs,rel,dd⟩:=pR I.hok e;obtain⟨w',hw,rw'⟩:=iD.some_of (v:=v) (o:=valueAt vs k) (by rw[l];exact rel.val k);exact wpAny_getItem_of (nF ry) dd.mapOf hw (h w' _ (I.tok _) rw')
  · subst ey
    cases (show u=Value.ref b from ry);obtain⟨z,hd,xs,rel,dd⟩:=pS I.hok e;obtain⟨w',hw,rw'⟩:=iD.some_of (v:=v) (o:=(atKey xs k).map (·.2)) (by rw[l];exact rel.val k);obtain⟨p,hp,hp2⟩:=CD.mp hw;refine wpAny_getItem_heap (tupleKind_room_in1 hu) (kc I.hok eb) dd hp ?_;rw[hp2];exact h w' _ (I.tok _) rw'
theorem BD{Q:Value→Shared→Prop}(hu:A.units+1<cLine)(I:Inv X pins σ H s)(g:sL H a y o)(ry:RelV y u)(h:∀ s',Inv X pins σ H s'→Q (.bool o.isSome) s') :
    wpAny (model X.prog X.w) A (compareOp .In u (.ref a)) Q E s:=by
  rcases g with⟨kvs,k,e,ey,l⟩|⟨kvs,k,b,e,ey,eb,l⟩
  · subst ey
    obtain⟨z,hd,vs,rel,dd⟩:=pR I.hok e;refine wpAny_in_of (nF ry) hd dd.mapOf ?_;rw[←(rel.val k).fF,←l];exact h _ (I.tok _)
  · subst ey
    cases (show u=Value.ref b from ry);obtain⟨z,hd,xs,rel,dd⟩:=pS I.hok e;refine wpAny_in_heap (tupleKind_room_in1 hu) (kc I.hok eb) hd dd ?_;have q:=(rel.val k).fF;rw[DM]at q;rw[←q,←l];exact h _ (I.tok _)
theorem vd{Q:Value→Shared→Prop}(hu:A.units+1<cLine)(I:Inv X pins σ H s)(g:sL H a y o)(ry:RelV y u)(h:∀ s',Inv X pins σ H s'→Q (.bool (!o.isSome)) s') :
    wpAny (model X.prog X.w) A (compareOp .NotIn u (.ref a)) Q E s:=by
  rcases g with⟨kvs,k,e,ey,l⟩|⟨kvs,k,b,e,ey,eb,l⟩
  · subst ey
    obtain⟨z,hd,vs,rel,dd⟩:=pR I.hok e;refine wpAny_notIn_of (nF ry) hd dd.mapOf ?_;rw[←(rel.val k).fF,←l];exact h _ (I.tok _)
  · subst ey
    cases (show u=Value.ref b from ry);obtain⟨z,hd,xs,rel,dd⟩:=pS I.hok e;refine wpAny_notIn_heap (tupleKind_room_in1 hu) (kc I.hok eb) hd dd ?_;have q:=(rel.val k).fF;rw[DM]at q;rw[←q,←l];exact h _ (I.tok _)
theorem qQ{h':Heap}{t':Nat}{ob:HO}(I:Inv X pins σ H s)(mu:Mut (H a))(hs:Heap.SameBut a s.heap h')(he:∃ q,h'.get? a=some q)(new:cb X.prog X.w (upd H a ob) h' a ob) :
    Inv X pins σ (upd H a ob) {s with heap:=h',toks:=t'} :=
  I.write (x:=a) (e:=a) mu (.inl rfl) (λb q hb z=>(hs.2 b hb).trans z) he new
theorem t8{P:Program}{w:World}{H':Hp}{h':Heap}{kvs:List (Key×V)}{vs:List (Key×Value)}(z:kvs.length≤sizeLine)(hd:(a == sysModules)=false)(rel:KV kvs vs)(dd:h'.DictOf (bR P w) a vs) :
    cb P w H' h' a (.dK kvs):=⟨z,hd,vs,rel,dd⟩
theorem rF{H':Hp}{Q:Unit→Shared→Prop}(hu:A.units+1<cLine)(I:Inv X pins σ H s)(g:qP H a y v H')(ry:RelV y u)(rv:RelV v r)(h:∀ s',Inv X pins σ H' s'→Q () s') :
    wpAny (model X.prog X.w) A (setItem (.ref a) u r) Q E s:=by
  rcases g with⟨kvs,k,e,ey,l,eH⟩|⟨kvs,k,b,e,ey,eb,l,eH⟩
  · subst ey eH
    obtain⟨z,hd,vs,rel,dd⟩:=vO I.hok e;have hz:vs.length≤sizeLine:=(by rw[←rel.length];exact z);have hl:(putK kvs k v).length≤sizeLine:=(by have:=iI kvs k v;omega);refine wpAny_setItem_pairs (hsz:=hz) (nF ry) dd λh' dd' hs=>h _ ?_;have he:∃ q,h'.get? a=some q:=let ⟨q,_,_,hq,_⟩:=dd';⟨q,hq⟩;exact qQ I (by rw[e];exact True.intro) hs he (t8 hl hd (rel.put k rv) dd')
  · subst ey eH
    cases (show u=Value.ref b from ry);obtain⟨z,hd,xs,rel,dd⟩:=zC I.hok e;have hz:xs.length≤sizeLine:=(by rw[←Paired.length rel];exact z);have hl:(putK kvs k v).length≤sizeLine:=(by have:=iI kvs k v;omega);refine wpAny_setItem_heap (hsz:=hz) (tupleKind_room_in1 hu) (kc I.hok eb) dd λh' dd' hs=>h _ ?_;obtain⟨q,es,ep,hq,h2,h3,h4,_,h5⟩:=dd';refine qQ I (by rw[e];exact True.intro) hs ⟨q,hq⟩ ⟨hl,hd,_,(rel.put k eb rv).keeps λc ys ec=>?_,q,es,ep,hq,h2,h3,h4,h5⟩;rw[ag (bo ec e (λz=>nomatch z))];exact ec
end
section
variable{X:Cx}{pins:List (Addr×Obj)}{σ:St}{H:Hp}{s:Shared}{a:Addr}{kvs:List (Key×V)}{k:Key}{u:Value}{A:Around}{E:Value→Shared→Prop}
end
def AR(i:Expr):Prop:=∀ ov iv,subscripted i false ov iv=operate [ov,iv] (getItem ov iv)
theorem ve{prog:Program}{w:World}{A:Around}{E:Value→Shared→Prop}{s:Shared}{env:Env}{value slice:Expr}{pos:Pos}{T id:String}{Q:Value→Shared→Prop}
    (hl:typeLookup (.type T) "__getitem__" = pure (some (.builtin id))) (hs:AR slice)
    (h:wpAny (model prog w) A (eval value env) (λo s₁=>wpAny (model prog w) A (eval slice env) (λi s₂=>s₂.TypeIs o T∧wpAny (model prog w) A (getItem o i) Q E s₂) E s₁) E s) :
    wpAny (model prog w) A (eval (.Subscript value slice pos) env) Q E s:=by
  refine Subscript_ (wpAny_mono h (λo s₁ h₁=>wpAny_mono h₁ (λi s₂ h₂=>?_) λ_ _ x=>x) λ_ _ x=>x);obtain⟨hT,h₂⟩:=h₂;unfold subscriptTail;refine wpAny_bind ?_;rw[getitemInPython_of_ne hT.not_modules];refine wpAny_bind (wpAny_specialOf hT hl ?_);have fin:wpAny (model prog w) A (subscripted slice false o i) (λr s₃=>wpAny (model prog w) A (letTemporaryGo value o r >>= λ_=>pure r) Q E s₃) E s₂:=by
    rw[hs o i];exact wpAny_operating (wpAny_mono h₂ (λr s₃ h₃=>wpAny_bind (wpAny_letTemporaryGo (wpAny_pure h₃))) λ_ _ x=>x)
  first
    | exact wpAny_pure (wpAny_bind fin)
    | exact wpAny_bind (wpAny_pure (wpAny_bind fin))
    | exact wpAny_bind fin
theorem nW{X:Cx}{pins:List (Addr×Obj)}{σ:St}{H:Hp}{s:Shared}{a:Addr}{y:V}{o:Option V}(I:Inv X pins σ H s)(g:sL H a y o):s.TypeIs (.ref a) "dict" := by
  rcases g with⟨kvs,k,e,_,_⟩|⟨kvs,k,b,e,_,_,_⟩
  · obtain⟨_,_,vs,_,dd⟩:=pR I.hok e
    exact dd.typeIs
  · obtain⟨_,_,xs,_,dd⟩:=pS I.hok e
    exact dd.typeIs
def zE(td ty:TE):TE:=λσ H Q=>td σ H λx H1=>ty σ H1 λy H2=>∃ a v,x=.ref a∧sL H2 a y (some v)∧Q v H2
def BE(ty td:TE):TE:=λσ H Q=>ty σ H λy H1=>td σ H1 λx H2=>∃ a o,x=.ref a∧sL H2 a y o∧Q (.bl o.isSome) H2
def vf(ty td:TE):TE:=λσ H Q=>ty σ H λy H1=>td σ H1 λx H2=>∃ a o,x=.ref a∧sL H2 a y o∧Q (.bl (!o.isSome)) H2
def zF(td ty tv:TE):TS:=λD σ H=>tv σ H λv H1=>td σ H1 λx H2=>ty σ H2 λy H3=>∃ a H4,x=.ref a∧qP H3 a y v H4∧D.nx σ H4
section
variable{X:Cx}{o i e value:Expr}{pos pos' Bq:Pos}{td ty tv:TE}
theorem cX(hu:X.A.units+1<cLine)(ho:PE X o td)(hi:PE X i ty)(hs:AR i):PE X (.Subscript o i pos) (zE td ty):=by
  intro pins s σ H Q I h;refine ve PySem.F.slot_dict_getitem.lookup hs (thn (ho pins s σ H _ I h) λu s1 ⟨x,H1,I1,rx,q1⟩=>thn (hi pins s1 σ H1 _ I1 q1) λiv s2 ⟨y,H2,I2,ry,a,v,ex,g,q2⟩=>?_);subst ex;obtain rfl:u=Value.ref a:=rx;exact⟨nW I2 g,rE hu I2 g ry λw' s3 I3 rw'=>⟨v,H2,I3,rw',q2⟩⟩
theorem wY(hu:X.A.units+1<cLine)(hi:PE X i ty)(ho:PE X o td):PC X .In i o (BE ty td):=by
  intro pins s σ H Q I h;refine thn (hi pins s σ H _ I h) λiv s1 ⟨y,H1,I1,ry,q1⟩=>thn (ho pins s1 σ H1 _ I1 q1) λu s2 ⟨x,H2,I2,rx,a,ov,ex,g,q2⟩=>?_;subst ex;obtain rfl:u=Value.ref a:=rx;exact BD hu I2 g ry λs3 I3=>⟨.bl ov.isSome,H2,I3,rfl,q2⟩
theorem rG(hu:X.A.units+1<cLine)(hi:PE X i ty)(ho:PE X o td):PC X .NotIn i o (vf ty td):=by
  intro pins s σ H Q I h;refine thn (hi pins s σ H _ I h) λiv s1 ⟨y,H1,I1,ry,q1⟩=>thn (ho pins s1 σ H1 _ I1 q1) λu s2 ⟨x,H2,I2,rx,a,ov,ex,g,q2⟩=>?_;subst ex;obtain rfl:u=Value.ref a:=rx;exact vd hu I2 g ry λs3 I3=>⟨.bl (!ov.isSome),H2,I3,rfl,q2⟩
theorem jC(hu:X.A.units+1<cLine)(ho:PE X o td)(hi:PE X i ty)(hv:PE X value tv)(hs:swapsWith value (some (.Subscript o i pos')) pos.line X.env=pure false) :
    PS X (.Assign [.Subscript o i pos'] value pos) (zF td ty tv):=by
  intro pins s σ H D I h;refine wpAny_Assign_Subscript (thn (hv pins s σ H _ I h) λr s1 ⟨v,H1,I1,rv,q1⟩=>thn (ho pins s1 σ H1 _ I1 q1) λu s2 ⟨x,H2,I2,rx,q2⟩=>thn (hi pins s2 σ H2 _ I2 q2) λiv s3 ⟨y,H3,I3,ry,a,H4,ex,g,q3⟩=>?_) hs;subst ex;obtain rfl:u=Value.ref a:=rx;exact rF hu I3 g ry rv λs4 I4=>⟨σ,H4,I4,q3⟩
end
theorem sX{P:Program}{w:World}{H:Hp}(h:Heap)(hb:sysModules<h.objs.size):cb P w H (h.push {cls:=.type "dict",data:=.dict #[]}) h.objs.size (.dK []) :=
  ⟨CG _,beq_eq_false_iff_ne.mpr (CV (Cv hb)),[],.nil,Heap.DictOf.new h⟩
def wZ:TE:=λ_ H Q=>∀ p,H p=none→Q (.ref p) (upd H p (.dK []))
section
variable{X:Cx}{pos:Pos}
theorem ig:PE X (.Dict [] [] pos) wZ:=λpins s σ H Q I h =>
  wpAny_Dict_empty ⟨.ref s.heap.objs.size,_,I.laid (a:=s.heap.objs.size) (o:=.dK []) (t':=s.toks) (λ_ _ q=>Ce _ q) (Cg _) (sX s.heap I.big),rfl,h _ (I.hok.fresh (Cg _))⟩
end
section
variable{X:Cx}{pins:List (Addr×Obj)}{σ:St}{H:Hp}{s:Shared}{a:Addr}{y d:V}{u r:Value}{o:Option V}{A:Around}{E:Value→Shared→Prop}
end
section
variable{X:Cx}{o e f:Expr}{apos qO:Pos}{td ty tx:TE}
end
section
variable{X:Cx}{pins:List (Addr×Obj)}{σ:St}{H:Hp}{s:Shared}{a:Addr}{kvs:List (Key×V)}{A:Around}{E:Value→Shared→Prop}
end
section
variable{X:Cx}{pins:List (Addr×Obj)}{σ:St}{H:Hp}{s:Shared}{a:Addr}{y:V}{u:Value}{A:Around}{E:Value→Shared→Prop}
end
end L2
namespace L2
open PySem PySem.Spec PyProof.Rows
section
variable{X:Cx}
end
end L2
end
section
namespace LX
open PySem PySem.W
def bU(c:Value)(od:Option Addr)(fs:Array Value)(sl:Array (Option Value)):Obj:={cls:=c,dict:=od,data:=.fields fs,slots:=sl}
def w4(dd:Option Addr)(cd:ClassData)(k0 k1 k2 k3 k5:Option Value):Obj:={cls:=.type "type",dict:=dd,data:=.cls cd,slots:=#[k0,k1,k2,k3,some (.builtin "ValueError.__new__"),k5]}
structure dy(K:Frag)(C:Addr)(cd:ClassData):Prop where
 ob:∃ dd k0 k1 k2 k3 k5,K.lookup C=some (w4 dd cd k0 k1 k2 k3 k5)
 del:cd.hasDel=false
 line:∃ r,cd.mro=.ref C::r
 val:cd.mro.contains (.type "ValueError")=true
 bas:cd.mro.contains (.type "BaseException")=true
 obj:cd.mro.contains (.type "object")=true
 atr:cd.mro.contains (.type "AttributeError")=false
 nam:cd.mro.contains (.type "NameError")=false
def nG(K:Frag)(C:Addr):Bool:=match K.lookup C with
 | some ⟨.type "type",_,.cls cd,sl⟩=>(match cd.mro,sl.toList with
  | .ref D::_,[_,_,_,_,some (.builtin n),_]=>D == C&&n == "ValueError.__new__" && !cd.hasDel&&cd.mro.contains (.type "ValueError")&&cd.mro.contains (.type "BaseException") &&
    cd.mro.contains (.type "object")&&!cd.mro.contains (.type "AttributeError")&&!cd.mro.contains (.type "NameError")
  | _,_=>false)
 | _=>false
theorem m6{K:Frag}{C:Addr}(e:nG K C=true):∃ cd,clsIn K C=some cd∧dy K C cd:=by
 unfold nG at e;split at e
 ·rename_i dd cd sl ho
  split at e
  ·rename_i D r k0 k1 k2 k3 n k5 hm hs
   simp only[DC,beq_iff_eq,Bool.not_eq_true']at e;obtain⟨⟨⟨⟨⟨⟨⟨rfl,rfl⟩,e1⟩,e2⟩,e3⟩,e4⟩,e5⟩,e6⟩:=e;obtain⟨sl⟩:=sl;simp only at hs;subst hs;exact⟨cd,by unfold clsIn;rw[ho],⟨dd,k0,k1,k2,k3,k5,ho⟩,e1,⟨r,hm⟩,e2,e3,e4,e5,e6⟩
  ·cases e
 ·cases e
section
variable{K:Frag}{C:Addr}{cd:ClassData}{M:Model}{h:Heap}
theorem dy.cls(x:dy K C cd):clsIn K C=some cd:=by
 obtain⟨dd,k0,k1,k2,k3,k5,e⟩:=x.ob;unfold clsIn;rw[e];rfl
theorem dy.jU(x:dy K C cd):cd.mro.isEmpty=false:=by
 obtain⟨r,e⟩:=x.line;rw[e];rfl
theorem dy.sub(x:dy K C cd)(X:K.In h)(v:Value):Looks M h (isSubtype (.ref C) v) (cd.mro.contains v) :=
 looks_mroIn X (by unfold mroIn;rw[x.cls,Option.bind_some,if_neg (by rw[x.jU];decide)])
theorem dy.mro(x:dy K C cd)(X:K.In h):Looks M h (mroOf (.ref C)) cd.mro:=(looks_clsIn X x.cls).andThen .now
theorem dy.typ(x:dy K C cd)(X:K.In h):Looks M h (typeOf (.ref C)) (.type "type"):=by
 obtain⟨dd,k0,k1,k2,k3,k5,e⟩:=x.ob;exact(Looks.ld (X _ _ e)).andThen .now
theorem dy.BF(x:dy K C cd)(X:K.In h):Looks M h (isType (.ref C)) true:=by
 obtain⟨dd,k0,k1,k2,k3,k5,e⟩:=x.ob;intro A Q E s k q;unfold isType loadHead;exact wpAny_bind (wpAny_loadPart (k _ _ (X _ _ e)) (wpAny_pure q))
theorem dy.madeBy(x:dy K C cd)(X:K.In h):Looks M h (Bind.madeBy (.ref C)) (some "ValueError.__new__"):=by
 obtain⟨dd,k0,k1,k2,k3,k5,e⟩:=x.ob;obtain⟨r,hr⟩:=x.line;intro A Q E s k q;unfold Bind.madeBy;refine wpAny_bind (x.mro X A _ E s k ?_);rw[hr,List.forIn_cons];refine wpAny_bind (wpAny_bind (wpAny_bind (wpAny_bind (wpAny_loadPart (k _ _ (X _ _ e)) (wpAny_pure ?_)))));exact wpAny_pure (wpAny_pure (wpAny_pure q))
theorem dy.static(x:dy K C cd)(X:K.In h):Looks M h (Bind.staticBase (.ref C)) (.ref C):=by
 obtain⟨r,hr⟩:=x.line;intro A Q E s k q;unfold Bind.staticBase;refine wpAny_bind (x.mro X A _ E s k ?_);rw[hr,List.forIn_cons];exact wpAny_bind (wpAny_bind (wpAny_bind (x.madeBy X A _ E s k (wpAny_pure (wpAny_pure (wpAny_pure q))))))
theorem vg:Manifest.canonical "ValueError.__new__" = Manifest.canonical "BaseException.__new__" := PySem.F.excBase_ValueError.canon
theorem dy.here(x:dy K C cd)(X:K.In h):Looks M h (Bind.madeHere "BaseException.__new__" (.ref C)) () :=
 (x.static X).andThen ((x.madeBy X).andThen (Looks.of_pure (by simp only[Df,vg,bne_self_eq_false,CY,if_false])))
end
def Back(x:Addr)(R:Result→Shared→Prop)(r:Result)(s':Shared):Prop:=match r with
 | .ok (.ret v)=>v=.none∧R (.ok (.ret (.ref x))) s'
 | .ok _=>False
 | .error e=>R (.error e) s'
abbrev qu(C t:Addr):Obj:=bU (.ref C) none #[.ref t,.none,.none,.none,.bool false,.none] #[]
abbrev gQ(vs:List Value):Obj:={cls:=.type "tuple",data:=.seq vs.toArray}
abbrev fE(h:Heap)(C:Addr)(vs:List Value):Heap:=(h.push (gQ vs)).push (qu C h.objs.size)
section
variable{prog:Program}{w:World}{A:Around}{R:Result→Shared→Prop}{h:Heap}{g:Array GenState}{d:Drawn}{t:Nat}{os:OsState}{K:Frag}{C:Addr}{cd:ClassData}{vs:List Value}
theorem sY(x:dy K C cd)(X:K.In h)(hv:vs.length≤sizeLine)(k:R (.ok (.ret (.ref (h.objs.size+1)))) ⟨fE h C vs,g,d,t,os⟩) :
  codeAny (model prog w) A (.call (.builtin "ValueError.__new__") ⟨.ref C::vs,[]⟩) R ⟨h,g,d,t,os⟩:=by
 have F:=PySem.F.excBase_ValueError;have st:=x.static (M:=model prog w) X;have ty:=x.BF (M:=model prog w) X;have mb:=x.madeBy (M:=model prog w) X;have hh:=x.here (M:=model prog w) X;have s1:=x.sub (M:=model prog w) X (.type "ValueError");rw[x.val]at s1;have s2:=x.sub (M:=model prog w) X (.type "AttributeError");rw[x.atr]at s2;have s3:=x.sub (M:=model prog w) X (.type "NameError");rw[x.nam]at s3;refine codeAny_call_builtin_code (Code.quiet_builtin _ F.quiet) ?_;have star:=F.noStar;simp only[checkBuiltinCall,F.newKind,F.newSplit,F.newRow]
 repeat (first|simp only[bne_self_eq_false,CY,if_false,Bool.not_true]|lk)
 refine codeAny_builtinAt F.entry ?_;unfold Builtin.«BaseException.__new__»;refine wpAt_bind ?_;show wpAt _ _ _ (stack >>= _) _ _ _;refine wpAt_bind (wpAt_stack λp below=>wpAt_of_wpAny ?_);have B7:=F.ends;wp_walk
 refine wpAt_of_wpAny ?_;rw[F.owner]
 repeat (first|simp only[bne_self_eq_false,CY,if_false,Bool.not_true]|lk)
 rw[if_neg (by rw[Cj];omega)];obtain⟨dd,k0,k1,k2,k3,k5,ho⟩:=x.ob
 repeat lk
 refine nd_load (Ce _ (Ce _ (X _ _ ho))) (wpAny_pure (wpAny_pure ?_));rw[x.del,if_neg Ck];refine wpAny_pure (wpAny_pure ?_);show R _ _;rw[Dz];exact k
theorem sZ{f:Addr}(x:dy K C cd)(X:K.In h)(hi:findIn K (.ref C) "__init__" = some (some (.ref f)))(hf:typeIn K (.ref f)=some (.type "function"))(hv:vs.length≤sizeLine)
  (k:codeAny (model prog w) (A.under (.builtin "type.__call__" ⟨.ref C::vs,[]⟩)) (.call (.ref f) ⟨.ref (h.objs.size+1)::vs,[]⟩) (Back (h.objs.size+1) R) ⟨fE h C vs,g,d,t,os⟩) :
  codeAny (model prog w) A (.call (.ref C) ⟨vs,[]⟩) R ⟨h,g,d,t,os⟩:=by
 obtain⟨dd,k0,k1,k2,k3,k5,ho⟩:=x.ob;have hC:=X _ _ ho;have ht:=x.typ (M:=model prog w) X;refine codeAny_of_tree ?_;show wpAny _ _ (callAny (.ref C) _) _ _ _;refine nd_load hC ?_;show wpAny _ _ (callAny.viaDunder (.ref C) _) _ _ _;unfold callAny.viaDunder;have sp:Looks (model prog w) h (specialOf (.ref C) "__call__") (some (.builtin "type.__call__")):=ht.andThen (Looks.of_pure tc_lookup);refine wpAny_bind (sp.at ?_);dsimp only;rw[tc_bind];refine wpAny_bind (wpAny_pure (wpAny_bind (wpAny_pure ?_)));refine wpAny_pure (a:=Fin.again (.call (.builtin "type.__call__") ⟨.ref C::vs,[]⟩)) (And.intro rfl ?_);refine codeAny_call_builtin_at (Code.quiet_builtin _ (by decide +kernel)) entry_typeCall (check_slot tc_kind tc_split (ht.andThen (Looks.of_pure tc_sub)) (tc_args _ _ _) ?_);unfold Builtin.«type.__call__»;have hm:=x.mro (M:=model prog w) X;have em:=x.jU;have mb:=x.madeBy (M:=model prog w) X
 repeat (first|simp only[em,CY,if_false]|with_reducible refine wpAny_call ?_|lk)
 refine sY x X hv ?_;have kp:∀ b o,h.get? b=some o→(fE h C vs).get? b=some o:=λb o e=>Ce _ (Ce _ e);have X1:K.In (fE h C vs):=X.keeps kp;have hx:(fE h C vs).get? (h.objs.size+1)=some (qu C h.objs.size):=by heap_get
 have t1:Looks (model prog w) (fE h C vs) (typeOf (.ref (h.objs.size+1))) (.ref C):=(Looks.ld hx).andThen .now;have s1:=x.sub (M:=model prog w) X1 (.ref C);obtain⟨r,hr⟩:=x.line;rw[show cd.mro.contains (.ref C)=true by rw[hr];simp]at s1;have i1:=looks_findIn (M:=model prog w) X1 hi;have b1:=bind_fn (M:=model prog w) X1 (.ref (h.objs.size+1)) hf;unfold isInstance callSpecial? specialOf
 repeat (first|with_reducible refine wpAny_call ?_|lk)
 refine codeAny_mono k λr s' z=>?_;rcases r with e|(v|_|_|_)<;>first|exact z|exact z.elim|skip;obtain⟨rfl,z⟩:=z;exact wpAny_pure (wpAny_pure z)
end
section
variable{prog:Program}{w:World}{A:Around}{E:Value→Shared→Prop}{h:Heap}{g:Array GenState}{d:Drawn}{t:Nat}{os:OsState}{K:Frag}{C e t0:Addr}{cd:ClassData}{vs:List Value}{od:Option Addr}{fs:Array Value}{sl:Array (Option Value)}
theorem oS{M:Model}(he:h.get? e=some (bU (.ref C) od fs sl)):Looks M h (typeOf (.ref e)) (.ref C):=(Looks.ld he).andThen .now
theorem nX{Q:Value→Shared→Prop}(x:dy K C cd)(X:K.In h)(he:h.get? e=some (bU (.ref C) od fs sl))(h0:fs[0]?=some (.ref t0))(hv:vs.length≤sizeLine)
  (k:Q .none ⟨(h.push (gQ vs)).update e (Obj.mapFields (·.setIfInBounds 0 (.ref h.objs.size))),g,d,t,os⟩) :
  wpAny (model prog w) A (call (.builtin "ValueError.__init__") (.ref e::vs)) Q E ⟨h,g,d,t,os⟩:=by
 have F:=PySem.F.excBase_ValueError;have ty:=oS (M:=model prog w) he;have s1:=x.sub (M:=model prog w) X (.type "ValueError");rw[x.val]at s1;obtain⟨dd,k0,k1,k2,k3,k5,ho⟩:=x.ob;have hC:h.get? C=some ⟨.type "type",dd,.cls cd,#[k0,k1,k2,k3,some (.builtin "ValueError.__new__"),k5]⟩:=X _ _ ho;have star:=F.noStar;refine wpAny_call (codeAny_call_builtin F.init.plain F.initEntry ?_);simp only[checkBuiltinCall,F.initKind,F.initSplit,F.initRow];unfold isInstance Bind.checkArgs;refine wpAny_bind (wpAny_bind (ty.at (s1.at ?_)));simp only[CY,if_false,Bool.not_true];refine wpAny_bind (m:=Bind.printed "*" true _ _) ?_;unfold Bind.printed Bind.receiverType typeNameWhole;rw[if_neg (by decide)];dsimp only;rw[if_neg (by decide)];refine wpAny_bind (ty.at ?_);refine wpAny_bind (wpAny_bind ((looks_clsIn X x.cls).at (wpAny_pure (wpAny_pure ?_))));refine wpAny_bind (m:=if("ValueError" != "*")=true then pure "ValueError" else _) ?_;rw[if_pos star];refine wpAny_pure (wpAny_onRaise ?_);show wpAny _ _ (Bind.check _ _ _ _ []) _ _ _;rw[PyProof.Rows.check_varPos];refine wpAny_pure ?_;unfold Builtin.«BaseException.__init__»;dsimp only;rw[if_neg (by simp)];unfold newTuple Builtin.BaseException.bexcPut;have hsz:0<fs.size:=(CW.mp h0).1;have e1:=Ce (h:=h) (gQ vs) he;refine wpAny_bind (wpAny_newObj_type ?_ (by show vs.toArray.size≤sizeLine;rw[Cj];exact hv));refine wpAny_bind (wpAny_bind (wpAny_field (s:=⟨h.push (gQ vs),g,d,t,os⟩) e1 rfl h0 ?_));refine wpAny_bind (wpAny_setField (s:=⟨h.push (gQ vs),g,d,t,os⟩) e1 rfl hsz ?_);exact wpAny_letGo (wpAny_pure k)
end
section
variable{prog:Program}{w:World}{A:Around}{E:Value→Shared→Prop}{s:Shared}{K:Frag}
theorem vh:findCls K (.type "ValueError") (.type "type") "__init__" = some (.val (.builtin "ValueError.__init__")):=by kernel_rfl
theorem vP:findIn K (.type "type") "__getattribute__" = some (some (.builtin "type.__getattribute__")):=by kernel_rfl
theorem ua{M:Model}{h:Heap}:Looks M h (typeOf (.type "ValueError")) (.type "type"):=Looks.of_pure (by kernel_rfl)
theorem w6:subIn K (.type "type") (.type "type")=some true:=by kernel_rfl
theorem w8{M:Model}{h:Heap}:Looks M h (opaqueClassAbove (.type "ValueError")) none:=Looks.of_pure (by kernel_rfl)
theorem vi{pl:Sem Bool}{Q:Value×List Value→Shared→Prop}(X:K.In s.heap)(k:Q (.builtin "ValueError.__init__",[]) {s with toks:=s.toks+1}) :
  wpAny (model prog w) A (getMethod (.type "ValueError") "__init__" pl) Q E s:=by
 have sp:Looks (model prog w) s.heap (specialOf (.type "ValueError") "__getattribute__") (some (.builtin "type.__getattribute__")):=ua.andThen (looks_findIn X vP);unfold getMethod;refine wpAny_bind (sp.here ?_);dsimp only;rw[if_pos canon_tga];refine wpAny_bind (cls_open (hook:=none) X w8 ua vP (Looks.of_pure (by kernel_rfl)) w6 vh ?_);refine wpAny_pure ?_;show wpAny _ _ (handedOut _) _ _ _;rw[handedOut_of (by kernel_rfl)];exact wpAny_pure (wpAny_pure k)
end
section
variable{prog:Program}{w:World}{A:Around}{E:Value→Shared→Prop}{s:Shared}{K:Frag}{env:Env}
def rH(K:Frag)(E:Value→Shared→Prop)(v:Value)(s1:Shared):Prop :=
 ∃(ea C:Addr) (cd:ClassData) (od:Option Addr) (fs:Array Value) (sl:Array (Option Value)),v=.ref ea∧s1.heap.get? ea=some (bU (.ref C) od fs sl)∧fs[1]?=some .none∧dy K C cd∧K.In s1.heap∧E (.ref ea) s1
theorem rJ{e:Expr}{pos:Pos}{Q:Flow→Shared→Prop}(hh:A.handled=none)(k:wpAny (model prog w) A (eval e env) (rH K E) E s) :
  wpAny (model prog w) A (exec (.Raise (some e) none pos) env) Q E s:=by
 show wpAny (model prog w) A (do standAt pos;raiseStmt env (some (do let v ←eval e env;standAt pos;pure v)) none) Q E s
 refine wpAny_bind (wpAny_standAt ?_);unfold raiseStmt;dsimp only;refine wpAny_bind (wpAny_bind (wpAny_mono k (λv s1 q=>wpAny_bind (wpAny_standAt (wpAny_pure ?_))) λ_ _ z=>z));obtain⟨ea,C,cd,od,fs,sl,rfl,he,h1,x,X,hE⟩:=q;obtain⟨hp,g,d,tk,os⟩:=s1;have ty:=oS (M:=model prog w) he;have nt:Looks (model prog w) hp (isType (.ref ea)) false:=by
  intro A' Q' E' s' kk q;unfold isType loadHead;exact wpAny_bind (wpAny_loadPart (kk _ _ he) (wpAny_pure q))
 have sb:=x.sub (M:=model prog w) X (.type "BaseException");rw[x.bas]at sb;have ct:=x.typ (M:=model prog w) X;have f1:Looks (model prog w) hp (field (.ref ea) 1) .none:=looks_field he 1 h1;refine wpAny_bind (wpAny_pure ?_);dsimp only;refine wpAny_bind (wpAny_holding ?_);unfold excFromValue isExcClass isInstance
 repeat (first|simp only[CY,if_false,if_true]|lk)
 show wpAny _ _ handled _ _ _;refine wpAny_handled ?_;rw[hh];exact wpAny_throw hE
end
structure BG(K:Frag)(C:Addr):Prop where
 ga:findIn K (.ref C) "__getattribute__" = some (some (.builtin "BaseException.__getattribute__"))
 gt:findIn K (.ref C) "__getattr__" = some none
section
variable{prog:Program}{w:World}{A:Around}{E:Value→Shared→Prop}{h:Heap}{g:Array GenState}{d:Drawn}{t:Nat}{os:OsState}{K:Frag}{C ea:Addr}{cd:ClassData}{ox:Obj}{od:Option Obj}{name:Str}
end
section
variable{prog:Program}{w:World}{A:Around}{E:Value→Shared→Prop}{h:Heap}{g:Array GenState}{d:Drawn}{t:Nat}{os:OsState}{K:Frag}{C CH ea:Addr}{cd:ClassData}{fs:Array Value}{sl:Array (Option Value)}{name:Str}{v:Value}
end
end LX
end
section
namespace LX
open PySem
structure Kept(fr xs:List Addr)(h k:Heap):Prop where
 plain:∀ b o,h.get? b=some o→b∉fr→b∉xs→k.get? b=some o
 frame:∀ b o,h.get? b=some o→b∈fr→b∉xs→∃ sl,k.get? b=some {o with slots:=sl}
theorem Kept.trans{fr xs ys:List Addr}{h k m:Heap}(x:Kept fr xs h k)(y:Kept fr ys k m):Kept fr (xs++ys) h m where
 plain:=λb o e hb hx=>y.plain b o (x.plain b o e hb λz=>hx (Dc _ z)) hb λz=>hx (Ci _ z)
 frame:=λb o e hb hx=>by
  obtain⟨sl,e1⟩:=x.frame b o e hb λz=>hx (Dc _ z);obtain⟨sm,e2⟩:=y.frame b _ e1 hb λz=>hx (Ci _ z);exact⟨sm,e2⟩
theorem Kept.weak{fr xs ys:List Addr}{h k:Heap}(x:Kept fr xs h k)(s:∀ b o,h.get? b=some o→b∈xs→b∈ys):Kept fr ys h k :=
 ⟨λb o e hb hy=>x.plain b o e hb λz=>hy (s b o e z),λb o e hb hy=>x.frame b o e hb λz=>hy (s b o e z)⟩
abbrev cQ(l:List Env):List Addr:=l.filterMap (·.frame)
section
variable{M:Model}{A:Around}{E:Value→Shared→Prop}{s:Shared}{base:Heap}{env:Env}{outer:List Env}{L e:Addr}{c:Value}{od:Option Addr}{fs:Array Value}{sl:Array (Option Value)}
theorem oU{l:List Env}(F:s.heap.FunFrames base l)(he:s.heap.get? e=some (bU c od fs sl)):e∉cQ l:=λz=>by
 obtain⟨_,o,ho,hn⟩:=F.mem z;rw[he]at ho;cases ho;exact hn fs rfl
theorem jD{h:Heap}{a:Addr}{i:Nat}{x:Value}(ha:h.get? a=some (bU c od fs sl)) :
  (h.update a (Obj.mapFields (·.setIfInBounds i x))).get? a=some (bU c od (fs.setIfInBounds i x) sl):=Heap.get?_update_self _ ha rfl
theorem jE{head:Value}{had:Bool}{Q:Unit→Shared→Prop}(hA:A.frames=some (env::outer))(F:s.heap.FunFrames base (env::outer))(hL:env.frame=some L)
  (he:s.heap.get? e=some (bU c od fs sl)) (h1:1<fs.size)
  (k:∀ m T oc ts,s.heap.objs.size≤T→Kept (cQ (env::outer)) [e] s.heap m→m.get? e=some (bU c od (fs.setIfInBounds 1 (.ref T)) sl)→m.get? T=some (bU oc none ts #[])→ts[3]?=some (rawInt L)→Q () {s with heap:=m}) :
  wpAny M A (do let a ←frameOf env;let pl ←entryPlaceOf L had;let b ←EntryCells.newEntry head a .none (rawInt L) .none pl;setField (.ref e) 1 b) Q E s:=by
 have ne:=oU F he;refine wpAny_bind (wpAny_frameOf_fun hA F hL λg hg=>?_);obtain⟨g0,g1,g2⟩:=hg;refine wpAny_bind (wpAny_entryPlaceOf λpl hp=>?_);unfold EntryCells.newEntry newFields;refine wpAny_bind (wpAny_newObj_type ?_ (hp.sizeOk5 _ _ _ _ _));have e1:g.get? e=some (bU c od fs sl):=(g1 e ne).trans he;have e2:=Ce (h:=g) {cls:=.type "traceback",dict:=none,data:=.fields ([head,.ref L,.none,rawInt L,.none]++(if pl.isEmpty then List.replicate 6 Value.none else pl)).toArray} e1;refine wpAny_setField e2 rfl h1 ?_;have Te:g.objs.size≠e:=C7 (Cr e1);refine k _ g.objs.size (.type "traceback") ([head,.ref L,.none,rawInt L,.none]++(if pl.isEmpty then List.replicate 6 Value.none else pl)).toArray (Nat.le_of_eq g0.symm) ⟨λb o q hb hx=>?_,λb o q hb hx=>?_⟩ (jD e2) ?_ ?_
 ·have be:b≠e:=λz=>hx (by rw[z];exact Cf.mpr rfl)
  rw[CU _ _ (CV be)];exact Ce _ ((g1 b hb).trans q)
 ·have be:b≠e:=λz=>hx (by rw[z];exact Cf.mpr rfl)
  obtain⟨sm,q2⟩:=g2 b o q;refine⟨sm,?_⟩;rw[CU _ _ (CV be)];exact Ce _ q2
 ·rw[CU _ _ (CV Te)]
  exact CB g rfl
 ·first|(simp;done)|(rcases hp with rfl|⟨_,_,_,_,_,_,_,rfl⟩<;>simp)
inductive iP(h:Heap)(e:Addr)(fs:Array Value):Option Addr→Prop where
 | none (h1:fs[1]?=some .none):iP h e fs none
 | some {T:Addr} {oc:Value} {ts:Array Value} {d:Option Addr} {sl:Array (Option Value)} (h1:fs[1]?=some (.ref T)) (ne:T≠e) (hT:h.get? T=some (bU oc d ts sl)) (h3:ts[3]?=some .none):iP h e fs (some T)
theorem iP.size{h:Heap}{fs:Array Value}{T:Option Addr}(t:iP h e fs T):1<fs.size:=by
 cases t with
 | none h1=>exact(CW.mp h1).1
 | some h1=>exact(CW.mp h1).1
theorem vj{T0:Option Addr}{Q:Unit→Shared→Prop}(hA:A.frames=some (env::outer))(F:s.heap.FunFrames base (env::outer))(hL:env.frame=some L)(he:s.heap.get? e=some (bU c od fs sl))(t:iP s.heap e fs T0)
  (k:∀ m T oc ts,s.heap.objs.size≤T→Kept (cQ (env::outer)) (e::T0.toList) s.heap m→m.get? e=some (bU c od (fs.setIfInBounds 1 (.ref T)) sl)→m.get? T=some (bU oc none ts #[])→ts[3]?=some (rawInt L)→Q () {s with heap:=m}) :
  wpAny M A (noteFrame (.ref e) env) Q E s:=by
 unfold noteFrame;simp only[hL];have h1s:=t.size;cases t with
 | none h1 =>
  refine wpAny_bind (wpAny_field he rfl h1 ?_);rw[if_neg (by decide)];exact jE hA F hL he h1s k
 | @some T oc ts d sm h1 ne hT h3 =>
  refine wpAny_bind (wpAny_field he rfl h1 ?_);rw[if_pos (show(Value.ref T != Value.none)=true by simp)];refine wpAny_bind (wpAny_field hT rfl h3 ?_);rw[if_neg (show ¬((Value.none == rawInt L)=true) by simp[rawInt])];have h3s:3<ts.size:=(CW.mp h3).1;refine wpAny_bind (wpAny_setField hT rfl h3s ?_);have oth:∀ b,b≠T→(s.heap.update T (Obj.mapFields (·.setIfInBounds 3 Value.none))).get? b=s.heap.get? b:=λb hb=>CU _ _ (CV hb);have nT:=oU F hT;have F1:(s.heap.update T (Obj.mapFields (·.setIfInBounds 3 Value.none))).FunFrames base (env::outer):=F.of_keeps λb o hb hn=>⟨o,(oth b λz=>by rw[z,hT]at hb;cases hb;exact hn ts rfl).trans hb,rfl⟩;refine jE (s:={s with heap:=s.heap.update T (Obj.mapFields (·.setIfInBounds 3 Value.none))}) hA F1 hL ((oth e (CV ne)).trans he) h1s λm T' oc' ts' z1 z2 z3 z4 z5=>k m T' oc' ts' ?_ ?_ z3 z4 z5
  ·have zz:(s.heap.update T (Obj.mapFields (·.setIfInBounds 3 Value.none))).objs.size=s.heap.objs.size:=(Dh (h:=s.heap) (a:=T) (f:=Obj.mapFields (·.setIfInBounds 3 Value.none))).1
   rw[←zz];exact z1
  ·have kk:Kept (cQ (env::outer)) [T] s.heap (s.heap.update T (Obj.mapFields (·.setIfInBounds 3 Value.none))) :=
    ⟨λb o q _ hx=>(oth b λz=>hx (by rw[z];exact Cf.mpr rfl)).trans q,λb o q _ hx=>⟨o.slots,(oth b λz=>hx (by rw[z];exact Cf.mpr rfl)).trans q⟩⟩
   refine(kk.trans z2).weak λb o _ q=>?_;simp only[Cy,Cf]at q;simp only[Option.toList_some,Cw,DD,or_false];exact q.symm
theorem pT{T:Addr}{oc:Value}{ts:Array Value}{d:Option Addr}{sm:Array (Option Value)}{Q:Unit→Shared→Prop}(he:s.heap.get? e=some (bU c od fs sl))(h1:fs[1]?=some (.ref T))(ne:T≠e)
  (hT:s.heap.get? T=some (bU oc d ts sm)) (h3:3<ts.size)
  (k:∀ m,(∀ b o,b≠T→s.heap.get? b=some o→m.get? b=some o)→iP m e fs (some T)→m.get? e=some (bU c od fs sl)→Q () {s with heap:=m}):wpAny M A (setFlight (.ref e) none) Q E s:=by
 unfold setFlight;refine wpAny_bind (wpAny_field he rfl h1 ?_);rw[if_pos (show(Value.ref T != Value.none)=true by simp)];have oth:∀ b o,b≠T→s.heap.get? b=some o→(s.heap.update T (Obj.mapFields (·.setIfInBounds 3 Value.none))).get? b=some o:=λb o hb q=>(CU _ _ (CV hb)).trans q;exact wpAny_setField hT rfl h3 (k _ oth (.some h1 ne (jD hT) (by simp[h3])) (oth e _ (CV ne) he))
theorem uc{T0:Option Addr}{Q:Unit→Shared→Prop}(hA:A.frames=some (env::outer))(F:s.heap.FunFrames base (env::outer))(hL:env.frame=some L)(he:s.heap.get? e=some (bU c od fs sl))(t:iP s.heap e fs T0)
  (k:∀ m T fs',s.heap.objs.size≤T→Kept (cQ (env::outer)) (e::T0.toList) s.heap m→m.get? e=some (bU c od fs' sl)→fs'[0]?=fs[0]?→iP m e fs' (some T)→Q () {s with heap:=m}) :
  wpAny M A (leaving env (.ref e)) Q E s:=by
 unfold leaving;refine wpAny_bind (vj hA F hL he t λm T oc ts z1 z2 z3 z4 z5=>?_);have Te:T≠e:=C7 (Cu (Cr he) z1);have f1:(fs.setIfInBounds 1 (Value.ref T))[1]?=some (.ref T):=by
  have:=t.size
  simp[this]
 refine pT (s:={s with heap:=m}) z3 f1 Te z4 (CW.mp z5).1 λm' q1 q2 q3=>k m' T _ z1 ⟨λb o q hb hx=>?_,λb o q hb hx=>?_⟩ q3 (by simp) q2
 ·exact q1 b o (Cv (Cu (Cr q) z1)) (z2.plain b o q hb hx)
 ·obtain⟨sm,r⟩:=z2.frame b o q hb hx
  exact⟨sm,q1 b _ (Cv (Cu (Cr q) z1)) r⟩
end
end LX
end
section
namespace L2
open PySem PySem.Spec PyProof.Rows LX
def ExP(fresh:Bool)(C e:Addr)(od:Option Addr)(h:Heap):Prop:=∃ fs sl t0,h.get? e=some (bU (.ref C) od fs sl)∧fs[0]?=some (.ref t0)∧(fresh=true→fs[1]?=some .none)
def exo(fresh:Bool)(C e:Addr)(od:Option Addr):HO:=.ext (ExP fresh C e od)
section
variable{P:Program}{w:World}{H:Hp}{h:Heap}{b:Bool}{C e:Addr}{od:Option Addr}
theorem ud(x:ExP b C e od h):cb P w H h e (exo b C e od):=by
 refine⟨x,?_,λh1 h2 p k=>?_⟩
 ·obtain⟨fs,sl,t0,z,_⟩:=x
  exact⟨_,z⟩
 ·obtain⟨fs,sl,t0,z,r⟩:=p
  exact⟨fs,sl,t0,k _ z,r⟩
theorem m7(ok:HOk P w H h)(z:H e=some (exo b C e od)):ExP b C e od h:=(show cb P w H h e (exo b C e od) from ok e _ z).1
end
def del(H:Hp)(a:Addr):Hp:=λb=>if b=a then none else H b
theorem oV{H:Hp}{a:Addr}:del H a a=none:=by unfold del;rw[if_pos rfl]
theorem gR{H:Hp}{a b:Addr}(h:b≠a):del H a b=H b:=by unfold del;rw[if_neg h]
theorem oW{H:Hp}{a b:Addr}{o:HO}(h:del H a b=some o):H b=some o∧b≠a:=by
 unfold del at h;by_cases q:b=a
 ·rw[if_pos q]at h;cases h
 ·rw[if_neg q]at h;exact⟨h,q⟩
section
variable{P:Program}{w:World}{H H':Hp}{h h':Heap}{a:Addr}
theorem HOk.keeps(ok:HOk P w H h)(k:∀ b u o,H b=some u→h.get? b=some o→h'.get? b=some o):HOk P w H h':=λb u q =>
 (ok b u q).mX (λc v hc r=>by
  rcases hc with rfl|hc
  ·exact k c u v q r
  ·exact k c _ v hc r) (λ_ z=>z) λ_ _ z=>z
theorem HOk.del(ok:HOk P w H h)(ha:∀ y,H a≠some (.own y))(hb:∀ xs,H a≠some (.tup xs)):HOk P w (del H a) h:=λb u q=>by
 obtain⟨q1,q2⟩:=oW q;refine(ok b u q1).mX (λ_ _ _ r=>r) (λc z=>?_) λc xs z=>?_
 ·rw[gR λe=>ha b (by rw[←e];exact z)];exact z
 ·rw[gR λe=>hb xs (by rw[←e];exact z)];exact z
end
theorem gp{h k base:Heap}:∀ {l:List Env},h.FunFrames base l→(∀ b∈frs l,∀ o,h.get? b=some o→∃ sl,k.get? b=some {o with slots:=sl})→k.FunFrames base l
 | [],_,_=>True.intro
 | env::r,⟨h1,⟨L,o,e1,e2,e3,e4⟩,h2⟩,q=>by
  have hm:L∈frs (env::r):=C2.mpr ⟨env,Co,e1⟩;obtain⟨sl,z⟩:=q L hm o e3;refine⟨h1,⟨L,_,e1,e2,z,e4⟩,gp h2 λb hb o' z'=>q b ?_ o' z'⟩;obtain⟨x,hx,hy⟩:=C2.mp hb;exact C2.mpr ⟨x,Cm _ hx,hy⟩
structure Lies(P:Program)(w:World)(outer:List Env)(H H':Hp)(s:Shared)(ea C T:Addr)(od:Option Addr)(fs:Array Value)(sl:Array (Option Value))(s':Shared):Prop where
 os:s'.os=s.os
 bare:AllBare s'.gens
 un:Un (frs outer) [] H H' s.heap s'.heap
 hok:HOk P w H' s'.heap
 AS:s.heap.get? ea=none
 BH:s.heap.get? T=none
 vQ:H' ea=none
 zG:H' T=none
 at_:s'.heap.get? ea=some (bU (.ref C) od fs sl)
 args:∃ t0,fs[0]?=some (.ref t0)
 trail:iP s'.heap ea fs (some T)
def CXE(P:Program)(w:World):CXT:=λouter H s E e s'=>∃ ea C T od fs sl H',e=.ref ea∧Lies P w outer H H' s ea C T od fs sl s'∧E (.ref C) od H'
section
variable{X:Cx}{pins:List (Addr×Obj)}{σ:St}{H H':Hp}{s s':Shared}{ea C T:Addr}{od:Option Addr}{fs:Array Value}{sl:Array (Option Value)}
theorem Lies.frames(I:Inv X pins σ H s)(l:Lies X.prog X.w X.stack H H' s ea C T od fs sl s'):s'.heap.FunFrames X.base X.stack :=
 gp I.stack λb hb o z=>l.un.any z (I.gN b hb) (by simp)
theorem Lies.on{m:Heap}{t':Nat}(I:Inv X pins σ H s)(l:Lies X.prog X.w X.stack H H' s ea C T od fs sl s')(k:Kept (cQ X.stack) [ea,T] s'.heap m) :
  Un (frs X.stack) [] H H' s.heap m∧HOk X.prog X.w H' m:=by
 have fr:∀ b,b∈frs X.stack→H' b=none:=λb hb=>by
  obtain⟨_,o,z,_⟩:=I.stack.mem hb;exact l.un.free b o z (I.gN b hb) (by simp)
 have ne:∀ b o,s.heap.get? b=some o→b∉[ea,T]:=λb o z q=>by
  rcases Cw.mp q with e|q
  ·rw[e,l.AS]at z;cases z
  ·rw[Cf.mp q,l.BH]at z;cases z
 refine⟨⟨λb o z n hb hx=>?_,λb o z n hb hx=>?_,l.un.free,λb o z hx=>?_,l.un.jy,l.un.lq,l.un.lu⟩,?_⟩
 ·exact k.plain b o (l.un.keep b o z n hb hx) hb (ne b o z)
 ·obtain⟨s1,z1⟩:=l.un.slot b o z n hb hx
  obtain⟨s2,z2⟩:=k.frame b _ z1 hb (ne b o z);exact⟨s2,z2⟩
 ·obtain⟨o1,z1⟩:=l.un.there b o z hx
  by_cases hb:b∈cQ X.stack
  ·obtain⟨s2,z2⟩:=k.frame b _ z1 hb (ne b o z)
   exact⟨_,z2⟩
  ·exact⟨_,k.plain b _ z1 hb (ne b o z)⟩
 ·refine l.hok.keeps λb u o z q=>k.plain b o q (λhb=>?_) λhx=>?_
  ·rw[fr b hb]at z;cases z
  ·rcases Cw.mp hx with e|hx
   ·rw[e,l.vQ]at z;cases z
   ·rw[Cf.mp hx,l.zG]at z;cases z
end
section
variable{P:Program}{w:World}{K:W.Frag}{mg:Str→Option Value}{base:Heap}{N:List Str}{qual:Str}{scope:Scope}{f:Addr}{cdv:Value}{A:Around}{outer:List Env}{s₀:Shared}{H₀:Hp}{E₀:XK}
abbrev cxE(P:Program)(w:World)(K:W.Frag)(mg:Str→Option Value)(base:Heap)(N:List Str)(qual:Str)(scope:Scope)(f:Addr)(cdv:Value)(A:Around)(outer:List Env)(s₀:Shared)(H₀:Hp)(E₀:XK):Cx :=
 t4 (CXE P w) P w K mg base N qual scope f cdv A outer s₀ H₀ E₀
theorem pU{pins:List (Addr×Obj)}{σ:St}{H H':Hp}{s s':Shared}{ea C T:Addr}{od:Option Addr}{fs:Array Value}{sl:Array (Option Value)}(I:Inv (cxE P w K mg base N qual scope f cdv A outer s₀ H₀ E₀) pins σ H s)
  (l:Lies P w (cxE P w K mg base N qual scope f cdv A outer s₀ H₀ E₀).stack H H' s ea C T od fs sl s') (hE:E₀ (.ref C) od H'):(cxE P w K mg base N qual scope f cdv A outer s₀ H₀ E₀).xe (.ref ea) s':=by
 refine uc I.ok.frames (Lies.frames I l) rfl l.at_ l.trail λm T' fs' z1 z2 z3 z4 z5=>?_;obtain⟨un,hok⟩:=l.on (t':=s'.toks) I z2;have J:Inv (cxE P w K mg base N qual scope f cdv A outer s₀ H₀ E₀) pins σ H' {s' with heap:=m}:=I.sh l.os un hok l.bare (λb z=>absurd z (by simp));have old:∀ b o,s₀.heap.get? b=some o→∃ o',s.heap.get? b=some o':=λb o z=>I.base.there b o z (DD);have e0:s₀.heap.get? ea=none:=by
  cases q:s₀.heap.get? ea with
  | none=>rfl
  | some o =>
   obtain⟨o',z⟩:=old ea o q;rw[l.AS]at z;cases z
 have t0:s₀.heap.get? T'=none:=by
  cases q:s₀.heap.get? T' with
  | none=>rfl
  | some o =>
   obtain⟨o1,y1⟩:=old T' o q;obtain⟨o2,y2⟩:=l.un.there T' o1 y1 (by simp);exact absurd (Cr y2) (Nat.not_lt.mpr z1)
 obtain⟨a0,ha⟩:=l.args;exact⟨ea,C,T',od,fs',sl,H',rfl,⟨J.os,J.bare,J.base,J.hok,e0,t0,l.vQ,l.hok.fresh z1,z3,⟨a0,by rw[z4];exact ha⟩,z5⟩,hE⟩
theorem gI{E:XK}(hE:∀ c od H',E c od H'→E₀ c od H'):Passes (CXE P w) (cxE P w K mg base N qual scope f cdv A outer s₀ H₀ E₀) E:=λpins σ H s e s' I h=>by
 obtain⟨ea,C,T,od,fs,sl,H',rfl,l,q⟩:=h;exact pU I l (hE _ _ _ q)
theorem leave_new{pins:List (Addr×Obj)}{σ:St}{H:Hp}{s:Shared}{ea C:Addr}{od:Option Addr}(I:Inv (cxE P w K mg base N qual scope f cdv A outer s₀ H₀ E₀) pins σ H s)(h1:H ea=some (exo true C ea od))(h0:H₀ ea=none)
  (hE:E₀ (.ref C) od (del H ea)):(cxE P w K mg base N qual scope f cdv A outer s₀ H₀ E₀).xe (.ref ea) s:=by
 obtain⟨fs,sl,a0,z,ha,hf⟩:=m7 I.hok h1;have frz:∀ b,b∈frs (cxE P w K mg base N qual scope f cdv A outer s₀ H₀ E₀).stack→H b=none:=I.gN;have e0:s₀.heap.get? ea=none:=by
  cases q:s₀.heap.get? ea with
  | none=>rfl
  | some o =>
   have:=I.base.free ea o q h0 DD
   rw[h1]at this;cases this
 refine uc I.ok.frames I.stack rfl z (.none (hf rfl)) λm T' fs' z1 z2 z3 z4 z5=>?_;have hd:HOk P w (del H ea) s.heap:=I.hok.del (λy q=>by rw[h1]at q;cases q) λxs q=>by rw[h1]at q;cases q
 have hm:HOk P w (del H ea) m:=hd.keeps λb u o q r=>by
  obtain⟨q1,q2⟩:=oW q;exact z2.plain b o r (λhb=>by rw[frz b hb]at q1;cases q1) (by simpa using q2)
 have neE:∀ b o,s₀.heap.get? b=some o→b≠ea:=λb o q r=>by rw[r,e0]at q;cases q
 have t0:s₀.heap.get? T'=none:=by
  cases q:s₀.heap.get? T' with
  | none=>rfl
  | some o =>
   obtain⟨o2,y2⟩:=I.base.there T' o q DD;exact absurd (Cr y2) (Nat.not_lt.mpr z1)
 have neL:∀ b o,s₀.heap.get? b=some o→b∈cQ (cxE P w K mg base N qual scope f cdv A outer s₀ H₀ E₀).stack→b∈frs outer:=λb o q hb=>by
  rcases Cw.mp (I.iY b hb) with r|r
  ·exact absurd (Cr q) (by rw[r];exact Nat.not_lt.mpr I.ok.above)
  ·exact r
 have sub:∀ b,b∈frs outer→b∈cQ (cxE P w K mg base N qual scope f cdv A outer s₀ H₀ E₀).stack:=λb hb=>by
  obtain⟨x,hx,hy⟩:=C2.mp hb;exact C2.mpr ⟨x,Cm _ hx,hy⟩
 refine⟨ea,C,T',od,fs',sl,del H ea,rfl,⟨I.os,I.bare,⟨λb o q n hb hx=>?_,λb o q n hb hx=>?_,λb o q n hx=>?_,λb o q hx=>?_,λb xs q=>?_,λb o u q=>?_,λb ps q=>?_⟩,hm,e0,t0,oV,?_,z3,⟨a0,by rw[z4];exact ha⟩,z5⟩,hE⟩
 ·exact z2.plain b o (I.base.keep b o q n hb hx) (λz=>hb (neL b o q z)) (by simpa using neE b o q)
 ·obtain⟨s1,y1⟩:=I.base.slot b o q n hb hx
  obtain⟨s2,y2⟩:=z2.frame b _ y1 (sub b hb) (by simpa using neE b o q);exact⟨s2,y2⟩
 ·rw[gR (neE b o q)]
  exact I.base.free b o q n hx
 ·obtain⟨o1,y1⟩:=I.base.there b o q hx
  by_cases hb:b∈cQ (cxE P w K mg base N qual scope f cdv A outer s₀ H₀ E₀).stack
  ·obtain⟨s2,y2⟩:=z2.frame b _ y1 hb (by simpa using neE b o q)
   exact⟨_,y2⟩
  ·exact⟨_,z2.plain b _ y1 hb (by simpa using neE b o q)⟩
 ·have r:=I.base.jy b xs q
  rw[gR λe=>by rw[e,h1]at r;cases r];exact r
 ·have r:=I.base.lq b o u q
  rw[gR λe=>by rw[e,h1]at r;cases r];exact r
 ·obtain⟨more,r⟩:=I.base.lu b ps q
  exact⟨more,by rw[gR λe=>by rw[e,h1]at r;cases r];exact r⟩
 ·by_cases q:T'=ea
  ·rw[q];exact oV
  ·rw[gR q];exact I.hok.fresh z1
end
theorem Fun.okE{P:Program}{w:World}{K:W.Frag}{mg:Str→Option Value}{base:Heap}{x qual:Str}{st:Stmt}{f:Addr}{fd:FuncData}{N ps:List Str}{k:Nat}{sp:Sp}(F:Fun K x qual st f fd)(S:aG N ps (aj st))(len:∀ vs H Q E,sp vs H Q E→vs.length=ps.length)
  (pP:∀(cdv:Value) (A:Around) (outer:List Env) (s:Shared) (H:Hp) (vs:List V) (Q:VK) (E:XK),dY k (A.deeper (envOfC qual (aj st) s.heap.objs.size f cdv))→sp vs H Q E →
   ∃ t,PSs (cxE P w K mg base N qual (aj st) f cdv A outer s H E) (dQ st) t∧t {nx:=λ_ H'=>Q .non H',rt:=Q} (start N vs) H):iH P w K mg base (CXE P w) (k+1) f fd ps sp:=by
 obtain⟨oc,od,kV,doc,pm,an,cdv,ct,osl,rfl,lk,hcd⟩:=F.ex;exact vI lk hcd S len λA outer s H vs Q E hr hsp=>pP cdv A outer s H vs Q E hr hsp
def oX(X:Cx)(E:XK):Prop:=∀(pins:List (Addr×Obj)) (σ:St) (H:Hp) (s:Shared) (ea C:Addr) (od:Option Addr),Inv X pins σ H s→H ea=some (exo true C ea od)→X.H₀ ea=none→E (.ref C) od (del H ea)→X.xe (.ref ea) s
theorem qv{P:Program}{w:World}{K:W.Frag}{mg:Str→Option Value}{base:Heap}{N:List Str}{qual:Str}{scope:Scope}{f:Addr}{cdv:Value}{A:Around}{outer:List Env}{s₀:Shared}{H₀:Hp}{E₀:XK} :
  oX (cxE P w K mg base N qual scope f cdv A outer s₀ H₀ E₀) E₀:=λ_ _ _ _ _ _ _ I h1 h0 q=>leave_new I h1 h0 q
def xa(H₀:Hp)(K:W.Frag)(E:XK)(te:TE):TS:=λ_ σ H=>te σ H λv H1=>∃ ea C od,v=.ref ea∧H1 ea=some (exo true C ea od)∧(∃ cd,dy K C cd)∧H₀ ea=none∧E (.ref C) od (del H1 ea)
section
variable{X:Cx}
theorem jV{e:Expr}{te:TE}{pos:Pos}{E:XK}(hc:X.calm=true)(hx:oX X E)(he:PE X e te):PS X (.Raise (some e) none pos) (xa X.H₀ X.K E te):=by
 intro pins s σ H D I h;refine rJ (K:=X.K) (I.ok.hd hc) (thn (he pins s σ H _ I h) λu s1 ⟨v,H1,I1,r,ea,C,od,ev,h1,⟨cd,xc⟩,h0,q⟩=>?_);subst ev;obtain rfl:u=Value.ref ea:=r;obtain⟨fs,sl,a0,z,ha,hf⟩:=m7 I1.hok h1;exact⟨ea,C,cd,od,fs,sl,rfl,z,hf rfl,xc,I1.kIn,hx pins σ H1 s1 ea C od I1 h1 h0 q⟩
def eL(CX:CXT)(X:Cx)(EK:St→XK):Prop:=∀(pins:List (Addr×Obj)) (σ:St) (H:Hp) (s:Shared) (e:Value) (s':Shared),Inv X pins σ H s→CX X.stack H s (EK σ) e s'→X.xe e s'
theorem Passes.x{CX:CXT}{E:XK}(h:Passes CX X E):eL CX X (λ_=>E):=λpins σ H s e s' I q=>h pins σ H s e s' I q
def zH(sp:Sp)(dvs:List V)(EK:St→XK)(t:TA):TE:=λσ H Q=>t σ H λvs H1=>sp (vs++dvs) H1 Q (EK σ)
def vR(C:Addr)(m:Str)(sp:Sp)(dvs:List V)(EK:St→XK)(ta:TE)(t:TA):TE:=λσ H Q=>ta σ H λx H1=>∃ a dx fs,x=.ref a∧H1 a=some (.ins C dx fs)∧fs.lookup m=none ∧
 t σ H1 λvs H2=>sp (x::(vs++dvs)) H2 Q (EK σ)
def BI(C:Addr)(sp:Sp)(EK:St→XK)(t:TA):TE:=λσ H Q=>t σ H λvs H1=>∀ ea,H1 ea=none→sp (.ref ea::vs) (upd H1 ea (exo true C ea none)) (λv H2=>v=.non∧Q (.ref ea) H2) (EK σ)
variable{CX:CXT}{k:Nat}{f C:Addr}{fd:FuncData}{ps:List Str}{sp:Sp}{dvs:List V}{ds:List Value}{EK:St→XK}{x m:Str}{p pos apos:Pos}{e o:Expr}{es:List Expr}{ta:TE}{t:TA}
theorem yU{pins:List (Addr×Obj)}{σ:St}{H:Hp}{s:Shared}{Q:VK}{us:List Value}{vs:List V}(F:iH X.prog X.w X.K X.mg X.base CX k f fd ps sp)(hr:dY k X.A)(hb:Binds X.K fd ps ds)(hd:Vals dvs ds)(hx:eL CX X EK)
  (I:Inv X pins σ H s) (r:Vals vs us) (h:sp (vs++dvs) H Q (EK σ)):wpAny (model X.prog X.w) X.A (call (.ref f) us) (EP X pins σ Q) X.xe s:=by
 have r2:Vals (vs++dvs) (us++ds):=r.append hd;have hl:(us++ds).length=ps.length:=by rw[←r2.length];exact F.len _ _ _ _ h
 refine wpAny_call (codeAny_mono (F.run X.A X.stack s H ⟨us,[]⟩ (us++ds) (vs++dvs) Q (EK σ) hr I.xI (hb s us I.kIn hl) r2 h) λr s' hq=>?_);cases r with
 | error e=>exact hx pins σ H s e s' I hq
 | ok fl =>
  cases fl with
  | ret u=>exact I.after hq
  | _=>exact False.elim hq
theorem aL(F:iH X.prog X.w X.K X.mg X.base CX k f fd ps sp)(hr:dY k X.A)(hg:Gl X x)(hm:X.mg x=some (.ref f))(hk:PySem.W.keepIn X.K (.ref f)=true)(hb:Binds X.K fd ps ds)(hd:Vals dvs ds)(hx:eL CX X EK)
  (ha:PA X (e::es) t) (hdb:(x == ("__debug__" : Str))=false:=by decide) (he:starEach (e::es) X.env=(false,eval e X.env)::starEach es X.env:=by rfl) (hpl:(backTo pos (starEach es X.env)).any (·.1)=false:=by rfl) :
  PE X (.Call (.Name x p) (e::es) [] pos) (zH sp dvs EK t):=by
 intro pins s σ H Q I h;refine wpAny_Call_Name_kw (mY I hg hm ?_ hdb);exact PySem.W.callWith_K (h₀:=X.base) I.ok.mod.kin hk (thn (ha pos pins s σ H _ I h) λus s1 ⟨vs,H1,I1,r,q⟩=>⟨I1.kIn,yU F hr hb hd hx I1 r q⟩) he hpl
theorem dr{pl:Sem Bool}(he:PE X o ta)(c:Cls X.K C)(hm:Meth X.K C m f)(F:iH X.prog X.w X.K X.mg X.base CX k f fd ps sp)(hr:dY k X.A)(hb:Binds X.K fd ps ds)(hd:Vals dvs ds)(hx:eL CX X EK)(ha:PA X (e::es) t)
  (hst:starEach (e::es) X.env=(false,eval e X.env)::starEach es X.env:=by rfl) (hpl:(backTo pos (starEach es X.env)).any (·.1)=false:=by rfl)
  (ht:eval (.Call (.Attribute o m apos) (e::es) [] pos) X.env=(do
   let ov ←eval o X.env
   standAt apos.atName
   let (f,first) ←holding [ov] (getMethod ov m pl)
   callWith pos f first (backTo pos (starEach (e::es) X.env)) (backToKw pos (keywordEach [] X.env))):=by rfl) :
  PE X (.Call (.Attribute o m apos) (e::es) [] pos) (vR C m sp dvs EK ta t):=by
 intro pins s σ H Q I h;refine PySem.W.methodCall_KW (pl:=pl) (thn (he pins s σ H _ I h) λu s1 ⟨x,H1,I1,rx,a,dx,fs,ex,ea,l,q⟩=>?_) ht;subst ex;obtain rfl:u=Value.ref a:=rx;refine jA I1 ea c hm l ?_;exact PySem.W.callWith_K (first:=[.ref a]) (h₀:=X.base) I.ok.mod.kin hm.kp (thn (ha pos pins s1 σ H1 _ I1 q) λus s2 ⟨vs,H2,I2,r,q2⟩=>⟨I2.kIn,yU (us:=.ref a::us) (vs:=.ref a::vs) F hr hb hd hx I2 (.cons rfl r) q2⟩) hst hpl
theorem jW{pl:Sem Bool}(he:PE X o ta)(c:Cls X.K C)(hm:Meth X.K C m f)(F:iH X.prog X.w X.K X.mg X.base CX k f fd ps sp)(hr:dY k X.A)(hb:Binds X.K fd ps ds)(hd:Vals dvs ds)(hx:eL CX X EK)
  (ht:eval (.Call (.Attribute o m apos) [] [] pos) X.env=(do
   let ov ←eval o X.env
   standAt apos.atName
   let (f,first) ←holding [ov] (getMethod ov m pl)
   callWith pos f first (backTo pos (starEach [] X.env)) (backToKw pos (keywordEach [] X.env))):=by rfl) :
  PE X (.Call (.Attribute o m apos) [] [] pos) (vR C m sp dvs EK ta Aj):=by
 intro pins s σ H Q I h;refine PySem.W.methodCall_KW (pl:=pl) (thn (he pins s σ H _ I h) λu s1 ⟨x,H1,I1,rx,a,dx,fs,ex,ea,l,q⟩=>?_) ht;subst ex;obtain rfl:u=Value.ref a:=rx;refine jA I1 ea c hm l ?_;exact PySem.W.callWith_K0 (first:=[.ref a]) I1.kIn hm.kp (yU (us:=[.ref a]) (vs:=[.ref a]) F hr hb hd hx I1 (.cons rfl .nil) q)
structure MkX(K:W.Frag)(C f:Addr):Prop where
 cls:∃ cd,dy K C cd
 init:PySem.W.findIn K (.ref C) "__init__" = some (some (.ref f))
 fn:PySem.W.isFn K (.ref f)=true
 kp:PySem.W.keepIn K (.ref C)=true
theorem vk{pins:List (Addr×Obj)}{σ:St}{H:Hp}{s:Shared}{Q:VK}{us:List Value}{vs:List V}(M:MkX X.K C f)(F:iH X.prog X.w X.K X.mg X.base CX k f fd ps sp)(hr:dY (k+1) X.A)(hb:Binds X.K fd ps [])(hx:eL CX X EK)(hps:ps.length≤1000)
  (I:Inv X pins σ H s) (r:Vals vs us) (h:∀ ea,H ea=none→sp (.ref ea::vs) (upd H ea (exo true C ea none)) (λv H2=>v=.non∧Q (.ref ea) H2) (EK σ)) :
  wpAny (model X.prog X.w) X.A (call (.ref C) us) (EP X pins σ Q) X.xe s:=by
 have hq:=h (s.heap.objs.size+1) (I.hok.fresh (Ds _));obtain⟨cd,xc⟩:=M.cls;have r2:Vals (V.ref (s.heap.objs.size+1)::vs) (Value.ref (s.heap.objs.size+1)::us):=.cons rfl r;have hl:(Value.ref (s.heap.objs.size+1)::us).length=ps.length:=by rw[←r2.length];exact F.len _ _ _ _ hq
 have hz:us.length≤sizeLine:=by rw[CI]at hl;rw[sizeLine_eq];omega
 have I2:Inv X pins σ (upd H (s.heap.objs.size+1) (exo true C (s.heap.objs.size+1) none)) {s with heap:=fE s.heap C us}:=by
  refine I.laid (t':=s.toks) (λb u q=>Ce _ (Ce _ q)) (Ds _) (ud ⟨#[.ref s.heap.objs.size,.none,.none,.none,.bool false,.none],#[],s.heap.objs.size,?_,rfl,λ_=>rfl⟩);show(fE s.heap C us).get? (s.heap.objs.size+1)=some (qu C s.heap.objs.size);heap_get
 obtain⟨hh,g,d,tk,os⟩:=s;refine wpAny_call (sZ xc I.kIn M.init (beq_iff_eq.mp M.fn) hz (codeAny_mono (F.run _ X.stack _ _ ⟨Value.ref (hh.objs.size+1)::us,[]⟩ (Value.ref (hh.objs.size+1)::us) _ _ (EK σ) (hr.make C us []) (I2.xI.make C us [])
  (by have:=hb _ (Value.ref (hh.objs.size+1)::us) I2.kIn (by rw[DQ];exact hl);rw[DQ]at this;exact this) r2 hq) λr s' hq'=>?_))
 cases r with
 | error e=>exact hx pins σ _ _ e s' I2 hq'
 | ok fl =>
  cases fl with
  | ret u =>
   obtain⟨v,H',I3,rv,ev,q3⟩:=I2.after hq';subst ev;exact⟨rv,⟨V.ref (hh.objs.size+1),H',I3,rfl,q3⟩⟩
  | _=>exact False.elim hq'
theorem qw(M:MkX X.K C f)(F:iH X.prog X.w X.K X.mg X.base CX k f fd ps sp)(hr:dY (k+1) X.A)(hg:Gl X x)(hm:X.mg x=some (.ref C))(hb:Binds X.K fd ps [])(hx:eL CX X EK)
  (ha:PA X (e::es) t) (hps:ps.length≤1000:=by decide) (hdb:(x == ("__debug__" : Str))=false:=by decide) (he:starEach (e::es) X.env=(false,eval e X.env)::starEach es X.env:=by rfl) (hpl:(backTo pos (starEach es X.env)).any (·.1)=false:=by rfl) :
  PE X (.Call (.Name x p) (e::es) [] pos) (BI C sp EK t):=by
 intro pins s σ H Q I h;refine wpAny_Call_Name_kw (mY I hg hm ?_ hdb);exact PySem.W.callWith_K (h₀:=X.base) I.ok.mod.kin M.kp (thn (ha pos pins s σ H _ I h) λus s1 ⟨vs,H1,I1,r,q⟩=>⟨I1.kIn,vk M F hr hb hx hps I1 r q⟩) he hpl
end
theorem tj{H:Hp}{a:Addr}{o:HO}(h:H a=some o):upd H a o=H:=by
 funext b
 by_cases e:b=a
 ·rw[e,ab,h]
 ·rw[ag e]
section
variable{X:Cx}
def tVe(K:W.Frag)(t:TA):TE:=λσ H Q=>t σ H λvs H1=>∃ ea C od r,vs=.ref ea::r∧r.length≤1000∧H1 ea=some (exo true C ea od)∧(∃ cd,dy K C cd)∧Q .non H1
theorem zI{p apos pos:Pos}{e:Expr}{es:List Expr}{t:TA}{pl:Sem Bool}(hg:Gl X "ValueError")(hm:X.mg "ValueError" = none)(ha:PA X (e::es) t)
  (hst:starEach (e::es) X.env=(false,eval e X.env)::starEach es X.env:=by rfl) (hpl:(backTo pos (starEach es X.env)).any (·.1)=false:=by rfl)
  (ht:eval (.Call (.Attribute (.Name "ValueError" p) "__init__" apos) (e::es) [] pos) X.env=(do
   let ov ←eval (.Name "ValueError" p) X.env
   standAt apos.atName
   let (f,first) ←holding [ov] (getMethod ov "__init__" pl)
   callWith pos f first (backTo pos (starEach (e::es) X.env)) (backToKw pos (keywordEach [] X.env))):=by rfl) :
  PE X (.Call (.Attribute (.Name "ValueError" p) "__init__" apos) (e::es) [] pos) (tVe X.K t):=by
 intro pins s σ H Q I h;refine PySem.W.methodCall_KW (pl:=pl) (iZ I hg hm PyProof.Rows.Boot.«ValueError» ?_) ht;refine vi I.kIn ?_;refine PyProof.Rows.callWith_builtin1 (thn (ha pos pins _ σ H _ (I.tok _) h) λus s1 ⟨vs,H1,I1,r,ea,C,od,rr,ev,hl,h1,⟨cd,xc⟩,q⟩=>?_) hst hpl;subst ev;cases r with
 | @cons _ u _ us' r1 r2 =>
 obtain rfl:u=Value.ref ea:=r1;obtain⟨fs,sl,a0,z,ha,hf⟩:=m7 I1.hok h1;have hz:us'.length≤sizeLine:=by rw[←r2.length,sizeLine_eq];omega
 have I2:Inv X pins σ H1 {s1 with heap:=s1.heap.push (gQ us')}:=I1.kept (t':=s1.toks) λb u q=>Ce _ q;have z2:=Ce (h:=s1.heap) (gQ us') z;have hs0:0<fs.size:=(CW.mp ha).1;have I3:Inv X pins σ (upd H1 ea (exo true C ea od)) {s1 with heap:=(s1.heap.push (gQ us')).update ea (Obj.mapFields (·.setIfInBounds 0 (.ref s1.heap.objs.size)))}:=by
  refine I2.write (x:=ea) (e:=ea) (t':=s1.toks) (by rw[h1];exact True.intro) (.inl rfl) (λb u hb q=>(CU _ _ (CV hb)).trans q) ⟨_,jD z2⟩ (ud ⟨_,_,s1.heap.objs.size,jD z2,by simp[hs0],λ_=>?_⟩)
  have:=hf rfl
  simpa using this
 rw[tj h1]at I3;obtain⟨hh,g,d,tk,os⟩:=s1;exact nX xc I1.kIn z ha hz ⟨.non,H1,I3,rfl,q⟩
abbrev TF:=St→Hp→(Hp→Prop)→Prop
def PF(X:Cx)(e:Expr)(t:TF):Prop :=
 ∀(pins:List (Addr×Obj)) (s:Shared) (σ:St) (H:Hp) (Q:Hp→Prop),Inv X pins σ H s→t σ H Q→wpAny (model X.prog X.w) X.A (eval e X.env) (λv s1=>∃ y tk H1,v=.str y tk∧y.length≤2000∧Inv X pins σ H1 s1∧Q H1) X.xe s
def PFs(X:Cx)(es:List Expr)(t:TF):Prop :=
 ∀(out:Str) (pins:List (Addr×Obj)) (s:Shared) (σ:St) (H:Hp) (Q:V→Hp→Prop),out.length+2000*es.length≤100000→Inv X pins σ H s→t σ H (λH1=>∀ y,y.length≤100000→Q (.str y) H1) →
  wpAny (model X.prog X.w) X.A (joinParts out (evalEach es X.env)) (EP X pins σ Q) X.xe s
def vS:TF:=λ_ H Q=>Q H
def BJ(te:TE):TF:=λσ H Q=>te σ H λv H1=>∃ i,v=.int i∧i.natAbs.log2<1920∧Q H1
def xb(t u:TF):TF:=λσ H Q=>t σ H λH1=>u σ H1 Q
theorem oY:(100000:Nat)≤sizeLine:=by rw[sizeLine_eq];omega
theorem jF{x j pos}(hl:x.length≤2000:=by decide +kernel):PF X (.Constant (.str x) j pos) vS:=λ_ _ _ H _ I h=>Calls.Constant_str ⟨_,_,H,rfl,hl,I.tok _,h⟩
theorem nI{e:Expr}{te:TE}{pos:Pos}(he:PE X e te):PF X (.FormattedValue e (-1) none pos) (BJ te):=by
 intro pins s σ H Q I h;refine FormattedValue_plain (thn (he pins s σ H _ I h) λu s1 ⟨v,H1,I1,r,i,ev,hi,q⟩=>?_);subst ev;obtain⟨t,rfl⟩:=(show ∃ t,u=Value.int i t from r);exact formatField_int_small hi ⟨_,_,H1,rfl,CK (int_text_len_1921 hi) (by decide),I1.tok _,q⟩
theorem m8:PFs X [] vS:=λout pins s σ H Q hl I h =>
 joinParts_nil ⟨.str out,H,I.tok _,⟨_,rfl⟩,h out (by simpa using hl)⟩ (CK (by simpa using hl) oY)
theorem dR{e:Expr}{es:List Expr}{t u:TF}(h1:PF X e t)(h2:PFs X es u):PFs X (e::es) (xb t u):=by
 intro out pins s σ H Q hl I h;rw[CI]at hl;refine joinParts_consE (joinParts_cons (thn (h1 pins s σ H _ I h) λv s1 ⟨y,tk,H1,ev,hy,I1,q⟩=>?_));subst ev;have hz:(out++y).length+2000*es.length≤100000:=by rw[strLen_append];omega
 exact⟨CK (by omega) oY,h2 (out++y) pins s1 σ H1 Q hz I1 q⟩
def zJ(t:TF):TE:=λσ H Q=>t σ H λH1=>∀ y,y.length≤100000→Q (.str y) H1
theorem m9{e e':Expr}{es:List Expr}{t:TF}{pos:Pos}(h:PFs X (e::e'::es) t)(hl:2000*(e::e'::es).length≤100000:=by decide):PE X (.JoinedStr (e::e'::es) pos) (zJ t) :=
 λpins s σ H Q I q=>JoinedStr_many (h Str.empty pins s σ H Q (by have z:Str.empty.length=0:=rfl;rw[z];omega) I q)
end
section
variable{X:Cx}{pins:List (Addr×Obj)}{σ:St}{H:Hp}{s:Shared}{E:Value→Shared→Prop}{ea:Addr}
end
section
variable{X:Cx}
end
section
variable{X:Cx}
end
theorem au.upd{H:Hp}{a:Addr}{o:HO}(h:H a=none):au H (L2.upd H a o):=λb u q=>by rw[ag λe=>by rw[e,h]at q;cases q];exact q
structure yV(K:W.Frag)(C:Addr):Prop where
 cls:∃ cd,dy K C cd
 get:BG K C
 own:PySem.W.findIn K (.ref C) "__class__" = some (some (.builtin "object.__class__"))
def vm(K:W.Frag):Sp:=λvs H Q _=>∃ ea C od x,vs=[.ref ea,x]∧H ea=some (exo true C ea od)∧(∃ cd,dy K C cd)∧Q .non H
theorem cq{P:Program}{w:World}{X:Cx}:eL (CXE P w) X.nox (λ_ _ _ _=>False):=λ_ _ _ _ _ _ _ ⟨_,_,_,_,_,_,_,_,_,q⟩=>q.elim
theorem rK{n:Int}(h:n.natAbs<2 ^ 1920):n.natAbs.log2<1920:=by
 by_cases z:n.natAbs=0
 ·rw[z];decide
 ·exact(Nat.log2_lt z).mpr h
theorem zK{P:Program}{w:World}{outer:List Env}{H:Hp}{s:Shared}{e:Value}{s':Shared}(h:CXE P w outer H s (λ_ _ _=>False) e s'):False:=by
 obtain⟨_,_,_,_,_,_,_,_,_,q⟩:=h;exact q
def uI(xs ys:List V):Bool:=(List.range xs.length).all λj=>eqV (xs.getD j .non) (ys.getD j .non)
def BK(K:W.Frag):R2:=λx y H Q=>∃ a b xs ys,x=.ref a∧y=.ref b∧SqL K H a xs∧SqL K H b ys∧xs.length=ys.length∧xs.all dj=true∧ys.all dj=true∧Q (.bl (uI xs ys)) H
theorem xf{X:Cx}(hu:X.A.units<cLine):OpR X (compareOp .Eq) (BK X.K):=by
 intro pins s σ H x y v u Q I rx ry h;obtain⟨a,b,xs,ys,rfl,rfl,ha,hb,hl,fx,fy,q⟩:=h;cases rx;cases ry;obtain⟨vs,r1,⟨o1,n1,e1,c1,_,g1⟩,_⟩:=I.list ha;obtain⟨ws,r2,⟨o2,n2,e2,c2,_,g2⟩,_⟩:=I.list hb;have l1:=r1.length;have l2:=r2.length;refine SeqAt.eq_listAt (e:=λj=>eqV (xs.getD j .non) (ys.getD j .non)) ⟨o1,e1,c1,n1,g1⟩ ⟨o2,e2,c2,n2,g2⟩ (by simp only[Cj];omega) hu (λj h1 h2=>?_) ⟨.bl _,H,I,rfl,?_⟩
 ·simp only[Cj]at h1 h2
  obtain⟨w1,z1,rz1⟩:=r1.get (i:=j) (x:=xs[j]'(by omega)) (Cc (by omega));obtain⟨w2,z2,rz2⟩:=r2.get (i:=j) (x:=ys[j]'(by omega)) (Cc (by omega));have a1:vs.toArray[j]=w1:=by
   have:=(Cd.mp z1).2
   simpa using this
  have a2:ws.toArray[j]=w2:=by
   have:=(Cd.mp z2).2
   simpa using this
  rw[a1,a2];have d1:xs.getD j .non=xs[j]'(by omega):=by simp[List.getD,Cc (show j<xs.length by omega)]
  have d2:ys.getD j .non=ys[j]'(by omega):=by simp[List.getD,Cc (show j<ys.length by omega)]
  show SeqAt.EqAt _ _ _ _ (eqV (xs.getD j .non) (ys.getD j .non));rw[d1,d2];exact nC rz1 rz2 (DE.mp fx _ (DF _)) (DE.mp fy _ (DF _))
 ·have:vs.toArray.size=xs.length:=by simp only[Cj];omega
  rw[this];exact q
section
variable{X:Cx}
variable{o e value:Expr}{f:Str}{pos pos':Pos}{ta tv:TE}
end
theorem hX{prog:Program}{w:World}{A:Around}{R:Result→Shared→Prop}{s:Shared}{elt target iter:Expr}{scope:Scope}{pos:Pos}{it acc:Value}{env:Env}(I:Nat→Shared→Prop)
  (turn:∀ n s,I n s→wpAny (model prog w) A (pyNext it) (λr s₁=>match r with
   | none=>R (.ok .next) s₁
   | some v=>wpAny (model prog w) A (letOwnedTupleGo target it v) (λ_ s5=>wpAny (model prog w) A (assign target env v) (λ_ s₂=>wpAny (model prog w) A (eval elt env) (λx s₃ =>
     wpAny (model prog w) A (call (.builtin "list.append") [acc,x]) (λ_ s₄=>∃ m,m<n∧I m s₄) (notedBy (model prog w) A env λe s'=>R (.error e) s') s₃)
     (notedBy (model prog w) A env λe s'=>R (.error e) s') s₂) (notedBy (model prog w) A env λe s'=>R (.error e) s') s5) (notedBy (model prog w) A env λe s'=>R (.error e) s') s₁) (notedBy (model prog w) A env λe s'=>R (.error e) s') s)
  (n:Nat) (h:I n s):codeAny (model prog w) A (.compLoop (.ListComp elt [⟨target,iter,[],0⟩] scope pos) 0 it acc env) R s:=by
 refine codeAny_loop rfl I (λn s hI=>?_) n h;show wpAny _ _ ((compTurn (.ListComp elt [⟨target,iter,[],0⟩] scope pos) 0 it acc env).onRaise (λx=>do noteFrame x env;theTreesLotGoes x)) _ _ s
 refine wpAny_noted ?_;rw[compTurn_list1];refine wpAny_bind (wpAny_standAt (wpAny_bind (wpAny_mono (turn n s hI) (λr s₁ h₁=>?_) λ_ _ h'=>h')));cases r with
 | none=>exact wpAny_pure h₁
 | some v =>
  refine wpAny_bind (wpAny_mono h₁ (λ_ s5 h5=>?_) λ_ _ h'=>h');exact wpAny_bind (wpAny_mono h5 (λ_ s₂ h₂=>wpAny_bind (wpAny_bind (wpAny_mono h₂ (λx s₃ h₃=>wpAny_bind (wpAny_mono h₃
   (λ_ s₄ h₄=>wpAny_pure (wpAny_pure ⟨rfl,h₄⟩)) λ_ _ h'=>h')) λ_ _ h'=>h'))) λ_ _ h'=>h')
abbrev cxC(X:Cx)(scope:Scope)(cl:List (Str×Addr))(NC:List Str)(C:Addr)(fp:List Addr)(s₀:Shared)(H₀:Hp):Cx :=
 {X with N:=NC,s₀:=s₀,H₀:=H₀,env:=compEnvC scope cl C X.env,outer:=X.stack,ex:=fp,fn:=λ_=>false,pn:=[],xe:=λ_ _=>False}
def ix(σ:St)(idx:List Nat):St:=idx.map λi=>(σ[i]?).getD none
structure nJ(X:Cx)(scope:Scope)(cl:List (Str×Addr))(x:Str)(idx:List Nat)(NC:List Str):Prop where
 vT:closureFor scope X.env=pure cl
 sub:∀ y c,cl.lookup y=some c→X.env.cells.lookup y=some c
 has:∀ y,((relabel scope X.env).names.lookup y=some .cell∨(relabel scope X.env).names.lookup y=some .free)→∃ c,cl.lookup y=some c
 nK:∀ y∈scope.names,y.2≠.cell
 kind:scope.kind=.function
 loc:∀ y∈scope.names,y.2=.local→scope.names.lookup y.1=some .local
 xl:scope.names.lookup x=some .local
 nc:NC=x::idx.map λi=>X.N.getD i x
 nd:NC.Nodup
 cap:∀ i∈idx,i<X.N.length∧((X.env.scope.names.lookup (X.N.getD i x)=some .cell∨X.env.scope.names.lookup (X.N.getD i x)=some .free)∧((relabel scope X.env).names.lookup (X.N.getD i x)=some .cell∨(relabel scope X.env).names.lookup (X.N.getD i x)=some .free))
section
variable{X:Cx}{scope:Scope}{cl:List (Str×Addr)}{x:Str}{idx:List Nat}{NC:List Str}{C:Addr}{fp:List Addr}{pins:List (Addr×Obj)}{σ:St}{H:Hp}{s:Shared}
theorem oZ{h1:Heap}{t':Nat}(c:nJ X scope cl x idx NC)(I:Inv X pins σ H s)(hf:∀ b∈fp,lC X pins H b)(hlt:∀ b∈fp,b<s.heap.objs.size)(ns:h1.Ns s.heap.objs.size (λ_=>none))
  (k:∀ b o,s.heap.get? b=some o→h1.get? b=some o):Inv (cxC X scope cl NC s.heap.objs.size fp s H) [] (none::ix σ idx) H {s with heap:=h1,toks:=t'}:=by
 have sub:∀ b,b∈frs X.stack→b∈X.env.locals::X.fs:=I.iY;refine⟨⟨I.ok.mod,c.kind,I.ok.glob,I.ok.blt,Cg _,λy z a h1 h2=>I.ok.inj y z a (c.sub _ _ h1) (c.sub _ _ h2),c.has,λy a z=>(by cases z),I.ok.hd,I.ok.frames,.inl rfl,λb hb=>⟨Cv (hlt b hb),λy a q=>(hf b hb).2.2.2.2.1 y a (c.sub _ _ q)⟩,
  λb o q=>I.bs b o q,CK I.ok.bsz I.sz,λb o q hb=>?_,λb hb z=>?_,I.stack,I.gN⟩,rfl,I.bare,Un.kept k,⟨_,ns,λi y v e1 e2 e3=>?_⟩,λy a q=>?_,I.hok.fresh (Cg _),λy a q=>I.gH _ _ (c.sub _ _ q),λp hp=>(by cases hp),I.hok.keeps λb u o _ q=>k b o q,?_⟩
 ·rcases(hf b hb).2.2.2.1 with z|z
  ·exact I.ok.uW b o q z
  ·exact absurd (Cu (Cr (I.ok.bs b o q).1) z) (C6 _)
 ·rcases Cw.mp (sub b z) with r|r
  ·exact(hf b hb).2.1 r
  ·exact(hf b hb).2.2.1 r
 ·cases i with
  | zero=>cases e2
  | succ j =>
   have e1':(idx.map λi=>X.N.getD i x)[j]?=some y:=by
    have:(cxC X scope cl NC s.heap.objs.size fp s H).N=NC:=rfl
    rw[this,c.nc]at e1;exact e1
   have e2':(ix σ idx)[j]?=some (some v):=e2;rw[Cq]at e1';unfold ix at e2';rw[Cq]at e2';cases ei:idx[j]? with
   | none=>rw[ei]at e1';cases e1'
   | some i =>
    rw[ei]at e1' e2';simp only[Df,Option.some.injEq]at e1' e2';obtain⟨hi,h2,h3⟩:=c.cap i (Ct ei);rw[e1']at h2 h3;have hN:X.N[i]?=some y:=by
     rw[←e1'];simp[List.getD,Cc hi]
    have hσ:σ[i]?=some (some v):=by
     cases q:σ[i]? with
     | none=>rw[q]at e2';cases e2'
     | some o=>rw[q]at e2';simp only[Dr]at e2';rw[e2']
    obtain⟨m,hn,hl⟩:=I.loc;obtain⟨u,r,l⟩:=hl i y v hN hσ (h2.elim (λz=>.inr (.inl z)) λz=>.inr (.inr z));refine⟨u,r,.inr ⟨h3,?_⟩⟩;rcases l with⟨l,_⟩|⟨_,a,ha,hc⟩
    ·exfalso
     have l':X.env.scope.names.lookup y=some .local:=l;rcases h2 with z|z<;>(rw[l']at z;cases z)
    ·obtain⟨a',ha'⟩:=c.has y h3
     have:=c.sub _ _ ha'
     rw[ha]at this;cases this;exact⟨a,ha',hc.keeps k⟩
 ·obtain⟨v,z⟩:=I.cell _ _ (c.sub _ _ q)
  exact⟨v,z.keeps k⟩
 ·show _=NC.length
  rw[c.nc];simp[ix]
def nL(J:It)(D:Addr)(τ:St)(te:TE)(Q:VK)(H:Hp):Prop:=∃ W:Nat→Nat→List V→Hp→Prop,(∃ m,W 0 m [] H)∧∀ i m ys H2,W i m ys H2→H2 D=some (.lst ys) ∧
 ((J.stop i H2∧Q (.ref D) H2)∨(J.go i H2∧ys.length<sizeLine∧∃ N:List V→Hp→Prop,(∀ zs H',N zs H'→∃ m',m'<m∧W (i+1) m' zs H')∧∀ y H3,J.yld i H2 y H3→te (some y::τ) H3 λv H4=>H4 D=some (.lst ys)∧N (ys++[v]) (upd H4 D (.lst (ys++[v])))))
def vU(wi:TI)(idx:List Nat)(te:TE):TE:=λσ H Q=>wi σ H λJ H1=>∀ D,H1 D=none→nL J D (ix σ idx) te Q (upd H1 D (.lst []))
theorem pb{X:Cx}{pins:List (Addr×Obj)}{σ:St}{H:Hp}{s:Shared}{D:Addr}{ys:List V}{v:V}{u:Value}(I:Inv X pins σ H s)(h:H D=some (.lst ys))(hz:ys.length<sizeLine)(r:RelV v u) :
  wpAny (model X.prog X.w) X.A (call (.builtin "list.append") [.ref D,u]) (λ_ s'=>Inv X pins σ (upd H D (.lst (ys++[v]))) s') X.xe s:=by
 refine thn (eE pins s σ H (.ref D) [v] (.ref D) [u] (λ_ H'=>H'=upd H D (.lst (ys++[v]))) I rfl (.cons r .nil) ⟨D,ys,v,rfl,rfl,h,hz,rfl⟩) λw s' ⟨_,H',I',_,e⟩=>?_;rw[←e];exact I'
theorem gb{elt iter:Expr}{px pos:Pos}{wi:TI}{te:TE}(c:nJ X scope cl x idx NC)(hc:X.calm=true)(hi:PI X (.Name x px) iter wi)(he:∀ C fp s₀ H₀,PE (cxC X scope cl NC C fp s₀ H₀) elt te)
  (hs:∀ x,foldedSetIterable iter X.env x=pure x:=by intro _;rfl):PE X (.ListComp elt [⟨.Name x px,iter,[],0⟩] scope pos) (vU wi idx te):=by
 intro pins s σ H Q I h;rw[eval_ListComp];refine wpAny_comprehension_free (use:=none) rfl hs c.vT c.kind c.loc (thn (hi pins s σ H _ I h) λv s1 h1=>thn h1 λitv s2 h2=>?_);obtain⟨it,fp,tn,J,H2,rfl,I2,T,st2,f2,q⟩:=h2;refine wpAny_newObj_type (wpAny_newFunctionEnv c.nK (by intro y hy;simp at hy) (λh₁ hns₁ hsb₁=>?_) c.kind);dsimp only at hns₁ hsb₁ ⊢;have I3:Inv X pins σ (upd H2 s2.heap.objs.size (.lst [])) {s2 with heap:=s2.heap.push {cls:=.type "list",data:=.seq ([]:List Value).toArray},toks:=s2.toks}:=I2.xM (ys:=[]) (its:=[]) .nil (CG _);obtain⟨W,⟨m0,w0⟩,turn⟩:=q s2.heap.objs.size I2.fresh;generalize hD:s2.heap.objs.size=D at *;generalize hH:s2.heap.push {cls:=.type "list",data:=.seq ([]:List Value).toArray}=h3 at *;have vn:∀ b∈fp,b<D:=λb hb=>by
  obtain⟨o,e,_⟩:=T.obj _ _ st2 b hb;rw[←hD];exact Cr e
 have hlt:∀ b∈fp,b<h3.objs.size:=λb hb=>by
  rw[←hH,Dz,hD];exact Nat.lt_succ_of_lt (vn b hb)
 have hf:∀ b∈fp,lC X pins (upd H2 D (.lst [])) b:=λb hb=>⟨by rw[ag (Cv (vn b hb))];exact(f2 b hb).1,(f2 b hb).2⟩;have kp:∀ b o,h3.get? b=some o→h₁.get? b=some o:=λb o e=>hsb₁.extBut b o (Cv (Cr e)) (Ce _ e);have I4:Inv (cxC X scope cl NC h3.objs.size fp {s2 with heap:=h3,toks:=s2.toks} (upd H2 D (.lst []))) [] (none::ix σ idx) (upd H2 D (.lst [])) {s2 with heap:=h₁,toks:=s2.toks+([]:List (Str×Value)).length} :=
  oZ (s:={s2 with heap:=h3,toks:=s2.toks}) c I3 hf hlt hns₁ kp
 have mZ:∀ {H':Hp},(∀ b∈fp,H' b=none)→∀ b∈fp,lC (cxC X scope cl NC h3.objs.size fp {s2 with heap:=h3,toks:=s2.toks} (upd H2 D (.lst []))) [] H' b:=λhn b hb =>
  ⟨hn b hb,Cv (hlt b hb),λz=>(Cw.mp (I3.iY b z)).elim (hf b hb).2.1 (hf b hb).2.2.1,.inl hb,λy a q=>(hf b hb).2.2.2.2.1 y a (c.sub _ _ q),λp hp=>(by cases hp)⟩
 have st1:tn 0 h₁:=T.keep 0 _ _ st2 λb hb o e=>kp b o (by rw[←hH];exact Ce _ e);have loop:∀ s4:Shared,s4={s2 with heap:=h₁,toks:=s2.toks+([]:List (Str×Value)).length} →
   codeAny (model X.prog X.w) X.A (.compLoop (.ListComp elt [⟨.Name x px,iter,[],0⟩] scope pos) 0 (.ref it) (.ref D) (compEnvC scope cl h3.objs.size X.env)) (compPost (model X.prog X.w) X.A X.xe none (EP X pins σ Q) (.ref D) h3.objs.size) s4:=by
  rintro s4 rfl;refine hX (λn s'=>∃ i ys H' v0,Inv (cxC X scope cl NC h3.objs.size fp {s2 with heap:=h3,toks:=s2.toks} (upd H2 D (.lst []))) [] (v0::ix σ idx) H' s'∧tn i s'.heap∧(∀ b∈fp,H' b=none)∧W i n ys H')
   ?_ m0 ⟨0,[],_,none,I4,st1,λb hb=>(hf b hb).1,w0⟩
  rintro n s5 ⟨i,ys,H5,v0,I5,st5,fr5,w5⟩;obtain⟨hDl,alt⟩:=turn i n ys H5 w5;rcases alt with⟨stop,qn⟩|⟨go,hz,N,hN,step⟩
  ·refine thn (T.done (cxC X scope cl NC h3.objs.size fp {s2 with heap:=h3,toks:=s2.toks} (upd H2 D (.lst []))) rfl rfl rfl hc i [] s5 _ H5 _ I5 (mZ fr5) st5 stop) λr s6 ⟨hr,I6⟩=>?_
   subst hr;obtain⟨m,ns6,_⟩:=id I6.loc;refine⟨m,ns6,λh' hs'=>⟨.ref D,H5,?_,rfl,qn⟩⟩;have J6:Inv X pins σ H5 s6:=I3.sh (ch:=fp) I6.os I6.base I6.hok I6.bare λb hb=>⟨(hf b hb).2.2.2.1,(hf b hb).2.1,(hf b hb).2.2.2.2.1,(hf b hb).2.2.2.2.2⟩;refine J6.turned (t':=s6.toks) (it:=h3.objs.size) (λb o hb e=>hs'.extBut b o hb e) I6.free (C7 I3.lt) (.inr I3.sz) (λy a q z=>?_) (λp hp z=>?_)
   ·obtain⟨v,q'⟩:=I3.cell y a q
    exact absurd q'.lt (by rw[z];exact C6 _)
   ·exact absurd (Cr (I3.pin p hp).1) (by rw[z];exact C6 _)
  ·refine thn (T.item (cxC X scope cl NC h3.objs.size fp {s2 with heap:=h3,toks:=s2.toks} (upd H2 D (.lst []))) rfl rfl rfl hc i [] s5 _ H5 _ I5 (mZ fr5) st5 go) λr s6 ⟨u,hr,h6⟩=>?_
   subst hr;refine thn h6 λ_ s7 ⟨y,H7,I7,r7,y7,st7,fr7⟩=>?_;have I7':=I7.pinned (mZ fr7) (T.obj _ _ st7);have hnl:(relabel scope X.env).names.lookup x=some .local:=lookup_relabel_local c.xl;refine wpAny_mono (aE (X:=cxC X scope cl NC h3.objs.size fp {s2 with heap:=h3,toks:=s2.toks} (upd H2 D (.lst []))) (i:=0) (x:=x) (pos:=px) c.nd (by show NC[0]?=some x;rw[c.nc];rfl) (.inl hnl) (.inr hnl) _ s7 _ H7 y u
    (λσ' H'=>σ'=some y::ix σ idx∧H'=H7) I7' r7 ⟨rfl,rfl⟩) (λ_ s8 ⟨σ8,H8,I8,e8,e8'⟩=>?_) λ_ _ z=>z.elim
   subst e8 e8';refine wpAny_mono (he _ _ _ _ _ s8 _ H8 _ I8 (step y H8 y7)) (λw s9 ⟨v,H9,I9,r9,hD9,n9⟩=>?_) λ_ _ z=>z.elim;obtain⟨m',hm,w9⟩:=hN _ _ n9;refine wpAny_mono (pb (X:=(cxC X scope cl NC h3.objs.size fp {s2 with heap:=h3,toks:=s2.toks} (upd H2 D (.lst [])))) I9 hD9 hz r9) (λ_ s10 I10=>?_) λ_ _ z=>z.elim;refine⟨m',hm,i+1,ys++[v],_,some y,I10.fJ,T.keep _ _ _ st7 λb hb o e=>(I10.pin (b,o) (Ci _ (Ci _ (cS hb e)))).1,λb hb=>?_,w9⟩;obtain⟨o,e,d⟩:=T.obj _ _ st7 b hb;exact(I10.pin (b,o) (Ci _ (Ci _ (cS hb e)))).2.1
 exact codeAny_compStart_list (loop _ rfl) (T.self _ 0 _ _ _ st1 (loop _ rfl))
end
section
variable{X:Cx}
variable{scope:Scope}{cl:List (Str×Addr)}{x:Str}{idx:List Nat}{NC:List Str}{C:Addr}{fp:List Addr}{pins:List (Addr×Obj)}{σ:St}{H:Hp}{s:Shared}
end
def Ite(K:W.Frag)(a:Addr):It :=
 ⟨λi H=>∃ xs x,SqL K H a xs∧xs[i]?=some x,λi H y H'=>∃ t x,H t=none∧y=.ref t∧(∀ xs,SqL K H a xs→xs[i]?=some x)∧H'=upd H t (.tup [.int (i:Int),x]),λi H=>∃ xs,SqL K H a xs∧xs.length≤i⟩
theorem rL{P:Program}{w:World}{K:W.Frag}{es:List Expr}{x1:Nat}{pos:Pos}(a it e:Addr)(hne:e≠it) :
  Turn P w K (.Tuple es x1 pos) (Ite K a) [e,it] e (λi h=>∃ old,IsEnum h e it i old∧h.IsListIter it a i) where
 mem:=by simp
 obj:=λi h st b hb=>by
  obtain⟨old,h1,o,q,c,d⟩:=st;rcases Cw.mp hb with z|z
  ·rw[z]
   exact⟨_,h1,λv z=>by
    have z':Data.fields _=Data.cell v:=z;cases z'⟩
  ·rw[Cf.mp z]
   exact⟨o,q,λv z=>by rw[d]at z;cases z⟩
 keep:=λi h h' st k=>by
  obtain⟨old,h1,h2⟩:=st;exact⟨old,k e (by simp) _ h1,h2.at λo q=>k it (by simp) o q⟩
 item:=by
  intro X hP hw hK hc i pins s σ H E I hf st hg;subst hP hw hK;obtain⟨xs,x,hq,hx⟩:=hg;obtain⟨its,rv,p,hz⟩:=I.list hq;obtain⟨u,hu,ru⟩:=rv.get hx;obtain⟨old,he,hit⟩:=st;have fr:H s.heap.objs.size=none:=I.hok.fresh (Cg _);refine wpAny_pyNext_enum_item he hit p.isList (x:=u) (by simpa using hu) hne λh1 heo hit1 ht1 hz1 hk1=>⟨_,rfl,wpAny_letOwnedTupleGo_enum heo λh2 he2 hs2=>?_⟩;replace hs2:Heap.SameBut e h1 h2:=hs2;have hel:e<s.heap.objs.size:=Cr he;have k2:∀ b o,b≠e→b≠it→s.heap.get? b=some o→h2.get? b=some o:=λb o z1 z2 q=>(hs2.2 b z1).trans (hk1 b o z1 z2 q);have ht2:h2.get? s.heap.objs.size=some {cls:=.type "tuple",data:=.seq #[.int i s.toks,u]}:=(hs2.2 _ (C7 hel)).trans ht1;have BL:h2.IsListIter it a (i+1):=hit1.extBut hs2.extBut (CV hne);have nt:∀ b o,s.heap.get? b=some o→b≠s.heap.objs.size:=λb o q=>Cv (Cr q);have nh:∀ b v,H b=some v→b≠s.heap.objs.size:=λb v q=>ae q fr;have ne':∀ b v,H b=some v→b≠e∧b≠it:=λb v q=>⟨ae q (hf e (by simp)).1,ae q (hf it (by simp)).1⟩;refine⟨.ref s.heap.objs.size,upd H s.heap.objs.size (.tup [.int (i:Int),x]),?_,rfl,⟨_,x,fr,rfl,λys hy=>by rw[I.oM hy hq];exact hx,rfl⟩,⟨_,he2,BL⟩,λb hb=>?_⟩
  ·refine Inv.step (s:=s) (h':=h2) (t':=s.toks+1) (H:=H) (g':=s.gens) (d':=s.drawn) (ch:=[e,it]) I (λb hb=>⟨(hf b hb).2.2.2.1,(hf b hb).2.1,(hf b hb).2.2.2.2.1,(hf b hb).2.2.2.2.2⟩)
    (λb o _ _ z q _=>k2 b o (λy=>z (by simp[y])) (λy=>z (by simp[y])) q) (λb o _ _ z q _=>⟨o.slots,k2 b o (λy=>z (by simp[y])) (λy=>z (by simp[y])) q⟩)
    (λb o _ q n=>by rw[ag (nt b o q)];exact n) (λb o z q=>⟨o,k2 b o (λy=>z (by simp[y])) (λy=>z (by simp[y])) q⟩)
    (λb xs q=>by rw[ag (nh b _ q)];exact q) (λb o v q=>by rw[ag (nh b _ q)];exact q) (λb ps q=>⟨#[],by rw[ag (nh b _ q),q];simp⟩) (λm hm=>?_) (λb v q=>?_) I.bare
   ·obtain⟨o,es',ep,ho,r⟩:=hm
    exact⟨o,es',ep,k2 _ o (CV (hf e (by simp)).2.1) (CV (hf it (by simp)).2.1) ho,r⟩
   ·by_cases z:b=s.heap.objs.size
    ·subst z
     rw[ab]at q;cases q;exact⟨by show 2≤sizeLine;decide,[.int i s.toks,u],.cons ⟨_,rfl⟩ (.cons ru .nil),_,ht2,rfl,_,rfl⟩
    ·rw[ag z]at q
     refine(I.hok b v q).mX (λc o hc w=>?_) (λc w=>by rw[ag (nh c _ w)];exact w) λc xs w=>by rw[ag (nh c _ w)];exact w
     rcases hc with y|y
     ·rw[y]at w ⊢
      exact k2 b o (ne' b v q).1 (ne' b v q).2 w
     ·exact k2 c o (ne' c _ y).1 (ne' c _ y).2 w
  ·have hb':b<s.heap.objs.size:=by
    rcases Cw.mp hb with z|z
    ·rw[z];exact hel
    ·rw[Cf.mp z]
     obtain⟨o,q,_⟩:=hit;exact Cr q
   rw[ag (Cv hb')];exact(hf b hb).1
 done:=by
  intro X hP hw hK hc i pins s σ H E I hf st hg;subst hP hw hK;obtain⟨xs,hq,hx⟩:=hg;obtain⟨its,rv,p,hz⟩:=I.list hq;obtain⟨f0,f1,f2,f3,f4,f5⟩:=hf it (by simp);have hl:=rv.length;obtain⟨old,he,hit⟩:=st;exact wpAny_pyNext_enum_end (I.ok.hd hc) he hit p.isList (by simp;omega) λh' eb=>⟨rfl,I.turned (t':=s.toks) (λb o hb q=>eb b o hb q) f0 f1 f3 f4 f5⟩
 self:=λA i s Q E st h=>by
  obtain⟨old,he,hit⟩:=st;exact wpAny_pyIter_enum he h
section
variable{X:Cx}{es:List Expr}{x1:Nat}{tp:Pos}
def zL(K:W.Frag)(ta:TA):TI:=λσ H R=>ta σ H λvs H1=>∃ a,vs=[.ref a]∧(∃ xs,SqL K H1 a xs)∧R (Ite K a) H1
theorem jG{a:Expr}{ta:TA}{p pos:Pos}(hg:Gl X "enumerate")(hm:X.mg "enumerate" = none)(ha:PA X [a] ta)(hs:starEach [a] X.env=[(false,eval a X.env)]:=by rfl):PI X (.Tuple es x1 tp) (.Call (.Name "enumerate" p) [a] [] pos) (zL X.K ta):=by
 intro pins s σ H R I h;refine Call_ (iZ I hg hm PyProof.Rows.Boot.«enumerate» (PyProof.Rows.callWith_type1 (thn (ha pos pins s σ H _ I h) λus s1 ⟨vs,H1,I1,r1,q1⟩=>?_) hs rfl));obtain⟨l,e,⟨xs,hq⟩,q⟩:=q1;subst e;cases r1 with
 | cons r rr =>
  cases rr;cases r;obtain⟨its,rv,pl,hz⟩:=I1.list hq;refine call_enumerate_list pl.isList λh' he hit hsz hk=>?_;refine wpAny_pyIter_enum he ?_;refine⟨s1.heap.objs.size+1,[s1.heap.objs.size+1,s1.heap.objs.size],_,_,H1,rfl,I1.kept (t':=s1.toks) hk,rL l s1.heap.objs.size (s1.heap.objs.size+1) (Nat.succ_ne_self _),⟨_,he,hit⟩,λb hb=>?_,q⟩;have hb':s1.heap.objs.size≤b:=by
   rcases Cw.mp hb with z|z
   ·rw[z];exact Ds _
   ·rw[Cf.mp z]
    exact Cg _
  exact I1.uY hb' (I1.hok.fresh hb')
end
theorem ij{K:W.Frag}{a:Addr}{xs:List V}{g:TG}{tb:TS}{D:Ends}{σ:St}{H:Hp}(Pv:Nat→St→Hp→Prop)(h0:Pv 0 σ H)(hl:∀ i σ H,i≤xs.length→Pv i σ H→SqL K H a xs)
  (hs:∀ i x σ H t,xs[i]?=some x→Pv i σ H→H t=none→g (.ref t) σ (upd H t (.tup [.int (i:Int),x])) λσ2 H2=>tb {D with nx:=Pv (i+1),ct:=Pv (i+1),bk:=D.nx} σ2 H2) (hd:∀ σ H,Pv xs.length σ H→D.nx σ H) :
  ∃ W:Nat→Nat→St→Hp→Prop,(∃ m,W 0 m σ H)∧∀ i m σ H,W i m σ H →
   ((Ite K a).stop i H∧D.nx σ H)∨((Ite K a).go i H∧∃ N:St→Hp→Prop,(∀ σ' H',N σ' H'→∃ m',m'<m∧W (i+1) m' σ' H')∧∀ x H',(Ite K a).yld i H x H'→g x σ H' λσ2 H2=>tb {D with nx:=N,ct:=N,bk:=D.nx} σ2 H2):=by
 refine⟨λi m σ H=>m=xs.length-i∧i≤xs.length∧Pv i σ H,⟨xs.length,by simp,CG _,h0⟩,?_⟩;rintro i m σ H ⟨rfl,hi,p⟩;by_cases hlt:i<xs.length
 ·refine .inr ⟨⟨xs,xs[i],hl i σ H hi p,Cc hlt⟩,Pv (i+1),λσ' H' p'=>⟨xs.length-(i+1),by omega,rfl,hlt,p'⟩,λx H' y=>?_⟩
  obtain⟨t,v,e1,e2,e3,e4⟩:=y;subst e2 e4;exact hs i v σ H t (e3 xs (hl i σ H hi p)) p e1
 ·have e:i=xs.length:=by omega
  subst e;exact .inl ⟨⟨xs,hl _ σ H hi p,Cg _⟩,hd σ H p⟩
end L2
namespace L2
open PySem
theorem eM{lo:Int}{n:Nat}{te:TE}{Q:VK}{D:Addr}{τ:St}{H:Hp}(Pv:Nat→List V→Hp→Prop)(h0:Pv 0 [] H)(hD:∀ i ys H,i≤n→Pv i ys H→H D=some (.lst ys)∧ys.length=i)(hn:n≤sizeLine)
  (hs:∀ i ys H,i<n→Pv i ys H→te (some (.int (lo+i))::τ) H λv H4=>H4 D=some (.lst ys)∧Pv (i+1) (ys++[v]) (upd H4 D (.lst (ys++[v])))) (hd:∀ ys H,Pv n ys H→Q (.ref D) H):nL (Itr lo n) D τ te Q H:=by
 refine⟨λi m ys H=>m=n-i∧i≤n∧Pv i ys H,⟨n,by simp,CG _,h0⟩,?_⟩;rintro i m ys H2 ⟨rfl,hi,p⟩;obtain⟨hd1,hd2⟩:=hD i ys H2 hi p;refine⟨hd1,?_⟩;by_cases hlt:i<n
 ·refine .inr ⟨hlt,by omega,Pv (i+1),λzs H' p'=>⟨n-(i+1),by omega,rfl,hlt,p'⟩,λy H3 e=>?_⟩
  obtain⟨e1,e2⟩:=e;subst e1 e2;exact hs i ys _ hlt p
 ·have e:i=n:=by omega
  subst e;exact .inl ⟨Cg _,hd ys H2 p⟩
theorem gJ{K:W.Frag}{a:Addr}{xs:List V}{te:TE}{Q:VK}{D:Addr}{τ:St}{H:Hp}(Pv:Nat→List V→Hp→Prop)(h0:Pv 0 [] H)(hD:∀ i ys H,i≤xs.length→Pv i ys H→H D=some (.lst ys)∧ys.length=i)(hl:∀ i ys H,i≤xs.length→Pv i ys H→SqL K H a xs)(hn:xs.length≤sizeLine)
  (hs:∀ i x ys H,xs[i]?=some x→Pv i ys H→te (some x::τ) H λv H4=>H4 D=some (.lst ys)∧Pv (i+1) (ys++[v]) (upd H4 D (.lst (ys++[v])))) (hd:∀ ys H,Pv xs.length ys H→Q (.ref D) H):nL (Itl K a) D τ te Q H:=by
 refine⟨λi m ys H=>m=xs.length-i∧i≤xs.length∧Pv i ys H,⟨xs.length,by simp,CG _,h0⟩,?_⟩;rintro i m ys H2 ⟨rfl,hi,p⟩;obtain⟨hd1,hd2⟩:=hD i ys H2 hi p;refine⟨hd1,?_⟩;by_cases hlt:i<xs.length
 ·refine .inr ⟨⟨xs,xs[i],hl i ys H2 hi p,Cc hlt⟩,by omega,Pv (i+1),λzs H' p'=>⟨xs.length-(i+1),by omega,rfl,hlt,p'⟩,λy H3 e=>?_⟩
  obtain⟨e1,e2⟩:=e;subst e1;exact hs i y ys _ (e2 xs (hl i ys _ hi p)) p
 ·have e:i=xs.length:=by omega
  subst e;exact .inl ⟨⟨xs,hl _ ys H2 hi p,Cg _⟩,hd ys H2 p⟩
end L2
end
section
namespace L2
open PySem PySem.Spec PyProof.Rows LX
def vV(sc:Scope)(names:List (Str×NameKind)):List (Str×NameKind):=names.map λ(n,k)=>if(k == .free&&sc.kind == .function&&sc.names.lookup n == some .cell) then(n,.cell) else(n,k)
def uJ(sc scope:Scope)(x:Str)(ns N:List Str)(idx:List Nat):Prop :=
 (∀ y∈scope.names,y.2≠.cell)∧(∀ y∈scope.names,y.2=.local→scope.names.lookup y.1=some .local)∧scope.names.lookup x=some .local∧(∀ p∈vV sc scope.names,p.2=.cell∨p.2=.free→p.1∈ns)∧(x::idx.map λi=>N.getD i x).Nodup ∧
 ∀ i∈idx,i<N.length∧((sc.names.lookup (N.getD i x)=some .cell∨sc.names.lookup (N.getD i x)=some .free)∧((vV sc scope.names).lookup (N.getD i x)=some .cell∨(vV sc scope.names).lookup (N.getD i x)=some .free))
instance (sc scope:Scope) (x:Str) (ns N:List Str) (idx:List Nat):Decidable (uJ sc scope x ns N idx):=by unfold uJ;infer_instance
theorem gw{y:Str}:∀ {cl:List (Str×Addr)},y∈cl.map (·.1)→∃ c,cl.lookup y=some c
 | [],h=>by simp at h
 | (n,c)::r,h=>by
  by_cases e:y=n
  ·exact⟨c,by simp[List.lookup,e]⟩
  ·have h':y∈r.map (·.1):=by
    rw[CQ]at h;rcases Cw.mp h with z|z
    ·exact absurd z e
    ·exact z
   obtain⟨c',q⟩:=gw h';have hb:(y == n)=false:=beq_eq_false_iff_ne.mpr e;exact⟨c',by simp only[List.lookup,hb];exact q⟩
theorem du{X:Cx}{sc scope:Scope}{cl:List (Str×Addr)}{x:Str}{ns N:List Str}{idx:List Nat}(hsc:X.env.scope=sc)(hN:X.N=N)(hk:scope.kind=.function)(p:uJ sc scope x ns N idx)(hn:cl.map (·.1)=ns)
  (uK:closureFor scope X.env=pure cl) (yW:∀ q∈cl,X.env.cells.lookup q.1=some q.2):nJ X scope cl x idx (x::idx.map λi=>N.getD i x):=by
 obtain⟨p1,p2,p3,p4,p5,p6⟩:=p;have re:(relabel scope X.env).names=vV sc scope.names:=by subst hsc;rfl
 subst hsc hN hn;refine⟨uK,λy c q=>yW (y,c) (CP q),λy h=>?_,p1,hk,p2,p3,rfl,p5,λi hi=>?_⟩
 ·rw[re]at h
  refine gw ?_;rcases h with h|h
  ·exact p4 (y,.cell) (CP h) (.inl rfl)
  ·exact p4 (y,.free) (CP h) (.inr rfl)
 ·rw[re]
  exact p6 i hi
theorem nM{P:Program}{w:World}{X:Cx}:eL (CXE P w) X (λ_ _ _ _=>False):=λ_ _ _ _ _ _ _ ⟨_,_,_,_,_,_,_,_,_,q⟩=>q.elim
section
variable{X:Cx}{scope:Scope}{cl:List (Str×Addr)}{x:Str}{idx:List Nat}{NC:List Str}{pins:List (Addr×Obj)}{σ:St}{H:Hp}{s:Shared}
theorem jH{i:Nat}{y:Str}{elt iter:Expr}{px py pos AU:Pos}{wi:TI}{te:TE}(hN:X.N.Nodup)(hi':X.N[i]?=some y)(hx:X.env.scope.names.lookup y=some .local)(c:nJ X scope cl x idx NC)(hc:X.calm=true)(hi:PI X (.Name x px) iter wi)
  (he:∀ C fp s₀ H₀,PE (cxC X scope cl NC C fp s₀ H₀) elt te) (hsw:swapsWith (.ListComp elt [⟨.Name x px,iter,[],0⟩] scope pos) (some (.Name y py)) AU.line X.env=pure true:=by rfl)
  (hs:∀ x,foldedSetIterable iter X.env x=pure x:=by intro _;rfl):PS X (.Assign [.Name y py] (.ListComp elt [⟨.Name x px,iter,[],0⟩] scope pos) AU) (xE (vU wi idx te) (nr i)):=by
 intro pins s σ H D0 I h;rw[exec_Assign_Name_used _ _ _ _ hsw];refine wpAny_bind (wpAny_standAt (wpAny_bind ?_));show wpAny _ _ (do let _ ←comprehension (.ListComp elt [⟨.Name x px,iter,[],0⟩] scope pos) scope X.env _ (newList []) false (eval iter X.env) (some (assign (.Name y py) X.env))) _ _ s
 refine wpAny_bind (wpAny_mono (wpAny_comprehension_free (use:=some (assign (.Name y py) X.env)) (Q:=λ_ s'=>SP X pins D0 .next s') rfl hs c.vT c.kind c.loc
  (thn (hi pins s σ H _ I h) λv s1 h1=>thn h1 λitv s2 h2=>?_)) (λ_ s' hq=>wpAny_pure (wpAny_pure hq)) λ_ _ e=>e)
 obtain⟨it,fp,tn,J,H2,rfl,I2,T,st2,f2,q⟩:=h2;refine wpAny_newObj_type (wpAny_newFunctionEnv c.nK (by intro y hy;simp at hy) (λh₁ hns₁ hsb₁=>?_) c.kind);dsimp only at hns₁ hsb₁ ⊢;have I3:Inv X pins σ (upd H2 s2.heap.objs.size (.lst [])) {s2 with heap:=s2.heap.push {cls:=.type "list",data:=.seq ([]:List Value).toArray},toks:=s2.toks}:=I2.xM (ys:=[]) (its:=[]) .nil (CG _);obtain⟨W,⟨m0,w0⟩,turn⟩:=q s2.heap.objs.size I2.fresh;generalize hD:s2.heap.objs.size=D at *;generalize hH:s2.heap.push {cls:=.type "list",data:=.seq ([]:List Value).toArray}=h3 at *;have vn:∀ b∈fp,b<D:=λb hb=>by
  obtain⟨o,e,_⟩:=T.obj _ _ st2 b hb;rw[←hD];exact Cr e
 have hlt:∀ b∈fp,b<h3.objs.size:=λb hb=>by
  rw[←hH,Dz,hD];exact Nat.lt_succ_of_lt (vn b hb)
 have hf:∀ b∈fp,lC X pins (upd H2 D (.lst [])) b:=λb hb=>⟨by rw[ag (Cv (vn b hb))];exact(f2 b hb).1,(f2 b hb).2⟩;have kp:∀ b o,h3.get? b=some o→h₁.get? b=some o:=λb o e=>hsb₁.extBut b o (Cv (Cr e)) (Ce _ e);have I4:Inv (cxC X scope cl NC h3.objs.size fp {s2 with heap:=h3,toks:=s2.toks} (upd H2 D (.lst []))) [] (none::ix σ idx) (upd H2 D (.lst [])) {s2 with heap:=h₁,toks:=s2.toks+([]:List (Str×Value)).length} :=
  oZ (s:={s2 with heap:=h3,toks:=s2.toks}) c I3 hf hlt hns₁ kp
 have mZ:∀ {H':Hp},(∀ b∈fp,H' b=none)→∀ b∈fp,lC (cxC X scope cl NC h3.objs.size fp {s2 with heap:=h3,toks:=s2.toks} (upd H2 D (.lst []))) [] H' b:=λhn b hb =>
  ⟨hn b hb,Cv (hlt b hb),λz=>(Cw.mp (I3.iY b z)).elim (hf b hb).2.1 (hf b hb).2.2.1,.inl hb,λy a q=>(hf b hb).2.2.2.2.1 y a (c.sub _ _ q),λp hp=>(by cases hp)⟩
 have st1:tn 0 h₁:=T.keep 0 _ _ st2 λb hb o e=>kp b o (by rw[←hH];exact Ce _ e);have loop:∀ s4:Shared,s4={s2 with heap:=h₁,toks:=s2.toks+([]:List (Str×Value)).length} →
   codeAny (model X.prog X.w) X.A (.compLoop (.ListComp elt [⟨.Name x px,iter,[],0⟩] scope pos) 0 (.ref it) (.ref D) (compEnvC scope cl h3.objs.size X.env)) (compPost (model X.prog X.w) X.A X.xe (some (assign (.Name y py) X.env)) (λ_ s'=>SP X pins D0 .next s') (.ref D) h3.objs.size) s4:=by
  rintro s4 rfl;refine hX (λn s'=>∃ i ys H' v0,Inv (cxC X scope cl NC h3.objs.size fp {s2 with heap:=h3,toks:=s2.toks} (upd H2 D (.lst []))) [] (v0::ix σ idx) H' s'∧tn i s'.heap∧(∀ b∈fp,H' b=none)∧W i n ys H')
   ?_ m0 ⟨0,[],_,none,I4,st1,λb hb=>(hf b hb).1,w0⟩
  rintro n s5 ⟨i5,ys,H5,v0,I5,st5,fr5,w5⟩;obtain⟨hDl,alt⟩:=turn i5 n ys H5 w5;rcases alt with⟨stop,qn⟩|⟨go,hz,N,hN',step⟩
  ·refine thn (T.done (cxC X scope cl NC h3.objs.size fp {s2 with heap:=h3,toks:=s2.toks} (upd H2 D (.lst []))) rfl rfl rfl hc i5 [] s5 _ H5 _ I5 (mZ fr5) st5 stop) λr s6 ⟨hr,I6⟩=>?_
   subst hr;obtain⟨m,ns6,_⟩:=id I6.loc;have J6:Inv X pins σ H5 s6:=I3.sh (ch:=fp) I6.os I6.base I6.hok I6.bare λb hb=>⟨(hf b hb).2.2.2.1,(hf b hb).2.1,(hf b hb).2.2.2.2.1,(hf b hb).2.2.2.2.2⟩;have fC:lC X pins H5 h3.objs.size:=I3.uY (Cg _) I6.free;obtain⟨o,es,ep,ho,rr⟩:=ns6;have od:∀ v,o.data≠.cell v:=λv z=>by
    rw[rr.1]at z;cases z
   show wpAny _ _ (assign (.Name y py) X.env (.ref D)) (λ_ s''=>∃ m,s''.heap.Ns h3.objs.size m∧∀ h',Heap.SameBut h3.objs.size s''.heap h'→SP X pins D0 .next {s'' with heap:=h'}) X.xe s6;have J7:=J6.pinned (fp:=[h3.objs.size]) (λb hb=>by rw[Cf.mp hb];exact fC) (λb hb=>by rw[Cf.mp hb];exact⟨o,ho,od⟩);refine wpAny_mono (aE (pos:=py) hN hi' (.inl hx) (.inr hx) _ s6 _ H5 (.ref D) (.ref D) D0.nx J7 rfl qn) (λ_ s7 ⟨σ7,H7,I7,q7⟩=>?_) (λ_ _ z=>z);have pC:=I7.pin (h3.objs.size,o) (Ci _ (Ci _ (cS (Cf.mpr rfl) ho)));refine⟨m,⟨o,es,ep,pC.1,rr⟩,λh' hs'=>⟨σ7,H7,?_,q7⟩⟩;exact I7.fJ.turned (t':=s7.toks) (it:=h3.objs.size) (λb o hb e=>hs'.extBut b o hb e) pC.2.1 fC.2.1 fC.2.2.2.1 fC.2.2.2.2.1 fC.2.2.2.2.2
  ·refine thn (T.item (cxC X scope cl NC h3.objs.size fp {s2 with heap:=h3,toks:=s2.toks} (upd H2 D (.lst []))) rfl rfl rfl hc i5 [] s5 _ H5 _ I5 (mZ fr5) st5 go) λr s6 ⟨u,hr,h6⟩=>?_
   subst hr;refine thn h6 λ_ s7 ⟨y,H7,I7,r7,y7,st7,fr7⟩=>?_;have I7':=I7.pinned (mZ fr7) (T.obj _ _ st7);have hnl:(relabel scope X.env).names.lookup x=some .local:=lookup_relabel_local c.xl;refine wpAny_mono (aE (X:=cxC X scope cl NC h3.objs.size fp {s2 with heap:=h3,toks:=s2.toks} (upd H2 D (.lst []))) (i:=0) (x:=x) (pos:=px) c.nd (by show NC[0]?=some x;rw[c.nc];rfl) (.inl hnl) (.inr hnl) _ s7 _ H7 y u
    (λσ' H'=>σ'=some y::ix σ idx∧H'=H7) I7' r7 ⟨rfl,rfl⟩) (λ_ s8 ⟨σ8,H8,I8,e8,e8'⟩=>?_) λ_ _ z=>z.elim
   subst e8 e8';refine wpAny_mono (he _ _ _ _ _ s8 _ H8 _ I8 (step y H8 y7)) (λw s9 ⟨v,H9,I9,r9,hD9,n9⟩=>?_) λ_ _ z=>z.elim;obtain⟨m',hm,w9⟩:=hN' _ _ n9;refine wpAny_mono (pb (X:=(cxC X scope cl NC h3.objs.size fp {s2 with heap:=h3,toks:=s2.toks} (upd H2 D (.lst [])))) I9 hD9 hz r9) (λ_ s10 I10=>?_) λ_ _ z=>z.elim;refine⟨m',hm,i5+1,ys++[v],_,some y,I10.fJ,T.keep _ _ _ st7 λb hb o e=>(I10.pin (b,o) (Ci _ (Ci _ (cS hb e)))).1,λb hb=>?_,w9⟩;obtain⟨o,e,d⟩:=T.obj _ _ st7 b hb;exact(I10.pin (b,o) (Ci _ (Ci _ (cS hb e)))).2.1
 exact codeAny_compStart_list (loop _ rfl) (T.self _ 0 _ _ _ st1 (loop _ rfl))
end
section
variable{X:Cx}
end
theorem ue{v:V}(h:dj v=true):eqV v v=true:=by
 cases v with
 | non=>rfl
 | bl b=>cases b<;>rfl
 | int n=>simp[eqV]
 | str z=>simp[eqV]
 | _=>exact absurd (show false=true from h) Ck
section
variable{X:Cx}
end
section
variable{X:Cx}{tg:Expr}
end
section
variable{X:Cx}{scope:Scope}{cl:List (Str×Addr)}{x:Str}{idx:List Nat}{NC:List Str}{pins:List (Addr×Obj)}{σ:St}{H:Hp}{s:Shared}
end
end L2
end
section
namespace L2
open PySem PySem.Spec PyProof.Rows LX
section
variable{P:Program}{w:World}{A:Around}{E:Value→Shared→Prop}{s:Shared}{a:Addr}{S:Int→Bool}{n:Nat}
end
end L2
end
section
namespace L2
open PySem PySem.Spec PyProof.Rows LX
section
variable{P:Program}{w:World}{A:Around}{R:Result→Shared→Prop}{I:Addr}{fp wr:List Addr}{G:Array GenState→Array GenState→Prop}{n:Nat}{p:Nat→Value→Prop}{St:Nat→Shared→Prop}
end
section
variable{P:Program}{w:World}{A:Around}{E:Value→Shared→Prop}{s:Shared}
end
section
variable{P:Program}{w:World}{A:Around}{E:Value→Shared→Prop}{s:Shared}{it a:Addr}{first:Value}{i n ep:Nat}
end
section
variable{P:Program}{w:World}{A:Around}{E:Value→Shared→Prop}{s:Shared}{it a:Addr}{first:Value}{i n ep:Nat}{es:Array (Int×Value)}{t:SetTable}
end
section
variable{P:Program}{w:World}{A:Around}{E:Value→Shared→Prop}{s:Shared}{I a:Addr}{ep:Nat}{es:Array (Int×Value)}{t:SetTable}{sl:Nat→Nat}{vs:List Value}
end
end L2
end
section
namespace L2
open PySem PySem.Spec PyProof.Rows LX PySem.W
section
variable{P:Program}{w:World}{A:Around}{E:Value→Shared→Prop}{s:Shared}{a:Addr}{ep:Nat}{es:Array (Int×Value)}{t:SetTable}
end
section
variable{P:Program}{w:World}{A:Around}{E:Value→Shared→Prop}{s:Shared}{a:Addr}{ep:Nat}{es:Array (Int×Value)}{t:SetTable}
end
section
variable{X:Cx}
end
end L2
end
section
namespace L2
open PySem PySem.Spec PyProof.Rows LX
section
variable{X:Cx}{pins:List (Addr×Obj)}{σ:St}{H:Hp}{s:Shared}{d:Addr}{kvs:List (Key×V)}
theorem Inv.frozen(I:Inv X pins σ H s)(hd:H d=some (.dK kvs)):∃ o,Inv X pins σ (upd H d (.frz o (.dK kvs))) s:=by
 obtain⟨hz,h0,vs,rel,o,es,ep,ho,r⟩:=vO I.hok hd;have nn:∀ {b:Addr},H b=none→upd H d (.frz o (.dK kvs)) b=none:=λ{b} q=>by
  rw[ag λz=>by rw[z,hd]at q;cases q];exact q
 have ns:∀ {b:Addr} {u:HO},H b=some u→u≠.dK kvs→upd H d (.frz o (.dK kvs)) b=some u:=λ{b u} q n=>by
  rw[ag λz=>n (by rw[z,hd]at q;exact(CC q).symm)];exact q
 refine⟨o,I.ok,I.os,I.bare,⟨I.base.keep,I.base.slot,λb ob q n e=>nn (I.base.free b ob q n e),I.base.there,λb xs q=>ns (I.base.jy b xs q) (by intro z;cases z),λb ob u q=>ns (I.base.lq b ob u q) (by intro z;cases z),λb ps q=>?_⟩,I.loc,I.cell,nn I.free,λx c q=>nn (I.gH x c q),λp hp=>?_,λa u q=>?_,I.len⟩
 ·obtain⟨more,q'⟩:=I.base.lu b ps q
  exact⟨more,ns q' (by intro z;cases z)⟩
 ·obtain⟨p1,p2,p3⟩:=I.pin p hp
  exact⟨p1,nn p2,p3⟩
 ·have st:∀ {a:Addr} {u:HO},cb X.prog X.w H s.heap a u→cb X.prog X.w (upd H d (.frz o (.dK kvs))) s.heap a u:=λx=>x.mX (λ_ _ _ z=>z) (λb z=>ns z (by intro y;cases y)) λb xs z=>ns z (by intro y;cases y)
  by_cases e:a=d
  ·subst e
   rw[ab]at q;cases q;exact⟨ho,st (I.hok a _ hd)⟩
  ·rw[ag e]at q
   exact st (I.hok a u q)
def BM(te:TE):TE:=λσ H Q=>te σ H λv H1=>∃ d kvs,H1 d=some (.dK kvs)∧∀ o,Q v (upd H1 d (.frz o (.dK kvs)))
theorem uf{e:Expr}{te:TE}(h:PE X e te):PE X e (BM te):=by
 intro pins s σ H Q I t;refine wpAny_mono (h pins s σ H _ I t) (λu s1 ⟨v,H1,I1,r,q⟩=>?_) λ_ _ z=>z;obtain⟨d,kvs,hd,q⟩:=q;obtain⟨o,I2⟩:=I1.frozen hd;exact⟨v,_,I2,r,q o⟩
def Itd(d:Addr)(o:Obj)(kvs:List (Key×V)):It :=
 ⟨λi H=>H d=some (.frz o (.dK kvs))∧i<kvs.length,λi H x H'=>H'=H∧∃ p,kvs[i]?=some p∧x=kV p.1,λi H=>H d=some (.frz o (.dK kvs))∧kvs.length≤i⟩
theorem xg{P:Program}{w:World}{k:Key}{u:Value}(h:(bR P w).is k u=true):RelV (kV k) u:=by
 have h4:lg k u=true:=h;rcases bD h4 with⟨i,t,e1,e2⟩|⟨y,t,e1,e2⟩
 ·subst e1 e2
  exact⟨t,rfl⟩
 ·subst e1 e2
  exact⟨t,rfl⟩
theorem qx{o:Obj}(I:Inv X pins σ H s)(hd:H d=some (.frz o (.dK kvs))){es:Array DictEntry}{ep:Nat}(eo:o.data=.dict es ep):kvs.length≤sizeLine∧(d == sysModules)=false∧∃ vs,KV kvs vs∧s.heap.DictAt (bR X.prog X.w) d vs ep:=by
 obtain⟨ho,hz,h0,vs,rel,o',es',ep',ho',c1,c2,c3⟩:=(show cb X.prog X.w H s.heap d (.frz o (.dK kvs)) from I.hok d _ hd);have e:o'=o:=CC (ho'.symm.trans ho);subst e;rw[eo]at c2;injection c2 with e1 e2;subst e1 e2;exact⟨hz,h0,vs,rel,o',es,ho',c1,eo,c3⟩
theorem tm{o:Obj}(I:Inv X pins σ H s)(hd:H d=some (.frz o (.dK kvs))):∃ es ep,o.data=.dict es ep:=by
 obtain⟨ho,hz,h0,vs,rel,o',es',ep',ho',c1,c2,c3⟩:=(show cb X.prog X.w H s.heap d (.frz o (.dK kvs)) from I.hok d _ hd);have e:o'=o:=CC (ho'.symm.trans ho);subst e;exact⟨es',ep',c2⟩
theorem ug:∀ {kvs:List (Key×V)} {vs:List (Key×Value)},KV kvs vs→∀ {i:Nat} {p:Key×V},kvs[i]?=some p→∃ x,vs[i]?=some (p.1,x)
 | _,_,.nil,_,_,h=>by simp at h
 | (k,v)::_,(k',x)::_,.cons a r,0,p,h=>by
  have h1:(k,v)=p:=by simpa using h
  subst h1;obtain⟨e,_⟩:=a;have e':k=k':=e;subst e';exact⟨x,rfl⟩
 | _::_,_::_,.cons _ r,i+1,p,h=>by
  have:=ug r (i:=i) (p:=p) (by simpa using h)
  simpa using this
theorem rM{P:Program}{w:World}{K:W.Frag}{tg:Expr}(d it:Addr)(o:Obj)(kvs:List (Key×V))(ne:d≠it):Turn P w K tg (Itd d o kvs) [it] it (λi h=>∃ es ep,o.data=.dict es ep∧h.IsKeyIter it d i kvs.length ep) where
 mem:=by simp
 obj:=λi h st b hb=>by
  have e:b=it:=by simpa using hb
  subst e;obtain⟨es,ep,_,o,e,c,d⟩:=st;exact⟨o,e,λv z=>by rw[d]at z;cases z⟩
 keep:=λi h h' ⟨es,ep,eo,st⟩ k=>⟨es,ep,eo,st.at λo e=>k it (by simp) o e⟩
 item:=by
  rintro X hP hw hK hc i pins s σ H E I hf ⟨es,ep,eo,st⟩ ⟨hd,hi⟩;subst hP hw hK;obtain⟨hz,h0,vs,rel,hat⟩:=qx I hd eo;have hl:=rel.length;obtain⟨x,hx⟩:=ug rel (Cc hi);obtain⟨f0,f1,f2,f3,f4,f5⟩:=hf it (by simp);rw[hl]at st;refine wpAny_pyNext_dict_item st hat hx λkey h' hk st' sb=>?_;have I1:Inv X pins σ H {s with heap:=h'}:=I.turned (t':=s.toks) (λb o hb e=>(sb.2 b hb).trans e) f0 f1 f3 f4 f5;exact⟨key,rfl,letGo_keyiter (s':={s with heap:=h'}) st' ⟨kV (kvs[i]'hi).1,H,I1,xg hk,⟨rfl,_,Cc hi,rfl⟩,⟨es,ep,eo,by rw[hl];exact st'⟩,λb hb=>(hf b hb).1⟩⟩
 done:=by
  rintro X hP hw hK hc i pins s σ H E I hf ⟨es,ep,eo,st⟩ ⟨hd,hi⟩;subst hP hw hK;obtain⟨hz,h0,vs,rel,hat⟩:=qx I hd eo;have hl:=rel.length;obtain⟨f0,f1,f2,f3,f4,f5⟩:=hf it (by simp);rw[hl]at st;exact wpAny_pyNext_dict_end (I.ok.hd hc) st hat (CZ (by omega)) λh' eb=>⟨rfl,I.turned (t':=s.toks) (λb o hb e=>eb b o hb e) f0 f1 f3 f4 f5⟩
 self:=λ_ _ _ _ _ ⟨_,_,_,st⟩ h=>wpAny_pyIter_keyiter st h
def zM(td:TE):TI:=λσ H R=>td σ H λx H1=>∃ d o kvs,x=.ref d∧H1 d=some (.frz o (.dK kvs))∧R (Itd d o kvs) H1
theorem jI{tg l:Expr}{tl:TE}(hl:PE X l tl):PI X tg l (zM tl):=by
 intro pins s σ H R I h;refine thn (hl pins s σ H _ I h) λv s1 ⟨x,H1,I1,r1,q1⟩=>?_;obtain⟨d,o,kvs,e,hd,q⟩:=q1;subst e;cases r1;obtain⟨es,ep,eo⟩:=tm I1 hd;obtain⟨hz,h0,vs,rel,hat⟩:=qx I1 hd eo;have hl:=rel.length;refine wpAny_pyIter_dict h0 hat ?_;rw[←hl];refine⟨s1.heap.objs.size,[s1.heap.objs.size],_,_,H1,rfl,I1.kept (t':=s1.toks) λb o e=>Ce _ e,rM d _ o kvs (Cv hat.lt_size),⟨es,ep,eo,_,CB _ rfl,rfl,rfl⟩,λb hb=>?_,q⟩;have e:b=s1.heap.objs.size:=by simpa using hb
 subst e;exact I1.uY (Cg _) (I1.hok.fresh (Cg _))
end
theorem pd{d:Addr}{o:Obj}{kvs:List (Key×V)}{g:TG}{tb:TS}{D:Ends}{σ:St}{H:Hp}(Pv:Nat→St→Hp→Prop)(h0:Pv 0 σ H)(hl:∀ i σ H,i≤kvs.length→Pv i σ H→H d=some (.frz o (.dK kvs)))
  (hs:∀ i p σ H,kvs[i]?=some p→Pv i σ H→g (kV p.1) σ H λσ2 H2=>tb {D with nx:=Pv (i+1),ct:=Pv (i+1),bk:=D.nx} σ2 H2) (hd:∀ σ H,Pv kvs.length σ H→D.nx σ H) :
  ∃ W:Nat→Nat→St→Hp→Prop,(∃ m,W 0 m σ H)∧∀ i m σ H,W i m σ H →
   ((Itd d o kvs).stop i H∧D.nx σ H)∨((Itd d o kvs).go i H∧∃ N:St→Hp→Prop,(∀ σ' H',N σ' H'→∃ m',m'<m∧W (i+1) m' σ' H')∧∀ x H',(Itd d o kvs).yld i H x H'→g x σ H' λσ2 H2=>tb {D with nx:=N,ct:=N,bk:=D.nx} σ2 H2):=by
 refine⟨λi m σ H=>m=kvs.length-i∧i≤kvs.length∧Pv i σ H,⟨kvs.length,by simp,CG _,h0⟩,?_⟩;rintro i m σ H ⟨rfl,hi,p⟩;by_cases hlt:i<kvs.length
 ·refine .inr ⟨⟨hl i σ H hi p,hlt⟩,Pv (i+1),λσ' H' p'=>⟨kvs.length-(i+1),by omega,rfl,hlt,p'⟩,λx H' y=>?_⟩
  obtain⟨e1,q,e2,e3⟩:=y;subst e1 e3;exact hs i q σ _ e2 p
 ·have e:i=kvs.length:=by omega
  subst e;exact .inl ⟨⟨hl _ σ H hi p,Cg _⟩,hd σ H p⟩
section
variable{X:Cx}
end
section
variable{X:Cx}{pins:List (Addr×Obj)}{σ:St}{H:Hp}{s:Shared}
end
theorem pV:∀ {ms ns:List Int},ms.length=ns.length→uI (ms.map V.int) (ns.map V.int)=decide (ms=ns):=by
 intro ms ns hl;rw[Dt,decide_eq_true_eq];unfold uI;rw[DE];constructor
 ·intro h
  refine List.ext_getElem hl λj h1 h2=>?_
  have:=h j (by rw[Cn];exact Dq.mpr h1)
  simpa[List.getD,h1,h2,eqV] using this
 ·rintro rfl j hj
  rw[Cn]at hj;have hj:=Dq.mp hj;simp[List.getD,hj,eqV]
theorem iz(ns:List Int):(ns.map V.int).all dj=true:=by simp[dj]
section
variable{X:Cx}
theorem tw:∀ {x y:V} {us:List Value},Vals [x,y] us→∃ u v,us=[u,v]∧RelV x u∧RelV y v
 | _,_,_,.cons a (.cons b .nil)=>⟨_,_,rfl,a,b⟩
end
section
variable{X:Cx}
end
section
variable{X:Cx}
end
theorem i8:typeLookup (Value.type "list") (Str.ofString "keys")=pure none:=am_miss_of_fast (by decide +kernel)
theorem list_getattr_none:typeLookup (Value.type "list") (Str.ofString "__getattr__")=pure none:=am_miss_of_fast (by decide +kernel)
section
variable{P:Program}{w:World}{A:Around}{E:Value→Shared→Prop}
theorem vo{h:Heap}{g:Array GenState}{d:Drawn}{t:Nat}{os:OsState}{a:Addr}{its:Array Value}{n:Nat}{u:Tok}{Q:PySem.Fin→Shared→Prop}(hx:h.get? a=some {cls:=.type "list",data:=.seq its n})(hA:A.handled=none)
  (q:∀(h':Heap) (tk:Nat) (e:Addr),h.NewAttrErr h' e (.ref a) (Str.ofString "keys")→E (.ref e) {heap:=h',gens:=g,drawn:=d,toks:=tk,os:=os}) :
  wpAny (model P w) A (Builtin.«object.__getattribute__» {pos:=[.ref a,.str (Str.ofString "keys") u]}) Q E {heap:=h,gens:=g,drawn:=d,toks:=t,os:=os}:=by
 have hT:Shared.TypeIs {heap:=h,gens:=g,drawn:=d,toks:=t,os:=os} (.ref a) "list" := ⟨_,hx,rfl⟩;have f1:=i8;unfold Builtin.«object.__getattribute__»;wp_walk
 exact wpAny_raiseAttrError hA q (by decide +kernel)
theorem rN{h:Heap}{g:Array GenState}{d:Drawn}{t:Nat}{os:OsState}{a:Addr}{its:Array Value}{n:Nat}{Q:Option Value→Shared→Prop}(hx:h.get? a=some {cls:=.type "list",data:=.seq its n})(hA:A.handled=none)
  (q:∀(h':Heap) (tk:Nat),(∀ b o,h.get? b=some o→h'.get? b=some o)→Q none {heap:=h',gens:=g,drawn:=d,toks:=tk,os:=os}) :
  wpAny (model P w) A (getAttr? (.ref a) (Str.ofString "keys")) Q E {heap:=h,gens:=g,drawn:=d,toks:=t,os:=os}:=by
 have hT:∀ t,Shared.TypeIs {heap:=h,gens:=g,drawn:=d,toks:=t,os:=os} (.ref a) "list" := λ_=>⟨_,hx,rfl⟩;have hT0:=hT t;have hT1:=hT (t+1);have f2:=PySem.F.slot_list_getattribute.lookup;have f3:=PySem.F.slot_list_getattribute.bind (Value.ref a);have f5:=list_getattr_none;have f1:=sub_AttributeError;unfold getAttr? getAttrBy?;wp_walk
 refine codeAny_call_builtin PySem.F.slot_list_getattribute.plain PySem.F.entry_list_ga (PySem.F.slot_list_getattribute.check _ _ _ _ (Value.ref a) [Value.str (Str.ofString "keys") t] [] _ hT1 (PySem.F.args_list_getattribute_2 _ _) (vo hx (by simp[hA]) λh' tk e he=>?_));obtain⟨t',u',hg⟩:=he.there;have hTe:Shared.TypeIs {heap:=h',gens:=g,drawn:=d,toks:=tk,os:=os} (.ref e) "AttributeError" := ⟨_,hg,rfl⟩;have q':=q h' tk he.keeps;show wpAny _ _ (getattributeRaised _ _ _ _ _ _ _) _ _ _;unfold getattributeRaised;wp_walk
 all_goals exact q'
end
theorem lL:entryFor table "dict.update.loop" = some Builtin.«dict.update.loop» := entryFor_of_tree (by rfl)
theorem gK:plainId "dict.update.loop" = true:=by decide +kernel
section
variable{P:Program}{w:World}{A:Around}{R:Result→Shared→Prop}{KK:Type}[DecidableEq KK]{knd:KeyKind P w KK}
theorem stored_new{kvs:List (KK×Value)}{k:KK}{v:Value}(h:k∉kvs.map (·.1)):stored kvs k v=kvs++[(k,v)]:=by
 rw[stored.eq_1,if_neg];intro z;obtain⟨p,hp,e⟩:=List.any_eq_true.mp z;exact h (C8.mpr ⟨p,hp,of_decide_eq_true e⟩)
theorem lM{h h':Heap}{D:Addr}{kvs:List (KK×Value)}(d:Heap.DictOf knd h D kvs)(k:∀ o,h.get? D=some o→h'.get? D=some o):Heap.DictOf knd h' D kvs:=by
 obtain⟨o,es,ep,h1,h2⟩:=d;exact⟨o,es,ep,k o h1,h2⟩
theorem pW{I l D:Addr}{items:Array Value}(hA:A.in1.handled=none)(hne:l≠I)(hDI:D≠I)(hDl:D≠l)(kv:List (KK×Value))(hn:kv.length=items.size)(nd:(kv.map (·.1)).Nodup)(hz:kv.length≤sizeLine) :
  ∀(k i:Nat) (s:Shared),items.size-i=k→i≤items.size→(s.heap.IsListIter I l i∧s.heap.IsList l items)→Heap.DictOf knd s.heap D (kv.take i) →
  (∀ j (hj:j<kv.length),∃(b:Addr) (o:Obj) (kx:Value) (n:Nat),items[j]?=some (.ref b)∧s.heap.get? b=some o∧o.cls=.type "tuple" ∧ o.data=.seq #[kx,kv[j].2] n∧knd.is kv[j].1 kx=true∧b≠D∧b≠I) →
  (∀(h':Heap) (tk:Nat),Heap.DictOf knd h' D kv→(∀ b o,b≠D→b≠I→s.heap.get? b=some o→h'.get? b=some o)→R (.ok (.ret .none)) {s with heap:=h',toks:=tk}) →
  codeAny (model P w) A (.builtin "dict.update.loop" ⟨[.ref D,.ref I,.int (i:Int) 0,.none],[]⟩) R s:=by
 have W:=Walks.list (prog:=P) (w:=w) hA I l hne items;intro k;induction k with
 | zero =>
  intro i s hk hi st hS ht q;have e:i=items.size:=by omega
  subst e;refine codeAny_builtin lL ?_;rw[Dp gK _];show wpAny _ A.in1 (pyNext (.ref I) >>= _) _ _ s;refine wpAny_bind (W.done s _ _ st λh' tk hm=>?_);rw[←hn,Cp (Cg _)]at hS;wp_walk
  exact q h' tk (lM hS λo z=>hm D o (by simpa using hDI) z) λb o _ nb z=>hm b o (by simpa using nb) z
 | succ k ih =>
  intro i s hk hi st hS ht q;have hlt:i<items.size:=by omega
  refine codeAny_builtin lL ?_;rw[Dp gK _];show wpAny _ A.in1 (pyNext (.ref I) >>= _) _ _ s;refine wpAny_bind (W.item i s _ _ hlt st λv h' tk hP st' hm=>?_);obtain⟨b,o,kx,n,hb,ho,hc,hd,hk1,nb1,nb2⟩:=ht i (by omega);have hv:v=.ref b:=by
   have hP:items[i]?=some v:=hP;rw[hb]at hP;exact(CC hP).symm
  subst hv;have ho':=hm b o (by simpa using nb2) ho;have hT:Shared.TypeIs {s with heap:=h',toks:=tk} (.ref b) "tuple" := ⟨_,ho',hc⟩;show wpAny _ A.in1 (holding [Value.ref b] _ >>= _) _ _ _;refine wpAny_bind (wpAny_holding (wpAny_bind (wpAny_tryCatch ?_)));unfold Builtin.Dict.pairItems;refine wpAny_bind (wpAny_typeOf hT ?_);rw[if_pos (by decide)];refine wpAny_bind (wpAny_seqItems ho' hd (wpAny_pure ?_));show wpAny _ A.in1 (holding [kx,kv[i].2] (dictSet D kx kv[i].2)) _ _ _;have hS':=lM (h':=h') hS λo z=>hm D o (by simpa using hDI) z;have hi':i<kv.length:=by omega
  have tk1:kv.take (i+1)=kv.take i++[kv[i]]:=C9 hi';have nk:kv[i].1∉(kv.take i).map (·.1):=λg=>by
   have h1:((kv.take i).map (·.1)++[kv[i].1]).Nodup:=by
    have e9:(kv.take (i+1)).map (·.1)=(kv.take i).map (·.1)++[kv[i].1]:=by
     rw[tk1,CF];rfl
    rw[←e9];exact((List.take_sublist _ _).map _).nodup nd
   exact(C5.mp h1).2.2 _ g _ (Cf.mpr rfl) rfl
  refine wpAny_holding (wpAny_dictSet_pairs hk1 hS' (λh2 dd sb=>?_) (by rw[CA];omega));rw[stored_new nk,show kv.take i++[(kv[i].1,kv[i].2)]=kv.take (i+1) from tk1.symm]at dd;refine wpAny_pure ⟨plainId_quiet gK _,?_⟩;show codeAny (model P w) A (.builtin "dict.update.loop" ⟨[.ref D,.ref I,.int ((i+1:Nat):Int) 0,.none],[]⟩) R _;have keep:∀ b o,b≠D→b≠I→s.heap.get? b=some o→h2.get? b=some o:=λb o n1 n2 z=>(sb.2 b n1).trans (hm b o (by simpa using n2) z);refine ih (i+1) _ (by omega) hlt (W.frame _ h' h2 st' λb hb' o z=>?_) dd (λj hj=>?_) λh3 tk3 d3 k3=>q h3 tk3 d3 λb o n1 n2 z=>k3 b o n1 n2 (keep b o n1 n2 z)
  ·rw[sb.2 b (λe:b=D=>?_)]
   ·exact z
   ·rw[e]at hb'
    rcases Cw.mp hb' with g|g
    ·exact hDI g
    ·exact hDl (Cf.mp g)
  ·obtain⟨b,o,kx,n,x1,x2,x3,x4,x5,x6,x7⟩:=ht j hj
   exact⟨b,o,kx,n,x1,keep b o x6 x7 x2,x3,x4,x5,x6,x7⟩
end
section
variable{P:Program}{w:World}{A:Around}{E:Value→Shared→Prop}{KK:Type}[DecidableEq KK]{knd:KeyKind P w KK}
theorem pX{s:Shared}{l:Addr}{items:Array Value}{nl:Nat}{Q:Value→Shared→Prop}(hA:A.handled=none)(hl:s.heap.get? l=some {cls:=.type "list",data:=.seq items nl})(kv:List (KK×Value))(hn:kv.length=items.size)(nd:(kv.map (·.1)).Nodup)(hz:kv.length≤sizeLine)
  (ht:∀ j (hj:j<kv.length),∃(b:Addr) (o:Obj) (kx:Value) (n:Nat),items[j]?=some (.ref b)∧s.heap.get? b=some o∧o.cls=.type "tuple" ∧ o.data=.seq #[kx,kv[j].2] n∧knd.is kv[j].1 kx=true)
  (q:∀(h':Heap) (tk:Nat),Heap.DictOf knd h' s.heap.objs.size kv→(∀ b o,s.heap.get? b=some o→h'.get? b=some o)→Q (.ref s.heap.objs.size) {s with heap:=h',toks:=tk}) :
  wpAny (model P w) A (call (.type "dict") [.ref l]) Q E s:=by
 obtain⟨h0,g,d,t,os⟩:=s;dsimp only at hl ht q;refine callType_codes PySem.F.kt_called_dict (PySem.F.kt_typeCall_dict_1 _) PySem.F.entry_dict_init (kt_code_dict_new (Q₁:=λv u=>v=.ref h0.objs.size∧u={heap:=h0.push {cls:=.type "dict",data:=.dict #[]},gens:=g,drawn:=d,toks:=t,os:=os}) _ ⟨rfl,rfl⟩) λobj s1 ⟨e1,e2⟩=>?_;subst e1 e2;have vL:=Heap.DictOf.new (knd:=knd) h0;have hp:∀ b o,h0.get? b=some o→(h0.push {cls:=.type "dict",data:=.dict #[]}).get? b=some o:=λb o z=>Ce _ z;have hT:=vL.typeIs (s:={heap:=h0.push {cls:=.type "dict",data:=.dict #[]},gens:=g,drawn:=d,toks:=t,os:=os});have hTl:Shared.TypeIs {heap:=h0.push {cls:=.type "dict",data:=.dict #[]},gens:=g,drawn:=d,toks:=t,os:=os} (.ref l) "list" := ⟨_,hp _ _ hl,rfl⟩;refine⟨hT,PySem.F.args_dict_init_2 _ _,?_⟩;unfold Builtin.«dict.__init__» Builtin.Dict.selfAndRest;refine wpAny_bind (wpAny_bind (wpAny_notOrdered_dict hT ?_));show wpAny _ _ (pure _) _ _ _;refine wpAny_pure ?_;show wpAny _ _ (Builtin.Dict.updateFrom _ _ _ _ _) _ _ _;unfold Builtin.Dict.updateFrom;refine wpAny_bind (wpAny_typeOf hTl ?_);dsimp only;rw[if_pos (by decide)];refine wpAny_bind (rN (hp _ _ hl) (by simp[hA]) λh1 tk1 k1=>?_)
 try dsimp only
 rw[if_pos (show(none:Option Value).isNone=true from rfl)];refine wpAny_bind (wpAny_rule ?_);have hl1:h1.IsList l items:=⟨_,k1 _ _ (hp _ _ hl),rfl,_,rfl⟩;refine wpAny_bind (wpAny_pyIter_list hl1 ?_);refine wpAny_pure ⟨plainId_quiet gK _,?_⟩;have l0:l<h0.objs.size:=Cr hl;obtain⟨oD,esD,epD,gD,zN⟩:=vL;have gD1:=k1 _ _ gD;have s1:h0.objs.size<h1.objs.size:=Cr gD1;have up:∀ b o,h0.get? b=some o→(h1.push {cls:=Value.type "list_iterator",data:=Data.fields #[Value.ref l,Value.int 0 0]}).get? b=some o:=λb o z=>Ce _ (k1 _ _ (hp _ _ z));refine pW (knd:=knd) (I:=h1.objs.size) (l:=l) (D:=h0.objs.size) (items:=items) (by simp[hA]) (Cv (Nat.lt_trans l0 s1)) (Cv s1) (C7 l0) kv hn nd hz (items.size-0) 0 _ rfl (CG _) ⟨⟨_,CB _ rfl,rfl,rfl⟩,hl1.push _⟩ ?_ (λj hj=>?_) λh' tk dd kk=>?_
 ·exact⟨oD,esD,epD,Ce _ gD1,zN⟩
 ·obtain⟨b,o,kx,n,x1,x2,x3,x4,x5⟩:=ht j hj
  have b0:=Cr x2;exact⟨b,o,kx,n,x1,up _ _ x2,x3,x4,x5,Cv b0,Cv (Nat.lt_trans b0 s1)⟩
 ·refine⟨rfl,q h' tk dd λb o z=>?_⟩
  have b0:=Cr z;exact kk b o (Cv b0) (Cv (Nat.lt_trans b0 s1)) (up _ _ z)
end
section
variable{P:Program}{w:World}{A:Around}{E:Value→Shared→Prop}
end
section
variable{X:Cx}
theorem pe{pins:List (Addr×Obj)}{σ:St}{H:Hp}{s:Shared}(I:Inv X pins σ H s):∀(xs:List Addr) (kvs:List (Key×V)),Paired (λx (p:Key×V)=>H x=some (.tup [kV p.1,p.2])) xs kvs →
  ∃ vs:List (Key×Value),KV kvs vs∧vs.map (·.1)=kvs.map (·.1)∧vs.length=xs.length∧∀ j (h1:j<vs.length) (h2:j<xs.length),∃(o:Obj) (kx:Value) (n:Nat),s.heap.get? xs[j]=some o∧o.cls=.type "tuple" ∧ o.data=.seq #[kx,vs[j].2] n∧(bR X.prog X.w).is vs[j].1 kx=true
 | _,_,.nil=>⟨[],.nil,rfl,rfl,λj h=>absurd h (Nat.not_lt_zero _)⟩
 | x::xs,p::kvs,.cons h t=>by
  obtain⟨vs,r1,r2,r3,r4⟩:=pe I xs kvs t;obtain⟨its,rv,⟨o,ho,hc,n,hd⟩,_⟩:=I.tuple (SqT.of h);obtain⟨u,v,rfl,ru,rv'⟩:=tw rv;refine⟨(p.1,v)::vs,.cons ⟨rfl,rv'⟩ r1,by rw[CQ,CQ,r2],by rw[CI,CI,r3],λj h1 h2=>?_⟩;cases j with
  | zero=>exact⟨o,u,n,ho,hc,hd,nF ru⟩
  | succ j=>exact r4 j (Nat.lt_of_succ_lt_succ h1) (Nat.lt_of_succ_lt_succ h2)
theorem pf:∀ {xs:List Addr} {its:List Value},Vals (xs.map V.ref) its→its=xs.map Value.ref
 | [],_,.nil=>rfl
 | x::xs,_,.cons r t=>by
  cases (show _=Value.ref x from r);rw[CQ,←pf t]
def xh:List V→Hp→VK→Prop:=λvs H Q=>∃(p:Addr) (xs:List Addr) (kvs:List (Key×V)),vs=[.ref p]∧H p=some (.lst (xs.map V.ref))∧Paired (λx (p:Key×V)=>H x=some (.tup [kV p.1,p.2])) xs kvs∧(kvs.map (·.1)).Nodup∧∀ l:Addr,H l=none→Q (.ref l) (upd H l (.dK kvs))
theorem pY(hc:X.calm=true):jz X (.type "dict") xh:=by
 rintro pins s σ H xs us Q I r ⟨p,xs,kvs,rfl,hp,hpr,nd,q⟩;obtain⟨u,rfl,ru⟩:=r.one;cases (show u=Value.ref p from ru);obtain⟨its,n,rv,ho,hz⟩:=I.lst hp;obtain⟨vs,r1,r2,r3,r4⟩:=pe I xs kvs hpr;have ei:=pf rv;subst ei;rw[Cn]at hz;have hl:kvs.length=vs.length:=by
  have:=congrArg List.length r2
  simpa using this.symm
 refine pX (knd:=bR X.prog X.w) (I.ok.hd hc) ho vs (by simp[r3]) (by rw[r2];exact nd) (by omega) (λj hj=>?_) λh' tk dd k=>?_
 ·obtain⟨o,kx,n,x1,x2,x3,x4⟩:=r4 j hj (by omega)
  exact⟨xs[j],o,kx,n,by simp[show j<xs.length by omega],x1,x2,x3,x4⟩
 ·refine⟨.ref s.heap.objs.size,_,I.laid (a:=s.heap.objs.size) (o:=.dK kvs) (t':=tk) k (Cg _) ?_,rfl,q _ (I.hok.fresh (Cg _))⟩
  exact t8 (by omega) (beq_eq_false_iff_ne.mpr (CV (Cv I.big))) r1 dd
def BN(K:W.Frag):R2:=λx y H Q=>∃ a b,∃ ms ns:List Int,x=.ref a∧y=.ref b∧SqL K H a (ms.map V.int)∧SqL K H b (ns.map V.int)∧Q (.bl (decide (ms=ns))) H
theorem xi(hu:X.A.units<cLine):OpR X (compareOp .Eq) (BN X.K):=by
 rintro pins s σ H x y v u Q I rx ry ⟨a,b,ms,ns,rfl,rfl,ha,hb,q⟩;by_cases hl:ms.length=ns.length
 ·refine xf hu pins s σ H _ _ v u Q I rx ry ⟨a,b,_,_,rfl,rfl,ha,hb,by simpa using hl,iz _,iz _,?_⟩
  rw[pV hl];exact q
 ·cases rx
  cases ry;obtain⟨vs,r1,⟨o1,n1,e1,c1,_,g1⟩,_⟩:=I.list ha;obtain⟨ws,r2,⟨o2,n2,e2,c2,_,g2⟩,_⟩:=I.list hb;have l1:=r1.length;have l2:=r2.length;rw[Cn]at l1 l2;refine SeqAt.eq_list_lengthsAt ⟨o1,e1,c1,n1,g1⟩ ⟨o2,e2,c2,n2,g2⟩ (by simp only[Cj,bne_iff_ne,ne_eq];omega) hu ⟨.bl false,H,I,rfl,?_⟩;rw[decide_eq_false λz=>hl (by rw[z])]at q;exact q
end
section
variable{P:Program}{w:World}{K:W.Frag}{mg:Str→Option Value}{base:Heap}{N:List Str}{qual:Str}{scope:Scope}{f:Addr}{cdv:Value}{A:Around}{outer:List Env}{s₀:Shared}{H₀:Hp}{E₀:XK}
end
section
open PySem.SeqAt
open PySem.AutoSeq1 (wpAny_loadPart')
open PySem.MeetsSeq PySem.MeetsSeq2 PySem.MeetsSeq3
end
section
variable{X:Cx}
end
section
variable{P:Program}{w:World}{A:Around}{E:Value→Shared→Prop}
end
section
variable{X:Cx}
end
section
variable{P:Program}{w:World}
variable{A:Around}{E:Value→Shared→Prop}{s:Shared}
end
section
variable{cmp:Nat→Nat→(Bool→Shared→Prop)→Shared→Prop}{s:Shared}
end
section
variable{P:Program}{w:World}{A:Around}{E:Value→Shared→Prop}{s:Shared}
end
section
variable{P:Program}{w:World}{A:Around}{E:Value→Shared→Prop}{s:Shared}
def BO(P:Program)(w:World)(A:Around)(vs:List Value)(s:Shared):Prop:=∃ κ:SortKind,(∀(Q:SortKind→Shared→Prop) (E:Value→Shared→Prop),Q κ s→wpAny (model P w) A (keyKind' vs.toArray) Q E s) ∧
 ∀ i j,i<vs.length→j<vs.length→∀ C:Bool→Shared→Prop,(∀ b,C b s)→PySem.W.kas_ask P w A κ vs i j C s
end
section
variable{X:Cx}{pins:List (Addr×Obj)}{σ:St}{H:Hp}{s:Shared}{A:Around}{E:Value→Shared→Prop}
theorem g4{us:List Value}{a b:Int}(r:Vals [.int a,.int b] us):∃ t t',us=[.int a t,.int b t']:=by
 cases r with
 | cons h1 r =>
  cases r with
  | cons h2 r =>
   cases r;obtain⟨t,rfl⟩:=h1;obtain⟨t',rfl⟩:=h2;exact⟨t,t',rfl⟩
theorem vq(I:Inv X pins σ H s){p q:Addr}{a b a' b':Int}(hp:H p=some (.tup [.int a,.int b]))(hq:H q=some (.tup [.int a',.int b'])){Q:Bool→Shared→Prop}(k:∀ c,Q c s):wpAny (model X.prog X.w) A (keyLt' (tuples' true) (.ref p) (.ref q)) Q E s:=by
 obtain⟨vs,r1,t1,_⟩:=I.tuple (SqT.of hp);obtain⟨ws,r2,t2,_⟩:=I.tuple (SqT.of hq);obtain⟨n0,n1,rfl⟩:=g4 r1;obtain⟨m0,m1,rfl⟩:=g4 r2;obtain⟨o1,ho1,_,n,hd1⟩:=t1;obtain⟨o2,ho2,_,m,hd2⟩:=t2;refine PySem.W.kat_lt ho1 hd1 ho2 hd2 (PySem.W.kat_cons (wpAny_eqBool_int ?_));by_cases h0:a=a'
 ·rw[show(a == a')=true from beq_iff_eq.mpr h0]
  refine PySem.W.kat_yes (PySem.W.kat_cons (wpAny_eqBool_int ?_));by_cases h1:b=b'
  ·rw[show(b == b')=true from beq_iff_eq.mpr h1]
   exact PySem.W.kat_yes (PySem.W.kat_nil (k _))
  ·rw[show(b == b')=false from beq_eq_false_iff_ne.mpr h1]
   exact PySem.W.kat_no (PySem.W.kat_one _ _ (PyProof.Rows.lt_int (k _)))
 ·rw[show(a == a')=false from beq_eq_false_iff_ne.mpr h0]
  exact PySem.W.kat_no (oneLt_int (k _))
theorem jJ(I:Inv X pins σ H s):∀ us:List Value,(∀ v∈us,∃ q a b,v=.ref q∧H q=some (.tup [.int a,.int b]))→∃ fs:List Value,fs.length=us.length∧(∀ v∈fs,∃ n t,v=Value.int n t)∧PySem.W.KatTups s.heap us fs
 | [],_=>⟨[],rfl,(λv h=>nomatch h),.nil⟩
 | e::us,hw=>by
  obtain⟨fs,h1,h2,h3⟩:=jJ I us λz hz=>hw z (Cm _ hz);obtain⟨q,a,b,rfl,hq⟩:=hw e Co;obtain⟨vs,r1,⟨o,go,gc,n,gd⟩,_⟩:=I.tuple (SqT.of hq);obtain⟨n0,n1,rfl⟩:=g4 r1;refine⟨.int a n0::fs,by rw[CI,CI,h1],λv hv=>?_,.cons go gc gd rfl h3⟩;rcases Cw.mp hv with rfl|hv
  ·exact⟨_,_,rfl⟩
  ·exact h2 v hv
theorem rO(I:Inv X pins σ H s){us:List Value}(hw:∀ v∈us,∃ q a b,v=.ref q∧H q=some (.tup [.int a,.int b]))(h2:2≤us.length):BO X.prog X.w A us s:=by
 refine⟨tuples' true,λQ E q=>?_,λi j hi hj C c=>?_⟩
 ·obtain⟨fs,e1,e2,e3⟩:=jJ I us hw
  refine PySem.W.kat_kind (T:=Value.type "int") e3 (by omega) (λv hv=>?_) (by rfl) q;obtain⟨n,t,rfl⟩:=e2 v hv;exact PySem.W.Looks.of_pure rfl
 ·unfold PySem.W.kas_ask
  rw[Cz,Cz,Cc hi,Cc hj,Dr,Dr];obtain⟨q1,a1,b1,e1,g1⟩:=hw _ (DF hi);obtain⟨q2,a2,b2,e2,g2⟩:=hw _ (DF hj);rw[e1,e2];exact vq I g1 g2 c
end
end L2
end
section
namespace L2
open PySem PySem.Spec PyProof.Rows LX PySem.W
def dz{α:Type}(n:Nat)(P:α→Prop):KasT α→Prop
 | .ret a=>P a
 | .ask i j k=>i<n∧j<n∧∀ b,dz n P (k b)
theorem dz.bind{α β:Type}{n:Nat}{P:α→Prop}{Q:β→Prop}{f:α→KasT β}:∀ {t:KasT α},dz n P t→(∀ a,P a→dz n Q (f a))→dz n Q (t.bind f)
 | .ret a,h,k=>k a h
 | .ask _ _ _,h,k=>⟨h.1,h.2.1,λb=>dz.bind (h.2.2 b) k⟩
def Pm(n:Nat)(p:Array Nat):Prop:=p.Perm (List.toArray (List.range n))
theorem Pm.lt{n:Nat}{p:Array Nat}(h:Pm n p)(hn:0<n)(k:Nat):p.getD k 0<n:=by
 by_cases hk:k<p.size
 ·have e:p.getD k 0=p[k]:=by simp[Array.getD,hk]
  rw[e];have m:p[k]∈p:=Array.getElem_mem hk;have m':=h.mem_iff.mp m;simpa using m'
 ·have e:p.getD k 0=0:=by simp[Array.getD,hk]
  rw[e];exact hn
theorem Pm.rev{n:Nat}{p:Array Nat}(h:Pm n p)(i j:Nat):Pm n (kas_rev p i j):=(mirror_perm _ _ _ _).trans h
theorem jX{n:Nat}{p:Array Nat}(h:Pm n p)(hn:0<n):∀(f m:Nat),dz n (λ_=>True) (kas_asc p f m)
 | 0,_=>trivial
 | f+1,m=>⟨h.lt hn _,h.lt hn _,λb=>by
  cases b with
  | true=>exact trivial
  | false=>exact jX h hn f (m+1)⟩
theorem gL{n:Nat}(hn:0<n):∀(f:Nat) (p:Array Nat) (m q:Nat),Pm n p→dz n (λr=>Pm n r.1) (kas_desc f p m q)
 | 0,_,_,_,h=>h
 | f+1,p,m,q,h=>⟨h.lt hn _,h.lt hn _,λb=>by
  cases b with
  | true =>
   show dz n _ (if q>0 then _ else _);by_cases hq:q>0
   ·rw[if_pos hq];exact gL hn f _ _ _ (h.rev _ _)
   ·rw[if_neg hq];exact gL hn f _ _ _ h
  | false =>
   refine⟨h.lt hn _,h.lt hn _,λc=>?_⟩;cases c with
   | true=>exact h
   | false=>exact gL hn f _ _ _ h⟩
theorem jK{n:Nat}(hn:0<n){p:Array Nat}(h:Pm n p)(m uh:Nat):dz n (λr=>Pm n r.2) (kas_tail3 m uh p) :=
 (jX (h.rev _ _) hn _ _).bind λ_ _=>h.rev _ _
theorem gS{n:Nat}(hn:0<n){p:Array Nat}(h:Pm n p)(m uh:Nat):dz n (λr=>Pm n r.2) (kas_descPart m uh p):=by
 refine(gL hn _ _ _ _ h).bind λr hr=>?_;by_cases hq:r.2.2>0
 ·rw[if_pos hq];exact jK hn (hr.rev _ _) _ _
 ·rw[if_neg hq];exact jK hn hr _ _
theorem pZ{n:Nat}(hn:0<n){p:Array Nat}(h:Pm n p)(uh:Nat):dz n (λr=>Pm n r.2) (kas_count uh p):=by
 refine(jX h hn _ _).bind λm _=>?_;by_cases h1:(m == uh)=true
 ·rw[if_pos h1];exact h
 ·rw[if_neg h1]
  by_cases h2:m>1
  ·rw[if_pos h2]
   refine⟨h.lt hn _,h.lt hn _,λb=>?_⟩;cases b with
   | true=>exact h
   | false=>exact gS hn (h.rev _ _) _ _
  ·rw[if_neg h2];exact gS hn h _ _
theorem g5{n:Nat}(hn:0<n){p:Array Nat}(h:Pm n p)(k:Nat):∀(f l r:Nat),dz n (λ_=>True) (kas_place p k f l r)
 | 0,_,_=>trivial
 | f+1,l,r=>by
  show dz n _ (if l≥r then _ else _);by_cases h1:l≥r
  ·rw[if_pos h1];exact trivial
  ·rw[if_neg h1]
   refine⟨h.lt hn _,h.lt hn _,λb=>?_⟩;cases b with
   | true=>exact g5 hn h k f _ _
   | false=>exact g5 hn h k f _ _
theorem pj{n:Nat}(hn:0<n):∀(f:Nat) (p:Array Nat) (k:Nat),Pm n p→dz n (Pm n) (kas_bin f p k)
 | 0,_,_,h=>h
 | f+1,p,k,h=>(g5 hn h k _ _ _).bind λl _=>pj hn f _ _ ((bubble_perm _ _ _).trans h)
theorem rP{n:Nat}(hn:0<n):dz n (Pm n) (kas_sort n):=by
 refine(pZ hn (Array.Perm.refl _) n).bind λr hr=>?_;by_cases h:r.1<n
 ·rw[if_pos h];exact pj hn _ _ _ hr
 ·rw[if_neg h];exact hr
theorem dz.wp{α:Type}{n:Nat}{P:α→Prop}{cmp:Nat→Nat→(Bool→Shared→Prop)→Shared→Prop}{G:α→Shared→Prop}{s:Shared}(hc:∀ i j,i<n→j<n→∀ C:Bool→Shared→Prop,(∀ b,C b s)→cmp i j C s)(hG:∀ a,P a→G a s):∀ {t:KasT α},dz n P t→t.kasWp cmp G s
 | .ret a,h=>hG a h
 | .ask i j k,h=>hc i j h.1 h.2.1 _ λb=>dz.wp hc hG (h.2.2 b)
end L2
end
section
namespace L2
open PySem PySem.Spec PyProof.Rows LX
open PySem.W (CodeHd tabObj envX kla_obj kla_fn)
section
variable{X:Cx}{pins:List (Addr×Obj)}{σ:St}{H:Hp}{s:Shared}
theorem Inv.xj{a:Addr}{o:HO}{h':Heap}{t':Nat}(I:Inv X pins σ H s)(hs:Heap.SameBut a s.heap h')(hn:H a=none)(own:X.s₀.heap.objs.size≤a)(nl:a≠X.env.locals)
  (nc:∀ x c,X.env.cells.lookup x=some c→c≠a) (np:∀ p∈X.pn++pins,p.1≠a) (lt:∃ u,h'.get? a=some u) (new:cb X.prog X.w (upd H a o) h' a o):Inv X pins σ (upd H a o) {s with heap:=h',toks:=t'}:=by
 have na:∀ b u,H b=some u→b≠a:=λb u e z=>by rw[z,hn]at e;cases e
 have ot:∀ b,b∉[a]→b≠a:=λb hb z=>hb (by rw[z];exact Cf.mpr rfl);refine I.step (g':=s.gens) (d':=s.drawn) (ch:=[a]) (λb hb=>?_) (λb o _ _ hc e _=>(hs.2 b (ot b hc)).trans e) (λb o _ _ hc e _=>⟨o.slots,(hs.2 b (ot b hc)).trans e⟩) (λb _ hc _ n=>by rw[ag (ot b hc)];exact n)
  (λb o hc e=>⟨o,(hs.2 b (ot b hc)).trans e⟩) (λb _ e=>by rw[ag (na b _ e)];exact e) (λb _ _ e=>by rw[ag (na b _ e)];exact e) (λb ps e=>⟨#[],by rw[ag (na b _ e),e];simp⟩) (λm hm=>hm.sameBut hs nl.symm) (λb u e=>?_) I.bare
 ·rw[Cf.mp hb]
  exact⟨.inr own,nl,nc,np⟩
 ·by_cases hb:b=a
  ·subst hb;rw[ab]at e;cases e;exact new
  ·rw[ag hb]at e
   refine(I.hok b u e).mX (λc v hc q=>(hs.2 c ?_).trans q) (λc q=>by rw[ag (na c _ q)];exact q) λc xs q=>by rw[ag (na c _ q)];exact q
   rcases hc with z|z
   ·rw[z];exact hb
   ·exact na c _ z
theorem Inv.uL{a:Addr}{o o':Obj}{h':Heap}{t':Nat}(I:Inv X ((a,o)::pins) σ H s)(hs:Heap.SameBut a s.heap h')(ho:h'.get? a=some o')(own:X.s₀.heap.objs.size≤a)(np:∀ p∈X.pn++pins,p.1≠a)(d:∀ v,o'.data≠.cell v) :
  Inv X ((a,o')::pins) σ H {s with heap:=h',toks:=t'}:=by
 obtain⟨e1,e2,e3,e4,e5⟩:=I.pin (a,o) (Ci _ Co);have nc:∀ x c,X.env.cells.lookup x=some c→c≠a:=λx c e z=>by
  obtain⟨v,oc,h1,h2⟩:=I.cell x c e;rw[z]at h1;have h1':=h1.symm.trans e1;cases h1';exact e5 v h2
 have I1:Inv X pins σ H s:=I.gO λp hp=>I.pin p (Ci _ (Cm _ hp));have I2:Inv X pins σ H {s with heap:=h',toks:=t'}:=I1.turned (t':=t') (it:=a) (λb o hb e=>(hs.2 b hb).trans e) e2 e3 (.inr own) nc np;refine I2.gO λp hp=>?_;rcases Cw.mp hp with rfl|hp
 ·exact⟨ho,e2,e3,e4,d⟩
 ·exact I2.pin p (Ci _ hp)
theorem Inv.so{p:Addr×Obj}(I:Inv X (p::pins) σ H s):Inv X pins σ H s:=I.gO λq hq=>I.pin q (Ci _ (Cm _ hq))
theorem Inv.vW{a:Addr}{o:Obj}(I:Inv X pins σ H s)(h1:s.heap.get? a=some o)(h2:H a=none)(h3:a≠X.env.locals)(h4:a∉X.fs)(h5:∀ v,o.data≠.cell v):Inv X ((a,o)::pins) σ H s:=by
 refine I.gO λp hp=>?_;rcases Cw.mp hp with rfl|hp
 ·exact⟨h1,h2,h3,h4,h5⟩
 ·exact I.pin p (Ci _ hp)
theorem Inv.vX(I:Inv X pins σ H s){a:Addr}(h:s.heap.objs.size≤a):∀ p∈X.pn++pins,p.1≠a:=λp hp z=>by
 have:=Cr (I.pin p hp).1
 rw[z]at this;exact absurd (Cu this h) (C6 _)
end
abbrev cxL(X:Cx)(A:Around)(qual:Str)(scope:Scope)(cl:List (Str×Addr))(NC:List Str)(L f:Addr)(cd:Value)(s₀:Shared)(H₀:Hp):Cx :=
 {X with A:=A.deeper (envX qual scope L f cd cl),N:=NC,s₀:=s₀,H₀:=H₀,env:=envX qual scope L f cd cl,outer:=X.stack,stack:=envX qual scope L f cd cl::X.stack,ex:=[],fn:=λ_=>false,calm:=true,pn:=[],xe:=λ_ _=>False}
structure p7(X:Cx)(scope:Scope)(cl:List (Str×Addr))(x:Str)(idx:List Nat)(NC:List Str):Prop where
 vT:closureFor scope X.env=pure cl
 sub:∀ y c,cl.lookup y=some c→X.env.cells.lookup y=some c
 has:∀ y,(scope.names.lookup y=some .cell∨scope.names.lookup y=some .free)→∃ c,cl.lookup y=some c
 nK:∀ y∈scope.names,y.2≠.cell
 kind:scope.kind=.function
 co:scope.isCoroutine=false
 gen:scope.isGenerator=false
 xl:scope.names.lookup x=some .local
 nc:NC=x::idx.map λi=>X.N.getD i x
 cap:∀ i∈idx,i<X.N.length∧((X.env.scope.names.lookup (X.N.getD i x)=some .cell∨X.env.scope.names.lookup (X.N.getD i x)=some .free)∧(scope.names.lookup (X.N.getD i x)=some .cell∨scope.names.lookup (X.N.getD i x)=some .free))
structure jL(K:W.Frag)(mg:Str→Option Value)(base:Heap)(c Pt:Addr):Prop where
 cd:CodeHd base c Pt
 ne:mainGlobals≠Pt
 bm:base.BuiltinsAt mg Pt
section
variable{X:Cx}{pins:List (Addr×Obj)}{σ:St}{H:Hp}{s:Shared}{scope:Scope}{cl:List (Str×Addr)}{x:Str}{idx:List Nat}{NC:List Str}{qual:Str}{f:Addr}{cd:Value}
theorem vt{A:Around}{h1:Heap}{t':Nat}{v:V}{u:Value}(c:p7 X scope cl x idx NC)(I:Inv X pins σ H s)(hA:A.frames=some X.stack)(hh:A.handled=none)(rv:RelV v u)(ns:h1.Ns s.heap.objs.size (λy=>[(x,u)].reverse.lookup y))
  (k:∀ b o,s.heap.get? b=some o→h1.get? b=some o):Inv (cxL X A qual scope cl NC s.heap.objs.size f cd s H) [] (some v::ix σ idx) H {s with heap:=h1,toks:=t'}:=by
 refine⟨⟨I.ok.mod,c.kind,rfl,rfl,Cg _,λy z a h1 h2=>I.ok.inj y z a (c.sub _ _ h1) (c.sub _ _ h2),c.has,λy a z=>(by cases z),λ_=>hh,(by show A.frames.map _=_;rw[hA];rfl),.inr ⟨rfl,rfl⟩,λb hb=>(by cases hb),
  λb o q=>I.bs b o q,CK I.ok.bsz I.sz,λb o q hb=>(by cases hb),λb hb z=>(by cases hb),I.stack,I.gN⟩,rfl,I.bare,Un.kept k,⟨_,ns,λi y v' e1 e2 e3=>?_⟩,λy a q=>?_,I.hok.fresh (Cg _),λy a q=>I.gH _ _ (c.sub _ _ q),λp hp=>(by cases hp),I.hok.kept k,?_⟩
 ·cases i with
  | zero =>
   have e1':NC[0]?=some y:=e1;rw[c.nc]at e1';obtain rfl:x=y:=(by simpa using e1');have e2':some (some v)=some (some v'):=e2;cases e2';exact⟨u,rv,.inl ⟨c.xl,by simp⟩⟩
  | succ j =>
   have e1':(idx.map λi=>X.N.getD i x)[j]?=some y:=by
    have AV:NC[j+1]?=some y:=e1;rw[c.nc]at AV;exact AV
   have e2':(ix σ idx)[j]?=some (some v'):=e2;rw[Cq]at e1';unfold ix at e2';rw[Cq]at e2';cases ei:idx[j]? with
   | none=>rw[ei]at e1';cases e1'
   | some i =>
    rw[ei]at e1' e2';simp only[Df,Option.some.injEq]at e1' e2';obtain⟨hi,h2,h3⟩:=c.cap i (Ct ei);rw[e1']at h2 h3;have hN:X.N[i]?=some y:=by
     rw[←e1'];simp[List.getD,Cc hi]
    have hσ:σ[i]?=some (some v'):=by
     cases q:σ[i]? with
     | none=>rw[q]at e2';cases e2'
     | some o=>rw[q]at e2';simp only[Dr]at e2';rw[e2']
    obtain⟨m,hn,hl⟩:=I.loc;obtain⟨u',r,l⟩:=hl i y v' hN hσ (h2.elim (λz=>.inr (.inl z)) λz=>.inr (.inr z));refine⟨u',r,.inr ⟨h3,?_⟩⟩;rcases l with⟨l,_⟩|⟨_,a,ha,hc⟩
    ·exfalso
     have l':X.env.scope.names.lookup y=some .local:=l;rcases h2 with z|z<;>(rw[l']at z;cases z)
    ·obtain⟨a',ha'⟩:=c.has y h3
     have:=c.sub _ _ ha'
     rw[ha]at this;cases this;exact⟨a,ha',hc.keeps k⟩
 ·obtain⟨v',z⟩:=I.cell _ _ (c.sub _ _ q)
  exact⟨v',z.keeps k⟩
 ·show _=NC.length
  rw[c.nc];simp[ix]
theorem vv{A:Around}{k:Nat}{params:Arguments}{body:Expr}{pm ctv:Value}{c':Addr}{te:TE}{Q:VK}{v:V}{u:Value}(c:p7 X scope cl x idx NC)(I:Inv X pins σ H s)(hA:A.frames=some X.stack)(hr:dY (k+1) A)(rv:RelV v u)
  (hf:s.heap.get? f=some (kla_obj "<lambda>" qual params body scope cl pm c' ctv)) (hcd:s.heap.CodeRec (.ref c') qual) (hb:∀ u:Value,bindArgs (kla_fn "<lambda>" qual params body scope cl pm (.ref c') ctv) ⟨[u],[]⟩=pure [(x,u)])
  (he:PE (cxL X A qual scope cl NC s.heap.objs.size f (.ref c') s H) body te) (hq:te (some v::ix σ idx) H Q) :
  wpAny (model X.prog X.w) A (call (.ref f) [u]) (λu' s'=>∃ v' H',Inv X pins σ H' s'∧RelV v' u'∧(∀ b xs,H b=some (.tup xs)→H' b=some (.tup xs))∧Q v' H') (λ_ _=>False) s:=by
 refine wpAny_call (PySem.W.kla_callFunE hr.depth hf rfl c.co c.gen rfl hcd ?_);rw[hb u];refine wpAny_pure (wpAny_newFunctionEnv c.nK (λy hy=>by rw[Cf.mp hy];exact c.xl) (λh₁ hns hsb=>⟨I.nolimit.fresh _ hsb,?_⟩) c.kind);show codeAny _ _ (.expr body (envX qual scope s.heap.objs.size f (.ref c') cl)) _ _;have kp:∀ b o,s.heap.get? b=some o→h₁.get? b=some o:=λb o e=>hsb.extBut b o (Cv (Cr e)) (Ce _ e);have I1:=vt (qual:=qual) (f:=f) (cd:=.ref c') (t':=s.toks+1) c I hA hr.hd rv hns kp;refine PySem.W.kla_codeExpr (wpAny_mono (he [] _ _ H Q I1 hq) (λu' s' ⟨v',H',I',r',q'⟩=>?_) λ_ _ z=>z.elim);exact⟨v',H',I.sh (ch:=[]) I'.os I'.base I'.hok I'.bare (λb hb=>(by cases hb)),r',I'.base.jy,q'⟩
theorem tD{params:Arguments}{body:Expr}{lN:Pos}{cc Pt:Addr}{ps:Array Value}{Q:Value→Shared→Prop}(c:p7 X scope cl x idx NC)(lh:X.env.code=.ref cc)(T:jL X.K X.mg X.base cc Pt)(I:Inv X pins σ H s)(hP:H Pt=some (.tbl ps))(ht:TriplesOk ps.toList)(hnf:codeAmong lN ps.toList=none)
  (yX:defaultsOf params X.env=([],[]))
  (q:∀(f c':Addr) (oc:Obj) (pm ctv:Value) (ps':Array Value) (s':Shared),Inv X ((f,kla_obj "<lambda>" (X.env.qual ++ "<lambda>") params body scope cl pm c' ctv)::(c',oc)::pins) σ (upd H Pt (.tbl ps')) s'→s'.heap.CodeRec (.ref c') (X.env.qual ++ "<lambda>")→Q (.ref f) s') :
  wpAny (model X.prog X.w) X.A (eval (.Lambda params body scope lN) X.env) Q X.xe s:=by
 have hP':s.heap.get? Pt=some (tabObj ps):=I.hok Pt _ hP;have bm':s.heap.BuiltinsAt X.mg Pt:=let ⟨bm,ob,a1,a2,a3,a4,a5,a6⟩:=T.bm;⟨bm,ob,a1,a2,a3,a4,I.bk _ _ a5,a6⟩;refine PySem.W.kla_eval yX (PySem.W.kla_makeFunction (mg:=X.mg) c.vT I.ok.glob (I.mod.glob.keeps I.bk) lh (T.cd.keeps I.bk) hP' ht hnf T.ne bm' λc' ctv h' tk hx hge hlt hrec htb=>?_);obtain⟨c2,oc,vs,t,e2,hoc,hd,hv⟩:=hrec;cases e2;have nP:∀ b u,b≠Pt→s.heap.get? b=some u→h'.get? b=some u:=λb u hb e=>hx b u hb e;have tr:∀ b,H b=none→b≠Pt:=λb n z=>by rw[z,hP]at n;cases n
 have ltP:Pt<s.heap.objs.size:=Cr hP';have hsz:s.heap.objs.size≤h'.objs.size:=CK hge (DJ hlt);generalize hpm:(X.mg "__name__").getD .none=pm;obtain⟨of,hof⟩:∃ of,of=kla_obj "<lambda>" (X.env.qual ++ "<lambda>") params body scope cl pm c' ctv:=⟨_,rfl⟩;have AW:(kla_obj "<lambda>" (X.env.qual ++ "<lambda>") params body scope cl pm c' ctv)=of:=hof.symm;have kp:∀ b u,b≠Pt→s.heap.get? b=some u→(h'.push of).get? b=some u:=λb u hb e=>Ce _ (nP b u hb e);have I2:Inv X pins σ (upd H Pt (.tbl (ps++#[rawInt lN.line,rawInt lN.col,.ref c']))) {s with heap:=h'.push of,toks:=tk}:=by
  refine I.step (g':=s.gens) (d':=s.drawn) (ch:=[]) (λ_ z=>nomatch z) (λb o _ _ _ e n=>kp b o (tr b n) e) (λb o _ _ _ e n=>⟨o.slots,kp b o (tr b n) e⟩) (λb o _ e n=>by rw[ag (tr b n)];exact n) (λb o _ e=>?_)
   (λb xs e=>by rw[ag (bo e hP (by simp))];exact e) (λb o u e=>by rw[ag (bo e hP (by simp))];exact e) (λb qs e=>?_) (λm hm=>?_) (λb u e=>?_) I.bare
  ·by_cases hb:b=Pt
   ·subst hb;exact⟨_,Ce _ htb⟩
   ·exact⟨o,kp b o hb e⟩
  ·by_cases hb:b=Pt
   ·subst hb
    rw[hP]at e;cases e;exact⟨_,ab⟩
   ·exact⟨#[],by rw[ag hb,e];simp⟩
  ·obtain⟨o,es,ep,ho,r⟩:=hm
   exact⟨o,es,ep,kp _ o (tr _ I.free) ho,r⟩
  ·by_cases hb:b=Pt
   ·subst hb
    rw[ab]at e;cases e;show(h'.push of).get? b=some _;exact Ce _ htb
   ·rw[ag hb]at e
    refine(I.hok b u e).mX (λz w hz r=>kp z w ?_ r) (λz r=>by rw[ag (bo r hP (by simp))];exact r) λz xs r=>by rw[ag (bo r hP (by simp))];exact r
    rcases hz with rfl|hz
    ·exact hb
    ·exact bo hz hP (by simp)
 have fr:∀ a,s.heap.objs.size≤a→upd H Pt (.tbl (ps++#[rawInt lN.line,rawInt lN.col,.ref c'])) a=none:=λa ha=>by
  rw[ag (C7 (Cu ltP ha))];exact I.hok.fresh ha
 have nl:∀ a,s.heap.objs.size≤a→a≠X.env.locals:=λa ha=>C7 (Cu I.lt ha);rw[AW];refine q h'.objs.size c' oc pm ctv (ps++#[rawInt lN.line,rawInt lN.col,.ref c']) _ ?_ ⟨c',oc,vs,t,rfl,Ce _ hoc,hd,hv⟩;refine Inv.vW (Inv.vW I2 (Ce _ hoc) (fr _ hge) (nl _ hge) (I.uX hge) (λv z=>by rw[hd]at z;cases z)) ?_ (fr _ hsz) (nl _ hsz) (I.uX hsz) (λv z=>by cases z);rw[AW];exact CB _ (by rw[hof];rfl)
end
end L2
end
section
namespace L2
open PySem PySem.Spec PyProof.Rows LX
open PySem.W (CodeHd tabObj envX kla_obj kla_fn)
section
variable{P:Program}{w:World}{A:Around}{E:Value→Shared→Prop}{s:Shared}
theorem nY{r:Addr}{n:Nat}{t u v:Tok}{R:List Value→Shared→Prop}(hh:A.handled=none)(hr:s.heap.get? r=some {cls:=.type "range",data:=.fields #[.int 0 t,.int n u,.int 1 v]})(hn:n≤63)
  (h:∀(h':Heap) (tk:Nat) (acc:Array Value),(∀ b o,s.heap.get? b=some o→h'.get? b=some o)→ItemsOf (λi v=>∃ t,v=.int ((0:Int)+i*1) t) acc n→R acc.toList {s with heap:=h',toks:=tk}) :
  wpAny (model P w) A (collect (.ref r)) R E s:=by
 have hlt:=Cr hr;unfold collect;refine wpAny_bind (wpAny_runValue (codeAny_builtin PySem.F.entry_proto_collect ?_));rw[Dp PySem.F.plain_proto_collect _];show wpAny _ A.in1 (newList [] >>= λl=>again (.builtin "list.__iadd__" ⟨[l,.ref r],[]⟩)) _ _ s;refine wpAny_bind (wpAny_newObj_type ?_);refine wpAny_pure ⟨plainId_quiet PySem.F.plain_list_iadd _,codeAny_builtin PySem.F.entry_list_iadd ?_⟩;rw[Dp PySem.F.plain_list_iadd _];have hS₁:(s.heap.push {cls:=.type "list",data:=.seq ([]:List Value).toArray}).get? s.heap.objs.size=some {cls:=.type "list",data:=.seq #[]}:=CB _ rfl;show wpAny _ A.in1 (Builtin.List.listExtendWith (.ref s.heap.objs.size) (.ref r) (.ref s.heap.objs.size)) _ _ _;have hz:Builtin.Range.rangeSize 0 n 1=n:=by
  unfold Builtin.Range.rangeSize;simp only[show((1:Int)>0)=True from eq_true (by decide),if_true];by_cases h0:(0:Int)<n
  ·rw[if_pos h0];simp only[Int.ediv_one];omega
  ·rw[if_neg h0];omega
 have hsm:Builtin.Range.small 0 n 1=true:=by
  unfold Builtin.Range.small;rw[hz];have fl:∀ i:Int,0≤i→i≤63→Builtin.Range.rangeFitsLong i=true:=λi h1 h2=>by
   unfold Builtin.Range.rangeFitsLong;simp;omega
  have hn':(n:Int)≤63:=by exact_mod_cast hn
  have h0:(0:Int)≤n:=Int.natCast_nonneg n;rw[fl 0 (by decide) (by decide),fl n h0 hn',fl 1 (by decide) (by decide),if_pos (by decide),fl (n+(1-1)) (by omega) (by omega)];simp
 have key:=wpAny_extend_range (prog:=P) (w:=w) (A:=A) (s:={s with heap:=s.heap.push {cls:=.type "list",data:=.seq ([]:List Value).toArray}})
  (R:=λ(q:Result) (s':Shared)=>∃(h':Heap) (tk:Nat) (qa:Array Value) (c':Nat),q=.ok (.ret (.ref s.heap.objs.size))∧s'={s with heap:=h',toks:=tk} ∧
   (∀ b o,s.heap.get? b=some o→h'.get? b=some o)∧h'.get? s.heap.objs.size=some {cls:=.type "list",dict:=none,data:=.seq qa c',slots:=#[]}∧ItemsOf (λi v=>∃ t,v=.int ((0:Int)+i*1) t) qa n)
  hh (Ce _ hr) hsm hz (by omega) s.heap.objs.size (.ref s.heap.objs.size) 0 hS₁
  (λh' tk qa c' hk hS' qb=>⟨h',tk,qa,c',rfl,rfl,λb o e=>hk b o (Cv (Cr e)) (Ce _ e),hS',qb⟩)
 refine wpAny_mono key (λfin s' x=>?_) λe s' x=>?_
 ·cases fin with
  | done f =>
   obtain⟨h',tk,qa,c',e,rfl,hk,hS',qb⟩:=x;cases e;exact wpAny_bind (wpAny_load hS' (wpAny_pure (h h' tk qa hk qb)))
  | again c' =>
   refine⟨x.1,codeAny_mono x.2 λq s2 y=>?_⟩;obtain⟨h',tk,qa,c',e,rfl,hk,hS',qb⟩:=y;cases e;exact wpAny_bind (wpAny_load hS' (wpAny_pure (h h' tk qa hk qb)))
 ·obtain⟨h',tk,qa,c',e,_⟩:=x
  cases e
end
section
variable{X:Cx}{pins:List (Addr×Obj)}{σ:St}{H:Hp}{s:Shared}
def zO(X:Cx)(A:Around)(f:Addr)(n:Nat)(W:Hp→Prop)(PN:List (Addr×Obj))(σ:St):Prop:=∀(k:Nat) (t:Tok) (pins:List (Addr×Obj)) (H:Hp) (s:Shared),k<n→W H→(∀ p∈PN,p∈pins)→Inv X pins σ H s →
 wpAny (model X.prog X.w) A (call (.ref f) [.int k t]) (λu s'=>∃ H',Inv X pins σ H' s'∧W H'∧(∀ b xs,H b=some (.tup xs)→H' b=some (.tup xs))∧∃ q a b,u=.ref q∧H' q=some (.tup [.int a,.int b])) (λ_ _=>False) s
def PrK(H:Hp)(v:Value):Prop:=∃ q a b,v=Value.ref q∧H q=some (.tup [.int a,.int b])
def qy(vs:List Value)(n:Nat):Prop:=vs.length=n∧∀ i,i<n→∃ t,vs.getD i Value.none=.int (i:Int) t
theorem lO{vs:List Value}{n:Nat}(h:qy vs n):∀(ks:List Nat),(∀ k∈ks,k<n)→Vals (ks.map λi:Nat=>V.int (i:Int)) (ks.map λi:Nat=>vs.getD i Value.none)
 | [],_=>.nil
 | k::ks,hk=>.cons (let ⟨t,e⟩:=h.2 k (hk k Co);⟨t,e⟩) (lO h ks λk m=>hk k (Cm _ m))
theorem tE{A:Around}{E:Value→Shared→Prop}{F:PySem.Fin→Shared→Prop}{n e0:Nat}{f a:Addr}{W:Hp→Prop}{vs:List Value}{PN:List (Addr×Obj)}(hK:zO X A f n W PN σ)(hs:∀ p∈PN,p∈pins)(hi:qy vs n)(hn:n≤63)(w0:W H)
  (I:Inv X ((a,seqObj "list" vs.toArray e0)::pins) σ H s) (ow:X.s₀.heap.objs.size≤a) (na:∀ p∈X.pn++pins,p.1≠a)
  (q:∀(H':Hp) (s':Shared) (ks:List Nat),W H'→H' a=none→ks.Perm (List.range n)→Inv X pins σ (upd H' a (.lst (ks.map λi:Nat=>V.int (i:Int)))) s'→F (.done (.ret .none)) s') :
  wpAny (model X.prog X.w) A (ksk_tree a (.ref f) false) F E s:=by
 have zl:∀ m:Nat,m≤64→m≤sizeLine:=λm h=>by rw[sizeLine_eq];omega
 have lv:=hi.1;obtain⟨ga,_,_⟩:=I.pin _ (Ci _ Co);have alt:a<s.heap.objs.size:=Cr ga;unfold ksk_tree;refine wpAny_bind (listItems_at ga rfl ?_);refine wpAny_bind (listUpdate_at ga rfl ?_ (zl _ (by rw[Cj];omega)) (CG _));have s1:=Dh s.heap a (Obj.mapSeq λ_=>(#[]:Array Value));obtain⟨e1,g1⟩:∃ e1,(s.heap.update a (Obj.mapSeq λ_=>(#[]:Array Value))).get? a=some (seqObj "list" #[] e1):=⟨_,get?_update_seq ga λ_=>#[]⟩;have I1:Inv X ((a,seqObj "list" #[] e1)::pins) σ H {s with heap:=s.heap.update a (Obj.mapSeq λ_=>(#[]:Array Value))}:=I.uL (t':=s.toks) s1 g1 ow na (λv z=>by cases z);refine wpAny_bind (seqEpoch_at g1 rfl ?_);refine wpAny_bind (wpAny_newTuple ?_ (zl _ (by show vs.length≤_;omega)));refine wpAny_bind (wpAny_newList ?_ (CG _));refine wpAny_holding ?_;obtain⟨h2,eh2⟩:∃ h2,(s.heap.update a (Obj.mapSeq λ_=>(#[]:Array Value))).push (seqObj "tuple" vs.toArray 0)=h2:=⟨_,rfl⟩;have k2:∀ b o,(s.heap.update a (Obj.mapSeq λ_=>(#[]:Array Value))).get? b=some o→(h2.push (seqObj "list" #[] 0)).get? b=some o:=λb o e=>by
  rw[←eh2];exact Ce _ (Ce _ e)
 have hsz:(s.heap.update a (Obj.mapSeq λ_=>(#[]:Array Value))).objs.size≤h2.objs.size:=by
  rw[←eh2,size_push'];exact Ds _
 show wpAny (model X.prog X.w) A _ F E {s with heap:=((s.heap.update a (Obj.mapSeq λ_=>(#[]:Array Value))).push (seqObj "tuple" vs.toArray 0)).push (seqObj "list" #[] 0)};show wpAny (model X.prog X.w) A (ksk_rest a (.ref f) false vs.toArray e1 (.ref ((s.heap.update a (Obj.mapSeq λ_=>(#[]:Array Value))).push (seqObj "tuple" vs.toArray 0)).objs.size)) F E _;rw[eh2];have I2:Inv X ((a,seqObj "list" #[] e1)::pins) σ H {s with heap:=h2.push (seqObj "list" #[] 0)}:=I1.kept (t':=s.toks) k2;generalize hkS:h2.objs.size=kS at *;have I3:Inv X ((kS,seqObj "list" #[] 0)::(a,seqObj "list" #[] e1)::pins) σ H {s with heap:=h2.push (seqObj "list" #[] 0)} :=
  I2.vW (by rw[←hkS];exact CB _ rfl) (I1.hok.fresh hsz) (C7 (Cu I1.lt hsz)) (I1.uX hsz) (λv z=>by cases z)
 have nk:∀ p∈X.pn++((a,seqObj "list" #[] e1)::pins),p.1≠kS:=I1.vX hsz;have owk:X.s₀.heap.objs.size≤kS:=CK I1.sz hsz;clear I2 k2;unfold ksk_rest;refine wpAny_bind (wpAny_rule ?_);rw[List.forIn_toArray];refine wpAny_bind (ksk_fold (λi s'=>∃(H':Hp) (ks:List Value) (e:Nat),Inv X ((kS,seqObj "list" ks.toArray e)::(a,seqObj "list" #[] e1)::pins) σ H' s'∧W H'∧ks.length=i∧∀ v∈ks,PrK H' v) vs 0 _ ⟨H,[],0,I3,w0,rfl,λv m=>nomatch m⟩ ?_ ?_)
 ·rintro j x s' hx ⟨H',ks,e,I',w',lk,hk⟩
  have hj:j<n:=by rw[←lv];exact(Cd.mp hx).1
  obtain⟨t,et⟩:=hi.2 j hj;have ex:x=.int (j:Int) t:=by rw[←et,Cz,hx];rfl
  subst ex;refine wpAny_bind (wpAny_attempt (wpAny_mono (hK j t _ H' s' hj w' (λp hp=>Cm _ (Cm _ (hs p hp))) I') (λu s2 ⟨H2,I2,w2,tu,q',a',b',eu,hq'⟩=>?_) λ_ _ z=>z.elim));obtain⟨gk,_⟩:=I2.pin _ (Ci _ Co)
  try dsimp only
  have lz:ks.length≤63:=by omega
  refine wpAny_bind (listUpdate_at gk rfl ?_ (zl _ (by rw[Cj];omega)) (CK (Nat.le_of_eq (Array.size_push ..)) (by rw[Cj,sizeLine_eq];omega)));refine wpAny_pure ⟨rfl,?_⟩;have s2b:=Dh s2.heap kS (Obj.mapSeq (·.push u));have ea:ks.toArray.push u=(ks++[u]).toArray:=by simp
  obtain⟨c2,hc2⟩:∃ c2,(s2.heap.update kS (Obj.mapSeq (·.push u))).get? kS=some (seqObj "list" (ks++[u]).toArray c2):=⟨_,by rw[←ea];exact get?_update_seq gk (·.push u)⟩;refine⟨H2,ks++[u],c2,I2.uL (t':=s2.toks) s2b hc2 owk nk (λv z=>by cases z),w2,by rw[Cs,lk];simp,λv m=>?_⟩;rcases Cy.mp m with m|m
  ·obtain⟨q1,a1,b1,ev,h1⟩:=hk v m
   exact⟨q1,a1,b1,ev,tu _ _ h1⟩
  ·rw[Cf.mp m]
   exact⟨q',a',b',eu,hq'⟩
 rintro s' ⟨H',ks,e,I',w',lk,hk⟩;rw[Nat.zero_add]at lk;obtain⟨gk,_,nlk,nfk,_⟩:=I'.pin _ (Ci _ Co);obtain⟨ga',fa',nla,nfa,_⟩:=I'.pin _ (Ci _ (Cm _ Co));refine wpAny_bind (listItems_at gk rfl ?_);have nka:kS≠a:=λz=>nk (a,seqObj "list" #[] e1) (Ci _ Co) z.symm;have nca:∀ x c,X.env.cells.lookup x=some c→c≠a:=λx c ec z=>by
  obtain⟨v,oc,h1,h2⟩:=I'.cell x c ec;rw[z]at h1;have h1':=h1.symm.trans ga';cases h1';cases h2
 have tail:∀(st:SortSt) (s2:Shared) (ps:List Nat),s2=s'→ps.Perm (List.range n)→(arrOf st).map (·.2)=List.toArray (ps.map λi:Nat=>vs.getD i Value.none)→failedOf st=none→wpAny (model X.prog X.w) A (ksk_tail a false e1 (.ref kS) st) F E s2:=by
  intro st s2 ps es hp yY hf;rw[es];have lp:ps.length=n:=by rw[hp.length_eq,DN]
  have b1:=Dh s'.heap kS (Obj.mapSeq λ_=>(#[]:Array Value));have g2:(s'.heap.update kS (Obj.mapSeq λ_=>(#[]:Array Value))).get? a=some (seqObj "list" #[] e1):=(b1.2 a nka.symm).trans ga';obtain⟨ck,hck⟩:∃ ck,(s'.heap.update kS (Obj.mapSeq λ_=>(#[]:Array Value))).get? kS=some (seqObj "list" #[] ck):=⟨_,get?_update_seq gk λ_=>#[]⟩;have J1:=(I'.uL (t':=s'.toks) b1 hck owk nk (λv z=>by cases z)).so.so;have b2:=Dh (s'.heap.update kS (Obj.mapSeq λ_=>(#[]:Array Value))) a (Obj.mapSeq λ_=>List.toArray (ps.map λi:Nat=>vs.getD i Value.none));obtain⟨c2,hc2⟩:∃ c2,((s'.heap.update kS (Obj.mapSeq λ_=>(#[]:Array Value))).update a (Obj.mapSeq λ_=>List.toArray (ps.map λi:Nat=>vs.getD i Value.none))).get? a=some (seqObj "list" (List.toArray (ps.map λi:Nat=>vs.getD i Value.none)) c2):=⟨_,get?_update_seq g2 λ_=>List.toArray (ps.map λi:Nat=>vs.getD i Value.none)⟩;unfold ksk_tail
  try dsimp only
  rw[yY];refine wpAny_bind (listUpdate_at gk rfl ?_ (zl _ (by rw[Cj];omega)) (CG _));refine wpAny_bind (wpAny_letGo ?_);refine wpAny_bind (seqEpoch_at g2 rfl ?_);refine wpAny_bind (listUpdate_at g2 rfl ?_ (CG _) (by simp only[CY,if_false];rw[Cj,Cn,lp,sizeLine_eq];omega));rw[hf];simp only[bne_self_eq_false,CY,if_false];refine wpAny_pure (q H' _ ps w' fa' hp (J1.xj (t':=s'.toks) b2 fa' ow nla nca na ⟨_,hc2⟩ ⟨?_,_,c2,lO hi ps λk m=>?_,hc2⟩))
  ·rw[Cn,lp];exact zl _ (by omega)
  ·exact Dq.mp (hp.mem_iff.mp m)
 have zs:vs.toArray.size=n:=by simp[lv]
 show wpAny (model X.prog X.w) A (ksk_end a false vs.toArray e1 (.ref kS) ks.toArray) F E s';unfold ksk_end;simp only[CY,if_false];by_cases h2:vs.toArray.size<2
 ·rw[if_pos h2,if_pos h2]
  refine wpAny_bind (wpAny_pure ?_);rw[StateT.run_pure];refine wpAny_bind (wpAny_pure ?_)
  try dsimp only
  refine tail (SortSt.mk' general' (ks.toArray.zip vs.toArray) #[] 7 none) s' (List.range n) rfl (List.Perm.refl _) ?_ rfl;show(ks.toArray.zip vs.toArray).map (·.2)=_;apply Array.toList_inj.mp
  have e2:ks.length=vs.length:=by omega
  simp only[Array.toList_map,ksk_zip];rw[List.map_snd_zip (by omega)];apply Dy
  intro i;rw[Cq];by_cases hin:i<n
  ·rw[List.getElem?_range hin]
   show vs[i]?=some (vs.getD i Value.none);rw[Cz,Cc (by omega)];rfl
  ·rw[CZ (by omega),CZ (by rw[DN];omega)]
   rfl
 ·rw[if_neg h2,if_neg h2]
  have l2:2≤vs.length:=by omega
  have l2k:2≤ks.length:=by omega
  have hl:ks.length=vs.length:=by omega
  obtain⟨κ,k1,k2⟩:=rO (A:=A) I' (us:=ks) hk l2k;refine wpAny_bind (k1 _ _ ?_);refine wpAny_bind (wpAny_mono (PySem.W.kat_run (ks:=ks) (vs:=vs) (Q:=λst' s2=>s2=s'∧failedOf st'=none∧∃ ps:List Nat,ps.Perm (List.range n)∧(arrOf st').map (·.2)=List.toArray (ps.map λi:Nat=>vs.getD i Value.none)) (G:=λp s2=>s2=s'∧Pm n p) hl l2 (by omega)
   (λp st' s2 a1 a2 a3 ⟨a4,a5⟩=>⟨a4,a3,p.toList,by have:=Array.perm_iff_toList_perm.mp a5;simpa using this,PySem.W.kat_snds hl a2⟩) (by rw[lv];exact dz.wp (λi j h1 h2 C hC=>k2 i j (by omega) (by omega) C hC) (λp hp=>⟨rfl,hp⟩) (rP (by omega)))) ?_ λ_ _ e=>e)
  rintro⟨⟨⟩,st'⟩ s2 ⟨e2,hf,ps,hp,yY⟩;exact tail st' s2 ps e2 hp yY hf
end
end L2
end
section
namespace L2
open PySem PySem.Spec PyProof.Rows LX
open PySem.W (CodeHd tabObj envX kla_obj kla_fn)
def tSK(Pt:Addr)(idx:List Nat)(tr:TA)(te:TE):TE:=λσ H Q=>tr σ H λvs H1=>∃(r:Addr) (n:Nat),vs=[.ref r]∧H1 r=some (.rng 0 n)∧n≤63∧H1 Pt=some (.tbl #[])∧∃ W:Hp→Prop,(∀ ps,W (upd H1 Pt (.tbl ps))) ∧
 (∀(H2:Hp) (k:Nat),W H2→k<n→te (some (.int k)::ix σ idx) H2 λv H3=>W H3∧∃ q a b,v=.ref q∧H3 q=some (.tup [.int a,.int b])) ∧
 ∀(H2:Hp) (l:Addr) (ks:List Nat),W H2→H2 l=none→ks.Perm (List.range n)→Q (.ref l) (upd H2 l (.lst (ks.map λi:Nat=>V.int (i:Int))))
section
variable{X:Cx}
theorem qc{cc Pt:Addr}{p pos xJ lN:Pos}{e body:Expr}{params:Arguments}{scope:Scope}{cl:List (Str×Addr)}{x:Str}{idx:List Nat}{NC:List Str}{tr:TA}{te:TE}{k:Nat}(hr:dY (k+4) X.A)(vY:X.calm=true)(hg:Gl X "sorted")(hm:X.mg "sorted" = none)
  (ha:PA X [e] tr) (c:p7 X scope cl x idx NC) (lh:X.env.code=.ref cc) (T:jL X.K X.mg X.base cc Pt) (yX:defaultsOf params X.env=([],[]))
  (hb:∀(pm ctv:Value) (c':Addr) (u:Value),bindArgs (kla_fn "<lambda>" (X.env.qual ++ "<lambda>") params body scope cl pm (.ref c') ctv) ⟨[u],[]⟩=pure [(x,u)])
  (he:∀(A:Around) (L f:Addr) (cd:Value) (s₀:Shared) (H₀:Hp),PE (cxL X A (X.env.qual ++ "<lambda>") scope cl NC L f cd s₀ H₀) body te)
  (hst:starEach [e] X.env=(false,eval e X.env)::starEach [] X.env:=by rfl)
  (hpl:((backTo pos (starEach [e] X.env)).any (·.1)||(backToKw pos (keywordEach [⟨some "key",.Lambda params body scope lN,xJ⟩] X.env)).any (·.1.isNone))=false:=by rfl) :
  PE X (.Call (.Name "sorted" p) [e] [⟨some "key",.Lambda params body scope lN,xJ⟩] pos) (tSK Pt idx tr te):=by
 intro pins s σ H Q I h;refine wpAny_Call_Name_kw (iZ I hg hm (show bootBuiltins "sorted" = some (.builtin "sorted") by kernel_rfl) ?_);refine PySem.W.callWith_of (P:=λ_=>True) hpl (λ_ _=>⟨.machine,.inr (.inl rfl),PySem.W.Looks.of_pure rfl⟩) (evalArgs_kw2 (by rfl) (thn (ha pos pins s σ H _ I h) λus s1 ⟨vs,H1,I1,rv,r,n,ev,hrg,hn,hPt,W,w1,wk,wq⟩=>?_) hst);subst ev;obtain⟨u,rfl,ru⟩:=rv.one;cases (show u=Value.ref r from ru);show wpAny _ _ (evalAll ((do let v ←eval (.Lambda params body scope lN) X.env;standAt pos;pure v)::[])) _ _ s1
 refine wpAny_evalAll_cons (wpAny_bind (tD (ps:=#[]) c lh T I1 hPt trivial rfl yX λf c' oc pm ctv ps' s2 I2 hcd=>wpAny_bind (wpAny_standAt (wpAny_pure (wpAny_evalAll_nil ⟨trivial,?_⟩)))));show wpAny _ _ (call (.builtin "sorted") [.ref r] [(Str.ofString "key",.ref f)]) _ _ s2;have nrP:r≠Pt:=bo hrg hPt (by simp);have BQ:upd H1 Pt (.tbl ps') r=some (.rng 0 n):=by rw[ag nrP];exact hrg
 obtain⟨t0,t1,t2,hro⟩:=(show cb X.prog X.w _ s2.heap r (.rng 0 n) from I2.hok r _ BQ);have hh:X.A.in1.handled=none:=I.ok.hd vY;refine call_function_entry_kw kind_sorted plain_sorted entry_sorted (ksk_s1 _ _) ?_;unfold Builtin.«sorted»;refine wpAny_bind (m:=checkCount "sorted" 1 1 _) (wpAny_pure ?_);refine wpAny_bind (nY hh hro hn λh3 tk acc k3 qb=>?_);have AX:acc.toList.length=n:=by rw[DG];exact qb.1
 have hi:qy acc.toList n:=⟨AX,λi hin=>by
  have hi':i<acc.size:=by rw[qb.1];exact hin
  obtain⟨t,et⟩:=qb.2 i acc[i] (Array.getElem?_eq_getElem hi');refine⟨t,?_⟩;rw[Cz,Array.getElem?_toList,Array.getElem?_eq_getElem hi',Dr,et];congr 1
  omega⟩
 refine wpAny_bind (wpAny_newList ?_ (by rw[AX,sizeLine_eq];omega));have I3:=I2.kept (h':=h3) (t':=tk) k3;have I4:=I3.kept (h':=h3.push (seqObj "list" acc.toList.toArray 0)) (t':=tk) λb o e=>Ce _ e;have I5:=I4.vW (a:=h3.objs.size) (o:=seqObj "list" acc.toList.toArray 0) (CB _ rfl) (I3.hok.fresh (Cg _)) (C7 I3.lt) (I3.uX (Cg _)) (λv z=>by cases z);obtain⟨gf,_⟩:=I5.pin _ (Ci _ (Cm _ Co));have gl:(h3.push (seqObj "list" acc.toList.toArray 0)).get? h3.objs.size=some (seqObj "list" acc.toList.toArray 0):=CB _ rfl;refine wpAny_bind (wpAny_holding (wpAny_call_entry_kw slot_list_sort (self:=.ref h3.objs.size) (rest:=[]) ⟨_,gl,rfl⟩ entry_list_sort ?body (ksk_l1 _ _)));obtain⟨c2,oc2,vs2,tq,ec,hoc,hdc,hvq⟩:=hcd;cases ec;rw[ksk_t1];have hR:dY (k+1) X.A.in1.in1:=⟨I.ok.hd vY,by have:=hr.dp;show X.A.depth+3*(k+1)+5<_;omega,by have:=hr.un;show X.A.units+1+1+16*(k+1)+200<_;omega⟩;have hfr:X.A.in1.in1.frames=some X.stack:=I.ok.frames;obtain⟨pc,_⟩:=I2.pin (c',oc) (Ci _ (Cm _ Co));have eoc:oc2=oc:=CC (hoc.symm.trans pc);subst eoc;refine tE (W:=W) (n:=n) (PN:=[(f,kla_obj "<lambda>" (X.env.qual ++ "<lambda>") params body scope cl pm c' ctv),(c',oc2)]) (λk' t uF H' s' hk hw hs I'=>?_) (λp hp=>?_) hi hn (w1 ps') I5 I3.sz (I3.vX (Cg _)) λH' s' ks w' fa hp I'=>?_
 ·obtain⟨hf',_⟩:=I'.pin _ (Ci _ (hs _ Co))
  obtain⟨hc',_⟩:=I'.pin _ (Ci _ (hs _ (Cm _ Co)));refine thn (vv (v:=.int k') c I' hfr hR ⟨t,rfl⟩ hf' ⟨c',oc2,vs2,tq,rfl,hc',hdc,hvq⟩ (hb pm ctv c') (he _ _ _ _ _ _) (wk H' k' hw hk)) λu s3 ⟨v',H3,J,rv',tu,w3,q',a',b',ev',hq'⟩=>?_;subst ev';cases (show u=Value.ref q' from rv');exact⟨H3,J,w3,tu,q',a',b',rfl,hq'⟩
 ·rcases Cw.mp hp with rfl|hp
  ·exact Co
  ·rw[Cf.mp hp]
   exact Cm _ Co
 ·refine⟨_,rfl,wpAny_pure ⟨_,rfl,.ref h3.objs.size,_,I'.so.so,rfl,wq H' _ ks w' fa hp⟩⟩
end
end L2
end
section
namespace L2
open PySem PySem.Spec PyProof.Rows LX
open PySem.W (CodeHd tabObj)
theorem Fun.okC{P:Program}{w:World}{K:W.Frag}{mg:Str→Option Value}{base:Heap}{x qual:Str}{st:Stmt}{f cc:Addr}{fd:FuncData}{N ps:List Str}{k:Nat}{sp:Sp}(F:Fun K x qual st f fd)(lh:fd.code=.ref cc)(S:aG N ps (aj st))(len:∀ vs H Q E,sp vs H Q E→vs.length=ps.length)
  (pP:∀(A:Around) (outer:List Env) (s:Shared) (H:Hp) (vs:List V) (Q:VK) (E:XK),dY k (A.deeper (envOfC qual (aj st) s.heap.objs.size f (.ref cc)))→sp vs H Q E →
   ∃ t,PSs (cxE P w K mg base N qual (aj st) f (.ref cc) A outer s H E) (dQ st) t∧t {nx:=λ_ H'=>Q .non H',rt:=Q} (start N vs) H):iH P w K mg base (CXE P w) (k+1) f fd ps sp:=by
 obtain⟨oc,od,kV,doc,pm,an,cdv,ct,osl,rfl,lk,hcd⟩:=F.ex;obtain rfl:cdv=.ref cc:=lh;exact vI lk hcd S len λA outer s H vs Q E hr hsp=>pP A outer s H vs Q E hr hsp
def yZ(sc scope:Scope)(x:Str)(ns N:List Str)(idx:List Nat):Prop :=
 (∀ y∈scope.names,y.2≠.cell)∧scope.names.lookup x=some .local∧(∀ p∈scope.names,p.2=.cell∨p.2=.free→p.1∈ns) ∧
 ∀ i∈idx,i<N.length∧((sc.names.lookup (N.getD i x)=some .cell∨sc.names.lookup (N.getD i x)=some .free)∧(scope.names.lookup (N.getD i x)=some .cell∨scope.names.lookup (N.getD i x)=some .free))
instance (sc scope:Scope) (x:Str) (ns N:List Str) (idx:List Nat):Decidable (yZ sc scope x ns N idx):=by unfold yZ;infer_instance
theorem xk{X:Cx}{sc scope:Scope}{cl:List (Str×Addr)}{x:Str}{ns N:List Str}{idx:List Nat}(hsc:X.env.scope=sc)(hN:X.N=N)(hk:scope.kind=.function)(hco:scope.isCoroutine=false)(hge:scope.isGenerator=false)(p:yZ sc scope x ns N idx)(hn:cl.map (·.1)=ns)
  (uK:closureFor scope X.env=pure cl) (yW:∀ q∈cl,X.env.cells.lookup q.1=some q.2):p7 X scope cl x idx (x::idx.map λi=>N.getD i x):=by
 obtain⟨p1,p3,p4,p6⟩:=p;subst hsc hN hn;refine⟨uK,λy c q=>yW (y,c) (CP q),λy h=>?_,p1,hk,hco,hge,p3,rfl,p6⟩;refine gw ?_;rcases h with h|h
 ·exact p4 (y,.cell) (CP h) (.inl rfl)
 ·exact p4 (y,.free) (CP h) (.inr rfl)
theorem rQ{P:Program}{w:World}{K:W.Frag}{mg mb:Str→Option Value}{CX:CXT}{k:Nat}{fa a c Pt:Addr}{fd:FuncData}{x:Str}{sp:Sp}{s₁:Shared}{vs:List Value}{ns:List Int}
  (KX:K.In s₁.heap) (hns:s₁.heap.Ns mainGlobals mg) (hb:s₁.heap.Ns builtinsNs mb) (hbb:∀ x:Str,x ≠ "__name__" → mb x=bootBuiltins x) (BR:s₁.heap.NoLimit) (hg:s₁.gens=#[])
  (ha:s₁.heap.get? a=some {cls:=.type "list",data:=.seq vs.toArray}) (hi:IntsAre vs ns) (hl:ns.length≤sizeLine) (hr:dY k callerA)
  (hP:s₁.heap.get? Pt=some (tabObj #[])) (kP:K.lookup Pt=none) (hC:CodeHd s₁.heap c Pt) (hB:∃ bm ob,mg "__builtins__" = some (.ref bm)∧bm≠builtinsNs∧s₁.heap.get? bm=some ob∧ob.cls=.type "module" ∧ ob.dict=some builtinsNs∧ob.data=.plain)
  (F:∀ base:Heap,K.In base→base.Ns mainGlobals mg→jL K mg base c Pt→iH P w K mg base CX k fa fd [x] sp) (zP:∀(s:Shared) (u:Value),BindsTo s fd ⟨[u],[]⟩ [(x,u)])
  (hsp:∀ H:Hp,H Pt=some (.tbl #[])→SqL K H a (ns.map V.int)→sp [.ref a] H (λv _=>v=.bl true) λ_ _ _=>False)
  (hCX:∀ H e s',CX [] H s₁ (λ_ _ _=>False) e s'→False) :
  codeAny (model P w) callerA (.call (.ref fa) ⟨[.ref a],[]⟩) (λr s'=>r=.ok (.ret (.bool true))∧OldK s₁.heap s'.heap∧s'.os=s₁.os∧AllBare s'.gens) s₁:=by
 have rv:=lI hi;have BS:=hi.length;have naP:a≠Pt:=λz=>by rw[z,hP]at ha;cases ha
 have core:∀ H:Hp,H Pt=some (.tbl #[])→SqL K H a (ns.map V.int)→HOk P w H s₁.heap→(∀ b,b≠Pt→H b=none∨(b=a∧∃ o xs,H b=some (.frz o (.lst xs))))→(H a≠none→K.lookup a=none) →
   codeAny (model P w) callerA (.call (.ref fa) ⟨[.ref a],[]⟩) (λr s'=>r=.ok (.ret (.bool true))∧OldK s₁.heap s'.heap∧s'.os=s₁.os∧AllBare s'.gens) s₁:=by
  intro H hT hS hok hA hK;have jM:∀ {b:Addr} {o:Obj},s₁.heap.get? b=some o→H b=none→(oI s₁.heap H).get? b=some o:=λe n=>sR e n;have no:∀ {b:Addr} {o:Obj},s₁.heap.get? b=some o→o.data≠.fields #[]→o.cls≠.type "list" → H b=none:=λ{b o} e d1 d2=>by
   by_cases hb:b=Pt
   ·subst hb;rw[hP]at e;cases e;exact absurd rfl d1
   ·rcases hA b hb with z|⟨z,_⟩
    ·exact z
    ·subst z;rw[ha]at e;cases e;exact absurd rfl d2
  have noA:∀ {b:Addr} {o:Obj} {es:Array DictEntry} {ep:Nat},s₁.heap.get? b=some o→o.data=.dict es ep→H b=none:=λ{b o es ep} e d=>by
   by_cases hb:b=Pt
   ·subst hb;rw[hP]at e;cases e;cases d
   ·rcases hA b hb with z|⟨z,_⟩
    ·exact z
    ·subst z;rw[ha]at e;cases e;cases d
  have nsK:∀ {b:Addr} {m:Str→Option Value},s₁.heap.Ns b m→(oI s₁.heap H).Ns b m:=λ{b m} ⟨o,es,ep,e,d,r⟩=>⟨o,es,ep,jM e (noA e d),d,r⟩;have hKb:K.In (oI s₁.heap H):=λb o e=>jM (KX b o e) (by
   by_cases hb:b=Pt
   ·subst hb;rw[kP]at e;cases e
   ·rcases hA b hb with z|⟨z,_,_,z2⟩
    ·exact z
    ·subst z
     rw[hK (by rw[z2];simp)]at e;cases e)
  have hgP:mainGlobals≠Pt:=λz=>by
   obtain⟨o,es,ep,e,hd,_⟩:=hns;rw[z,hP]at e;cases e;cases hd
  have BU:jL K mg (oI s₁.heap H) c Pt:=by
   obtain⟨bm,ob,b1,b2,b3,b4,b5,b6⟩:=hB;obtain⟨o,vs',file,tf,flags,tg,inF,text,tt,e1,r1,r2,r3,r4⟩:=hC;refine⟨⟨o,vs',file,tf,flags,tg,inF,text,tt,jM e1 (no e1 (λz=>?_) (λz=>by rw[r1]at z;exact absurd z (by decide))),r1,r2,r3,r4⟩,hgP,bm,ob,b1,b2,λq=>?_,λq=>?_,jM b3 (no b3 (λz=>by rw[b6]at z;cases z) (λz=>by rw[b4]at z;exact absurd z (by decide))),b4,b5,b6⟩
   ·rw[r2]at z;cases z;cases r3
   ·obtain⟨o',es,ep,e,hd,_⟩:=hns
    rw[q,e]at b3;cases b3;rw[hd]at b6;cases b6
   ·rw[q,hP]at b3;cases b3;cases b4
  have hM:Mod K mg (oI s₁.heap H):=⟨hKb,nsK hns,⟨mb,nsK hb,hbb⟩,let ⟨mc,h1,h2⟩:=BR;⟨mc,nsK h1,h2⟩⟩;have e0:sI P w K mg (oI s₁.heap H) callerA [] s₁ H:=⟨rfl,hM,λb o e=>uV e,Nat.le_of_eq (rg _ _),trivial,λb hb=>absurd (show b∈([]:List Addr) from hb) (by simp),hok,.of_eq hg⟩;refine codeAny_mono ((F _ hKb (nsK hns) BU).run callerA [] s₁ H ⟨[.ref a],[]⟩ [.ref a] [.ref a] _ _ hr e0 (zP s₁ (.ref a)) (.cons rfl .nil) (hsp H hT hS)) λr s' h=>?_;cases r with
  | error e=>exact(hCX H e s' h).elim
  | ok fl =>
   cases fl with
   | next=>exact False.elim h
   | brk=>exact False.elim h
   | cont=>exact False.elim h
   | ret u =>
    obtain⟨v,H',os,bare,un,AY,r',q⟩:=h;have q':v=.bl true:=q;subst q';obtain rfl:u=Value.bool true:=r';have kept:∀ b o,b≠Pt→s₁.heap.get? b=some o→s'.heap.get? b=some o:=λb o hb e=>by
     rcases hA b hb with z|⟨_,ob,xs,z⟩
     ·exact un.keep b o e z (by intro z;exact absurd (show b∈([]:List Addr) from z) (by simp)) (by simp)
     ·have z2:=un.lq b ob _ z
      obtain⟨e1,_⟩:=hok b _ z;obtain⟨e2,_⟩:=AY b _ z2;rw[e]at e1;cases e1;exact e2
    obtain⟨more,hm⟩:=un.lu Pt #[] hT;have hm':s'.heap.get? Pt=some (tabObj (#[]++more)):=AY Pt _ hm;refine⟨rfl,⟨λb o e=>?_,λb o e=>?_⟩,os,bare⟩
    ·by_cases hb:b=Pt
     ·subst hb
      rw[hP]at e;cases e;exact .inr (.inl ⟨(hC.tab hP).isCodeTable,rfl,#[],more,rfl,hm'⟩)
     ·exact .inl (kept b o hb e)
    ·by_cases hb:b=Pt
     ·subst hb;exact⟨_,hm'⟩
     ·exact⟨o,kept b o hb e⟩
 cases hk:K.lookup a with
 | some o =>
  have e:=KX a o hk;rw[ha]at e;cases e;refine core (λb=>if b=Pt then some (.tbl #[]) else none) (if_pos rfl) (.inr ⟨_,vs.toArray,_,hk,rfl,rfl,rfl,by rw[Cj,BS];exact hl,by simpa using rv⟩) (λb u z=>?_) (λb hb=>.inl (if_neg hb)) λz=>absurd (if_neg naP) z;by_cases hb:b=Pt
  ·have z':=(if_pos hb).symm.trans z
   cases z';subst hb;exact hP
  ·have z':=(if_neg hb).symm.trans z
   cases z'
 | none =>
  refine core (λb=>if b=Pt then some (.tbl #[]) else if b=a then some (.frz {cls:=.type "list",data:=.seq vs.toArray} (.lst (ns.map V.int))) else none) (if_pos rfl) (.inl (.inr ⟨{cls:=.type "list",data:=.seq vs.toArray},(if_neg naP).trans (if_pos rfl)⟩)) (λb u z=>?_) (λb hb=>?_) λ_=>hk
  ·by_cases hb:b=Pt
   ·have z':=(if_pos hb).symm.trans z
    cases z';subst hb;exact hP
   ·have z':=(if_neg hb).symm.trans z
    by_cases hb2:b=a
    ·have z2:=(if_pos hb2).symm.trans z'
     cases z2;subst hb2;exact⟨ha,by rw[Cn];exact hl,vs,_,rv,ha⟩
    ·have z2:=(if_neg hb2).symm.trans z'
     cases z2
  ·by_cases hb2:b=a
   ·exact .inr ⟨hb2,_,_,(if_neg hb).trans (if_pos hb2)⟩
   ·exact .inl ((if_neg hb).trans (if_neg hb2))
theorem tF{l:PySem.W.OpenLaw}{n k:Nat}{q:Program}{loose:List Str}{XP:(Str→Option Value)→Heap→Prop}{YP:World→Heap→Prop}{d:DefRec}{K:Params→W.Frag}{CX:World→CXT}{sp:World→Sp}{x:Str}{c Pt:Addr}
  (hn:l.most=some n) (hn2:n≤sizeLine) (hdf:d.params.defaults=[]) (hr:dY k callerA)
  (hY:∀(w:World) (h:Heap),YP w h→(K w.params).In h∧h.get? Pt=some (tabObj #[])∧CodeHd h c Pt) (kP:∀ w:World,(K w.params).lookup Pt=none)
  (F:∀(w:World) (mg:Str→Option Value) (fa:Addr) (h:Heap),(K w.params).In h→h.Ns mainGlobals mg→mg d.name=some (.ref fa) →
   ∃ fd:FuncData,(∀(s:Shared) (u:Value),BindsTo s fd ⟨[u],[]⟩ [(x,u)]) ∧
    ∀ base:Heap,(K w.params).In base→base.Ns mainGlobals mg→jL (K w.params) mg base c Pt→iH l.prog w (K w.params) mg base (CX w) k fa fd [x] (sp w))
  (hsp:∀(w:World) (H:Hp) (a:Addr) (ns:List Int),ns.length≤n→H Pt=some (.tbl #[])→SqL (K w.params) H a (ns.map V.int)→sp w [.ref a] H (λv _=>v=.bl true) λ_ _ _=>False)
  (hCX:∀(w:World) (H:Hp) (s:Shared) (e:Value) (s':Shared),CX w [] H s (λ_ _ _=>False) e s'→False) :
  PySem.W.WalkO q loose XP YP l.row.toRowW d [] (λf vs=>PySem.call f vs):=by
 refine Att.nV hn hdf λw s₀ s₁ mg mb fa o pm cd doc a vs ns G Y ho hd hcd hmg xN hints hlen hg=>?_;obtain⟨KX,hP,hC⟩:=hY w _ Y;obtain⟨fd,hb,hF⟩:=F w mg fa _ KX G.T.g hmg;exact rQ KX G.T.g G.T.b G.T.builtins G.T.nolimit hg xN hints (CK hlen hn2) hr hP (kP w) hC G.T.bmain hF hb (λH hO hS=>hsp w H a ns hlen hO hS) λH e s'=>hCX w H s₁ e s'
end L2
end
section
namespace L2
open PySem PySem.Spec PyProof.Rows LX
section
variable{X:Cx}
end
inductive Vl where
 | a (v:V)
 | l (xs:List Vl)
 | t (xs:List Vl)
def Rp(H:Hp):Nat→V→Vl→Prop
 | 0,v,.a x=>v=x∧dj x=true
 | 0,_,.l _=>False
 | 0,_,.t _=>False
 | _+1,v,.a x=>v=x∧dj x=true
 | n+1,v,.l xs=>∃ p us,v=.ref p∧H p=some (.lst us)∧us.length=xs.length∧∀(i:Nat) (u:V) (x:Vl),us[i]?=some u→xs[i]?=some x→Rp H n u x
 | n+1,v,.t xs=>∃ p us,v=.ref p∧H p=some (.tup us)∧us.length=xs.length∧∀(i:Nat) (u:V) (x:Vl),us[i]?=some u→xs[i]?=some x→Rp H n u x
def eqD:Nat→Vl→Vl→Bool
 | _,.a x,.a y=>eqV x y
 | n+1,.l xs,.l ys=>(List.range xs.length).all (λi=>match xs[i]?,ys[i]? with|some x,some y=>eqD n x y|_,_=>true)&&xs.length == ys.length
 | n+1,.t xs,.t ys=>(List.range xs.length).all (λi=>match xs[i]?,ys[i]? with|some x,some y=>eqD n x y|_,_=>true)&&xs.length == ys.length
 | _,_,_=>false
theorem Rp.iJ{H:Hp}{n:Nat}{v x:V}(h:Rp H n v (.a x)):v=x∧dj x=true:=by cases n<;>exact h
theorem nN{n:Nat}{x y:V}:eqD n (.a x) (.a y)=eqV x y:=by cases n<;>rfl
theorem ui{H:Hp}{n:Nat}{us:List V}{xs ys:List Vl}(lx:us.length=xs.length)(ly:us.length=ys.length)(h:∀(i:Nat) (x y:Vl),xs[i]?=some x→ys[i]?=some y→eqD n x y=true) :
  ((List.range xs.length).all (λi=>match xs[i]?,ys[i]? with|some x,some y=>eqD n x y|_,_=>true)&&xs.length == ys.length)=true:=by
 rw[DC];refine⟨DE.mpr λi hi=>?_,beq_iff_eq.mpr (by omega)⟩;have hi:=Dq.mp hi;have e1:xs[i]?=some xs[i]:=Cc hi;have e2:ys[i]?=some (ys[i]'(by omega)):=Cc (by omega);simp only[e1,e2];exact h i _ _ e1 e2
theorem jY{H:Hp}:∀ {n:Nat} {v:V} {a b:Vl},Rp H n v a→Rp H n v b→eqD n a b=true:=by
 intro n;induction n with
 | zero =>
  intro v a b ha hb;cases a with
  | a x =>
   cases b with
   | a y =>
    obtain⟨rfl,fx⟩:=ha.iJ;obtain⟨rfl,_⟩:=hb.iJ;rw[nN];exact ue fx
   | l ys=>exact hb.elim
   | t ys=>exact hb.elim
  | l xs=>exact ha.elim
  | t xs=>exact ha.elim
 | succ n ih =>
  intro v a b ha hb;cases a with
  | a x =>
   obtain⟨rfl,fx⟩:=ha.iJ;cases b with
   | a y =>
    obtain⟨rfl,_⟩:=hb.iJ;rw[nN];exact ue fx
   | l ys =>
    obtain⟨p,us,rfl,_⟩:=hb;exact absurd (show false=true from fx) Ck
   | t ys =>
    obtain⟨p,us,rfl,_⟩:=hb;exact absurd (show false=true from fx) Ck
  | l xs =>
   obtain⟨p,us,rfl,hp,hl,hi⟩:=ha;cases b with
   | a y =>
    obtain⟨e,fy⟩:=hb.iJ;rw[←e]at fy;exact absurd (show false=true from fy) Ck
   | l ys =>
    obtain⟨q,ws,e,hq,ml,mi⟩:=hb;cases e;rw[hp]at hq;cases hq;exact ui (H:=H) hl ml λi x y e1 e2=>by
     have hiu:i<us.length:=(by rw[hl];exact(Cd.mp e1).1);exact ih (hi i _ x (Cc hiu) e1) (mi i _ y (Cc hiu) e2)
   | t ys =>
    obtain⟨q,ws,e,hq,ml,mi⟩:=hb;cases e;rw[hp]at hq;cases hq
  | t xs =>
   obtain⟨p,us,rfl,hp,hl,hi⟩:=ha;cases b with
   | a y =>
    obtain⟨e,fy⟩:=hb.iJ;rw[←e]at fy;exact absurd (show false=true from fy) Ck
   | t ys =>
    obtain⟨q,ws,e,hq,ml,mi⟩:=hb;cases e;rw[hp]at hq;cases hq;exact ui (H:=H) hl ml λi x y e1 e2=>by
     have hiu:i<us.length:=(by rw[hl];exact(Cd.mp e1).1);exact ih (hi i _ x (Cc hiu) e1) (mi i _ y (Cc hiu) e2)
   | l ys =>
    obtain⟨q,ws,e,hq,ml,mi⟩:=hb;cases e;rw[hp]at hq;cases hq
structure RcB(A:Around)(s:Shared)(u v:Value)(b:Bool):Prop where
 eq:SeqAt.RcAt A s u v b
 ne:SeqAt.RcNeAt A s u v (!b)
theorem lP{A:Around}{s:Shared}{y x:V}{u v:Value}(ry:RelV y u)(rx:RelV x v)(fy:dj y=true)(fx:dj x=true):RcB A s u v (eqV y x):=by
 cases y with
 | non =>
  cases ry;cases x with
  | non=>cases rx;exact⟨.none_none ,.none_none ⟩
  | bl b=>cases rx;exact⟨.none_bool b,.none_bool b⟩
  | int b=>obtain⟨t,rfl⟩:=rx;exact⟨.none_int b t,.none_int b t⟩
  | str b=>obtain⟨t,rfl⟩:=rx;exact⟨.none_str b t,.none_str b t⟩
  | _=>exact absurd (show false=true from fx) Ck
 | bl a =>
  cases ry;cases x with
  | non=>cases rx;exact⟨.bool_none a,.bool_none a⟩
  | bl b=>cases rx;exact⟨.bool_bool a b,.bool_bool a b⟩
  | int b=>obtain⟨t,rfl⟩:=rx;exact⟨.bool_int a b t,.bool_int a b t⟩
  | str b=>obtain⟨t,rfl⟩:=rx;exact⟨.bool_str a b t,.bool_str a b t⟩
  | _=>exact absurd (show false=true from fx) Ck
 | int a =>
  obtain⟨t',rfl⟩:=ry;cases x with
  | non=>cases rx;exact⟨.int_none a t',.int_none a t'⟩
  | bl b=>cases rx;exact⟨.int_bool a t' b,.int_bool a t' b⟩
  | int b=>obtain⟨t,rfl⟩:=rx;exact⟨.int_int a t' b t,.int_int a t' b t⟩
  | str b=>obtain⟨t,rfl⟩:=rx;exact⟨.int_str a t' b t,.int_str a t' b t⟩
  | _=>exact absurd (show false=true from fx) Ck
 | str a =>
  obtain⟨t',rfl⟩:=ry;cases x with
  | non=>cases rx;exact⟨.str_none a t',.str_none a t'⟩
  | bl b=>cases rx;exact⟨.str_bool a t' b,.str_bool a t' b⟩
  | int b=>obtain⟨t,rfl⟩:=rx;exact⟨.str_int a t' b t,.str_int a t' b t⟩
  | str b=>obtain⟨t,rfl⟩:=rx;exact⟨.str_str a t' b t,.str_str a t' b t⟩
  | _=>exact absurd (show false=true from fx) Ck
 | _=>exact absurd (show false=true from fy) Ck
section
variable{X:Cx}{pins:List (Addr×Obj)}{σ:St}{H:Hp}{s:Shared}
theorem pk{A:Around}{x:V}{u:Value}{l:Addr}{items:Array Value}(rx:RelV x u)(fx:dj x=true)(hl:s.heap.IsList l items)(hu:A.units<cLine):RcB A s u (.ref l) false∧RcB A s (.ref l) u false∧SeqAt.EqAt A s u (.ref l) false∧SeqAt.EqAt A s (.ref l) u false:=by
 cases x with
 | non=>cases rx;exact⟨⟨.none_list hl hu,.none_list hl hu⟩,⟨.list_none hl hu,.list_none hl hu⟩,.none_list hl hu,.list_none hl hu⟩
 | bl b=>cases rx;exact⟨⟨.bool_list _ hl hu,.bool_list _ hl hu⟩,⟨.list_bool _ hl hu,.list_bool _ hl hu⟩,.bool_list _ hl hu,.list_bool _ hl hu⟩
 | int n=>obtain⟨t,rfl⟩:=rx;exact⟨⟨.int_list _ _ hl hu,.int_list _ _ hl hu⟩,⟨.list_int _ _ hl hu,.list_int _ _ hl hu⟩,.int_list _ _ hl hu,.list_int _ _ hl hu⟩
 | str z=>obtain⟨t,rfl⟩:=rx;exact⟨⟨.str_list _ _ hl hu,.str_list _ _ hl hu⟩,⟨.list_str _ _ hl hu,.list_str _ _ hl hu⟩,.str_list _ _ hl hu,.list_str _ _ hl hu⟩
 | _=>exact absurd (show false=true from fx) Ck
theorem pw{A:Around}{x:V}{u:Value}{l:Addr}{items:Array Value}(rx:RelV x u)(fx:dj x=true)(hl:s.heap.IsTuple l items)(hu:A.units<cLine):RcB A s u (.ref l) false∧RcB A s (.ref l) u false∧SeqAt.EqAt A s u (.ref l) false∧SeqAt.EqAt A s (.ref l) u false:=by
 cases x with
 | non=>cases rx;exact⟨⟨.none_tuple hl hu,.none_tuple hl hu⟩,⟨.tuple_none hl hu,.tuple_none hl hu⟩,.none_tuple hl hu,.tuple_none hl hu⟩
 | bl b=>cases rx;exact⟨⟨.bool_tuple _ hl hu,.bool_tuple _ hl hu⟩,⟨.tuple_bool _ hl hu,.tuple_bool _ hl hu⟩,.bool_tuple _ hl hu,.tuple_bool _ hl hu⟩
 | int n=>obtain⟨t,rfl⟩:=rx;exact⟨⟨.int_tuple _ _ hl hu,.int_tuple _ _ hl hu⟩,⟨.tuple_int _ _ hl hu,.tuple_int _ _ hl hu⟩,.int_tuple _ _ hl hu,.tuple_int _ _ hl hu⟩
 | str z=>obtain⟨t,rfl⟩:=rx;exact⟨⟨.str_tuple _ _ hl hu,.str_tuple _ _ hl hu⟩,⟨.tuple_str _ _ hl hu,.tuple_str _ _ hl hu⟩,.str_tuple _ _ hl hu,.tuple_str _ _ hl hu⟩
 | _=>exact absurd (show false=true from fx) Ck
theorem lst_is(I:Inv X pins σ H s){p:Addr}{us:List V}(h:H p=some (.lst us)):∃ vs,Vals us vs∧s.heap.IsList p vs.toArray:=by
 obtain⟨vs,r,⟨o,n,e,c,_,g⟩,_⟩:=I.list (SqL.of h);exact⟨vs,r,o,e,c,n,g⟩
theorem tup_is(I:Inv X pins σ H s){p:Addr}{us:List V}(h:H p=some (.tup us)):∃ vs,Vals us vs∧s.heap.IsTuple p vs.toArray:=by
 obtain⟨vs,r,t,_⟩:=I.tuple (SqT.of h);exact⟨vs,r,t⟩
theorem rcG(I:Inv X pins σ H s):∀ {n:Nat} {x y:V} {a b:Vl},Rp H n x a→Rp H n y b→∀ {A:Around} {u v:Value},RelV x u→RelV y v→A.units+n<cLine →
  SeqAt.EqAt A s u v (eqD n a b)∧(¬((∃ z,a=.a z)∧∃ z,b=.a z)→RcB A s u v (eqD n a b)):=by
 intro n;induction n with
 | zero =>
  intro x y a b ha hb A u v rx ry hu;cases a with
  | a z =>
   cases b with
   | a z' =>
    obtain⟨rfl,fx⟩:=ha.iJ;obtain⟨rfl,fy⟩:=hb.iJ;rw[nN];exact⟨nC rx ry fx fy,λh=>(h ⟨⟨_,rfl⟩,_,rfl⟩).elim⟩
   | _=>exact hb.elim
  | _=>exact ha.elim
 | succ n ih =>
  intro x y a b ha hb A u v rx ry hu;have hu0:A.units<cLine:=by omega
  cases a with
  | a z =>
   obtain⟨rfl,fx⟩:=ha.iJ;cases b with
   | a z' =>
    obtain⟨rfl,fy⟩:=hb.iJ;rw[nN];exact⟨nC rx ry fx fy,λh=>(h ⟨⟨_,rfl⟩,_,rfl⟩).elim⟩
   | l ys =>
    obtain⟨q,ws,rfl,hq,_⟩:=hb;obtain⟨vs,_,hl⟩:=lst_is I hq;cases ry;obtain⟨h1,_,h3,_⟩:=pk rx fx hl hu0;exact⟨h3,λ_=>h1⟩
   | t ys =>
    obtain⟨q,ws,rfl,hq,_⟩:=hb;obtain⟨vs,_,hl⟩:=tup_is I hq;cases ry;obtain⟨h1,_,h3,_⟩:=pw rx fx hl hu0;exact⟨h3,λ_=>h1⟩
  | l xs =>
   have ha':=ha;obtain⟨p,us,rfl,hp,lx,hx⟩:=ha;obtain⟨vs,r1,hl⟩:=lst_is I hp;cases rx;cases b with
   | a z' =>
    obtain⟨rfl,fy⟩:=hb.iJ;obtain⟨_,h2,_,h4⟩:=pk ry fy hl hu0;exact⟨h4,λ_=>h2⟩
   | l ys =>
    have hb':=hb;obtain⟨q,ws,rfl,hq,ly,hy⟩:=hb;obtain⟨vs2,r2,hl2⟩:=lst_is I hq;cases ry;have l1:=r1.length;have l2:=r2.length;have rc:RcB A s (.ref p) (.ref q) (eqD (n+1) (.l xs) (.l ys)):=by
     by_cases hs:xs.length=ys.length
     ·have he:∀ j (h1:j<vs.toArray.size) (h2:j<vs2.toArray.size),SeqAt.EqAt A.in1 s vs.toArray[j] vs2.toArray[j] (match xs[j]?,ys[j]? with|some x,some y=>eqD n x y|_,_=>true):=λj h1 h2=>by
       simp only[Cj]at h1 h2;obtain⟨w1,z1,rz1⟩:=r1.get (i:=j) (x:=us[j]'(by omega)) (Cc (by omega));obtain⟨w2,z2,rz2⟩:=r2.get (i:=j) (x:=ws[j]'(by omega)) (Cc (by omega));have a1:vs.toArray[j]=w1:=by
        have:=(Cd.mp z1).2
        simpa using this
       have a2:vs2.toArray[j]=w2:=by
        have:=(Cd.mp z2).2
        simpa using this
       rw[a1,a2];have e1:xs[j]?=some (xs[j]'(by omega)):=Cc (by omega);have e2:ys[j]?=some (ys[j]'(by omega)):=Cc (by omega);simp only[e1,e2];exact(ih (hx j _ _ (Cc (by omega)) e1) (hy j _ _ (Cc (by omega)) e2) rz1 rz2 (by rw[Around.in1_units];omega)).1
      have e:eqD (n+1) (.l xs) (.l ys)=(List.range vs.toArray.size).all (λi=>match xs[i]?,ys[i]? with|some x,some y=>eqD n x y|_,_=>true):=by
       show(_&&_)=_;rw[beq_iff_eq.mpr hs,Bool.and_true];simp only[Cj];rw[show vs.length=xs.length by omega]
      rw[e];exact⟨.lists hl hl2 (by simp only[Cj];omega) hu0 he,.lists hl hl2 (by simp only[Cj];omega) hu0 he⟩
     ·have e:eqD (n+1) (.l xs) (.l ys)=false:=by
       show(_&&_)=_;rw[beq_eq_false_iff_ne.mpr hs,DA]
      rw[e];exact⟨.lists_lengths hl hl2 (by simp only[Cj,bne_iff_ne,ne_eq];omega) hu0,.lists_lengths hl hl2 (by simp only[Cj,bne_iff_ne,ne_eq];omega) hu0⟩
    refine⟨?_,λ_=>rc⟩;by_cases e:p=q
    ·subst e
     rw[jY ha' hb'];exact .same _
    ·exact .of_refs e rc.eq
   | t ys =>
    obtain⟨q,ws,rfl,hq,ly,hy⟩:=hb;obtain⟨vs2,r2,hl2⟩:=tup_is I hq;cases ry;have ne:p≠q:=λe=>by rw[e,hq]at hp;cases hp
    exact⟨.of_refs ne (.list_tuple hl hl2 hu0),λ_=>⟨.list_tuple hl hl2 hu0,.list_tuple hl hl2 hu0⟩⟩
  | t xs =>
   have ha':=ha;obtain⟨p,us,rfl,hp,lx,hx⟩:=ha;obtain⟨vs,r1,hl⟩:=tup_is I hp;cases rx;cases b with
   | a z' =>
    obtain⟨rfl,fy⟩:=hb.iJ;obtain⟨_,h2,_,h4⟩:=pw ry fy hl hu0;exact⟨h4,λ_=>h2⟩
   | l ys =>
    obtain⟨q,ws,rfl,hq,ly,hy⟩:=hb;obtain⟨vs2,r2,hl2⟩:=lst_is I hq;cases ry;have ne:p≠q:=λe=>by rw[e,hq]at hp;cases hp
    exact⟨.of_refs ne (.tuple_list hl hl2 hu0),λ_=>⟨.tuple_list hl hl2 hu0,.tuple_list hl hl2 hu0⟩⟩
   | t ys =>
    have hb':=hb;obtain⟨q,ws,rfl,hq,ly,hy⟩:=hb;obtain⟨vs2,r2,hl2⟩:=tup_is I hq;cases ry;have l1:=r1.length;have l2:=r2.length;have he:∀ j (h1:j<vs.toArray.size) (h2:j<vs2.toArray.size),SeqAt.EqAt A.in1 s vs.toArray[j] vs2.toArray[j] (match xs[j]?,ys[j]? with|some x,some y=>eqD n x y|_,_=>true):=λj h1 h2=>by
     simp only[Cj]at h1 h2;obtain⟨w1,z1,rz1⟩:=r1.get (i:=j) (x:=us[j]'(by omega)) (Cc (by omega));obtain⟨w2,z2,rz2⟩:=r2.get (i:=j) (x:=ws[j]'(by omega)) (Cc (by omega));have a1:vs.toArray[j]=w1:=by
      have:=(Cd.mp z1).2
      simpa using this
     have a2:vs2.toArray[j]=w2:=by
      have:=(Cd.mp z2).2
      simpa using this
     rw[a1,a2];have e1:xs[j]?=some (xs[j]'(by omega)):=Cc (by omega);have e2:ys[j]?=some (ys[j]'(by omega)):=Cc (by omega);simp only[e1,e2];exact(ih (hx j _ _ (Cc (by omega)) e1) (hy j _ _ (Cc (by omega)) e2) rz1 rz2 (by rw[Around.in1_units];omega)).1
    have e:eqD (n+1) (.t xs) (.t ys)=((List.range (min vs.toArray.size vs2.toArray.size)).all (λi=>match xs[i]?,ys[i]? with|some x,some y=>eqD n x y|_,_=>true)&&vs.toArray.size == vs2.toArray.size):=by
     show(_&&_)=_;simp only[Cj];by_cases hs:xs.length=ys.length
     ·rw[show min vs.length vs2.length=xs.length by omega,show(vs.length == vs2.length)=(xs.length == ys.length) by rw[show vs.length=xs.length by omega,show vs2.length=ys.length by omega]]
     ·rw[beq_eq_false_iff_ne.mpr hs,show(vs.length == vs2.length)=false from beq_eq_false_iff_ne.mpr (by omega),DA,DA]
    have rc:RcB A s (.ref p) (.ref q) (eqD (n+1) (.t xs) (.t ys)):=by
     rw[e];exact⟨.tuples hl hl2 hu0 he,.tuples hl hl2 hu0 he⟩
    refine⟨?_,λ_=>rc⟩;by_cases e:p=q
    ·subst e
     rw[jY ha' hb'];exact .same _
    ·exact .of_refs e rc.eq
end
def BV(n:Nat):R2:=λx y H Q=>∃ a b,Rp H n x a∧Rp H n y b∧Q (.bl (eqD n a b)) H
def BW(n:Nat):R2:=λx y H Q=>∃ a b,Rp H n x a∧Rp H n y b∧Q (.bl (!eqD n a b)) H
section
variable{X:Cx}
theorem uj{n:Nat}(hu:X.A.units+n<cLine):OpR X (compareOp .Eq) (BV n):=by
 rintro pins s σ H x y v u Q I rx ry ⟨a,b,ha,hb,q⟩;by_cases h:(∃ z,a=.a z)∧∃ z,b=.a z
 ·obtain⟨⟨z,rfl⟩,z',rfl⟩:=h
  obtain⟨rfl,fx⟩:=ha.iJ;obtain⟨rfl,fy⟩:=hb.iJ;rw[nN]at q;exact(lP rx ry fx fy).eq _ _ _ _ ⟨.bl _,H,I,rfl,q⟩
 ·exact((rcG I ha hb rx ry hu).2 h).eq _ _ _ _ ⟨.bl _,H,I,rfl,q⟩
theorem xm{n:Nat}(hu:X.A.units+n<cLine):OpR X (compareOp .NotEq) (BW n):=by
 rintro pins s σ H x y v u Q I rx ry ⟨a,b,ha,hb,q⟩;by_cases h:(∃ z,a=.a z)∧∃ z,b=.a z
 ·obtain⟨⟨z,rfl⟩,z',rfl⟩:=h
  obtain⟨rfl,fx⟩:=ha.iJ;obtain⟨rfl,fy⟩:=hb.iJ;rw[nN]at q;exact(lP rx ry fx fy).ne _ _ _ _ ⟨.bl _,H,I,rfl,q⟩
 ·exact((rcG I ha hb rx ry hu).2 h).ne _ _ _ _ ⟨.bl _,H,I,rfl,q⟩
end
section
variable{X:Cx}{pins:List (Addr×Obj)}{σ:St}{H:Hp}{s:Shared}{d:Addr}{o:Obj}{u:HO}
theorem vZ:∀ {ns:List Int} {us:List Value},Vals (ns.map V.int) us→∃ ps:List (Int×Tok),us=ps.map (λp=>Value.int p.1 p.2)∧ps.map (·.1)=ns
 | [],_,.nil=>⟨[],rfl,rfl⟩
 | n::r,_,.cons h t=>by
  obtain⟨k,rfl⟩:=h;obtain⟨ps,e,e2⟩:=vZ t;exact⟨(n,k)::ps,by rw[e];rfl,by rw[CQ,e2]⟩
def zQ(K:W.Frag):List V→Hp→VK→Prop:=λvs H Q=>∃(p:Addr) (ns:List Int),vs=[.ref p]∧SqL K H p (ns.map V.int)∧Q (.int ns.sum) H
theorem rR(hc:X.calm=true):jz X (.builtin "sum") (zQ X.K):=by
 rintro pins s σ H xs us Q I r ⟨p,ns,rfl,hq,q⟩;obtain⟨u,rfl,ru⟩:=r.one;cases (show u=Value.ref p from ru);obtain⟨its,rv,⟨o,n,e1,e2,e3,e4⟩,hz⟩:=I.list hq;obtain⟨ps,e,ee⟩:=vZ rv;have hl:s.heap.IsList p (intItems ps.toArray):=by
  refine⟨o,e1,e2,n,?_⟩;rw[e4,e];simp[intItems]
 have hs:preSum (numAt ps.toArray) ps.toArray.size=ns.sum:=by
  rw[preSum_eq];simp only[Cj];rw[ee,Cp (by rw[←ee,Cn];exact Cg _)]
 refine sum_intListG (I.ok.hd hc) hl λh' tk t' hk=>⟨.int ns.sum,H,I.kept (t':=tk) hk,⟨t',by rw[hs]⟩,q⟩
end
theorem lQ{d:Addr}{o:Obj}{kvs:List (Key×V)}{te:TE}{Q:VK}{D:Addr}{τ:St}{H:Hp}(Pv:Nat→List V→Hp→Prop)(h0:Pv 0 [] H)(hD:∀ i ys H,i≤kvs.length→Pv i ys H→H D=some (.lst ys)∧ys.length=i)(hl:∀ i ys H,i≤kvs.length→Pv i ys H→H d=some (.frz o (.dK kvs)))(hn:kvs.length≤sizeLine)
  (hs:∀ i p ys H,kvs[i]?=some p→Pv i ys H→te (some (kV p.1)::τ) H λv H4=>H4 D=some (.lst ys)∧Pv (i+1) (ys++[v]) (upd H4 D (.lst (ys++[v])))) (hd:∀ ys H,Pv kvs.length ys H→Q (.ref D) H):nL (Itd d o kvs) D τ te Q H:=by
 refine⟨λi m ys H=>m=kvs.length-i∧i≤kvs.length∧Pv i ys H,⟨kvs.length,by simp,CG _,h0⟩,?_⟩;rintro i m ys H2 ⟨rfl,hi,p⟩;obtain⟨d1,d2⟩:=hD i ys H2 hi p;refine⟨d1,?_⟩;have hS:=hl i ys H2 hi p;by_cases hlt:i<kvs.length
 ·refine .inr ⟨⟨hS,hlt⟩,by omega,Pv (i+1),λzs H' p'=>⟨kvs.length-(i+1),by omega,rfl,hlt,p'⟩,λy H3 q=>?_⟩
  obtain⟨e1,q',e2,e3⟩:=q;subst e1 e3;exact hs i q' ys _ e2 p
 ·have e:i=kvs.length:=by omega
  subst e;exact .inl ⟨⟨hS,Cg _⟩,hd ys H2 p⟩
section
variable{X:Cx}{i o:Expr}{ty td:TE}
end
section
variable{X:Cx}{K:W.Frag}
def zR(K:W.Frag):List V→Hp→VK→Prop:=λxs H Q=>∃ p ys,xs=[V.ref p]∧(SqL K H p ys∨SqT K H p ys)∧Q (.int (ys.length:Int)) H
theorem rS(hK:X.K=K):jz X (.builtin "len") (zR K):=by
 subst hK;exact aI
end
section
variable{X:Cx}{o:Expr}{ta:TE}
end
end L2
end
section
namespace L2
open PySem PySem.Spec PyProof.Rows LX
section
variable{prog:Program}{w:World}{A:Around}{E:Value→Shared→Prop}{s:Shared}{a₀:Array Keyed}
end
section
variable{X:Cx}
end
end L2
end
section
namespace K41
open PySem L2 LX
abbrev cx:Stmt:=inClass (top 2) 0
abbrev iA:Stmt:=top 6
abbrev uM:Stmt:=top 8
abbrev fX:Stmt:=top 9
abbrev gx:Stmt:=top 10
abbrev fg:Stmt:=top 11
abbrev eh:Stmt:=top 12
abbrev fM:Stmt:=top 14
abbrev fO:Stmt:=top 15
abbrev eA:Stmt:=top 16
abbrev dA:Stmt:=top 17
abbrev fh:Stmt:=top 18
abbrev gy:Stmt:=top 19
abbrev cZ:Stmt:=inClass (top 21) 0
abbrev fi:Stmt:=inClass (top 21) 1
abbrev gz:Stmt:=inClass (top 21) 2
abbrev fP:Stmt:=inClass (top 21) 3
abbrev bK:Stmt:=inClass (top 21) 5
abbrev gA:Stmt:=top 23
abbrev fj:Stmt:=top 24
abbrev dB:Stmt:=top 25
abbrev eB:Stmt:=top 26
abbrev bM:Stmt:=top 27
abbrev fk:Stmt:=top 28
abbrev d0:Stmt:=top 29
abbrev g6:Stmt:=top 30
abbrev fQ:Stmt:=top 31
abbrev uN:Stmt:=top 33
structure Ad where
 aX:Addr
 ax:Addr
 dk:Addr
 aA:Addr
 ao:Addr
 aJ:FuncData
 cv:Addr
 eF:FuncData
 iQ:Addr
 qd:FuncData
 cf:Addr
 eN:FuncData
 bO:Addr
 dM:FuncData
 aZ:Addr
 cI:FuncData
 aP:Addr
 bV:FuncData
 dm:Addr
 gF:FuncData
 bq:Addr
 de:FuncData
 aQ:Addr
 bW:FuncData
 a7:Addr
 cJ:FuncData
 a8:Addr
 cK:FuncData
 bP:Addr
 dN:FuncData
 aH:Addr
 bj:FuncData
 aU:Addr
 bQ:FuncData
 bE:Addr
 cA:FuncData
 bc:Addr
 b9:FuncData
 ar:Addr
 aF:FuncData
 bF:Addr
 cU:FuncData
 a9:Addr
 cL:FuncData
 ba:Addr
 cM:FuncData
 aV:Addr
 cy:FuncData
 br:Addr
 cD:FuncData
 bb:Addr
 cN:FuncData
 bu:Addr
 df:FuncData
 cg:Addr
 eO:FuncData
 bw:Addr
 dh:FuncData
 lj:Addr
 qe:FuncData
structure Txt(K:W.Frag)(mg:Str→Option Value)(D:Ad):Prop where
 h:∃ cd,dy K D.aX cd
 mH:mg "HeapError" = some (.ref D.aX)
 fm:mg "BadAddress" = some (.ref D.ax)
 cO:yV K D.ax
 fq:MkX K D.ax D.ao
 uk:PySem.W.kitOne K (.ref D.ax) (.type "ValueError")=some true
 sN:∃ cd,dy K D.ax cd∧cd.mro.contains (.ref D.aX)=true
 xw:mg "NoRoom" = some (.ref D.dk)
 xx:yV K D.dk
 xy:MkX K D.dk D.ao
 xA:PySem.W.kitOne K (.ref D.dk) (.type "ValueError")=some true
 wa:∃ cd,dy K D.dk cd∧cd.mro.contains (.ref D.aX)=true
 lS:mg "Memory" = some (.ref D.aA)
 aD:Cls K D.aA
 gM:Mk K D.aA D.aH
 bX:ic K D.aA "cells"
 eC:Meth K D.aA "size" D.aU
 d4:Meth K D.aA "at" D.bE
 cP:Meth K D.aA "put" D.bc
 cC:Meth K D.aA "look_at_address" D.ar
 iB:mg "kind_of" = some (.ref D.cv)
 fG:PySem.W.keepIn K (.ref D.cv)=true
 zS:mg "lay" = some (.ref D.iQ)
 uO:PySem.W.keepIn K (.ref D.iQ)=true
 qf:mg "thing_at" = some (.ref D.cf)
 g7:PySem.W.keepIn K (.ref D.cf)=true
 nZ:mg "fields_at" = some (.ref D.bO)
 gB:PySem.W.keepIn K (.ref D.bO)=true
 ke:mg "fields_told" = some (.ref D.aZ)
 ft:PySem.W.keepIn K (.ref D.aZ)=true
 gq:mg "look_at_room" = some (.ref D.aP)
 c6:PySem.W.keepIn K (.ref D.aP)=true
 tG:mg "copied" = some (.ref D.dm)
 jZ:PySem.W.keepIn K (.ref D.dm)=true
 l5:mg "things_met" = some (.ref D.bq)
 fR:PySem.W.keepIn K (.ref D.bq)=true
 gr:mg "address_told" = some (.ref D.aQ)
 c7:PySem.W.keepIn K (.ref D.aQ)=true
 kf:mg "words_among" = some (.ref D.a7)
 fu:PySem.W.keepIn K (.ref D.a7)=true
 kg:mg "places_from" = some (.ref D.a8)
 fv:PySem.W.keepIn K (.ref D.a8)=true
 iK:mg "told_anew" = some (.ref D.bP)
 eY:PySem.W.keepIn K (.ref D.bP)=true
 iL:mg "_law_cell" = some (.ref D.bF)
 eZ:PySem.W.keepIn K (.ref D.bF)=true
 kh:mg "_law_digits" = some (.ref D.a9)
 fz:PySem.W.keepIn K (.ref D.a9)=true
 ki:mg "_law_stream" = some (.ref D.ba)
 fA:PySem.W.keepIn K (.ref D.ba)=true
 gu:mg "_law_word_by" = some (.ref D.aV)
 c9:PySem.W.keepIn K (.ref D.aV)=true
 l7:mg "_law_built" = some (.ref D.br)
 fS:PySem.W.keepIn K (.ref D.br)=true
 kj:mg "_law_memory" = some (.ref D.bb)
 fB:PySem.W.keepIn K (.ref D.bb)=true
 hZ:mg "_law_words" = some (.ref D.bu)
 d5:PySem.W.keepIn K (.ref D.bu)=true
 qg:mg "_law_met" = some (.ref D.cg)
 g8:PySem.W.keepIn K (.ref D.cg)=true
 md:mg "_law_pairs" = some (.ref D.bw)
 fT:PySem.W.keepIn K (.ref D.bw)=true
 B8:mg "law" = some (.ref D.lj)
 wc:PySem.W.keepIn K (.ref D.lj)=true
 e7:mg "len" = none
 dS:mg "range" = none
 i0:mg "list" = none
 j1:mg "sorted" = none
 uP:mg "sum" = none
 cV:mg "enumerate" = none
 fU:mg "ValueError" = none
 qz:mg "dict" = none
structure Ok(P:Program)(w:World)(K:W.Frag)(mg:Str→Option Value)(base:Heap)(n:Nat)(f:Addr)(fd:FuncData)(ps:List Str)(sp:Sp):Prop where
 g:iH P w K mg base (CXE P w) n f fd ps sp
 b:Binds K fd ps []
section
variable{P:Program}{w:World}{K:W.Frag}{mg:Str→Option Value}{base:Heap}{D:Ad}
theorem qR{t u:TS}{D:Ends}{σ:St}{H:Hp}(h:∀ N:St→Hp→Prop,(∀ σ' H',u D σ' H'→N σ' H')→t {D with nx:=N} σ H):Af t u D σ H:=h (u D) (λ_ _ q=>q)
theorem um{P:Program}{w:World}{X:Cx}:Passes (CXE P w) X (λ_ _ _=>False):=λ_ _ _ _ _ _ _ ⟨_,_,_,_,_,_,_,_,_,q⟩=>q.elim
theorem fH{H0 H:Hp}{K:W.Frag}{E E2:XK}{C:Addr}{y:Str}(ec:yV K C)(h0:∀ b,H b=none→H0 b=none)(k:∀ H',au H H'→E (.ref C) none H')(ea:Addr)(hea:H ea=none) :
  vm K [.ref ea,.str y] (upd H ea (exo true C ea none)) (λv H2=>v=.non∧(λ(v:V) (H1:Hp)=>∃ ea C od,v=.ref ea∧H1 ea=some (exo true C ea od)∧(∃ cd,dy K C cd)∧H0 ea=none∧E (.ref C) od (del H1 ea)) (.ref ea) H2) E2:=by
 refine⟨ea,C,none,.str y,rfl,ab,ec.cls,rfl,ea,C,none,rfl,ab,ec.cls,h0 _ hea,k _ λb o q=>?_⟩;have nb:b≠ea:=λe=>by rw[e,hea]at q;cases q
 rw[gR nb,ag nb];exact q
def Bad(C:Addr)(H:Hp)(E:XK):Prop:=∀ H',au H H'→E (.ref C) none H'
theorem Bad.same{C:Addr}{H H1:Hp}{E:XK}(k:Bad C H E)(s:au H H1):Bad C H1 E:=λH' s'=>k H' (s.trans s')
def Sm(n:Int):Prop:=n.natAbs.log2<1920
theorem Sm.of{n:Int}(h0:-1000000≤n)(h1:n≤1000000):Sm n:=rK (Nat.lt_trans (show n.natAbs<2000000 by omega) (by decide))
theorem eG{xs:List V}{a:Int}{v:V}(h0:0≤a)(h:xs[a.toNat]?=some v):atI xs a=some v:=by
 have e:a=(a.toNat:Int):=by omega
 rw[e];exact qN h
theorem uQ{n:Nat}{a:Int}(h0:0≤a)(h1:a<n):ixN n a=some a.toNat:=by
 unfold ixN;rw[if_pos h0,if_pos h1]
theorem dO{b:Bool}{A B:Prop}(h:b=false)(k:B):if b=true then A else B:=by rw[h];exact k
theorem d6{b:Bool}{A B:Prop}(h:b=true)(k:A):if b=true then A else B:=by rw[h];exact k
def But(m:Addr)(H H':Hp):Prop:=∀ b u,b≠m→H b=some u→H' b=some u
theorem But.upd{m a:Addr}{H:Hp}{o:HO}(h:H a=none):But m H (L2.upd H a o):=λb u _ q=>by rw[ag (ae q h)];exact q
theorem But.self{m:Addr}{H:Hp}{o:HO}:But m H (L2.upd H m o):=λb u n q=>by rw[ag n];exact q
theorem But.trans{m:Addr}{H H1 H2:Hp}(a:But m H H1)(b:But m H1 H2):But m H H2:=λc u n q=>b c u n (a c u n q)
theorem But.same{m:Addr}{H H1:Hp}(s:au H H1):But m H H1:=λb u _ q=>s b u q
theorem au.none{H H':Hp}(s:au H H'){b:Addr}(h:H' b=none):H b=none:=by
 cases q:H b with
 | none=>rfl
 | some u=>rw[s _ _ q]at h;cases h
inductive Mw where
 | no
 | num (n:Int)
 | ad (a:Int)
 | hd (t n:Int)
 | mv (a n:Int)
def Mw.its:Mw→List V
 | .no=>[]
 | .num n=>[.str "number",.int n]
 | .ad a=>[.str "at",.int a]
 | .hd t n=>[.str "head",.int t,.int n]
 | .mv a n=>[.str "moved",.int a,.int n]
def Mw.kind:Mw→Str
 | .no => "none"
 | .num _ => "number"
 | .ad _ => "at"
 | .hd _ _ => "head"
 | .mv _ _ => "moved"
def MV(H:Hp)(v:V)(w:Mw):Prop:=(w=.no∧v=.non)∨(w≠.no∧∃ t,v=.ref t∧H t=some (.tup w.its))
def bN(H H':Hp):Prop:=∀ t us,H t=some (.tup us)→H' t=some (.tup us)
theorem bN.of{H H':Hp}(s:au H H'):bN H H':=λt us q=>s _ _ q
theorem bN.trans{H H1 H2:Hp}(a:bN H H1)(b:bN H1 H2):bN H H2:=λt us q=>b t us (a t us q)
theorem bN.set{H:Hp}{c:Addr}{xs:List V}{o:HO}(h:H c=some (.lst xs)):bN H (upd H c o):=λt us q=>by
 rw[ag (bo q h (by intro z;cases z))];exact q
theorem MV.keep{H H':Hp}{v:V}{w:Mw}(h:MV H v w)(s:bN H H'):MV H' v w:=by
 rcases h with h|⟨n,t,e,q⟩
 ·exact .inl h
 ·exact .inr ⟨n,t,e,s _ _ q⟩
def MR(H:Hp)(xs:List V)(ws:List Mw):Prop:=xs.length=ws.length∧∀(i:Nat) (v:V) (w:Mw),xs[i]?=some v→ws[i]?=some w→MV H v w
theorem MR.keep{H H':Hp}{xs:List V}{ws:List Mw}(h:MR H xs ws)(s:bN H H'):MR H' xs ws:=⟨h.1,λi v w a b=>(h.2 i v w a b).keep s⟩
theorem MR.get{H:Hp}{xs:List V}{ws:List Mw}(h:MR H xs ws){i:Nat}{w:Mw}(hw:ws[i]?=some w):∃ v,xs[i]?=some v∧MV H v w:=by
 have hi:i<xs.length:=by rw[h.1];exact(Cd.mp hw).1
 exact⟨_,Cc hi,h.2 i _ _ (Cc hi) hw⟩
theorem MR.set{H:Hp}{xs:List V}{ws:List Mw}{i:Nat}{v:V}{w:Mw}(h:MR H xs ws)(hv:MV H v w):MR H (xs.set i v) (ws.set i w):=by
 refine⟨by rw[CS,CS];exact h.1,λj u y a b=>?_⟩;by_cases e:i=j
 ·subst e
  rw[DO]at a b;simp only[if_true]at a b;split at a
  ·split at b
   ·cases a;cases b;exact hv
   ·cases b
  ·cases a
 ·rw[De e]at a b
  exact h.2 j u y a b
theorem MR.rep{H:Hp}{n:Nat}:MR H (List.replicate n .non) (List.replicate n .no):=⟨by rw[CN,CN],λi v w a b=>by
 rw[List.getElem?_replicate]at a b;split at a
 ·rename_i c
  rw[if_pos c]at b;cases a;cases b;exact .inl ⟨rfl,rfl⟩
 ·cases a⟩
structure Mm(D:Ad)(H:Hp)(m mx c:Addr)(xs:List V)(ws:List Mw):Prop where
 i:H m=some (.ins D.aA mx [("cells",.ref c)])
 l:H c=some (.lst xs)
 r:MR H xs ws
 z:ws.length≤10000
section
variable{D:Ad}{H H':Hp}{m mx c:Addr}{xs:List V}{ws:List Mw}
theorem Mm.same(M:Mm D H m mx c xs ws)(s:au H H'):Mm D H' m mx c xs ws:=⟨s _ _ M.i,s _ _ M.l,M.r.keep (bN.of s),M.z⟩
theorem Mm.mc(M:Mm D H m mx c xs ws):m≠c:=bo M.i M.l (by intro z;cases z)
theorem Mm.set(M:Mm D H m mx c xs ws){i:Nat}{v:V}{w:Mw}(hv:MV H v w):Mm D (upd H c (.lst (xs.set i v))) m mx c (xs.set i v) (ws.set i w) :=
 ⟨by rw[ag M.mc];exact M.i,ab,(M.r.set hv).keep (bN.set M.l),by rw[CS];exact M.z⟩
end
theorem tH(n:Nat):(List.replicate n [V.non]).flatten=List.replicate n .non:=by
 induction n with
 | zero=>rfl
 | succ n ih=>rw[C0,Dn,ih,C0];rfl
def thg(ws:List Mw)(a:Int):Option (Int×Int):=if 0≤a then(match ws[a.toNat]? with|some (.hd t n)=>if a+n<ws.length then some (t,n) else none|_=>none) else none
theorem j2{ws:List Mw}{a t n:Int}(h:thg ws a=some (t,n)):0≤a∧ws[a.toNat]?=some (.hd t n)∧a+n<ws.length:=by
 unfold thg at h;split at h
 ·rename_i h0
  split at h
  ·rename_i t' n' e
   split at h
   ·rename_i hl
    cases h;exact⟨h0,e,hl⟩
   ·cases h
  ·cases h
 ·cases h
structure Gm(ws:List Mw):Prop where
 hd:∀ t n,Mw.hd t n∈ws→0≤n∧n≤1000
 mv:∀ a n,Mw.mv a n∈ws→Sm a
def fY(ws:List Mw):Nat→List Mw→List Mw
 | _,[]=>ws
 | i,u::r=>fY (ws.set i u) (i+1) r
theorem iC(ws:List Mw)(i:Nat)(us:List Mw):(fY ws i us).length=ws.length:=by
 induction us generalizing ws i with
 | nil=>rfl
 | cons u r ih=>unfold fY;rw[ih,CS]
theorem jN(ws:List Mw)(i:Nat)(us:List Mw)(u:Mw):fY ws i (us++[u])=(fY ws i us).set (i+us.length) u:=by
 induction us generalizing ws i with
 | nil=>rfl
 | cons v r ih =>
  show fY (ws.set i v) (i+1) (r++[u])=(fY (ws.set i v) (i+1) r).set (i+(r.length+1)) u;rw[ih,show i+1+r.length=i+(r.length+1) by omega]
theorem tI(ws:List Mw)(i:Nat)(us:List Mw)(j:Nat)(hl:i+us.length≤ws.length):(fY ws i us)[j]?=if i≤j∧j<i+us.length then us[j-i]? else ws[j]?:=by
 induction us generalizing ws i with
 | nil=>rw[if_neg (by simp)];rfl
 | cons u r ih =>
  show(fY (ws.set i u) (i+1) r)[j]?=_;rw[CI]at hl ⊢;rw[ih (ws.set i u) (i+1) (by rw[CS];omega)];by_cases c:i=j
  ·subst c
   rw[if_neg (by omega),if_pos (by omega),Dj (by omega),DB];rfl
  ·by_cases d:i+1≤j∧j<i+1+r.length
   ·rw[if_pos d,if_pos (by omega),show j-i=(j-(i+1))+1 by omega,List.getElem?_cons_succ]
   ·rw[if_neg d,if_neg (by omega),De c]
def layW(ws:List Mw)(a:Nat)(t:Int)(us:List Mw):List Mw:=fY (ws.set a (.hd t us.length)) (a+1) us
def i3(ws:List Mw)(a n:Nat):List Mw:=(ws.drop (a+1)).take n
abbrev gi:List Str:=["self", "text"]
theorem f7:aG gi ["self", "text"] (aj cx):=⟨rfl,rfl,rfl,by decide +kernel,rfl,by decide +kernel,by decide +kernel⟩
theorem f9(F:Fun K "__init__" "HeapError.__init__" cx D.ao D.aJ)(T:Txt K mg D):Ok P w K mg base 1 D.ao D.aJ ["self", "text"] (vm K):=by
 refine⟨?_,F.binds (ps:=["self", "text"]) λ_ _ _ _ _ _ us hl=>match us,hl with|[_,_],_=>rfl⟩
 refine F.okE f7 (λvs H Q E h=>?_) (λcdv A' outer s' H vs Q E hr h=>?_)
 ·obtain⟨ea,C,od,x,rfl,_⟩:=h
  rfl
 ·obtain⟨ea,C,od,x,rfl,h1,hc,k⟩:=h
  refine⟨_,(ak (bL (zI rfl T.fU (aa (pv 0) (aa (pv 1) ah))))),?_⟩;exact⟨_,rfl,_,rfl,ea,C,od,[x],rfl,(by show 1≤1000;decide),h1,hc,k⟩
def j3(D:Ad):Sp:=λvs H Q _=>∃ m dx,∃ n:Int,vs=[.ref m,.int n]∧H m=some (.ins D.aA dx [])∧0≤n∧n≤10000∧∀ c H',But m H H'→H c=none→Mm D H' m dx c (List.replicate n.toNat .non) (List.replicate n.toNat .no)→Q .non H'
abbrev g9:List Str:=["self", "size"]
theorem gY:aG g9 ["self", "size"] (aj cZ):=⟨rfl,rfl,rfl,by decide +kernel,rfl,by decide +kernel,by decide +kernel⟩
theorem gZ(F:Fun K "__init__" "Memory.__init__" cZ D.aH D.bj)(T:Txt K mg D):Ok P w K mg base 1 D.aH D.bj ["self", "size"] (j3 D):=by
 refine⟨?_,F.binds (ps:=["self", "size"]) λ_ _ _ _ _ _ us hl=>match us,hl with|[_,_],_=>rfl⟩
 refine F.okE gY (λvs H Q E h=>?_) (λcdv A' outer s' H vs Q E hr h=>?_)
 ·obtain⟨m,dx,n,rfl,_⟩:=h
  rfl
 ·obtain⟨m,dx,n,rfl,hm,n0,n1,k⟩:=h
  refine⟨_,(ak (wN (pv 0) (aw wW (fL (aa ib ah)) (pv 1)) rfl)),?_⟩;refine⟨by show 1≤sizeLine;decide,λp hp=>⟨_,rfl,p,n,_,rfl,rfl,ab,by omega,by omega,by show 1*n.toNat≤sizeLine;exact CK (show 1*n.toNat≤10000 by omega) (by decide),λq hq=>?_⟩⟩;have np:m≠p:=ae hm hp;have hm1:upd H p (.lst [.non]) m=some (.ins D.aA dx []):=by rw[ag np];exact hm
  have nq:m≠q:=ae hm1 hq;have qp:q≠p:=λe=>by rw[e,ab]at hq;cases hq
  have hq0:H q=none:=by rw[ag qp]at hq;exact hq
  refine⟨_,rfl,m,D.aA,dx,[],rfl,(by rw[ag nq];exact hm1),T.aD,T.bX,by decide,?_⟩;refine k q _ (((But.upd hp).trans (But.upd hq)).trans But.self) hq0 ⟨ab,?_,MR.rep,by rw[CN];omega⟩;rw[ag (CV nq),ab,tH]
def ik(D:Ad):Sp:=λvs H Q _=>∃ m mx c xs ws,vs=[.ref m]∧Mm D H m mx c xs ws∧Q (.int ws.length) H
abbrev kl:List Str:=["self"]
theorem i9:aG kl ["self"] (aj fi):=⟨rfl,rfl,rfl,by decide +kernel,rfl,by decide +kernel,by decide +kernel⟩
theorem ja(F:Fun K "size" "Memory.size" fi D.aU D.bQ)(T:Txt K mg D):Ok P w K mg base 1 D.aU D.bQ ["self"] (ik D):=by
 refine⟨?_,F.binds (ps:=["self"]) λ_ _ _ _ _ _ us hl=>match us,hl with|[_],_=>rfl⟩
 refine F.okE i9 (λvs H Q E h=>?_) (λcdv A' outer s' H vs Q E hr h=>?_)
 ·obtain⟨m,mx,c,xs,ws,rfl,_⟩:=h
  rfl
 ·obtain⟨m,mx,c,xs,ws,rfl,M,k⟩:=h
  refine⟨_,(PSs.nox (ak (bA (bJ aI rfl T.e7 PyProof.Rows.Boot.«len» (aa (nB (pv 0) rfl) ah))))),?_⟩;refine⟨_,rfl,m,D.aA,mx,_,.ref c,rfl,M.i,T.aD,T.bX,rfl,c,_,rfl,.inl (SqL.of M.l),?_⟩;rw[M.r.1];exact k
def j4(D:Ad):Sp:=λvs H Q E=>∃ m mx c xs ws,∃ a:Int,vs=[.ref m,.int a]∧Mm D H m mx c xs ws∧Sm a∧(if 0≤a∧a<ws.length then Q .non H else Bad D.ax H E)
abbrev eT:List Str:=["self", "a"]
theorem eP:aG eT ["self", "a"] (aj bK):=⟨rfl,rfl,rfl,by decide +kernel,rfl,by decide +kernel,by decide +kernel⟩
theorem eQ(F:Fun K "look_at_address" "Memory.look_at_address" bK D.ar D.aF)(T:Txt K mg D)
  (aq:Ok P w K mg base 1 D.ao D.aJ ["self", "text"] (vm K)):Ok P w K mg base 3 D.ar D.aF ["self", "a"] (j4 D):=by
 refine⟨?_,F.binds (ps:=["self", "a"]) λ_ _ _ _ _ _ us hl=>match us,hl with|[_,_],_=>rfl⟩
 refine F.okE eP (λvs H Q E h=>?_) (λcdv A' outer s' H vs Q E hr h=>?_)
 ·obtain⟨m,mx,c,xs,ws,a,rfl,_⟩:=h
  rfl
 ·obtain⟨m,mx,c,xs,ws,a,rfl,M,ha,k⟩:=h
  refine⟨_,(ak (fW (wJ (sT zf nz ai (pv 1) (bJ aI rfl T.e7 PyProof.Rows.Boot.«len» (aa (nB (pv 0) rfl) ah))))
    (ak (jV rfl qv (qw T.fq aq.g (hr.mono (by decide)) rfl T.fm aq.b (Passes.x (gI λ_ _ _ q=>q)) (aa (m9 (dR jF (dR (nI (pv 1)) m8))) ah))))
    cH)),?_⟩
  have el:=M.r.1;by_cases g:0≤a∧a<(ws.length:Int)
  ·rw[if_pos g]at k
   refine⟨_,rfl,0,a,rfl,rfl,_,rfl,jB (λ_=>⟨_,rfl,m,D.aA,mx,_,.ref c,rfl,M.i,T.aD,T.bX,rfl,c,_,rfl,.inl (SqL.of M.l),a,_,rfl,rfl,_,rfl,jB (λh2=>absurd h2 (by rw[el,decide_eq_true g.2];decide)) (λ_=>k)⟩) (λh1=>absurd (decide_eq_true g.1) h1)⟩
  ·rw[if_neg g]at k
   by_cases g0:0≤a
   ·have g1:¬a<(ws.length:Int):=λz=>g ⟨g0,z⟩
    refine⟨_,rfl,0,a,rfl,rfl,_,rfl,jB (λ_=>⟨_,rfl,m,D.aA,mx,_,.ref c,rfl,M.i,T.aD,T.bX,rfl,c,_,rfl,.inl (SqL.of M.l),a,_,rfl,rfl,_,rfl,jB (λ_=>⟨_,rfl,a,rfl,ha,λy hy ea hea=>fH T.cO (λ_ q=>q) k ea hea⟩) (λh2=>absurd (by rw[el,decide_eq_false g1];rfl) h2)⟩) (λh1=>absurd (decide_eq_true g0) h1)⟩
   ·refine⟨_,rfl,0,a,rfl,rfl,_,rfl,jB (λh1=>absurd (of_decide_eq_true h1) g0) (λ_=>⟨_,rfl,vb ⟨_,rfl,a,rfl,ha,λy hy ea hea=>fH T.cO (λ_ q=>q) k ea hea⟩⟩)⟩
def nO(D:Ad):Sp:=λvs H Q E=>∃ m mx c xs ws,∃ a:Int,vs=[.ref m,.int a]∧Mm D H m mx c xs ws∧Sm a∧(if 0≤a∧a<ws.length then ∀ v w,xs[a.toNat]?=some v→ws[a.toNat]?=some w→MV H v w→Q v H else Bad D.ax H E)
abbrev n4:List Str:=["self", "a"]
theorem mf:aG n4 ["self", "a"] (aj gz):=⟨rfl,rfl,rfl,by decide +kernel,rfl,by decide +kernel,by decide +kernel⟩
theorem mh(F:Fun K "at" "Memory.at" gz D.bE D.cA)(T:Txt K mg D)
  (av:Ok P w K mg base 3 D.ar D.aF ["self", "a"] (j4 D)):Ok P w K mg base 4 D.bE D.cA ["self", "a"] (nO D):=by
 refine⟨?_,F.binds (ps:=["self", "a"]) λ_ _ _ _ _ _ us hl=>match us,hl with|[_,_],_=>rfl⟩
 refine F.okE mf (λvs H Q E h=>?_) (λcdv A' outer s' H vs Q E hr h=>?_)
 ·obtain⟨m,mx,c,xs,ws,a,rfl,_⟩:=h
  rfl
 ·obtain⟨m,mx,c,xs,ws,a,rfl,M,ha,k⟩:=h
  refine⟨_,(af (bL (dr (pv 0) T.aD T.cC av.g (hr.mono (by decide)) av.b .nil (Passes.x (gI λ_ _ _ q=>q)) (aa (pv 1) ah)))
   (ak (bA (cn cB (nB (pv 0) rfl) (pv 1) (λ_ _=>rfl))))),?_⟩
  have el:=M.r.1;refine⟨_,rfl,m,_,_,rfl,M.i,(by kernel_rfl),_,rfl,m,mx,c,xs,ws,a,rfl,M,ha,?_⟩;by_cases g:0≤a∧a<(ws.length:Int)
  ·rw[if_pos g]at k ⊢
   have hw:ws[a.toNat]?=some (ws[a.toNat]'(by omega)):=Cc _;obtain⟨v,hv,mv⟩:=M.r.get hw;exact⟨_,rfl,m,D.aA,mx,_,.ref c,rfl,M.i,T.aD,T.bX,rfl,_,rfl,c,xs,a,v,rfl,rfl,SqL.of M.l,eG g.1 hv,k v _ hv hw mv⟩
  ·rw[if_neg g]at k ⊢
   exact k
def jO(D:Ad):Sp:=λvs H Q E=>∃ m mx c xs ws,∃(a:Int) (v:V) (w:Mw),vs=[.ref m,.int a,v]∧Mm D H m mx c xs ws∧Sm a∧MV H v w∧(if 0≤a∧a<ws.length then(Mm D (upd H c (.lst (xs.set a.toNat v))) m mx c (xs.set a.toNat v) (ws.set a.toNat w)→Q .non (upd H c (.lst (xs.set a.toNat v)))) else Bad D.ax H E)
abbrev mm:List Str:=["self", "a", "word"]
theorem km:aG mm ["self", "a", "word"] (aj fP):=⟨rfl,rfl,rfl,by decide +kernel,rfl,by decide +kernel,by decide +kernel⟩
theorem kn(F:Fun K "put" "Memory.put" fP D.bc D.b9)(T:Txt K mg D)
  (av:Ok P w K mg base 3 D.ar D.aF ["self", "a"] (j4 D)):Ok P w K mg base 4 D.bc D.b9 ["self", "a", "word"] (jO D):=by
 refine⟨?_,F.binds (ps:=["self", "a", "word"]) λ_ _ _ _ _ _ us hl=>match us,hl with|[_,_,_],_=>rfl⟩
 refine F.okE km (λvs H Q E h=>?_) (λcdv A' outer s' H vs Q E hr h=>?_)
 ·obtain⟨m,mx,c,xs,ws,a,v,w,rfl,_⟩:=h
  rfl
 ·obtain⟨m,mx,c,xs,ws,a,v,w,rfl,M,ha,hv,k⟩:=h
  refine⟨_,(af (bL (dr (pv 0) T.aD T.cC av.g (hr.mono (by decide)) av.b .nil (Passes.x (gI λ_ _ _ q=>q)) (aa (pv 1) ah)))
   (ak (ka (pv 2) (nu (nB (pv 0) rfl) (pv 1) set_list)))),?_⟩
  have el:=M.r.1;refine⟨_,rfl,m,_,_,rfl,M.i,(by kernel_rfl),_,rfl,m,mx,c,xs,ws,a,rfl,M,ha,?_⟩;by_cases g:0≤a∧a<(ws.length:Int)
  ·rw[if_pos g]at k ⊢
   exact⟨_,rfl,_,rfl,m,D.aA,mx,_,.ref c,rfl,M.i,T.aD,T.bX,rfl,_,rfl,c,xs,a,a.toNat,rfl,rfl,M.l,uQ g.1 (by rw[el];exact g.2),k (M.set hv)⟩
  ·rw[if_neg g]at k ⊢
   exact k
def qA:Sp:=λvs H Q _=>∃ v w,vs=[v]∧MV H v w∧Q (.str w.kind) H
abbrev rT:List Str:=["value"]
theorem qh:aG rT ["value"] (aj iA):=⟨rfl,rfl,rfl,by decide +kernel,rfl,by decide +kernel,by decide +kernel⟩
theorem qi(F:Fun K "kind_of" "kind_of" iA D.cv D.eF)(T:Txt K mg D):Ok P w K mg base 1 D.cv D.eF ["value"] (qA):=by
 refine⟨?_,F.binds (ps:=["value"]) λ_ _ _ _ _ _ us hl=>match us,hl with|[_],_=>rfl⟩
 refine F.okE qh (λvs H Q E h=>?_) (λcdv A' outer s' H vs Q E hr h=>?_)
 ·obtain⟨v,w,rfl,_⟩:=h
  rfl
 ·obtain⟨v,w,rfl,hv,k⟩:=h
  refine⟨_,(PSs.nox (ak (bA (oK (aW tZ (pv 0) ib (bT _)) dX (cn dw (pv 0) ai (λ_ _=>rfl)))))),?_⟩;rcases hv with⟨rfl,rfl⟩|⟨n,t,rfl,ht⟩
  ·exact⟨_,rfl,rfl,_,rfl,jB (λ_=>k) (λh=>absurd (by simp) h)⟩
  ·refine⟨_,rfl,rfl,_,rfl,jB (λh=>by simp at h) (λ_=>⟨_,rfl,t,_,0,.str w.kind,rfl,rfl,SqT.of ht,?_,k⟩)⟩
   cases w with
   | no=>exact absurd rfl n
   | _=>rfl
def ng(D:Ad):Sp:=λvs H Q E=>∃ m mx c xs ws,∃ a n:Int,vs=[.ref m,.int a,.int n]∧Mm D H m mx c xs ws∧Sm a∧Sm n∧(if 0≤a∧a+n<ws.length then Q .non H else Bad D.ax H E)
abbrev jb:List Str:=["memory", "a", "fields"]
theorem iR:aG jb ["memory", "a", "fields"] (aj eh):=⟨rfl,rfl,rfl,by decide +kernel,rfl,by decide +kernel,by decide +kernel⟩
theorem iS(F:Fun K "look_at_room" "look_at_room" eh D.aP D.bV)(T:Txt K mg D)
  (aK:Ok P w K mg base 1 D.aU D.bQ ["self"] (ik D))
  (aq:Ok P w K mg base 1 D.ao D.aJ ["self", "text"] (vm K)):Ok P w K mg base 3 D.aP D.bV ["memory", "a", "fields"] (ng D):=by
 refine⟨?_,F.binds (ps:=["memory", "a", "fields"]) λ_ _ _ _ _ _ us hl=>match us,hl with|[_,_,_],_=>rfl⟩
 refine F.okE iR (λvs H Q E h=>?_) (λcdv A' outer s' H vs Q E hr h=>?_)
 ·obtain⟨m,mx,c,xs,ws,a,n,rfl,_⟩:=h
  rfl
 ·obtain⟨m,mx,c,xs,ws,a,n,rfl,M,ha,hn,k⟩:=h
  refine⟨_,(ak (fW (PW.pt (pw_or (aW nz (pv 1) ai (bT _)) (pw_or1 (aW zg (aw aS (pv 1) (pv 2)) (jW (pv 0) T.aD T.eC aK.g (hr.mono (by decide)) aK.b .nil (Passes.x (gI λ_ _ _ q=>q))) (bT _)))))
    (ak (jV rfl qv (qw T.fq aq.g (hr.mono (by decide)) rfl T.fm aq.b (Passes.x (gI λ_ _ _ q=>q)) (aa (m9 (dR jF (dR (nI (pv 2)) (dR jF (dR (nI (pv 1)) m8))))) ah))))
    cH)),?_⟩
  by_cases g0:a<0
  ·rw[if_neg (λz=>by have:=z.1;omega)]at k
   exact⟨_,rfl,a,0,rfl,rfl,_,rfl,d6 (decide_eq_true g0) (vb ⟨_,rfl,n,rfl,hn,_,rfl,a,rfl,ha,λy hy ea hea=>fH T.cO (λ_ q=>q) k ea hea⟩)⟩
  ·refine⟨_,rfl,a,0,rfl,rfl,_,rfl,dO (decide_eq_false g0) ⟨_,rfl,_,rfl,a,n,rfl,rfl,_,rfl,m,_,_,rfl,M.i,(by kernel_rfl),m,mx,c,xs,ws,rfl,M,_,_,rfl,rfl,_,rfl,?_⟩⟩
   by_cases g:0≤a∧a+n<(ws.length:Int)
   ·rw[if_pos g]at k
    exact dO (decide_eq_false (by omega)) k
   ·rw[if_neg g]at k
    exact d6 (decide_eq_true (by omega)) ⟨_,rfl,n,rfl,hn,_,rfl,a,rfl,ha,λy hy ea hea=>fH T.cO (λ_ q=>q) k ea hea⟩
def pz(D:Ad):Sp:=λvs H Q E=>∃ m mx c xs ws,∃(a:Int) (kd:Addr),vs=[.ref m,.int a,.ref kd]∧Mm D H m mx c xs ws∧Gm ws∧Sm a∧H kd=some (.tup [.str "head"])∧(match thg ws a with|some (_,n)=>Q (.int n) H|none=>Bad D.ax H E)
abbrev ko:List Str:=["memory", "a", "kinds", "word"]
theorem gv:aG ko ["memory", "a", "kinds"] (aj fg):=⟨rfl,rfl,rfl,by decide +kernel,rfl,by decide +kernel,by decide +kernel⟩
theorem jc(F:Fun K "fields_told" "fields_told" fg D.aZ D.cI)(T:Txt K mg D)
  (aO:Ok P w K mg base 4 D.bE D.cA ["self", "a"] (nO D))
  (cw:Ok P w K mg base 1 D.cv D.eF ["value"] (qA))
  (bg:Ok P w K mg base 3 D.aP D.bV ["memory", "a", "fields"] (ng D))
  (aq:Ok P w K mg base 1 D.ao D.aJ ["self", "text"] (vm K)):Ok P w K mg base 5 D.aZ D.cI ["memory", "a", "kinds"] (pz D):=by
 refine⟨?_,F.binds (ps:=["memory", "a", "kinds"]) λ_ _ _ _ _ _ us hl=>match us,hl with|[_,_,_],_=>rfl⟩
 refine F.okE gv (λvs H Q E h=>?_) (λcdv A' outer s' H vs Q E hr h=>?_)
 ·obtain⟨m,mx,c,xs,ws,a,kd,rfl,_⟩:=h
  rfl
 ·obtain⟨m,mx,c,xs,ws,a,kd,rfl,M,gm,ha,hkd,k⟩:=h
  refine⟨_,(af (aC (i:=3) gv.nd rfl (Or.inl rfl) (dr (pv 0) T.aD T.d4 aO.g (hr.mono (by decide)) aO.b .nil (Passes.x (gI λ_ _ _ q=>q)) (aa (pv 1) ah)))
   (af (fW (PW.pt (pw_or (aW hW (aL cw.g (hr.mono (by decide)) rfl T.iB T.fG cw.b .nil (Passes.x (gI λ_ _ _ q=>q)) (aa (pv 3) ah)) (pv 2) (by with_unfolding_all rfl)) (pw_or1 (aW nz (cn dw (pv 3) ai (λ_ _=>rfl)) ai (bT _)))))
    (ak (jV rfl qv (qw T.fq aq.g (hr.mono (by decide)) rfl T.fm aq.b (Passes.x (gI λ_ _ _ q=>q)) (aa (m9 (dR jF (dR (nI (pv 1)) m8))) ah))))
    cH)
   (af (bL (aL bg.g (hr.mono (by decide)) rfl T.gq T.c6 bg.b .nil (Passes.x (gI λ_ _ _ q=>q)) (aa (pv 0) (aa (pv 1) (aa (cn dw (pv 3) ai (λ_ _=>rfl)) ah)))))
   (ak (bA (cn dw (pv 3) ai (λ_ _=>rfl))))))),?_⟩
  refine⟨_,rfl,m,_,_,rfl,M.i,(by kernel_rfl),_,rfl,m,mx,c,xs,ws,a,rfl,M,ha,?_⟩;by_cases g:0≤a∧a<(ws.length:Int)
  ·rw[if_pos g]
   intro v wd hv hw mv;refine⟨_,rfl,v,wd,rfl,mv,_,rfl,kd,_,rfl,.inr (SqT.of hkd),rfl,rfl,_,rfl,?_⟩;have nh:(∀ t n,wd≠.hd t n)→thg ws a=none:=λh=>by
    unfold thg;rw[if_pos g.1,hw];cases wd with
    | hd t n=>exact absurd rfl (h t n)
    | _=>rfl
   have bad:(∀ t n,wd≠.hd t n)→(!inV (V.str wd.kind) [V.str "head"])=true:=λh=>by
    cases wd with
    | hd t n=>exact absurd rfl (h t n)
    | _=>kernel_rfl
   by_cases hh:∃ t n,wd=.hd t n
   ·obtain⟨t,n,rfl⟩:=hh
    have hn:=gm.hd t n (Ct hw);obtain⟨_,p,rfl,hp⟩:=mv.resolve_left (λz=>by cases z.1);refine dO (by kernel_rfl) ⟨_,rfl,p,_,2,.int n,rfl,rfl,SqT.of hp,rfl,n,0,rfl,rfl,_,rfl,dO (decide_eq_false (by omega)) ?_⟩;refine⟨_,rfl,_,rfl,_,rfl,p,_,2,.int n,rfl,rfl,SqT.of hp,rfl,m,mx,c,xs,ws,a,n,rfl,M,ha,Sm.of (by omega) (by omega),?_⟩;by_cases l:a+n<(ws.length:Int)
    ·rw[if_pos ⟨g.1,l⟩]
     rw[show thg ws a=some (t,n) by unfold thg;rw[if_pos g.1,hw];exact if_pos l]at k;exact⟨_,rfl,p,_,2,.int n,rfl,rfl,SqT.of hp,rfl,k⟩
    ·rw[if_neg (λz=>l z.2)]
     rw[show thg ws a=none by unfold thg;rw[if_pos g.1,hw];exact if_neg l]at k;exact k
   ·have h:∀ t n,wd≠.hd t n:=λt n e=>hh ⟨t,n,e⟩
    rw[nh h]at k;exact d6 (bad h) (vb ⟨_,rfl,a,rfl,ha,λy hy ea hea=>fH T.cO (λ_ q=>q) k ea hea⟩)
  ·rw[if_neg g]
   have:thg ws a=none:=by
    unfold thg;by_cases h0:0≤a
    ·rw[if_pos h0,List.getElem?_eq_none_iff.mpr (by omega)]
    ·rw[if_neg h0]
   rw[this]at k;exact k
def uo(D:Ad):Sp:=λvs H Q E=>∃ m mx c xs ws,∃ a:Int,vs=[.ref m,.int a]∧Mm D H m mx c xs ws∧Gm ws∧Sm a∧(match thg ws a with|some (_,n)=>∀ H',au H H'→Q (.int n) H'|none=>Bad D.ax H E)
abbrev n6:List Str:=["memory", "a"]
theorem mn:aG n6 ["memory", "a"] (aj gx):=⟨rfl,rfl,rfl,by decide +kernel,rfl,by decide +kernel,by decide +kernel⟩
theorem mq(F:Fun K "fields_at" "fields_at" gx D.bO D.dM)(T:Txt K mg D)
  (dC:Ok P w K mg base 5 D.aZ D.cI ["memory", "a", "kinds"] (pz D)):Ok P w K mg base 6 D.bO D.dM ["memory", "a"] (uo D):=by
 refine⟨?_,F.binds (ps:=["memory", "a"]) λ_ _ _ _ _ _ us hl=>match us,hl with|[_,_],_=>rfl⟩
 refine F.okE mn (λvs H Q E h=>?_) (λcdv A' outer s' H vs Q E hr h=>?_)
 ·obtain⟨m,mx,c,xs,ws,a,rfl,_⟩:=h
  rfl
 ·obtain⟨m,mx,c,xs,ws,a,rfl,M,gm,ha,k⟩:=h
  refine⟨_,(ak (bA (aL dC.g (hr.mono (by decide)) rfl T.ke T.ft dC.b .nil (Passes.x (gI λ_ _ _ q=>q)) (aa (pv 0) (aa (pv 1) (aa (cT (aa dX ah)) ah)))))),?_⟩;refine⟨_,rfl,_,rfl,by show 1≤sizeLine;decide,λkd hkd=>?_⟩;have s1:=au.upd (o:=.tup [V.str "head"]) hkd;refine⟨m,mx,c,xs,ws,a,kd,rfl,M.same s1,gm,ha,ab,?_⟩;cases e:thg ws a with
  | none=>rw[e]at k;exact k.same s1
  | some z=>rw[e]at k;exact k _ s1
def uq(D:Ad):Sp:=λvs H Q E=>∃ m mx c xs ws,∃ a:Int,vs=[.ref m,.int a]∧Mm D H m mx c xs ws∧Gm ws∧Sm a∧(match thg ws a with|some (t,n)=>∀ p l ys H',au H H'→H l=none→H' p=some (.tup [.int t,.ref l])→H' l=some (.lst ys)→MR H' ys (i3 ws a.toNat n.toNat)→Q (.ref p) H'|none=>Bad D.ax H E)
abbrev jP:List Str:=["memory", "a", "fields"]
theorem iM:aG jP ["memory", "a"] (aj fX):=⟨rfl,rfl,rfl,by decide +kernel,rfl,by decide +kernel,by decide +kernel⟩
theorem n8(F:Fun K "thing_at" "thing_at" fX D.cf D.eN)(T:Txt K mg D)
  (fc:Ok P w K mg base 6 D.bO D.dM ["memory", "a"] (uo D))
  (aO:Ok P w K mg base 4 D.bE D.cA ["self", "a"] (nO D)):Ok P w K mg base 7 D.cf D.eN ["memory", "a"] (uq D):=by
 refine⟨?_,F.binds (ps:=["memory", "a"]) λ_ _ _ _ _ _ us hl=>match us,hl with|[_,_],_=>rfl⟩
 refine F.okE iM (λvs H Q E h=>?_) (λcdv A' outer s' H vs Q E hr h=>?_)
 ·obtain⟨m,mx,c,xs,ws,a,rfl,_⟩:=h
  rfl
 ·obtain⟨m,mx,c,xs,ws,a,rfl,M,gm,ha,k⟩:=h
  refine⟨_,(af (aC (i:=2) iM.nd rfl (Or.inl rfl) (aL fc.g (hr.mono (by decide)) rfl T.nZ T.gB fc.b .nil (Passes.x (gI λ_ _ _ q=>q)) (aa (pv 0) (aa (pv 1) ah))))
   (ak (bA (cT (aa (cn dw (dr (pv 0) T.aD T.d4 aO.g (hr.mono (by decide)) aO.b .nil (Passes.x (gI λ_ _ _ q=>q)) (aa (pv 1) ah)) ai (λ_ _=>rfl)) (aa (gb (cl:=[("memory",s'.heap.objs.size+1),("a",s'.heap.objs.size+2)]) (x := "k") (idx:=[1,0]) (NC:=["k", "a", "memory"]) ?co1 rfl (dJ rfl T.dS (aa (pv 2) ah)) (λC fp s₀ H₀=>(dr (pv 2) T.aD T.d4 aO.g (hr.mono (by decide)) aO.b .nil nM (aa (aw aS (aw aS (pv 1) ai) (pv 0)) ah)))) ah)))))),?_⟩
  case co1 =>
   exact du (sc:=aj fX) (N:=jP) (ns:=["memory", "a"]) rfl rfl rfl (by decide +kernel) rfl rfl (by
    intro q hq;rcases Cw.mp hq with rfl|hq
    ·rfl
    rw[Cf.mp hq];rfl)
  have el:=M.r.1;refine⟨_,rfl,_,rfl,m,mx,c,xs,ws,a,rfl,M,gm,ha,?_⟩;cases e:thg ws a with
  | none=>rw[e]at k;exact k
  | some z =>
   obtain⟨t,n⟩:=z;rw[e]at k;obtain⟨a0,hw,al⟩:=j2 e;have hn:=gm.hd t n (Ct hw);intro H1 s1;have M1:=M.same s1;refine⟨_,rfl,m,_,_,rfl,M1.i,(by kernel_rfl),_,rfl,m,mx,c,xs,ws,a,rfl,M1,ha,?_⟩;rw[if_pos ⟨a0,by omega⟩];intro v w2 hv hw2 mv;rw[hw]at hw2;cases hw2;obtain⟨_,p,rfl,hp⟩:=mv.resolve_left (λz=>by cases z.1);have z:=M.z;obtain⟨n,rfl⟩:∃ j:Nat,n=(j:Int):=⟨n.toNat,by omega⟩;simp only[Int.toNat_natCast]at k;refine⟨p,_,1,.int t,rfl,rfl,SqT.of hp,rfl,_,rfl,n,rfl,by omega,by omega,λL hL=>?_⟩;refine eM (lo:=0) (n:=n) (λi ys Hc=>ys=(xs.drop (a.toNat+1)).take i∧au H1 Hc∧Hc L=some (.lst ys)) ⟨rfl,au.upd hL,ab⟩ (λi ys Hc hi ⟨e,_,z⟩=>⟨z,by rw[e,CA,Di];omega⟩) (by exact CK (show n≤10000 by omega) (by decide)) (λi ys Hc hi ⟨e,sc,z⟩=>?_) (λys Hc ⟨e,sc,z⟩=>?_)
   ·have M2:=M1.same sc
    have hx:ws[(a+1+(0+(i:Int))).toNat]?=some (ws[(a+1+(0+(i:Int))).toNat]'(by omega)):=Cc _;refine⟨_,rfl,m,_,_,rfl,M2.i,(by kernel_rfl),_,rfl,a,1,rfl,rfl,_,rfl,_,_,rfl,rfl,m,mx,c,xs,ws,_,rfl,M2,Sm.of (by omega) (by omega),?_⟩;rw[if_pos ⟨by omega,by omega⟩];intro v w2 hv2 _ _;refine⟨z,?_,λb u q=>by rw[ag (ae q hL)];exact sc b u q,ab⟩;have hd:(xs.drop (a.toNat+1))[i]?=some v:=by
     rw[Dw,←hv2];congr 1
     omega
    rw[e,List.take_succ,hd];rfl
   ·refine⟨by show 2≤sizeLine;decide,λq hq=>?_⟩
    have s3:=au.upd (o:=.tup [V.int t,V.ref L]) hq;refine k q L _ _ ((s1.trans sc).trans s3) (au.none s1 hL) ab (by rw[s3 _ _ z,e]) ⟨by unfold i3;rw[CA,CA,Di,Di,el],λi v w2 g1 g2=>?_⟩;unfold i3 at g2;rw[Dx]at g1 g2;split at g1
    ·rename_i ci
     rw[if_pos ci,Dw]at g2;rw[Dw]at g1;exact(M.r.2 _ _ _ g1 g2).keep ((bN.of s1).trans ((bN.of sc).trans (bN.of s3)))
    ·cases g1
end
section
variable{P:Program}{w:World}{K:W.Frag}{mg:Str→Option Value}{base:Heap}{D:Ad}
theorem gT{n:Nat}(h:n≤20000):n<sizeLine:=Dv h (by decide)
theorem fN{n:Nat}(h:n≤20000):n≤sizeLine:=DJ (gT h)
theorem take_snoc{α:Type}{gs:List α}{i:Nat}{t:α}(e:gs[i]?=some t):gs.take (i+1)=gs.take i++[t]:=by rw[C9 (Cd.mp e).1,(Cd.mp e).2]
theorem pA{ws:List Mw}{a:Nat}{t:Int}{us:List Mw}:(layW ws a t us).length=ws.length:=by unfold layW;rw[iC,CS]
def Kys(kvs:List (Key×V))(ms:List Int):Prop:=kvs.map (·.1)=ms.map Sum.inl
theorem Kys.len{kvs:List (Key×V)}{ms:List Int}(k:Kys kvs ms):kvs.length=ms.length:=by have:=congrArg List.length k;simpa using this
theorem Kys.non{kvs:List (Key×V)}{ms:List Int}(k:Kys kvs ms){t:Int}(h:t∉ms):ff kvs (Sum.inl t)=none:=by
 induction kvs generalizing ms with
 | nil=>rfl
 | cons p r ih=>cases ms with
  | nil=>cases k
  | cons a ms =>
   unfold Kys at k;rw[CQ,CQ]at k;injection k with k1 k2;rw[bZ (λz=>h (by rw[←Sum.inl.inj (k1.symm.trans z)];exact Co))];exact ih k2 λz=>h (Cm _ z)
structure Dg(kvs:List (Key×V))(ms:List Int)(g:Int→Int):Prop where
 k:Kys kvs ms
 n:ms.Nodup
 v:∀ t∈ms,ff kvs (Sum.inl t)=some (.int (g t))
theorem Dg.nil{g:Int→Int}:Dg [] [] g:=⟨rfl,DK,λt m=>nomatch m⟩
theorem rU{kvs:List (Key×V)}{ms:List Int}{t:Int}{v:V}(k:Kys kvs ms)(h:t∈ms):Kys (putK kvs (Sum.inl t) v) ms:=by
 unfold Kys at k ⊢;rw[←k];have hs:(kvs.any λkv=>decide (kv.1=(Sum.inl t:Key)))=true:=by
  have m:(Sum.inl t:Key)∈kvs.map (·.1):=by rw[k];exact C8.mpr ⟨t,h,rfl⟩
  obtain⟨p,mp,e⟩:=C8.mp m;exact List.any_eq_true.mpr ⟨p,mp,decide_eq_true e⟩
 unfold putK;rw[if_pos hs,List.map_map];refine List.map_congr_left λp _=>?_;show(if p.1=Sum.inl t then(p.1,v) else p).1=p.1;split<;>rfl
theorem Dg.put{kvs:List (Key×V)}{ms:List Int}{g:Int→Int}(d:Dg kvs ms g){t:Int}:∃ ms',Dg (putK kvs (Sum.inl t) (.int (g t))) ms' g∧(∀ u,u∈ms'↔u∈ms∨u=t)∧ms'.length≤ms.length+1:=by
 by_cases c:t∈ms
 ·refine⟨ms,⟨rU d.k c,d.n,λu m=>?_⟩,λu=>⟨.inl,λz=>z.elim id λe=>by rw[e];exact c⟩,Ds _⟩
  by_cases e:u=t
  ·subst e;rw[cG,if_pos rfl]
  ·rw[cG,if_neg (λz=>e (Sum.inl.inj z))];exact d.v u m
 ·refine⟨ms++[t],⟨?_,?_,λu m=>?_⟩,λu=>by rw[Cy,Cf],by rw[Cs];exact Cg _⟩
  ·rw[ie _ (d.k.non c)]
   have:=d.k
   unfold Kys at this ⊢;rw[CF,CF,this];rfl
  ·rw[C5]
   exact⟨d.n,by simp,λa ha b hb=>by rw[Cf.mp hb];exact λe=>c (by rw[←e];exact ha)⟩
  ·by_cases e:u=t
   ·subst e;rw[cG,if_pos rfl]
   ·rw[cG,if_neg (λz=>e (Sum.inl.inj z))];exact d.v u ((Cy.mp m).resolve_right λz=>e (Cf.mp z))
theorem ur{X:Cx}{st:Stmt}:PS X st (λ_ _ _=>False):=λ_ _ _ _ _ _ h=>h.elim
def Mw.adr:Mw→Option Int
 | .ad a=>some a
 | _=>none
theorem pB{w:Mw}{a:Int}(h:w.adr=some a):w=.ad a:=by
 cases w with
 | ad b=>cases h;rfl
 | _=>cases h
def h7(acc:List Int)(w:Mw):List Int:=match w.adr with
 | some a=>if a∈acc then acc else acc++[a]
 | none=>acc
def addW:List Int→List Mw→List Int
 | acc,[]=>acc
 | acc,w::r=>addW (h7 acc w) r
theorem j5{acc:List Int}{a:Int}(h:a∉acc):h7 acc (.ad a)=acc++[a]:=if_neg h
theorem j6{acc:List Int}{a:Int}(h:a∈acc):h7 acc (.ad a)=acc:=if_pos h
theorem qS{acc:List Int}{w:Mw}(h:w.adr=none):h7 acc w=acc:=by unfold h7;rw[h]
theorem dU(acc:List Int)(u v:List Mw):addW acc (u++v)=addW (addW acc u) v:=by
 induction u generalizing acc with
 | nil=>rfl
 | cons w r ih=>exact ih _
theorem gG(acc:List Int)(w:Mw):addW acc [w]=h7 acc w:=rfl
theorem tJ(acc:List Int)(w:Mw):acc <+: h7 acc w:=by
 unfold h7;cases w.adr with
 | none=>exact DP _
 | some a =>
  show acc <+: if a∈acc then acc else acc++[a];split
  ·exact DP _
  ·exact List.prefix_append _ _
theorem j7(acc:List Int)(u:List Mw):acc <+: addW acc u:=by
 induction u generalizing acc with
 | nil=>exact DP _
 | cons w r ih=>exact(tJ acc w).trans (ih _)
theorem vw{acc:List Int}{w:Mw}(h:acc.Nodup):(h7 acc w).Nodup:=by
 unfold h7;cases w.adr with
 | none=>exact h
 | some a =>
  show(if a∈acc then acc else acc++[a]).Nodup;split
  ·exact h
  ·rename_i n
   rw[C5];exact⟨h,by simp,λx hx y hy=>by rw[Cf.mp hy];exact λe=>n (by rw[←e];exact hx)⟩
theorem qT{acc:List Int}{u:List Mw}(h:acc.Nodup):(addW acc u).Nodup:=by
 induction u generalizing acc with
 | nil=>exact h
 | cons w r ih=>exact ih (vw h)
theorem tK{acc:List Int}{w:Mw}{a:Int}:a∈h7 acc w↔a∈acc∨w=.ad a:=by
 cases w with
 | ad b =>
  by_cases c:b∈acc
  ·rw[j6 c]
   exact⟨.inl,λz=>z.elim id λe=>by cases e;exact c⟩
  ·rw[j5 c,Cy,Cf]
   exact⟨λz=>z.elim .inl λe=>.inr (by rw[e]),λz=>z.elim .inl λe=>by cases e;exact .inr rfl⟩
 | _=>exact⟨.inl,λz=>z.elim id λe=>by cases e⟩
theorem pD{acc:List Int}{u:List Mw}{a:Int}:a∈addW acc u↔a∈acc∨Mw.ad a∈u:=by
 induction u generalizing acc with
 | nil=>exact⟨.inl,λz=>z.elim id λe=>nomatch e⟩
 | cons w r ih =>
  show a∈addW (h7 acc w) r↔_;rw[ih,tK,Cw];constructor
  ·rintro((h|h)|h)
   ·exact .inl h
   ·exact .inr (.inl h.symm)
   ·exact .inr (.inr h)
  ·rintro(h|h|h)
   ·exact .inl (.inl h)
   ·exact .inl (.inr h.symm)
   ·exact .inr h
def Wl(rs:List Mw)(f:Int→List Mw)(R:List Int):List Mw:=rs++R.flatMap f
theorem jQ{rs:List Mw}{f:Int→List Mw}{R:List Int}{a:Int}:Wl rs f (R++[a])=Wl rs f R++f a:=by unfold Wl;rw[List.flatMap_append,DL];simp
structure Bfs(rs:List Mw)(f:Int→List Mw)(R:List Int):Prop where
 fx:R=addW [] (Wl rs f R)
 wf:∀ k,k<R.length→k<(addW [] (Wl rs f (R.take k))).length
theorem Bfs.pre{rs:List Mw}{f:Int→List Mw}{R:List Int}(h:Bfs rs f R)(k:Nat):addW [] (Wl rs f (R.take k)) <+: R:=by
 have e:Wl rs f R=Wl rs f (R.take k)++(R.drop k).flatMap f:=by
  unfold Wl;rw[DL,←List.flatMap_append,Dm]
 have:=j7 (addW [] (Wl rs f (R.take k))) ((R.drop k).flatMap f)
 rw[←dU,←e,←h.fx]at this;exact this
theorem Bfs.at{rs:List Mw}{f:Int→List Mw}{R:List Int}(h:Bfs rs f R){k:Nat}(hk:k<R.length):R[k]?=(addW [] (Wl rs f (R.take k)))[k]?:=by
 obtain⟨t,ht⟩:=h.pre k
 conv=>lhs;rw[←ht]
 rw[CM (h.wf k hk)]
theorem Bfs.uniq{rs:List Mw}{f:Int→List Mw}{R S:List Int}(h:Bfs rs f R)(g:Bfs rs f S):R=S:=by
 have tk:∀ k,k≤R.length→k≤S.length→R.take k=S.take k:=by
  intro k;induction k with
  | zero=>intro _ _;rfl
  | succ k ih =>
   intro h1 h2;have e:=ih (by omega) (by omega);rw[List.take_succ,List.take_succ,h.at (by omega),g.at (by omega),e]
 have le:∀ {R S:List Int},Bfs rs f R→Bfs rs f S→(∀ k,k≤R.length→k≤S.length→R.take k=S.take k)→¬R.length<S.length:=λ{R S} h g t c=>by
  have e:=t R.length (Cg _) (by omega);rw[Cp (Cg _)]at e
  have:=g.wf R.length c
  rw[←e,←h.fx]at this;omega
 have l1:=le h g tk;have l2:=le g h λk a b=>(tk k b a).symm;have e:=tk R.length (Cg _) (by omega);rw[Cp (Cg _),Cp (by omega)]at e;exact e
theorem Bfs.nd{rs:List Mw}{f:Int→List Mw}{R:List Int}(h:Bfs rs f R):R.Nodup:=by
 rw[h.fx];exact qT DK
theorem Bfs.mem{rs:List Mw}{f:Int→List Mw}{R:List Int}(h:Bfs rs f R){a:Int}(m:Mw.ad a∈Wl rs f R):a∈R:=by
 rw[h.fx];exact pD.mpr (.inr m)
structure Pg(rs:List Mw)(f:Int→List Mw)(th:List Int)(d:Nat):Prop where
 e:th=addW [] ((Wl rs f th).take d)
 le:d≤(Wl rs f th).length
 wf:∀ k,k<th.length→k<(addW [] (Wl rs f (th.take k))).length
theorem Pg.nil{rs:List Mw}{f:Int→List Mw}:Pg rs f [] 0:=⟨rfl,CG _,λk h=>nomatch h⟩
theorem aR{α:Type}{gs:List α}{i:Nat}{t:α}(e:gs[i]?=some t):gs.take (i+1)=gs.take i++[t]:=by rw[C9 (Cd.mp e).1,(Cd.mp e).2]
theorem Pg.old{rs:List Mw}{f:Int→List Mw}{th:List Int}{d:Nat}{w:Mw}(h:Pg rs f th d)(hw:(Wl rs f th)[d]?=some w)(o:h7 th w=th):Pg rs f th (d+1):=by
 refine⟨?_,(Cd.mp hw).1,h.wf⟩;rw[aR hw,dU,←h.e,gG,o]
theorem Pg.new{rs:List Mw}{f:Int→List Mw}{th:List Int}{d:Nat}{a:Int}(h:Pg rs f th d)(hw:(Wl rs f th)[d]?=some (.ad a))(n:a∉th):Pg rs f (th++[a]) (d+1):=by
 have hd:=(Cd.mp hw).1;have e1:addW [] ((Wl rs f th).take (d+1))=th++[a]:=by rw[aR hw,dU,←h.e,gG,j5 n]
 refine⟨?_,by rw[jQ,Cs];omega,λk hk=>?_⟩
 ·rw[jQ,C3 hd,e1]
 ·rw[Cs,C1]at hk
  by_cases c:k<th.length
  ·rw[C3 (by omega)]
   exact h.wf k c
  ·have ek:k=th.length:=by omega
   subst ek;rw[C3 (Cg _),Cp (Cg _)];have p:=j7 (addW [] ((Wl rs f th).take (d+1))) ((Wl rs f th).drop (d+1));rw[←dU,Dm,e1]at p
   have:=p.length_le
   rw[Cs,C1]at this;omega
theorem Pg.done{rs:List Mw}{f:Int→List Mw}{th:List Int}{d:Nat}(h:Pg rs f th d)(e:(Wl rs f th).length≤d):Bfs rs f th:=by
 refine⟨?_,h.wf⟩
 have:=h.e
 rw[Cp e]at this;exact this
structure Lw(rs:List Mw)(f:Int→List Mw)(row:List Int)(p:Nat):Prop where
 e:row=addW [] (Wl rs f (row.take p))
 le:p≤row.length
 wf:∀ k,k<p→k<(addW [] (Wl rs f (row.take k))).length
theorem Lw.start{rs:List Mw}{f:Int→List Mw}:Lw rs f (addW [] rs) 0:=⟨by unfold Wl;simp,CG _,λk h=>nomatch h⟩
theorem Lw.step{rs:List Mw}{f:Int→List Mw}{row:List Int}{p:Nat}{a:Int}(h:Lw rs f row p)(hp:row[p]?=some a):Lw rs f (addW row (f a)) (p+1):=by
 have hl:=(Cd.mp hp).1;obtain⟨t,ht⟩:=j7 row (f a);have tk:∀ k,k≤p+1→(addW row (f a)).take k=row.take k:=λk hk=>by rw[←ht,C3 (by omega)]
 refine⟨?_,by rw[←ht,Cs];omega,λk hk=>?_⟩
 ·rw[tk _ (Cg _),aR hp,jQ,dU,←h.e]
 ·rw[tk k (by omega)]
  by_cases c:k<p
  ·exact h.wf k c
  ·have ek:k=p:=by omega
   subst ek;rw[←h.e];exact hl
theorem Lw.done{rs:List Mw}{f:Int→List Mw}{row:List Int}{p:Nat}(h:Lw rs f row p)(e:row.length≤p):Bfs rs f row:=by
 have hp:p=row.length:=Nat.le_antisymm h.le e;subst hp;refine⟨?_,h.wf⟩
 have:=h.e
 rw[Cp (Cg _)]at this;exact this
def tot(f:Int→List Mw):List Int→Nat
 | []=>0
 | a::r=>(f a).length+1+tot f r
theorem qU(f:Int→List Mw)(u v:List Int):tot f (u++v)=tot f u+tot f v:=by
 induction u with
 | nil=>simp[tot]
 | cons a r ih=>show(f a).length+1+tot f (r++v)=(f a).length+1+tot f r+tot f v;rw[ih];omega
theorem pE(f:Int→List Mw)(u:List Int)(a:Int):tot f (u++[a])=tot f u+((f a).length+1):=by rw[qU];rfl
def plA(f:Int→List Mw):Int→List Int→Int→Int
 | p,[],_=>p
 | p,b::r,a=>if a=b then p else plA f (p+(f b).length+1) r a
theorem xn{f:Int→List Mw}{u v:List Int}{a:Int}{p:Int}(h:a∉u):plA f p (u++a::v) a=p+tot f u:=by
 induction u generalizing p with
 | nil=>show(if a=a then p else _)=_;rw[if_pos rfl];simp[tot]
 | cons b r ih =>
  show(if a=b then p else plA f (p+(f b).length+1) (r++a::v) a)=_;rw[if_neg (λe=>h (by rw[e];exact Co)),ih λm=>h (Cm _ m)];show _=p+(((f b).length+1+tot f r:Nat):Int)
  push_cast
  omega
theorem j8{R:List Int}{i:Nat}{a:Int}(h:R[i]?=some a):R=R.take i++a::R.drop (i+1):=by
 have hi:=(Cd.mp h).1;have e:=(Cd.mp h).2;rw[←e,←List.drop_eq_getElem_cons hi,Dm]
theorem qV{R:List Int}{i:Nat}{a:Int}(nd:R.Nodup)(h:R[i]?=some a):a∉R.take i:=λm=>by
 rw[j8 h,C5]at nd;exact nd.2.2 a m a Co rfl
theorem qB{f:Int→List Mw}{R:List Int}{i:Nat}{a p:Int}(nd:R.Nodup)(h:R[i]?=some a):plA f p R a=p+tot f (R.take i):=by
 conv=>lhs;rw[j8 h]
 exact xn (qV nd h)
theorem tL{f:Int→List Mw}{R:List Int}{i:Nat}{a:Int}(h:R[i]?=some a):tot f (R.take i)+((f a).length+1)≤tot f R:=by
 have e:=congrArg (tot f) (j8 h);rw[qU]at e
 have:tot f (a::R.drop (i+1))=(f a).length+1+tot f (R.drop (i+1)):=rfl
 omega
def anew(g:Int→Int):Mw→Mw
 | .ad a=>.ad (g a)
 | w=>w
def Okw(w:Mw):Prop:=w=.no∨(∃ n,w=.num n)∨∃ a,w=.ad a∧Sm a
def pF(f:Int→List Mw)(g:Int→Int):List Mw→List Int→List Mw
 | ws,[]=>ws
 | ws,a::r=>pF f g (ws.set a.toNat (.mv (g a) (f a).length)) r
def sM(f:Int→List Mw)(g tt:Int→Int):List Mw→List Int→List Mw
 | ws,[]=>ws
 | ws,a::r=>sM f g tt (layW ws (g a).toNat (tt a) ((f a).map (anew g))) r
theorem rV(f:Int→List Mw)(g:Int→Int)(ws:List Mw)(u:List Int)(a:Int):pF f g ws (u++[a])=(pF f g ws u).set a.toNat (.mv (g a) (f a).length):=by
 induction u generalizing ws with
 | nil=>rfl
 | cons b r ih=>exact ih _
theorem rW(f:Int→List Mw)(g tt:Int→Int)(ws:List Mw)(u:List Int)(a:Int):sM f g tt ws (u++[a])=layW (sM f g tt ws u) (g a).toNat (tt a) ((f a).map (anew g)):=by
 induction u generalizing ws with
 | nil=>rfl
 | cons b r ih=>exact ih _
theorem tM(f:Int→List Mw)(g:Int→Int)(ws:List Mw)(u:List Int):(pF f g ws u).length=ws.length:=by
 induction u generalizing ws with
 | nil=>rfl
 | cons b r ih=>show(pF f g _ r).length=_;rw[ih,CS]
theorem tN(f:Int→List Mw)(g tt:Int→Int)(ws:List Mw)(u:List Int):(sM f g tt ws u).length=ws.length:=by
 induction u generalizing ws with
 | nil=>rfl
 | cons b r ih=>show(sM f g tt _ r).length=_;rw[ih,pA]
theorem i4:∀ {R B:List Int},R.Nodup→(∀ a∈R,a∈B)→R.length≤B.length
 | [],_,_,_=>CG _
 | a::r,B,nd,h=>by
  rw[Dk]at nd;have ha:=h a Co;have e:=i4 (R:=r) (B:=B.erase a) nd.2 λb m=>(List.mem_erase_of_ne (λz=>nd.1 (by rw[←z];exact m))).mpr (h b (Cm _ m));rw[List.length_erase_of_mem ha]at e
  have:=List.length_pos_of_mem ha
  rw[CI];omega
theorem xo{rs:List Mw}{f:Int→List Mw}{R:List Int}(h:∀ a∈R,(f a).length≤6):(Wl rs f R).length≤rs.length+6*R.length:=by
 unfold Wl;rw[Cs]
 have:(R.flatMap f).length≤6*R.length:=by
  induction R with
  | nil=>simp
  | cons a r ih =>
   have h1:=h a Co;have h2:=ih λb m=>h b (Cm _ m);rw[List.flatMap_cons,Cs,CI];omega
 omega
theorem qW{f:Int→List Mw}{R:List Int}(h:∀ a∈R,(f a).length≤6):tot f R≤7*R.length:=by
 induction R with
 | nil=>exact CG _
 | cons a r ih =>
  have h1:=h a Co;have h2:=ih λb m=>h b (Cm _ m);rw[CI];show(f a).length+1+tot f r≤_;omega
structure Src(ws rs:List Mw)(f:Int→List Mw)(tt:Int→Int)(B:List Int):Prop where
 rl:rs.length≤9
 ro:∀ w∈rs,Okw w
 rb:∀ a,Mw.ad a∈rs→a∈B
 bl:B.length≤10
 th:∀ a∈B,thg ws a=some (tt a,((f a).length:Int))∧i3 ws a.toNat (f a).length=f a
 fl:∀ a∈B,(f a).length≤6
 fo:∀ a∈B,∀ w∈f a,Okw w
 fb:∀ a∈B,∀ b,Mw.ad b∈f a→b∈B
theorem Src.ok{ws rs:List Mw}{f:Int→List Mw}{tt:Int→Int}{B R:List Int}(S:Src ws rs f tt B)(h:∀ a∈R,a∈B){w:Mw}(m:w∈Wl rs f R):Okw w∧∀ a,w=.ad a→a∈B:=by
 rcases Cy.mp m with m|m
 ·exact⟨S.ro w m,λa e=>S.rb a (by rw[←e];exact m)⟩
 ·obtain⟨b,mb,m⟩:=List.mem_flatMap.mp m
  exact⟨S.fo b (h b mb) w m,λa e=>S.fb b (h b mb) a (by rw[←e];exact m)⟩
structure Dth(H0 H:Hp)(kvs:List (Key×V))(R:List Int)(f:Int→List Mw)(tt:Int→Int):Prop where
 k:Kys kvs R
 n:R.Nodup
 v:∀ a∈R,∃ p l ys,ff kvs (Sum.inl a)=some (.ref p)∧H p=some (.tup [.int (tt a),.ref l])∧H0 l=none∧H l=some (.lst ys)∧MR H ys (f a)
theorem Dth.nil{H0 H:Hp}{f:Int→List Mw}{tt:Int→Int}:Dth H0 H [] [] f tt:=⟨rfl,DK,λa m=>nomatch m⟩
def Kp(H0 H H':Hp):Prop:=(∀ b xs,H0 b=none→H b=some (.lst xs)→H' b=some (.lst xs))∧∀ b us,H b=some (.tup us)→H' b=some (.tup us)
theorem Kp.of{H0 H H':Hp}(s:au H H'):Kp H0 H H':=⟨λb u _ q=>s b _ q,λb us q=>s b _ q⟩
theorem Kp.frz{H0 H:Hp}{d:Addr}{kvs:List (Key×V)}{o:HO}(h:H d=some (.dK kvs)):Kp H0 H (upd H d o):=⟨λb u _ q=>by rw[ag (bo q h (by intro z;cases z))];exact q,λb us q=>by rw[ag (bo q h (by intro z;cases z))];exact q⟩
theorem Kp.set{H0 H:Hp}{c:Addr}{o o0 o1:HO}(h0:H0 c=some o0)(h1:H c=some o1)(n:∀ us,o1≠.tup us):Kp H0 H (upd H c o) :=
 ⟨λb u e q=>by rw[ag (λz=>by rw[z,h0]at e;cases e)];exact q,λb us q=>by rw[ag (λz=>by rw[z,h1]at q;exact n us (CC q))];exact q⟩
theorem Dth.keep{H0 H H':Hp}{kvs:List (Key×V)}{R:List Int}{f:Int→List Mw}{tt:Int→Int}(d:Dth H0 H kvs R f tt)(s:Kp H0 H H'):Dth H0 H' kvs R f tt :=
 ⟨d.k,d.n,λa m=>by obtain⟨p,l,ys,h1,h2,h3,h4,h5⟩:=d.v a m;exact⟨p,l,ys,h1,s.2 _ _ h2,h3,s.1 _ _ h3 h4,h5.keep s.2⟩⟩
theorem Dth.low{H0 H1 H:Hp}{kvs:List (Key×V)}{R:List Int}{f:Int→List Mw}{tt:Int→Int}(d:Dth H1 H kvs R f tt)(s:au H0 H1):Dth H0 H kvs R f tt :=
 ⟨d.k,d.n,λa m=>by obtain⟨p,l,ys,h1,h2,h3,h4,h5⟩:=d.v a m;exact⟨p,l,ys,h1,h2,au.none s h3,h4,h5⟩⟩
theorem Dth.put{H0 H:Hp}{kvs:List (Key×V)}{R:List Int}{f:Int→List Mw}{tt:Int→Int}{a:Int}{p l:Addr}{ys:List V}(d:Dth H0 H kvs R f tt)(n:a∉R)(h2:H p=some (.tup [.int (tt a),.ref l]))(h3:H0 l=none)(h4:H l=some (.lst ys))(h5:MR H ys (f a)):Dth H0 H (putK kvs (Sum.inl a) (.ref p)) (R++[a]) f tt:=by
 refine⟨?_,?_,λb m=>?_⟩
 ·rw[ie _ (d.k.non n)]
  have:=d.k
  unfold Kys at this ⊢;rw[CF,CF,this];rfl
 ·rw[C5]
  exact⟨d.n,by simp,λx hx y hy=>by rw[Cf.mp hy];exact λe=>n (by rw[←e];exact hx)⟩
 ·by_cases e:b=a
  ·subst e
   exact⟨p,l,ys,by rw[cG,if_pos rfl],h2,h3,h4,h5⟩
  ·obtain⟨p',l',ys',g1,g⟩:=d.v b ((Cy.mp m).resolve_right λz=>e (Cf.mp z))
   exact⟨p',l',ys',by rw[cG,if_neg (λz=>e (Sum.inl.inj z))];exact g1,g⟩
theorem MR.app{H:Hp}{xs ys:List V}{us ws:List Mw}(a:MR H xs us)(b:MR H ys ws):MR H (xs++ys) (us++ws):=by
 refine⟨by rw[Cs,Cs,a.1,b.1],λi v w h1 h2=>?_⟩;by_cases c:i<xs.length
 ·rw[CM c]at h1
  rw[CM (by rw[←a.1];exact c)]at h2;exact a.2 i v w h1 h2
 ·rw[CO (by omega)]at h1
  rw[CO (by rw[←a.1];omega),←a.1]at h2;exact b.2 _ v w h1 h2
theorem MR.snoc{H:Hp}{xs:List V}{us:List Mw}{v:V}{w:Mw}(a:MR H xs us)(b:MV H v w):MR H (xs++[v]) (us++[w]):=a.app ⟨rfl,λi x y h1 h2=>by
 cases i with
 | zero=>cases h1;cases h2;exact b
 | succ i=>cases h1⟩
def adV(w:Mw):V:=match w.adr with|some a=>.int a|none=>.non
def qC:Sp:=λvs H Q _=>∃ v w,vs=[v]∧MV H v w∧Okw w∧∀ H',au H H'→Q (adV w) H'
abbrev jd:List Str:=["word"]
theorem iT:aG jd ["word"] (aj eA):=⟨rfl,rfl,rfl,by decide +kernel,rfl,by decide +kernel,by decide +kernel⟩
theorem iU(F:Fun K "address_told" "address_told" eA D.aQ D.bW)(T:Txt K mg D)
  (cw:Ok P w K mg base 1 D.cv D.eF ["value"] (qA)):Ok P w K mg base 2 D.aQ D.bW ["word"] (qC):=by
 refine⟨?_,F.binds (ps:=["word"]) λ_ _ _ _ _ _ us hl=>match us,hl with|[_],_=>rfl⟩
 refine F.okE iT (λvs H Q E h=>?_) (λcdv A' outer s' H vs Q E hr h=>?_)
 ·obtain⟨v,w,rfl,_⟩:=h
  rfl
 ·obtain⟨v,w,rfl,hv,ok,k⟩:=h
  refine⟨_,(PSs.nox (af (fW (aW rA (aL cw.g (hr.mono (by decide)) rfl T.iB T.fG cw.b .nil cq (aa (pv 0) ah)) (cT (aa dX (aa dX ah))) (by with_unfolding_all rfl))
    (ak (bA ib))
    cH)
   (af (fW (aW ze (aL cw.g (hr.mono (by decide)) rfl T.iB T.fG cw.b .nil cq (aa (pv 0) ah)) dX (bT _))
    (ak ur)
    cH)
   (ak (bA (cn dw (pv 0) ai (λ_ _=>rfl))))))),?_⟩
  refine⟨_,rfl,v,w,rfl,hv,by show 2≤sizeLine;decide,λp hp=>?_⟩;have s1:=au.upd (o:=.tup [V.str "none",V.str "number"]) hp;refine⟨p,_,rfl,.inr (SqT.of ab),rfl,rfl,_,rfl,?_⟩;rcases ok with rfl|⟨n,rfl⟩|⟨a,rfl,sa⟩
  ·exact d6 (by kernel_rfl) (k _ s1)
  ·exact d6 (by kernel_rfl) (k _ s1)
  ·obtain⟨_,q,rfl,hq⟩:=hv.resolve_left (λz=>by cases z.1)
   refine dO (by kernel_rfl) ⟨_,rfl,_,.ad a,rfl,.inr ⟨(by intro z;cases z),q,rfl,s1 _ _ hq⟩,rfl,_,rfl,dO (by kernel_rfl) ?_⟩;exact⟨_,rfl,q,_,1,.int a,rfl,rfl,SqT.of (s1 _ _ hq),rfl,k _ s1⟩
def uu(D:Ad):Sp:=λvs H Q _=>∃ m mx c xs ws,∃(l:Addr) (ys:List V) (rs:List Mw) (f:Int→List Mw) (tt:Int→Int) (B:List Int),vs=[.ref m,.ref l]∧Mm D H m mx c xs ws∧Gm ws∧H l=some (.lst ys)∧MR H ys rs∧Src ws rs f tt B∧∀ d kvs R H',Bfs rs f R→(∀ a∈R,a∈B)→au H H'→H d=none→H' d=some (.dK kvs)→Dth H H' kvs R f tt→Q (.ref d) H'
abbrev mr:List Str:=["source", "roots", "things", "words", "done", "a"]
theorem cm:aG mr ["source", "roots"] (aj fO):=⟨rfl,rfl,rfl,by decide +kernel,rfl,by decide +kernel,by decide +kernel⟩
theorem kq(F:Fun K "things_met" "things_met" fO D.bq D.de)(T:Txt K mg D)
  (bh:Ok P w K mg base 2 D.aQ D.bW ["word"] (qC))
  (fZ:Ok P w K mg base 7 D.cf D.eN ["memory", "a"] (uq D)):Ok P w K mg base 8 D.bq D.de ["source", "roots"] (uu D):=by
 refine⟨?_,F.binds (ps:=["source", "roots"]) λ_ _ _ _ _ _ us hl=>match us,hl with|[_,_],_=>rfl⟩
 refine F.okE cm (λvs H Q E h=>?_) (λcdv A' outer s' H vs Q E hr h=>?_)
 ·obtain⟨m,mx,c,xs,ws,l,ys,rs,f,tt,B,rfl,_⟩:=h
  rfl
 ·obtain⟨m,mx,c,xs,ws,l,ys,rs,f,tt,B,rfl,M,gm,hl,ry,S,k⟩:=h
  have hu:=iO hr;refine⟨_,(PSs.nox (af (aC (i:=2) cm.nd rfl (Or.inl rfl) ig)
   (af (aC (i:=3) cm.nd rfl (Or.inl rfl) (eD dZ rfl T.i0 PyProof.Rows.Boot.«list» (aa (pv 1) ah)))
   (af (aC (i:=4) cm.nd rfl (Or.inl rfl) ai)
   (af (oO CL (aW nz (pv 4) (bJ aI rfl T.e7 PyProof.Rows.Boot.«len» (aa (pv 3) ah)) (bT _))
    (af (aC (i:=5) cm.nd rfl (Or.inl rfl) (aL bh.g (hr.mono (by decide)) rfl T.gr T.c7 bh.b .nil cq (aa (cn cB (pv 3) (pv 4) (λ_ _=>rfl)) ah)))
    (af (fW (PW.pt (pw_and (aW qI (pv 5) ib (bT _)) (pw_and1 (tV (rG hu (pv 5) (pv 2)) (by with_unfolding_all rfl)))))
     (af (jC hu (pv 2) (pv 5) (aL fZ.g (hr.mono (by decide)) rfl T.qf T.g7 fZ.b .nil cq (aa (pv 0) (aa (pv 5) ah))) rfl)
     (ak (bL (nE PySem.F.plainAttrs_list PySem.F.slot_list_extend PySem.F.type_list_extend rB (pv 3) (aa (cn dw (cX hu (pv 2) (pv 5) (λ_ _=>rfl)) ai (λ_ _=>rfl)) ah)))))
     cH)
    (ak (tW (i:=4) cm.nd rfl (Or.inl rfl) ai tX)))))
   (ak (bA (pv 2)))))))),?_⟩
  have z:=M.z;intro d hd;have s1:=au.upd (o:=.dK []) hd;refine⟨_,rfl,l,ys,rfl,.inl (SqL.of (s1 _ _ hl)),λq hq=>?_⟩;have s2:=au.upd (o:=.lst ys) hq;obtain⟨Hs,eHs⟩:∃ Hs,upd (upd H d (.dK [])) q (.lst ys)=Hs:=⟨_,rfl⟩;have ss:au H Hs:=by rw[←eHs];exact s1.trans s2
  have hds:Hs d=some (.dK []):=by rw[←eHs];exact s2 _ _ ab
  have hqs:Hs q=some (.lst ys):=by rw[←eHs];exact ab
  rw[eHs];refine⟨λn σ Hx=>∃(v5:Option V) (kvs:List (Key×V)) (th:List Int) (dn:Nat) (zs:List V),σ=[some (.ref m),some (.ref l),some (.ref d),some (.ref q),some (.int dn),v5]∧n=100-dn∧Pg rs f th dn∧(∀ a∈th,a∈B)∧au H Hx∧Hx d=some (.dK kvs)∧Dth Hs Hx kvs th f tt∧Hx q=some (.lst zs)∧MR Hx zs (Wl rs f th),⟨100,none,[],[],0,ys,rfl,rfl,Pg.nil,(λa m=>nomatch m),ss,hds,Dth.nil,hqs,?_⟩,?_⟩
  ·have:Wl rs f []=rs:=by unfold Wl;simp
   rw[this];exact ry.keep (bN.of ss)
  rintro n σ Hx ⟨v5,kvs,th,dn,zs,rfl,rfl,pg,hB,sx,hdx,dt,hqx,rz⟩;have lth:th.length≤10:=CK (i4 dt.n hB) S.bl;have lW:=xo (rs:=rs) λa m=>S.fl a (hB a m);have rl:=S.rl;have ez:=rz.1;refine⟨_,rfl,_,rfl,q,_,rfl,.inl (SqL.of hqx),dn,_,rfl,rfl,_,rfl,?_⟩;by_cases hlt:dn<zs.length
  ·refine d6 (decide_eq_true (by omega)) ?_
   have hw:(Wl rs f th)[dn]?=some ((Wl rs f th)[dn]'(by omega)):=Cc _;obtain⟨w,ew⟩:∃ w,(Wl rs f th)[dn]'(by omega)=w:=⟨_,rfl⟩;rw[ew]at hw;have mw:=Ct hw;obtain⟨okw,inB⟩:=S.ok hB mw;obtain⟨v,hv,mv⟩:=rz.get hw;refine⟨λσ' H'=>∃ m',m'<100-dn∧∃(v5:Option V) (kvs:List (Key×V)) (th:List Int) (dn:Nat) (zs:List V),σ'=[some (.ref m),some (.ref l),some (.ref d),some (.ref q),some (.int dn),v5]∧m'=100-dn∧Pg rs f th dn∧(∀ a∈th,a∈B)∧au H H'∧H' d=some (.dK kvs)∧Dth Hs H' kvs th f tt∧H' q=some (.lst zs)∧MR H' zs (Wl rs f th),λ_ _ h=>h,?_⟩;refine⟨_,rfl,_,rfl,q,zs,dn,v,rfl,rfl,SqL.of hqx,eG (by omega) (by rw[Int.toNat_natCast];exact hv),v,w,rfl,mv,okw,λH1 s3=>?_⟩;have hd1:=s3 _ _ hdx;have hq1:=s3 _ _ hqx;have dt1:=dt.keep (Kp.of (H0:=Hs) s3);have rz1:=rz.keep (bN.of s3);have sx1:=sx.trans s3;have old:h7 th w=th→∃ m',m'<100-dn∧∃(v5:Option V) (kvs:List (Key×V)) (th:List Int) (dn':Nat) (zs:List V),[some (.ref m),some (.ref l),some (.ref d),some (.ref q),some (.int ((dn:Int)+1)),some (adV w)]=[some (.ref m),some (.ref l),some (.ref d),some (.ref q),some (.int dn'),v5]∧m'=100-dn'∧Pg rs f th dn'∧(∀ a∈th,a∈B)∧au H H1∧H1 d=some (.dK kvs)∧Dth Hs H1 kvs th f tt∧H1 q=some (.lst zs)∧MR H1 zs (Wl rs f th):=λh =>
    ⟨100-(dn+1),by omega,some (adV w),kvs,th,dn+1,zs,rfl,rfl,pg.old hw h,hB,sx1,hd1,dt1,hq1,rz1⟩
   refine⟨_,rfl,rfl,_,rfl,?_⟩;cases ea:w.adr with
   | none =>
    have ev:adV w=.non:=(by unfold adV;rw[ea]);refine dO (by rw[ev];rfl) ⟨_,rfl,_,_,rfl,rfl,old (qS ea)⟩
   | some a =>
    have ev:adV w=.int a:=(by unfold adV;rw[ea]);obtain rfl:=pB ea;have aB:=inB a rfl;refine d6 (by rw[ev];rfl) ⟨_,rfl,_,rfl,d,_,rfl,.inl ⟨kvs,Sum.inl a,.inl hd1,rfl,rfl⟩,_,rfl,?_⟩;by_cases ha:a∈th
    ·obtain⟨p,_,_,hp,_⟩:=dt.v a ha
     refine dO (by rw[hp];rfl) ⟨_,rfl,_,_,rfl,rfl,old (j6 ha)⟩
    ·refine d6 (by rw[dt.k.non ha];rfl) ?_
     obtain⟨tg,sl⟩:=S.th a aB;obtain⟨a0,hwa,al⟩:=j2 tg;refine⟨_,rfl,_,rfl,m,mx,c,xs,ws,a,rfl,M.same sx1,gm,Sm.of (by omega) (by omega),?_⟩;rw[tg];intro p l2 ys2 H2 s4 hl0 hp hl2 ry2;rw[Int.toNat_natCast,sl]at ry2;have hd2:=s4 _ _ hd1;have hq2:=s4 _ _ hq1;have BX:Hs l2=none:=by
      cases e:Hs l2 with
      | none=>rfl
      | some u =>
       exfalso;by_cases c1:l2=d
       ·rw[c1,hd1]at hl0;cases hl0
       ·by_cases c2:l2=q
        ·rw[c2,hq1]at hl0;cases hl0
        ·have:H l2=some u:=by rw[←e,←eHs,ag c2,ag c1]
         rw[sx1 _ _ this]at hl0;cases hl0
     have dt2:=(dt1.keep (Kp.of (H0:=Hs) s4)).put ha hp BX hl2 ry2;have lk:=dt.k.len;refine⟨_,rfl,_,rfl,d,_,rfl,qP.k (k:=Sum.inl a) hd2 (by rw[lk];exact gT (by omega)),?_⟩;obtain⟨i7,ek2⟩:∃ i7,putK kvs (Sum.inl a) (.ref p)=i7:=⟨_,rfl⟩;have vp:ff i7 (Sum.inl a)=some (.ref p):=(by rw[←ek2,cG,if_pos rfl]);rw[ek2]at dt2 ⊢;have ndq:q≠d:=bo hq2 hd2 (by intro z;cases z);have hp3:upd H2 d (.dK i7) p=some (.tup [.int (tt a),.ref l2]):=(by rw[ag (bo hp hd2 (by intro z;cases z))];exact hp);have hl3:upd H2 d (.dK i7) l2=some (.lst ys2):=(by rw[ag (bo hl2 hd2 (by intro z;cases z))];exact hl2);have hq3:upd H2 d (.dK i7) q=some (.lst zs):=(by rw[ag ndq];exact hq2);have kp3:Kp Hs H2 (upd H2 d (.dK i7)):=Kp.set hds hd2 (by intro us z;cases z);have e2:=ry2.1;have fl:=S.fl a aB;refine⟨_,rfl,.inl ⟨rfl,_,SqL.of hq3⟩,_,rfl,_,rfl,d,_,rfl,.inl ⟨i7,Sum.inl a,.inl ab,rfl,vp.symm⟩,p,_,1,.ref l2,rfl,rfl,SqT.of hp3,rfl,q,l2,zs,ys2,rfl,rfl,hq3,hl3,fN (by omega),?_⟩;have kp4:Kp Hs (upd H2 d (.dK i7)) (upd (upd H2 d (.dK i7)) q (.lst (zs++ys2))):=Kp.set hqs hq3 (by intro us z;cases z);have tp:bN H1 (upd (upd H2 d (.dK i7)) q (.lst (zs++ys2))):=λt us y=>kp4.2 _ _ (kp3.2 _ _ (s4 _ _ y));refine⟨_,rfl,_,_,rfl,rfl,100-(dn+1),by omega,some (adV (.ad a)),i7,th++[a],dn+1,zs++ys2,rfl,rfl,pg.new hw ha,λb mb=>?_,λb u y=>?_,by rw[ag (CV ndq)];exact ab,(dt2.keep kp3).keep kp4,ab,?_⟩
     ·rcases Cy.mp mb with mb|mb
      ·exact hB b mb
      ·rw[Cf.mp mb];exact aB
     ·have nbd:b≠d:=ae y hd
      have nbq:b≠q:=ae y (by have:=hq;rw[ag (λz=>by rw[z]at hq;rw[ab]at hq;cases hq)]at this;exact this);rw[ag nbq,ag nbd];exact s4 _ _ (sx1 _ _ y)
     ·rw[jQ]
      exact(rz1.keep tp).app (ry2.keep λt us y=>kp4.2 _ _ (kp3.2 _ _ y))
  ·refine dO (decide_eq_false (by omega)) ⟨_,rfl,?_⟩
   exact k d kvs th Hx (pg.done (by omega)) hB sx hd hdx (dt.low ss)
end
end K41
end
section
namespace L2
open PySem PySem.Spec PyProof.Rows LX
section
variable{X:Cx}
theorem zT{n:Option Int}{zs:List Int}{f:Option Int→V}(hf:f none=.non)(hs:∀ t,f (some t)=.int t):inV (f n) (zs.map V.int)=(match n with|none=>false|some t=>decide (t∈zs)):=by
 unfold inV;cases n with
 | none =>
  rw[hf];show _=false;rw[List.any_map];refine List.any_eq_false.mpr λz _=>?_;simp[eqV]
 | some t =>
  rw[hs,List.any_map];show _=decide (t∈zs);induction zs with
  | nil=>rfl
  | cons a r ih =>
   rw[Du,ih];by_cases e:a=t
   ·subst e
    simp[eqV]
   ·have:(t∈a::r)↔t∈r:=by
     rw[Cw];exact⟨λh=>h.elim (λz=>absurd z.symm e) id,.inr⟩
    simp[eqV,e,this]
end
end L2
end
section
namespace K41
open PySem L2 LX
section
variable{P:Program}{w:World}{K:W.Frag}{mg:Str→Option Value}{base:Heap}{D:Ad}
def uv(D:Ad):Sp:=λvs H Q _=>∃ m mx c xs ws,∃(a t:Int) (l:Addr) (ys:List V) (us:List Mw),vs=[.ref m,.int a,.int t,.ref l]∧Mm D H m mx c xs ws∧H l=some (.lst ys)∧MR H ys us∧l≠c∧0≤a∧a+us.length<ws.length∧∀ xs' H',But c H H'→Mm D H' m mx c xs' (layW ws a.toNat t us)→Q .non H'
abbrev zU:List Str:=["memory", "a", "t", "values", "k", "value"]
theorem qD:aG zU ["memory", "a", "t", "values"] (aj uM):=⟨rfl,rfl,rfl,by decide +kernel,rfl,by decide +kernel,by decide +kernel⟩
theorem xp(F:Fun K "lay" "lay" uM D.iQ D.qd)(T:Txt K mg D)
  (bg:Ok P w K mg base 3 D.aP D.bV ["memory", "a", "fields"] (ng D))
  (az:Ok P w K mg base 4 D.bc D.b9 ["self", "a", "word"] (jO D)):Ok P w K mg base 6 D.iQ D.qd ["memory", "a", "t", "values"] (uv D):=by
 refine⟨?_,F.binds (ps:=["memory", "a", "t", "values"]) λ_ _ _ _ _ _ us hl=>match us,hl with|[_,_,_,_],_=>rfl⟩
 refine F.okE qD (λvs H Q E h=>?_) (λcdv A' outer s' H vs Q E hr h=>?_)
 ·obtain⟨m,mx,c,xs,ws,a,t,l,ys,us,rfl,_⟩:=h
  rfl
 ·obtain⟨m,mx,c,xs,ws,a,t,l,ys,us,rfl,M,hl,ru,nlc,a0,al,k⟩:=h
  refine⟨_,(PSs.nox (af (bL (aL bg.g (hr.mono (by decide)) rfl T.gq T.c6 bg.b .nil cq (aa (pv 0) (aa (pv 1) (aa (bJ aI rfl T.e7 PyProof.Rows.Boot.«len» (aa (pv 3) ah)) ah)))))
   (af (bL (dr (pv 0) T.aD T.cP az.g (hr.mono (by decide)) az.b .nil cq (aa (pv 1) (aa (cT (aa dX (aa (pv 2) (aa (bJ aI rfl T.e7 PyProof.Rows.Boot.«len» (aa (pv 3) ah)) ah)))) ah))))
   (ak (di CL rfl (jG rfl T.cV (aa (pv 3) ah)) (gh rfl (aM (aE (i:=4) qD.nd rfl (Or.inl rfl)) (aM (aE (i:=5) qD.nd rfl (Or.inl rfl)) eK)))
    (ak (bL (dr (pv 0) T.aD T.cP az.g (hr.mono (by decide)) az.b .nil cq (aa (aw aS (aw aS (pv 1) ai) (pv 4)) (aa (pv 5) ah)))))))))),?_⟩
  have z:=M.z;have eu:=ru.1;refine⟨_,rfl,_,rfl,_,rfl,l,ys,rfl,.inl (SqL.of hl),m,mx,c,xs,ws,a,ys.length,rfl,M,Sm.of (by omega) (by omega),Sm.of (by omega) (by omega),?_⟩;rw[if_pos ⟨a0,by omega⟩];refine⟨_,rfl,m,_,_,rfl,M.i,(by kernel_rfl),_,rfl,_,rfl,_,rfl,l,ys,rfl,.inl (SqL.of hl),by show 3≤sizeLine;decide,λp hp=>?_⟩;have s1:=au.upd (o:=.tup [V.str "head",V.int t,V.int ys.length]) hp;refine⟨m,mx,c,xs,ws,a,.ref p,.hd t us.length,rfl,M.same s1,Sm.of (by omega) (by omega),.inr ⟨(by intro z;cases z),p,rfl,by rw[ab,eu];rfl⟩,?_⟩;rw[if_pos ⟨a0,by omega⟩];intro M2;have b2:But c H (upd (upd H p (.tup [V.str "head",V.int t,V.int ys.length])) c (.lst (xs.set a.toNat (.ref p)))):=(But.same s1).trans But.self;refine⟨_,rfl,l,rfl,⟨_,SqL.of (b2 l _ nlc hl)⟩,ij (K:=K) (a:=l) (xs:=ys) (λi σ Hx=>∃ v4 v5 xs',σ=[some (.ref m),some (.int a),some (.int t),some (.ref l),v4,v5]∧But c H Hx∧Mm D Hx m mx c xs' (fY (ws.set a.toNat (.hd t us.length)) (a.toNat+1) (us.take i)))
   ⟨none,none,_,rfl,b2,M2⟩ (λi σ Hx _ ⟨_,_,_,_,b,_⟩=>SqL.of (b l _ nlc hl)) ?_ ?_⟩
  ·rintro i v σ Hx tp hi ⟨v4,v5,xs',rfl,bx,Mx⟩ htp
   have s3:=au.upd (o:=.tup [.int (i:Int),v]) htp;refine⟨tp,_,rfl,SqT.of ab,rfl,_,_,rfl,_,_,rfl,rfl,?_⟩;have hil:i<us.length:=(by rw[←eu];exact(Cd.mp hi).1);have hu':us[i]?=some us[i]:=Cc hil;have ll:(fY (ws.set a.toNat (.hd t us.length)) (a.toNat+1) (us.take i)).length=ws.length:=(by rw[iC,CS]);have M3:=Mx.same s3;have tv:bN H (upd Hx tp (.tup [.int (i:Int),v])):=λb us q=>s3 _ _ (bx b _ (bo q M.l (by intro z;cases z)) q);refine⟨_,rfl,m,_,_,rfl,M3.i,(by kernel_rfl),_,rfl,a,1,rfl,rfl,_,rfl,_,_,rfl,rfl,_,rfl,m,mx,c,xs',_,a+1+(i:Int),v,us[i],rfl,M3,Sm.of (by omega) (by omega),(ru.2 i v _ hi hu').keep tv,?_⟩;rw[ll,if_pos ⟨by omega,by omega⟩];intro M4;refine⟨_,_,xs'.set (a+1+(i:Int)).toNat v,rfl,(bx.trans (But.same s3)).trans But.self,?_⟩;rw[take_snoc hu',jN,CA,show a.toNat+1+min i us.length=(a+1+(i:Int)).toNat by omega];exact M4
  ·rintro σ Hx ⟨v4,v5,xs',rfl,bx,Mx⟩
   rw[eu,Cp (Cg _)]at Mx;exact k xs' Hx bx Mx
def we:Sp:=λvs H Q _=>∃(d:Addr) (ob:Obj) (kvs:List (Key×V)) (H0:Hp) (R:List Int) (f:Int→List Mw) (tt:Int→Int),vs=[.ref d]∧H d=some (.frz ob (.dK kvs))∧Dth H0 H kvs R f tt∧R.length≤10∧(∀ a∈R,(f a).length≤6)∧∀ H',au H H'→Q (.int (tot f R)) H'
abbrev gU:List Str:=["things"]
theorem je:aG gU ["things"] (aj dA):=⟨rfl,rfl,rfl,by decide +kernel,rfl,by decide +kernel,by decide +kernel⟩
theorem jf(F:Fun K "words_among" "words_among" dA D.a7 D.cJ)(T:Txt K mg D):Ok P w K mg base 1 D.a7 D.cJ ["things"] (we):=by
 refine⟨?_,F.binds (ps:=["things"]) λ_ _ _ _ _ _ us hl=>match us,hl with|[_],_=>rfl⟩
 refine F.okE je (λvs H Q E h=>?_) (λcdv A' outer s' H vs Q E hr h=>?_)
 ·obtain⟨d,ob,kvs,H0,R,f,tt,rfl,_⟩:=h
  rfl
 ·obtain⟨d,ob,kvs,H0,R,f,tt,rfl,hd,dt,lR,lf,k⟩:=h
  have hu:=iO hr;refine⟨_,(PSs.nox (ak (bA (bJ (rR rfl) rfl T.uP PyProof.Rows.Boot.«sum» (aa (gb (cl:=[("things",s'.heap.objs.size+1)]) (x := "a") (idx:=[0]) (NC:=["a", "things"]) (by exact du (sc:=aj dA) (N:=gU) (ns:=["things"]) rfl rfl rfl (by decide +kernel) rfl rfl (by intro q hq;rw[Cf.mp hq];rfl)) rfl (jI (pv 0)) (λC fp s₀ H₀=>(aw aS (bJ (rS rfl) rfl T.e7 PyProof.Rows.Boot.«len» (aa (cn (r:=Ak K) dw (cX hu (pv 1) (pv 0) (λ_ _=>rfl)) ai (λ_ _=>rfl)) ah)) ai))) ah))))),?_⟩;have lk:=dt.k.len;have ek:=dt.k;unfold Kys at ek;refine⟨_,rfl,d,ob,kvs,rfl,hd,λL hL=>?_⟩;refine lQ (d:=d) (o:=ob) (kvs:=kvs) (λi ys Hc=>ys=((R.take i).map λa=>((f a).length:Int)+1).map V.int∧au H Hc∧Hc L=some (.lst ys)) ⟨rfl,au.upd hL,ab⟩ (λi ys Hc hi ⟨e,_,z⟩=>⟨z,by rw[e,Cn,Cn,CA];omega⟩) (λi ys Hc _ ⟨_,sc,_⟩=>sc _ _ hd) (fN (by omega)) (λi p ys Hc hp ⟨e,sc,z⟩=>?_) (λys Hc ⟨e,sc,z⟩=>?_)
  ·have hk:(kvs.map (·.1))[i]?=some p.1:=by rw[Cq,hp];rfl
   rw[ek,Cq]at hk;obtain⟨a,ha,ep⟩:=CD.mp hk;have ma:=Ct ha;obtain⟨q,l,zs,h1,h2,h3,h4,h5⟩:=dt.v a ma;rw[←ep];refine⟨_,rfl,_,rfl,d,_,rfl,.inl ⟨kvs,Sum.inl a,.inr ⟨ob,sc _ _ hd⟩,rfl,h1.symm⟩,q,_,1,.ref l,rfl,rfl,SqT.of (sc _ _ h2),rfl,l,zs,rfl,.inl (SqL.of (sc _ _ h4)),_,_,rfl,rfl,z,?_,λb u y=>by rw[ag (ae y hL)];exact sc b u y,ab⟩;rw[e,aR ha,CF,CF,h5.1];rfl
  ·refine⟨L,_,rfl,SqL.of (by rw[z,e]),?_⟩
   rw[lk,Cp (Cg _)];have es:∀ R:List Int,(R.map λa=>((f a).length:Int)+1).sum=(tot f R:Int):=λR=>by
    induction R with
    | nil=>rfl
    | cons a r ih=>rw[CQ,List.sum_cons,ih];show _=(((f a).length+1+tot f r:Nat):Int);push_cast;omega
   rw[es];exact k _ sc
def wg:Sp:=λvs H Q _=>∃(fs:Int) (d:Addr) (ob:Obj) (kvs:List (Key×V)) (H0:Hp) (R:List Int) (f:Int→List Mw) (tt:Int→Int),vs=[.int fs,.ref d]∧H d=some (.frz ob (.dK kvs))∧Dth H0 H kvs R f tt∧R.length≤10∧∀ p i7 H',au H H'→H p=none→H' p=some (.dK i7)→Dg i7 R (plA f fs R)→Q (.ref p) H'
abbrev kr:List Str:=["first", "things", "places", "place", "a"]
theorem cz:aG kr ["first", "things"] (aj fh):=⟨rfl,rfl,rfl,by decide +kernel,rfl,by decide +kernel,by decide +kernel⟩
theorem jg(F:Fun K "places_from" "places_from" fh D.a8 D.cK)(T:Txt K mg D):Ok P w K mg base 1 D.a8 D.cK ["first", "things"] (wg):=by
 refine⟨?_,F.binds (ps:=["first", "things"]) λ_ _ _ _ _ _ us hl=>match us,hl with|[_,_],_=>rfl⟩
 refine F.okE cz (λvs H Q E h=>?_) (λcdv A' outer s' H vs Q E hr h=>?_)
 ·obtain⟨fs,d,ob,kvs,H0,R,f,tt,rfl,_⟩:=h
  rfl
 ·obtain⟨fs,d,ob,kvs,H0,R,f,tt,rfl,hd,dt,lR,k⟩:=h
  have hu:=iO hr;refine⟨_,(PSs.nox (af (aC (i:=2) cz.nd rfl (Or.inl rfl) ig)
   (af (aC (i:=3) cz.nd rfl (Or.inl rfl) (pv 0))
   (af (di CL rfl (jI (pv 1)) (aE (i:=4) cz.nd rfl (Or.inl rfl))
    (af (jC hu (pv 2) (pv 4) (pv 3) rfl)
    (ak (tW (i:=3) cz.nd rfl (Or.inl rfl) (aw aS (bJ aI rfl T.e7 PyProof.Rows.Boot.«len» (aa (cn dw (cX hu (pv 1) (pv 4) (λ_ _=>rfl)) ai (λ_ _=>rfl)) ah)) ai) tX))))
   (ak (bA (pv 2))))))),?_⟩
  have lk:=dt.k.len;have ek:=dt.k;unfold Kys at ek;intro p hp;have s1:=au.upd (o:=.dK []) hp;refine⟨_,rfl,_,rfl,d,ob,kvs,rfl,s1 _ _ hd,pd (d:=d) (o:=ob) (kvs:=kvs) (λi σ Hx=>∃(v4:Option V) (kv2:List (Key×V)),σ=[some (.int fs),some (.ref d),some (.ref p),some (.int (fs+tot f (R.take i))),v4]∧au H Hx∧Hx p=some (.dK kv2)∧Dg kv2 (R.take i) (plA f fs R)) ⟨none,[],(by rw[List.take_zero];show _=[some (V.int fs),some (V.ref d),some (V.ref p),some (V.int (fs+0)),none];rw[Int.add_zero];rfl),s1,ab,Dg.nil⟩ (λi σ Hx _ ⟨_,_,_,sx,_⟩=>sx _ _ hd) ?_ ?_⟩
  ·rintro i pr σ Hx hpr ⟨v4,kv2,rfl,sx,zp,dg⟩
   have hk:(kvs.map (·.1))[i]?=some pr.1:=(by rw[Cq,hpr];rfl);rw[ek,Cq]at hk;obtain⟨a,ha,ep⟩:=CD.mp hk;have ma:=Ct ha;obtain⟨q,l,zs,h1,h2,h3,h4,h5⟩:=dt.v a ma;rw[←ep];have na:=qV dt.n ha;have pl:=qB (f:=f) (p:=fs) dt.n ha;have lk2:=dg.k.len;refine⟨_,rfl,_,rfl,_,rfl,p,_,rfl,qP.k (k:=Sum.inl a) zp (by rw[lk2,CA];exact gT (by omega)),?_⟩;have npd:d≠p:=ae hd hp;have hd2:∀ o,upd Hx p o d=some (.frz ob (.dK kvs)):=λo=>by rw[ag npd];exact sx _ _ hd
   have up:∀ b u o,H b=some u→upd Hx p o b=some u:=λb u o y=>by rw[ag (ae y hp)];exact sx _ _ y
   refine⟨_,rfl,_,rfl,_,rfl,d,_,rfl,.inl ⟨kvs,Sum.inl a,.inr ⟨ob,hd2 _⟩,rfl,h1.symm⟩,q,_,1,.ref l,rfl,rfl,SqT.of (up _ _ _ h2),rfl,l,zs,rfl,.inl (SqL.of (up _ _ _ h4)),_,_,rfl,rfl,_,_,rfl,rfl,some (.int a),putK kv2 (Sum.inl a) (.int (fs+tot f (R.take i))),?_,λb u y=>up b u _ y,ab,?_⟩
   ·rw[aR ha,pE,h5.1]
    show[_,_,_,some (V.int (fs+(tot f (R.take i):Int)+(((f a).length:Int)+1))),_]=_;rw[show fs+(tot f (R.take i):Int)+(((f a).length:Int)+1)=fs+((tot f (R.take i)+((f a).length+1):Nat):Int) by push_cast;omega];rfl
   ·rw[←pl,aR ha]
    refine⟨?_,?_,λu m=>?_⟩
    ·rw[ie _ (dg.k.non na)]
     have:=dg.k
     unfold Kys at this ⊢;rw[CF,CF,this];rfl
    ·rw[C5]
     exact⟨dg.n,by simp,λx hx y hy=>by rw[Cf.mp hy];exact λe=>na (by rw[←e];exact hx)⟩
    ·by_cases e:u=a
     ·subst e;rw[cG,if_pos rfl]
     ·rw[cG,if_neg (λz=>e (Sum.inl.inj z))];exact dg.v u ((Cy.mp m).resolve_right λz=>e (Cf.mp z))
  ·rintro σ Hx ⟨v4,kv2,rfl,sx,zp,dg⟩
   rw[lk,Cp (Cg _)]at dg;exact⟨_,rfl,k p kv2 Hx sx hp zp dg⟩
def wj:Sp:=λvs H Q _=>∃(v:V) (w:Mw) (d:Addr) (kvs:List (Key×V)) (R:List Int) (g:Int→Int),vs=[v,.ref d]∧MV H v w∧Okw w∧Rd H d (.dK kvs)∧Dg kvs R g∧(∀ a,w=.ad a→a∈R)∧∀ v' H',au H H'→MV H' v' (anew g w)→Q v' H'
abbrev oa:List Str:=["word", "places", "a"]
theorem h8:aG oa ["word", "places"] (aj gy):=⟨rfl,rfl,rfl,by decide +kernel,rfl,by decide +kernel,by decide +kernel⟩
theorem mz(F:Fun K "told_anew" "told_anew" gy D.bP D.dN)(T:Txt K mg D)
  (bh:Ok P w K mg base 2 D.aQ D.bW ["word"] (qC)):Ok P w K mg base 3 D.bP D.dN ["word", "places"] (wj):=by
 refine⟨?_,F.binds (ps:=["word", "places"]) λ_ _ _ _ _ _ us hl=>match us,hl with|[_,_],_=>rfl⟩
 refine F.okE h8 (λvs H Q E h=>?_) (λcdv A' outer s' H vs Q E hr h=>?_)
 ·obtain⟨v,w,d,kvs,R,g,rfl,_⟩:=h
  rfl
 ·obtain⟨v,w,d,kvs,R,g,rfl,hv,ok,hd,dg,hR,k⟩:=h
  have hu:=iO hr;refine⟨_,(PSs.nox (af (aC (i:=2) h8.nd rfl (Or.inl rfl) (aL bh.g (hr.mono (by decide)) rfl T.gr T.c7 bh.b .nil cq (aa (pv 0) ah)))
   (ak (bA (oK (aW tZ (pv 2) ib (bT _)) (pv 0) (cT (aa dX (aa (cX hu (pv 1) (pv 2) (λ_ _=>rfl)) ah)))))))),?_⟩
  refine⟨_,rfl,v,w,rfl,hv,ok,λH1 s1=>⟨_,rfl,rfl,_,rfl,?_⟩⟩;have hd1:Rd H1 d (.dK kvs):=by
   rcases hd with h|⟨o,h⟩
   ·exact .inl (s1 _ _ h)
   ·exact .inr ⟨o,s1 _ _ h⟩
  cases ea:w.adr with
  | none =>
   have ev:adV w=.non:=(by unfold adV;rw[ea]);have en:anew g w=w:=by
    cases w with
    | ad a=>cases ea
    | _=>rfl
   refine jB (λ_=>⟨_,rfl,k v H1 s1 (by rw[en];exact hv.keep (bN.of s1))⟩) (λh=>absurd (by rw[ev];rfl) h)
  | some a =>
   have ev:adV w=.int a:=(by unfold adV;rw[ea]);obtain rfl:=pB ea;refine jB (λh=>absurd h (by rw[ev];exact λz=>by cases z)) (λ_=>⟨_,rfl,_,rfl,d,.int (g a),rfl,.inl ⟨kvs,Sum.inl a,hd1,by rw[ev];rfl,(dg.v a (hR a rfl)).symm⟩,by show 2≤sizeLine;decide,λp hp=>?_⟩);exact k _ _ (s1.trans (au.upd hp)) (.inr ⟨(by intro z;cases z),p,rfl,ab⟩)
def gg(c1 c2:Addr)(H H':Hp):Prop:=∀ b u,b≠c1→b≠c2→H b=some u→H' b=some u
theorem gg.same{c1 c2:Addr}{H H':Hp}(s:au H H'):gg c1 c2 H H':=λb u _ _ q=>s b u q
theorem gg.l{c1 c2:Addr}{H H':Hp}(s:But c1 H H'):gg c1 c2 H H':=λb u n _ q=>s b u n q
theorem gg.r{c1 c2:Addr}{H H':Hp}(s:But c2 H H'):gg c1 c2 H H':=λb u _ n q=>s b u n q
theorem gg.trans{c1 c2:Addr}{H H1 H2:Hp}(a:gg c1 c2 H H1)(b:gg c1 c2 H1 H2):gg c1 c2 H H2:=λc u n m q=>b c u n m (a c u n m q)
theorem gg.jy{c1 c2:Addr}{H H':Hp}{xs ys:List V}(s:gg c1 c2 H H')(h1:H c1=some (.lst xs))(h2:H c2=some (.lst ys)):bN H H':=λt us q=>s t _ (bo q h1 (by intro z;cases z)) (bo q h2 (by intro z;cases z)) q
theorem Mm.but{D:Ad}{H H':Hp}{m mx c c':Addr}{xs zs:List V}{ws:List Mw}(M:Mm D H m mx c xs ws)(b:But c' H H')(n:c≠c')(h:H c'=some (.lst zs)):Mm D H' m mx c xs ws :=
 ⟨b _ _ (bo M.i h (by intro z;cases z)) M.i,b _ _ n M.l,M.r.keep (λt us q=>b _ _ (bo q h (by intro z;cases z)) q),M.z⟩
def Prs(H:Hp)(ps:List V)(R:List Int)(g:Int→Int):Prop:=ps.length=R.length∧∀(i:Nat) (u:V) (t:Int),ps[i]?=some u→R[i]?=some t→∃ q,u=.ref q∧H q=some (.tup [.int t,.int (g t)])
theorem Prs.keep{H H':Hp}{ps:List V}{ks:List Int}{g:Int→Int}(p:Prs H ps ks g)(s:bN H H'):Prs H' ps ks g:=⟨p.1,λi u t a b=>by obtain⟨q,e,h⟩:=p.2 i u t a b;exact⟨q,e,s _ _ h⟩⟩
theorem Prs.snoc{H:Hp}{ps:List V}{R:List Int}{g:Int→Int}{a:Int}{q:Addr}(p:Prs H ps R g)(h:H q=some (.tup [.int a,.int (g a)])):Prs H (ps++[.ref q]) (R++[a]) g:=by
 refine⟨by rw[Cs,Cs,p.1];rfl,λi u t h1 h2=>?_⟩;by_cases c:i<ps.length
 ·rw[CM c]at h1
  rw[CM (by rw[←p.1];exact c)]at h2;exact p.2 i u t h1 h2
 ·have e:i=ps.length:=by have:=(Cd.mp h1).1;rw[Cs,C1]at this;omega
  subst e;rw[CO (Cg _),DB]at h1;rw[p.1,CO (Cg _),DB]at h2;cases h1;cases h2;exact⟨q,rfl,h⟩
def wm(D:Ad):Sp:=λvs H Q _=>∃ m mx c xs ws m2 mx2 c2 xs2 ws2,∃(fs:Int) (l:Addr) (ys:List V) (rs:List Mw) (f:Int→List Mw) (tt:Int→Int) (B:List Int),vs=[.ref m,.ref m2,.int fs,.ref l]∧Mm D H m mx c xs ws∧Mm D H m2 mx2 c2 xs2 ws2∧c≠c2∧l≠c∧l≠c2∧Gm ws∧H l=some (.lst ys)∧MR H ys rs∧Src ws rs f tt B∧0≤fs∧(∀ R,Bfs rs f R→(∀ a∈R,a∈B)→fs+tot f R≤ws2.length)∧∀ R p l1 ys1 l2 ps xs' qX H',Bfs rs f R→(∀ a∈R,a∈B)→gg c c2 H H'→Mm D H' m mx c xs' (pF f (plA f fs R) ws R)→Mm D H' m2 mx2 c2 qX (sM f (plA f fs R) tt ws2 R)→H l1=none→H l2=none→H' p=some (.tup [.ref l1,.ref l2])→H' l1=some (.lst ys1)→MR H' ys1 (rs.map (anew (plA f fs R)))→H' l2=some (.lst ps)→Prs H' ps R (plA f fs R)→Q (.ref p) H'
abbrev ip:List Str:=["source", "target", "first", "roots", "things", "words", "places", "a", "fields"]
theorem eI:aG ip ["source", "target", "first", "roots"] (aj fM):=⟨rfl,rfl,rfl,by decide +kernel,rfl,by decide +kernel,by decide +kernel⟩
theorem rX(F:Fun K "copied" "copied" fM D.dm D.gF)(T:Txt K mg D)
  (d7:Ok P w K mg base 8 D.bq D.de ["source", "roots"] (uu D))
  (dD:Ok P w K mg base 1 D.a7 D.cJ ["things"] (we))
  (aK:Ok P w K mg base 1 D.aU D.bQ ["self"] (ik D))
  (dE:Ok P w K mg base 1 D.a8 D.cK ["first", "things"] (wg))
  (sr:Ok P w K mg base 6 D.iQ D.qd ["memory", "a", "t", "values"] (uv D))
  (cW:Ok P w K mg base 3 D.bP D.dN ["word", "places"] (wj))
  (az:Ok P w K mg base 4 D.bc D.b9 ["self", "a", "word"] (jO D)):Ok P w K mg base 10 D.dm D.gF ["source", "target", "first", "roots"] (wm D):=by
 refine⟨?_,F.binds (ps:=["source", "target", "first", "roots"]) λ_ _ _ _ _ _ us hl=>match us,hl with|[_,_,_,_],_=>rfl⟩
 refine F.okE eI (λvs H Q E h=>?_) (λcdv A' outer s' H vs Q E hr h=>?_)
 ·obtain⟨m,mx,c,xs,ws,m2,mx2,c2,xs2,ws2,fs,l,ys,rs,f,tt,B,rfl,_⟩:=h
  rfl
 ·obtain⟨m,mx,c,xs,ws,m2,mx2,c2,xs2,ws2,fs,l,ys,rs,f,tt,B,rfl,M,M2,ncc,nlc,BY,gm,hl,ry,S,fs0,room,k⟩:=h
  have hu:=iO hr;refine⟨_,(PSs.nox (af (aC (i:=4) eI.nd rfl (Or.inl rfl) (uf (aL d7.g (hr.mono (by decide)) rfl T.l5 T.fR d7.b .nil cq (aa (pv 0) (aa (pv 3) ah)))))
   (af (aC (i:=5) eI.nd rfl (Or.inl rfl) (aL dD.g (hr.mono (by decide)) rfl T.kf T.fu dD.b .nil cq (aa (pv 4) ah)))
   (af (fW (PW.pt (pw_and (aW uG (pv 5) ai (bT _)) (pw_and1 (aW uG (aw aS (pv 2) (pv 5)) (jW (pv 1) T.aD T.eC aK.g (hr.mono (by decide)) aK.b .nil cq) (bT _)))))
    (ak ur)
    cH)
   (af (aC (i:=6) eI.nd rfl (Or.inr rfl) (uf (aL dE.g (hr.mono (by decide)) rfl T.kg T.fv dE.b .nil cq (aa (pv 2) (aa (pv 4) ah)))))
   (af (di CL rfl (jI (pv 4)) (aE (i:=7) eI.nd rfl (Or.inl rfl))
    (af (aC (i:=8) eI.nd rfl (Or.inl rfl) (cn dw (cX hu (pv 4) (pv 7) (λ_ _=>rfl)) ai (λ_ _=>rfl)))
    (af (bL (aL sr.g (hr.mono (by decide)) rfl T.zS T.uO sr.b .nil cq (aa (pv 1) (aa (cX hu (pv 6) (pv 7) (λ_ _=>rfl)) (aa (cn dw (cX hu (pv 4) (pv 7) (λ_ _=>rfl)) ai (λ_ _=>rfl)) (aa (gb (cl:=[("places",s'.heap.objs.size+1)]) (x := "word") (idx:=[6]) (NC:=["word", "places"]) (by exact du (sc:=aj fM) (N:=ip) (ns:=["places"]) rfl rfl rfl (by decide +kernel) rfl rfl (by intro q hq;rw[Cf.mp hq];rfl)) rfl (dq (pv 8)) (λC fp s₀ H₀=>(aL cW.g (hr.mono (by decide)) rfl T.iK T.eY cW.b .nil nM (aa (pv 0) (aa (pv 1) ah))))) ah))))))
    (ak (bL (dr (pv 0) T.aD T.cP az.g (hr.mono (by decide)) az.b .nil cq (aa (pv 7) (aa (cT (aa dX (aa (cX hu (pv 6) (pv 7) (λ_ _=>rfl)) (aa (bJ aI rfl T.e7 PyProof.Rows.Boot.«len» (aa (pv 8) ah)) ah)))) ah))))))))
   (ak (bA (cT (aa (gb (cl:=[("places",s'.heap.objs.size+1)]) (x := "word") (idx:=[6]) (NC:=["word", "places"]) (by exact du (sc:=aj fM) (N:=ip) (ns:=["places"]) rfl rfl rfl (by decide +kernel) rfl rfl (by intro q hq;rw[Cf.mp hq];rfl)) rfl (dq (pv 3)) (λC fp s₀ H₀=>(aL cW.g (hr.mono (by decide)) rfl T.iK T.eY cW.b .nil nM (aa (pv 0) (aa (pv 1) ah))))) (aa (gb (cl:=[("places",s'.heap.objs.size+1)]) (x := "a") (idx:=[6]) (NC:=["a", "places"]) (by exact du (sc:=aj fM) (N:=ip) (ns:=["places"]) rfl rfl rfl (by decide +kernel) rfl rfl (by intro q hq;rw[Cf.mp hq];rfl)) rfl (jI (pv 6)) (λC fp s₀ H₀=>(cT (aa (pv 0) (aa (cX hu (pv 1) (pv 0) (λ_ _=>rfl)) ah))))) ah))))))))))),?_⟩
  have z:=M.z;have z2:=M2.z;refine⟨_,rfl,_,rfl,m,mx,c,xs,ws,l,ys,rs,f,tt,B,rfl,M,gm,hl,ry,S,λd kvs R H1 bf hB s1 hd0 hd dt=>⟨d,kvs,hd,λob=>?_⟩⟩;have lR:R.length≤10:=CK (i4 dt.n hB) S.bl;have fl:∀ a∈R,(f a).length≤6:=λa m=>S.fl a (hB a m);have rm:=room R bf hB;have lt:=qW fl;have dt:=dt.keep (Kp.frz (o:=.frz ob (.dK kvs)) hd);have s2:au H (upd H1 d (.frz ob (.dK kvs))):=λb u q=>by rw[ag (ae q hd0)];exact s1 _ _ q
  have hd2:upd H1 d (.frz ob (.dK kvs)) d=some (.frz ob (.dK kvs)):=ab;generalize upd H1 d (.frz ob (.dK kvs))=H2 at *;refine⟨_,rfl,d,ob,kvs,H,R,f,tt,rfl,hd2,dt,lR,fl,λH3 s3=>?_⟩;have M3:=M2.same (s2.trans s3);simp only[nr];refine qR λN hN=>?_;have kk:=k R;clear k;have tk0:(0:Int)≤tot f R:=Int.natCast_nonneg _;have nd:=dt.n;have pix:∀ {i:Nat} {a:Int},R[i]?=some a→plA f fs R a=fs+tot f (R.take i):=λh=>qB nd h;obtain⟨g,eg⟩:∃ g,plA f fs R=g:=⟨_,rfl⟩;rw[eg]at kk pix;have wR:∀ w∈Wl rs f R,Okw w∧∀ a,w=.ad a→a∈R:=λw mw=>⟨(S.ok hB mw).1,λa e=>bf.mem (by rw[←e];exact mw)⟩;suffices hq:N [some (.ref m),some (.ref m2),some (.int fs),some (.ref l),some (.ref d),some (.int (tot f R)),none,none,none] H3 by
   refine⟨_,rfl,_,0,rfl,rfl,_,rfl,?_⟩;by_cases h0:(0:Int)<tot f R
   ·refine d6 (decide_eq_true h0) ⟨_,rfl,_,rfl,_,_,rfl,rfl,_,rfl,m2,_,_,rfl,M3.i,(by kernel_rfl),m2,mx2,c2,xs2,ws2,rfl,M3,_,_,rfl,rfl,_,rfl,dO (decide_eq_false (by omega)) hq⟩
   ·exact dO (decide_eq_false h0) hq
  refine hN _ _ ?_;refine⟨_,rfl,_,rfl,fs,d,ob,kvs,H,R,f,tt,rfl,s3 _ _ hd2,dt.keep (Kp.of s3),lR,λp kvp H4 s4 hp0 hp dg=>⟨p,kvp,hp,λop=>?_⟩⟩;rw[eg]at dg;have s5:au H3 (upd H4 p (.frz op (.dK kvp))):=λb u q=>by rw[ag (ae q hp0)];exact s4 _ _ q
  have hp5:upd H4 p (.frz op (.dK kvp)) p=some (.frz op (.dK kvp)):=ab;generalize upd H4 p (.frz op (.dK kvp))=H5 at *;have sA:au H H5:=(s2.trans s3).trans s5;have dt5:=dt.keep (Kp.of (H0:=H) (s3.trans s5));have hd5:=s5 _ _ (s3 _ _ hd2);have ek:=dt.k;unfold Kys at ek;have lk:=dt.k.len;have M5:=M.same sA;have M25:=M2.same sA;have kpt:∀ {b:Addr} {u:HO} {Hx:Hp},gg c c2 H5 Hx→(∀ xs,u≠.lst xs)→H5 b=some u→Hx b=some u:=λ{b u Hx} bx n q=>bx b u (λz=>by rw[z,M5.l]at q;exact n _ (CC q).symm) (λz=>by rw[z,M25.l]at q;exact n _ (CC q).symm) q;have tpx:∀ {Hx:Hp},gg c c2 H5 Hx→bN H5 Hx:=λbx=>bx.jy M5.l M25.l;refine⟨_,rfl,d,ob,kvs,rfl,hd5,pd (d:=d) (o:=ob) (kvs:=kvs) (λi σ Hx=>∃(v7 v8:Option V) (xs' qX:List V),σ=[some (.ref m),some (.ref m2),some (.int fs),some (.ref l),some (.ref d),some (.int (tot f R)),some (.ref p),v7,v8]∧gg c c2 H5 Hx∧Mm D Hx m mx c xs' (pF f g ws (R.take i))∧Mm D Hx m2 mx2 c2 qX (sM f g tt ws2 (R.take i))) ⟨none,none,xs,xs2,rfl,gg.same (au.refl _),M5,M25⟩ (λi σ Hx _ ⟨_,_,_,_,_,bx,_⟩=>kpt bx (by intro xs z;cases z) hd5) ?_ ?_⟩
  ·rintro i pr σ Hx hpr ⟨v7,v8,xs',qX,rfl,bx,Mx,M2x⟩
   have hk:(kvs.map (·.1))[i]?=some pr.1:=(by rw[Cq,hpr];rfl);rw[ek,Cq]at hk;obtain⟨a,ha,ep⟩:=CD.mp hk;have ma:=Ct ha;obtain⟨q,lf,zs,h1,h2,h3,h4,h5⟩:=dt5.v a ma;rw[←ep];have pl:=pix ha;have tt1:=tL (f:=f) ha;have fla:=fl a ma;obtain⟨tg,_⟩:=S.th a (hB a ma);obtain⟨a0,hwa,al⟩:=j2 tg;have nf1:lf≠c:=λz=>by rw[z,M.l]at h3;cases h3
   have nf2:lf≠c2:=λz=>by rw[z,M2.l]at h3;cases h3
   have hdx:=kpt bx (by intro xs z;cases z) hd5;have hpx:=kpt bx (by intro xs z;cases z) hp5;have h2x:=tpx bx _ _ h2;have h4x:=bx _ _ nf1 nf2 h4;have h5x:=h5.keep (tpx bx);have e5:=h5.1;refine⟨_,rfl,_,rfl,d,_,rfl,.inl ⟨kvs,Sum.inl a,.inr ⟨ob,hdx⟩,rfl,h1.symm⟩,q,_,1,.ref lf,rfl,rfl,SqT.of h2x,rfl,?_⟩;refine⟨_,rfl,_,rfl,_,rfl,p,_,rfl,.inl ⟨kvp,Sum.inl a,.inr ⟨op,hpx⟩,rfl,(dg.v a ma).symm⟩,_,rfl,_,rfl,d,_,rfl,.inl ⟨kvs,Sum.inl a,.inr ⟨ob,hdx⟩,rfl,h1.symm⟩,q,_,0,.int (tt a),rfl,rfl,SqT.of h2x,rfl,_,rfl,lf,rfl,⟨_,SqL.of h4x⟩,λL hL=>?_⟩;refine gJ (K:=K) (a:=lf) (xs:=zs) (λj ys Hc=>au Hx Hc∧Hc L=some (.lst ys)∧MR Hc ys (((f a).take j).map (anew g))) ⟨au.upd hL,ab,rfl,(λj v w h=>by cases h)⟩ (λj ys Hc hj ⟨_,y,r⟩=>⟨y,by rw[r.1,Cn,CA];omega⟩) (λj ys Hc _ ⟨sc,_⟩=>SqL.of (sc _ _ h4x)) (fN (by omega)) (λj v ys Hc hj ⟨sc,y,r⟩=>?_) (λys Hc ⟨sc,y,r⟩=>?_)
   ·have hjl:j<(f a).length:=by rw[←e5];exact(Cd.mp hj).1
    have hw:(f a)[j]?=some (f a)[j]:=Cc hjl;obtain⟨w,ew⟩:∃ w,(f a)[j]=w:=⟨_,rfl⟩;rw[ew]at hw;have mw:w∈Wl rs f R:=Ci _ (List.mem_flatMap.mpr ⟨a,ma,Ct hw⟩);refine⟨_,rfl,_,rfl,v,w,p,kvp,R,g,rfl,(h5x.2 j v w hj hw).keep (bN.of sc),(wR w mw).1,.inr ⟨op,sc _ _ hpx⟩,dg,(wR w mw).2,λv' H' s' mv'=>⟨s' _ _ y,λb u z=>by rw[ag (ae z hL)];exact s' _ _ (sc b u z),ab,?_⟩⟩;have tu:bN H' (upd H' L (.lst (ys++[v']))):=λb us z=>by rw[ag (bo z (s' _ _ y) (by intro z;cases z))];exact z
    rw[aR hw,CF];exact((r.keep (bN.of s')).snoc mv').keep tu
   ·rw[e5,Cp (Cg _)]at r
    have M2c:=M2x.same sc;have BZ:L≠c2:=CV (ae M2x.l hL);have nLc:L≠c:=CV (ae Mx.l hL);refine⟨m2,mx2,c2,qX,_,g a,tt a,L,ys,_,rfl,M2c,y,r,BZ,by omega,by rw[tN,Cn];omega,λxs3 H6 b6 M26=>?_⟩;have Mc:=(Mx.same sc).but b6 ncc M2c.l;have hp6:=b6 _ _ (bo (sc _ _ hpx) M2c.l (by intro z;cases z)) (sc _ _ hpx);have h46:=b6 _ _ nf2 (sc _ _ h4x);refine⟨_,rfl,m,_,_,rfl,Mc.i,(by kernel_rfl),_,rfl,_,rfl,_,rfl,p,_,rfl,.inl ⟨kvp,Sum.inl a,.inr ⟨op,hp6⟩,rfl,(dg.v a ma).symm⟩,_,rfl,lf,_,rfl,.inl (SqL.of h46),by show 3≤sizeLine;decide,λt7 ht7=>?_⟩;have s7:=au.upd (o:=.tup [V.str "moved",V.int (g a),V.int zs.length]) ht7;have M7:=Mc.same s7;refine⟨m,mx,c,xs',_,a,.ref t7,.mv (g a) (f a).length,rfl,M7,Sm.of (by omega) (by omega),.inr ⟨(by intro z;cases z),t7,rfl,by rw[ab,e5];rfl⟩,?_⟩;rw[tM,if_pos ⟨a0,by omega⟩];intro M8;have bz:But c (upd H6 t7 (.tup [V.str "moved",V.int (g a),V.int zs.length])) _:=But.self (o:=.lst (xs'.set a.toNat (.ref t7)));refine⟨some (.int a),some (.ref lf),xs'.set a.toNat (.ref t7),xs3,rfl,((bx.trans (gg.same sc)).trans (gg.r b6)).trans ((gg.same s7).trans (gg.l bz)),?_,?_⟩
    ·rw[aR ha,rV]
     exact M8
    ·rw[aR ha,rW]
     exact(M26.same s7).but bz (CV ncc) M7.l
  ·rintro σ Hx ⟨v7,v8,xs',qX,rfl,bx,Mx,M2x⟩
   rw[lk,Cp (Cg _)]at Mx M2x;have hpx:=kpt bx (by intro xs z;cases z) hp5;have hlx:=bx _ _ nlc BY (sA _ _ hl);have ryx:=(ry.keep (bN.of sA)).keep (tpx bx);have er:=ry.1;have rl:=S.rl;refine⟨_,rfl,l,rfl,⟨_,SqL.of hlx⟩,λL1 hL1=>?_⟩;refine gJ (K:=K) (a:=l) (xs:=ys) (λj zs Hc=>au Hx Hc∧Hc L1=some (.lst zs)∧MR Hc zs ((rs.take j).map (anew g))) ⟨au.upd hL1,ab,rfl,(λj v w h=>by cases h)⟩ (λj zs Hc hj ⟨_,y,r⟩=>⟨y,by rw[r.1,Cn,CA];omega⟩) (λj zs Hc _ ⟨sc,_⟩=>SqL.of (sc _ _ hlx)) (fN (by omega)) (λj v zs Hc hj ⟨sc,y,r⟩=>?_) (λzs Hc ⟨sc,y,r⟩=>?_)
   ·have hjl:j<rs.length:=by rw[←er];exact(Cd.mp hj).1
    have hw:rs[j]?=some rs[j]:=Cc hjl;obtain⟨w,ew⟩:∃ w,rs[j]=w:=⟨_,rfl⟩;rw[ew]at hw;have mw:w∈Wl rs f R:=Dc _ (Ct hw);refine⟨_,rfl,_,rfl,v,w,p,kvp,R,g,rfl,(ryx.2 j v w hj hw).keep (bN.of sc),(wR w mw).1,.inr ⟨op,sc _ _ hpx⟩,dg,(wR w mw).2,λv' H' s' mv'=>⟨s' _ _ y,λb u z=>by rw[ag (ae z hL1)];exact s' _ _ (sc b u z),ab,?_⟩⟩;have tu:bN H' (upd H' L1 (.lst (zs++[v']))):=λb us z=>by rw[ag (bo z (s' _ _ y) (by intro z;cases z))];exact z
    rw[aR hw,CF];exact((r.keep (bN.of s')).snoc mv').keep tu
   ·rw[er,Cp (Cg _)]at r
    have lp:=dg.k.len;have eg2:=dg.k;unfold Kys at eg2;have hpc:=sc _ _ hpx;refine⟨_,rfl,p,op,kvp,rfl,hpc,λL2 hL2=>?_⟩;refine lQ (d:=p) (o:=op) (kvs:=kvp) (λj ps Hd=>au Hc Hd∧Hd L2=some (.lst ps)∧Prs Hd ps (R.take j) g) ⟨au.upd hL2,ab,rfl,(λj v w h=>by cases h)⟩ (λj ps Hd hj ⟨_,y,r⟩=>⟨y,by rw[r.1,CA];omega⟩) (λj ps Hd _ ⟨sd,_⟩=>sd _ _ hpc) (fN (by omega)) (λj pr ps Hd hj ⟨sd,y2,r2⟩=>?_) (λps Hd ⟨sd,y2,r2⟩=>?_)
    ·have hk:(kvp.map (·.1))[j]?=some pr.1:=by rw[Cq,hj];rfl
     rw[eg2,Cq]at hk;obtain⟨a,ha,ep⟩:=CD.mp hk;have ma:=Ct ha;rw[←ep];refine⟨_,rfl,_,rfl,_,rfl,p,_,rfl,.inl ⟨kvp,Sum.inl a,.inr ⟨op,sd _ _ hpc⟩,rfl,(dg.v a ma).symm⟩,by show 2≤sizeLine;decide,λt9 h9=>?_⟩;have s9:=au.upd (o:=.tup [V.int a,V.int (g a)]) h9;have z9:=s9 _ _ y2;refine⟨z9,λb u z=>by rw[ag (ae z hL2)];exact s9 _ _ (sd b u z),ab,?_⟩;rw[aR ha];exact((r2.keep (bN.of s9)).snoc ab).keep λb us z=>by rw[ag (bo z z9 (by intro z;cases z))];exact z
    ·rw[lp,Cp (Cg _)]at r2
     refine⟨by show 2≤sizeLine;decide,λpp hpp=>?_⟩;have s10:=au.upd (o:=.tup [V.ref L1,V.ref L2]) hpp;have sF:=(sc.trans sd).trans s10;have n1:H L1=none:=by
      cases e:H L1 with
      | none=>rfl
      | some u =>
       exfalso;by_cases c1:L1=c
       ·rw[c1,Mx.l]at hL1;cases hL1
       ·by_cases c2':L1=c2
        ·rw[c2',M2x.l]at hL1;cases hL1
        ·rw[bx _ _ c1 c2' (sA _ _ e)]at hL1;cases hL1
     have n2:H L2=none:=by
      cases e:H L2 with
      | none=>rfl
      | some u =>
       exfalso;have uw:=au.none sc hL2;by_cases c1:L2=c
       ·rw[c1,Mx.l]at uw;cases uw
       ·by_cases c2':L2=c2
        ·rw[c2',M2x.l]at uw;cases uw
        ·rw[bx _ _ c1 c2' (sA _ _ e)]at uw;cases uw
     exact kk pp L1 zs L2 ps xs' qX _ bf hB (((gg.same sA).trans bx).trans (gg.same sF)) (Mx.same sF) (M2x.same sF) n1 n2 ab ((sd.trans s10) _ _ y) (r.keep (bN.of (sd.trans s10))) (s10 _ _ y2) (r2.keep (bN.of s10))
end
end K41
end
section
namespace L2
open PySem PySem.Spec PyProof.Rows LX
def B0:List V→Hp→VK→Prop:=λvs H Q=>∃ n:Int,vs=[.int n]∧∀ r,H r=none→Q (.ref r) (upd H r (.rng 0 n))
section
variable{X:Cx}
theorem tO:jz X (.type "range") B0:=by
 rintro pins s σ H xs us Q I r ⟨n,rfl,q⟩;obtain⟨u,rfl,t,rfl⟩:=r.one;refine call_range_1 ⟨.ref s.heap.objs.size,_,I.laid (a:=s.heap.objs.size) (o:=.rng 0 n) (t':=s.toks+1+1) (λb o e=>Ce _ e) (Cg _) ⟨_,_,_,CB _ rfl⟩,rfl,q _ (I.hok.fresh (Cg _))⟩
end
end L2
end
section
namespace K41
open PySem L2 LX
section
variable{P:Program}{w:World}{K:W.Frag}{mg:Str→Option Value}{base:Heap}{D:Ad}
theorem qY{H H':Hp}{a:Addr}{xs:List V}(h:SqL K H a xs)(s:au H H'):SqL K H' a xs:=Or.imp (λr=>Or.elim r (λe=>.inl (s _ _ e)) λ⟨o,e⟩=>.inr ⟨o,s _ _ e⟩) id h
def ni(K:W.Frag):Sp:=λvs H Q _=>∃(a:Addr) (ns:List Int) (j:Int),vs=[.ref a,.int j]∧SqL K H a (ns.map V.int)∧0≤j∧Q (.int (ns.getD j.toNat 0)) H
abbrev oe:List Str:=["script", "k"]
theorem mB:aG oe ["script", "k"] (aj gA):=⟨rfl,rfl,rfl,by decide +kernel,rfl,by decide +kernel,by decide +kernel⟩
theorem mC(F:Fun K "_law_cell" "_law_cell" gA D.bF D.cU)(T:Txt K mg D):Ok P w K mg base 1 D.bF D.cU ["script", "k"] (ni K):=by
 refine⟨?_,F.binds (ps:=["script", "k"]) λ_ _ _ _ _ _ us hl=>match us,hl with|[_,_],_=>rfl⟩
 refine F.okE mB (λvs H Q E h=>?_) (λcdv A' outer s' H vs Q E hr h=>?_)
 ·obtain⟨a,ns,j,rfl,_⟩:=h
  rfl
 ·obtain⟨a,ns,j,rfl,hS,j0,k⟩:=h
  refine⟨_,(PSs.nox (af (fW (aW nz (pv 1) (bJ aI rfl T.e7 PyProof.Rows.Boot.«len» (aa (pv 0) ah)) (bT _))
    (ak (bA (cn cB (pv 0) (pv 1) (λ_ _=>rfl))))
    cH)
   (ak (bA ai)))),?_⟩
  refine⟨_,rfl,_,rfl,a,_,rfl,.inl hS,j,_,rfl,rfl,_,rfl,jB (λh=>?_) (λh=>?_)⟩
  case refine_2 =>
   have hl:ns.length≤j.toNat:=by
    have h:=of_decide_eq_false (Bool.eq_false_iff.mpr h);rw[Cn]at h;omega
   rw[Cz,List.getElem?_eq_none_iff.mpr hl]at k;exact k
  have hl:j.toNat<ns.length:=by
   have:=of_decide_eq_true h
   rw[Cn]at this;omega
  exact⟨_,rfl,_,rfl,a,_,j,.int ns[j.toNat],rfl,rfl,hS,eG j0 (by rw[Cq,Cc hl];rfl),by rw[Cz,Cc hl]at k;exact k⟩
def lT:Sp:=λvs H Q _=>∃ c:Int,vs=[.int c]∧∀(p:Addr) (ds:List Int) (H':Hp),au H H'→H' p=some (.lst (ds.map V.int))→H p=none→ds.length=6→Q (.ref p) H'
abbrev ku:List Str:=["cell", "rest", "told", "k", "near"]
theorem bG:aG ku ["cell"] (aj fj):=⟨rfl,rfl,rfl,by decide +kernel,rfl,by decide +kernel,by decide +kernel⟩
theorem jh(F:Fun K "_law_digits" "_law_digits" fj D.a9 D.cL)(T:Txt K mg D):Ok P w K mg base 1 D.a9 D.cL ["cell"] (lT):=by
 refine⟨?_,F.binds (ps:=["cell"]) λ_ _ _ _ _ _ us hl=>match us,hl with|[_],_=>rfl⟩
 refine F.okE bG (λvs H Q E h=>?_) (λcdv A' outer s' H vs Q E hr h=>?_)
 ·obtain⟨c,rfl,_⟩:=h
  rfl
 ·obtain⟨c,rfl,k⟩:=h
  refine⟨_,(PSs.nox (af (aC (i:=1) bG.nd rfl (Or.inl rfl) (aw dP (pv 0) ai))
   (af (aC (i:=2) bG.nd rfl (Or.inl rfl) (fL ah))
   (af (di CL rfl (dJ rfl T.dS (aa ai ah)) (aE (i:=3) bG.nd rfl (Or.inl rfl))
    (ak (fW (aW sk (aw bS (pv 0) ai) ai (bT _))
     (af (bL (nE PySem.F.plainAttrs_list PySem.F.slot_list_append PySem.F.type_list_append eE (pv 2) (aa (aw bS (pv 1) ai) ah)))
     (ak (aC (i:=1) bG.nd rfl (Or.inl rfl) (aw dP (pv 1) ai))))
     (af (aC (i:=4) bG.nd rfl (Or.inl rfl) (aw bS (aw aS (aw aS (pv 1) (aw fK ai (pv 3))) ai) ai))
     (af (aC (i:=4) bG.nd rfl (Or.inl rfl) (aw aS (aw bS (aw fK (pv 4) (pv 4)) ai) (aw fK ai (pv 3))))
     (ak (bL (nE PySem.F.plainAttrs_list PySem.F.slot_list_append PySem.F.type_list_append eE (pv 2) (aa (aw bS (aw dP (aw bS (aw fK (pv 4) (pv 4)) ai) ai) ai) ah)))))))))
   (ak (bA (pv 2))))))),?_⟩
  refine⟨_,rfl,c,2,rfl,rfl,⟨by decide,by decide⟩,by show 0≤sizeLine;exact CG _,λp hp=>?_⟩;refine⟨6,rfl,by decide,by decide,lD (lo:=0) (n:=6) (λi σ H2=>∃(r:Int) (v3 v4:Option V) (ds:List Int),σ=[some (.int c),some (.int r),some (.ref p),v3,v4]∧au H H2∧H2 p=some (.lst (ds.map V.int))∧ds.length=i)
   ⟨_,none,none,[],rfl,au.upd hp,ab,rfl⟩ ?_ ?_⟩
  ·rintro i σ H2 hi ⟨r,v3,v4,ds,rfl,s2,z,hl⟩
   have fin:∀ d:Int,au H (upd H2 p (.lst (ds.map V.int++[V.int d])))∧upd H2 p (.lst (ds.map V.int++[V.int d])) p=some (.lst ((ds++[d]).map V.int))∧(ds++[d]).length=i+1:=λd =>
    ⟨λb u q=>by rw[ag (ae q hp)];exact s2 b u q,by rw[ab,CF];rfl,by rw[Cs,hl];rfl⟩
   have hz:(ds.map V.int).length<sizeLine:=(by rw[Cn,hl];exact Nat.lt_trans hi (by decide));refine⟨_,rfl,c,2,rfl,rfl,(by show(0:Int)<2;decide),rfl,_,rfl,jB (λ_=>?_) (λ_=>?_)⟩
   ·refine⟨_,rfl,.inl ⟨rfl,_,SqL.of z⟩,_,rfl,r,60,rfl,rfl,(by show(0:Int)<60;decide),p,_,_,rfl,rfl,z,hz,?_⟩
    refine⟨_,rfl,r,60,rfl,rfl,⟨by decide,by decide⟩,?_⟩;exact⟨_,_,_,_,rfl,fin _⟩
   ·refine⟨_,rfl,_,rfl,7919,_,rfl,rfl,.inl ⟨by decide,by decide⟩,r,_,rfl,rfl,_,11,rfl,rfl,_,2305843009213693951,rfl,rfl,(by show(0:Int)<2305843009213693951;decide),?_⟩
    have b0:=CT (r+7919*(0+(i:Int))+11) (show(2305843009213693951:Int)≠0 by decide);have b1:=CJ (r+7919*(0+(i:Int))+11) (show(0:Int)<2305843009213693951 by decide);obtain⟨n1,e1⟩:∃ n1,(r+7919*(0+(i:Int))+11)%2305843009213693951=n1:=⟨_,rfl⟩;rw[e1]at b0 b1;have c0:=CT (n1*n1) (show(1000000007:Int)≠0 by decide);have c1:=CJ (n1*n1) (show(0:Int)<1000000007 by decide);refine⟨_,rfl,_,rfl,_,_,rfl,rfl,.inl ?_,_,1000000007,rfl,rfl,(by show(0:Int)<1000000007;decide),_,rfl,31,_,rfl,rfl,.inl ⟨by decide,by decide⟩,_,_,rfl,rfl,?_⟩
    ·show _<(r+7919*(0+(i:Int))+11)%2305843009213693951∧(r+7919*(0+(i:Int))+11)%2305843009213693951<_
     rw[e1];omega
    ·refine⟨_,rfl,.inl ⟨rfl,_,SqL.of z⟩,_,rfl,_,rfl,_,_,rfl,rfl,.inl ?_,_,998244353,rfl,rfl,(by show(0:Int)<998244353;decide),_,8,rfl,rfl,⟨by decide,by decide⟩,_,60,rfl,rfl,(by show(0:Int)<60;decide),p,_,_,rfl,rfl,z,hz,?_⟩
     ·show _<(r+7919*(0+(i:Int))+11)%2305843009213693951*((r+7919*(0+(i:Int))+11)%2305843009213693951)%1000000007+31*(0+(i:Int))∧(r+7919*(0+(i:Int))+11)%2305843009213693951*((r+7919*(0+(i:Int))+11)%2305843009213693951)%1000000007+31*(0+(i:Int))<_
      rw[e1];omega
     ·exact⟨_,_,_,_,rfl,fin _⟩
  ·rintro σ H2 ⟨r,v3,v4,ds,rfl,s2,z,hl⟩
   exact⟨_,rfl,k p ds H2 s2 z hp hl⟩
def lU(K:W.Frag):Sp:=λvs H Q _=>∃(a:Addr) (ns:List Int),vs=[.ref a,.int 130]∧SqL K H a (ns.map V.int)∧ns.length≤1000∧∀(p:Addr) (ds:List Int) (H':Hp),au H H'→H' p=some (.lst (ds.map V.int))→H p=none→ds.length=130→Q (.ref p) H'
abbrev gW:List Str:=["script", "many", "told", "k", "cell", "place", "digit", "at"]
theorem bH:aG gW ["script", "many"] (aj dB):=⟨rfl,rfl,rfl,by decide +kernel,rfl,by decide +kernel,by decide +kernel⟩
theorem ji(F:Fun K "_law_stream" "_law_stream" dB D.ba D.cM)(T:Txt K mg D)
  (dF:Ok P w K mg base 1 D.a9 D.cL ["cell"] (lT)):Ok P w K mg base 2 D.ba D.cM ["script", "many"] (lU K):=by
 refine⟨?_,F.binds (ps:=["script", "many"]) λ_ _ _ _ _ _ us hl=>match us,hl with|[_,_],_=>rfl⟩
 refine F.okE bH (λvs H Q E h=>?_) (λcdv A' outer s' H vs Q E hr h=>?_)
 ·obtain⟨a,ns,rfl,_⟩:=h
  rfl
 ·obtain⟨a,ns,rfl,hS,hz,k⟩:=h
  refine⟨_,(PSs.nox (af (jH (cl:=[]) (x := "k") (idx:=[]) (NC:=["k"]) (i:=2) bH.nd rfl rfl (by exact du (sc:=aj dB) (N:=gW) (ns:=[]) rfl rfl rfl (by decide +kernel) rfl rfl (by intro q hq;cases hq)) rfl (dJ rfl T.dS (aa (pv 1) ah)) (λC fp s₀ H₀=>(aw bS (aw aS (aw aS (aw fK (aw fK (pv 0) (pv 0)) ai) (aw fK ai (pv 0))) ai) ai)))
   (af (di CL rfl (jG rfl T.cV (aa (pv 0) ah)) (gh rfl (aM (aE (i:=3) bH.nd rfl (Or.inl rfl)) (aM (aE (i:=4) bH.nd rfl (Or.inl rfl)) eK)))
    (ak (di CL rfl (jG rfl T.cV (aa (aL dF.g (hr.mono (by decide)) rfl T.kh T.fz dF.b .nil cq (aa (pv 4) ah)) ah)) (gh rfl (aM (aE (i:=5) bH.nd rfl (Or.inl rfl)) (aM (aE (i:=6) bH.nd rfl (Or.inl rfl)) eK)))
     (af (aC (i:=7) bH.nd rfl (Or.inl rfl) (aw bS (aw aS (aw fK ai (pv 3)) (pv 5)) (pv 1)))
     (ak (ka (aw bS (aw aS (aw fK (cn cB (pv 2) (pv 7) (λ_ _=>rfl)) ai) (pv 6)) ai) (nu (pv 2) (pv 7) set_list)))))))
   (ak (bA (pv 2)))))),?_⟩
  refine⟨_,rfl,130,rfl,by decide,by decide,λDd hD=>?_⟩;refine eM (lo:=0) (n:=130) (λi zs H2=>∃ ds:List Int,zs=ds.map V.int∧ds.length=i∧au H H2∧H2 Dd=some (.lst zs)) ⟨[],rfl,rfl,au.upd hD,ab⟩ (λi zs H2 hi ⟨ds,e,l,_,z⟩=>⟨z,by rw[e,Cn];exact l⟩)
   (by decide) (λi zs H2 hi ⟨ds,e,l,s2,z⟩=>?_) (λzs H2 ⟨ds,e,l,s2,z⟩=>?_)
  ·refine⟨_,rfl,_,rfl,0+(i:Int),0+(i:Int),rfl,rfl,.inl ⟨by omega,by omega⟩,_,7,rfl,rfl,.inr ⟨by decide,by decide⟩,_,rfl,13,_,rfl,rfl,.inl ⟨by decide,by decide⟩,_,_,rfl,rfl,_,5,rfl,rfl,_,61,rfl,rfl,(by show(0:Int)<61;decide),z,ds++[((0+(i:Int))*(0+(i:Int))*7+13*(0+(i:Int))+5)%61],?_,?_,?_,ab⟩
   ·rw[CF,e];rfl
   ·rw[Cs,l];rfl
   ·exact λb u q=>by rw[ag (ae q hD)];exact s2 b u q
  ·have fin:∀ {H3:Hp} {zs:List V},au H H3→au H (upd H3 Dd (.lst zs)):=λs3 b u q=>by rw[ag (ae q hD)];exact s3 b u q
   refine⟨_,rfl,a,rfl,⟨_,qY hS s2⟩,ij (K:=K) (a:=a) (xs:=ns.map V.int) (λi σ H3=>∃(v3 v4 v5 v6 v7:Option V) (ds:List Int),σ=[some (.ref a),some (.int 130),some (.ref Dd),v3,v4,v5,v6,v7]∧au H H3∧H3 Dd=some (.lst (ds.map V.int))∧ds.length=130)
    ⟨none,none,none,none,none,ds,rfl,s2,by rw[←e];exact z,l⟩ (λi σ H3 _ ⟨_,_,_,_,_,_,_,s3,_⟩=>qY hS s3) ?_ ?_⟩
   ·rintro i x σ H3 t hi ⟨v3,v4,v5,v6,v7,ds3,rfl,s3,z3,l3⟩ ht
    have hlt:i<ns.length:=(by have:=(Cd.mp hi).1;rwa[Cn]at this);rw[Cq]at hi;obtain⟨n,hn,rfl⟩:=CD.mp hi;have s4:au H (upd H3 t (.tup [.int (i:Int),.int n])):=s3.trans (au.upd ht);have z4:upd H3 t (.tup [.int (i:Int),.int n]) Dd=some (.lst (ds3.map V.int)):=(by rw[ag (ae z3 ht)];exact z3);refine⟨t,_,rfl,SqT.of ab,rfl,_,_,rfl,_,_,rfl,rfl,?_⟩;refine⟨_,rfl,n,rfl,λp2 ds2 H5 s5 z5 hp2 l2=>?_⟩;have nD:Dd≠p2:=ae z4 hp2;refine⟨p2,rfl,⟨_,SqL.of z5⟩,ij (K:=K) (a:=p2) (xs:=ds2.map V.int) (λj σ H6=>∃(v5 v6 v7:Option V) (ds:List Int),σ=[some (.ref a),some (.int 130),some (.ref Dd),some (.int (i:Int)),some (.int n),v5,v6,v7]∧au H H6∧H6 Dd=some (.lst (ds.map V.int))∧ds.length=130∧H6 p2=some (.lst (ds2.map V.int)))
     ⟨_,_,_,ds3,rfl,s4.trans s5,s5 _ _ z4,l3,z5⟩ (λj σ H6 _ ⟨_,_,_,_,_,_,_,_,q⟩=>SqL.of q) ?_ ?_⟩
    ·rintro j y σ H6 t2 hj ⟨v5,v6,v7,ds6,rfl,s6,z6,l6,q6⟩ ht2
     have hjt:j<ds2.length:=(by have:=(Cd.mp hj).1;rwa[Cn]at this);rw[Cq]at hj;obtain⟨d,hd,rfl⟩:=CD.mp hj;have s7:au H (upd H6 t2 (.tup [.int (j:Int),.int d])):=s6.trans (au.upd ht2);have z7:upd H6 t2 (.tup [.int (j:Int),.int d]) Dd=some (.lst (ds6.map V.int)):=(by rw[ag (ae z6 ht2)];exact z6);have q7:upd H6 t2 (.tup [.int (j:Int),.int d]) p2=some (.lst (ds2.map V.int)):=(by rw[ag (ae q6 ht2)];exact q6);refine⟨t2,_,rfl,SqT.of ab,rfl,_,_,rfl,_,_,rfl,rfl,?_⟩;refine⟨_,rfl,6,_,rfl,rfl,.inl ⟨by decide,by decide⟩,_,rfl,_,_,rfl,rfl,_,rfl,_,130,rfl,rfl,(by show(0:Int)<130;decide),?_⟩;have b0:=CT (6*(i:Int)+(j:Int)) (show(130:Int)≠0 by decide);have b1:=CJ (6*(i:Int)+(j:Int)) (show(0:Int)<130 by decide);obtain⟨m,em⟩:∃ m:Nat,(6*(i:Int)+(j:Int))%130=(m:Int):=⟨((6*(i:Int)+(j:Int))%130).toNat,by omega⟩;have hm:m<ds6.length:=(by omega);have hat:atI (ds6.map V.int) ((6*(i:Int)+(j:Int))%130)=some (.int (ds6[m]'hm)):=by
      rw[em];exact qN (by rw[Cq,Cc hm];rfl)
     have hix:ixN (ds6.map V.int).length ((6*(i:Int)+(j:Int))%130)=some m:=by
      rw[em];unfold ixN;rw[if_pos (by omega),if_pos (by rw[Cn];omega)];rfl
     refine⟨_,rfl,_,rfl,Dd,_,_,.int (ds6[m]'hm),rfl,rfl,SqL.of z7,hat,_,7,rfl,rfl,.inr ⟨by decide,by decide⟩,_,rfl,_,_,rfl,rfl,_,100003,rfl,rfl,(by show(0:Int)<100003;decide),?_⟩;refine⟨_,rfl,_,rfl,Dd,_,_,m,rfl,rfl,z7,hix,?_⟩;refine⟨_,_,_,ds6.set m ((ds6[m]'hm*7+d)%100003),rfl,fin s7,?_,by rw[CS];exact l6,?_⟩
     ·rw[ab,List.map_set]
     ·rw[ag (CV nD)]
      exact q7
    ·rintro σ H6 ⟨v5,v6,v7,ds6,rfl,s6,z6,l6,_⟩
     exact⟨_,_,_,_,_,ds6,rfl,s6,z6,l6⟩
   ·rintro σ H3 ⟨v3,v4,v5,v6,v7,ds3,rfl,s3,z3,l3⟩
    exact⟨_,rfl,k Dd ds3 H3 s3 z3 hD l3⟩
def Wby(ps:List Int)(w:Mw):Prop:=w=.no∨(∃ z,w=.num z)∨∃ a∈ps,w=.ad a
def wo:Sp:=λvs H Q _=>∃(n:Int) (lp:Addr) (ps:List Int),vs=[.int n,.ref lp]∧H lp=some (.lst (ps.map V.int))∧∀ v w H',au H H'→MV H' v w→Wby ps w→Q v H'
abbrev jj:List Str:=["number", "places"]
theorem iV:aG jj ["number", "places"] (aj eB):=⟨rfl,rfl,rfl,by decide +kernel,rfl,by decide +kernel,by decide +kernel⟩
theorem iW(F:Fun K "_law_word_by" "_law_word_by" eB D.aV D.cy)(T:Txt K mg D):Ok P w K mg base 1 D.aV D.cy ["number", "places"] (wo):=by
 refine⟨?_,F.binds (ps:=["number", "places"]) λ_ _ _ _ _ _ us hl=>match us,hl with|[_,_],_=>rfl⟩
 refine F.okE iV (λvs H Q E h=>?_) (λcdv A' outer s' H vs Q E hr h=>?_)
 ·obtain⟨n,lp,ps,rfl,_⟩:=h
  rfl
 ·obtain⟨n,lp,ps,rfl,hl,k⟩:=h
  have hu:=Nat.lt_of_succ_lt (iO hr);refine⟨_,(PSs.nox (af (fW (PW.pt (pw_or (aW sk (aw bS (pv 0) ai) ai (bT _)) (pw_or1 (PW.pt (pw_and (aW uG (aw bS (pv 0) ai) ai (bT _)) (pw_and1 (aW (xi hu) (pv 1) (fL ah) (bT _))))))))
    (ak (bA (cT (aa dX (aa (aw wL (aw dP (pv 0) ai) ai) ah)))))
    cH)
   (af (fW (aW sk (aw bS (pv 0) ai) ai (bT _))
    (ak (bA ib))
    cH)
   (ak (bA (cT (aa dX (aa (cn cB (pv 1) (aw bS (aw dP (pv 0) ai) (bJ aI rfl T.e7 PyProof.Rows.Boot.«len» (aa (pv 1) ah))) (λ_ _=>rfl)) ah)))))))),?_⟩
  refine⟨_,rfl,n,4,rfl,rfl,(by show(0:Int)<4;decide),rfl,_,rfl,jB (λ_=>vb ⟨_,rfl,n,4,rfl,rfl,⟨by decide,by decide⟩,_,5000,rfl,rfl,by show 2≤sizeLine;decide,λq hq=>k _ (.num (n/4-5000)) _ (au.upd hq) (.inr ⟨(by intro z;cases z),q,rfl,ab⟩) (.inr (.inl ⟨_,rfl⟩))⟩) (λh1=>?_)⟩;have m0:=CT n (show(4:Int)≠0 by decide);have m1:=CJ n (show(0:Int)<4 by decide);have r1:n%4≠1:=λe=>h1 (by show decide (V.int (n%4)=V.int 1)=true;rw[e];rfl);refine⟨_,rfl,n,4,rfl,rfl,(by show(0:Int)<4;decide),_,1,rfl,rfl,_,rfl,?_⟩;by_cases c2:1<n%4
  ·refine d6 (decide_eq_true c2) ⟨_,rfl,by show 0≤sizeLine;exact CG _,λe he=>?_⟩
   have s1:=au.upd (o:=.lst []) he;refine⟨lp,e,ps,[],rfl,rfl,SqL.of (s1 _ _ hl),SqL.of ab,_,rfl,?_⟩;by_cases cp:ps=[]
   ·exact d6 (decide_eq_true cp) ⟨_,rfl,n,4,rfl,rfl,⟨by decide,by decide⟩,_,5000,rfl,rfl,by show 2≤sizeLine;decide,λq hq=>k _ (.num (n/4-5000)) _ (s1.trans (au.upd hq)) (.inr ⟨(by intro z;cases z),q,rfl,ab⟩) (.inr (.inl ⟨_,rfl⟩))⟩
   ·have lz:0<ps.length:=List.length_pos_iff.mpr cp
    have q0:=CT (n/4) (show(ps.length:Int)≠0 by omega);have q1:=CJ (n/4) (show(0:Int)<ps.length by omega);have hx:ps[(n/4%(ps.length:Int)).toNat]?=some (ps[(n/4%(ps.length:Int)).toNat]'(by omega)):=Cc _;refine dO (decide_eq_false cp) ⟨_,rfl,n,4,rfl,rfl,(by show(0:Int)<4;decide),rfl,_,rfl,dO (by simp;omega) ⟨_,rfl,_,rfl,n,4,rfl,rfl,⟨by decide,by decide⟩,_,rfl,lp,_,rfl,.inl (SqL.of (s1 _ _ hl)),_,_,rfl,rfl,?_,lp,_,_,.int _,rfl,rfl,SqL.of (s1 _ _ hl),eG ?_ (by rw[Cn,Cq,hx];rfl),by show 2≤sizeLine;decide,λq hq=>k _ (.ad _) _ (s1.trans (au.upd hq)) (.inr ⟨(by intro z;cases z),q,rfl,ab⟩) (.inr (.inr ⟨_,Ct hx,rfl⟩))⟩⟩
    ·rw[Cn];omega
    ·rw[Cn];exact q0
  ·refine dO (decide_eq_false c2) (xO ⟨_,rfl,n,4,rfl,rfl,(by show(0:Int)<4;decide),rfl,_,rfl,d6 (by simp;omega) ?_⟩)
   exact k .non .no H (au.refl _) (.inl ⟨rfl,rfl⟩) (.inl rfl)
theorem AZ(ns:List Int)(lo hi:Option Int):sJ (ns.map V.int) lo hi=((ns.drop (HT.sIx ns.length 0 lo)).take (HT.sIx ns.length ns.length hi-HT.sIx ns.length 0 lo)).map V.int:=by
 unfold sJ;rw[Cn,List.map_take,List.map_drop]
theorem A0(ds:List Int)(u s:Nat)(h:u+s≤ds.length){lo hi:Int}(e1:lo=u)(e2:hi=((u+s:Nat):Int)):∃ cs:List Int,sJ (ds.map V.int) (some lo) (some hi)=cs.map V.int∧cs.length=s:=by
 subst e1 e2;refine⟨_,AZ ds _ _,?_⟩;rw[HT.qK,HT.qK,CA,Di];omega
def BP(Pt:Addr)(H H':Hp):Prop:=But Pt H H'∧∃ ps,H' Pt=some (.tbl ps)
theorem BP.same{Pt:Addr}{H H1 H2:Hp}(b:BP Pt H H1)(s:au H1 H2):BP Pt H H2:=⟨b.1.trans (But.same s),let ⟨ps,e⟩:=b.2;⟨ps,s _ _ e⟩⟩
theorem BP.low{Pt:Addr}{H H1 H2:Hp}(b:BP Pt H1 H2)(s:au H H1):BP Pt H H2:=⟨(But.same s).trans b.1,b.2⟩
theorem BP.non{Pt:Addr}{H H':Hp}(b:BP Pt H H'){x:Addr}(h:H' x=none):H x=none:=by
 cases e:H x with
 | none=>rfl
 | some u =>
  by_cases c:x=Pt
  ·obtain⟨ps,q⟩:=b.2
   rw[c,q]at h;cases h
  ·rw[b.1 _ _ c e]at h;cases h
theorem BP.put{Pt:Addr}{H H':Hp}(b:BP Pt H H'){x:Addr}{o:HO}(h:H x=none)(n:x≠Pt):BP Pt H (upd H' x o) :=
 ⟨λy u ny q=>by rw[ag (ae q h)];exact b.1 y u ny q,let ⟨ps,e⟩:=b.2;⟨ps,by rw[ag (CV n)];exact e⟩⟩
structure wt(zs pl:List Int)(dn:List Nat)(at':Int):Prop where
 lo:∀ j∈dn,0≤pl.getD j 0∧pl.getD j 0+zs.getD j 0<at'
 ap:∀ j∈dn,∀ k∈dn,j≠k→pl.getD j 0+zs.getD j 0<pl.getD k 0∨pl.getD k 0+zs.getD k 0<pl.getD j 0
theorem pG{l:List Int}{k j:Nat}{v:Int}(h:k<l.length):(l.set k v).getD j 0=if j=k then v else l.getD j 0:=by
 rw[Cz,DO,Cz];by_cases c:k=j
 ·rw[if_pos c,if_pos (by omega),if_pos c.symm];rfl
 ·rw[if_neg c,if_neg (CV c)]
theorem wt.put{zs pl:List Int}{dn:List Nat}{at' at2:Int}{k:Nat}(h:wt zs pl dn at')(n:k∉dn)(hk:k<pl.length)(a0:0≤at')(hz:0≤zs.getD k 0)(h2:at'+zs.getD k 0<at2):wt zs (pl.set k at') (dn++[k]) at2:=by
 have ot:∀ j∈dn,(pl.set k at').getD j 0=pl.getD j 0:=λj m=>by rw[pG hk,if_neg (λe=>n (by rw[←e];exact m))]
 have me:(pl.set k at').getD k 0=at':=by rw[pG hk,if_pos rfl]
 refine⟨λj m=>?_,λi mi j mj ne=>?_⟩
 ·rcases Cy.mp m with m|m
  ·have:=h.lo j m
   rw[ot j m];omega
  ·rw[Cf.mp m,me]
   omega
 ·rcases Cy.mp mi with mi|mi
  ·rcases Cy.mp mj with mj|mj
   ·rw[ot i mi,ot j mj];exact h.ap i mi j mj ne
   ·rw[Cf.mp mj,ot i mi,me]
    have:=h.lo i mi
    omega
  ·rcases Cy.mp mj with mj|mj
   ·rw[Cf.mp mi,ot j mj,me]
    have:=h.lo j mj
    omega
   ·exact absurd ((Cf.mp mi).trans (Cf.mp mj).symm) ne
abbrev Tg:=Int×Int×List Mw
structure Bt(ts:List Tg)(rs:List Mw)(sz:Int):Prop where
 n:ts.length≤10
 rl:rs.length≤9
 fl:∀ x∈ts,x.2.2.length≤6
 lo:∀ x∈ts,0≤x.2.1
 hi:∀ x∈ts,x.2.1+x.2.2.length<sz
 ap:∀(i j:Nat) (x y:Tg),i≠j→ts[i]?=some x→ts[j]?=some y→x.2.1+x.2.2.length<y.2.1∨y.2.1+y.2.2.length<x.2.1
 rw:∀ w∈rs,Wby (ts.map (·.2.1)) w
 fw:∀ x∈ts,∀ w∈x.2.2,Wby (ts.map (·.2.1)) w
 z0:0≤sz
 z1:sz≤1000
 t0:∀ x∈ts,0≤x.1
 t1:∀ x∈ts,x.1≤1000
def ThV(H:Hp)(v:V)(x:Tg):Prop:=∃ q lf zs,v=.ref q∧H q=some (.tup [.int x.1,.int x.2.1,.ref lf])∧H lf=some (.lst zs)∧MR H zs x.2.2
def ThL(H:Hp)(tv:List V)(ts:List Tg):Prop:=tv.length=ts.length∧∀(i:Nat) (v:V) (x:Tg),tv[i]?=some v→ts[i]?=some x→ThV H v x
theorem ThV.keep{H H':Hp}{v:V}{x:Tg}(h:ThV H v x)(s:∀ b u,H b=some u→(∀ kvs,u≠.dK kvs)→H' b=some u):ThV H' v x:=by
 obtain⟨q,lf,zs,e,h1,h2,h3⟩:=h;exact⟨q,lf,zs,e,s _ _ h1 (by intro k z;cases z),s _ _ h2 (by intro k z;cases z),h3.keep λt us y=>s _ _ y (by intro k z;cases z)⟩
theorem ThL.same{H H':Hp}{tv:List V}{ts:List Tg}(h:ThL H tv ts)(s:au H H'):ThL H' tv ts:=⟨h.1,λi v x a b=>(h.2 i v x a b).keep λb u y _=>s b u y⟩
def pH(K:W.Frag)(Pt:Addr):Sp:=λvs H Q _=>∃(a:Addr) (ns:List Int),vs=[.ref a]∧SqL K H a (ns.map V.int)∧ns.length≤63∧H Pt=some (.tbl #[])∧∀ p lt tv lr rv sz ts rs H',But Pt H H'→H' p=some (.tup [.ref lt,.ref lr,.int sz])→H' lt=some (.lst tv)→H' lr=some (.lst rv)→ThL H' tv ts→MR H' rv rs→Bt ts rs sz→H lt=none→H lr=none→Q (.ref p) H'
abbrev cE:List Str:=["script", "cell", "stream", "many", "sizes", "places", "at", "k", "things", "used", "fields", "roots"]
theorem ay:aG cE ["script"] (aj bM):=⟨rfl,rfl,rfl,by decide +kernel,rfl,by decide +kernel,by decide +kernel⟩
theorem ky(F:Fun K "_law_built" "_law_built" bM D.br D.cD)(T:Txt K mg D){cc Pt:Addr}(lh:D.cD.code=.ref cc)(TB:jL K mg base cc Pt)
  (b8:Ok P w K mg base 1 D.bF D.cU ["script", "k"] (ni K))
  (dG:Ok P w K mg base 2 D.ba D.cM ["script", "many"] (lU K))
  (bY:Ok P w K mg base 1 D.aV D.cy ["number", "places"] (wo)):Ok P w K mg base 6 D.br D.cD ["script"] (pH K Pt):=by
 refine⟨?_,F.binds (ps:=["script"]) λ_ _ _ _ _ _ us hl=>match us,hl with|[_],_=>rfl⟩
 refine F.okC lh ay (λvs H Q E h=>?_) (λA' outer s' H vs Q E hr h=>?_)
 ·obtain⟨a,ns,rfl,_⟩:=h
  rfl
 ·obtain⟨a,ns,rfl,hS,hl,hPt,k⟩:=h
  refine⟨_,(PSs.nox (af (aC (i:=1) ay.nd rfl (Or.inl rfl) (aL b8.g (hr.mono (by decide)) rfl T.iL T.eZ b8.b .nil cq (aa (pv 0) (aa ai ah))))
   (af (aC (i:=2) ay.nd rfl (Or.inr rfl) (aL dG.g (hr.mono (by decide)) rfl T.ki T.fA dG.b .nil cq (aa (jT m5 (pv 0) (iu ai) u6) (aa ai ah))))
   (af (aC (i:=3) ay.nd rfl (Or.inl rfl) (cn cB (fL (aa ai (aa ai (aa ai (aa ai (aa ai (aa ai ah))))))) (aw bS (pv 1) ai) (λ_ _=>rfl)))
   (af (jH (cl:=[("stream",s'.heap.objs.size+2)]) (x := "k") (idx:=[2]) (NC:=["k", "stream"]) (i:=4) ay.nd rfl rfl (by exact du (sc:=aj bM) (N:=cE) (ns:=["stream"]) rfl rfl rfl (by decide +kernel) rfl rfl (by intro q hq;rw[Cf.mp hq];rfl)) rfl (dJ rfl T.dS (aa (pv 3) ah)) (λC fp s₀ H₀=>(aw bS (cn (r:=xK K) cB (pv 1) (pv 0) (λ_ _=>rfl)) ai)))
   (af (aC (i:=5) ay.nd rfl (Or.inr rfl) (gb (cl:=[]) (x := "k") (idx:=[]) (NC:=["k"]) (by exact du (sc:=aj bM) (N:=cE) (ns:=[]) rfl rfl rfl (by decide +kernel) rfl rfl (by intro q hq;cases hq)) rfl (dJ rfl T.dS (aa (pv 3) ah)) (λC fp s₀ H₀=>ai)))
   (af (aC (i:=6) ay.nd rfl (Or.inl rfl) (aw bS (aw dP (pv 1) ai) ai))
   (af (di CL rfl (dq (qc (cc:=cc) (Pt:=Pt) (k:=1) (cl:=[("stream",s'.heap.objs.size+2)]) (x := "k") (idx:=[2]) (NC:=["k", "stream"]) (hr.mono (by decide)) rfl rfl T.j1 (aa (eD tO rfl T.dS PyProof.Rows.Boot.«range» (aa (pv 3) ah)) ah) (by exact xk (sc:=aj bM) (N:=cE) (ns:=["stream"]) rfl rfl rfl rfl rfl (by decide +kernel) rfl rfl (by intro q hq;rw[Cf.mp hq];rfl)) rfl TB rfl (λ_ _ _ _=>rfl) (λA L f cd s₀ H₀=>(cT (aa (cn (r:=xK K) cB (pv 1) (aw aS ai (pv 0)) (λ_ _=>rfl)) (aa (pv 0) ah)))))) (aE (i:=7) ay.nd rfl (Or.inl rfl))
    (af (ka (pv 6) (nu (pv 5) (pv 7) set_list))
    (ak (aC (i:=6) ay.nd rfl (Or.inl rfl) (aw aS (aw aS (aw aS (pv 6) (cn cB (pv 4) (pv 7) (λ_ _=>rfl))) ai) (aw bS (cn cB (pv 2) (aw aS ai (pv 7)) (λ_ _=>rfl)) ai))))))
   (af (aC (i:=8) ay.nd rfl (Or.inl rfl) (fL ah))
   (af (aC (i:=9) ay.nd rfl (Or.inl rfl) ai)
   (af (di CL rfl (dJ rfl T.dS (aa (pv 3) ah)) (aE (i:=7) ay.nd rfl (Or.inl rfl))
    (af (jH (cl:=[("places",s'.heap.objs.size+1)]) (x := "number") (idx:=[5]) (NC:=["number", "places"]) (i:=10) ay.nd rfl rfl (by exact du (sc:=aj bM) (N:=cE) (ns:=["places"]) rfl rfl rfl (by decide +kernel) rfl rfl (by intro q hq;rw[Cf.mp hq];rfl)) rfl (dq (jT m5 (pv 2) (iu (pv 9)) (iu (aw aS (pv 9) (cn cB (pv 4) (pv 7) (λ_ _=>rfl)))))) (λC fp s₀ H₀=>(aL bY.g (hr.mono (by decide)) rfl T.gu T.c9 bY.b .nil nM (aa (pv 0) (aa (pv 1) ah)))))
    (af (aC (i:=9) ay.nd rfl (Or.inl rfl) (aw aS (pv 9) (cn cB (pv 4) (pv 7) (λ_ _=>rfl))))
    (ak (bL (nE PySem.F.plainAttrs_list PySem.F.slot_list_append PySem.F.type_list_append eE (pv 8) (aa (cT (aa (aw aS (aw fK (pv 7) (aw aS ai (aw bS (aw dP (pv 1) ai) ai))) (aw bS (aw dP (pv 1) ai) ai)) (aa (cn cB (pv 5) (pv 7) (λ_ _=>rfl)) (aa (pv 10) ah)))) ah)))))))
   (af (jH (cl:=[("places",s'.heap.objs.size+1)]) (x := "number") (idx:=[5]) (NC:=["number", "places"]) (i:=11) ay.nd rfl rfl (by exact du (sc:=aj bM) (N:=cE) (ns:=["places"]) rfl rfl rfl (by decide +kernel) rfl rfl (by intro q hq;rw[Cf.mp hq];rfl)) rfl (dq (jT m5 (pv 2) (iu ai) (iu (aw aS ai (aw bS (aw dP (pv 1) ai) ai))))) (λC fp s₀ H₀=>(aL bY.g (hr.mono (by decide)) rfl T.gu T.c9 bY.b .nil nM (aa (pv 0) (aa (pv 1) ah)))))
   (ak (bA (cT (aa (pv 8) (aa (pv 11) (aa (aw aS (pv 6) (aw bS (aw dP (pv 1) ai) ai)) ah)))))))))))))))))),?_⟩
  refine⟨_,rfl,a,ns,0,rfl,hS,by decide,?_⟩;obtain⟨c,ec⟩:∃ c,ns.getD (0:Int).toNat 0=c:=⟨_,rfl⟩;rw[ec];refine⟨_,rfl,1,rfl,a,_,rfl,hS,λp1 h1=>?_⟩;rw[AZ];have s1:=au.upd (o:=.lst (((ns.drop (HT.sIx ns.length 0 (some 1))).take (HT.sIx ns.length ns.length none-HT.sIx ns.length 0 (some 1))).map V.int)) h1;refine⟨p1,_,rfl,SqL.of ab,by rw[CA,Di];omega,λp2 ds H2 s2 z2 hp2 l2=>?_⟩;have sA:=s1.trans s2;have q0:=CT c (show(6:Int)≠0 by decide);have q1:=CJ c (show(0:Int)<6 by decide);obtain⟨n,n10,en⟩:∃ n:Nat,n≤10∧([.int 3,.int 1,.int 6,.int 9,.int 10,.int 0]:List V)[(c%6).toNat]?=some (.int (n:Int)):=by
   rcases(show(c%6).toNat=0∨(c%6).toNat=1∨(c%6).toNat=2∨(c%6).toNat=3∨(c%6).toNat=4∨(c%6).toNat=5 by omega) with e|e|e|e|e|e<;>rw[e]
   ·exact⟨3,by decide,rfl⟩
   ·exact⟨1,by decide,rfl⟩
   ·exact⟨6,by decide,rfl⟩
   ·exact⟨9,by decide,rfl⟩
   ·exact⟨10,by decide,rfl⟩
   ·exact⟨0,by decide,rfl⟩
  refine⟨by show 6≤sizeLine;decide,λp3 h3=>?_⟩;have s3:=au.upd (o:=.lst [V.int 3,V.int 1,V.int 6,V.int 9,V.int 10,V.int 0]) h3;refine⟨_,rfl,c,6,rfl,rfl,(by show(0:Int)<6;decide),p3,_,_,.int n,rfl,rfl,SqL.of ab,eG q0 en,?_⟩;have sB:=sA.trans s3;have z2:=s3 _ _ z2;generalize upd H2 p3 (.lst [V.int 3,V.int 1,V.int 6,V.int 9,V.int 10,V.int 0])=H3 at *;refine⟨_,rfl,n,rfl,by omega,by omega,λL4 hL4=>?_⟩;refine eM (lo:=0) (n:=n) (λi ys Hc=>∃ zs:List Int,ys=zs.map V.int∧zs.length=i∧(∀ z∈zs,0≤z∧z≤6)∧au H3 Hc∧Hc L4=some (.lst ys)) ⟨[],rfl,rfl,(λz m=>nomatch m),au.upd hL4,ab⟩ (λi ys Hc hi ⟨zs,e,l,_,_,y⟩=>⟨y,by rw[e,Cn];exact l⟩) (fN (by omega)) (λi ys Hc hi ⟨zs,e,l,hz,sc,y⟩=>?_) (λys Hc ⟨zs,e,lz,hz,sc,z4⟩=>?_)
  ·have hx:ds[(0+(i:Int)).toNat]?=some (ds[(0+(i:Int)).toNat]'(by omega)):=Cc _
   obtain⟨x,ex⟩:∃ x,ds[(0+(i:Int)).toNat]'(by omega)=x:=⟨_,rfl⟩;rw[ex]at hx;refine⟨_,rfl,_,rfl,p2,_,_,.int x,rfl,rfl,SqL.of (sc _ _ z2),eG (by omega) (by rw[Cq,hx];rfl),_,7,rfl,rfl,(by show(0:Int)<7;decide),y,zs++[x%7],by rw[e,CF];rfl,by rw[Cs,l];rfl,λz m=>?_,λb u q=>by rw[ag (ae q hL4)];exact sc b u q,ab⟩;rcases Cy.mp m with m|m
   ·exact hz z m
   ·rw[Cf.mp m]
    have:=CT x (show(7:Int)≠0 by decide)
    have:=CJ x (show(0:Int)<7 by decide)
    omega
  rw[e]at z4;clear e;have sC:=sB.trans sc;have z2:=sc _ _ z2;have n24:p2≠L4:=ae (show H3 p2=_ by assumption) hL4;refine⟨_,rfl,n,rfl,by omega,by omega,λL5 hL5=>?_⟩;have n25:p2≠L5:=ae z2 hL5;have n45:L4≠L5:=ae z4 hL5;refine eM (lo:=0) (n:=n) (λi ys Hd=>ys=(List.replicate i (0:Int)).map V.int∧au Hc Hd∧Hd L5=some (.lst ys)) ⟨rfl,au.upd hL5,ab⟩ (λi ys Hd hi ⟨e,_,y⟩=>⟨y,by rw[e,Cn,CN]⟩) (fN (by omega)) (λi ys Hd hi ⟨e,sd,y⟩=>?_) (λys Hd ⟨e,sd,z5⟩=>?_)
  ·refine⟨y,?_,λb u q=>by rw[ag (ae q hL5)];exact sd b u q,ab⟩
   rw[e,List.replicate_succ',CF];rfl
  rw[e]at z5;clear e;have sD:=sC.trans sd;have B2:H L5=none:=au.none sC hL5;have hPd:=sD _ _ hPt;have z2:=sd _ _ z2;have z4:=sd _ _ z4;refine⟨_,rfl,c,6,rfl,rfl,⟨by decide,by decide⟩,_,3,rfl,rfl,(by show(0:Int)<3;decide),?_⟩;have a0:=CT (c/6) (show(3:Int)≠0 by decide);have a1:=CJ (c/6) (show(0:Int)<3 by decide);obtain⟨at0,ea⟩:∃ at0,c/6%3=at0:=⟨_,rfl⟩;rw[ea]at a0 a1;simp only[ea,nr];have zD:∀ j,0≤zs.getD j 0∧zs.getD j 0≤6:=λj=>by
   rw[Cz];cases e:zs[j]? with
   | none=>exact⟨Int.le_refl _,by decide⟩
   | some x=>exact hz x (Ct e)
  have zat:∀(j:Nat),j<n→zs[j]?=some (zs.getD j 0):=λj hj=>by rw[Cz,Cc (by omega)];rfl
  have dat:∀(j:Nat),j<130→∃ x,ds[j]?=some x:=λj hj=>⟨_,Cc (by omega)⟩;refine⟨_,rfl,n,rfl,λr hr'=>⟨r,n,rfl,ab,by omega,by rw[ag (ae hPd hr')];exact hPd,λHx=>BP Pt Hd Hx,?_,?_,?_⟩⟩
  ·refine λps=>⟨λb u nb q=>?_,ps,ab⟩
   rw[ag nb,ag (ae q hr')];exact q
  ·intro Hx k' wx hk'
   obtain⟨x,hx⟩:=dat (20+(k':Int)).toNat (by omega);have n2P:p2≠Pt:=bo z2 hPd (by intro z;cases z);refine⟨_,rfl,_,rfl,20,_,rfl,rfl,p2,_,_,.int x,rfl,rfl,SqL.of (wx.1 _ _ n2P z2),eG (by omega) (by rw[Cq,hx];rfl),_,rfl,by show 2≤sizeLine;decide,λq hq=>⟨wx.same (au.upd hq),q,x,k',rfl,ab⟩⟩
  intro H7 l ks w7 hl0 pm;have lks:ks.length=n:=by rw[pm.length_eq,DN]
  have ndk:ks.Nodup:=pm.nodup_iff.mpr List.nodup_range;have kin:∀ j,j∈ks↔j<n:=λj=>by rw[pm.mem_iff,Dq]
  have n2P:p2≠Pt:=bo z2 hPd (by intro z;cases z);have n4P:L4≠Pt:=bo z4 hPd (by intro z;cases z);have n5P:L5≠Pt:=bo z5 hPd (by intro z;cases z);have y2:=w7.1 _ _ n2P z2;have y4:=w7.1 _ _ n4P z4;have y5:=w7.1 _ _ n5P z5;have sl:=au.upd (o:=.lst (ks.map λi:Nat=>V.int (i:Int))) hl0;have nl5:l≠L5:=CV (ae y5 hl0);have b7:BP Pt H (upd H7 l (.lst (ks.map λi:Nat=>V.int (i:Int)))):=(w7.low sD).same sl;refine⟨l,rfl,⟨_,SqL.of ab⟩,eS (K:=K) (a:=l) (xs:=ks.map λi:Nat=>V.int (i:Int)) (λi σ Hx=>∃(v7:Option V) (pl:List Int) (at':Int),σ=[some (.ref a),some (.int c),some (.ref p2),some (.int n),some (.ref L4),some (.ref L5),some (.int at'),v7,none,none,none,none]∧BP Pt H Hx∧Hx p2=some (.lst (ds.map V.int))∧Hx L4=some (.lst (zs.map V.int))∧Hx l=some (.lst (ks.map λi:Nat=>V.int (i:Int)))∧Hx L5=some (.lst (pl.map V.int))∧pl.length=n∧wt zs pl (ks.take i) at'∧0≤at'∧at'≤2+8*i)
   ⟨none,List.replicate n 0,at0,rfl,b7,sl _ _ y2,sl _ _ y4,ab,sl _ _ y5,CN,⟨(λj m=>nomatch m),(λj m=>nomatch m)⟩,a0,by omega⟩ (λi σ Hx _ ⟨_,_,_,_,_,_,_,y,_⟩=>SqL.of y) ?_ ?_⟩
  ·rintro i v σ Hx hi ⟨v7,pl,at',rfl,bx,x2,x4,xl,x5,lp,po,p0,p9⟩
   rw[Cq]at hi;obtain⟨j,hj,rfl⟩:=CD.mp hi;have jn:j<n:=(kin j).mp (Ct hj);have iln:i<n:=(by rw[←lks];exact(Cd.mp hj).1);have nj:j∉ks.take i:=λm=>by
    have e:ks=ks.take i++j::ks.drop (i+1):=(by rw[←(Cd.mp hj).2,←List.drop_eq_getElem_cons (Cd.mp hj).1,Dm]);rw[e,C5]at ndk;exact ndk.2.2 j m j Co rfl
   have zj:=zD j;obtain⟨x,hx⟩:=dat (40+(j:Int)).toNat (by omega);refine⟨_,rfl,_,rfl,_,rfl,L5,_,_,(j:Int).toNat,rfl,rfl,x5,uQ (by omega) (by rw[Cn];omega),?_⟩;have x2':upd Hx L5 (.lst ((pl.map V.int).set (j:Int).toNat (.int at'))) p2=some (.lst (ds.map V.int)):=(by rw[ag n25];exact x2);have x4':upd Hx L5 (.lst ((pl.map V.int).set (j:Int).toNat (.int at'))) L4=some (.lst (zs.map V.int)):=(by rw[ag n45];exact x4);refine⟨_,rfl,_,rfl,_,rfl,L4,_,_,.int (zs.getD j 0),rfl,rfl,SqL.of x4',eG (by omega) (by rw[Int.toNat_natCast,Cq,zat j jn];rfl),_,_,rfl,rfl,_,1,rfl,rfl,_,rfl,_,rfl,40,_,rfl,rfl,p2,_,_,.int x,rfl,rfl,SqL.of x2',eG (by omega) (by rw[Cq,hx];rfl),_,2,rfl,rfl,(by show(0:Int)<2;decide),_,_,rfl,rfl,?_⟩;have r0:=CT x (show(2:Int)≠0 by decide);have r1:=CJ x (show(0:Int)<2 by decide);refine⟨some (.int j),pl.set j at',at'+zs.getD j 0+1+x%2,rfl,bx.put B2 n5P,x2',x4',?_,?_,by rw[CS];exact lp,?_,by omega,by push_cast;omega⟩
   ·rw[ag nl5];exact xl
   ·rw[ab,List.map_set,Int.toNat_natCast]
   ·rw[aR hj]
    exact po.put nj (by omega) p0 zj.1 (by omega)
  rintro σ Hx ⟨v7,pl,at',rfl,bx,x2,x4,xl,x5,lp,po,p0,p9⟩;rw[Cn,lks]at po p9;rw[Cp (by omega)]at po;refine⟨by show 0≤sizeLine;exact CG _,λL8 hL8=>?_⟩;have A1:H L8=none:=bx.non hL8;have s8:=au.upd (o:=.lst []) hL8;have n28:p2≠L8:=ae x2 hL8;have n48:L4≠L8:=ae x4 hL8;have n58:L5≠L8:=ae x5 hL8;have n8P:L8≠Pt:=λz=>by obtain⟨ps,q⟩:=bx.2;rw[z,q]at hL8;cases hL8
  have pat:∀(j:Nat),j<n→pl[j]?=some (pl.getD j 0):=λj hj=>by rw[Cz,Cc (by omega)];rfl
  refine⟨_,rfl,n,rfl,by omega,by omega,lD (lo:=0) (n:=n) (λi σ Hy=>∃(v7 v10:Option V) (us:Nat) (tv:List V) (ts:List Tg),σ=[some (.ref a),some (.int c),some (.ref p2),some (.int n),some (.ref L4),some (.ref L5),some (.int at'),v7,some (.ref L8),some (.int us),v10,none]∧BP Pt H Hy∧Hy p2=some (.lst (ds.map V.int))∧Hy L4=some (.lst (zs.map V.int))∧Hy L5=some (.lst (pl.map V.int))∧Hy L8=some (.lst tv)∧ThL Hy tv ts∧(∀ q t' a' lf,V.ref q∈tv→Hy q=some (.tup [t',a',.ref lf])→lf≠L8)∧ts.length=i∧us≤55+6*i∧∀(j:Nat) (x:Tg),ts[j]?=some x→x.2.1=pl.getD j 0∧(x.2.2.length:Int)=zs.getD j 0∧(∀ w∈x.2.2,Wby pl w)∧0≤x.1∧x.1≤1000)
   ⟨v7,none,55,[],[],rfl,bx.same s8,s8 _ _ x2,s8 _ _ x4,s8 _ _ x5,ab,⟨rfl,(λi v x h=>by cases h)⟩,(λq t' a' lf m=>nomatch m),rfl,by omega,(λj x h=>by cases h)⟩ ?_ ?_⟩
  ·rintro i σ Hy hi ⟨w7,w10,us,tv,ts,rfl,by',y2,y4,y5,y8,tl,nf,lts,ub,hts⟩
   have zi:=zD i;obtain⟨si,esi⟩:∃ si:Nat,zs.getD i 0=(si:Int):=⟨(zs.getD i 0).toNat,by omega⟩;have A2:atI (zs.map V.int) (0+(i:Int))=some (.int (si:Int)):=eG (by omega) (by rw[show(0+(i:Int)).toNat=i by omega,Cq,zat i hi,esi];rfl);obtain⟨cs,ecs,lcs⟩:=A0 ds us si (by omega) (lo:=us) (hi:=(us:Int)+si) rfl (by push_cast;rfl);refine⟨_,rfl,_,rfl,_,rfl,_,rfl,_,rfl,_,rfl,L4,_,_,.int (si:Int),rfl,rfl,SqL.of y4,A2,_,_,rfl,rfl,_,rfl,p2,_,rfl,SqL.of y2,λps hps=>?_⟩;rw[ecs];have sp:=au.upd (o:=.lst (cs.map V.int)) hps;have u2:=sp _ _ y2;have u4:=sp _ _ y4;have u5:=sp _ _ y5;have u8:=sp _ _ y8;have tl1:=tl.same sp;have nf1:∀ q t' a' lf,V.ref q∈tv→upd Hy ps (.lst (cs.map V.int)) q=some (.tup [t',a',.ref lf])→lf≠L8:=λq t' a' lf m h=>nf q t' a' lf m (by
    by_cases e:q=ps
    ·rw[e,ab]at h;cases h
    ·rw[ag e]at h;exact h)
   have bp:=by'.same sp;have zp:upd Hy ps (.lst (cs.map V.int)) ps=some (.lst (cs.map V.int)):=ab;generalize upd Hy ps (.lst (cs.map V.int))=Hz at *;refine⟨ps,rfl,⟨_,SqL.of zp⟩,λLf hLf=>?_⟩;refine gJ (K:=K) (a:=ps) (xs:=cs.map V.int) (λj ys Hc=>∃ ws:List Mw,au Hz Hc∧Hc Lf=some (.lst ys)∧MR Hc ys ws∧ws.length=j∧∀ w∈ws,Wby pl w) ⟨[],au.upd hLf,ab,⟨rfl,(λj v w h=>by cases h)⟩,rfl,(λw m=>nomatch m)⟩ (λj ys Hc _ ⟨ws,_,y,r,l,_⟩=>⟨y,by rw[r.1];exact l⟩) (λj ys Hc _ ⟨_,sc,_⟩=>SqL.of (sc _ _ zp)) (by rw[Cn];exact fN (by omega)) (λj v ys Hc hj ⟨ws,sc,y,r,l,hw⟩=>?_) (λys Hc ⟨ws,sc,y,r,l,hw⟩=>?_)
   ·rw[Cq]at hj
    obtain⟨x,hx,rfl⟩:=CD.mp hj;refine⟨_,rfl,_,rfl,x,L5,pl,rfl,sc _ _ u5,λv w H' s' mv wb=>⟨s' _ _ y,ws++[w],λb u z=>by rw[ag (ae z hLf)];exact s' _ _ (sc b u z),ab,?_,by rw[Cs,l];rfl,λw' m=>?_⟩⟩
    ·exact((r.keep (bN.of s')).snoc mv).keep λb us z=>by rw[ag (bo z (s' _ _ y) (by intro z;cases z))];exact z
    ·rcases Cy.mp m with m|m
     ·exact hw w' m
     ·rw[Cf.mp m];exact wb
   rw[Cn,lcs]at l;have c2:=sc _ _ u2;have c4:=sc _ _ u4;have c5:=sc _ _ u5;have c8:=sc _ _ u8;refine⟨_,rfl,_,rfl,_,rfl,L4,_,_,.int (si:Int),rfl,rfl,SqL.of c4,A2,_,_,rfl,rfl,?_⟩;have m0:=CT (c/18) (show(3:Int)≠0 by decide);have m1:=CJ (c/18) (show(0:Int)<3 by decide);have m2:=CT (c/54) (show(4:Int)≠0 by decide);have m3:=CJ (c/54) (show(0:Int)<4 by decide);obtain⟨e1,ee1⟩:∃ e1,c/18%3=e1:=⟨_,rfl⟩;obtain⟨e2,ee2⟩:∃ e2,c/54%4=e2:=⟨_,rfl⟩;rw[ee1]at m0 m1;rw[ee2]at m2 m3;refine⟨_,rfl,.inl ⟨rfl,_,SqL.of c8⟩,_,rfl,_,rfl,c,18,rfl,rfl,⟨by decide,by decide⟩,_,3,rfl,rfl,(by show(0:Int)<3;decide),1,_,rfl,rfl,_,_,rfl,rfl,.inl ⟨by omega,by omega⟩,_,rfl,c,54,rfl,rfl,⟨by decide,by decide⟩,_,4,rfl,rfl,(by show(0:Int)<4;decide),_,_,rfl,rfl,_,rfl,_,rfl,L5,_,_,.int (pl.getD i 0),rfl,rfl,SqL.of c5,eG (by omega) (by rw[show(0+(i:Int)).toNat=i by omega,Cq,pat i hi];rfl),_,rfl,by show 3≤sizeLine;decide,λq hq=>?_⟩;have sq:=au.upd (o:=.tup [V.int ((0+(i:Int))*(1+c/18%3)+c/54%4),V.int (pl.getD i 0),V.ref Lf]) hq;have d8:=sq _ _ c8;have lt1:=tl1.1;refine⟨L8,_,_,rfl,rfl,d8,gT (by omega),?_⟩;have nq8:q≠L8:=λz=>by rw[z,c8]at hq;cases hq
   have nf8:Lf≠L8:=CV (ae u8 hLf);have tp:0≤(0+(i:Int))*(1+c/18%3)∧(0+(i:Int))*(1+c/18%3)≤30:=by
    rw[ee1];constructor
    ·exact Int.mul_nonneg (by omega) (by omega)
    ·have h1:(0+(i:Int))*(1+e1)≤(0+(i:Int))*3:=Int.mul_le_mul_of_nonneg_left (by omega) (by omega)
     omega
   have kp8:∀ b u,b≠L8→Hc b=some u→upd (upd Hc q (.tup [V.int ((0+(i:Int))*(1+c/18%3)+c/54%4),V.int (pl.getD i 0),V.ref Lf])) L8 (.lst (tv++[.ref q])) b=some u:=λb u nb z=>by rw[ag nb];exact sq _ _ z
   have sv:bN Hc _:=λb us z=>kp8 b _ (bo z c8 (by intro z;cases z)) z;refine⟨some (.int (0+(i:Int))),some (.ref Lf),us+si,tv++[.ref q],ts++[((0+(i:Int))*(1+c/18%3)+c/54%4,pl.getD i 0,ws)],rfl,(((bp.same sc).same sq).put A1 n8P),kp8 _ _ n28 c2,kp8 _ _ n48 c4,kp8 _ _ n58 c5,ab,⟨by rw[Cs,Cs,lt1];rfl,λj v x h1 h2=>?_⟩,λq2 t' a' lf m h=>?_,by rw[Cs,lts];rfl,by omega,λj x h=>?_⟩
   ·by_cases cj:j<tv.length
    ·rw[CM cj]at h1
     rw[CM (by rw[←lt1];exact cj)]at h2;obtain⟨q',lf,zz,ev,g1,g2,g3⟩:=tl1.2 j v x h1 h2;refine⟨q',lf,zz,ev,sv _ _ (sc _ _ g1),kp8 _ _ ?_ (sc _ _ g2),(g3.keep (bN.of sc)).keep sv⟩;exact nf1 q' _ _ lf (by rw[←ev];exact Ct h1) g1
    ·have ej:j=tv.length:=by have:=(Cd.mp h1).1;rw[Cs,C1]at this;omega
     subst ej;rw[CO (Cg _),DB]at h1;rw[lt1,CO (Cg _),DB]at h2;cases h1;cases h2;exact⟨q,Lf,ys,rfl,by rw[ag nq8];exact ab,kp8 _ _ nf8 y,r.keep sv⟩
   ·rcases Cy.mp m with m|m
    ·obtain⟨j,hj⟩:=C4 m
     have hj2:ts[j]?=some (ts[j]'(by rw[←lt1];exact(Cd.mp hj).1)):=Cc _;obtain⟨q',lf',zz,ev,g1,g2,g3⟩:=tl1.2 j _ _ hj hj2;cases ev;rw[sv _ _ (sc _ _ g1)]at h;cases h;exact nf1 _ _ _ _ m g1
    ·cases Cf.mp m
     rw[ag nq8,ab]at h;cases h;exact nf8
   ·by_cases cj:j<ts.length
    ·rw[CM cj]at h
     exact hts j x h
    ·have ej:j=ts.length:=by have:=(Cd.mp h).1;rw[Cs,C1]at this;omega
     subst ej;rw[CO (Cg _),DB]at h;cases h;rw[lts];refine⟨rfl,by rw[esi];exact_mod_cast l,hw,by omega,?_⟩;show(0+(i:Int))*(1+c/18%3)+c/54%4≤1000;omega
  rintro σ Hy ⟨w7,w10,us,tv,ts,rfl,by',y2,y4,y5,y8,tl,nf,lts,ub,hts⟩;have m0:=CT (c/216) (show(9:Int)≠0 by decide);have m1:=CJ (c/216) (show(0:Int)<9 by decide);obtain⟨e1,ee1⟩:∃ e1:Nat,c/216%9=(e1:Int):=⟨(c/216%9).toNat,by omega⟩;rw[ee1]at m0 m1;obtain⟨cs,ecs,lcs⟩:=A0 ds 120 (1+e1) (by omega) (lo:=120) (hi:=121+c/216%9) rfl (by rw[ee1];push_cast;omega);refine⟨_,rfl,120,rfl,_,rfl,c,216,rfl,rfl,⟨by decide,by decide⟩,_,9,rfl,rfl,(by show(0:Int)<9;decide),121,_,rfl,rfl,_,rfl,p2,_,rfl,SqL.of y2,λps hps=>?_⟩;rw[ecs];have sp:=au.upd (o:=.lst (cs.map V.int)) hps;have u5:=sp _ _ y5;have u8:=sp _ _ y8;have tl1:=tl.same sp;have bp:=by'.same sp;have zp:upd Hy ps (.lst (cs.map V.int)) ps=some (.lst (cs.map V.int)):=ab;generalize upd Hy ps (.lst (cs.map V.int))=Hz at *;refine⟨ps,rfl,⟨_,SqL.of zp⟩,λLf hLf=>?_⟩;refine gJ (K:=K) (a:=ps) (xs:=cs.map V.int) (λj ys Hc=>∃ ws:List Mw,au Hz Hc∧Hc Lf=some (.lst ys)∧MR Hc ys ws∧ws.length=j∧∀ w∈ws,Wby pl w) ⟨[],au.upd hLf,ab,⟨rfl,(λj v w h=>by cases h)⟩,rfl,(λw m=>nomatch m)⟩ (λj ys Hc _ ⟨ws,_,y,r,l,_⟩=>⟨y,by rw[r.1];exact l⟩) (λj ys Hc _ ⟨_,sc,_⟩=>SqL.of (sc _ _ zp)) (by rw[Cn];exact fN (by omega)) (λj v ys Hc hj ⟨ws,sc,y,r,l,hw⟩=>?_) (λys Hc ⟨ws,sc,y,r,l,hw⟩=>?_)
  ·rw[Cq]at hj
   obtain⟨x,hx,rfl⟩:=CD.mp hj;refine⟨_,rfl,_,rfl,x,L5,pl,rfl,sc _ _ u5,λv w H' s' mv wb=>⟨s' _ _ y,ws++[w],λb u z=>by rw[ag (ae z hLf)];exact s' _ _ (sc b u z),ab,?_,by rw[Cs,l];rfl,λw' m=>?_⟩⟩
   ·exact((r.keep (bN.of s')).snoc mv).keep λb us z=>by rw[ag (bo z (s' _ _ y) (by intro z;cases z))];exact z
   ·rcases Cy.mp m with m|m
    ·exact hw w' m
    ·rw[Cf.mp m];exact wb
  rw[Cn,lcs]at l;have b0:=CT (c/2160) (show(3:Int)≠0 by decide);have b1:=CJ (c/2160) (show(0:Int)<3 by decide);refine⟨_,rfl,_,rfl,_,rfl,_,rfl,c,2160,rfl,rfl,⟨by decide,by decide⟩,_,3,rfl,rfl,(by show(0:Int)<3;decide),_,_,rfl,rfl,by show 3≤sizeLine;decide,λq hq=>?_⟩;have sq:=au.upd (o:=.tup [V.ref L8,V.ref Lf,V.int (at'+c/2160%3)]) hq;have epl:ts.map (·.2.1)=pl:=by
   apply Dy
   intro j;rw[Cq];by_cases cj:j<n
   ·have h:ts[j]?=some (ts[j]'(by omega)):=Cc _
    rw[h,pat j cj,←(hts j _ h).1];rfl
   ·rw[CZ (by omega),CZ (by omega)]
    rfl
  have hx:∀ x∈ts,∃ j,j<n∧x.2.1=pl.getD j 0∧(x.2.2.length:Int)=zs.getD j 0∧(∀ w∈x.2.2,Wby pl w)∧0≤x.1∧x.1≤1000:=λx m=>by
   obtain⟨j,hj⟩:=C4 m;exact⟨j,by have:=(Cd.mp hj).1;omega,hts j x hj⟩
  have mk:∀ j,j<n→j∈ks:=λj h=>(kin j).mpr h;refine k q L8 tv Lf ys (at'+c/2160%3) ts ws _ ((bp.same sc).same sq).1 ab (sq _ _ (sc _ _ u8)) (sq _ _ y) ((tl1.same sc).same sq) (r.keep (bN.of sq)) ⟨by omega,by omega,λx m=>?_,λx m=>?_,λx m=>?_,λi j x y ne hi hj=>?_,by rw[epl];exact hw,λx m=>?_,by omega,by omega,λx m=>?_,λx m=>?_⟩ A1 (bp.non (by exact hLf))
  ·obtain⟨j,cj,e1,e2,_⟩:=hx x m
   have:=zD j
   omega
  ·obtain⟨j,cj,e1,e2,_⟩:=hx x m
   rw[e1];exact(po.lo j (mk j cj)).1
  ·obtain⟨j,cj,e1,e2,_⟩:=hx x m
   have:=(po.lo j (mk j cj)).2
   rw[e1,e2];omega
  ·obtain⟨f1,f2,_⟩:=hts i x hi
   obtain⟨g1,g2,_⟩:=hts j y hj;rw[f1,f2,g1,g2];exact po.ap i (mk i (by have:=(Cd.mp hi).1;omega)) j (mk j (by have:=(Cd.mp hj).1;omega)) ne
  ·obtain⟨j,cj,e1,e2,e3,_⟩:=hx x m
   rw[epl];exact e3
  ·obtain⟨j,cj,e1,e2,e3,e4,e5⟩:=hx x m
   exact e4
  ·obtain⟨j,cj,e1,e2,e3,e4,e5⟩:=hx x m
   exact e5
def lV:List Mw→List Tg→List Mw
 | ws,[]=>ws
 | ws,x::r=>lV (layW ws x.2.1.toNat x.1 x.2.2) r
theorem lX(ws:List Mw)(ts:List Tg)(x:Tg):lV ws (ts++[x])=layW (lV ws ts) x.2.1.toNat x.1 x.2.2:=by
 induction ts generalizing ws with
 | nil=>rfl
 | cons y r ih=>exact ih _
theorem iq(ws:List Mw)(ts:List Tg):(lV ws ts).length=ws.length:=by
 induction ts generalizing ws with
 | nil=>rfl
 | cons y r ih=>show(lV _ r).length=_;rw[ih,pA]
theorem jR{ws:List Mw}{a:Nat}{t:Int}{us:List Mw}(h:a+us.length<ws.length)(j:Nat):(layW ws a t us)[j]?=if j=a then some (.hd t us.length) else if a<j∧j≤a+us.length then us[j-(a+1)]? else ws[j]?:=by
 unfold layW;rw[tI _ _ _ _ (by rw[CS];omega)];by_cases c:j=a
 ·subst c
  rw[if_neg (by omega),if_pos rfl,Dj (by omega)]
 ·rw[if_neg c]
  by_cases d:a<j∧j≤a+us.length
  ·rw[if_pos (by omega),if_pos d]
  ·rw[if_neg (by omega),if_neg d,De (CV c)]
def Lies(ws:List Mw)(a t:Int)(us:List Mw):Prop:=ws[a.toNat]?=some (.hd t us.length)∧∀(j:Nat) (w:Mw),us[j]?=some w→ws[a.toNat+1+j]?=some w
theorem Lies.new{ws:List Mw}{a t:Int}{us:List Mw}(h:a.toNat+us.length<ws.length):Lies (layW ws a.toNat t us) a t us:=by
 refine⟨by rw[jR h,if_pos rfl],λj w hj=>?_⟩;have hl:=(Cd.mp hj).1;rw[jR h,if_neg (by omega),if_pos (by omega),show a.toNat+1+j-(a.toNat+1)=j by omega];exact hj
theorem Lies.other{ws:List Mw}{a t b s:Int}{us vs:List Mw}(h:Lies ws a t us)(hb:b.toNat+vs.length<ws.length)(a0:0≤a)(b0:0≤b)(ap:a+us.length<b∨b+vs.length<a):Lies (layW ws b.toNat s vs) a t us:=by
 refine⟨?_,λj w hj=>?_⟩
 ·rw[jR hb,if_neg (by omega),if_neg (by omega)]
  exact h.1
 ·have hl:=(Cd.mp hj).1
  rw[jR hb,if_neg (by omega),if_neg (by omega)];exact h.2 j w hj
theorem Lies.thg{ws:List Mw}{a t:Int}{us:List Mw}(h:Lies ws a t us)(a0:0≤a)(hl:a+us.length<ws.length):thg ws a=some (t,(us.length:Int))∧i3 ws a.toNat us.length=us:=by
 constructor
 ·unfold K41.thg
  rw[if_pos a0,h.1];exact if_pos hl
 ·apply Dy
  intro j;unfold i3;rw[Dx];by_cases c:j<us.length
  ·rw[if_pos c,Dw,Cc c,h.2 j _ (Cc c)]
  ·rw[if_neg c,CZ (by omega)]
theorem tP{ws us:List Mw}{i:Nat}{w:Mw}(h:w∈fY ws i us):w∈ws∨w∈us:=by
 induction us generalizing ws i with
 | nil=>exact .inl h
 | cons u r ih =>
  rcases ih h with h|h
  ·rcases List.mem_or_eq_of_mem_set h with h|h
   ·exact .inl h
   ·exact .inr (by rw[h];exact Co)
  ·exact .inr (Cm _ h)
theorem vx{ws us:List Mw}{a:Nat}{t:Int}{w:Mw}(h:w∈layW ws a t us):w∈ws∨w=.hd t us.length∨w∈us:=by
 rcases tP h with h|h
 ·rcases List.mem_or_eq_of_mem_set h with h|h
  ·exact .inl h
  ·exact .inr (.inl h)
 ·exact .inr (.inr h)
def fOf(ts:List Tg)(a:Int):List Mw:=match ts.find? λx=>decide (x.2.1=a) with|some x=>x.2.2|none=>[]
def tOf(ts:List Tg)(a:Int):Int:=match ts.find? λx=>decide (x.2.1=a) with|some x=>x.1|none=>0
section
variable{ts:List Tg}{rs:List Mw}{sz:Int}
theorem Bt.find(b:Bt ts rs sz){x:Tg}(m:x∈ts):ts.find? (λy=>decide (y.2.1=x.2.1))=some x:=by
 cases e:ts.find? (λy=>decide (y.2.1=x.2.1)) with
 | none=>exact absurd (List.find?_eq_none.mp e x m) (by simp)
 | some y =>
  have h1:=of_decide_eq_true (List.find?_some (p:=λy:Tg=>decide (y.2.1=x.2.1)) e);obtain⟨i,hi⟩:=C4 (List.mem_of_find?_eq_some e);obtain⟨j,hj⟩:=C4 m;by_cases c:i=j
  ·subst c;rw[hi]at hj;exact hj
  ·rcases b.ap i j y x c hi hj with z|z<;>omega
theorem Bt.f(b:Bt ts rs sz){x:Tg}(m:x∈ts):fOf ts x.2.1=x.2.2:=by unfold fOf;rw[b.find m]
theorem Bt.t(b:Bt ts rs sz){x:Tg}(m:x∈ts):tOf ts x.2.1=x.1:=by unfold tOf;rw[b.find m]
theorem Bt.lies(b:Bt ts rs sz):∀ i,i≤ts.length→∀ x∈ts.take i,Lies (lV (List.replicate sz.toNat .no) (ts.take i)) x.2.1 x.1 x.2.2:=by
 intro i;induction i with
 | zero=>intro _ x m;cases m
 | succ i ih =>
  intro hi x m;have hy:ts[i]?=some (ts[i]'(by omega)):=Cc _;obtain⟨y,ey⟩:∃ y,ts[i]'(by omega)=y:=⟨_,rfl⟩;rw[ey]at hy;have my:=Ct hy;have y0:=b.lo y my;have y1:=b.hi y my;rw[aR hy]at m ⊢;rw[lX];have hb:y.2.1.toNat+y.2.2.length<(lV (List.replicate sz.toNat Mw.no) (ts.take i)).length:=by rw[iq,CN];omega
  rcases Cy.mp m with m|m
  ·obtain⟨j,hj⟩:=C4 m
   have jl:=(Cd.mp hj).1;rw[CA]at jl;rw[Dx,if_pos (by omega)]at hj;exact(ih (by omega) x m).other hb (b.lo x (List.mem_of_mem_take m)) y0 (b.ap j i x y (by omega) hj hy)
  ·rw[Cf.mp m]
   exact Lies.new hb
theorem pI{w:Mw}{ws:List Mw}(h:w∈lV ws ts):w∈ws∨(∃ x∈ts,w=.hd x.1 x.2.2.length)∨∃ x∈ts,w∈x.2.2:=by
 induction ts generalizing ws with
 | nil=>exact .inl h
 | cons y r ih =>
  rcases ih h with h|⟨x,m,e⟩|⟨x,m,e⟩
  ·rcases vx h with h|h|h
   ·exact .inl h
   ·exact .inr (.inl ⟨y,Co,h⟩)
   ·exact .inr (.inr ⟨y,Co,h⟩)
  ·exact .inr (.inl ⟨x,Cm _ m,e⟩)
  ·exact .inr (.inr ⟨x,Cm _ m,e⟩)
abbrev wu(ts:List Tg)(sz:Int):List Mw:=lV (List.replicate sz.toNat .no) ts
theorem i6(b:Bt ts rs sz){w:Mw}(h:Wby (ts.map (·.2.1)) w):Okw w∧∀ a,w=.ad a→a∈ts.map (·.2.1):=by
 rcases h with rfl|⟨z,rfl⟩|⟨a,m,rfl⟩
 ·exact⟨.inl rfl,λa e=>by cases e⟩
 ·exact⟨.inr (.inl ⟨z,rfl⟩),λa e=>by cases e⟩
 ·refine⟨.inr (.inr ⟨a,rfl,?_⟩),λc e=>by cases e;exact m⟩
  obtain⟨x,mx,rfl⟩:=C8.mp m
  have:=b.lo x mx
  have:=b.hi x mx
  have:=b.z1
  exact Sm.of (by omega) (by omega)
theorem Bt.src(b:Bt ts rs sz):Src (wu ts sz) rs (fOf ts) (tOf ts) (ts.map (·.2.1)):=by
 have ex:∀ a∈ts.map (·.2.1),∃ x∈ts,x.2.1=a:=λa m=>by obtain⟨x,m,e⟩:=C8.mp m;exact⟨x,m,e⟩
 have z0:=b.z0;refine⟨b.rl,λw m=>(i6 b (b.rw w m)).1,λa m=>(i6 b (b.rw _ m)).2 a rfl,by rw[Cn];exact b.n,λa m=>?_,λa m=>?_,λa m w mw=>?_,λa m c mc=>?_⟩
 ·obtain⟨x,mx,rfl⟩:=ex a m
  have l:=b.lies ts.length (Cg _);rw[Cp (Cg _)]at l;rw[b.f mx,b.t mx]
  have:=b.hi x mx
  exact(l x mx).thg (b.lo x mx) (by rw[iq,CN];omega)
 ·obtain⟨x,mx,rfl⟩:=ex a m
  rw[b.f mx];exact b.fl x mx
 ·obtain⟨x,mx,rfl⟩:=ex a m
  rw[b.f mx]at mw;exact(i6 b (b.fw x mx w mw)).1
 ·obtain⟨x,mx,rfl⟩:=ex a m
  rw[b.f mx]at mc;exact(i6 b (b.fw x mx _ mc)).2 c rfl
theorem Bt.gm(b:Bt ts rs sz):Gm (wu ts sz):=by
 refine⟨λt n m=>?_,λa n m=>?_⟩
 ·rcases pI m with h|⟨x,mx,e⟩|⟨x,mx,h⟩
  ·exact absurd (List.eq_of_mem_replicate h) (by intro z;cases z)
  ·cases e
   have:=b.fl x mx
   omega
  ·rcases b.fw x mx _ h with e|⟨z,e⟩|⟨a,_,e⟩<;>cases e
 ·rcases pI m with h|⟨x,mx,e⟩|⟨x,mx,h⟩
  ·exact absurd (List.eq_of_mem_replicate h) (by intro z;cases z)
  ·cases e
  ·rcases b.fw x mx _ h with e|⟨z,e⟩|⟨a,_,e⟩<;>cases e
end
def Mw.vl:Mw→Vl
 | .no=>.a .non
 | w=>.t (w.its.map .a)
theorem xq{H:Hp}{t:Addr}{us:List V}{k:Nat}(ht:H t=some (.tup us))(hf:∀ u∈us,dj u=true):Rp H (k+1) (.ref t) (.t (us.map .a)):=⟨t,us,rfl,ht,(by rw[Cn]),λj u x h1 h2=>by
 rw[Cq,h1]at h2;cases h2;cases k<;>exact⟨rfl,hf u (Ct h1)⟩⟩
theorem zV{H:Hp}{y:V}{w:Mw}{k:Nat}(h:MV H y w):Rp H (k+1) y w.vl:=by
 cases w with
 | no =>
  rcases h with⟨_,rfl⟩|⟨n,_⟩
  ·exact⟨rfl,rfl⟩
  ·exact absurd rfl n
 | _ =>
  obtain⟨_,t,rfl,ht⟩:=h.resolve_left (λz=>by cases z.1);exact xq ht (λu m=>by simp only[Mw.its,Cw,List.mem_nil_iff,or_false]at m;rcases m with rfl|rfl|rfl<;>rfl)
theorem sE{H:Hp}{l:Addr}{ys:List V}{ws:List Mw}{k:Nat}(hl:H l=some (.lst ys))(r:MR H ys ws):Rp H (k+2) (.ref l) (.l (ws.map Mw.vl)):=⟨l,ys,rfl,hl,by rw[Cn];exact r.1,λj u x h1 h2=>by
 rw[Cq]at h2;obtain⟨w,hw,rfl⟩:=CD.mp h2;exact zV (r.2 j u w h1 hw)⟩
def qZ(D:Ad):Sp:=λvs H Q _=>∃(lt:Addr) (tv:List V) (ts:List Tg) (sz:Int),vs=[.ref lt,.int sz]∧H lt=some (.lst tv)∧ThL H tv ts∧0≤sz∧sz≤1000∧ts.length≤10∧(∀ x∈ts,0≤x.2.1∧x.2.1+x.2.2.length<sz∧x.2.2.length≤6)∧∀ m mx c xs H',au H H'→H m=none→H c=none→Mm D H' m mx c xs (wu ts sz)→Q (.ref m) H'
abbrev kz:List Str:=["things", "size", "memory", "t", "a", "fields", "k", "word"]
theorem bI:aG kz ["things", "size"] (aj fk):=⟨rfl,rfl,rfl,by decide +kernel,rfl,by decide +kernel,by decide +kernel⟩
theorem jk(F:Fun K "_law_memory" "_law_memory" fk D.bb D.cN)(T:Txt K mg D)
  (aN:Ok P w K mg base 1 D.aH D.bj ["self", "size"] (j3 D))
  (az:Ok P w K mg base 4 D.bc D.b9 ["self", "a", "word"] (jO D)):Ok P w K mg base 5 D.bb D.cN ["things", "size"] (qZ D):=by
 refine⟨?_,F.binds (ps:=["things", "size"]) λ_ _ _ _ _ _ us hl=>match us,hl with|[_,_],_=>rfl⟩
 refine F.okE bI (λvs H Q E h=>?_) (λcdv A' outer s' H vs Q E hr h=>?_)
 ·obtain⟨lt,tv,ts,sz,rfl,_⟩:=h
  rfl
 ·obtain⟨lt,tv,ts,sz,rfl,ht,tl,z0,z1,n10,hts,k⟩:=h
  refine⟨_,(PSs.nox (af (aC (i:=2) bI.nd rfl (Or.inl rfl) (qJ T.gM aN.g (hr.mono (by decide)) rfl T.lS aN.b .nil um (aa (pv 1) ah)))
   (af (di CL rfl (dq (pv 0)) (gh rfl (aM (aE (i:=3) bI.nd rfl (Or.inl rfl)) (aM (aE (i:=4) bI.nd rfl (Or.inl rfl)) (aM (aE (i:=5) bI.nd rfl (Or.inl rfl)) eK))))
    (af (bL (dr (pv 2) T.aD T.cP az.g (hr.mono (by decide)) az.b .nil cq (aa (pv 4) (aa (cT (aa dX (aa (pv 3) (aa (bJ aI rfl T.e7 PyProof.Rows.Boot.«len» (aa (pv 5) ah)) ah)))) ah))))
    (ak (di CL rfl (jG rfl T.cV (aa (pv 5) ah)) (gh rfl (aM (aE (i:=6) bI.nd rfl (Or.inl rfl)) (aM (aE (i:=7) bI.nd rfl (Or.inl rfl)) eK)))
     (ak (bL (dr (pv 2) T.aD T.cP az.g (hr.mono (by decide)) az.b .nil cq (aa (aw aS (aw aS (pv 4) ai) (pv 6)) (aa (pv 7) ah)))))))))
   (ak (bA (pv 2)))))),?_⟩
  refine⟨_,rfl,?_⟩;intro m mx hm hmx nd;refine⟨m,mx,sz,rfl,ab,by omega,by omega,λc H1 B1 hc M1=>⟨rfl,?_⟩⟩;have s1:au H H1:=λb u q=>B1 b u (ae q hm) (by rw[ag (ae q hm),ag (ae q hmx)];exact q);have hHc:H c=none:=by
   by_cases e:c=m
   ·rw[e];exact hm
   ·by_cases e2:c=mx
    ·rw[e2];exact hmx
    ·rw[ag e,ag e2]at hc;exact hc
  have lt1:=tl.1;refine⟨_,rfl,lt,rfl,⟨_,SqL.of (s1 _ _ ht)⟩,eS (K:=K) (a:=lt) (xs:=tv) (λi σ Hx=>∃(v3 v4 v5 v6 v7:Option V) (xs:List V),σ=[some (.ref lt),some (.int sz),some (.ref m),v3,v4,v5,v6,v7]∧au H Hx∧Mm D Hx m mx c xs (lV (List.replicate sz.toNat .no) (ts.take i))) ⟨none,none,none,none,none,_,rfl,s1,M1⟩ (λi σ Hx _ ⟨_,_,_,_,_,_,_,sx,_⟩=>SqL.of (sx _ _ ht)) ?_ ?_⟩
  ·rintro i v σ Hx hi ⟨v3,v4,v5,v6,v7,xs,rfl,sx,Mx⟩
   have il:i<ts.length:=(by rw[←lt1];exact(Cd.mp hi).1);have hx:ts[i]?=some ts[i]:=Cc il;obtain⟨x,ex⟩:∃ x,ts[i]=x:=⟨_,rfl⟩;rw[ex]at hx;obtain⟨q,lf,zs,rfl,h1,h2,h3⟩:=tl.2 i v x hi hx;obtain⟨a0,a1,a6⟩:=hts x (Ct hx);have e3:=h3.1;have lw:(lV (List.replicate sz.toNat Mw.no) (ts.take i)).length=sz.toNat:=(by rw[iq,CN]);refine⟨q,_,rfl,SqT.of (sx _ _ h1),rfl,_,_,rfl,_,_,rfl,_,_,rfl,rfl,?_⟩;refine⟨_,rfl,m,_,_,rfl,Mx.i,(by kernel_rfl),_,rfl,_,rfl,_,rfl,lf,_,rfl,.inl (SqL.of (sx _ _ h2)),by show 3≤sizeLine;decide,λp hp=>?_⟩;have sp:=au.upd (o:=.tup [V.str "head",V.int x.1,V.int zs.length]) hp;refine⟨m,mx,c,xs,_,x.2.1,.ref p,.hd x.1 x.2.2.length,rfl,Mx.same sp,Sm.of (by omega) (by omega),.inr ⟨(by intro z;cases z),p,rfl,by rw[ab,e3];rfl⟩,?_⟩;rw[lw,if_pos ⟨a0,by omega⟩];intro M2;obtain⟨H2,eH2⟩:∃ H2,upd (upd Hx p (.tup [V.str "head",V.int x.1,V.int zs.length])) c (.lst (xs.set x.2.1.toNat (.ref p)))=H2:=⟨_,rfl⟩;have s2:au H H2:=λb u y=>by rw[←eH2,ag (ae y hHc)];exact sp _ _ (sx _ _ y)
   rw[eH2]at M2 ⊢;refine⟨_,rfl,lf,rfl,⟨_,SqL.of (s2 _ _ h2)⟩,ij (K:=K) (a:=lf) (xs:=zs) (λj σ Hy=>∃(v6 v7:Option V) (xs:List V),σ=[some (.ref lt),some (.int sz),some (.ref m),some (.int x.1),some (.int x.2.1),some (.ref lf),v6,v7]∧au H Hy∧Mm D Hy m mx c xs (fY ((lV (List.replicate sz.toNat .no) (ts.take i)).set x.2.1.toNat (.hd x.1 x.2.2.length)) (x.2.1.toNat+1) (x.2.2.take j))) ⟨v6,v7,_,rfl,s2,M2⟩ (λj σ Hy _ ⟨_,_,_,_,sy,_⟩=>SqL.of (sy _ _ h2)) ?_ ?_⟩
   ·rintro j v σ Hy tp hj ⟨v6,v7,xs,rfl,sy,My⟩ htp
    have s3:=au.upd (o:=.tup [.int (j:Int),v]) htp;refine⟨tp,_,rfl,SqT.of ab,rfl,_,_,rfl,_,_,rfl,rfl,?_⟩;have jl:j<x.2.2.length:=(by rw[←e3];exact(Cd.mp hj).1);have hw:x.2.2[j]?=some x.2.2[j]:=Cc jl;have M3:=My.same s3;refine⟨_,rfl,m,_,_,rfl,M3.i,(by kernel_rfl),_,rfl,_,1,rfl,rfl,_,rfl,_,_,rfl,rfl,_,rfl,m,mx,c,xs,_,x.2.1+1+(j:Int),v,x.2.2[j],rfl,M3,Sm.of (by omega) (by omega),(h3.2 j v _ hj hw).keep (bN.of (sy.trans s3)),?_⟩;rw[iC,CS,lw,if_pos ⟨by omega,by omega⟩];intro M4;refine⟨_,_,xs.set (x.2.1+1+(j:Int)).toNat v,rfl,λb u y=>by rw[ag (ae y hHc)];exact s3 _ _ (sy _ _ y),?_⟩;rw[aR hw,jN,CA,show x.2.1.toNat+1+min j x.2.2.length=(x.2.1+1+(j:Int)).toNat by omega];exact M4
   ·rintro σ Hy ⟨v6,v7,xs,rfl,sy,My⟩
    rw[e3,Cp (Cg _)]at My;refine⟨_,_,_,_,_,xs,rfl,sy,?_⟩;rw[aR hx,lX];exact My
  ·rintro σ Hx ⟨v3,v4,v5,v6,v7,xs,rfl,sx,Mx⟩
   rw[lt1,Cp (Cg _)]at Mx;exact⟨_,rfl,k m mx c xs Hx sx hm hHc Mx⟩
def wy(D:Ad):Sp:=λvs H Q _=>∃ m mx c xs ws,vs=[.ref m]∧Mm D H m mx c xs ws∧∀ p H',au H H'→H p=none→H' p=some (.lst xs)→Q (.ref p) H'
abbrev ia:List Str:=["memory"]
theorem kA:aG ia ["memory"] (aj d0):=⟨rfl,rfl,rfl,by decide +kernel,rfl,by decide +kernel,by decide +kernel⟩
theorem kB(F:Fun K "_law_words" "_law_words" d0 D.bu D.df)(T:Txt K mg D)
  (aK:Ok P w K mg base 1 D.aU D.bQ ["self"] (ik D))
  (aO:Ok P w K mg base 4 D.bE D.cA ["self", "a"] (nO D)):Ok P w K mg base 5 D.bu D.df ["memory"] (wy D):=by
 refine⟨?_,F.binds (ps:=["memory"]) λ_ _ _ _ _ _ us hl=>match us,hl with|[_],_=>rfl⟩
 refine F.okE kA (λvs H Q E h=>?_) (λcdv A' outer s' H vs Q E hr h=>?_)
 ·obtain⟨m,mx,c,xs,ws,rfl,_⟩:=h
  rfl
 ·obtain⟨m,mx,c,xs,ws,rfl,M,k⟩:=h
  refine⟨_,(PSs.nox (ak (bA (gb (cl:=[("memory",s'.heap.objs.size+1)]) (x := "a") (idx:=[0]) (NC:=["a", "memory"]) (by exact du (sc:=aj d0) (N:=ia) (ns:=["memory"]) rfl rfl rfl (by decide +kernel) rfl rfl (by intro q hq;rw[Cf.mp hq];rfl)) rfl (dJ rfl T.dS (aa (jW (pv 0) T.aD T.eC aK.g (hr.mono (by decide)) aK.b .nil cq) ah)) (λC fp s₀ H₀=>(dr (pv 1) T.aD T.d4 aO.g (hr.mono (by decide)) aO.b .nil nM (aa (pv 0) ah))))))),?_⟩;have el:=M.r.1;have z:=M.z;refine⟨_,rfl,m,_,_,rfl,M.i,(by kernel_rfl),m,mx,c,xs,ws,rfl,M,ws.length,rfl,by omega,by omega,λL hL=>?_⟩;refine eM (lo:=0) (n:=ws.length) (λi ys Hc=>ys=xs.take i∧au H Hc∧Hc L=some (.lst ys)) ⟨rfl,au.upd hL,ab⟩ (λi ys Hc hi ⟨e,_,y⟩=>⟨y,by rw[e,CA];omega⟩) (fN (by omega)) (λi ys Hc hi ⟨e,sc,y⟩=>?_) (λys Hc ⟨e,sc,y⟩=>?_)
  ·have Mc:=M.same sc
   refine⟨_,rfl,m,_,_,rfl,Mc.i,(by kernel_rfl),_,rfl,m,mx,c,xs,ws,_,rfl,Mc,Sm.of (by omega) (by omega),?_⟩;rw[if_pos ⟨by omega,by omega⟩];intro v w hv _ _;rw[show(0+(i:Int)).toNat=i by omega]at hv;exact⟨y,by rw[e,aR hv],λb u q=>by rw[ag (ae q hL)];exact sc b u q,ab⟩
  ·rw[e,←el,Cp (Cg _)]at y
   exact k L Hc sc hL y
theorem q8{k:Nat}{xs:List Vl}:eqD (k+1) (.l xs) (.l [])=decide (xs=[]):=by
 cases xs with
 | nil=>rfl
 | cons x r =>
  show(_&&((x::r).length == ([]:List Vl).length))=_;rw[show((x::r).length == ([]:List Vl).length)=false from rfl,DA,decide_eq_false (by intro z;cases z)]
theorem qE{ws:List Mw}:(ws.map Mw.vl=[])↔ws=[]:=by simp
theorem ux{H:Hp}{e:Addr}{k:Nat}(h:H e=some (.lst [])):Rp H (k+1) (.ref e) (.l []):=⟨e,[],rfl,h,rfl,λi u x h=>by cases h⟩
theorem vy{a:Int}{ns:List Int}:inV (.int a) (ns.map V.int)=decide (a∈ns):=zT (n:=some a) (f:=λo=>match o with|none=>.non|some t=>.int t) rfl (λ_=>rfl)
theorem tQ(acc:List Int)(u:List Mw):(addW acc u).length≤acc.length+u.length:=by
 induction u generalizing acc with
 | nil=>exact Cg _
 | cons w r ih =>
  have h1:(h7 acc w).length≤acc.length+1:=by
   unfold h7;cases w.adr with
   | none=>exact Ds _
   | some a =>
    show(if a∈acc then acc else acc++[a]).length≤_;split
    ·exact Ds _
    ·rw[Cs];exact Cg _
  have h2:=ih (h7 acc w);rw[CI];show(addW (h7 acc w) r).length≤_;omega
structure Dat(H:Hp)(kvs:List (Key×V))(ts:List Tg):Prop where
 k:Kys kvs (ts.map (·.2.1))
 v:∀ x∈ts,∃ lf zs,ff kvs (Sum.inl x.2.1)=some (.ref lf)∧H lf=some (.lst zs)∧MR H zs x.2.2
def q9:Sp:=λvs H Q _=>∃(lt:Addr) (tv:List V) (ts:List Tg) (lr:Addr) (rv:List V) (rs:List Mw) (sz:Int),vs=[.ref lt,.ref lr]∧H lt=some (.lst tv)∧ThL H tv ts∧H lr=some (.lst rv)∧MR H rv rs∧Bt ts rs sz∧∀ p R H',au H H'→H p=none→H' p=some (.lst (R.map V.int))→Bfs rs (fOf ts) R→(∀ a∈R,a∈ts.map (·.2.1))→Q (.ref p) H'
abbrev qj:List Str:=["things", "roots", "at", "t", "a", "fields", "row", "left", "place", "word"]
theorem aY:aG qj ["things", "roots"] (aj g6):=⟨rfl,rfl,rfl,by decide +kernel,rfl,by decide +kernel,by decide +kernel⟩
theorem og(F:Fun K "_law_met" "_law_met" g6 D.cg D.eO)(T:Txt K mg D):Ok P w K mg base 1 D.cg D.eO ["things", "roots"] (q9):=by
 refine⟨?_,F.binds (ps:=["things", "roots"]) λ_ _ _ _ _ _ us hl=>match us,hl with|[_,_],_=>rfl⟩
 refine F.okE aY (λvs H Q E h=>?_) (λcdv A' outer s' H vs Q E hr h=>?_)
 ·obtain⟨lt,tv,ts,lr,rv,rs,sz,rfl,_⟩:=h
  rfl
 ·obtain⟨lt,tv,ts,lr,rv,rs,sz,rfl,ht,tl,hlr,rr,b,k⟩:=h
  have hu:=iO hr;have hu4:=Dv (DH (by decide:2≤64) _) hr.units;refine⟨_,(PSs.nox (af (aC (i:=2) aY.nd rfl (Or.inl rfl) ig)
   (af (di CL rfl (dq (pv 0)) (gh rfl (aM (aE (i:=3) aY.nd rfl (Or.inl rfl)) (aM (aE (i:=4) aY.nd rfl (Or.inl rfl)) (aM (aE (i:=5) aY.nd rfl (Or.inl rfl)) eK))))
    (ak (jC hu (pv 2) (pv 4) (pv 5) rfl)))
   (af (aC (i:=6) aY.nd rfl (Or.inl rfl) (fL ah))
   (af (aC (i:=7) aY.nd rfl (Or.inl rfl) (eD dZ rfl T.i0 PyProof.Rows.Boot.«list» (aa (pv 1) ah)))
   (af (aC (i:=8) aY.nd rfl (Or.inl rfl) ai)
   (af (oO CL (PW.pt (pw_or (aW (xm (n:=2) hu4) (pv 7) (fL ah) (bT _)) (pw_or1 (aW nz (pv 8) (bJ aI rfl T.e7 PyProof.Rows.Boot.«len» (aa (pv 6) ah)) (bT _)))))
    (af (fW (aW (uj (n:=2) hu4) (pv 7) (fL ah) (bT _))
     (af (aC (i:=7) aY.nd rfl (Or.inl rfl) (eD dZ rfl T.i0 PyProof.Rows.Boot.«list» (aa (cX hu (pv 2) (cn cB (pv 6) (pv 8) (λ_ _=>rfl)) (λ_ _=>rfl)) ah)))
     (ak (aC (i:=8) aY.nd rfl (Or.inl rfl) (aw aS (pv 8) ai))))
     cH)
    (af (di CL rfl (dq (pv 7)) (aE (i:=9) aY.nd rfl (Or.inl rfl))
     (ak (fW (PW.pt (pw_and (aW qI (pv 9) ib (bT _)) (pw_and (aW sk (cn dw (pv 9) ai (λ_ _=>rfl)) dX (bT _)) (pw_and1 (aW hW (cn dw (pv 9) ai (λ_ _=>rfl)) (pv 6) (by with_unfolding_all rfl))))))
      (ak (bL (nE PySem.F.plainAttrs_list PySem.F.slot_list_append PySem.F.type_list_append eE (pv 6) (aa (cn dw (pv 9) ai (λ_ _=>rfl)) ah))))
      cH)))
    (ak (aC (i:=7) aY.nd rfl (Or.inl rfl) (fL ah))))))
   (ak (bA (pv 6)))))))))),?_⟩
  have lt1:=tl.1;have n10:=b.n;have S:=b.src;intro d hd;have s1:=au.upd (o:=.dK []) hd;refine⟨_,rfl,lt,rfl,⟨_,SqL.of (s1 _ _ ht)⟩,eS (K:=K) (a:=lt) (xs:=tv) (λi σ Hx=>∃(v3 v4 v5:Option V) (kvs:List (Key×V)),σ=[some (.ref lt),some (.ref lr),some (.ref d),v3,v4,v5,none,none,none,none]∧au H Hx∧Hx d=some (.dK kvs)∧Dat H kvs (ts.take i)) ⟨none,none,none,[],rfl,s1,ab,rfl,(λx m=>nomatch m)⟩ (λi σ Hx _ ⟨_,_,_,_,_,sx,_⟩=>SqL.of (sx _ _ ht)) ?_ ?_⟩
  ·rintro i v σ Hx hi ⟨v3,v4,v5,kvs,rfl,sx,zd,da⟩
   have il:i<ts.length:=(by rw[←lt1];exact(Cd.mp hi).1);have hx:ts[i]?=some ts[i]:=Cc il;obtain⟨x,ex⟩:∃ x,ts[i]=x:=⟨_,rfl⟩;rw[ex]at hx;obtain⟨q,lf,zs,rfl,h1,h2,h3⟩:=tl.2 i v x hi hx;have nx:x.2.1∉(ts.take i).map (·.2.1):=λm=>by
    obtain⟨y,my,ey⟩:=C8.mp m;obtain⟨j,hj⟩:=C4 my;have jl:=(Cd.mp hj).1;rw[CA]at jl;rw[Dx,if_pos (by omega)]at hj;rcases b.ap j i y x (by omega) hj hx with z|z<;>omega
   have lk:=da.k.len;rw[Cn,CA]at lk;refine⟨q,_,rfl,SqT.of (sx _ _ h1),rfl,_,_,rfl,_,_,rfl,_,_,rfl,rfl,?_⟩;refine⟨_,rfl,_,rfl,_,rfl,d,_,rfl,qP.k (k:=Sum.inl x.2.1) zd (by rw[lk];exact gT (by omega)),?_⟩;refine⟨_,_,_,putK kvs (Sum.inl x.2.1) (.ref lf),rfl,λb u y=>by rw[ag (ae y hd)];exact sx b u y,ab,?_⟩;rw[aR hx];refine⟨?_,λy m=>?_⟩
   ·rw[ie _ (da.k.non nx)]
    have:=da.k
    unfold Kys at this ⊢;rw[CF,CF,CF,this];rfl
   ·by_cases e:y.2.1=x.2.1
    ·have ey:y=x:=by
      rcases Cy.mp m with m|m
      ·exact absurd (C8.mpr ⟨y,m,e⟩) nx
      ·exact Cf.mp m
     rw[ey];exact⟨lf,zs,by rw[cG,if_pos rfl],h2,h3⟩
    ·obtain⟨l',z',g1,g⟩:=da.v y ((Cy.mp m).resolve_right λz=>e (by rw[Cf.mp z]))
     exact⟨l',z',by rw[cG,if_neg (λz=>e (Sum.inl.inj z))];exact g1,g⟩
  rintro σ H1 ⟨v3,v4,v5,kvs,rfl,s1',zd,da⟩;rw[lt1,Cp (Cg _)]at da;refine⟨by show 0≤sizeLine;exact CG _,λrw' hrw=>?_⟩;have s2:=au.upd (o:=.lst []) hrw;have sA:=s1'.trans s2;refine⟨_,rfl,lr,rv,rfl,.inl (SqL.of (sA _ _ hlr)),λl0 hl0=>?_⟩;have s3:=au.upd (o:=.lst rv) hl0;have sB:=sA.trans s3;have zd2:=s3 _ _ (s2 _ _ zd);have zr2:upd (upd H1 rw' (.lst [])) l0 (.lst rv) rw'=some (.lst []):=s3 _ _ ab;have zl2:upd (upd H1 rw' (.lst [])) l0 (.lst rv) l0=some (.lst rv):=ab;have A3:H rw'=none:=au.none s1' hrw;generalize upd (upd H1 rw' (.lst [])) l0 (.lst rv)=H3 at *;have er:=rr.1;have rl:=b.rl;refine⟨λn σ Hx=>∃(v3 v4 v5 v9:Option V) (ll:Addr) (lv:List V) (lws:List Mw) (row:List Int) (p:Nat),σ=[some (.ref lt),some (.ref lr),some (.ref d),v3,v4,v5,some (.ref rw'),some (.ref ll),some (.int p),v9]∧au H Hx∧Hx d=some (.dK kvs)∧Hx rw'=some (.lst (row.map V.int))∧Hx ll=some (.lst lv)∧MR Hx lv lws∧ll≠rw'∧(∀ a∈row,a∈ts.map (·.2.1))∧row.Nodup∧((lws=rs∧row=[]∧p=0∧n=200)∨(lws=[]∧Lw rs (fOf ts) row p∧n=100-p)),⟨200,v3,v4,v5,none,l0,rv,rs,[],0,rfl,sB,zd2,zr2,zl2,rr.keep (bN.of sB),(λe=>by rw[e,ab]at hl0;cases hl0),(λa m=>nomatch m),DK,.inl ⟨rfl,rfl,rfl,rfl⟩⟩,?_⟩;rintro n σ Hx ⟨v3,v4,v5,v9,ll,lv,lws,row,p,rfl,sx,zdx,zrx,zlx,rl',nlr,hB,nd,ph⟩;have Cb:row.length≤10:=CK (i4 nd hB) S.bl;refine⟨_,rfl,by show 0≤sizeLine;exact CG _,λe he=>?_⟩;have se:=au.upd (o:=.lst []) he;have R1:Rp (upd Hx e (.lst [])) 2 (V.ref ll) _:=sE (k:=0) (se _ _ zlx) (rl'.keep (bN.of se));have R2:Rp (upd Hx e (.lst [])) 2 (V.ref e) _:=ux ab;refine⟨_,_,R1,R2,_,rfl,?_⟩;rw[q8];have zd3:=se _ _ zdx;have zr3:=se _ _ zrx;have zl3:=se _ _ zlx;have rl3:=rl'.keep (bN.of se);have sx3:=sx.trans se;generalize upd Hx e (.lst [])=H4 at *;have fin:lws=[]→row.length≤p→Bfs rs (fOf ts) row:=λe h=>by
   rcases ph with⟨e1,e2,e3,_⟩|⟨_,lw,_⟩
   ·have l0:Lw rs (fOf ts) row p:=by rw[e2,e3,←e1,e];exact Lw.start (rs:=[])
    exact l0.done h
   ·exact lw.done h
  refine jB (λh=>vb ?x) (λh=>⟨_,rfl,_,rfl,rw',_,rfl,.inl (SqL.of zr3),_,_,rfl,rfl,_,rfl,jB (λh2=>?x2) (λh2=>?z)⟩)
  case z =>
   have e1:lws=[]:=by
    by_cases c:lws=[]
    ·exact c
    ·exact absurd (by rw[decide_eq_false (λz=>c (qE.mp z))];rfl) h
   have hp2:row.length≤p:=by
    by_cases c:p<row.length
    ·exact absurd (decide_eq_true (by rw[Cn];omega)) h2
    ·omega
   exact⟨_,rfl,k rw' row _ sx3 A3 zr3 (fin e1 hp2) hB⟩
  case' x =>
   have hp:lws≠[]∨(lws=[]∧p<row.length):=.inl λe=>by rw[e]at h;exact absurd h (by decide)
  case' x2 =>
   have hp:lws≠[]∨(lws=[]∧p<row.length):=by
    by_cases c:lws=[]
    ·refine .inr ⟨c,?_⟩
     have:=of_decide_eq_true h2
     rw[Cn]at this;omega
    ·exact .inl c
  all_goals
   refine⟨λσ' H'=>∃ m',m'<n∧∃(v3 v4 v5 v9:Option V) (ll:Addr) (lv:List V) (lws:List Mw) (row:List Int) (p:Nat),σ'=[some (.ref lt),some (.ref lr),some (.ref d),v3,v4,v5,some (.ref rw'),some (.ref ll),some (.int p),v9]∧au H H'∧H' d=some (.dK kvs)∧H' rw'=some (.lst (row.map V.int))∧H' ll=some (.lst lv)∧MR H' lv lws∧ll≠rw'∧(∀ a∈row,a∈ts.map (·.2.1))∧row.Nodup∧((lws=rs∧row=[]∧p=0∧m'=200)∨(lws=[]∧Lw rs (fOf ts) row p∧m'=100-p)),λ_ _ h=>h,?_⟩;refine qR λN hN=>?_;have rest:∀(H5:Hp) (ll5:Addr) (lv5:List V) (ws5:List Mw) (p5:Nat),au H H5→H5 d=some (.dK kvs)→H5 rw'=some (.lst (row.map V.int))→H5 ll5=some (.lst lv5)→MR H5 lv5 ws5→ll5≠rw'→ws5.length≤9→(∀ w∈ws5,Okw w∧∀ a,w=.ad a→a∈ts.map (·.2.1))→Lw rs (fOf ts) (addW row ws5) p5→100-p5<n→N [some (.ref lt),some (.ref lr),some (.ref d),v3,v4,v5,some (.ref rw'),some (.ref ll5),some (.int p5),v9] H5:=by
    intro H5 ll5 lv5 ws5 p5 s5 zd5 zr5 zl5 r5 n5 l9 hw5 lw5 lt5;have e5:=r5.1;refine hN _ _ ?_;refine⟨_,rfl,ll5,rfl,⟨_,SqL.of zl5⟩,eS (K:=K) (a:=ll5) (xs:=lv5) (λi σ Hy=>∃(v9:Option V),σ=[some (.ref lt),some (.ref lr),some (.ref d),v3,v4,v5,some (.ref rw'),some (.ref ll5),some (.int p5),v9]∧au H Hy∧Hy d=some (.dK kvs)∧Hy rw'=some (.lst ((addW row (ws5.take i)).map V.int))∧Hy ll5=some (.lst lv5)∧MR Hy lv5 ws5) ⟨v9,rfl,s5,zd5,zr5,zl5,r5⟩ (λi σ Hy _ ⟨_,_,_,_,_,y,_⟩=>SqL.of y) ?_ ?_⟩
    ·rintro i v σ Hy hi ⟨v9',rfl,sy,zdy,zry,zly,ry⟩
     have il:i<ws5.length:=(by rw[←e5];exact(Cd.mp hi).1);have hw:ws5[i]?=some ws5[i]:=Cc il;obtain⟨w,ew⟩:∃ w,ws5[i]=w:=⟨_,rfl⟩;rw[ew]at hw;have mv:=ry.2 i v w hi hw;obtain⟨okw,_⟩:=hw5 w (Ct hw);have no:w.adr=none→Hy rw'=some (.lst ((addW row (ws5.take (i+1))).map V.int)):=λh=>by rw[aR hw,dU,gG,qS h];exact zry
     refine⟨_,rfl,rfl,_,rfl,?_⟩;rcases okw with rfl|⟨z,rfl⟩|⟨a,rfl,_⟩
     ·have ev:v=.non:=by
       rcases mv with⟨_,e⟩|⟨n,_⟩
       ·exact e
       ·exact absurd rfl n
      exact dO (by rw[ev];rfl) (xO ⟨_,rfl,sy,zdy,no rfl,zly,ry⟩)
     ·obtain⟨_,q,rfl,hq⟩:=mv.resolve_left (λz=>by cases z.1)
      exact d6 rfl ⟨_,rfl,q,_,0,.str "number",rfl,rfl,SqT.of hq,rfl,rfl,_,rfl,dO (by kernel_rfl) (xO ⟨_,rfl,sy,zdy,no rfl,zly,ry⟩)⟩
     ·obtain⟨_,q,rfl,hq⟩:=mv.resolve_left (λz=>by cases z.1)
      refine d6 rfl ⟨_,rfl,q,_,0,.str "at",rfl,rfl,SqT.of hq,rfl,rfl,_,rfl,d6 (by kernel_rfl) ⟨_,rfl,q,_,1,.int a,rfl,rfl,SqT.of hq,rfl,_,rfl,rw',_,rfl,.inl (SqL.of zry),rfl,iz _,_,rfl,?_⟩⟩;rw[vy];by_cases ca:a∈addW row (ws5.take i)
      ·refine dO (by rw[decide_eq_true ca];rfl) ⟨_,rfl,sy,zdy,?_,zly,ry⟩
       rw[aR hw,dU,gG,j6 ca];exact zry
      ·have la:(addW row (ws5.take i)).length≤19:=by
        have:=tQ row (ws5.take i)
        rw[CA]at this;omega
       refine d6 (by rw[decide_eq_false ca];rfl) ⟨_,rfl,.inl ⟨rfl,_,SqL.of zry⟩,_,rfl,q,_,1,.int a,rfl,rfl,SqT.of hq,rfl,rw',_,_,rfl,rfl,zry,by rw[Cn];exact gT (by omega),?_⟩;refine⟨_,rfl,λb u y=>by rw[ag (ae y A3)];exact sy b u y,by rw[ag (bo zdy zry (by intro z;cases z))];exact zdy,?_,by rw[ag n5];exact zly,ry.keep (bN.set zry)⟩;rw[ab,aR hw,dU,gG,j5 ca,CF];rfl
    ·rintro σ Hy ⟨v9',rfl,sy,zdy,zry,zly,ry⟩
     rw[e5,Cp (Cg _)]at zry;refine⟨by show 0≤sizeLine;exact CG _,λe6 he6=>?_⟩;have s6:=au.upd (o:=.lst []) he6;exact⟨100-p5,lt5,v3,v4,v5,v9',e6,[],[],addW row ws5,p5,rfl,sy.trans s6,s6 _ _ zdy,s6 _ _ zry,ab,⟨rfl,(λi v w h=>by cases h)⟩,(λz=>by rw[z,zry]at he6;cases he6),λa m=>(pD.mp m).elim (hB a) λm=>(hw5 _ m).2 a rfl,qT nd,.inr ⟨rfl,lw5,rfl⟩⟩
   refine⟨_,rfl,by show 0≤sizeLine;exact CG _,λe2 he2=>?_⟩;have s7:=au.upd (o:=.lst []) he2;have Q1:Rp (upd H4 e2 (.lst [])) 2 (V.ref ll) _:=sE (k:=0) (s7 _ _ zl3) (rl3.keep (bN.of s7));have Q2:Rp (upd H4 e2 (.lst [])) 2 (V.ref e2) _:=ux ab;refine⟨_,_,Q1,Q2,_,rfl,?_⟩;rw[q8];have zd7:=s7 _ _ zd3;have zr7:=s7 _ _ zr3;have zl7:=s7 _ _ zl3;have rl7:=rl3.keep (bN.of s7);have sx7:=sx3.trans s7;generalize upd H4 e2 (.lst [])=H7 at *;by_cases cl:lws=[]
   ·have hp2:p<row.length:=hp.elim (λh=>absurd cl h) (·.2)
    have lw:Lw rs (fOf ts) row p∧(n=200∨n=100-p):=by
     rcases ph with⟨e1,e2,e3,e4⟩|⟨_,lw,e4⟩
     ·rw[e2]at hp2;cases hp2
     ·exact⟨lw,.inr e4⟩
    have ha:row[p]?=some row[p]:=Cc hp2;obtain⟨a,ea⟩:∃ a,row[p]=a:=⟨_,rfl⟩;rw[ea]at ha;have aB:=hB a (Ct ha);obtain⟨x,mx,ex⟩:=C8.mp aB;obtain⟨lf,zs,hv,hlf,rlf⟩:=da.v x mx;have ex':x.2.1=a:=ex;rw[ex']at hv;have ef:=b.f mx;rw[ex']at ef;refine d6 (decide_eq_true (qE.mpr cl)) ⟨_,rfl,_,rfl,_,rfl,rw',_,_,.int a,rfl,rfl,SqL.of zr7,eG (by omega) (by rw[Int.toNat_natCast,Cq,ha];rfl),d,_,rfl,.inl ⟨kvs,Sum.inl a,.inl zd7,rfl,hv.symm⟩,lf,zs,rfl,.inl (SqL.of (sx7 _ _ hlf)),λl8 hl8=>?_⟩;have s8:=au.upd (o:=.lst zs) hl8;refine⟨_,rfl,_,1,rfl,rfl,?_⟩;have fl:=b.fl x mx;exact rest _ l8 zs (fOf ts a) (p+1) (sx7.trans s8) (s8 _ _ zd7) (s8 _ _ zr7) ab (by rw[ef];exact rlf.keep (bN.of (sx7.trans s8))) (λz=>by rw[z,zr7]at hl8;cases hl8) (by rw[ef];omega) (λw m=>by rw[ef]at m;exact i6 b (b.fw x mx w m)) (lw.1.step ha) (by omega)
   ·obtain⟨e1,e2,e3,e4⟩:lws=rs∧row=[]∧p=0∧n=200:=ph.resolve_right λz=>cl z.1
    refine dO (decide_eq_false (λz=>cl (qE.mp z))) ?_;refine rest H7 ll lv lws p sx7 zd7 zr7 zl7 rl7 nlr (by rw[e1];exact rl) (λw m=>by rw[e1]at m;exact i6 b (b.rw w m)) (by rw[e1,e2,e3];exact Lw.start) (by omega)
def lY:Sp:=λvs H Q _=>∃(lt:Addr) (tv:List V) (ts:List Tg) (lr:Addr) (rv:List V) (rs:List Mw) (sz fs:Int),vs=[.ref lt,.ref lr,.int fs]∧H lt=some (.lst tv)∧ThL H tv ts∧H lr=some (.lst rv)∧MR H rv rs∧Bt ts rs sz∧∀ p ps R H',au H H'→H p=none→H' p=some (.lst ps)→Prs H' ps R (plA (fOf ts) fs R)→Bfs rs (fOf ts) R→(∀ a∈R,a∈ts.map (·.2.1))→Q (.ref p) H'
abbrev mD:List Str:=["things", "roots", "first", "at", "t", "a", "fields", "pairs"]
theorem bB:aG mD ["things", "roots", "first"] (aj fQ):=⟨rfl,rfl,rfl,by decide +kernel,rfl,by decide +kernel,by decide +kernel⟩
theorem kC(F:Fun K "_law_pairs" "_law_pairs" fQ D.bw D.dh)(T:Txt K mg D)
  (f6:Ok P w K mg base 1 D.cg D.eO ["things", "roots"] (q9)):Ok P w K mg base 2 D.bw D.dh ["things", "roots", "first"] (lY):=by
 refine⟨?_,F.binds (ps:=["things", "roots", "first"]) λ_ _ _ _ _ _ us hl=>match us,hl with|[_,_,_],_=>rfl⟩
 refine F.okE bB (λvs H Q E h=>?_) (λcdv A' outer s' H vs Q E hr h=>?_)
 ·obtain⟨lt,tv,ts,lr,rv,rs,sz,fs,rfl,_⟩:=h
  rfl
 ·obtain⟨lt,tv,ts,lr,rv,rs,sz,fs,rfl,ht,tl,hlr,rr,b,k⟩:=h
  have hu:=iO hr;refine⟨_,(PSs.nox (af (aC (i:=3) bB.nd rfl (Or.inl rfl) ig)
   (af (di CL rfl (dq (pv 0)) (gh rfl (aM (aE (i:=4) bB.nd rfl (Or.inl rfl)) (aM (aE (i:=5) bB.nd rfl (Or.inl rfl)) (aM (aE (i:=6) bB.nd rfl (Or.inl rfl)) eK))))
    (ak (jC hu (pv 3) (pv 5) (bJ aI rfl T.e7 PyProof.Rows.Boot.«len» (aa (pv 6) ah)) rfl)))
   (af (aC (i:=7) bB.nd rfl (Or.inl rfl) (fL ah))
   (af (di CL rfl (dq (aL f6.g (hr.mono (by decide)) rfl T.qg T.g8 f6.b .nil cq (aa (pv 0) (aa (pv 1) ah)))) (aE (i:=5) bB.nd rfl (Or.inl rfl))
    (af (bL (nE PySem.F.plainAttrs_list PySem.F.slot_list_append PySem.F.type_list_append eE (pv 7) (aa (cT (aa (pv 5) (aa (pv 2) ah))) ah)))
    (ak (aC (i:=2) bB.nd rfl (Or.inl rfl) (aw aS (aw aS (pv 2) (cX hu (pv 3) (pv 5) (λ_ _=>rfl))) ai)))))
   (ak (bA (pv 7)))))))),?_⟩
  have lt1:=tl.1;have n10:=b.n;intro d hd;have s1:=au.upd (o:=.dK []) hd;refine⟨_,rfl,lt,rfl,⟨_,SqL.of (s1 _ _ ht)⟩,eS (K:=K) (a:=lt) (xs:=tv) (λi σ Hx=>∃(v4 v5 v6:Option V) (kvs:List (Key×V)) (ms:List Int),σ=[some (.ref lt),some (.ref lr),some (.int fs),some (.ref d),v4,v5,v6,none]∧au H Hx∧Hx d=some (.dK kvs)∧Dg kvs ms (λa=>((fOf ts a).length:Int))∧ms.length≤i∧∀ x∈ts.take i,x.2.1∈ms) ⟨none,none,none,[],[],rfl,s1,ab,Dg.nil,Cg _,(λx m=>nomatch m)⟩ (λi σ Hx _ ⟨_,_,_,_,_,_,sx,_⟩=>SqL.of (sx _ _ ht)) ?_ ?_⟩
  ·rintro i v σ Hx hi ⟨v4,v5,v6,kvs,ms,rfl,sx,zd,dg,lm,hm⟩
   have il:i<ts.length:=(by rw[←lt1];exact(Cd.mp hi).1);have hx:ts[i]?=some ts[i]:=Cc il;obtain⟨x,ex⟩:∃ x,ts[i]=x:=⟨_,rfl⟩;rw[ex]at hx;obtain⟨q,lf,zs,rfl,h1,h2,h3⟩:=tl.2 i v x hi hx;have ef:=b.f (Ct hx);have lk:=dg.k.len;obtain⟨ms',dg',hm',lm'⟩:=dg.put (t:=x.2.1);refine⟨q,_,rfl,SqT.of (sx _ _ h1),rfl,_,_,rfl,_,_,rfl,_,_,rfl,rfl,?_⟩;refine⟨_,rfl,lf,_,rfl,.inl (SqL.of (sx _ _ h2)),_,rfl,_,rfl,d,_,rfl,qP.k (k:=Sum.inl x.2.1) zd (by rw[lk];exact gT (by omega)),?_⟩;have ev:(zs.length:Int)=((fOf ts x.2.1).length:Int):=(by rw[ef,h3.1]);rw[ev];refine⟨_,_,_,_,ms',rfl,λb u y=>by rw[ag (ae y hd)];exact sx b u y,ab,dg',by omega,λy m=>?_⟩;rw[aR hx]at m;rcases Cy.mp m with m|m
   ·exact(hm' _).mpr (.inl (hm y m))
   ·rw[Cf.mp m];exact(hm' _).mpr (.inr rfl)
  rintro σ H1 ⟨v4,v5,v6,kvs,ms,rfl,s1',zd,dg,lm,hm⟩;rw[lt1,Cp (Cg _)]at hm;refine⟨by show 0≤sizeLine;exact CG _,λpp hpp=>?_⟩;have s2:=au.upd (o:=.lst []) hpp;have sA:=s1'.trans s2;have A4:H pp=none:=au.none s1' hpp;refine⟨_,rfl,_,rfl,lt,tv,ts,lr,rv,rs,sz,rfl,sA _ _ ht,tl.same sA,sA _ _ hlr,rr.keep (bN.of sA),b,λr R H2 s3 hr0 zr bf hB=>?_⟩;have nd:=bf.nd;have lR:R.length≤10:=CK (i4 nd hB) (by rw[Cn];exact n10);have zd2:=s3 _ _ (s2 _ _ zd);have zp2:=s3 _ _ (ab (H:=H1) (a:=pp) (o:=.lst []));have sB:=sA.trans s3;have nrp:r≠pp:=λz=>by rw[z,ab]at hr0;cases hr0
  refine⟨r,rfl,⟨_,SqL.of zr⟩,eS (K:=K) (a:=r) (xs:=R.map V.int) (λi σ Hx=>∃(v5:Option V) (ps:List V),σ=[some (.ref lt),some (.ref lr),some (.int (fs+tot (fOf ts) (R.take i))),some (.ref d),v4,v5,v6,some (.ref pp)]∧au H Hx∧Hx d=some (.dK kvs)∧Hx r=some (.lst (R.map V.int))∧Hx pp=some (.lst ps)∧Prs Hx ps (R.take i) (plA (fOf ts) fs R)) ⟨v5,[],(by rw[List.take_zero];show _=[_,_,some (V.int (fs+0)),_,_,_,_,_];rw[Int.add_zero];rfl),sB,zd2,zr,zp2,rfl,(λi u t h=>by cases h)⟩ (λi σ Hx _ ⟨_,_,_,_,_,y,_⟩=>SqL.of y) ?_ ?_⟩
  ·rintro i v σ Hx hi ⟨v5,ps,rfl,sx,zdx,zrx,zpx,pr⟩
   rw[Cq]at hi;obtain⟨a,ha,rfl⟩:=CD.mp hi;have pl:=qB (f:=fOf ts) (p:=fs) nd ha;have lp:=pr.1;rw[CA]at lp;obtain⟨x,mx,ex⟩:=C8.mp (hB a (Ct ha));have am:a∈ms:=(by rw[←ex];exact hm x mx);refine⟨_,rfl,.inl ⟨rfl,_,SqL.of zpx⟩,_,rfl,_,rfl,by show 2≤sizeLine;decide,λq hq=>?_⟩;have sq:=au.upd (o:=.tup [V.int a,V.int (fs+tot (fOf ts) (R.take i))]) hq;refine⟨pp,_,_,rfl,rfl,sq _ _ zpx,gT (by omega),?_⟩;have npq:q≠pp:=λz=>by rw[z,zpx]at hq;cases hq
   have zd3:∀ o,upd (upd Hx q (.tup [V.int a,V.int (fs+tot (fOf ts) (R.take i))])) pp o d=some (.dK kvs):=λo=>by rw[ag (bo zdx zpx (by intro z;cases z))];exact sq _ _ zdx
   refine⟨_,rfl,_,rfl,_,rfl,d,_,rfl,.inl ⟨kvs,Sum.inl a,.inl (zd3 _),rfl,(dg.v a am).symm⟩,_,_,rfl,rfl,_,1,rfl,rfl,some (.int a),ps++[.ref q],?_,λb u y=>by rw[ag (ae y A4)];exact sq _ _ (sx b u y),zd3 _,by rw[ag nrp];exact sq _ _ zrx,ab,?_⟩
   ·rw[aR ha,pE]
    show[_,_,some (V.int (fs+(tot (fOf ts) (R.take i):Int)+((fOf ts a).length:Int)+1)),_,_,_,_,_]=_;rw[show fs+(tot (fOf ts) (R.take i):Int)+((fOf ts a).length:Int)+1=fs+((tot (fOf ts) (R.take i)+((fOf ts a).length+1):Nat):Int) by push_cast;omega]
   ·rw[aR ha]
    exact((pr.keep (bN.of sq)).snoc (by rw[pl];exact ab)).keep (bN.set (sq _ _ zpx))
  ·rintro σ Hx ⟨v5,ps,rfl,sx,zdx,zrx,zpx,pr⟩
   rw[Cn,Cp (Cg _)]at pr;exact⟨_,rfl,k pp ps R Hx sx A4 zpx pr bf hB⟩
theorem sqB{H H':Hp}{Pt a:Addr}{xs:List V}{ps:Array Value}(h:SqL K H a xs)(b:But Pt H H')(hP:H Pt=some (.tbl ps)):SqL K H' a xs:=by
 rcases h with(e|⟨o,e⟩)|e
 ·exact .inl (.inl (b _ _ (bo e hP (by intro z;cases z)) e))
 ·exact .inl (.inr ⟨o,b _ _ (bo e hP (by intro z;cases z)) e⟩)
 ·exact .inr e
theorem xr{R:List Int}(nd:R.Nodup):(R.map (Sum.inl:Int→Key)).Nodup:=List.Pairwise.map _ (λ_ _ h z=>h (Sum.inl.inj z)) nd
def kvsOf(g:Int→Int)(R:List Int):List (Key×V):=R.map λa=>(Sum.inl a,.int (g a))
theorem pJ{H:Hp}{g:Int→Int}:∀ {R:List Int} {ps:List V},Prs H ps R g→∃ xs:List Addr,ps=xs.map V.ref∧Paired (λx (p:Key×V)=>H x=some (.tup [kV p.1,p.2])) xs (kvsOf g R)
 | [],[],_=>⟨[],rfl,.nil⟩
 | [],_::_,h=>by cases h.1
 | _::_,[],h=>by cases h.1
 | a::R,v::ps,h=>by
  obtain⟨q,rfl,hq⟩:=h.2 0 v a rfl rfl;obtain⟨xs,e,p⟩:=pJ (R:=R) (ps:=ps) (g:=g) ⟨by have:=h.1;simpa using this,λi u t h1 h2=>h.2 (i+1) u t h1 h2⟩;exact⟨q::xs,by rw[e];rfl,.cons hq p⟩
theorem xt{g:Int→Int}{R:List Int}(nd:R.Nodup):Dg (kvsOf g R) R g:=by
 refine⟨?_,nd,λa m=>?_⟩
 ·unfold Kys kvsOf
  rw[List.map_map];rfl
 ·induction R with
  | nil=>cases m
  | cons b r ih =>
   rw[Dk]at nd;by_cases e:b=a
   ·subst e
    show ff ((Sum.inl b,V.int (g b))::kvsOf g r) (Sum.inl b)=_;rw[cu rfl]
   ·show ff ((Sum.inl b,V.int (g b))::kvsOf g r) (Sum.inl a)=_
    rw[bZ (λz=>e (Sum.inl.inj z))];exact ih nd.2 ((Cw.mp m).resolve_left (CV e))
def dW(R:List Int)(g:Int→Int):List Mw→List Tg→List Mw
 | ws,[]=>ws
 | ws,x::r=>dW R g (if x.2.1∈R then ws.set x.2.1.toNat (.mv (g x.2.1) x.2.2.length) else ws) r
theorem ra(R:List Int)(g:Int→Int)(ws:List Mw)(ts:List Tg)(x:Tg):dW R g ws (ts++[x])=if x.2.1∈R then(dW R g ws ts).set x.2.1.toNat (.mv (g x.2.1) x.2.2.length) else dW R g ws ts:=by
 induction ts generalizing ws with
 | nil=>rfl
 | cons y r ih=>exact ih _
theorem xu(R:List Int)(g:Int→Int)(ws:List Mw)(ts:List Tg):(dW R g ws ts).length=ws.length:=by
 induction ts generalizing ws with
 | nil=>rfl
 | cons y r ih =>
  show(dW R g _ r).length=_;rw[ih];split
  ·rw[CS]
  ·rfl
theorem uy{ws:List Mw}{i j:Nat}{w:Mw}:(ws.set i w)[j]?=(ws[j]?).map λu=>if j=i then w else u:=by
 rw[DO];by_cases c:i=j
 ·subst c
  rw[if_pos rfl];by_cases l:i<ws.length
  ·rw[if_pos l,Cc l];simp
  ·rw[if_neg l,CZ (by omega)];rfl
 ·rw[if_neg c]
  cases ws[j]? with
  | none=>rfl
  | some u=>simp[CV c]
theorem vz{f:Int→List Mw}{g:Int→Int}{ws:List Mw}{R:List Int}(h0:∀ a∈R,0≤a)(j:Nat):(pF f g ws R)[j]?=(ws[j]?).map λu=>if(j:Int)∈R then .mv (g j) (f j).length else u:=by
 induction R generalizing ws with
 | nil=>show ws[j]?=_;cases ws[j]?<;>simp
 | cons a r ih =>
  show(pF f g _ r)[j]?=_;rw[ih (λb m=>h0 b (Cm _ m)),uy,Option.map_map];congr 1
  funext u
  have a0:=h0 a Co;show(if(j:Int)∈r then _ else if j=a.toNat then _ else u)=_;by_cases c:(j:Int)∈r
  ·rw[if_pos c,if_pos (Cm _ c)]
  ·rw[if_neg c]
   by_cases d:j=a.toNat
   ·have e:(j:Int)=a:=by omega
    rw[if_pos d,e,if_pos Co]
   ·rw[if_neg d,if_neg (λm=>(Cw.mp m).elim (λz=>d (by omega)) c)]
theorem zW{f:Int→List Mw}{R:List Int}{g:Int→Int}{ws:List Mw}{ts:List Tg}(h0:∀ x∈ts,0≤x.2.1)(hf:∀ x∈ts,f x.2.1=x.2.2)(j:Nat):(dW R g ws ts)[j]?=(ws[j]?).map λu=>if(j:Int)∈R∧(j:Int)∈ts.map (·.2.1) then .mv (g j) (f j).length else u:=by
 induction ts generalizing ws with
 | nil=>show ws[j]?=_;cases ws[j]?<;>simp
 | cons x r ih =>
  show(dW R g _ r)[j]?=_;rw[ih (λb m=>h0 b (Cm _ m)) (λb m=>hf b (Cm _ m))];have a0:=h0 x Co;have ef:=hf x Co;have key:∀ u:Mw,(if(j:Int)∈R∧(j:Int)∈r.map (·.2.1) then Mw.mv (g j) (f j).length else if x.2.1∈R∧j=x.2.1.toNat then Mw.mv (g x.2.1) x.2.2.length else u)=if(j:Int)∈R∧(j:Int)∈(x::r).map (·.2.1) then Mw.mv (g j) (f j).length else u:=λu=>by
   by_cases c:(j:Int)∈R∧(j:Int)∈r.map (·.2.1)
   ·rw[if_pos c,if_pos ⟨c.1,Cm _ c.2⟩]
   ·rw[if_neg c]
    by_cases d:x.2.1∈R∧j=x.2.1.toNat
    ·have e:(j:Int)=x.2.1:=by omega
     rw[if_pos d,e,ef,if_pos ⟨d.1,Co⟩]
    ·rw[if_neg d,if_neg]
     rintro⟨h1,h2⟩;rcases Cw.mp h2 with z|z
     ·have z':(j:Int)=x.2.1:=z
      exact d ⟨by rw[←z'];exact h1,by omega⟩
     ·exact c ⟨h1,z⟩
  by_cases c:x.2.1∈R
  ·rw[if_pos c,uy,Option.map_map]
   congr 1
   funext u
   rw[←key u];show(if(j:Int)∈R∧(j:Int)∈r.map (·.2.1) then Mw.mv (g j) (f j).length else if j=x.2.1.toNat then Mw.mv (g x.2.1) x.2.2.length else u)=_;congr 1
   by_cases d:j=x.2.1.toNat
   ·rw[if_pos d,if_pos ⟨c,d⟩]
   ·rw[if_neg d,if_neg λz=>d z.2]
  ·rw[if_neg c]
   congr 1
   funext u
   rw[←key u];congr 1
   rw[if_neg λz=>c z.1]
theorem zX{f:Int→List Mw}{R:List Int}{g:Int→Int}{ws:List Mw}{ts:List Tg}(h0:∀ x∈ts,0≤x.2.1)(hf:∀ x∈ts,f x.2.1=x.2.2)(hR:∀ a∈R,a∈ts.map (·.2.1)):dW R g ws ts=pF f g ws R:=by
 apply Dy
 intro j;have r0:∀ a∈R,0≤a:=λa m=>by obtain⟨x,mx,rfl⟩:=C8.mp (hR a m);exact h0 x mx
 rw[zW h0 hf,vz r0];congr 1
 funext u
 by_cases c:(j:Int)∈R
 ·rw[if_pos c,if_pos ⟨c,hR _ c⟩]
 ·rw[if_neg c,if_neg λz=>c z.1]
def sG(K:W.Frag)(Pt:Addr):Sp:=λvs H Q _=>∃(a:Addr) (ns:List Int),vs=[.ref a]∧SqL K H a (ns.map V.int)∧ns.length≤63∧H Pt=some (.tbl #[])∧∀ H',Q (.bl true) H'
abbrev zY:List Str:=["script", "things", "roots", "size", "first", "pairs", "source", "due", "at", "t", "a", "fields"]
theorem eJ:aG zY ["script"] (aj uN):=⟨rfl,rfl,rfl,by decide +kernel,rfl,by decide +kernel,by decide +kernel⟩
theorem xv(F:Fun K "law" "law" uN D.lj D.qe)(T:Txt K mg D)
  (d9:Ok P w K mg base 6 D.br D.cD ["script"] (pH K Pt))
  (b8:Ok P w K mg base 1 D.bF D.cU ["script", "k"] (ni K))
  (ed:Ok P w K mg base 2 D.bw D.dh ["things", "roots", "first"] (lY))
  (dH:Ok P w K mg base 5 D.bb D.cN ["things", "size"] (qZ D))
  (cF:Ok P w K mg base 5 D.bu D.df ["memory"] (wy D))
  (aN:Ok P w K mg base 1 D.aH D.bj ["self", "size"] (j3 D))
  (ir:Ok P w K mg base 10 D.dm D.gF ["source", "target", "first", "roots"] (wm D)):Ok P w K mg base 12 D.lj D.qe ["script"] (sG K Pt):=by
 refine⟨?_,F.binds (ps:=["script"]) λ_ _ _ _ _ _ us hl=>match us,hl with|[_],_=>rfl⟩
 refine F.okE eJ (λvs H Q E h=>?_) (λcdv A' outer s' H vs Q E hr h=>?_)
 ·obtain⟨a,ns,rfl,_⟩:=h
  rfl
 ·obtain⟨a,ns,rfl,hS,hl,hPt,k⟩:=h
  have hu:=iO hr;have hu4:=Dv (DH (by decide:2≤64) _) hr.units;refine⟨_,(PSs.nox (af (ka (aL d9.g (hr.mono (by decide)) rfl T.l7 T.fS d9.b .nil cq (aa (pv 0) ah)) (gh rfl (aM (aE (i:=1) eJ.nd rfl (Or.inl rfl)) (aM (aE (i:=2) eJ.nd rfl (Or.inl rfl)) (aM (aE (i:=3) eJ.nd rfl (Or.inl rfl)) eK)))))
   (af (aC (i:=4) eJ.nd rfl (Or.inl rfl) (aw bS (aL b8.g (hr.mono (by decide)) rfl T.iL T.eZ b8.b .nil cq (aa (pv 0) (aa ai ah))) ai))
   (af (aC (i:=5) eJ.nd rfl (Or.inl rfl) (aL ed.g (hr.mono (by decide)) rfl T.md T.fT ed.b .nil cq (aa (pv 1) (aa (pv 2) (aa (pv 4) ah)))))
   (af (aC (i:=6) eJ.nd rfl (Or.inl rfl) (aL dH.g (hr.mono (by decide)) rfl T.kj T.fB dH.b .nil cq (aa (pv 1) (aa (pv 3) ah))))
   (af (aC (i:=7) eJ.nd rfl (Or.inl rfl) (aL cF.g (hr.mono (by decide)) rfl T.hZ T.d5 cF.b .nil cq (aa (pv 6) ah)))
   (af (aC (i:=8) eJ.nd rfl (Or.inl rfl) (eD (pY rfl) rfl T.qz PyProof.Rows.Boot.«dict» (aa (pv 5) ah)))
   (af (di CL rfl (dq (pv 1)) (gh rfl (aM (aE (i:=9) eJ.nd rfl (Or.inl rfl)) (aM (aE (i:=10) eJ.nd rfl (Or.inl rfl)) (aM (aE (i:=11) eJ.nd rfl (Or.inl rfl)) eK))))
    (ak (fW (tV (wY hu (pv 10) (pv 8)) (by with_unfolding_all rfl))
     (ak (ka (cT (aa dX (aa (cX hu (pv 8) (pv 10) (λ_ _=>rfl)) (aa (bJ aI rfl T.e7 PyProof.Rows.Boot.«len» (aa (pv 11) ah)) ah)))) (nu (pv 7) (pv 10) set_list)))
     cH)))
   (af (bL (aL ir.g (hr.mono (by decide)) rfl T.tG T.jZ ir.b .nil cq (aa (pv 6) (aa (qJ T.gM aN.g (hr.mono (by decide)) rfl T.lS aN.b .nil um (aa (aw aS (pv 4) ai) ah)) (aa (pv 4) (aa (eD dZ rfl T.i0 PyProof.Rows.Boot.«list» (aa (pv 2) ah)) ah))))))
   (ak (bA (uZ (uj (n:=2) hu4) (aL cF.g (hr.mono (by decide)) rfl T.hZ T.d5 cF.b .nil cq (aa (pv 6) ah)) (pv 7) (bT _))))))))))))),?_⟩
  refine⟨_,rfl,a,ns,rfl,hS,hl,hPt,λp lt tv lr rv sz ts rs H1 b1 zp zlt zlr tl rr bt nlt nlr=>⟨p,_,rfl,SqT.of zp,rfl,_,_,rfl,_,_,rfl,_,_,rfl,rfl,?_⟩⟩;refine⟨_,rfl,a,ns,1,rfl,sqB hS b1 hPt,by decide,_,7,rfl,rfl,(by show(0:Int)<7;decide),?_⟩;have f0:=CT (ns.getD (1:Int).toNat 0) (show(7:Int)≠0 by decide);have f1:=CJ (ns.getD (1:Int).toNat 0) (show(0:Int)<7 by decide);obtain⟨fs,ef⟩:∃ fs,ns.getD (1:Int).toNat 0%7=fs:=⟨_,rfl⟩;rw[ef]at f0 f1;simp only[ef,nr];have z0:=bt.z0;have z1:=bt.z1;have n10:=bt.n;have S:=bt.src;refine⟨_,rfl,_,rfl,_,rfl,lt,tv,ts,lr,rv,rs,sz,fs,rfl,zlt,tl,zlr,rr,bt,λpp ps R H2 s2 hp0 zpp pr bf hB=>?_⟩;have nd:=bf.nd;obtain⟨g,eg⟩:∃ g,plA (fOf ts) fs R=g:=⟨_,rfl⟩;rw[eg]at pr;refine⟨_,rfl,_,rfl,lt,tv,ts,sz,rfl,s2 _ _ zlt,tl.same s2,z0,z1,n10,λx m=>⟨bt.lo x m,bt.hi x m,bt.fl x m⟩,λm mx c xs H3 s3 hm hc M3=>?_⟩;refine⟨_,rfl,m,mx,c,xs,_,rfl,M3,λdl H4 s4 hdl zdl=>?_⟩;have M4:=M3.same s4;have s24:=s3.trans s4;have s14:=s2.trans s24;obtain⟨qs,eqs,pq⟩:=pJ (pr.keep (bN.of s24));refine⟨_,rfl,pp,qs,kvsOf g R,rfl,by rw[←eqs];exact s24 _ _ zpp,pq,by rw[show(kvsOf g R).map (·.1)=R.map Sum.inl from by unfold kvsOf;rw[List.map_map];rfl];exact xr nd,λdd hdd=>?_⟩;have s5:=au.upd (o:=.dK (kvsOf g R)) hdd;have dg:=xt (g:=g) nd;have lt1:=tl.1;have B3:dl≠lt:=CV (ae (s24 _ _ (s2 _ _ zlt) |> λh=>(s3 _ _ (s2 _ _ zlt))) hdl);have ndc:dl≠c:=CV (ae M3.l hdl);have ndd:dd≠dl:=λz=>by rw[z,zdl]at hdd;cases hdd
  have sA:=s14.trans s5;have M5:=M4.same s5;have z5:upd H4 dd (.dK (kvsOf g R)) dd=some (.dK (kvsOf g R)):=ab;have y5:=s5 _ _ zdl;have A5:H1 dl=none:=au.none s2 (au.none s3 hdl);generalize upd H4 dd (.dK (kvsOf g R))=H5 at *;refine⟨_,rfl,lt,rfl,⟨_,SqL.of (sA _ _ zlt)⟩,eS (K:=K) (a:=lt) (xs:=tv) (λi σ Hx=>∃(v9 v10 v11:Option V) (dv:List V),σ=[some (.ref a),some (.ref lt),some (.ref lr),some (.int sz),some (.int fs),some (.ref pp),some (.ref m),some (.ref dl),some (.ref dd),v9,v10,v11]∧But dl H5 Hx∧Hx dl=some (.lst dv)∧MR Hx dv (dW R g (wu ts sz) (ts.take i))) ⟨none,none,none,xs,rfl,But.same (au.refl _),y5,M5.r⟩ (λi σ Hx _ ⟨_,_,_,_,_,bx,_⟩=>SqL.of (bx _ _ (CV B3) (sA _ _ zlt))) ?_ ?_⟩
  ·rintro i v σ Hx hi ⟨v9,v10,v11,dv,rfl,bx,zx,rx⟩
   have il:i<ts.length:=(by rw[←lt1];exact(Cd.mp hi).1);have hx:ts[i]?=some ts[i]:=Cc il;obtain⟨x,ex⟩:∃ x,ts[i]=x:=⟨_,rfl⟩;rw[ex]at hx;have mx':=Ct hx;obtain⟨q,lf,zs,rfl,h1,h2,h3⟩:=tl.2 i v x hi hx;have nf:lf≠dl:=ae h2 A5;have h1x:=bx _ _ (bo (sA _ _ h1) y5 (by intro z;cases z)) (sA _ _ h1);have h2x:=bx _ _ nf (sA _ _ h2);have zdx:=bx _ _ ndd z5;have a0:=bt.lo x mx';have a1:=bt.hi x mx';have lx:=rx.1;rw[xu,iq,CN]at lx;refine⟨q,_,rfl,SqT.of h1x,rfl,_,_,rfl,_,_,rfl,_,_,rfl,rfl,?_⟩;refine⟨_,rfl,_,rfl,dd,_,rfl,.inl ⟨kvsOf g R,Sum.inl x.2.1,.inl zdx,rfl,rfl⟩,_,rfl,?_⟩;by_cases cR:x.2.1∈R
   ·have hv:=dg.v _ cR
    refine d6 (by rw[hv];rfl) ⟨_,rfl,_,rfl,dd,_,rfl,.inl ⟨kvsOf g R,Sum.inl x.2.1,.inl zdx,rfl,hv.symm⟩,_,rfl,lf,_,rfl,.inl (SqL.of h2x),by show 3≤sizeLine;decide,λt7 ht7=>?_⟩;have s7:=au.upd (o:=.tup [V.str "moved",V.int (g x.2.1),V.int zs.length]) ht7;refine⟨_,rfl,_,rfl,dl,_,_,x.2.1.toNat,rfl,rfl,s7 _ _ zx,uQ a0 (by omega),?_⟩;refine⟨_,_,_,dv.set x.2.1.toNat (.ref t7),rfl,(bx.trans (But.same s7)).trans But.self,ab,?_⟩;rw[aR hx,ra,if_pos cR];exact((rx.keep (bN.of s7)).set (.inr ⟨(by intro z;cases z),t7,rfl,by rw[ab,h3.1];rfl⟩)).keep (bN.set (s7 _ _ zx))
   ·refine dO (by rw[dg.k.non cR];rfl) ⟨_,_,_,dv,rfl,bx,zx,?_⟩
    rw[aR hx,ra,if_neg cR];exact rx
  rintro σ Hx ⟨v9,v10,v11,dv,rfl,bx,zx,rx⟩;rw[lt1,Cp (Cg _),zX (f:=fOf ts) bt.lo (λx m=>bt.f m) hB]at rx;have Mx:=M5.but bx (CV ndc) y5;have B4:lr≠dl:=ae zlr A5;have zlx:=bx _ _ B4 (sA _ _ zlr);have rrx:=(rr.keep (bN.of sA)).keep λt us y=>bx _ _ (bo y y5 (by intro z;cases z)) y;refine⟨_,rfl,_,rfl,_,80,rfl,rfl,?_⟩;intro m2 mx2 hm2 hmx2 nd2;refine⟨m2,mx2,fs+80,rfl,ab,by omega,by omega,λc2 H6 B6 hc2 M6=>⟨rfl,?_⟩⟩;have s6:au Hx H6:=λb u q=>B6 b u (ae q hm2) (by rw[ag (ae q hm2),ag (ae q hmx2)];exact q);have A6:Hx c2=none:=by
   by_cases e:c2=m2
   ·rw[e];exact hm2
   ·by_cases e2:c2=mx2
    ·rw[e2];exact hmx2
    ·rw[ag e,ag e2]at hc2;exact hc2
  refine⟨_,rfl,_,rfl,lr,rv,rfl,.inl (SqL.of (s6 _ _ zlx)),λl9 hl9=>?_⟩;have s9:=au.upd (o:=.lst rv) hl9;have s69:=s6.trans s9;have M9:=Mx.same s69;have ncc:c≠c2:=ae Mx.l A6;refine⟨m,mx,c,_,_,m2,mx2,c2,_,_,fs,l9,rv,rs,fOf ts,tOf ts,_,rfl,M9,M6.same s9,ncc,(λz=>by rw[z]at hl9;rw[s6 _ _ Mx.l]at hl9;cases hl9),(λz=>by rw[z]at hl9;rw[M6.l]at hl9;cases hl9),bt.gm,ab,rrx.keep (bN.of s69),S,f0,λR' bf' hB'=>?_,?_⟩
  ·have l1:=qW (f:=fOf ts) λb m=>S.fl b (hB' b m)
   have l2:R'.length≤10:=CK (i4 bf'.nd hB') S.bl;rw[CN];omega
  intro R' p' l1 ys1 l2 ps' xs' qX H7 bf' hB' b7 M7 M72 nl1 nl2 zp' zl1 rl1 zl2 pr2;obtain rfl:=bf'.uniq bf;rw[eg]at M7;have B5:dl≠c2:=ae zx A6;have zd7:=b7 _ _ ndc B5 (s69 _ _ zx);have rd7:=rx.keep λt us y=>b7 _ _ (bo (s69 _ _ y) M9.l (by intro z;cases z)) (bo (s69 _ _ y) (M6.same s9).l (by intro z;cases z)) (s69 _ _ y);refine⟨_,rfl,m,mx,c,xs',_,rfl,M7,λp8 H8 s8 hp8 zp8=>?_⟩;have r1:Rp H8 2 (V.ref p8) _:=sE (k:=0) zp8 (M7.r.keep (bN.of s8));have r2:Rp H8 2 (V.ref dl) _:=sE (k:=0) (s8 _ _ zd7) (rd7.keep (bN.of s8));refine⟨_,rfl,_,_,r1,r2,?_⟩;rw[jY r1 r1];exact k _
end
open PySem.W
section
variable{K:Frag}
def LK(K:Frag)(n q:Str)(s:Stmt)(f:Addr):Prop:=(∃ d,Fun K n q s f d)∧keepIn K (.ref f)=true∧isFn K (.ref f)=true
theorem LK.mk{n q:Str}{s:Stmt}{f:Addr}{od an:Option Addr}{sl:Array (Option Value)}{oc kV dc pm cd ct:Value}(h1:K.lookup f=some ⟨oc,od,.func (fnOf n q (fD s) (dQ s) (aj s) .none kV dc pm an cd ct),sl⟩)(h2:codeIn K cd q=true)(h3:keepIn K (.ref f)=true)(h4:isFn K (.ref f)=true):LK K n q s f:=⟨⟨_,t6 (st:=s) h1 h2 h3⟩,h3,h4⟩
def LC(K:Frag)(n q:Str)(s:Stmt)(f cc:Addr):Prop:=(∃ d,Fun K n q s f d∧d.code=.ref cc)∧keepIn K (.ref f)=true∧isFn K (.ref f)=true
theorem LC.mk{n q:Str}{s:Stmt}{f cc:Addr}{od an:Option Addr}{sl:Array (Option Value)}{oc kV dc pm ct:Value}(h1:K.lookup f=some ⟨oc,od,.func (fnOf n q (fD s) (dQ s) (aj s) .none kV dc pm an (.ref cc) ct),sl⟩)(h2:codeIn K (.ref cc) q=true)(h3:keepIn K (.ref f)=true)(h4:isFn K (.ref f)=true):LC K n q s f cc:=⟨⟨_,t6 (st:=s) h1 h2 h3,rfl⟩,h3,h4⟩
def FI(K:Frag)(c:Addr)(n:Str)(f:Addr):Prop:=findIn K (.ref c) n=some (some (.ref f))
def NF(K:Frag)(c:Addr)(n:Str):Prop:=findIn K (.ref c) n=some none
structure PK(K:Frag)(c:Addr):Prop where
 g:plainGet K c Str.empty=true
 d:hasDictIn K c=true
 o:plainOver K c=true
 s:findIn K (.ref c) "__setattr__" = some (some (.builtin "object.__setattr__"))
 k:keepIn K (.ref c)=true
structure EK(K:Frag)(b e i:Addr):Prop where
 x:nG K e=true
 a:findIn K (.ref e) "__getattribute__" = some (some (.builtin "BaseException.__getattribute__"))
 t:findIn K (.ref e) "__getattr__" = some none
 c:findIn K (.ref e) "__class__" = some (some (.builtin "object.__class__"))
 i:findIn K (.ref e) "__init__" = some (some (.ref i))
 k:keepIn K (.ref e)=true
 v:kitOne K (.ref e) (.type "ValueError")=some true
 s:mroIn K e (.ref b)=some true
end
theorem all_mk{l:OpenLaw}{w:World}{K:Frag}{h:Heap}{mg:Str→Option Value}{cc Pt fa aX ax dk aA ao cv iQ cf bO aZ aP dm bq aQ a7 a8 bP aH aU bE bc ar bF a9 ba aV br bb bu cg bw lj:Addr}(X:K.In h)(G:h.Ns mainGlobals mg)(hfa:mg "law" = some (.ref fa))
  (nH:nsIn K mainGlobals "HeapError" = some (some (.ref aX)))
  (xH:nG K aX=true)
  (rY:nsIn K mainGlobals "kind_of" = some (some (.ref cv)))
  (zZ:nsIn K mainGlobals "lay" = some (some (.ref iQ)))
  (qk:nsIn K mainGlobals "thing_at" = some (some (.ref cf)))
  (oh:nsIn K mainGlobals "fields_at" = some (some (.ref bO)))
  (kD:nsIn K mainGlobals "fields_told" = some (some (.ref aZ)))
  (jm:nsIn K mainGlobals "look_at_room" = some (some (.ref aP)))
  (tR:nsIn K mainGlobals "copied" = some (some (.ref dm)))
  (mE:nsIn K mainGlobals "things_met" = some (some (.ref bq)))
  (jo:nsIn K mainGlobals "address_told" = some (some (.ref aQ)))
  (kF:nsIn K mainGlobals "words_among" = some (some (.ref a7)))
  (kG:nsIn K mainGlobals "places_from" = some (some (.ref a8)))
  (oi:nsIn K mainGlobals "told_anew" = some (some (.ref bP)))
  (oj:nsIn K mainGlobals "_law_cell" = some (some (.ref bF)))
  (kH:nsIn K mainGlobals "_law_digits" = some (some (.ref a9)))
  (kI:nsIn K mainGlobals "_law_stream" = some (some (.ref ba)))
  (jq:nsIn K mainGlobals "_law_word_by" = some (some (.ref aV)))
  (mF:nsIn K mainGlobals "_law_built" = some (some (.ref br)))
  (kJ:nsIn K mainGlobals "_law_memory" = some (some (.ref bb)))
  (mG:nsIn K mainGlobals "_law_words" = some (some (.ref bu)))
  (ql:nsIn K mainGlobals "_law_met" = some (some (.ref cg)))
  (mI:nsIn K mainGlobals "_law_pairs" = some (some (.ref bw)))
  (wz:nsIn K mainGlobals "law" = some (some (.ref lj)))
  (rZ:nsIn K mainGlobals "Memory" = some (some (.ref aA)))
  (fI:PK K aA)
  (r6:FI K aA "__init__" aH)
  (gM:makesIn K aA=true)
  (iX:NF K aA "cells")
  (jr:FI K aA "size" aU)
  (mJ:FI K aA "at" bE)
  (kK:FI K aA "put" bc)
  (eR:FI K aA "look_at_address" ar)
  (mK:nsIn K mainGlobals "BadAddress" = some (some (.ref ax)))
  (fi0:FI K ax "__init__" ao)
  (bC:EK K aX ax ao)
  (tS:nsIn K mainGlobals "NoRoom" = some (some (.ref dk)))
  (cY:EK K aX dk ao)
  (gj:LK K "__init__" "HeapError.__init__" cx ao)
  (r8:LK K "kind_of" "kind_of" iA cv)
  (z8:LK K "lay" "lay" uM iQ)
  (qm:LK K "thing_at" "thing_at" fX cf)
  (om:LK K "fields_at" "fields_at" gx bO)
  (kL:LK K "fields_told" "fields_told" fg aZ)
  (js:LK K "look_at_room" "look_at_room" eh aP)
  (tT:LK K "copied" "copied" fM dm)
  (mL:LK K "things_met" "things_met" fO bq)
  (jt:LK K "address_told" "address_told" eA aQ)
  (kM:LK K "words_among" "words_among" dA a7)
  (kN:LK K "places_from" "places_from" fh a8)
  (oo:LK K "told_anew" "told_anew" gy bP)
  (hJ:LK K "__init__" "Memory.__init__" cZ aH)
  (kO:LK K "size" "Memory.size" fi aU)
  (oq:LK K "at" "Memory.at" gz bE)
  (mM:LK K "put" "Memory.put" fP bc)
  (eU:LK K "look_at_address" "Memory.look_at_address" bK ar)
  (ou:LK K "_law_cell" "_law_cell" gA bF)
  (kQ:LK K "_law_digits" "_law_digits" fj a9)
  (kR:LK K "_law_stream" "_law_stream" dB ba)
  (ju:LK K "_law_word_by" "_law_word_by" eB aV)
  (mN:LC K "_law_built" "_law_built" bM br cc)
  (kT:LK K "_law_memory" "_law_memory" fk bb)
  (mO:LK K "_law_words" "_law_words" d0 bu)
  (qo:LK K "_law_met" "_law_met" g6 cg)
  (mP:LK K "_law_pairs" "_law_pairs" fQ bw)
  (Aa:LK K "law" "law" uN lj)
  (e7:nsIn K mainGlobals "len" = some none)
  (dS:nsIn K mainGlobals "range" = some none)
  (i0:nsIn K mainGlobals "list" = some none)
  (j1:nsIn K mainGlobals "sorted" = some none)
  (uP:nsIn K mainGlobals "sum" = some none)
  (cV:nsIn K mainGlobals "enumerate" = some none)
  (fU:nsIn K mainGlobals "ValueError" = some none)
  (qz:nsIn K mainGlobals "dict" = some none) :
  ∃ fd:FuncData,(∀(s:Shared) (v:Value),BindsTo s fd ⟨[v],[]⟩ [("script",v)])∧∀ base:Heap,K.In base→base.Ns mainGlobals mg→jL K mg base cc Pt→iH l.prog w K mg base (CXE l.prog w) 12 fa fd ["script"] (sG K Pt):=by
 have e:=(mg_of X G wz).symm.trans hfa;cases e;obtain⟨cdH,_,yH⟩:=m6 xH;obtain⟨gX,kU,fV⟩:=m6 bC.x;obtain⟨lZ,sf,j9⟩:=m6 cY.x;have su:∀ {D:Addr} {cd:ClassData},clsIn K D=some cd→dy K D cd→mroIn K D (.ref aX)=some true→∃ cd,dy K D cd∧cd.mro.contains (.ref aX)=true:=λ{D cd} hc y sb=>⟨cd,y,by
  unfold mroIn at sb;rw[hc,Option.bind_some,if_neg (by rw[y.jU];decide)]at sb;exact CC sb⟩
 have m:=λ{n:Str} {v:Value} (q:nsIn K mainGlobals n=some (some v))=>mg_of X G q;obtain⟨⟨aJ,gn⟩,nQ,dI⟩:=gj;obtain⟨⟨eF,sg⟩,fG,xB⟩:=r8;obtain⟨⟨qd,Ab⟩,uO,B9⟩:=z8;obtain⟨⟨eN,qq⟩,g7,wA⟩:=qm;obtain⟨⟨dM,oy⟩,gB,vA⟩:=om;obtain⟨⟨cI,kW⟩,ft,uz⟩:=kL;obtain⟨⟨bV,jv⟩,c6,sO⟩:=js;obtain⟨⟨gF,tU⟩,jZ,y3⟩:=tT;obtain⟨⟨de,mQ⟩,fR,uR⟩:=mL;obtain⟨⟨bW,jw⟩,c7,sP⟩:=jt;obtain⟨⟨cJ,kX⟩,fu,uA⟩:=kM;obtain⟨⟨cK,kY⟩,fv,uB⟩:=kN;obtain⟨⟨dN,oz⟩,eY,vB⟩:=oo;obtain⟨⟨bj,hU⟩,qt,hV⟩:=hJ;obtain⟨⟨bQ,kZ⟩,k4,k6⟩:=kO;obtain⟨⟨cA,oA⟩,oB,oE⟩:=oq;obtain⟨⟨b9,mR⟩,mS,mT⟩:=mM;obtain⟨⟨aF,eV⟩,eW,eX⟩:=eU;obtain⟨⟨cU,oH⟩,eZ,vC⟩:=ou;obtain⟨⟨cL,k7⟩,fz,uC⟩:=kQ;obtain⟨⟨cM,k8⟩,fA,uD⟩:=kR;obtain⟨⟨cy,jx⟩,c9,sQ⟩:=ju;obtain⟨⟨cD,mU,hcd⟩,fS,uS⟩:=mN;obtain⟨⟨cN,k9⟩,fB,uE⟩:=kT;obtain⟨⟨df,mV⟩,d5,uT⟩:=mO;obtain⟨⟨eO,qr⟩,g8,wB⟩:=qo;obtain⟨⟨dh,mW⟩,fT,uU⟩:=mP;obtain⟨⟨qe,wC⟩,wc,Ca⟩:=Aa
 let D:Ad:=⟨aX,ax,dk,aA,ao,aJ,cv,eF,iQ,qd,cf,eN,bO,dM,aZ,cI,aP,bV,dm,gF,bq,de,aQ,bW,a7,cJ,a8,cK,bP,dN,aH,bj,aU,bQ,bE,cA,bc,b9,ar,aF,bF,cU,a9,cL,ba,cM,aV,cy,br,cD,bb,cN,bu,df,cg,eO,bw,dh,fa,qe⟩
 have T:Txt K mg D:=⟨⟨cdH,yH⟩,m nH,m mK,⟨⟨gX,fV⟩,⟨bC.a,bC.t⟩,bC.c⟩,⟨⟨gX,fV⟩,bC.i,dI,bC.k⟩,bC.v,su kU fV bC.s,m tS,⟨⟨lZ,j9⟩,⟨cY.a,cY.t⟩,cY.c⟩,⟨⟨lZ,j9⟩,cY.i,dI,cY.k⟩,cY.v,su sf j9 cY.s,m rZ,⟨fI.g,fI.d,fI.o,fI.s⟩,⟨gM,r6,hV,fI.k⟩,iX,⟨jr,k6,k4⟩,⟨mJ,oE,oB⟩,⟨kK,mT,mS⟩,⟨eR,eX,eW⟩,m rY,fG,m zZ,uO,m qk,g7,m oh,gB,m kD,ft,m jm,c6,m tR,jZ,m mE,fR,m jo,c7,m kF,fu,m kG,fv,m oi,eY,m oj,eZ,m kH,fz,m kI,fA,m jq,c9,m mF,fS,m kJ,fB,m mG,d5,m ql,g8,m mI,fT,m wz,wc,mg_none_of X G e7,mg_none_of X G dS,mg_none_of X G i0,mg_none_of X G j1,mg_none_of X G uP,mg_none_of X G cV,mg_none_of X G fU,mg_none_of X G qz⟩;refine⟨qe,λs v=>?_,λbase _ _ TB=>?_⟩
 ·obtain⟨_,_,_,_,_,_,_,_,_,e,_⟩:=wC.ex
  rw[e];exact .of_eq rfl
 have aq:=f9 (P:=l.prog) (w:=w) (mg:=mg) (base:=base) gn T;have aN:=gZ (P:=l.prog) (w:=w) (mg:=mg) (base:=base) hU T;have aK:=ja (P:=l.prog) (w:=w) (mg:=mg) (base:=base) kZ T;have av:=eQ (P:=l.prog) (w:=w) (mg:=mg) (base:=base) eV T aq;have aO:=mh (P:=l.prog) (w:=w) (mg:=mg) (base:=base) oA T av;have az:=kn (P:=l.prog) (w:=w) (mg:=mg) (base:=base) mR T av;have cw:=qi (P:=l.prog) (w:=w) (mg:=mg) (base:=base) sg T;have bg:=iS (P:=l.prog) (w:=w) (mg:=mg) (base:=base) jv T aK aq;have dC:=jc (P:=l.prog) (w:=w) (mg:=mg) (base:=base) kW T aO cw bg aq;have fc:=mq (P:=l.prog) (w:=w) (mg:=mg) (base:=base) oy T dC;have fZ:=n8 (P:=l.prog) (w:=w) (mg:=mg) (base:=base) qq T fc aO;have bh:=iU (P:=l.prog) (w:=w) (mg:=mg) (base:=base) jw T cw;have d7:=kq (P:=l.prog) (w:=w) (mg:=mg) (base:=base) mQ T bh fZ;have sr:=xp (P:=l.prog) (w:=w) (mg:=mg) (base:=base) Ab T bg az;have dD:=jf (P:=l.prog) (w:=w) (mg:=mg) (base:=base) kX T;have dE:=jg (P:=l.prog) (w:=w) (mg:=mg) (base:=base) kY T;have cW:=mz (P:=l.prog) (w:=w) (mg:=mg) (base:=base) oz T bh;have ir:=rX (P:=l.prog) (w:=w) (mg:=mg) (base:=base) tU T d7 dD aK dE sr cW az;have b8:=mC (P:=l.prog) (w:=w) (mg:=mg) (base:=base) oH T;have dF:=jh (P:=l.prog) (w:=w) (mg:=mg) (base:=base) k7 T;have dG:=ji (P:=l.prog) (w:=w) (mg:=mg) (base:=base) k8 T dF;have bY:=iW (P:=l.prog) (w:=w) (mg:=mg) (base:=base) jx T;have d9:=ky (P:=l.prog) (w:=w) (mg:=mg) (base:=base) mU T hcd TB b8 dG bY;have dH:=jk (P:=l.prog) (w:=w) (mg:=mg) (base:=base) k9 T aN az;have cF:=kB (P:=l.prog) (w:=w) (mg:=mg) (base:=base) mV T aK aO;have f6:=og (P:=l.prog) (w:=w) (mg:=mg) (base:=base) qr T;have ed:=kC (P:=l.prog) (w:=w) (mg:=mg) (base:=base) mW T f6;exact(xv (P:=l.prog) (w:=w) (mg:=mg) (base:=base) wC T d9 b8 ed dH cF aN ir).g
theorem walk{l:OpenLaw}{q:Program}{loose:List Str}{XP:(Str→Option Value)→Heap→Prop}{YP:World→Heap→Prop}{d:DefRec}{K:Params→Frag}{cc Pt:Addr}(hn:l.most=some 63)(hdf:d.params.defaults=[])
  (hY:∀(w:World) (h:Heap),YP w h→(K w.params).In h∧h.get? Pt=some (tabObj #[])∧CodeHd h cc Pt) (kP:∀ w:World,(K w.params).lookup Pt=none) (F:∀(w:World) (mg:Str→Option Value) (fa:Addr) (h:Heap),(K w.params).In h→h.Ns mainGlobals mg→mg d.name=some (.ref fa) →
   ∃ fd:FuncData,(∀(s:Shared) (u:Value),BindsTo s fd ⟨[u],[]⟩ [("script",u)])∧∀ base:Heap,(K w.params).In base→base.Ns mainGlobals mg→jL (K w.params) mg base cc Pt→iH l.prog w (K w.params) mg base (CXE l.prog w) 12 fa fd ["script"] (sG (K w.params) Pt)) :
  WalkO q loose XP YP l.row.toRowW d [] (λf vs=>PySem.call f vs) :=
 L2.tF (n:=63) (k:=12) (x := "script") (CX:=λw=>CXE l.prog w) (sp:=λw=>sG (K w.params) Pt) hn (by decide) hdf ⟨rfl,by decide,by decide⟩ hY kP F (λ_ _ a ns hl hP hS=>⟨a,ns,rfl,hS,hl,hP,λ_=>rfl⟩) λ_ _ _ _ _ z=>zK z
end K41
end
section
open PySem PySem.W PyProof.Rows
set_option maxRecDepth 100000 in
set_option maxHeartbeats 0 in
theorem PySem.Challenge.cw_stillheap_k41_forwards_left_holds : PySem.Challenge.rw_stillheap_k41_forwards_left.Holds := by
 w_on;o_law
 refine holds_open (q:=K41.hQ) (loose:=K41.hLo) (Xt:=λs=>xlAt K41.hQ [] s&&recOk (RowW.records (OpenRow.toRowW (OpenLaw.row PySem.Challenge.rw_stillheap_k41_forwards_left))) s)
  (XP:=XL K41.hQ []) (Yf:=Hook.obs (kHook K41.hK K41.hAs K41.fe)) (Ya:=Hook.val (kHook K41.hK K41.hAs K41.fe)) (YP:=Hook.says (kHook K41.hK K41.hAs K41.fe)) (N:=3946)
  ?hl (Hook.of (kHook K41.hK K41.hAs K41.fe)) (Hook.keeps (kHook K41.hK K41.hAs K41.fe))
  (λs e=>xl_of s (Bool.and_eq_true_iff.mp e).1) XL.keeps (by rfl) (by rfl) (by rfl)
  (λs e=>recFacts_of (Bool.and_eq_true_iff.mp e).2) (by rfl) (by first|assumption|decide +kernel)
  (by decide +kernel) ⟨rfl,rfl,rfl,rfl,rfl,by decide +kernel⟩ ?hw ?hc
 (case hl=>exact K41.zB)
 (case hw=>w_witness2)
 refine K41.walk (l:=PySem.Challenge.rw_stillheap_k41_forwards_left) (K:=K41.hK0) (cc:=250) (Pt:=248) rfl rfl (λw h Y=>K41.hY (PySem.W.kIn_of Y)) K41.hP0 ?F
 case F =>
  k_fill
  intro w mg fa h KX G hmg;refine' K41.all_mk (cc:=250) (Pt:=248) KX G hmg ?_ ?_ ?_ ?_ ?_ ?_ ?_ ?_ ?_ ?_ ?_ ?_ ?_ ?_ ?_ ?_ ?_ ?_ ?_ ?_ ?_ ?_ ?_ ?_ ?_ ?_ ?_ ?_ ?_ ?_ ?_ ?_ ?_ ?_ ?_ ?_ ?_ ?_ ?_ ?_ ?_ ?_ ?_ ?_ ?_ ?_ ?_ ?_ ?_ ?_ ?_ ?_ ?_ ?_ ?_ ?_ ?_ ?_ ?_ ?_ ?_ ?_ ?_ ?_ ?_ ?_ ?_ ?_ ?_ ?_ ?_ ?_ ?_ ?_
  all_goals first
   | k_is
   | (unfold K41.FI;k_is)
   | (unfold K41.NF;k_is)
   | (refine' K41.LK.mk ?la ?lb ?lc ?ld;(case la=>k_is);(case lb=>k_is);(case lc=>k_is);(case ld=>k_is))
   | (refine' K41.LC.mk ?la ?lb ?lc ?ld;(case la=>k_is);(case lb=>k_is);(case lc=>k_is);(case ld=>k_is))
   | kernel_rfl
   | (refine' K41.PK.mk ?_ ?_ ?_ ?_ ?_<;>k_is)
   | (refine' K41.EK.mk ?_ ?_ ?_ ?_ ?_ ?_ ?_ ?_<;>first|k_is|kernel_rfl)
   | skip
end
