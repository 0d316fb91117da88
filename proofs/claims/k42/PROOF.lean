import PyProof.Rows.All
import Wide.All
import OpenK.AllK
import Wide.FinOn
import PyProof.EqAt
import PyProof.EqKinds
import PyProof.TupleCall
import OpenK.KCls
import PyProof.ExcClass2
import PyProof.ExcBaseAll.ValueError
import PyProof.ExcArgs
import PyProof.Rows.Exc
import KE.KIsAll
import PyProof.StationsW
import PyProof.EnumFor
import PyProof.EnumStmt
import PyProof.EnumMake
import PyProof.NeKinds
import PyProof.Rows.SumAny
import KE.KDictSum
import PyProof.Rows.SortWalk
import PyProof.Rows.Range3
import PyProof.Rows.SetFrom
import KE.KEqDict
import PyProof.Rows.DictUnroll
import KE.KRevSl
import PyProof.AutoListH
import PyProof.AttrMiss
import KE.KRevIter
import KE.KSortTup
import KE.KLam
import PyProof.ListRange
import PyProof.SeqI3
import Wide.Seal
import PySem.Challenge.RW_stillheap_k42_copies_refused
set_option Elab.async false
set_option linter.all false
set_option maxRecDepth 100000
set_option maxHeartbeats 4000000
set_option exponentiation.threshold 4000
section
open PySem PySem.W PySem.Spec PyProof.Rows
def JM:=@List.getElem?_eq_getElem
def JN:=@List.getElem?_eq_some_iff
def JO:=@List.mem_singleton
def JP:=@List.mem_append_right
def JQ:=@Heap.get?_push_of_some
def JR:=@Nat.le_refl
def JS:=@List.length_map
def JT:=@List.mem_cons_of_mem
def JU:=@List.length_append
def JV:=@List.size_toArray
def JW:=@List.mem_cons_self
def JX:=@Bool.false_ne_true
def JY:=@Heap.lt_size
def JZ:=@List.getElem?_map
def J0:=@List.mem_of_getElem?
def J8:=@Nat.lt_of_lt_of_le
def J9:=@List.take_of_length_le
def Ka:=@List.mem_append
def Kb:=@Nat.ne_of_lt
def Kc:=@List.mem_cons
def Kd:=@Int.emod_lt_of_pos
def Ke:=@List.getElem?_append_right
def Kf:=@List.length_take
def Kg:=@List.getElem?_append_left
def Kh:=@Nat.zero_le
def Ki:=@List.getD_eq_getElem?_getD
def Kj:=@Int.emod_nonneg
def Kk:=@Heap.get?_push_size
def Kl:=@Array.getElem?_eq_some_iff
def Km:=@List.map_append
def Kn:=@Option.map_eq_some_iff
def Ko:=@Nat.le_trans
def Kq:=@Option.some.inj
def Kr:=@List.length_set
def Ks:=@PySem.mem_of_lookup
def Kt:=@List.length_singleton
def Ku:=@List.length_replicate
def Kv:=@List.length_cons
def Kw:=@List.mem_append_left
def Kx:=@PassesOwn.never
def Ky:=@Heap.get?_update_other
def Kz:=@List.map_cons
def KA:=@List.getElem?_of_mem
def KC:=@Bool.false_eq_true
def KD:=@List.getElem?_set_ne
def KG:=@Ne.symm
def KH:=@List.mem_filterMap
def KI:=@Nat.lt_of_le_of_lt
def KJ:=@List.getElem?_set_self
def KL:=@List.mem_or_eq_of_mem_set
def KN:=@Nat.add_le_add_left
def KO:=@Nat.lt_irrefl
def KP:=@List.replicate_succ
def KQ:=@List.nodup_append
def KR:=@Nat.ne_of_gt
def KS:=@List.getElem?_eq_none
def KU:=@List.not_mem_nil
def KW:=@List.take_append_of_le_length
def KY:=@List.mem_map
def KZ:=@Option.map_some
def K0:=@List.length_drop
def K1:=@Nat.sub_self
def K2:=@List.getElem?_take
def K3:=@List.nodup_cons
def K4:=@Heap.SameBut.update
def K5:=@Option.bind_some
def K6:=@List.all_eq_true
def K7:=@Option.getD_some
def K8:=@Heap.size_push
def K9:=@Bool.and_false
def La:=@List.mem_filter
def Lb:=@List.find?_cons
def Lc:=@List.take_append_drop
def Ld:=@List.flatten_cons
def Le:=@List.mem_range
def Lg:=@List.nodup_nil
def Lh:=@Bool.and_eq_true
def Li:=@List.length_pos_iff
def Lj:=@List.eq_of_mem_replicate
def Lk:=@Bool.eq_iff_iff
def Ll:=@List.any_cons
def Lm:=@List.getElem?_drop
def Ln:=@List.take_succ_eq_append_getElem
def Lo:=@Nat.le_succ
def Lp:=@Nat.lt_succ_of_lt
def Lq:=@List.length_filter_le
def Lr:=@List.getElem_mem
def Ls:=@Array.length_toList
def Lu:=@List.append_nil
def Lv:=@Calls.Name_function_global
def Lx:=@Nat.le_of_lt
def Ly:=@List.append_assoc
def Lz:=@Nat.not_lt
def LA:=@List.getElem?_set
def LB:=@List.length_range
def LD:=@List.ext_getElem?
def LF:=@List.prefix_refl
def LG:=@List.mem_flatMap
def LH:=@List.of_mem_zip
end
section
namespace L2
open PySem PySem.Spec PyProof.Rows
abbrev Key:=Sum Int Str
def pH:Key→Value→Bool
  | .inl k,v=>Value.isInt k v
  | .inr x,v=>Value.isStrOf x v
def Io(w:World):Key→Int
  | .inl k=>hashInt k
  | .inr x=>hashStr w x
theorem cF:∀ {k:Key} {v:Value},pH k v=true→(∃ i t,k=Sum.inl i∧v=Value.int i t)∨(∃ x t,k=Sum.inr x∧v=Value.str x t)
  | .inl i,v,h=>by
    obtain⟨t,e⟩:=Value.isInt_shape (k:=i) (v:=v) h;exact .inl ⟨i,t,rfl,e⟩
  | .inr x,v,h=>by
    obtain⟨t,e⟩:=Value.isStrOf_shape (x:=x) (v:=v) h;exact .inr ⟨x,t,rfl,e⟩
theorem wg(i:Int)(t:Tok):pH (.inl i) (.int i t)=true:=by simp[pH,Value.isInt]
theorem wj(x:Str)(t:Tok):pH (.inr x) (.str x t)=true:=by simp[pH,Value.isStrOf]
theorem Dh(a b:Int):decide ((Sum.inl a:Key)=Sum.inl b)=(a == b):=by
  by_cases e:a=b
  · subst e;simp
  · have h:¬(Sum.inl a:Key)=Sum.inl b:=λq=>e (Sum.inl.inj q)
    rw[decide_eq_false h];exact(beq_eq_false_iff_ne.mpr e).symm
theorem Di(a b:Str):decide ((Sum.inr a:Key)=Sum.inr b)=decide (a=b):=by
  by_cases e:a=b
  · subst e;simp
  · have h:¬(Sum.inr a:Key)=Sum.inr b:=λq=>e (Sum.inr.inj q)
    rw[decide_eq_false h,decide_eq_false e]
theorem Dj(a:Int)(b:Str):decide ((Sum.inl a:Key)=Sum.inr b)=false:=decide_eq_false (λq=>nomatch q)
theorem Dk(a:Str)(b:Int):decide ((Sum.inr a:Key)=Sum.inl b)=false:=decide_eq_false (λq=>nomatch q)
def dN(prog:Program)(w:World):PySem.KeyKind prog w Key where
  is:=pH
  hash:=Io w
  inj:=λv a b ha hb=>by
    rcases cF ha with⟨i,t,rfl,rfl⟩|⟨x,t,rfl,rfl⟩
    · rcases cF hb with⟨j,u,rfl,e⟩|⟨y,u,rfl,e⟩
      · injection e with e1 _;rw[e1]
      · exact nomatch e
    · rcases cF hb with⟨j,u,rfl,e⟩|⟨y,u,rfl,e⟩
      · exact nomatch e
      · injection e with e1 _;rw[e1]
  byValue:=λk v h=>by
    rcases cF h with⟨i,t,rfl,rfl⟩|⟨x,t,rfl,rfl⟩<;>rfl
  pyHash:=λhv h=>by
    rcases cF hv with⟨i,t,rfl,rfl⟩|⟨x,t,rfl,rfl⟩
    · exact wpAny_pyHash_int h
    · exact wpAny_pyHash_str h
  eqBool:=λhu hv h=>by
    rcases cF hu with⟨i,t,rfl,rfl⟩|⟨x,t,rfl,rfl⟩
    · rcases cF hv with⟨j,u,rfl,rfl⟩|⟨y,u,rfl,rfl⟩
      · rw[Dh]at h;exact wpAny_eqBool_int h
      · rw[Dj]at h;exact SeqAt.EqAt.int_str i t y u _ _ _ _ h
    · rcases cF hv with⟨j,u,rfl,rfl⟩|⟨y,u,rfl,rfl⟩
      · rw[Dk]at h;exact SeqAt.EqAt.str_int x t j u _ _ _ _ h
      · rw[Di]at h;exact wpAny_eqBool_str h
  «strs» := λk x t v h=>by
    rcases cF h with⟨i,u,rfl,e⟩|⟨y,u,rfl,e⟩
    · exact nomatch e
    · injection e with e1 _
      subst e1;cases v<;>rfl
theorem rB(prog:Program)(w:World)(i:Int)(t:Tok):(dN prog w).is (.inl i) (.int i t)=true:=wg i t
theorem rC(prog:Program)(w:World)(x:Str)(t:Tok):(dN prog w).is (.inr x) (.str x t)=true:=wj x t
end L2
namespace L2
open PySem PySem.Spec PyProof.Rows
inductive V where
  | non|bl (b:Bool)|int (i:Int)|str (x:Str)|byt (b:Array UInt8)|flt (b:UInt64)|ref (a:Addr)|ty (n:String)
  deriving DecidableEq
def RelV:V→Value→Prop
  | .non,u=>u=Value.none
  | .bl b,u=>u=Value.bool b
  | .int i,u=>∃ t,u=Value.int i t
  | .str x,u=>∃ t,u=Value.str x t
  | .byt b,u=>∃ t,u=Value.bytes b t
  | .flt b,u=>∃ t,u=Value.float b t
  | .ref a,u=>u=Value.ref a
  | .ty n,u=>u=Value.type n
abbrev Vals:List V→List Value→Prop:=Paired RelV
theorem Vals.length{xs:List V}{us:List Value}(r:Vals xs us):xs.length=us.length:=Paired.length r
theorem Vals.get:∀ {xs:List V} {us:List Value} {i:Nat} {x:V},Vals xs us→xs[i]?=some x→∃ u,us[i]?=some u∧RelV x u
  | _,_,_,_,.nil,e=>by simp at e
  | _,_,0,_,.cons r _,e=>by simp at e;subst e;exact⟨_,rfl,r⟩
  | _,_,i+1,x,.cons _ t,e=>by
    obtain⟨u,h1,h2⟩:=Vals.get (i:=i) (x:=x) t (by simpa using e);exact⟨u,by simpa using h1,h2⟩
theorem Vals.set{x:V}{u:Value}(r:RelV x u):∀ {xs:List V} {us:List Value} (i:Nat),Vals xs us→Vals (xs.set i x) (us.set i u)
  | _,_,_,.nil=>.nil
  | _,_,0,.cons _ t=>.cons r t
  | _,_,i+1,.cons q t=>.cons q (Vals.set r i t)
theorem Vals.append:∀ {xs ys:List V} {us ws:List Value},Vals xs us→Vals ys ws→Vals (xs++ys) (us++ws)
  | _,_,_,_,.nil,s=>s
  | _,_,_,_,.cons r t,s=>.cons r (Vals.append t s)
theorem Vals.take:∀ {xs:List V} {us:List Value} (n:Nat),Vals xs us→Vals (xs.take n) (us.take n)
  | _,_,0,_=>.nil
  | _,_,_+1,.nil=>.nil
  | _,_,n+1,.cons r t=>.cons r (Vals.take n t)
theorem Vals.drop:∀ {xs:List V} {us:List Value} (n:Nat),Vals xs us→Vals (xs.drop n) (us.drop n)
  | _,_,0,r=>r
  | _,_,_+1,.nil=>.nil
  | _,_,n+1,.cons _ t=>Vals.drop n t
def kN:Option V→Option Value→Prop
  | some v,some u=>RelV v u
  | none,none=>True
  | _,_=>False
def KV{κ:Type}:List (κ×V)→List (κ×Value)→Prop:=Paired λ(p:κ×V) (q:κ×Value)=>p.1=q.1∧RelV p.2 q.2
def kV:Key→V
  | .inl i=>.int i
  | .inr x=>.str x
inductive HO where
  | lst (xs:List V)
  | tup (xs:List V)
  | dK (kvs:List (Key×V))|dT (kvs:List (List Key×V))
  | set (S:Int→Bool) (n:Nat)
  | ins (C dx:Addr) (fs:List (Str×V))
  | own (x:Addr)
  | xd (fs:List (Str×V))
  | met (f x:Addr)
  | rng (lo hi:Int)
  | frz (o:Obj) (u:HO)
  | tbl (ps:Array Value)
  | ext (φ:Heap→Prop)
abbrev Hp:=Addr→Option HO
def upd(H:Hp)(a:Addr)(o:HO):Hp:=λb=>if b=a then some o else H b
theorem ae{H:Hp}{a:Addr}{o:HO}:upd H a o a=some o:=by unfold upd;rw[if_pos rfl]
theorem aj{H:Hp}{a b:Addr}{o:HO}(h:b≠a):upd H a o b=H b:=by unfold upd;rw[if_neg h]
theorem cG{H:Hp}{a b:Addr}{o u:HO}(h:H a=some o)(h':H b=some u)(d:o≠u):a≠b:=by
  intro e;subst e;rw[h]at h';exact d (Kq h')
theorem ai{H:Hp}{a b:Addr}{o:HO}(h:H a=some o)(h':H b=none):a≠b:=by
  intro e;subst e;rw[h]at h';cases h'
section
variable(P:Program)(w:World)
def cw(H:Hp)(h:Heap)(a:Addr):HO→Prop
  | .lst xs=>xs.length≤sizeLine∧∃(its:List Value) (n:Nat),Vals xs its∧h.get? a=some {cls:=.type "list",data:=.seq its.toArray n}
  | .tup xs=>xs.length≤sizeLine∧∃ its:List Value,Vals xs its∧IsTup h a its.toArray
  | .dK kvs=>kvs.length≤sizeLine∧(a == sysModules)=false∧∃ vs,KV kvs vs∧h.DictOf (dN P w) a vs
  | .dT kvs=>kvs.length≤sizeLine∧(a == sysModules)=false∧∃ xs:List (List Key×Addr×Value),
      Paired (λ(p:List Key×V) (q:List Key×Addr×Value)=>p.1=q.1∧H q.2.1=some (.tup (p.1.map kV))∧RelV p.2 q.2.2) kvs xs ∧
      ∃ o es ep,h.get? a=some o∧o.ExactDict∧o.data=.dict es ep∧es.toList=xs.map (entryOfKey (tupleKind (dN P w)))∧(xs.map (·.1)).Nodup
  | .set S n=>h.SetOf (intKind P w) a S n
  | .ins C dx fs=>H dx=some (.own a)∧fs.length≤1000∧dx≠a∧h.get? a=some (PySem.W.instObj C dx) ∧
      ∃ mA,h.Ns1 dx mA∧(∀ f,kN (fs.lookup f) (mA f))∧PySem.Within mA (fs.map (·.1))
  | .own _=>∃ o,h.get? a=some o
  | .xd fs=>∃ mA,h.Ns1 a mA∧∀ f,kN (fs.lookup f) (mA f)
  | .rng lo hi=>∃ t u v,h.get? a=some {cls:=.type "range",data:=.fields #[.int lo t,.int hi u,.int 1 v]}
  | .frz o u=>h.get? a=some o∧cw H h a u
  | .tbl ps=>h.get? a=some {cls:=.none,data:=.fields ps}
  | .met f x=>h.get? a=some (PySem.W.methodObj (.ref f) (.ref x))
  | .ext φ=>φ h∧(∃ o,h.get? a=some o)∧∀ h1 h2:Heap,φ h1→(∀ o,h1.get? a=some o→h2.get? a=some o)→φ h2
def HOk(H:Hp)(h:Heap):Prop:=∀ a o,H a=some o→cw P w H h a o
end
section
variable{P:Program}{w:World}{H H':Hp}{h h':Heap}{a:Addr}{o:HO}
theorem cw.lt(x:cw P w H h a o):a<h.objs.size:=by
  cases o with
  | lst xs=>obtain⟨_,_,_,_,e⟩:=x;exact JY e
  | tup xs=>obtain⟨_,_,_,p⟩:=x;exact p.lt
  | dK kvs=>obtain⟨_,_,_,_,o,_,_,e,_⟩:=x;exact JY e
  | dT kvs=>obtain⟨_,_,_,_,o,_,_,e,_⟩:=x;exact JY e
  | set S n=>obtain⟨o,_,_,_,e,_⟩:=x;exact JY e
  | ins C dx fs=>obtain⟨_,_,_,e,_⟩:=x;exact JY e
  | own y=>obtain⟨_,e⟩:=x;exact JY e
  | xd fs=>obtain⟨_,⟨_,_,_,e,_⟩,_⟩:=x;exact JY e
  | rng lo hi=>obtain⟨_,_,_,e⟩:=x;exact JY e
  | frz ob u=>obtain⟨e,_⟩:=x;exact JY e
  | tbl ps=>exact JY (show h.get? a=some _ from x)
  | met f y=>exact JY (show h.get? a=some _ from x)
  | ext φ=>obtain⟨_,⟨_,e⟩,_⟩:=x;exact JY e
theorem Paired.DW{α β:Type}{F G:α→β→Prop}:∀ {l₁:List α} {l₂:List β},Paired F l₁ l₂→(∀ a b,F a b→G a b)→Paired G l₁ l₂
  | _,_,.nil,_=>.nil
  | _,_,.cons r t,f=>.cons (f _ _ r) (Paired.DW t f)
theorem cw.pL(x:cw P w H h a o)(k:∀ b u,(b=a∨H b=some (.own a))→h.get? b=some u→h'.get? b=some u)
    (ho:∀ b,H b=some (.own a)→H' b=some (.own a)) (ht:∀ b xs,H b=some (.tup xs)→H' b=some (.tup xs)):cw P w H' h' a o:=by
  induction o with
  | lst xs=>obtain⟨z,its,n,r,e⟩:=x;exact⟨z,its,n,r,k _ _ (.inl rfl) e⟩
  | tup xs=>obtain⟨z,its,r,ob,e,c⟩:=x;exact⟨z,its,r,ob,k _ _ (.inl rfl) e,c⟩
  | dK kvs=>obtain⟨z,y,vs,r,ob,es,ep,e,c⟩:=x;exact⟨z,y,vs,r,ob,es,ep,k _ _ (.inl rfl) e,c⟩
  | dT kvs =>
    obtain⟨z,y,xs,r,ob,es,ep,e,c⟩:=x;exact⟨z,y,xs,Paired.DW r λp q z=>⟨z.1,ht _ _ z.2.1,z.2.2⟩,ob,es,ep,k _ _ (.inl rfl) e,c⟩
  | set S n=>obtain⟨ob,es,ep,t,e,c⟩:=x;exact⟨ob,es,ep,t,k _ _ (.inl rfl) e,c⟩
  | ins C dx fs =>
    obtain⟨d,z,ne,e,mA,⟨od,es,ep,e2,c⟩,r⟩:=x;exact⟨ho _ d,z,ne,k _ _ (.inl rfl) e,mA,⟨od,es,ep,k _ _ (.inr d) e2,c⟩,r⟩
  | own y=>obtain⟨ob,e⟩:=x;exact⟨ob,k _ _ (.inl rfl) e⟩
  | xd fs=>obtain⟨mA,⟨od,es,ep,e,c⟩,r⟩:=x;exact⟨mA,⟨od,es,ep,k _ _ (.inl rfl) e,c⟩,r⟩
  | rng lo hi=>obtain⟨t,u,v,e⟩:=x;exact⟨t,u,v,k _ _ (.inl rfl) e⟩
  | frz ob u ih=>obtain⟨e,q⟩:=x;exact⟨k _ _ (.inl rfl) e,ih q⟩
  | tbl ps =>
    have e:h.get? a=some {cls:=.none,data:=.fields ps}:=x;show h'.get? a=some {cls:=.none,data:=.fields ps};exact k a _ (.inl rfl) e
  | met f y =>
    have e:h.get? a=some (PySem.W.methodObj (.ref f) (.ref y)):=x;show h'.get? a=some (PySem.W.methodObj (.ref f) (.ref y));exact k a _ (.inl rfl) e
  | ext φ=>obtain⟨p,⟨o,e⟩,st⟩:=x;exact⟨st _ _ p λo q=>k _ _ (.inl rfl) q,⟨o,k _ _ (.inl rfl) e⟩,st⟩
theorem HOk.lt(x:HOk P w H h)(e:H a=some o):a<h.objs.size:=(x a o e).lt
theorem HOk.fresh(x:HOk P w H h)(e:h.objs.size≤a):H a=none:=by
  cases q:H a with
  | none=>rfl
  | some u=>exact absurd (J8 (x.lt q) e) (KO _)
theorem HOk.kept(x:HOk P w H h)(k:∀ b u,h.get? b=some u→h'.get? b=some u):HOk P w H h':=λa o e =>
  (x a o e).pL (λb u _ q=>k b u q) (λ_ q=>q) λ_ _ q=>q
theorem HOk.laid(x:HOk P w H h)(k:∀ b u,h.get? b=some u→h'.get? b=some u)(hp:h.objs.size≤a)(new:cw P w (upd H a o) h' a o):HOk P w (upd H a o) h':=λb u e=>by
  have hn:=x.fresh hp;by_cases hb:b=a
  · subst hb;rw[ae]at e;cases e;exact new
  · rw[aj hb]at e
    exact(x b u e).pL (λc v _ q=>k c v q) (λc q=>by rw[aj (ai q hn)];exact q) λc xs q=>by rw[aj (ai q hn)];exact q
end
def Rd(H:Hp)(a:Addr)(u:HO):Prop:=H a=some u∨∃ o,H a=some (.frz o u)
theorem Rd.ok{P:Program}{w:World}{H:Hp}{h:Heap}{a:Addr}{u:HO}(r:Rd H a u)(x:HOk P w H h):cw P w H h a u:=by
  rcases r with r|⟨o,r⟩
  · exact x a u r
  · obtain⟨_,q⟩:=x a _ r
    exact q
def Mut:Option HO→Prop
  | some (.lst _)=>True
  | some (.dK _)=>True
  | some (.dT _)=>True
  | some (.set _ _)=>True
  | some (.ins _ _ _)=>True
  | some (.ext _)=>True
  | _=>False
section
variable{P:Program}{w:World}{H:Hp}{h h':Heap}{x e:Addr}{o':HO}
theorem HOk.write(ok:HOk P w H h)(mu:Mut (H x))(he:e=x∨H e=some (.own x))(k:∀ b u,b≠e→h.get? b=some u→h'.get? b=some u)(heo:∃ u,h'.get? e=some u)
    (new:cw P w (upd H x o') h' x o'):HOk P w (upd H x o') h':=λb u q=>by
  have G9:∀ c y,H c=some (.own y)→c≠x:=λc y r z=>by subst z;rw[r]at mu;exact mu
  have Ip:∀ c xs,H c=some (.tup xs)→c≠x:=λc xs r z=>by subst z;rw[r]at mu;exact mu
  by_cases hb:b=x
  · subst hb;rw[ae]at q;cases q;exact new
  · rw[aj hb]at q
    by_cases hbe:b=e
    · have q':H b=some (.own x):=by
        rcases he with z|z
        · exact absurd (hbe.trans z) hb
        · rw[hbe];exact z
      rw[q]at q';cases q';obtain⟨v,hv⟩:=heo;exact⟨v,by rw[hbe];exact hv⟩
    · refine(ok b u q).pL (λc v hc r=>k c v ?_ r) (λc r=>by rw[aj (G9 c b r)];exact r) λc xs r=>by rw[aj (Ip c xs r)];exact r
      rcases hc with rfl|hc
      · exact hbe
      · rintro rfl
        rcases he with z|z
        · exact G9 c b hc z
        · rw[hc]at z;cases z;exact hb rfl
end
structure Un(fs ex:List Addr)(H H':Hp)(h h':Heap):Prop where
  keep:∀ b o,h.get? b=some o→H b=none→b∉fs→b∉ex→h'.get? b=some o
  slot:∀ b o,h.get? b=some o→H b=none→b∈fs→b∉ex→∃ sl,h'.get? b=some {o with slots:=sl}
  free:∀ b o,h.get? b=some o→H b=none→b∉ex→H' b=none
  there:∀ b o,h.get? b=some o→b∉ex→∃ o',h'.get? b=some o'
  ku:∀ b xs,H b=some (.tup xs)→H' b=some (.tup xs)
  lO:∀ b o u,H b=some (.frz o u)→H' b=some (.frz o u)
  lP:∀ b ps,H b=some (.tbl ps)→∃ more,H' b=some (.tbl (ps++more))
section
variable{fs fs' ex ex':List Addr}{H H1 H2:Hp}{h h1 h2 h':Heap}{a x e:Addr}{o:HO}
theorem Un.any(u:Un fs ex H H1 h h1){b:Addr}{ob:Obj}(q:h.get? b=some ob)(n:H b=none)(hx:b∉ex):∃ sl,h1.get? b=some {ob with slots:=sl}:=by
  by_cases hb:b∈fs
  · exact u.slot b ob q n hb hx
  · exact⟨ob.slots,u.keep b ob q n hb hx⟩
theorem Un.kept(k:∀ b u,h.get? b=some u→h'.get? b=some u):Un fs ex H H h h' :=
  ⟨λb ob q _ _ _=>k b ob q,λb ob q _ _ _=>⟨ob.slots,k b ob q⟩,λ_ _ _ n _=>n,λb ob q _=>⟨ob,k b ob q⟩,λ_ _ q=>q,λ_ _ _ q=>q,λ_ ps q=>⟨#[],by rw[q];simp⟩⟩
theorem Un.refl:Un fs ex H H h h:=Un.kept λ_ _ q=>q
theorem Un.laid(k:∀ b u,h.get? b=some u→h'.get? b=some u)(hp:h.objs.size≤a)(hn:H a=none):Un fs ex H (upd H a o) h h' where
  keep:=λb u q _ _ _=>k b u q
  slot:=λb u q _ _ _=>⟨u.slots,k b u q⟩
  free:=λb u q n _=>by rw[aj (Kb (J8 (JY q) hp))];exact n
  there:=λb u q _=>⟨u,k b u q⟩
  ku:=λb xs q=>by rw[aj (ai q hn)];exact q
  lO:=λb u xs q=>by rw[aj (ai q hn)];exact q
  lP:=λb ps q=>⟨#[],by rw[aj (ai q hn),q];simp⟩
theorem Un.write(mu:Mut (H x))(he:e=x∨H e=some (.own x))(k:∀ b u,b≠e→h.get? b=some u→h'.get? b=some u)(heo:∃ u,h'.get? e=some u):Un fs ex H (upd H x o) h h':=by
  have hx:∀ b,H b=none→b≠x:=λb n z=>by subst z;rw[n]at mu;exact mu
  have hb:∀ b,H b=none→b≠e:=λb n z=>by
    subst z;rcases he with r|r
    · exact hx b n r
    · rw[n]at r;cases r
  have hm:∀ b u,H b=some u→¬Mut (some u)→b≠x:=λb u q nm z=>by subst z;rw[q]at mu;exact nm mu
  refine⟨λb u q n _ _=>k b u (hb b n) q,λb u q n _ _=>⟨u.slots,k b u (hb b n) q⟩,λb u q n _=>by rw[aj (hx b n)];exact n,λb u q _=>?_,
    λb xs q=>by rw[aj (hm b _ q λz=>z)];exact q,λb u xs q=>by rw[aj (hm b _ q λz=>z)];exact q,λb ps q=>⟨#[],by rw[aj (hm b _ q λz=>z),q];simp⟩⟩
  by_cases hbe:b=e
  · subst hbe;exact heo
  · exact⟨u,k b u hbe q⟩
end
def trk(h:Heap)(H:Hp):List Addr:=(List.range h.objs.size).filter λa=>(H a).isSome
def sV(h:Heap)(H:Hp):Heap:=PySem.W.hideAll h (trk h H)
theorem wm(h:Heap)(H:Hp):(sV h H).objs.size=h.objs.size:=PySem.W.hideAll_size _ _
theorem xP{h:Heap}{H:Hp}{b:Addr}{o:Obj}(e:h.get? b=some o)(n:H b=none):(sV h H).get? b=some o :=
  PySem.W.hideAll_get _ e λhm=>by
    have q:(H b).isSome=true:=(La.mp hm).2;rw[n]at q;simp at q
theorem zR{h:Heap}{H:Hp}{b:Addr}{o:Obj}(e:(sV h H).get? b=some o):h.get? b=some o∧H b=none:=by
  have e':h.get? b=some o:=PySem.W.of_hideAll (trk h H) e;refine⟨e',?_⟩;cases q:H b with
  | none=>rfl
  | some x =>
    have hm:b∈trk h H:=La.mpr ⟨Le.mpr (JY e'),by simp[q]⟩;have z:(sV h H).get? b=none:=PySem.W.hideAll_none (trk h H) hm;rw[z]at e;cases e
end L2
namespace L2
open PySem PySem.Spec PyProof.Rows
structure Mod(K:W.Frag)(mg:Str→Option Value)(base:Heap):Prop where
  kin:K.In base
  glob:base.Ns mainGlobals mg
  blt:∃ mb,base.Ns builtinsNs mb∧∀ x:Str,x ≠ "__name__" → mb x=bootBuiltins x
  nolimit:base.NoLimit
structure Cx where
  prog:Program
  w:World
  K:W.Frag
  mg:Str→Option Value
  base:Heap
  A:Around
  N:List Str
  s₀:Shared
  H₀:Hp
  env:Env
  outer:List Env
  stack:List Env
  ex:List Addr
  fn:Str→Bool
  calm:Bool
  pn:List (Addr×Obj)
  xe:Value→Shared→Prop
def frs(l:List Env):List Addr:=l.filterMap (·.frame)
abbrev Cx.fs(X:Cx):List Addr:=frs X.outer
def Vis(sc:Scope)(x:Str):Prop:=sc.names.lookup x=some .local∨sc.names.lookup x=some .cell∨sc.names.lookup x=some .free
def Loc(sc:Scope)(x:Str):Prop:=sc.names.lookup x=some .local∨sc.names.lookup x=some .cell
def Look(env:Env)(h:Heap)(m:Str→Option Value)(x:Str)(u:Value):Prop :=
  (env.kindOf x=some .local∧m x=some u)∨((env.kindOf x=some .cell∨env.kindOf x=some .free)∧∃ c,env.cells.lookup x=some c∧h.IsCell c (some u))
structure Cx.Ok(X:Cx):Prop where
  mod:Mod X.K X.mg X.base
  kind:X.env.scope.kind=.function
  glob:X.env.globals=mainGlobals
  blt:X.env.builtins=builtinsNs
  above:X.s₀.heap.objs.size≤X.env.locals
  inj:∀ x y c,X.env.cells.lookup x=some c→X.env.cells.lookup y=some c→x=y
  has:∀ x,(X.env.kindOf x=some .cell∨X.env.kindOf x=some .free)→∃ c,X.env.cells.lookup x=some c
  cab:∀ x c,X.fn x=true→X.env.cells.lookup x=some c→X.s₀.heap.objs.size≤c
  hd:X.calm=true→X.A.handled=none
  frames:X.A.frames=some X.stack
  stk:X.stack=X.outer∨(X.stack=X.env::X.outer∧X.env.frame=some X.env.locals)
  exf:∀ b∈X.ex,b≠X.env.locals∧∀ x c,X.env.cells.lookup x=some c→c≠b
  bs:∀ b o,X.base.get? b=some o→X.s₀.heap.get? b=some o∧X.H₀ b=none
  bsz:X.base.objs.size≤X.s₀.heap.objs.size
  tU:∀ b o,X.base.get? b=some o→b∉X.ex
  xE:∀ b∈X.ex,b∉X.fs
  lQ:X.s₀.heap.FunFrames X.base X.outer
  frf:∀ b∈X.fs,X.H₀ b=none
structure Inv(X:Cx)(pins:List (Addr×Obj))(σ:List (Option V))(H:Hp)(s:Shared):Prop where
  ok:X.Ok
  os:s.os=X.s₀.os
  bare:AllBare s.gens
  base:Un X.fs X.ex X.H₀ H X.s₀.heap s.heap
  loc:∃ m,s.heap.Ns X.env.locals m∧∀(i:Nat) (x:Str) (v:V),X.N[i]?=some x→σ[i]?=some (some v)→Vis X.env.scope x→∃ u,RelV v u∧Look X.env s.heap m x u
  cell:∀ x c,X.env.cells.lookup x=some c→∃ v,s.heap.IsCell c v
  free:H X.env.locals=none
  fU:∀ x c,X.env.cells.lookup x=some c→H c=none
  pin:∀ p∈X.pn++pins,s.heap.get? p.1=some p.2∧H p.1=none∧p.1≠X.env.locals∧p.1∉X.fs∧∀ v,p.2.data≠.cell v
  hok:HOk X.prog X.w H s.heap
  len:σ.length=X.N.length
section
variable{X:Cx}{pins:List (Addr×Obj)}{σ:List (Option V)}{H H':Hp}{s:Shared}{h':Heap}
theorem Cx.Ok.Iq(ok:X.Ok){b:Addr}{o:Obj}(e:X.base.get? b=some o):b∉X.fs:=λhb=>by
  have:=(ok.lQ.mem hb).1
  rw[e]at this;cases this
theorem Inv.bs(I:Inv X pins σ H s):∀ b o,X.base.get? b=some o→s.heap.get? b=some o∧H b=none:=λb o e =>
  ⟨I.base.keep b o (I.ok.bs b o e).1 (I.ok.bs b o e).2 (I.ok.Iq e) (I.ok.tU b o e),I.base.free b o (I.ok.bs b o e).1 (I.ok.bs b o e).2 (I.ok.tU b o e)⟩
theorem Inv.bk(I:Inv X pins σ H s):∀ b o,X.base.get? b=some o→s.heap.get? b=some o:=λb o e=>(I.bs b o e).1
theorem Inv.mod(I:Inv X pins σ H s):Mod X.K X.mg X.base:=I.ok.mod
theorem Inv.kIn(I:Inv X pins σ H s):X.K.In s.heap:=I.ok.mod.kin.keeps I.bk
theorem Inv.nolimit(I:Inv X pins σ H s):s.heap.NoLimit:=I.ok.mod.nolimit.keeps I.bk
theorem Inv.lt(I:Inv X pins σ H s):X.env.locals<s.heap.objs.size:=let ⟨_,hn,_⟩:=I.loc;hn.lt
theorem Inv.sz(I:Inv X pins σ H s):X.s₀.heap.objs.size≤s.heap.objs.size:=Ko I.ok.above (Lx I.lt)
theorem Inv.zS(I:Inv X pins σ H s){a:Addr}(h:s.heap.objs.size≤a):a∉X.fs:=λhb=>by
  obtain⟨_,o,ho,_⟩:=I.ok.lQ.mem hb;exact absurd (J8 (JY ho) (Ko I.sz h)) (KO _)
theorem Inv.cne(I:Inv X pins σ H s):∀ x c,X.env.cells.lookup x=some c→c≠X.env.locals:=λx c e z=>by
  obtain⟨v,o,ho,hd⟩:=I.cell x c e;obtain⟨m,⟨o',es,ep,ho',hd',_⟩,_⟩:=I.loc;rw[z,ho']at ho;cases ho;rw[hd']at hd;cases hd
theorem Inv.lQ(I:Inv X pins σ H s):s.heap.FunFrames X.base X.outer:=by
  have all:∀(l:List Env),(∀ b∈frs l,b∈X.fs)→X.s₀.heap.FunFrames X.base l→s.heap.FunFrames X.base l:=by
    intro l;induction l with
    | nil=>intro _ _;trivial
    | cons env r ih =>
      intro hs hl;obtain⟨hk,⟨L,o,hf,hn,ho,hd⟩,hr⟩:=hl;have hL:L∈X.fs:=hs L (by unfold frs;rw[List.filterMap_cons,hf];exact JW);obtain⟨sl,e⟩:=I.base.slot L o ho (I.ok.frf L hL) hL λz=>I.ok.xE L z hL;exact⟨hk,⟨L,_,hf,hn,e,hd⟩,ih (λb hb=>hs b (by unfold frs;rw[List.filterMap_cons,hf];exact JT _ hb)) hr⟩
  exact all X.outer (λ_ hb=>hb) I.ok.lQ
theorem Inv.stack(I:Inv X pins σ H s):s.heap.FunFrames X.base X.stack:=by
  rcases I.ok.stk with e|⟨e,hf⟩
  · rw[e];exact I.lQ
  · rw[e]
    obtain⟨m,hn,_⟩:=I.loc;refine .cons (by rw[I.ok.kind];decide) hf hn ?_ I.lQ;exact Heap.get?_none_of_le (Ko I.ok.bsz I.ok.above)
theorem Inv.ik(I:Inv X pins σ H s):∀ b∈frs X.stack,b∈X.env.locals::X.fs:=λb hb=>by
  rcases I.ok.stk with e|⟨e,hf⟩
  · rw[e]at hb;exact JT _ hb
  · rw[e]at hb
    unfold frs at hb;rw[List.filterMap_cons,hf]at hb;exact hb
theorem Inv.hZ(I:Inv X pins σ H s):∀ b∈frs X.stack,H b=none:=λb hb=>by
  rcases Kc.mp (I.ik b hb) with e|hb
  · rw[e];exact I.free
  · obtain⟨_,o,ho,_⟩:=I.ok.lQ.mem hb
    exact I.base.free b o ho (I.ok.frf b hb) λz=>I.ok.xE b z hb
theorem Inv.step{g':Array GenState}{t':Nat}{d':Drawn}{ch:List Addr}(I:Inv X pins σ H s)
    (hch:∀ b∈ch,(b∈X.ex∨X.s₀.heap.objs.size≤b)∧b≠X.env.locals∧(∀ x c,X.env.cells.lookup x=some c→c≠b)∧∀ p∈X.pn++pins,p.1≠b)
    (keep:∀ b o,b≠X.env.locals→b∉X.fs→b∉ch→s.heap.get? b=some o→H b=none→h'.get? b=some o)
    (slot:∀ b o,b≠X.env.locals→b∈X.fs→b∉ch→s.heap.get? b=some o→H b=none→∃ sl,h'.get? b=some {o with slots:=sl}) (free:∀ b o,b∉ch→s.heap.get? b=some o→H b=none→H' b=none)
    (there:∀ b o,b∉ch→s.heap.get? b=some o→∃ o',h'.get? b=some o')
    (ku:∀ b xs,H b=some (.tup xs)→H' b=some (.tup xs)) (lO:∀ b o u,H b=some (.frz o u)→H' b=some (.frz o u)) (lP:∀ b ps,H b=some (.tbl ps)→∃ more,H' b=some (.tbl (ps++more)))
    (ns:∀ m,s.heap.Ns X.env.locals m→h'.Ns X.env.locals m) (hok:HOk X.prog X.w H' h') (hg:AllBare g') :
    Inv X pins σ H' {s with heap:=h',gens:=g',drawn:=d',toks:=t'}:=by
  have neL:∀ b o,X.s₀.heap.get? b=some o→b≠X.env.locals:=λb o e=>Kb (J8 (JY e) I.ok.above);have neC:∀ b o,X.s₀.heap.get? b=some o→b∉X.ex→b∉ch:=λb o e hx hb=>by
    rcases(hch b hb).1 with z|z
    · exact hx z
    · exact absurd (J8 (JY e) z) (KO _)
  have cellK:∀ x c,X.env.cells.lookup x=some c→∀ v,s.heap.IsCell c v→h'.IsCell c v:=λx c e v ⟨o,ho,hd⟩=>by
    have nch:c∉ch:=λz=>(hch c z).2.2.1 x c e rfl;by_cases hc:c∈X.fs
    · obtain⟨sl,q⟩:=slot c o (I.cne x c e) hc nch ho (I.fU x c e)
      exact⟨_,q,hd⟩
    · exact⟨o,keep c o (I.cne x c e) hc nch ho (I.fU x c e),hd⟩
  refine⟨I.ok,I.os,hg,⟨λb o e n hb hx=>?_,λb o e n hb hx=>?_,λb o e n hx=>?_,λb o e hx=>?_,λb xs e=>ku b xs (I.base.ku b xs e),λb o xs e=>lO b o xs (I.base.lO b o xs e),λb ps e=>?_⟩,?_,λx c e=>?_,?_,λx c e=>?_,λp hp=>?_,hok,I.len⟩
  · exact keep b o (neL b o e) hb (neC b o e hx) (I.base.keep b o e n hb hx) (I.base.free b o e n hx)
  · obtain⟨sl,e1⟩:=I.base.slot b o e n hb hx
    obtain⟨sl',e2⟩:=slot b _ (neL b o e) hb (neC b o e hx) e1 (I.base.free b o e n hx);exact⟨sl',e2⟩
  · obtain⟨o',e1⟩:=I.base.there b o e hx
    exact free b o' (neC b o e hx) e1 (I.base.free b o e n hx)
  · obtain⟨o',e1⟩:=I.base.there b o e hx
    exact there b o' (neC b o e hx) e1
  · obtain⟨m1,e1⟩:=I.base.lP b ps e
    obtain⟨m2,e2⟩:=lP b _ e1;exact⟨m1++m2,by rw[e2,Array.append_assoc]⟩
  · obtain⟨m,hn,hl⟩:=I.loc
    refine⟨m,ns m hn,λi x v e1 e2 e3=>?_⟩;obtain⟨u,r,l⟩:=hl i x v e1 e2 e3;refine⟨u,r,?_⟩;rcases l with l|⟨k,c,e,z⟩
    · exact .inl l
    · exact .inr ⟨k,c,e,cellK x c e _ z⟩
  · obtain⟨v,z⟩:=I.cell x c e
    exact⟨v,cellK x c e v z⟩
  · obtain⟨m,⟨o,_,_,ho,_⟩,_⟩:=I.loc
    exact free _ o (λz=>(hch _ z).2.1 rfl) ho I.free
  · obtain⟨v,o,ho,hd⟩:=I.cell x c e
    exact free c o (λz=>(hch c z).2.2.1 x c e rfl) ho (I.fU x c e)
  · obtain⟨e,n,ne,nf,d⟩:=I.pin p hp
    have nch:p.1∉ch:=λz=>(hch p.1 z).2.2.2 p hp rfl;exact⟨keep p.1 p.2 ne nf nch e n,free p.1 p.2 nch e n,ne,nf,d⟩
theorem Inv.un{t':Nat}(I:Inv X pins σ H s)(u:Un X.fs [] H H' s.heap h')(hok:HOk X.prog X.w H' h'):Inv X pins σ H' {s with heap:=h',toks:=t'}:=by
  obtain⟨m,⟨o,es,ep,ho,r⟩,_⟩:=id I.loc;obtain⟨sl,hL⟩:=u.any ho I.free (by simp);exact I.step (g':=s.gens) (d':=s.drawn) (ch:=[]) (λ_ z=>nomatch z) (λb o _ hb _ e n=>u.keep b o e n hb (by simp)) (λb o _ hb _ e n=>u.slot b o e n hb (by simp)) (λb o _ e n=>u.free b o e n (by simp)) (λb o _ e=>u.there b o e (by simp)) u.ku u.lO u.lP (λm' hm=>by
    obtain⟨o',es',ep',ho',r'⟩:=hm;rw[ho]at ho';cases ho';exact⟨_,es',ep',hL,r'⟩) hok I.bare
theorem Inv.call{g':Array GenState}{t':Nat}{d':Drawn}{ch:List Addr}(I:Inv X pins σ H s)(u:Un (frs X.stack) ch H H' s.heap h')(hok:HOk X.prog X.w H' h')(hg:AllBare g')
    (hch:∀ b∈ch,(b∈X.ex∨X.s₀.heap.objs.size≤b)∧b≠X.env.locals∧(∀ x c,X.env.cells.lookup x=some c→c≠b)∧∀ p∈X.pn++pins,p.1≠b) :
    Inv X pins σ H' {s with heap:=h',gens:=g',drawn:=d',toks:=t'}:=by
  obtain⟨m,⟨o,es,ep,ho,r⟩,_⟩:=id I.loc;obtain⟨sl,hL⟩:=u.any ho I.free λz=>(hch _ z).2.1 rfl;exact I.step (ch:=ch) hch (λb o hL hb hc e n=>u.keep b o e n (λz=>(Kc.mp (I.ik b z)).elim hL hb) hc) (λb o _ _ hc e n=>u.any e n hc) (λb o hc e n=>u.free b o e n hc) (λb o hc e=>u.there b o e hc) u.ku u.lO u.lP (λm' hm=>by
    obtain⟨o',es',ep',ho',r'⟩:=hm;rw[ho]at ho';cases ho';exact⟨_,es',ep',hL,r'⟩) hok hg
theorem Inv.turned{t':Nat}{it:Addr}(I:Inv X pins σ H s)(k:∀ b o,b≠it→s.heap.get? b=some o→h'.get? b=some o)(hn:H it=none)(hL:it≠X.env.locals)
    (h1:it∈X.ex∨X.s₀.heap.objs.size≤it) (h2:∀ x c,X.env.cells.lookup x=some c→c≠it) (h3:∀ p∈X.pn++pins,p.1≠it):Inv X pins σ H {s with heap:=h',toks:=t'}:=by
  have nit:∀ b u,H b=some u→b≠it:=λb u e z=>by rw[z,hn]at e;cases e
  refine I.step (g':=s.gens) (d':=s.drawn) (ch:=[it]) (λb hb=>?_) (λb o _ _ hc e _=>k b o (λz=>hc (by simp[z])) e) (λb o _ _ hc e _=>⟨o.slots,k b o (λz=>hc (by simp[z])) e⟩) (λ_ _ _ _ n=>n)
    (λb o hc e=>⟨o,k b o (λz=>hc (by simp[z])) e⟩) (λ_ _ e=>e) (λ_ _ _ e=>e) (λb ps e=>⟨#[],by rw[e];simp⟩) (λm hm=>?_) (λb u e=>?_) I.bare
  · have e:b=it:=by simpa using hb
    subst e;exact⟨h1,hL,h2,h3⟩
  · obtain⟨o,es,ep,ho,r⟩:=hm
    exact⟨o,es,ep,k _ o (KG hL) ho,r⟩
  · refine(I.hok b u e).pL (λc v hc q=>k c v ?_ q) (λ_ q=>q) λ_ _ q=>q
    rcases hc with z|z
    · rw[z];exact nit b u e
    · exact nit c _ z
theorem Inv.tok(I:Inv X pins σ H s)(t:Nat):Inv X pins σ H {s with toks:=t}:=I.un (h':=s.heap) (t':=t) Un.refl I.hok
theorem Inv.kept{t':Nat}(I:Inv X pins σ H s)(k:∀ b u,s.heap.get? b=some u→h'.get? b=some u):Inv X pins σ H {s with heap:=h',toks:=t'}:=I.un (Un.kept k) (I.hok.kept k)
theorem Inv.laid{a:Addr}{o:HO}{t':Nat}(I:Inv X pins σ H s)(k:∀ b u,s.heap.get? b=some u→h'.get? b=some u)(hp:s.heap.objs.size≤a)(new:cw X.prog X.w (upd H a o) h' a o) :
    Inv X pins σ (upd H a o) {s with heap:=h',toks:=t'}:=I.un (Un.laid k hp (I.hok.fresh hp)) (I.hok.laid k hp new)
theorem Inv.write{x e:Addr}{o:HO}{t':Nat}(I:Inv X pins σ H s)(mu:Mut (H x))(he:e=x∨H e=some (.own x))(k:∀ b u,b≠e→s.heap.get? b=some u→h'.get? b=some u)(heo:∃ u,h'.get? e=some u)
    (new:cw X.prog X.w (upd H x o) h' x o):Inv X pins σ (upd H x o) {s with heap:=h',toks:=t'}:=I.un (Un.write mu he k heo) (I.hok.write mu he k heo new)
theorem Inv.jm{qV:List (Addr×Obj)}(I:Inv X pins σ H s)(h:∀ p∈qV,s.heap.get? p.1=some p.2∧H p.1=none∧p.1≠X.env.locals∧p.1∉X.fs∧∀ v,p.2.data≠.cell v):Inv X qV σ H s :=
  ⟨I.ok,I.os,I.bare,I.base,I.loc,I.cell,I.free,I.fU,λp hp=>(Ka.mp hp).elim (λz=>I.pin p (Kw _ z)) (h p),I.hok,I.len⟩
theorem nE{N:List Str}(hN:N.Nodup){i j:Nat}{x:Str}(a:N[i]?=some x)(b:N[j]?=some x):i=j:=by
  obtain⟨h1,e1⟩:=JN.mp a;obtain⟨h2,e2⟩:=JN.mp b;exact(List.getElem_inj hN).mp (e1.trans e2.symm)
theorem wo{M:Model}{A:Around}{E:Value→Shared→Prop}{i:Nat}{x:Str}{v:V}{u:Value}{Q:Unit→Shared→Prop}(I:Inv X pins σ H s)(hN:X.N.Nodup)(hi:X.N[i]?=some x)(hx:Loc X.env.scope x)(r:RelV v u)
    (h:∀ s',Inv X pins (σ.set i (some v)) H s'→(∃ a,Heap.SameBut a s.heap s'.heap∧(a=X.env.locals∨X.env.cells.lookup x=some a))→Q () s') (hf:X.fn x=true∨X.env.scope.names.lookup x=some .local:=by first|exact .inl rfl|exact .inr rfl|assumption):wpAny M A (storeName X.env x u) Q E s:=by
  obtain⟨m,hn,hl⟩:=id I.loc;have DX:(X.env.scope.kind == .class||(X.env.scope.kind == .module&&X.env.locals != X.env.globals))=false:=by rw[I.ok.kind];rfl
  have hiσ:i<σ.length:=by rw[I.len];exact(JN.mp hi).1
  have cne:=I.cne;have tracked:∀ {a:Addr} {h':Heap},(∃ o,s.heap.get? a=some o∧H a=none)→Heap.SameBut a s.heap h'→HOk X.prog X.w H h':=λ{a h'} ha hs b ob e=>by
    obtain⟨_,_,AS⟩:=ha;refine(I.hok b ob e).pL (λc w' hc q=>(hs.2 c ?_).trans q) (λ_ q=>q) λ_ _ q=>q;rintro rfl;rcases hc with rfl|hc
    · rw[AS]at e;cases e
    · rw[AS]at hc;cases hc
  rcases hx with hk|hk
  · refine wpAny_storeName_local hk hn (λh' hn' hs=>?_) DX
    obtain⟨oL,_,_,hoL,_⟩:=id hn;refine h _ ⟨I.ok,I.os,I.bare,⟨λb o e n hb hx=>?_,λb o e n hb hx=>?_,I.base.free,λb o e hx=>?_,I.base.ku,I.base.lO,I.base.lP⟩,⟨_,hn',λj y v' e1 e2 e3=>?_⟩,λy c e=>?_,I.free,I.fU,λp hp=>?_,tracked ⟨oL,hoL,I.free⟩ hs,by simpa using I.len⟩ ⟨_,hs,.inl rfl⟩
    · exact(hs.2 b (Kb (J8 (JY e) I.ok.above))).trans (I.base.keep b o e n hb hx)
    · obtain⟨sl,e1⟩:=I.base.slot b o e n hb hx
      exact⟨sl,(hs.2 b (Kb (J8 (JY e) I.ok.above))).trans e1⟩
    · obtain⟨o',e1⟩:=I.base.there b o e hx
      exact⟨o',(hs.2 b (Kb (J8 (JY e) I.ok.above))).trans e1⟩
    · by_cases hj:j=i
      · subst hj
        rw[hi]at e1;cases e1;rw[KJ hiσ]at e2;cases e2;exact⟨u,r,.inl ⟨hk,by simp⟩⟩
      · rw[KD (KG hj)]at e2
        obtain⟨u',r',q⟩:=hl j y v' e1 e2 e3;refine⟨u',r',?_⟩;rcases q with⟨k,e⟩|⟨k,c,e,z⟩
        · refine .inl ⟨k,?_⟩
          have:y≠x:=λe=>hj (nE hN e1 (e ▸ hi))
          simp[this,e]
        · exact .inr ⟨k,c,e,z.sameBut hs (cne y c e)⟩
    · obtain⟨w',z⟩:=I.cell y c e
      exact⟨w',z.sameBut hs (cne y c e)⟩
    · obtain⟨e,n,ne,nf,d⟩:=I.pin p hp
      exact⟨(hs.2 p.1 ne).trans e,n,ne,nf,d⟩
  · have hfn:X.fn x=true:=by
      rcases hf with z|z
      · exact z
      · rw[z]at hk;cases hk
    obtain⟨c,hc⟩:=I.ok.has x (.inl hk);obtain⟨w',z⟩:=I.cell x c hc;refine wpAny_storeName_cell I.ok.kind hk hc z (λh' hc' hs=>?_);obtain⟨oc,hoc,Ir⟩:=id z;refine h {s with heap:=h'} ⟨I.ok,I.os,I.bare,⟨λb o e n hb hx=>?_,λb o e n hb hx=>?_,I.base.free,λb o e hx=>?_,I.base.ku,I.base.lO,I.base.lP⟩,⟨m,hn.sameBut hs (KG (cne x c hc)),λj y v' e1 e2 e3=>?_⟩,λy c' e=>?_,I.free,I.fU,λp hp=>?_,tracked ⟨oc,hoc,I.fU x c hc⟩ hs,by simpa using I.len⟩ ⟨c,hs,.inr hc⟩
    · exact(hs.2 b (Kb (J8 (JY e) (I.ok.cab x c hfn hc)))).trans (I.base.keep b o e n hb hx)
    · obtain⟨sl,e1⟩:=I.base.slot b o e n hb hx
      exact⟨sl,(hs.2 b (Kb (J8 (JY e) (I.ok.cab x c hfn hc)))).trans e1⟩
    · obtain⟨o',e1⟩:=I.base.there b o e hx
      exact⟨o',(hs.2 b (Kb (J8 (JY e) (I.ok.cab x c hfn hc)))).trans e1⟩
    · by_cases hj:j=i
      · subst hj
        rw[hi]at e1;cases e1;rw[KJ hiσ]at e2;cases e2;exact⟨u,r,.inr ⟨.inl hk,c,hc,hc'⟩⟩
      · rw[KD (KG hj)]at e2
        obtain⟨u',r',q⟩:=hl j y v' e1 e2 e3;refine⟨u',r',?_⟩;rcases q with q|⟨k,c',e,z'⟩
        · exact .inl q
        · refine .inr ⟨k,c',e,z'.sameBut hs ?_⟩
          rintro rfl;exact hj (nE hN e1 (I.ok.inj _ _ _ e hc ▸ hi))
    · by_cases hcc:c'=c
      · subst hcc;exact⟨_,hc'⟩
      · obtain⟨w2,z2⟩:=I.cell y c' e
        exact⟨w2,z2.sameBut hs hcc⟩
    · obtain⟨e,n,ne,nf,d⟩:=I.pin p hp
      refine⟨(hs.2 p.1 ?_).trans e,n,ne,nf,d⟩;intro q;rw[q,hoc]at e;have q':oc=p.2:=Kq e;exact d w' (by rw[←q'];exact Ir)
theorem j6{M:Model}{A:Around}{E:Value→Shared→Prop}{i:Nat}{x:Str}{v:V}{u:Value}{Q:Unit→Shared→Prop}(I:Inv X pins σ H s)(hN:X.N.Nodup)(hi:X.N[i]?=some x)(hx:Loc X.env.scope x)(r:RelV v u)
    (h:∀ s',Inv X pins (σ.set i (some v)) H s'→Q () s') (hf:X.fn x=true∨X.env.scope.names.lookup x=some .local:=by first|exact .inl rfl|exact .inr rfl|assumption):wpAny M A (storeName X.env x u) Q E s :=
  wo I hN hi hx r (λs' I' _=>h s' I') hf
theorem Inv.mS{s':Shared}{ch:List Addr}(I:Inv X pins σ H s)(ho:s'.os=s.os)(u:Un (frs X.stack) ch H H' s.heap s'.heap)(hok:HOk X.prog X.w H' s'.heap)(hg:AllBare s'.gens)
    (hch:∀ b∈ch,(b∈X.ex∨X.s₀.heap.objs.size≤b)∧b≠X.env.locals∧(∀ x c,X.env.cells.lookup x=some c→c≠b)∧∀ p∈X.pn++pins,p.1≠b):Inv X pins σ H' s':=by
  obtain⟨h',g',d',t',o'⟩:=s';have e:o'=s.os:=ho;subst e;exact I.call (g':=g') (t':=t') (d':=d') u hok hg hch
end
abbrev XK:=Value→Option Addr→Hp→Prop
abbrev St:=List (Option V)
abbrev VK:=V→Hp→Prop
abbrev TE:=St→Hp→VK→Prop
abbrev TT:=St→Hp→(Bool→Hp→Prop)→Prop
abbrev TA:=St→Hp→(List V→Hp→Prop)→Prop
structure Ends where
  nx:St→Hp→Prop
  rt:VK
  bk:St→Hp→Prop:=λ_ _=>False
  ct:St→Hp→Prop:=λ_ _=>False
abbrev TS:=Ends→St→Hp→Prop
def EP(X:Cx)(pins:List (Addr×Obj))(σ:St)(Q:VK)(u:Value)(s':Shared):Prop:=∃ v H',Inv X pins σ H' s'∧RelV v u∧Q v H'
def TP(X:Cx)(pins:List (Addr×Obj))(σ:St)(Q:Bool→Hp→Prop)(b:Bool)(s':Shared):Prop:=∃ H',Inv X pins σ H' s'∧Q b H'
def AP(X:Cx)(pins:List (Addr×Obj))(σ:St)(Q:List V→Hp→Prop)(us:List Value)(s':Shared):Prop:=∃ vs H',Inv X pins σ H' s'∧Vals vs us∧Q vs H'
def SP(X:Cx)(pins:List (Addr×Obj))(D:Ends)(f:Flow)(s':Shared):Prop :=
  match f with
  | .next=>∃ σ' H',Inv X pins σ' H' s'∧D.nx σ' H'
  | .brk=>∃ σ' H',Inv X pins σ' H' s'∧D.bk σ' H'
  | .cont=>∃ σ' H',Inv X pins σ' H' s'∧D.ct σ' H'
  | .ret u=>∃ v σ' H',Inv X pins σ' H' s'∧RelV v u∧D.rt v H'
def PE(X:Cx)(e:Expr)(t:TE):Prop :=
  ∀(pins:List (Addr×Obj)) (s:Shared) (σ:St) (H:Hp) (Q:VK),Inv X pins σ H s→t σ H Q→wpAny (model X.prog X.w) X.A (eval e X.env) (EP X pins σ Q) X.xe s
def PT(X:Cx)(e:Expr)(t:TT):Prop :=
  ∀(pins:List (Addr×Obj)) (s:Shared) (σ:St) (H:Hp) (Q:Bool→Hp→Prop),Inv X pins σ H s→t σ H Q→wpAny (model X.prog X.w) X.A (isTrue e X.env (eval e X.env)) (TP X pins σ Q) X.xe s
def PW(X:Cx)(e:Expr)(t:TT):Prop :=
  ∀(whole:Sem Value) (pins:List (Addr×Obj)) (s:Shared) (σ:St) (H:Hp) (Q:Bool→Hp→Prop),Inv X pins σ H s→t σ H Q→wpAny (model X.prog X.w) X.A (isTrue e X.env whole) (TP X pins σ Q) X.xe s
theorem PW.pt{X:Cx}{e:Expr}{t:TT}(h:PW X e t):PT X e t:=h _
def PA(X:Cx)(es:List Expr)(t:TA):Prop :=
  ∀(pos:Pos) (pins:List (Addr×Obj)) (s:Shared) (σ:St) (H:Hp) (Q:List V→Hp→Prop),Inv X pins σ H s→t σ H Q→wpAny (model X.prog X.w) X.A (spliced (backTo pos (starEach es X.env))) (AP X pins σ Q) X.xe s
def PS(X:Cx)(st:Stmt)(t:TS):Prop :=
  ∀(pins:List (Addr×Obj)) (s:Shared) (σ:St) (H:Hp) (D:Ends),Inv X pins σ H s→t D σ H→wpAny (model X.prog X.w) X.A (exec st X.env) (SP X pins D) X.xe s
def PSs(X:Cx)(st:List Stmt)(t:TS):Prop :=
  ∀(pins:List (Addr×Obj)) (s:Shared) (σ:St) (H:Hp) (D:Ends),Inv X pins σ H s→t D σ H→wpAny (model X.prog X.w) X.A (execs st X.env) (SP X pins D) X.xe s
theorem thn{α:Type}{t:Sem α}{Q Q':α→Shared→Prop}{M:Model}{A:Around}{E:Value→Shared→Prop}{s:Shared}(h:wpAny M A t Q E s)(hQ:∀ a s,Q a s→Q' a s):wpAny M A t Q' E s:=wpAny_mono h hQ λ_ _ x=>x
end L2
namespace L2
open PySem PySem.Spec PyProof.Rows
section
variable{X:Cx}
def zT(i:Nat):TE:=λσ H Q=>∃ v,σ[i]?=some (some v)∧Q v H
def tC(v:V):TE:=λ_ H Q=>Q v H
theorem Dl{i:Nat}{x:Str}{pos:Pos}(hN:X.N[i]?=some x)(hv:Vis X.env.scope x)(hd:(x == ("__debug__" : Str))=false:=by decide)(hcd:(x == ("__classdict__" : Str))=false:=by decide):PE X (.Name x pos) (zT i):=by
  intro pins s σ H Q I h;obtain⟨v,e,h⟩:=h;obtain⟨m,hn,hl⟩:=I.loc;obtain⟨u,r,l⟩:=hl i x v hN e hv;have fin:EP X pins σ Q u s:=⟨v,H,I,r,h⟩;rcases l with⟨hk,hm⟩|⟨hk,c,hc,xp⟩
  · exact wpAny_Name (wpAny_loadName_local I.ok.kind hk hn hm fin) hd
  · rcases hk with hk|hk
    · exact wpAny_Name (wpAny_loadName_cell I.ok.kind hk hc xp fin) hd
    · exact wpAny_Name (wpAny_loadName_free I.ok.kind hk hc xp fin hcd) hd
theorem ak{i j pos}:PE X (.Constant (.int i) j pos) (tC (.int i)):=λ_ _ _ H _ I h=>wpAny_Constant_int ⟨.int i,H,I.tok _,⟨_,rfl⟩,h⟩
theorem k8{b j pos}:PE X (.Constant (.bool b) j pos) (tC (.bl b)):=λ_ _ _ H _ I h=>Constant_bool ⟨.bl b,H,I,rfl,h⟩
theorem jo{j pos}:PE X (.Constant .none j pos) (tC .non):=λ_ _ _ H _ I h=>Constant_none ⟨.non,H,I,rfl,h⟩
theorem cA{x j pos}:PE X (.Constant (.str x) j pos) (tC (.str x)):=λ_ _ _ H _ I h=>Calls.Constant_str ⟨.str x,H,I.tok _,⟨_,rfl⟩,h⟩
def Gl(X:Cx)(x:Str):Prop:=X.env.kindOf x=some .globalImplicit
theorem ky{E:Value→Shared→Prop}{pins:List (Addr×Obj)}{s:Shared}{σ:St}{H:Hp}{x:Str}{u:Value}{pos:Pos}{Q:Value→Shared→Prop}(I:Inv X pins σ H s)(hg:Gl X x)(hm:X.mg x=some u)(h:Q u s)
    (hd:(x == ("__debug__" : Str))=false:=by decide):wpAny (model X.prog X.w) X.A (eval (.Name x pos) X.env) Q E s :=
  Lv I.ok.kind hg (Calls.loadGlobal_global (by rw[I.ok.glob];exact I.mod.glob.keeps I.bk) hm h) hd
theorem j2{E:Value→Shared→Prop}{pins:List (Addr×Obj)}{s:Shared}{σ:St}{H:Hp}{x:Str}{u:Value}{pos:Pos}{Q:Value→Shared→Prop}(I:Inv X pins σ H s)(hg:Gl X x)(hm:X.mg x=none)(hv:bootBuiltins x=some u)(h:Q u s)
    (hn:x ≠ "__name__" := by decide) (hd:(x == ("__debug__" : Str))=false:=by decide):wpAny (model X.prog X.w) X.A (eval (.Name x pos) X.env) Q E s:=by
  obtain⟨mb,h1,h2⟩:=I.mod.blt;exact Lv I.ok.kind hg (Calls.loadGlobal_builtin (by rw[I.ok.glob];exact I.mod.glob.keeps I.bk) hm (by rw[I.ok.blt];exact h1.keeps I.bk) ((h2 x hn).trans hv) h) hd
theorem eh{x:Str}{v:V}{u:Value}{pos:Pos}(hg:Gl X x)(hm:X.mg x=some u)(r:RelV v u)(hd:(x == ("__debug__" : Str))=false:=by decide):PE X (.Name x pos) (tC v) :=
  λ_ _ _ H _ I h=>ky I hg hm ⟨v,H,I,r,h⟩ hd
variable{a b:Expr}{ta tb:TE}{pos:Pos}
def PC(X:Cx)(op:CmpOp)(a b:Expr)(t:TE):Prop :=
  ∀(pins:List (Addr×Obj)) (s:Shared) (σ:St) (H:Hp) (Q:VK),Inv X pins σ H s→t σ H Q →
    wpAny (model X.prog X.w) X.A (eval a X.env) (λv s₁=>wpAny (model X.prog X.w) X.A (eval b X.env) (λu s₂=>wpAny (model X.prog X.w) X.A (compareOp op v u) (EP X pins σ Q) X.xe s₂) X.xe s₁) X.xe s
def tB(t:TE):TT:=λσ H Q=>t σ H λx H1=>∃ c,x=.bl c∧Q c H1
theorem yy{op:CmpOp}{t:TE}(h:PC X op a b t)(h1:behindInMarks op b=false:=by first|exact nobehind _ (by decide) (by decide)|rfl):PT X (.Compare a [op] [b] pos) (tB t):=by
  intro pins s σ H Q I hw;refine wpAny_isTrue_Compare1 (thn (h pins s σ H _ I hw) λv s1 h1=>thn h1 λu s2 h2=>thn h2 λc s3 ⟨x,H1,I1,r1,q1⟩=>?_) h1;obtain⟨d,rfl,q⟩:=q1;cases r1;exact wpAny_truthy_bool ⟨H1,I1,q⟩
theorem qW{e:Expr}{t:TE}(h:PE X e t)(he:∀ whole,isTrue e X.env whole=(do let v ←whole;standAt e.pos;holding [v] (truthy v)):=by intro _;rfl):PT X e (tB t):=by
  intro pins s σ H Q I hw;refine isTrue_plain (thn (h pins s σ H _ I hw) λv s1 ⟨x,H1,I1,r1,q1⟩=>?_) (he _);obtain⟨d,rfl,q⟩:=q1;cases r1;exact wpAny_truthy_bool ⟨H1,I1,q⟩
variable{tA tB':TT}{rest:List Expr}
def Iu(t u:TT):TT:=λσ H Q=>t σ H λc H1=>if c=true then u σ H1 Q else Q false H1
def tOr(t u:TT):TT:=λσ H Q=>t σ H λc H1=>if c=true then Q true H1 else u σ H1 Q
def Iv(t:TT):TT:=λσ H Q=>t σ H λc H1=>Q (!c) H1
theorem pw_and1(ha:PT X a tA):PW X (.BoolOp .And [a] pos) tA:=by
  intro wh pins s σ H Q I h;refine isTrue_and (thn (ha pins s σ H Q I h) λc s1 e=>?_);cases c with
  | true=>exact isTrue_and_nil e
  | false=>exact e
theorem pw_or1(ha:PT X a tA):PW X (.BoolOp .Or [a] pos) tA:=by
  intro wh pins s σ H Q I h;refine isTrue_or (thn (ha pins s σ H Q I h) λc s1 e=>?_);cases c with
  | false=>exact isTrue_or_nil e
  | true=>exact e
theorem pw_and(ha:PT X a tA)(hb:PW X (.BoolOp .And (b::rest) pos) tB'):PW X (.BoolOp .And (a::b::rest) pos) (Iu tA tB'):=by
  intro wh pins s σ H Q I h;refine isTrue_and (thn (ha pins s σ H _ I h) λc s1 ⟨H1,I1,q1⟩=>?_);cases c with
  | true=>exact hb wh pins s1 σ H1 Q I1 q1
  | false=>exact⟨H1,I1,q1⟩
theorem pw_or(ha:PT X a tA)(hb:PW X (.BoolOp .Or (b::rest) pos) tB'):PW X (.BoolOp .Or (a::b::rest) pos) (tOr tA tB'):=by
  intro wh pins s σ H Q I h;refine isTrue_or (thn (ha pins s σ H _ I h) λc s1 ⟨H1,I1,q1⟩=>?_);cases c with
  | true=>exact⟨H1,I1,q1⟩
  | false=>exact hb wh pins s1 σ H1 Q I1 q1
theorem qX(ha:PT X a tA):PT X (.UnaryOp .Not a pos) (Iv tA):=by
  intro pins s σ H Q I h;exact isTrue_not (ha pins s σ H (λc H1=>Q (!c) H1) I h)
def Iw(ta tb:TE):TE:=λσ H Q=>ta σ H λx H1=>∃ c,x=.bl c∧if c=true then Q (.bl true) H1 else tb σ H1 Q
def Gq(ta:TE):TE:=λσ H Q=>ta σ H λx H1=>∃ c,x=.bl c∧Q (.bl (!c)) H1
theorem yz{op}{t:TE}(h:PE X a t):PE X (.BoolOp op [a] pos) t:=λpins s σ H Q I hw=>BoolOp_one (h pins s σ H Q I hw)
theorem zx(ha:PE X a ta)(hb:PE X (.BoolOp .Or (b::rest) pos) tb):PE X (.BoolOp .Or (a::b::rest) pos) (Iw ta tb):=by
  intro pins s σ H Q I h;refine BoolOp_or (thn (ha pins s σ H _ I h) λv s1 ⟨x,H1,I1,r1,q1⟩=>?_);obtain⟨c,rfl,q1⟩:=q1;cases r1;refine wpAny_truthy_bool ?_;cases c with
  | false=>exact hb pins s1 σ H1 Q I1 q1
  | true=>exact⟨.bl true,H1,I1,rfl,q1⟩
theorem Dm(ha:PE X a ta):PE X (.UnaryOp .Not a pos) (Gq ta):=by
  intro pins s σ H Q I h;refine UnaryOp_ (thn (ha pins s σ H _ I h) λv s1 ⟨x,H1,I1,r1,q1⟩=>?_);obtain⟨c,rfl,q1⟩:=q1;cases r1;exact not_of (wpAny_truthy_bool ⟨.bl (!c),H1,I1,rfl,q1⟩)
def tIf(t:TT)(ta tb:TE):TE:=λσ H Q=>t σ H λc H1=>if c=true then ta σ H1 Q else tb σ H1 Q
theorem sW{c:Expr}(hc:PT X c tA)(ha:PE X a ta)(hb:PE X b tb):PE X (.IfExp c a b pos) (tIf tA ta tb):=by
  intro pins s σ H Q I h;refine wpAny_IfExp (thn (hc pins s σ H _ I h) λd s1 ⟨H1,I1,q1⟩=>?_);cases d with
  | true=>exact ha pins s1 σ H1 Q I1 q1
  | false=>exact hb pins s1 σ H1 Q I1 q1
end
end L2
namespace L2
open PySem PySem.Spec PyProof.Rows
def SqL(K:W.Frag)(H:Hp)(a:Addr)(xs:List V):Prop :=
  Rd H a (.lst xs) ∨
    ∃(o:Obj) (its:Array Value) (n:Nat),K.lookup a=some o∧o.cls=.type "list" ∧ o.dict=none∧o.data=.seq its n∧its.size≤sizeLine∧Vals xs its.toList
def SqT(K:W.Frag)(H:Hp)(a:Addr)(xs:List V):Prop :=
  Rd H a (.tup xs) ∨
    ∃(o:Obj) (its:Array Value) (n:Nat),K.lookup a=some o∧o.cls=.type "tuple" ∧ o.data=.seq its n∧its.size≤sizeLine∧Vals xs its.toList
def Iy:Value→Option V
  | .none=>some .non
  | .bool b=>some (.bl b)
  | .int i _=>some (.int i)
  | .str x _=>some (.str x)
  | .bytes b _=>some (.byt b)
  | .float b _=>some (.flt b)
  | .ref a=>some (.ref a)
  | .type n=>some (.ty n)
  | _=>none
theorem RelV.abs{x:V}{u:Value}(r:RelV x u):Iy u=some x:=by
  cases x with
  | non=>cases r;rfl
  | bl _=>cases r;rfl
  | int _=>obtain⟨t,rfl⟩:=r;rfl
  | str _=>obtain⟨t,rfl⟩:=r;rfl
  | byt _=>obtain⟨t,rfl⟩:=r;rfl
  | flt _=>obtain⟨t,rfl⟩:=r;rfl
  | ref _=>cases r;rfl
  | ty _=>cases r;rfl
theorem RelV.inj{x y:V}{u:Value}(r:RelV x u)(q:RelV y u):x=y:=Kq (r.abs.symm.trans q.abs)
theorem Vals.inj:∀ {xs ys:List V} {us:List Value},Vals xs us→Vals ys us→xs=ys
  | _,_,_,.nil,.nil=>rfl
  | _,_,_,.cons r t,.cons r' t'=>by rw[r.inj r',Vals.inj t t']
section
variable{X:Cx}{pins:List (Addr×Obj)}{σ:St}{H:Hp}{s:Shared}{a:Addr}{xs ys:List V}
theorem SqL.of{K:W.Frag}(h:H a=some (.lst xs)):SqL K H a xs:=.inl (.inl h)
theorem SqT.of{K:W.Frag}(h:H a=some (.tup xs)):SqT K H a xs:=.inl (.inl h)
theorem Inv.list(I:Inv X pins σ H s)(h:SqL X.K H a xs):∃ its:List Value,Vals xs its∧PlainL s.heap a its.toArray∧xs.length≤sizeLine:=by
  rcases h with h|⟨o,its,n,hk,hc,hd,hs,hz,r⟩
  · obtain⟨z,its,n,r,e⟩:=h.ok I.hok
    exact⟨its,r,⟨_,n,e,rfl,rfl,rfl⟩,z⟩
  · refine⟨its.toList,r,⟨o,n,I.kIn a o hk,hc,hd,by simpa using hs⟩,?_⟩
    have e:=r.length;simp only[Ls]at e;omega
theorem Inv.tuple(I:Inv X pins σ H s)(h:SqT X.K H a xs):∃ its:List Value,Vals xs its∧IsTup s.heap a its.toArray∧xs.length≤sizeLine:=by
  rcases h with h|⟨o,its,n,hk,hc,hs,hz,r⟩
  · obtain⟨z,its,r,p⟩:=h.ok I.hok
    exact⟨its,r,p,z⟩
  · refine⟨its.toList,r,⟨o,I.kIn a o hk,hc,n,by simpa using hs⟩,?_⟩
    have e:=r.length;simp only[Ls]at e;omega
theorem Inv.sX(I:Inv X pins σ H s)(h:SqL X.K H a xs)(h':SqL X.K H a ys):xs=ys:=by
  obtain⟨its,r,⟨o,n,e,_,_,d⟩,_⟩:=I.list h;obtain⟨n4,r',⟨o',n',e',_,_,d'⟩,_⟩:=I.list h';rw[e]at e';cases e';rw[d]at d';injection d' with d1 _
  have:its=n4:=by simpa using congrArg Array.toList d1
  subst this;exact r.inj r'
end
abbrev Cx.pM(X:Cx)(E:Value→Shared→Prop):Cx:={X with xe:=E}
abbrev Cx.nox(X:Cx):Cx:=X.pM λ_ _=>False
theorem Cx.Ok.pM{X:Cx}(ok:X.Ok)(E:Value→Shared→Prop):(X.pM E).Ok :=
  ⟨ok.mod,ok.kind,ok.glob,ok.blt,ok.above,ok.inj,ok.has,ok.cab,ok.hd,ok.frames,ok.stk,ok.exf,ok.bs,ok.bsz,ok.tU,ok.xE,ok.lQ,ok.frf⟩
theorem Cx.Ok.gX{X:Cx}{E:Value→Shared→Prop}(ok:(X.pM E).Ok):X.Ok :=
  ⟨ok.mod,ok.kind,ok.glob,ok.blt,ok.above,ok.inj,ok.has,ok.cab,ok.hd,ok.frames,ok.stk,ok.exf,ok.bs,ok.bsz,ok.tU,ok.xE,ok.lQ,ok.frf⟩
section
variable{X:Cx}{pins:List (Addr×Obj)}{σ:St}{H:Hp}{s:Shared}{E:Value→Shared→Prop}
theorem Inv.pM(I:Inv X pins σ H s)(E:Value→Shared→Prop):Inv (X.pM E) pins σ H s:=⟨I.ok.pM E,I.os,I.bare,I.base,I.loc,I.cell,I.free,I.fU,I.pin,I.hok,I.len⟩
theorem Inv.gX(I:Inv (X.pM E) pins σ H s):Inv X pins σ H s:=⟨I.ok.gX,I.os,I.bare,I.base,I.loc,I.cell,I.free,I.fU,I.pin,I.hok,I.len⟩
theorem SP.gX{D:Ends}{f:Flow}{s':Shared}(h:SP (X.pM E) pins D f s'):SP X pins D f s':=by
  cases f with
  | next=>obtain⟨σ',H',I,q⟩:=h;exact⟨σ',H',I.gX,q⟩
  | brk=>obtain⟨σ',H',I,q⟩:=h;exact⟨σ',H',I.gX,q⟩
  | cont=>obtain⟨σ',H',I,q⟩:=h;exact⟨σ',H',I.gX,q⟩
  | ret u=>obtain⟨v,σ',H',I,r,q⟩:=h;exact⟨v,σ',H',I.gX,r,q⟩
theorem PSs.nox{st:List Stmt}{t:TS}(h:PSs X.nox st t):PSs X st t:=λpins s σ H D I hw =>
  wpAny_mono (h pins s σ H D (I.pM _) hw) (λ_ _ q=>q.gX) λ_ _ z=>False.elim z
end
section
variable{X:Cx}{st:Stmt}{rest:List Stmt}{t u:TS}{e:Expr}{te:TE}{pos:Pos}
def Gr:TS:=λD σ H=>D.nx σ H
def Ha(t u:TS):TS:=λD σ H=>t {D with nx:=u D} σ H
theorem aY:PSs X [] Gr:=λ_ _ σ H _ I h=>wpAny_execs_nil ⟨σ,H,I,h⟩
theorem ag(h1:PS X st t)(h2:PSs X rest u):PSs X (st::rest) (Ha t u):=by
  intro pins s σ H D I h;refine wpAny_execs_cons (thn (h1 pins s σ H {D with nx:=u D} I h) λf s1 q=>?_);cases f with
  | next =>
    obtain⟨σ',H',I',q⟩:=q;exact h2 pins s1 σ' H' D I' q
  | ret v=>exact q
  | brk=>exact q
  | cont=>exact q
theorem ao(h1:PS X st t):PSs X [st] t:=by
  intro pins s σ H D I h;refine wpAny_execs_cons (thn (h1 pins s σ H D I h) λf s1 q=>?_);cases f with
  | next=>exact wpAny_execs_nil q
  | ret v=>exact q
  | brk=>exact q
  | cont=>exact q
theorem Inv.quiet{pins:List (Addr×Obj)}{σ:St}{H:Hp}{s:Shared}(I:Inv X pins σ H s):interactive X.env=false:=by simp[interactive,I.ok.kind]
def Gs(te:TE):TS:=λD σ H=>te σ H λ_ H1=>D.nx σ H1
theorem cB(he:PE X e te)(hs:swapsWith e none pos.line X.env=pure false:=by rfl):PS X (.Expr e pos) (Gs te):=by
  intro pins s σ H D I h;exact wpAny_Expr_any (thn (he pins s σ H _ I h) λv s1 ⟨x,H1,I1,r1,q1⟩=>⟨σ,H1,I1,q1⟩) I.quiet hs
def Iz(te:TE):TS:=λD σ H=>te σ H D.rt
theorem a9(he:PE X e te):PS X (.Return (some e) pos) (Iz te):=by
  intro pins s σ H D I h;exact wpAny_Return_some (thn (he pins s σ H _ I h) λv s1 ⟨x,H1,I1,r1,q1⟩=>⟨x,σ,H1,I1,r1,q1⟩)
def IA(c:TT)(t u:TS):TS:=λD σ H=>c σ H λb H1=>if b=true then t D σ H1 else u D σ H1
theorem dw{c:Expr}{a b:List Stmt}{tc:TT}(hc:PT X c tc)(ha:PSs X a t)(hb:PSs X b u):PS X (.If c a b pos) (IA tc t u):=by
  intro pins s σ H D I h;refine wpAny_If (thn (hc pins s σ H _ I h) λd s1 ⟨H1,I1,q1⟩=>?_);cases d with
  | true=>exact ha pins s1 σ H1 D I1 q1
  | false=>exact hb pins s1 σ H1 D I1 q1
end
abbrev TG:=V→St→Hp→(St→Hp→Prop)→Prop
abbrev TGs:=List V→St→Hp→(St→Hp→Prop)→Prop
def PG(X:Cx)(target:Expr)(t:TG):Prop :=
  ∀(pins:List (Addr×Obj)) (s:Shared) (σ:St) (H:Hp) (v:V) (u:Value) (Q:St→Hp→Prop),Inv X pins σ H s→RelV v u→t v σ H Q →
    wpAny (model X.prog X.w) X.A (assign target X.env u) (λ_ s'=>∃ σ' H',Inv X pins σ' H' s'∧Q σ' H') X.xe s
def PGs(X:Cx)(ts:List Expr)(t:TGs):Prop :=
  ∀(pins:List (Addr×Obj)) (s:Shared) (σ:St) (H:Hp) (vs:List V) (us:List Value) (Q:St→Hp→Prop),Inv X pins σ H s→Vals vs us→t vs σ H Q →
    wpAny (model X.prog X.w) X.A (assignInOrder ((assignEach ts X.env).map (·.2)) us) (λ_ s'=>∃ σ' H',Inv X pins σ' H' s'∧Q σ' H') X.xe s
abbrev DY:=V→V→V→Hp→(Hp→Prop)→Prop
def Hb(X:Cx)(t:DY):Prop :=
  ∀(pins:List (Addr×Obj)) (s:Shared) (σ:St) (H:Hp) (o i v:V) (ov iv u:Value) (Q:Hp→Prop),Inv X pins σ H s→RelV o ov→RelV i iv→RelV v u→t o i v H Q →
    wpAny (model X.prog X.w) X.A (setItem ov iv u) (λ_ s'=>∃ H',Inv X pins σ H' s'∧Q H') X.xe s
abbrev TIp:=V→V→Hp→VK→Prop
def PIp(X:Cx)(op:Operator)(t:TIp):Prop :=
  ∀(pins:List (Addr×Obj)) (s:Shared) (σ:St) (H:Hp) (x y:V) (v u:Value) (Q:VK),Inv X pins σ H s→RelV x v→RelV y u→t x y H Q →
    wpAny (model X.prog X.w) X.A (inplaceOp op v u) (EP X pins σ Q) X.xe s
section
variable{X:Cx}{pos:Pos}
def gO(i:Nat):TG:=λv σ H Q=>Q (σ.set i (some v)) H
theorem aP{i:Nat}{x:Str}(hN:X.N.Nodup)(hi:X.N[i]?=some x)(hx:Loc X.env.scope x)(hf:X.fn x=true∨X.env.scope.names.lookup x=some .local:=by first|exact .inl rfl|exact .inr rfl|assumption):PG X (.Name x pos) (gO i):=by
  intro pins s σ H v u Q I r h;exact wpAny_assign_Name (j6 I hN hi hx r (λs' I'=>⟨_,H,I',h⟩) hf)
def DZ:TGs:=λvs σ H Q=>vs=[]∧Q σ H
def pI(t:TG)(u:TGs):TGs:=λvs σ H Q=>∃ v r,vs=v::r∧t v σ H λσ' H'=>u r σ' H' Q
theorem fj:PGs X [] DZ:=by
  intro pins s σ H vs us Q I r h;obtain⟨e,h⟩:=h;subst e;cases r;exact assignInOrder_nil ⟨σ,H,I,h⟩
theorem aN{e:Expr}{es:List Expr}{t:TG}{u:TGs}(h1:PG X e t)(h2:PGs X es u)
    (hs:(assignEach (e::es) X.env).map (·.2)=assign e X.env::(assignEach es X.env).map (·.2):=by rfl):PGs X (e::es) (pI t u):=by
  intro pins s σ H vs us Q I r h;obtain⟨v,vr,e1,h⟩:=h;subst e1;cases r with
  | cons r rr =>
    rw[hs];refine assignInOrder_cons (thn (h1 pins s σ H _ _ _ I r h) λ_ s1 ⟨σ1,H1,I1,q1⟩=>?_);exact h2 pins s1 σ1 H1 _ _ Q I1 rr q1
def D1(K:W.Frag)(n:Nat)(t:TGs):TG:=λv σ H Q=>∃ a xs,v=.ref a∧SqT K H a xs∧xs.length=n∧t xs σ H Q
theorem gY{es:List Expr}{k:Nat}{t:TGs}{n:Nat}(hc:X.calm=true)(h:PGs X es t)
    (hn:(assignEach es X.env).length=n:=by rfl) (hst:(assignEach es X.env).findIdx? (·.1)=none:=by rfl):PG X (.Tuple es k pos) (D1 X.K n t):=by
  intro pins s σ H v u Q I r hw;obtain⟨a,xs,e1,hq,hl,hw⟩:=hw;subst e1;cases r;obtain⟨its,rv,ht,hz⟩:=I.tuple hq;refine assign_Tuple_tuple (I.ok.hd hc) ht (by simp[hn,←hl,rv.length]) hst λh' hx=>?_;have I1:Inv X pins σ H {s with heap:=h'}:=I.kept (t':=s.toks) λb o e=>hx b o (Kb (JY e)) e;exact h pins _ σ H xs _ Q I1 (by simpa using rv) hw
def IB(to ti:TE)(t:DY):TG:=λv σ H Q=>to σ H λo H1=>ti σ H1 λi H2=>t o i v H2 λH3=>Q σ H3
theorem n6{o i:Expr}{to ti:TE}{t:DY}(ho:PE X o to)(hi:PE X i ti)(hs:Hb X t)
    (ha:∀ v,assign (.Subscript o i pos) X.env v=(do
      let ov ←holding [v] (eval o X.env)
      let iv ←holding [v,ov] (eval i X.env)
      standAt pos
      holding [v,ov,iv] (setItem ov iv v)
      release [v,ov,iv] []):=by intro _;rfl):PG X (.Subscript o i pos) (IB to ti t):=by
  intro pins s σ H v u Q I r h;rw[ha];refine wpAny_bind (wpAny_holding (thn (ho pins s σ H _ I h) λov s1 ⟨x,H1,I1,r1,q1⟩=>?_));refine wpAny_bind (wpAny_holding (thn (hi pins s1 σ H1 _ I1 q1) λiv s2 ⟨y,H2,I2,r2,q2⟩=>?_));refine wpAny_bind (wpAny_standAt (wpAny_bind (wpAny_holding (thn (hs pins s2 σ H2 x y v ov iv u _ I2 r1 r2 r q2) λ_ s3 ⟨H3,I3,q3⟩=>?_))));exact wpAny_release ⟨σ,H3,I3,q3⟩
def AU(te:TE)(g:TG):TS:=λD σ H=>te σ H λx H1=>g x σ H1 D.nx
theorem j3{tg e:Expr}{te:TE}{g:TG}(he:PE X e te)(hg:PG X tg g)(hs:swapsWithSole [tg] e pos.line X.env=pure false:=by rfl)(hw:swappedStores [tg] e X.env=pure none:=by rfl)
    (h1:(assignEach [tg] X.env).map (·.2)=[assign tg X.env]:=by rfl):PS X (.Assign [tg] e pos) (AU te g):=by
  intro pins s σ H D I h;refine wpAny_Assign_stores (thn (he pins s σ H _ I h) λv s1 ⟨x,H1,I1,r1,q1⟩=>?_) hs hw;rw[h1];exact thn (hg pins s1 σ H1 x v _ I1 r1 q1) λ_ s2 q=>q
theorem ay{i:Nat}{x:Str}{e:Expr}{te:TE}{pos':Pos}(hN:X.N.Nodup)(hi:X.N[i]?=some x)(hx:Loc X.env.scope x)(he:PE X e te)(hs:swapsWith e (some (.Name x pos')) pos.line X.env=pure false:=by rfl)(hf:X.fn x=true∨X.env.scope.names.lookup x=some .local:=by first|exact .inl rfl|exact .inr rfl|assumption) :
    PS X (.Assign [.Name x pos'] e pos) (AU te (gO i)):=by
  intro pins s σ H D I h;refine wpAny_Assign_Name (thn (he pins s σ H _ I h) λv s1 ⟨y,H1,I1,r1,q1⟩=>?_) hs;exact j6 I1 hN hi hx r1 (λs2 I2=>⟨_,H1,I2,q1⟩) hf
def IC(i:Nat)(te:TE)(ti:TIp):TS:=λD σ H=>∃ x,σ[i]?=some (some x)∧te σ H λy H1=>ti x y H1 λz H2=>D.nx (σ.set i (some z)) H2
theorem yA{i:Nat}{x:Str}{e:Expr}{te:TE}{op:Operator}{ti:TIp}{pos':Pos}(hN:X.N.Nodup)(hi:X.N[i]?=some x)(hx:Loc X.env.scope x)(he:PE X e te)(ho:PIp X op ti)(hf:X.fn x=true∨X.env.scope.names.lookup x=some .local:=by first|exact .inl rfl|exact .inr rfl|assumption) :
    PS X (.AugAssign (.Name x pos') op e pos) (IC i te ti):=by
  intro pins s σ H D I h;obtain⟨v,e1,h⟩:=h;obtain⟨m,hn,hl⟩:=I.loc;have vis:Vis X.env.scope x:=by rcases hx with k|k;exact .inl k;exact .inr (.inl k)
  obtain⟨u,r,l⟩:=hl i x v hi e1 vis;refine wpAny_AugAssign_Name ?_;have go:wpAny (model X.prog X.w) X.A (eval e X.env) (λw s₂=>wpAny (model X.prog X.w) X.A (inplaceOp op u w) (λr s₃=>wpAny (model X.prog X.w) X.A (storeName X.env x r) (λ_=>SP X pins D .next) X.xe s₃) X.xe s₂) X.xe s:=by
    refine thn (he pins s σ H _ I h) λw s1 ⟨y,H1,I1,r1,q1⟩=>?_;refine thn (ho pins s1 σ H1 v y u w _ I1 r r1 q1) λz s2 ⟨zv,H2,I2,r2,q2⟩=>?_;exact j6 I2 hN hi hx r2 (λs3 I3=>⟨_,H2,I3,q2⟩) hf
  rcases l with⟨hk,hm⟩|⟨hk,c,hc,xp⟩
  · exact wpAny_loadName_local I.ok.kind hk hn hm go
  · rcases hk with hk|hk
    · exact wpAny_loadName_cell I.ok.kind hk hc xp go
    · rcases hx with k|k
      · have:X.env.scope.names.lookup x=some .free:=hk
        rw[k]at this;cases this
      · have:X.env.scope.names.lookup x=some .free:=hk
        rw[k]at this;cases this
def ipI(f:Int→Int→Int):TIp:=λx y H Q=>∃ i j,x=.int i∧y=.int j∧Q (.int (f i j)) H
theorem yB:PIp X .Add (ipI λi j=>i+j):=by
  intro pins s σ H x y v u Q I r1 r2 h;obtain⟨i,j,e1,e2,q⟩:=h;subst e1;subst e2;obtain⟨t,rfl⟩:=r1;obtain⟨t',rfl⟩:=r2;exact iadd_int ⟨.int _,H,I.tok _,⟨_,rfl⟩,q⟩
end
section
variable{X:Cx}{pos:Pos}
def Dn(c:TT)(tb:TS):TS:=λD σ H=>∃ W:Nat→St→Hp→Prop,(∃ m,W m σ H)∧∀ m σ H,W m σ H →
  c σ H λb H1=>if b=true then ∃ N:St→Hp→Prop,(∀ σ' H',N σ' H'→∃ m',m'<m∧W m' σ' H')∧tb {D with nx:=N,ct:=N,bk:=D.nx} σ H1 else D.nx σ H1
theorem nF{c:Expr}{body:List Stmt}{tc:TT}{tb:TS}(hp:PassesOwn (model X.prog X.w) X.A X.env X.xe)(hc:PT X c tc)(hb:PSs X body tb):PS X (.While c body [] pos) (Dn tc tb):=by
  intro pins s σ H D I h;obtain⟨W,⟨m0,w0⟩,turn⟩:=h;refine wpAny_While (codeAny_whileLoop (λn s'=>∃ σ' H',Inv X pins σ' H' s'∧W n σ' H') ?_ m0 ⟨σ,H,I,w0⟩);rintro n s1 ⟨σ1,H1,I1,w1⟩;refine wpAny_passesOwn hp (thn (hc pins s1 σ1 H1 _ I1 (turn n σ1 H1 w1)) λb s2 ⟨H2,I2,q2⟩=>?_);cases b with
  | true =>
    obtain⟨N,hN,q2⟩:=q2;rw[if_pos rfl];refine wpAny_passesOwn hp (thn (hb pins s2 σ1 H2 _ I2 q2) λf s3 q3=>?_);cases f with
    | next =>
      obtain⟨σ3,H3,I3,n3⟩:=q3;obtain⟨m',hm,w3⟩:=hN σ3 H3 n3;exact⟨m',hm,σ3,H3,I3,w3⟩
    | cont =>
      obtain⟨σ3,H3,I3,n3⟩:=q3;obtain⟨m',hm,w3⟩:=hN σ3 H3 n3;exact⟨m',hm,σ3,H3,I3,w3⟩
    | brk=>exact q3
    | ret v=>exact q3
  | false =>
    rw[if_neg JX];exact wpAny_execs_nil ⟨σ1,H2,I2,q2⟩
end
structure It where
  go:Nat→Hp→Prop
  yld:Nat→Hp→V→Hp→Prop
  stop:Nat→Hp→Prop
def jV(X:Cx)(pins:List (Addr×Obj))(H:Hp)(b:Addr):Prop :=
  H b=none∧b≠X.env.locals∧b∉X.fs∧(b∈X.ex∨X.s₀.heap.objs.size≤b)∧(∀ x c,X.env.cells.lookup x=some c→c≠b)∧∀ p∈X.pn++pins,p.1≠b
theorem Inv.yC{X:Cx}{pins:List (Addr×Obj)}{σ:St}{H H':Hp}{s:Shared}{b:Addr}(I:Inv X pins σ H s)(hb:s.heap.objs.size≤b)(hn:H' b=none):jV X pins H' b:=by
  refine⟨hn,KR (J8 I.lt hb),I.zS hb,.inr (Ko I.sz hb),λx c e z=>?_,λp hp z=>?_⟩
  · obtain⟨v,q⟩:=I.cell x c e
    exact absurd (J8 q.lt (by rw[z];exact hb)) (KO _)
  · exact absurd (J8 (JY (I.pin p hp).1) (by rw[z];exact hb)) (KO _)
structure Turn(P:Program)(w:World)(K:W.Frag)(tg:Expr)(J:It)(fp:List Addr)(it:Addr)(tn:Nat→Heap→Prop):Prop where
  mem:it∈fp
  obj:∀ i h,tn i h→∀ b∈fp,∃ o,h.get? b=some o∧∀ v,o.data≠.cell v
  keep:∀ i h h',tn i h→(∀ b∈fp,∀ o,h.get? b=some o→h'.get? b=some o)→tn i h'
  item:∀(X:Cx),X.prog=P→X.w=w→X.K=K→X.calm=true→∀(i:Nat) (pins:List (Addr×Obj)) (s:Shared) (σ:St) (H:Hp) (E:Value→Shared→Prop),Inv X pins σ H s→(∀ b∈fp,jV X pins H b)→tn i s.heap→J.go i H →
    wpAny (model P w) X.A (pyNext (.ref it)) (λr s1=>∃ u,r=some u ∧
      wpAny (model P w) X.A (letOwnedTupleGo tg (.ref it) u) (λ_ s2=>∃ x H',Inv X pins σ H' s2∧RelV x u∧J.yld i H x H'∧tn (i+1) s2.heap∧∀ b∈fp,H' b=none) E s1) E s
  done:∀(X:Cx),X.prog=P→X.w=w→X.K=K→X.calm=true→∀(i:Nat) (pins:List (Addr×Obj)) (s:Shared) (σ:St) (H:Hp) (E:Value→Shared→Prop),Inv X pins σ H s→(∀ b∈fp,jV X pins H b)→tn i s.heap→J.stop i H →
    wpAny (model P w) X.A (pyNext (.ref it)) (λr s1=>r=none∧Inv X pins σ H s1) E s
  self:∀(A:Around) (i:Nat) (s:Shared) (Q:Value→Shared→Prop) (E:Value→Shared→Prop),tn i s.heap→Q (.ref it) s→wpAny (model P w) A (pyIter (.ref it)) Q E s
abbrev TI:=St→Hp→(It→Hp→Prop)→Prop
def PIE(X:Cx)(pins:List (Addr×Obj))(σ:St)(tg:Expr)(R:It→Hp→Prop)(itv:Value)(s2:Shared):Prop :=
  ∃(it:Addr) (fp:List Addr) (tn:Nat→Heap→Prop) (J:It) (H':Hp),itv=.ref it∧Inv X pins σ H' s2∧Turn X.prog X.w X.K tg J fp it tn∧tn 0 s2.heap∧(∀ b∈fp,jV X pins H' b)∧R J H'
def PI(X:Cx)(tg iter:Expr)(wi:TI):Prop :=
  ∀(pins:List (Addr×Obj)) (s:Shared) (σ:St) (H:Hp) (R:It→Hp→Prop),Inv X pins σ H s→wi σ H R →
    wpAny (model X.prog X.w) X.A (eval iter X.env) (λv s1=>wpAny (model X.prog X.w) X.A (pyIter v) (PIE X pins σ tg R) X.xe s1) X.xe s
theorem AV{M:Model}{A:Around}{E:Value→Shared→Prop}{s:Shared}{tg:Expr}{it:Addr}{u:Value}{o:Obj}{n:String}{vs:Array Value}{Q:Unit→Shared→Prop}(ho:s.heap.get? it=some o)(hc:o.cls=.type n)(hd:o.data=.fields vs)
    (hn:["enumerate", "zip", "dict_itemiterator", "dict_reverseitemiterator", "odict_iterator", "itertools.zip_longest", "itertools.pairwise"].contains n=false) (hQ:Q () s):wpAny M A (letOwnedTupleGo tg (.ref it) u) Q E s:=by
  unfold letOwnedTupleGo;cases tg<;>first
    | exact wpAny_pure hQ
    | (cases u<;>first
        | exact wpAny_pure hQ
        | (refine wpAny_bind (wpAny_load ho ?_)
           rw[hc,hd];show wpAny M A (if(["enumerate", "zip", "dict_itemiterator", "dict_reverseitemiterator", "odict_iterator", "itertools.zip_longest", "itertools.pairwise"].contains n&&vs[0]? == some (rawInt _))=true then _ else _) Q E s;rw[if_neg (by intro h;rw[hn,Bool.false_and]at h;cases h)];exact wpAny_pure hQ))
def Itl(K:W.Frag)(a:Addr):It :=
  ⟨λi H=>∃ xs x,SqL K H a xs∧xs[i]?=some x,λi H x H'=>H'=H∧∀ xs,SqL K H a xs→xs[i]?=some x,λi H=>∃ xs,SqL K H a xs∧xs.length≤i⟩
def Itr(lo:Int)(n:Nat):It:=⟨λi _=>i<n,λi H x H'=>H'=H∧x=.int (lo+i),λi _=>n≤i⟩
theorem wt{P:Program}{w:World}{K:W.Frag}{tg:Expr}(a it:Addr):Turn P w K tg (Itl K a) [it] it (λi h=>h.IsListIter it a i) where
  mem:=by simp
  obj:=λi h st b hb=>by
    have e:b=it:=(by simpa using hb);subst e;obtain⟨o,e,c,d⟩:=st;exact⟨o,e,λv z=>by rw[d]at z;cases z⟩
  keep:=λi h h' st k=>st.at λo e=>k it (by simp) o e
  item:=by
    intro X hP hw hK hc i pins s σ H E I hf st hg;subst hP hw hK;obtain⟨xs,x,hq,hx⟩:=hg;obtain⟨its,rv,p,hz⟩:=I.list hq;obtain⟨u,hu,ru⟩:=rv.get hx;obtain⟨f0,f1,f2,f3,f4,f5⟩:=hf it (by simp);refine wpAny_pyNext_list_item st p.isList (x:=u) (by simpa using hu) λh' st' sb=>?_;have I1:Inv X pins σ H {s with heap:=h'}:=I.turned (t':=s.toks) (λb o hb e=>(sb.2 b hb).trans e) f0 f1 f3 f4 f5;obtain⟨o,e,c,d⟩:=id st';exact⟨u,rfl,AV (s:={s with heap:=h'}) e c d (by decide) ⟨x,H,I1,ru,⟨rfl,λys hy=>by rw[I.sX hy hq];exact hx⟩,st',λb hb=>(hf b hb).1⟩⟩
  done:=by
    intro X hP hw hK hc i pins s σ H E I hf st hg;subst hP hw hK;obtain⟨xs,hq,hx⟩:=hg;obtain⟨its,rv,p,hz⟩:=I.list hq;obtain⟨f0,f1,f2,f3,f4,f5⟩:=hf it (by simp);have hl:=rv.length;exact wpAny_pyNext_list_end (I.ok.hd hc) st p.isList (by simp;omega) λh' eb=>⟨rfl,I.turned (t':=s.toks) (λb o hb e=>eb b o hb e) f0 f1 f3 f4 f5⟩
  self:=λ_ _ _ _ _ st h=>wpAny_pyIter_listiter st h
theorem tV{P:Program}{w:World}{K:W.Frag}{tg:Expr}(it:Addr)(lo:Int)(n:Nat):Turn P w K tg (Itr lo n) [it] it (λi h=>IsRangeIter h it (lo+(i:Nat)*1) ((n:Int)-(i:Nat)) 1) where
  mem:=by simp
  obj:=λi h st b hb=>by
    have e:b=it:=(by simpa using hb);subst e;exact⟨_,st,λv z=>by
      have z':Data.fields _=Data.cell v:=z;cases z'⟩
  keep:=λi h h' st k=>k it (by simp) _ st
  item:=by
    intro X hP hw hK hc i pins s σ H E I hf st hg;subst hP hw hK;obtain⟨f0,f1,f2,f3,f4,f5⟩:=hf it (by simp);have W:=Walks.range (prog:=X.prog) (w:=X.w) (I.ok.hd hc) it lo 1 n;refine W.item i s _ _ hg st λv h' tk hv st' kk=>?_;obtain⟨t,rfl⟩:=hv;have I1:Inv X pins σ H {s with heap:=h',toks:=tk}:=I.turned (λb o hb e=>kk b o (by simpa using hb) e) f0 f1 f3 f4 f5;refine⟨_,rfl,AV (s:={s with heap:=h',toks:=tk}) (n := "range_iterator") st' rfl rfl (by decide) ⟨.int (lo+i),H,I1,⟨t,?_⟩,⟨rfl,rfl⟩,st',λb hb=>(hf b hb).1⟩⟩;rw[Int.mul_one]
  done:=by
    intro X hP hw hK hc i pins s σ H E I hf st hg;subst hP hw hK;obtain⟨f0,f1,f2,f3,f4,f5⟩:=hf it (by simp);exact wpAny_pyNext_range_end (I.ok.hd hc) st (by have:n≤i:=hg;omega) λh' eb=>⟨rfl,I.turned (t':=s.toks) (λb o hb e=>eb b o hb e) f0 f1 f3 f4 f5⟩
  self:=λ_ _ _ _ _ st h=>wpAny_pyIter_rangeiter st h
end L2
namespace L2
open PySem PySem.Spec PyProof.Rows
section
variable{X:Cx}{tg:Expr}
def Gu(K:W.Frag)(tl:TE):TI:=λσ H R=>tl σ H λx H1=>∃ a,x=.ref a∧(∃ xs,SqL K H1 a xs)∧R (Itl K a) H1
theorem eP{l:Expr}{tl:TE}(hl:PE X l tl):PI X tg l (Gu X.K tl):=by
  intro pins s σ H R I h;refine thn (hl pins s σ H _ I h) λv s1 ⟨x,H1,I1,r1,q1⟩=>?_;obtain⟨a,e,⟨xs,hq⟩,q⟩:=q1;subst e;cases r1;obtain⟨its,rv,p,hz⟩:=I1.list hq;refine wpAny_pyIter_list p.isList ?_;refine⟨s1.heap.objs.size,[s1.heap.objs.size],_,_,H1,rfl,I1.kept (t':=s1.toks) λb o e=>JQ _ e,wt a _,⟨_,Kk _ rfl,rfl,rfl⟩,λb hb=>?_,q⟩;have e:b=s1.heap.objs.size:=by simpa using hb
  subst e;exact I1.yC (JR _) (I1.hok.fresh (JR _))
theorem xQ{pins:List (Addr×Obj)}{σ:St}{H:Hp}{s:Shared}{R:It→Hp→Prop}{E:Value→Shared→Prop}{lo hi:Int}{t u v:Tok}{tk:Nat}(I:Inv X pins σ H s)(h1:-(2 ^ 62)≤lo)(h2:lo<2 ^ 62)(h3:-(2 ^ 62)≤hi)(h4:hi<2 ^ 62)
    (q:R (Itr lo (hi-lo).toNat) H):wpAny (model X.prog X.w) X.A (pyIter (.ref s.heap.objs.size)) (PIE X pins σ tg R) E {s with heap:=s.heap.push {cls:=.type "range",data:=.fields #[.int lo t,.int hi u,.int 1 v]},toks:=tk}:=by
  refine wpAny_pyIter_range (IsRange.new ..) (small_one h1 h2 h3 h4) ?_;have I1:Inv X pins σ H {s with heap:=s.heap.push {cls:=.type "range",data:=.fields #[.int lo t,.int hi u,.int 1 v]},toks:=tk}:=I.kept λb o e=>JQ _ e;refine⟨(s.heap.push {cls:=.type "range",data:=.fields #[.int lo t,.int hi u,.int 1 v]}).objs.size,[(s.heap.push {cls:=.type "range",data:=.fields #[.int lo t,.int hi u,.int 1 v]}).objs.size],_,_,H,rfl,
    I1.kept (t':=tk) λb o e=>JQ _ e,tV _ lo (hi-lo).toNat,?_,λb hb=>?_,q⟩
  · have e1:lo+((0:Nat):Int)*1=lo:=by simp
    have e2:(((hi-lo).toNat:Nat):Int)-((0:Nat):Int)=Builtin.Range.rangeSize lo hi 1:=(by rw[rangeSize_one];split<;>omega);show IsRangeIter _ _ (lo+((0:Nat):Int)*1) ((((hi-lo).toNat:Nat):Int)-((0:Nat):Int)) 1;rw[e1,e2];exact Kk _ rfl
  · have e:b=(s.heap.push {cls:=.type "range",data:=.fields #[.int lo t,.int hi u,.int 1 v]}).objs.size:=by simpa using hb
    subst e;exact I1.yC (JR _) (I1.hok.fresh (JR _))
def Gv(ta:TA):TI:=λσ H R=>ta σ H λvs H1=>∃ j:Int,vs=[.int j]∧-(2 ^ 62)≤j∧j<2 ^ 62∧R (Itr 0 j.toNat) H1
theorem fN{a:Expr}{ta:TA}{p pos:Pos}(hg:Gl X "range")(hm:X.mg "range" = none)(ha:PA X [a] ta)(hs:starEach [a] X.env=[(false,eval a X.env)]:=by rfl):PI X tg (.Call (.Name "range" p) [a] [] pos) (Gv ta):=by
  intro pins s σ H R I h;refine Call_ (j2 I hg hm boot_range (PyProof.Rows.callWith_type1 (thn (ha pos pins s σ H _ I h) λus s1 ⟨vs,H1,I1,r1,q1⟩=>?_) hs rfl));obtain⟨j,e,q1,q2,q⟩:=q1;subst e;cases r1 with
  | cons r rr =>
    cases rr;obtain⟨t,rfl⟩:=r;exact call_range_1 (xQ I1 (by omega) (by omega) q1 q2 (by simpa using q))
def ID(wi:TI)(g:TG)(tb:TS):TS:=λD σ H=>wi σ H λJ H1=>∃ W:Nat→Nat→St→Hp→Prop,(∃ m,W 0 m σ H1)∧∀ i m σ H,W i m σ H →
  (J.stop i H∧D.nx σ H)∨(J.go i H∧∃ N:St→Hp→Prop,(∀ σ' H',N σ' H'→∃ m',m'<m∧W (i+1) m' σ' H')∧∀ x H',J.yld i H x H'→g x σ H' λσ2 H2=>tb {D with nx:=N,ct:=N,bk:=D.nx} σ2 H2)
def n8(fp:List Addr)(h:Heap):List (Addr×Obj):=fp.filterMap λb=>(h.get? b).map λo=>(b,o)
theorem cn{fp:List Addr}{h:Heap}{b:Addr}{o:Obj}(hb:b∈fp)(e:h.get? b=some o):(b,o)∈n8 fp h:=KH.mpr ⟨b,hb,by rw[e];rfl⟩
theorem wu{fp:List Addr}{h:Heap}{p:Addr×Obj}(hp:p∈n8 fp h):p.1∈fp∧h.get? p.1=some p.2:=by
  obtain⟨b,hb,e⟩:=KH.mp hp;cases q:h.get? b with
  | none=>rw[q]at e;cases e
  | some o =>
    rw[q]at e;have e':(b,o)=p:=Kq e;subst e';exact⟨hb,q⟩
theorem Inv.pinned{pins:List (Addr×Obj)}{σ:St}{H:Hp}{s:Shared}{fp:List Addr}(I:Inv X pins σ H s)(hf:∀ b∈fp,jV X pins H b)(ho:∀ b∈fp,∃ o,s.heap.get? b=some o∧∀ v,o.data≠.cell v):Inv X (pins++n8 fp s.heap) σ H s :=
  I.jm λp hp=>(Ka.mp hp).elim (λz=>I.pin p (JP _ z)) λz=>by
    obtain⟨hb,e⟩:=wu z;obtain⟨f0,f1,f2,_⟩:=hf p.1 hb;obtain⟨o,e',d⟩:=ho p.1 hb;rw[e]at e';cases e';exact⟨e,f0,f1,f2,d⟩
theorem Inv.fg{pins pl:List (Addr×Obj)}{σ:St}{H:Hp}{s:Shared}(I:Inv X (pins++pl) σ H s):Inv X pins σ H s:=I.jm λp hp=>I.pin p (JP _ (Kw _ hp))
theorem fz{iter:Expr}{body:List Stmt}{wi:TI}{g:TG}{tb:TS}{pos:Pos}(hp:PassesOwn (model X.prog X.w) X.A X.env X.xe)(hc:X.calm=true)(hi:PI X tg iter wi)(hg:PG X tg g)(hb:PSs X body tb)
    (hs:∀ x,foldedSetIterable iter X.env x=pure x:=by intro _;rfl):PS X (.For tg iter body [] pos) (ID wi g tb):=by
  intro pins s σ H D I h;refine wpAny_For (thn (hi pins s σ H _ I h) λv s1 h1=>thn h1 λitv s2 h2=>?_) hs;obtain⟨it,fp,tn,J,H2,e,I2,T,st2,f2,W,⟨m0,w0⟩,turn⟩:=h2;subst e;have jG:∀ {H':Hp},(∀ b∈fp,H' b=none)→∀ b∈fp,jV X pins H' b:=λhn b hb=>⟨hn b hb,(f2 b hb).2⟩;refine codeAny_forLoop_any (λn s'=>∃ i σ' H',Inv X pins σ' H' s'∧tn i s'.heap∧(∀ b∈fp,H' b=none)∧W i n σ' H') ?_ m0 ⟨0,σ,H2,I2,st2,λb hb=>(f2 b hb).1,w0⟩;rintro n s3 ⟨i,σ3,H3,I3,st3,fr3,w3⟩;rcases turn i n σ3 H3 w3 with⟨stop,qn⟩|⟨go,N,hN,step⟩
  · refine wpAny_passesOwn hp (thn (T.done X rfl rfl rfl hc i pins s3 σ3 H3 X.xe I3 (jG fr3) st3 stop) λr s4 ⟨hr,I4⟩=>?_)
    subst hr;exact wpAny_execs_nil ⟨σ3,H3,I4,qn⟩
  · refine wpAny_passesOwn hp (thn (T.item X rfl rfl rfl hc i pins s3 σ3 H3 X.xe I3 (jG fr3) st3 go) λr s4 ⟨u,hr,h4⟩=>?_)
    subst hr;refine wpAny_passesOwn hp (thn h4 λ_ s5 ⟨x,H5,I5,r5,y5,st5,fr5⟩=>?_);have I5':=I5.pinned (jG fr5) (T.obj _ _ st5);refine wpAny_passesOwn hp (thn (hg _ s5 σ3 H5 x u _ I5' r5 (step x H5 y5)) λ_ s6 ⟨σ6,H6,I6,q6⟩=>?_);refine wpAny_passesOwn hp (thn (hb _ s6 σ6 H6 _ I6 q6) λf s7 q7=>?_);have again:∀ {σ7:St} {H7:Hp},Inv X (pins++n8 fp s5.heap) σ7 H7 s7→N σ7 H7→∃ m,m<n∧∃ i σ' H',Inv X pins σ' H' s7∧tn i s7.heap∧(∀ b∈fp,H' b=none)∧W i m σ' H':=λ{σ7 H7} I7 n7=>by
      obtain⟨m',hm,w7⟩:=hN σ7 H7 n7;refine⟨m',hm,i+1,σ7,H7,I7.fg,T.keep _ _ _ st5 λb hb o e=>(I7.pin (b,o) (JP _ (JP _ (cn hb e)))).1,λb hb=>?_,w7⟩;obtain⟨o,e,d⟩:=T.obj _ _ st5 b hb;exact(I7.pin (b,o) (JP _ (JP _ (cn hb e)))).2.1
    cases f with
    | next=>obtain⟨σ7,H7,I7,n7⟩:=q7;exact again I7 n7
    | cont=>obtain⟨σ7,H7,I7,n7⟩:=q7;exact again I7 n7
    | brk=>obtain⟨σ7,H7,I7,q7⟩:=q7;exact⟨σ7,H7,I7.fg,q7⟩
    | ret v=>obtain⟨x7,σ7,H7,I7,r7,q7⟩:=q7;exact⟨x7,σ7,H7,I7.fg,r7,q7⟩
end
theorem ip{K:W.Frag}{a:Addr}{xs:List V}{g:TG}{tb:TS}{D:Ends}{σ:St}{H:Hp}(Pv:Nat→St→Hp→Prop)(h0:Pv 0 σ H)(hl:∀ i σ H,i≤xs.length→Pv i σ H→SqL K H a xs)
    (hs:∀ i x σ H,xs[i]?=some x→Pv i σ H→g x σ H λσ2 H2=>tb {D with nx:=Pv (i+1),ct:=Pv (i+1),bk:=D.nx} σ2 H2) (hd:∀ σ H,Pv xs.length σ H→D.nx σ H) :
    ∃ W:Nat→Nat→St→Hp→Prop,(∃ m,W 0 m σ H)∧∀ i m σ H,W i m σ H →
      ((Itl K a).stop i H∧D.nx σ H)∨((Itl K a).go i H∧∃ N:St→Hp→Prop,(∀ σ' H',N σ' H'→∃ m',m'<m∧W (i+1) m' σ' H')∧∀ x H',(Itl K a).yld i H x H'→g x σ H' λσ2 H2=>tb {D with nx:=N,ct:=N,bk:=D.nx} σ2 H2):=by
  refine⟨λi m σ H=>m=xs.length-i∧i≤xs.length∧Pv i σ H,⟨xs.length,by simp,Kh _,h0⟩,?_⟩;rintro i m σ H ⟨rfl,hi,p⟩;have q:=hl i σ H hi p;by_cases hlt:i<xs.length
  · refine .inr ⟨⟨xs,xs[i],q,by simp[hlt]⟩,Pv (i+1),λσ' H' p'=>⟨xs.length-(i+1),by omega,rfl,hlt,p'⟩,λx H' y=>?_⟩
    obtain⟨e,y⟩:=y;subst e;exact hs i x σ _ (y xs q) p
  · have e:i=xs.length:=by omega
    subst e;exact .inl ⟨⟨xs,q,JR _⟩,hd σ H p⟩
theorem pN{lo:Int}{n:Nat}{g:TG}{tb:TS}{D:Ends}{σ:St}{H:Hp}(Pv:Nat→St→Hp→Prop)(h0:Pv 0 σ H)
    (hs:∀ i σ H,i<n→Pv i σ H→g (.int (lo+i)) σ H λσ2 H2=>tb {D with nx:=Pv (i+1),ct:=Pv (i+1),bk:=D.nx} σ2 H2) (hd:∀ σ H,Pv n σ H→D.nx σ H) :
    ∃ W:Nat→Nat→St→Hp→Prop,(∃ m,W 0 m σ H)∧∀ i m σ H,W i m σ H →
      ((Itr lo n).stop i H∧D.nx σ H)∨((Itr lo n).go i H∧∃ N:St→Hp→Prop,(∀ σ' H',N σ' H'→∃ m',m'<m∧W (i+1) m' σ' H')∧∀ x H',(Itr lo n).yld i H x H'→g x σ H' λσ2 H2=>tb {D with nx:=N,ct:=N,bk:=D.nx} σ2 H2):=by
  refine⟨λi m σ H=>m=n-i∧i≤n∧Pv i σ H,⟨n,by simp,Kh _,h0⟩,?_⟩;rintro i m σ H ⟨rfl,hi,p⟩;by_cases hlt:i<n
  · refine .inr ⟨hlt,Pv (i+1),λσ' H' p'=>⟨n-(i+1),by omega,rfl,hlt,p'⟩,λx H' y=>?_⟩
    obtain⟨e,y⟩:=y;subst e y;exact hs i σ _ hlt p
  · have e:i=n:=by omega
    subst e;exact .inl ⟨JR _,hd σ H p⟩
end L2
namespace L2
open PySem PySem.Spec PyProof.Rows
abbrev R2:=V→V→Hp→VK→Prop
def OpR(X:Cx)(f:Value→Value→Sem Value)(r:R2):Prop :=
  ∀(pins:List (Addr×Obj)) (s:Shared) (σ:St) (H:Hp) (x y:V) (v u:Value) (Q:VK),Inv X pins σ H s→RelV x v→RelV y u→r x y H Q →
    wpAny (model X.prog X.w) X.A (f v u) (EP X pins σ Q) X.xe s
def UnR(X:Cx)(f:Value→Sem Value)(r:V→Hp→VK→Prop):Prop :=
  ∀(pins:List (Addr×Obj)) (s:Shared) (σ:St) (H:Hp) (x:V) (v:Value) (Q:VK),Inv X pins σ H s→RelV x v→r x H Q →
    wpAny (model X.prog X.w) X.A (f v) (EP X pins σ Q) X.xe s
def je(X:Cx)(f:Value)(r:List V→Hp→VK→Prop):Prop :=
  ∀(pins:List (Addr×Obj)) (s:Shared) (σ:St) (H:Hp) (xs:List V) (us:List Value) (Q:VK),Inv X pins σ H s→Vals xs us→r xs H Q →
    wpAny (model X.prog X.w) X.A (call f us) (EP X pins σ Q) X.xe s
def tOp(r:R2)(ta tb:TE):TE:=λσ H Q=>ta σ H λx H1=>tb σ H1 λy H2=>r x y H2 Q
def tUn(r:V→Hp→VK→Prop)(ta:TE):TE:=λσ H Q=>ta σ H λx H1=>r x H1 Q
def rI(C:Int→Int→Prop)(g:Int→Int→V):R2:=λx y H Q=>∃ i j,x=.int i∧y=.int j∧C i j∧Q (g i j) H
def rI0(g:Int→Int→V):R2:=λx y H Q=>∃ i j,x=.int i∧y=.int j∧Q (g i j) H
def rU(g:Int→V):V→Hp→VK→Prop:=λx H Q=>∃ i,x=.int i∧Q (g i) H
section
variable{X:Cx}{a b c:Expr}{ta tb tc:TE}{pos:Pos}
theorem D2(ha:PE X a ta)(hb:PE X b tb){pins:List (Addr×Obj)}{s:Shared}{σ:St}{H:Hp}{R:V→V→Hp→Prop}(I:Inv X pins σ H s)
    (h:ta σ H λx H1=>tb σ H1 λy H2=>R x y H2) {Q:Value→Shared→Prop} {f:Value→Value→Sem Value}
    (hf:∀ v u s2 x y H2,Inv X pins σ H2 s2→RelV x v→RelV y u→R x y H2→wpAny (model X.prog X.w) X.A (f v u) Q X.xe s2) :
    wpAny (model X.prog X.w) X.A (eval a X.env) (λv s₁=>wpAny (model X.prog X.w) X.A (eval b X.env) (λu s₂=>wpAny (model X.prog X.w) X.A (f v u) Q X.xe s₂) X.xe s₁) X.xe s:=by
  refine thn (ha pins s σ H _ I h) λv s1 ⟨x,H1,I1,r1,q1⟩=>?_;refine thn (hb pins s1 σ H1 _ I1 q1) λu s2 ⟨y,H2,I2,r2,q2⟩=>?_;exact hf v u s2 x y H2 I2 r1 r2 q2
theorem aw{op:Operator}{r:R2}(ho:OpR X (binaryOp op) r)(ha:PE X a ta)(hb:PE X b tb):PE X (.BinOp a op b pos) (tOp r ta tb):=by
  intro pins s σ H Q I h;exact wpAny_BinOp (D2 ha hb I h λv u s2 x y H2 I2 rx ry q=>ho pins s2 σ H2 x y v u Q I2 rx ry q)
theorem AW{op:UnaryOp}{r:V→Hp→VK→Prop}(ho:UnR X (unaryOp op) r)(ha:PE X a ta):PE X (.UnaryOp op a pos) (tUn r ta):=by
  intro pins s σ H Q I h;exact UnaryOp_ (thn (ha pins s σ H _ I h) λv s1 ⟨x,H1,I1,r1,q1⟩=>ho pins s1 σ H1 x v Q I1 r1 q1)
theorem opI{f:Value→Value→Sem Value}{C:Int→Int→Prop}{g:Int→Int→Int}
    (rule:∀(i j:Int) (t u:Tok) (s:Shared) (Q:Value→Shared→Prop) (E:Value→Shared→Prop),C i j→Q (.int (g i j) s.toks) {s with toks:=s.toks+1}→wpAny (model X.prog X.w) X.A (f (.int i t) (.int j u)) Q E s) :
    OpR X f (rI C λi j=>.int (g i j)):=by
  intro pins s σ H x y v u Q I rx ry h;obtain⟨i,j,rfl,rfl,hc,q⟩:=h;obtain⟨t,rfl⟩:=rx;obtain⟨t',rfl⟩:=ry;exact rule i j t t' s _ _ hc ⟨.int (g i j),H,I.tok _,⟨_,rfl⟩,q⟩
theorem He{f:Value→Value→Sem Value}{g:Int→Int→Int}
    (rule:∀(i j:Int) (t u:Tok) (s:Shared) (Q:Value→Shared→Prop) (E:Value→Shared→Prop),Q (.int (g i j) s.toks) {s with toks:=s.toks+1}→wpAny (model X.prog X.w) X.A (f (.int i t) (.int j u)) Q E s) :
    OpR X f (rI0 λi j=>.int (g i j)):=by
  intro pins s σ H x y v u Q I rx ry h;obtain⟨i,j,rfl,rfl,q⟩:=h;obtain⟨t,rfl⟩:=rx;obtain⟨t',rfl⟩:=ry;exact rule i j t t' s _ _ ⟨.int (g i j),H,I.tok _,⟨_,rfl⟩,q⟩
theorem AX{f:Value→Value→Sem Value}{g:Int→Int→Bool}
    (rule:∀(i j:Int) (t u:Tok) (s:Shared) (Q:Value→Shared→Prop) (E:Value→Shared→Prop),Q (.bool (g i j)) s→wpAny (model X.prog X.w) X.A (f (.int i t) (.int j u)) Q E s) :
    OpR X f (rI0 λi j=>.bl (g i j)):=by
  intro pins s σ H x y v u Q I rx ry h;obtain⟨i,j,rfl,rfl,q⟩:=h;obtain⟨t,rfl⟩:=rx;obtain⟨t',rfl⟩:=ry;exact rule i j t t' s _ _ ⟨.bl (g i j),H,I,rfl,q⟩
def IE(i j:Int):Prop:=0<j∧j<1073741824
def IF(i j:Int):Prop:=0≤j∧j≤1000000∧i.natAbs<2 ^ 64
def D3(i j:Int):Prop:=(-(2 ^ 64)<i∧i<2 ^ 64)∨(-(2 ^ 64)<j∧j<2 ^ 64)
theorem D3.ok{i j:Int}(h:D3 i j):IntMulOk i j:=by
  rcases h with⟨h1,h2⟩|⟨h1,h2⟩
  · exact .of_left (intBits_le_64 h1 h2)
  · exact .of_right (intBits_le_64 h1 h2)
theorem aW:OpR X (binaryOp .Add) (rI0 λi j=>.int (i+j)):=He λ_ _ _ _ _ _ _ q=>add_int q
theorem yD:OpR X (binaryOp .Sub) (rI0 λi j=>.int (i-j)):=He λ_ _ _ _ _ _ _ q=>sub_int q
theorem iq:OpR X (binaryOp .Mult) (rI D3 λi j=>.int (i*j)):=opI λ_ _ _ _ _ _ _ hc q=>mul_int q hc.ok
theorem cC:OpR X (binaryOp .FloorDiv) (rI IE λi j=>.int (i/j)):=opI λi j _ _ _ _ _ hc q=>by
  have h1:(0:Int)<j:=hc.1;have h2:j<1073741824:=hc.2;exact floordiv_int (by omega) (by rw[Int.fdiv_eq_ediv_of_nonneg i (by omega)];exact q) (.inl (PyProof.noPylong_small (by omega)))
theorem bc:OpR X (binaryOp .Mod) (rI (λ_ j=>0<j) λi j=>.int (i%j)):=opI λi j _ _ _ _ _ hc q=>by
  have h1:(0:Int)<j:=hc;exact mod_int' (by omega) (by rw[Int.fmod_eq_emod_of_nonneg i (by omega)];exact q)
theorem Dp:OpR X (binaryOp .Pow) (rI IF λi j=>.int (i ^ j.toNat)):=opI λ_ _ _ _ _ _ _ hc q=>pow_int_small hc.1 hc.2.1 hc.2.2 q
theorem unI{f:Value→Sem Value}{g:Int→Int}
    (rule:∀(i:Int) (t:Tok) (s:Shared) (Q:Value→Shared→Prop) (E:Value→Shared→Prop),Q (.int (g i) s.toks) {s with toks:=s.toks+1}→wpAny (model X.prog X.w) X.A (f (.int i t)) Q E s) :
    UnR X f (rU λi=>.int (g i)):=by
  intro pins s σ H x v Q I rx h;obtain⟨i,rfl,q⟩:=h;obtain⟨t,rfl⟩:=rx;exact rule i t s _ _ ⟨.int (g i),H,I.tok _,⟨_,rfl⟩,q⟩
theorem yE:UnR X (unaryOp .USub) (rU λi=>.int (-i)):=unI λ_ _ _ _ _ q=>neg_int q
end
def Hf:V→V→Bool
  | .non,.non=>true|.non,.int _=>true|.int _,.non=>true|.non,.bl _=>true|.bl _,.non=>true|.non,.str _=>true|.str _,.non=>true
  | .int _,.int _=>true|.bl _,.bl _=>true|.str _,.str _=>true|.byt _,.byt _=>true
  | .int _,.str _=>true|.str _,.int _=>true|.bl _,.str _=>true|.str _,.bl _=>true
  | _,_=>false
def rEq:R2:=λx y H Q=>Hf x y=true∧Q (.bl (decide (x=y))) H
def rNe:R2:=λx y H Q=>Hf x y=true∧Q (.bl (!decide (x=y))) H
theorem fk{i j:Int}:decide (V.int i=V.int j)=(i == j):=by
  rw[Lk];simp
theorem yF{i j:Bool}:decide (V.bl i=V.bl j)=(i == j):=by
  rw[Lk];simp
theorem vx{i j:Str}:decide (V.str i=V.str j)=(i == j):=by
  rw[Lk];simp
theorem vy{i j:Array UInt8}:decide (V.byt i=V.byt j)=(i.toList == j.toList):=by
  rw[Lk];cases i;cases j;simp
section
variable{X:Cx}{a b c:Expr}{ta tb tc:TE}{pos:Pos}
theorem bw{pins:List (Addr×Obj)}{σ:St}{H:Hp}{s:Shared}{Q:VK}{k k':Bool}(I:Inv X pins σ H s)(q:Q (.bl k) H)(e:k=k'):EP X pins σ Q (.bool k') s:=by
  subst e;exact⟨.bl k,H,I,rfl,q⟩
theorem jf:OpR X (compareOp .Eq) rEq:=by
  intro pins s σ H x y v u Q I rx ry h;obtain⟨hs,q⟩:=h;cases x with
  | non =>
    cases rx;cases y with
    | non=>cases ry;exact PySem.EqNone.eq_none_none (bw I q (by simp))
    | bl j=>cases ry;exact PySem.EqNone.eq_none_bool (bw I q (by simp))
    | int j=>obtain⟨t',rfl⟩:=ry;exact PySem.EqNone.eq_none_int (bw I q (by simp))
    | str j=>obtain⟨t',rfl⟩:=ry;exact PySem.EqNone.eq_none_str (bw I q (by simp))
    | _=>exact absurd (show false=true from hs) JX
  | bl i =>
    cases rx;cases y with
    | non=>cases ry;exact PySem.EqNone.eq_bool_none (bw I q (by simp))
    | bl j=>cases ry;exact eq_bool (bw I q yF)
    | str j=>obtain⟨t',rfl⟩:=ry;exact PySem.EqMixed.eq_bool_str (bw I q (by simp))
    | _=>exact absurd (show false=true from hs) JX
  | int i =>
    obtain⟨t,rfl⟩:=rx;cases y with
    | non=>cases ry;exact PySem.EqNone.eq_int_none (bw I q (by simp))
    | int j=>obtain⟨t',rfl⟩:=ry;exact eq_int (bw I q fk)
    | str j=>obtain⟨t',rfl⟩:=ry;exact PySem.EqMixed.eq_int_str (bw I q (by simp))
    | _=>exact absurd (show false=true from hs) JX
  | str i =>
    obtain⟨t,rfl⟩:=rx;cases y with
    | non=>cases ry;exact PySem.EqNone.eq_str_none (bw I q (by simp))
    | bl j=>cases ry;exact PySem.EqMixed.eq_str_bool (bw I q (by simp))
    | int j=>obtain⟨t',rfl⟩:=ry;exact PySem.EqMixed.eq_str_int (bw I q (by simp))
    | str j=>obtain⟨t',rfl⟩:=ry;exact eq_str (bw I q vx)
    | _=>exact absurd (show false=true from hs) JX
  | byt i =>
    obtain⟨t,rfl⟩:=rx;cases y with
    | byt j=>obtain⟨t',rfl⟩:=ry;exact PySem.W.eq_bytes (bw I q vy)
    | _=>exact absurd (show false=true from hs) JX
  | _=>cases y<;>exact absurd (show false=true from hs) JX
theorem xq:OpR X (compareOp .NotEq) rNe:=by
  intro pins s σ H x y v u Q I rx ry h;obtain⟨hs,q⟩:=h;cases x with
  | non =>
    cases rx;cases y with
    | non=>cases ry;exact PySem.EqNone.ne_none_none (bw I q (by simp))
    | bl j=>cases ry;exact PySem.EqNone.ne_none_bool (bw I q (by simp))
    | int j=>obtain⟨t',rfl⟩:=ry;exact PySem.EqNone.ne_none_int (bw I q (by simp))
    | str j=>obtain⟨t',rfl⟩:=ry;exact PySem.EqNone.ne_none_str (bw I q (by simp))
    | _=>exact absurd (show false=true from hs) JX
  | bl i =>
    cases rx;cases y with
    | non=>cases ry;exact PySem.EqNone.ne_bool_none (bw I q (by simp))
    | bl j=>cases ry;exact ne_bool (bw I q (congrArg not yF))
    | str j=>obtain⟨t',rfl⟩:=ry;exact PySem.EqMixed.ne_bool_str (bw I q (by simp))
    | _=>exact absurd (show false=true from hs) JX
  | int i =>
    obtain⟨t,rfl⟩:=rx;cases y with
    | non=>cases ry;exact PySem.EqNone.ne_int_none (bw I q (by simp))
    | int j=>obtain⟨t',rfl⟩:=ry;exact ne_int (bw I q (congrArg not fk))
    | str j=>obtain⟨t',rfl⟩:=ry;exact PySem.EqMixed.ne_int_str (bw I q (by simp))
    | _=>exact absurd (show false=true from hs) JX
  | str i =>
    obtain⟨t,rfl⟩:=rx;cases y with
    | non=>cases ry;exact PySem.EqNone.ne_str_none (bw I q (by simp))
    | bl j=>cases ry;exact PySem.EqMixed.ne_str_bool (bw I q (by simp))
    | int j=>obtain⟨t',rfl⟩:=ry;exact PySem.EqMixed.ne_str_int (bw I q (by simp))
    | str j=>obtain⟨t',rfl⟩:=ry;exact ne_str (bw I q (congrArg not vx))
    | _=>exact absurd (show false=true from hs) JX
  | byt i =>
    obtain⟨t,rfl⟩:=rx;cases y with
    | byt j=>obtain⟨t',rfl⟩:=ry;exact PySem.W.ne_bytes (bw I q (congrArg not vy))
    | _=>exact absurd (show false=true from hs) JX
  | _=>cases y<;>exact absurd (show false=true from hs) JX
theorem qY:OpR X (compareOp .Lt) (rI0 λi j=>.bl (decide (i<j))):=AX λ_ _ _ _ _ _ _ q=>lt_int q
theorem Gw:OpR X (compareOp .LtE) (rI0 λi j=>.bl (decide (i≤j))):=AX λ_ _ _ _ _ _ _ q=>le_int q
theorem tW:OpR X (compareOp .Gt) (rI0 λi j=>.bl (decide (j<i))):=AX λ_ _ _ _ _ _ _ q=>gt_int q
theorem Gx:OpR X (compareOp .GtE) (rI0 λi j=>.bl (decide (j≤i))):=AX λ_ _ _ _ _ _ _ q=>ge_int q
theorem yG:OpR X (compareOp .Is) (λx y H Q=>y=.non∧Q (.bl (decide (x=.non))) H):=by
  intro pins s σ H x y v u Q I rx ry h;obtain⟨rfl,q⟩:=h;cases ry;refine is_none_gen (bw I q ?_);cases x<;>first
    | (cases rx;rfl)
    | (obtain⟨t,rfl⟩:=rx;rfl)
theorem qO:OpR X (compareOp .IsNot) (λx y H Q=>y=.non∧Q (.bl (!decide (x=.non))) H):=by
  intro pins s σ H x y v u Q I rx ry h;obtain⟨rfl,q⟩:=h;cases ry;refine isnot_none_gen (bw I q ?_);cases x<;>first
    | (cases rx;rfl)
    | (obtain⟨t,rfl⟩:=rx;rfl)
theorem aT(b:Expr){op:CmpOp}(h:op≠.In:=by decide)(h2:op≠.NotIn:=by decide):behindInMarks op b=false:=by
  have e1:(op == CmpOp.In)=false:=by cases op<;>first|rfl|exact absurd rfl h
  have e2:(op == CmpOp.NotIn)=false:=by cases op<;>first|rfl|exact absurd rfl h2
  cases b<;>simp[behindInMarks,e1,e2]
theorem vz{op:CmpOp}{r:R2}(ho:OpR X (compareOp op) r)(ha:PE X a ta)(hb:PE X b tb)(hm:behindInMarks op b=false):PE X (.Compare a [op] [b] pos) (tOp r ta tb):=by
  intro pins s σ H Q I h;exact wpAny_Compare1 (D2 ha hb I h λv u s2 x y H2 I2 rx ry q=>ho pins s2 σ H2 x y v u Q I2 rx ry q) hm
def AY(t:TE):TT:=λσ H Q=>t σ H λx H'=>∃ k,x=.bl k∧Q k H'
theorem aA{op:CmpOp}{r:R2}(ho:OpR X (compareOp op) r)(ha:PE X a ta)(hb:PE X b tb)(hm:behindInMarks op b=false):PT X (.Compare a [op] [b] pos) (AY (tOp r ta tb)):=by
  intro pins s σ H Q I h;refine wpAny_isTrue_Compare1 (thn (ha pins s σ H _ I h) λv s1 ⟨x,H1,I1,r1,q1⟩=>thn (hb pins s1 σ H1 _ I1 q1) λu s2 ⟨y,H2,I2,r2,q2⟩ =>
    thn (ho pins s2 σ H2 x y v u _ I2 r1 r2 q2) λc s3 ⟨z,H3,I3,r3,k,e,q3⟩=>?_) hm
  subst e;cases r3;exact wpAny_truthy_bool ⟨H3,I3,q3⟩
def Dq(r r':R2)(ta tb tc:TE):TE:=λσ H Q=>ta σ H λx H1=>tb σ H1 λy H2=>r x y H2 λz H3=>∃ k,z=.bl k ∧
  (if k=true then tc σ H3 λw' H4=>r' y w' H4 Q else Q (.bl false) H3)
theorem xR{op op':CmpOp}{r r':R2}(ho:OpR X (compareOp op) r)(ho':OpR X (compareOp op') r')(ha:PE X a ta)(hb:PE X b tb)(hc:PE X c tc)
    (hm:lastMarks [op,op'] [b,c]=false:=by with_unfolding_all rfl):PT X (.Compare a [op,op'] [b,c] pos) (AY (Dq r r' ta tb tc)):=by
  intro pins s σ H Q I h;refine isTrue_chain (thn (ha pins s σ H _ I h) λv s1 ⟨x,H1,I1,r1,q1⟩=>test_link (thn (hb pins s1 σ H1 _ I1 q1) λu s2 ⟨y,H2,I2,r2,q2⟩ =>
    thn (ho pins s2 σ H2 x y v u _ I2 r1 r2 q2) λd s3 ⟨z,H3,I3,r3,k,e,q3⟩=>?_)) hm
  subst e;cases r3;refine wpAny_truthy_bool ?_;cases k with
  | false =>
    obtain⟨k',e',q'⟩:=q3;cases e';exact ite_ff ⟨H3,I3,q'⟩
  | true =>
    refine ite_tt (test_last (thn (hc pins s3 σ H3 _ I3 q3) λw' s4 ⟨z',H4,I4,r4,q4⟩=>thn (ho' pins s4 σ H4 y z' u w' _ I4 r2 r4 q4) λd' s5 ⟨z2,H5,I5,r5,k2,e2,q5⟩=>?_));subst e2;cases r5;exact wpAny_truthy_bool ⟨H5,I5,q5⟩
theorem qZ:(sizeLine:Nat)<2 ^ 63:=by rw[sizeLine_eq];decide
theorem vals1{x:V}{us:List Value}(r:Vals [x] us):∃ u,us=[u]∧RelV x u:=by
  cases r with
  | cons r1 r2=>cases r2;exact⟨_,rfl,r1⟩
theorem vals2{x y:V}{us:List Value}(r:Vals [x,y] us):∃ u w',us=[u,w']∧RelV x u∧RelV y w':=by
  cases r with
  | cons r1 r2 =>
    cases r2 with
    | cons r3 r4=>cases r4;exact⟨_,_,rfl,r1,r3⟩
theorem wy(hc:X.calm=true):je X (.builtin "max") (λxs H Q=>∃ i j,xs=[.int i,.int j]∧Q (.int (if j>i then j else i)) H):=by
  intro pins s σ H xs us Q I r h;obtain⟨i,j,rfl,q⟩:=h;obtain⟨u,w',rfl,⟨t,rfl⟩,⟨t',rfl⟩⟩:=vals2 r;refine max_two_ints (I.ok.hd hc) λh' tk k=>⟨_,H,I.kept k,?_,q⟩;by_cases hj:j>i
  · rw[if_pos hj,if_pos hj];exact⟨_,rfl⟩
  · rw[if_neg hj,if_neg hj];exact⟨_,rfl⟩
end
end L2
namespace L2
open PySem PySem.Spec PyProof.Rows
structure xF(h:Heap)(x dx C:Addr)(mA:Str→Option Value):Prop where
  obj:h.get? x=some (PySem.W.instObj C dx)
  ns:h.Ns1 dx mA
  ne:dx≠x
theorem wz{h:Heap}{dx:Addr}{mA:Str→Option Value}(n:h.Ns1 dx mA):∃ od,h.get? dx=some od∧∀ name,PySem.W.lookIn name od=some (mA name):=by
  obtain⟨o,es,ep,ho,hd,hk,_,hm⟩:=n;refine⟨o,ho,λname=>?_⟩;have e:=hm name;unfold nsFind findBy at e;rw[←Array.find?_toList]at e;unfold PySem.W.lookIn;rw[hd];dsimp only;split
  · rename_i y q
    rw[q]at e;exact congrArg some e
  · rename_i q
    rw[q]at e;have a:es.toList.any (·.refKey)=false:=by
      rw[List.any_eq_false];intro y hy;obtain⟨z,t,IG⟩:=hk y (Array.mem_toList_iff.mp hy);simp[DictEntry.refKey,IG]
    have a':¬es.toList.any (·.refKey)=true:=(by rw[a];exact JX);rw[if_neg a'];exact congrArg some e
theorem xF.look{h:Heap}{x dx C:Addr}{mA:Str→Option Value}(I:xF h x dx C mA):∃ od,PySem.W.InstAt h x (PySem.W.instObj C dx) C (some od)∧∀ name,PySem.W.lookIn name od=some (mA name) :=
  let ⟨od,ho,hl⟩:=wz I.ns
  ⟨od,⟨I.obj,rfl,rfl,ho⟩,hl⟩
section
variable{prog:Program}{w:World}{A:Around}{E:Value→Shared→Prop}{s:Shared}{K:W.Frag}{x dx C f:Addr}{mA:Str→Option Value}{name:Str}{v:Value}
theorem get_map{expr:Bool}{Q:Value→Shared→Prop}(X:K.In s.heap)(I:xF s.heap x dx C mA)(hg:PySem.W.plainGet K C name=true)(hh:PySem.W.hasDictIn K C=true)
    (ha:PySem.W.findIn K (.ref C) name=some none) (hv:mA name=some v) (hv':PySem.W.handedIn v=true) (h:Q v {s with toks:=s.toks+1}) :
    wpAny (model prog w) A (getAttr (.ref x) name expr) Q E s:=by
  obtain⟨od,J,hl⟩:=I.look;exact PySem.W.get_value X J (PySem.W.plainGet_of hg).1 (PySem.W.findObj_own hh ha rfl (by rw[hl,hv])) hv' h
theorem xS{pl:Sem Bool}{Q:Value×List Value→Shared→Prop}(X:K.In s.heap)(I:xF s.heap x dx C mA)(hg:PySem.W.plainGet K C name=true)
    (hf:PySem.W.findIn K (.ref C) name=some (some (.ref f))) (ht:PySem.W.isFn K (.ref f)=true) (hv:mA name=none) (h:Q (.ref f,[.ref x]) s) :
    wpAny (model prog w) A (getMethod (.ref x) name pl) Q E s:=by
  obtain⟨od,J,hl⟩:=I.look;exact PySem.W.method_fn X J (PySem.W.plainGet_of hg).1 (PySem.W.plainGet_of hg).2 hf (beq_iff_eq.mp ht) (by show(PySem.W.lookIn name od).map (·.isSome)=some false;rw[hl,hv];rfl) h
theorem zU{ns:List Str}{Q:Unit→Shared→Prop}(X:K.In s.heap)(I:xF s.heap x dx C mA)
    (hs:PySem.W.findIn K (.ref C) "__setattr__" = some (some (.builtin "object.__setattr__"))) (hp:PySem.W.plainOver K C=true) (ht:PySem.W.takerIn K C name=some none) (hh:PySem.W.hasDictIn K C=true)
    (hw:PySem.Within mA ns) (hsz:ns.length≤sizeLine)
    (h:∀ h',xF h' x dx C (λy=>if y=name then some v else mA y)→Heap.SameBut dx s.heap h'→Q () {s with heap:=h',toks:=s.toks+2}) :
    wpAny (model prog w) A (setAttr (.ref x) name v) Q E s:=by
  obtain⟨od,J,hl⟩:=I.look;refine PySem.W.set_plain X J hs (PySem.W.osa_open (s:={s with toks:=s.toks+1}) (r:=none) X J hp ht λb=>?_);obtain⟨cd,hc,hd'⟩:=PySem.W.any_some hh;have hx:s.heap.get? x=some ⟨.ref C,some dx,.plain,#[]⟩:=I.obj;refine wpAny_bind (wpAny_pure (wpAny_bind (wpAny_bind (wpAny_loadPart hx (wpAny_bind (PySem.W.Looks.here (s:={s with toks:=s.toks+1}) (PySem.W.looks_clsIn X hc) ?_))))));rw[hd'];refine wpAny_pure (a:=some dx) (wpAny_bind (wpAny_pure (wpAny_bind ?_)));refine wpAny_nsSet1 (s:={s with toks:=s.toks+1}) I.ns λh' hn2 hs2=>?_;obtain⟨oD,esD,epD,hoD,hdD,hcD⟩:=hn2.count (PySem.Within.cons name v hw);refine wpAny_bind (wpAny_lookBehind hoD (by rw[hdD];exact pastItsLine_dict (Ko hcD (by rw[Kv];omega))) ?_);exact wpAny_pure (h _ ⟨(hs2.2 _ (KG I.ne)).trans I.obj,hn2,I.ne⟩ hs2)
theorem xT{R:Result→Shared→Prop}{vs:List Value}{kw:List (Str×Value)}(X:K.In s.heap)(hm:PySem.W.makesIn K C=true)
    (hi:PySem.W.findIn K (.ref C) "__init__" = some (some (.ref f))) (hf:PySem.W.typeIn K (.ref f)=some (.type "function"))
    (h:codeAny (model prog w) (A.under (.builtin "type.__call__" ⟨.ref C::vs,kw⟩)) (.call (.ref f) ⟨.ref (s.heap.objs.size+1)::vs,kw⟩) (PySem.W.InitBack (s.heap.objs.size+1) R)
      {s with heap:=(s.heap.push PySem.W.emptyDict).push (PySem.W.instObj C s.heap.objs.size)}) :
    codeAny (model prog w) A (.call (.ref C) ⟨vs,kw⟩) R s:=by
  obtain⟨hh,g,d,t,os⟩:=s;exact PySem.W.make_core (PySem.W.makes_of X hm) (PySem.W.looks_findIn X hi) (λself=>PySem.W.bind_fn X self hf) (.inl rfl) h
end
def kO(f:Str)(v:V):List (Str×V)→List (Str×V)
  | []=>[(f,v)]
  | (g,x)::r=>if g=f then(g,v)::r else(g,x)::kO f v r
theorem kQ(f g:Str)(v:V):∀ fs:List (Str×V),(kO f v fs).lookup g=if g=f then some v else fs.lookup g
  | []=>by
    show List.lookup g [(f,v)]=_;by_cases h:g=f
    · have hb:(g == f)=true:=beq_iff_eq.mpr h
      simp only[List.lookup,hb,if_pos h]
    · have hb:(g == f)=false:=beq_eq_false_iff_ne.mpr h
      simp only[List.lookup,hb,if_neg h]
  | (k,x)::r=>by
    have ih:=kQ f g v r;rw[show kO f v ((k,x)::r)=(if k=f then(k,v)::r else(k,x)::kO f v r) from rfl];by_cases hk:k=f
    · rw[if_pos hk]
      by_cases h:g=k
      · have hb:(g == k)=true:=beq_iff_eq.mpr h
        simp only[List.lookup,hb,if_pos (h.trans hk)]
      · have hb:(g == k)=false:=beq_eq_false_iff_ne.mpr h
        simp only[List.lookup,hb,if_neg (λe:g=f=>h (e.trans hk.symm))]
    · rw[if_neg hk]
      by_cases h:g=k
      · have hb:(g == k)=true:=beq_iff_eq.mpr h
        simp only[List.lookup,hb,if_neg (λe:g=f=>hk (h.symm.trans e))]
      · have hb:(g == k)=false:=beq_eq_false_iff_ne.mpr h
        simp only[List.lookup,hb];exact ih
theorem kH(f:Str)(v:V):∀ fs:List (Str×V),f∈(kO f v fs).map (·.1)∧∀ g,g∈fs.map (·.1)→g∈(kO f v fs).map (·.1)
  | []=>⟨by simp[kO],λg h=>by simp at h⟩
  | (k,x)::r=>by
    obtain⟨i1,i2⟩:=kH f v r;rw[show kO f v ((k,x)::r)=(if k=f then(k,v)::r else(k,x)::kO f v r) from rfl];by_cases hk:k=f
    · rw[if_pos hk]
      subst hk;exact⟨by simp,λg h=>by simpa using h⟩
    · rw[if_neg hk]
      refine⟨?_,λg h=>?_⟩
      · rw[Kz]
        exact JT _ i1
      · rw[Kz]at h ⊢
        rcases Kc.mp h with e|e
        · exact Kc.mpr (.inl e)
        · exact JT _ (i2 g e)
theorem kR(f:Str)(v:V):∀ fs:List (Str×V),(kO f v fs).length≤fs.length+1
  | []=>by simp[kO]
  | (k,x)::r=>by
    have ih:=kR f v r;rw[show kO f v ((k,x)::r)=(if k=f then(k,v)::r else(k,x)::kO f v r) from rfl];by_cases hk:k=f
    · rw[if_pos hk,Kv,Kv];omega
    · rw[if_neg hk,Kv,Kv];omega
theorem kN.some_of{v:V}{o:Option Value}(r:kN (some v) o):∃ u,o=some u∧RelV v u:=by
  cases o with
  | none=>exact(show False from r).elim
  | some u=>exact⟨u,rfl,r⟩
theorem kN.none_of{o:Option Value}(r:kN none o):o=none:=by
  cases o with
  | none=>rfl
  | some u=>exact(show False from r).elim
theorem wA{v:V}{u:Value}(r:RelV v u):PySem.W.handedIn u=true:=by
  cases v with
  | non=>cases (show u=Value.none from r);rfl
  | bl b=>cases (show u=Value.bool b from r);rfl
  | int i=>obtain⟨t,e⟩:=(show ∃ t,u=Value.int i t from r);cases e;rfl
  | str x=>obtain⟨t,e⟩:=(show ∃ t,u=Value.str x t from r);cases e;rfl
  | byt b=>obtain⟨t,e⟩:=(show ∃ t,u=Value.bytes b t from r);cases e;rfl
  | flt b=>obtain⟨t,e⟩:=(show ∃ t,u=Value.float b t from r);cases e;rfl
  | ref a=>cases (show u=Value.ref a from r);rfl
  | ty n=>cases (show u=Value.type n from r);rfl
section
variable{P:Program}{w:World}{H H':Hp}{h h':Heap}{a C dx:Addr}{fs fs':List (Str×V)}
theorem mT(hok:HOk P w H h)(e:H a=some (.ins C dx fs)):∃ mA,xF h a dx C mA∧(∀ f,kN (fs.lookup f) (mA f))∧PySem.Within mA (fs.map (·.1))∧fs.length≤1000∧H dx=some (.own a):=by
  obtain⟨d,z,ne,ob,mA,n,r,q⟩:=(show cw P w H h a (.ins C dx fs) from hok a _ e);exact⟨mA,⟨ob,n,ne⟩,r,q,z,d⟩
end
structure Cls(K:W.Frag)(C:Addr):Prop where
  pg:PySem.W.plainGet K C Str.empty=true
  hd:PySem.W.hasDictIn K C=true
  po:PySem.W.plainOver K C=true
  sa:PySem.W.findIn K (.ref C) "__setattr__" = some (some (.builtin "object.__setattr__"))
theorem Cls.get{K:W.Frag}{C:Addr}(c:Cls K C)(f:Str):PySem.W.plainGet K C f=true:=c.pg
def j4(K:W.Frag)(C:Addr)(f:Str):Prop:=PySem.W.findIn K (.ref C) f=some none
theorem j4.Gy{K:W.Frag}{C:Addr}{f:Str}(n:j4 K C f):PySem.W.takerIn K C f=some none:=by
  unfold PySem.W.takerIn;rw[show PySem.W.findIn K (.ref C) f=some none from n];rfl
structure Meth(K:W.Frag)(C:Addr)(m:Str)(f:Addr):Prop where
  at_:PySem.W.findIn K (.ref C) m=some (some (.ref f))
  fn:PySem.W.isFn K (.ref f)=true
  kp:PySem.W.keepIn K (.ref f)=true
section
variable{X:Cx}{pins:List (Addr×Obj)}{σ:St}{H:Hp}{s:Shared}{a C dx:Addr}{fs:List (Str×V)}{f:Str}{v:V}{A:Around}{E:Value→Shared→Prop}
theorem tX{b:Bool}{Q:Value→Shared→Prop}(I:Inv X pins σ H s)(e:H a=some (.ins C dx fs))(c:Cls X.K C)(n:j4 X.K C f)(l:fs.lookup f=some v)
    (h:∀ u s',Inv X pins σ H s'→RelV v u→Q u s'):wpAny (model X.prog X.w) A (getAttr (.ref a) f b) Q E s:=by
  obtain⟨mA,O,r,_,_,_⟩:=mT I.hok e;obtain⟨u,hu,ru⟩:=kN.some_of (v:=v) (o:=mA f) (by rw[←l];exact r f);exact get_map I.kIn O (c.get f) c.hd n hu (wA ru) (h u _ (I.tok _) ru)
theorem mU{m:Str}{g:Addr}{pl:Sem Bool}{Q:Value×List Value→Shared→Prop}(I:Inv X pins σ H s)(e:H a=some (.ins C dx fs))(c:Cls X.K C)(k:Meth X.K C m g)(l:fs.lookup m=none)
    (h:Q (.ref g,[.ref a]) s):wpAny (model X.prog X.w) A (getMethod (.ref a) m pl) Q E s:=by
  obtain⟨mA,O,r,_,_,_⟩:=mT I.hok e;have hn:mA m=none:=kN.none_of (by rw[←l];exact r m);exact xS I.kIn O (c.get m) k.at_ k.fn hn h
theorem tY{y:V}{u:Value}{Q:Unit→Shared→Prop}(I:Inv X pins σ H s)(e:H a=some (.ins C dx fs))(c:Cls X.K C)(n:j4 X.K C f)(hl:fs.length<1000)(ry:RelV y u)
    (h:∀ s',Inv X pins σ (upd H a (.ins C dx (kO f y fs))) s'→Q () s'):wpAny (model X.prog X.w) A (setAttr (.ref a) f u) Q E s:=by
  obtain⟨mA,O,r,wi,_,ho⟩:=mT I.hok e;have hz:(fs.map (·.1)).length≤sizeLine:=by rw[JS,sizeLine_eq];omega
  refine zU I.kIn O c.sa c.po n.Gy c.hd wi hz λh' O' sb=>h _ ?_;have hd:∃ o,h'.get? dx=some o:=let ⟨o,_,_,e',_⟩:=O'.ns;⟨o,e'⟩;refine I.write (x:=a) (e:=dx) (by rw[e];exact True.intro) (.inr ho) (λb q hb z=>(sb.2 b hb).trans z) hd ?_;refine⟨by rw[aj O.ne];exact ho,?_,O.ne,O'.obj,_,O'.ns,λg=>?_,λg hg=>?_⟩
  · have:=kR f y fs;omega
  · show kN ((kO f y fs).lookup g) (if g=f then some u else mA g)
    rw[kQ];by_cases q:g=f
    · rw[if_pos q,if_pos q];exact ry
    · rw[if_neg q,if_neg q];exact r g
  · by_cases q:g=f
    · rw[q];exact(kH f y fs).1
    · refine(kH f y fs).2 g (wi g λz=>hg ?_)
      show(if g=f then some u else mA g)=none;rw[if_neg q];exact z
theorem Inv.made(I:Inv X pins σ H s):Inv X pins σ (upd (upd H s.heap.objs.size (.own (s.heap.objs.size+1))) (s.heap.objs.size+1) (.ins C s.heap.objs.size []))
    {s with heap:=(s.heap.push PySem.W.emptyDict).push (PySem.W.instObj C s.heap.objs.size)}:=by
  have e1:(s.heap.push PySem.W.emptyDict).get? s.heap.objs.size=some PySem.W.emptyDict:=Kk s.heap rfl;have e2:((s.heap.push PySem.W.emptyDict).push (PySem.W.instObj C s.heap.objs.size)).get? (s.heap.objs.size+1)=some (PySem.W.instObj C s.heap.objs.size):=by
    have:=Kk (s.heap.push PySem.W.emptyDict) (o:=PySem.W.instObj C s.heap.objs.size) rfl
    rwa[K8]at this
  have e3:(s.heap.push PySem.W.emptyDict).Ns s.heap.objs.size (λ_=>none):=⟨PySem.W.emptyDict,#[],_,e1,rfl,(λe he=>absurd he (by simp)),λ_=>rfl⟩;have I1:=I.laid (a:=s.heap.objs.size) (o:=.own (s.heap.objs.size+1)) (h':=s.heap.push PySem.W.emptyDict) (t':=s.toks) (λb u q=>JQ _ q) (JR _) ⟨_,e1⟩;refine I1.laid (a:=s.heap.objs.size+1) (o:=.ins C s.heap.objs.size []) (t':=s.toks) (λb u q=>JQ _ q) (Nat.le_of_eq (K8 _ _)) ?_;have ne:s.heap.objs.size≠s.heap.objs.size+1:=Kb (Nat.lt_succ_self _);refine⟨by rw[aj ne,ae],Kh _,ne,e2,λ_=>none,(Heap.Ns1.of_empty e3).at λo q=>JQ _ q,λ_=>True.intro,λy hy=>absurd rfl hy⟩
theorem zV{prog:Program}{w:World}{env:Env}{e:Expr}{f:Str}{pos:Pos}{s:Shared}{Q:Value→Shared→Prop}(hb:attributeBase e f env (eval e env)=eval e env)
    (h:wpAny (model prog w) A (eval e env) (λo s₁=>wpAny (model prog w) A (getAttr o f true) Q E s₁) E s):wpAny (model prog w) A (eval (.Attribute e f pos) env) Q E s :=
  Attribute_any_ h (by rw[arm_eval_Attribute,hb])
end
def IH(K:W.Frag)(ta:TE)(f:Str):TE:=λσ H Q=>ta σ H λx H1=>∃ a C dx fs v,x=.ref a∧H1 a=some (.ins C dx fs)∧Cls K C∧j4 K C f∧fs.lookup f=some v∧Q v H1
def II(K:W.Frag)(ta tv:TE)(f:Str):TS:=λD σ H=>tv σ H λy H1=>ta σ H1 λx H2=>∃ a C dx fs,x=.ref a∧H2 a=some (.ins C dx fs)∧Cls K C∧j4 K C f∧fs.length<1000 ∧
  D.nx σ (upd H2 a (.ins C dx (kO f y fs)))
section
variable{X:Cx}{o e value:Expr}{f:Str}{pos pos' IJ:Pos}{ta tv:TE}
theorem q8(he:PE X e ta)(hb:attributeBase e f X.env (eval e X.env)=eval e X.env):PE X (.Attribute e f pos) (IH X.K ta f):=by
  intro pins s σ H Q I h;refine zV hb (thn (he pins s σ H _ I h) λu s1 ⟨x,H1,I1,rx,a,C,dx,fs,v,ex,ea,c,n,l,q⟩=>?_);subst ex;obtain rfl:u=Value.ref a:=rx;exact tX I1 ea c n l λu' s2 I2 ru=>⟨v,H1,I2,ru,q⟩
theorem Dr(ha:PE X o ta)(hv:PE X value tv)(hs:swapsWith value (some (.Attribute o f pos')) pos.line X.env=pure false):PS X (.Assign [.Attribute o f pos'] value pos) (II X.K ta tv f):=by
  intro pins s σ H D I h;refine plainObj_wpAny_Assign_Attribute (thn (hv pins s σ H _ I h) λu s1 ⟨y,H1,I1,ry,q⟩=>thn (ha pins s1 σ H1 _ I1 q) λov s2 ⟨x,H2,I2,rx,a,C,dx,fs,ex,ea,c,n,l,q2⟩=>?_) hs;subst ex;obtain rfl:ov=Value.ref a:=rx;exact tY I2 ea c n l ry λs3 I3=>⟨σ,_,I3,q2⟩
end
section
variable{X:Cx}{pins:List (Addr×Obj)}{σ:St}{H:Hp}{s:Shared}{A:Around}{E:Value→Shared→Prop}{Q:Value→Shared→Prop}{c:Value}{b:Bool}
inductive oa(K:W.Frag)(H:Hp):V→Value→Prop where
  | non:oa K H .non (.type "NoneType")
  | bl (x:Bool):oa K H (.bl x) (.type "bool")
  | int (i:Int):oa K H (.int i) (.type "int")
  | str (x:Str):oa K H (.str x) (.type "str")
  | flt (x:UInt64):oa K H (.flt x) (.type "float")
  | lst {a:Addr} {xs:List V} (e:H a=some (.lst xs)):oa K H (.ref a) (.type "list")
  | frz {a:Addr} {o:Obj} {xs:List V} (e:H a=some (.frz o (.lst xs))):oa K H (.ref a) (.type "list")
  | tup {a:Addr} {xs:List V} (e:H a=some (.tup xs)):oa K H (.ref a) (.type "tuple")
  | dK {a:Addr} {kvs:List (Key×V)} (e:H a=some (.dK kvs)):oa K H (.ref a) (.type "dict")
  | dT {a:Addr} {kvs:List (List Key×V)} (e:H a=some (.dT kvs)):oa K H (.ref a) (.type "dict")
  | ins {a C dx:Addr} {fs:List (Str×V)} (e:H a=some (.ins C dx fs)) (cl:Cls K C) (ha:PySem.W.findIn K (.ref C) "__class__" = some (some (.builtin "object.__class__")))
      (hn:PySem.W.specialIn K (.builtin "object.__class__") "__get__" = some (some (.builtin "getset_descriptor.__get__"))) (htk:PySem.W.takesIn K (.builtin "object.__class__")=some true)
      (hm:PySem.W.mroIn K C (.type "object")=some true):oa K H (.ref a) (.ref C)
theorem wB{x:V}{u t:Value}(I:Inv X pins σ H s)(rx:RelV x u)(ty:oa X.K H x t)(e:PySem.W.kitOne X.K t c=some b)(h:∀ tk,Q (.bool b) {s with toks:=tk}) :
    wpAny (model X.prog X.w) A (call (.builtin "isinstance") [u,c]) Q E s:=by
  cases ty with
  | non=>cases (show u=Value.none from rx);exact PySem.W.kia_one PySem.W.kitx_none I.kIn True.intro e (λz=>nomatch z) h
  | bl y=>cases (show u=Value.bool y from rx);exact PySem.W.kia_one PySem.W.kitx_bool I.kIn True.intro e (λz=>nomatch z) h
  | int i=>obtain⟨t,q⟩:=(show ∃ t,u=Value.int i t from rx);cases q;exact PySem.W.kia_one PySem.W.kitx_int I.kIn True.intro e (λz=>nomatch z) h
  | str y=>obtain⟨t,q⟩:=(show ∃ t,u=Value.str y t from rx);cases q;exact PySem.W.kia_one PySem.W.kitx_str I.kIn True.intro e (λz=>nomatch z) h
  | flt y=>obtain⟨t,q⟩:=(show ∃ t,u=Value.float y t from rx);cases q;exact PySem.W.kia_one PySem.W.kitx_float I.kIn True.intro e (λz=>nomatch z) h
  | @lst a xs ea =>
    cases (show u=Value.ref a from rx);obtain⟨_,_,n,_,h1⟩:=(show cw X.prog X.w H s.heap a (.lst xs) from I.hok a _ ea);exact PySem.W.kia_one PySem.W.kitx_list I.kIn ⟨_,h1,rfl⟩ e (λz=>nomatch z) h
  | @frz a ob xs ea =>
    cases (show u=Value.ref a from rx);obtain⟨_,_,_,n,_,h1⟩:=(show cw X.prog X.w H s.heap a (.frz ob (.lst xs)) from I.hok a _ ea);exact PySem.W.kia_one PySem.W.kitx_list I.kIn ⟨_,h1,rfl⟩ e (λz=>nomatch z) h
  | @tup a xs ea =>
    cases (show u=Value.ref a from rx);obtain⟨_,_,_,p⟩:=(show cw X.prog X.w H s.heap a (.tup xs) from I.hok a _ ea);obtain⟨o,h1,h2,_⟩:=p;exact PySem.W.kia_one PySem.W.kitx_tuple I.kIn ⟨o,h1,h2⟩ e (λz=>nomatch z) h
  | @dK a kvs ea =>
    cases (show u=Value.ref a from rx);obtain⟨_,_,vs,_,p⟩:=(show cw X.prog X.w H s.heap a (.dK kvs) from I.hok a _ ea);obtain⟨o,es,ep,h1,h2,_⟩:=p;exact PySem.W.kia_one PySem.W.kitx_dict I.kIn ⟨o,h1,h2.1⟩ e (λz=>nomatch z) h
  | @dT a kvs ea =>
    cases (show u=Value.ref a from rx);obtain⟨_,_,xs,_,o,es,ep,h1,h2,_⟩:=(show cw X.prog X.w H s.heap a (.dT kvs) from I.hok a _ ea);exact PySem.W.kia_one PySem.W.kitx_dict I.kIn ⟨o,h1,h2.1⟩ e (λz=>nomatch z) h
  | @ins a C dx fs ea cl ha hn htk hm =>
    cases (show u=Value.ref a from rx);obtain⟨mA,O,_⟩:=mT I.hok ea;obtain⟨od,J,_⟩:=O.look;exact PySem.W.kia_one (PySem.W.kitx_own (cl.get _) cl.hd ha hn htk hm) I.kIn J e (λz=>nomatch z) h
end
end L2
namespace L2
open PySem PySem.Spec PyProof.Rows
structure f6(k:Nat)(A:Around):Prop where
  hd:A.handled=none
  dp:A.depth+3*k+5<recursionLimit
  un:A.units+16*k+200<cLine
theorem f6.mono{j k:Nat}{A:Around}(r:f6 k A)(h:j≤k):f6 j A:=⟨r.hd,by have:=r.dp;omega,by have:=r.un;omega⟩
theorem f6.deeper{k:Nat}{A:Around}(r:f6 (k+1) A)(env:Env):f6 k (A.deeper env) :=
  ⟨r.hd,by have:=r.dp;show A.depth+1+3*k+5<_;omega,by have:=r.un;show A.units+3+16*k+200<_;omega⟩
theorem tZ{A:Around}{C:Addr}{us:List Value}{kw:List (Str×Value)}:(A.under (.builtin "type.__call__" ⟨.ref C::us,kw⟩)).depth=A.depth+1:=by
  first|rfl|simp[Around.under,Code.weight,Code.isCreation,Code.isGuard,Code.isCaller,Code.frames,Code.isFrame,guardIds]
theorem t4{A:Around}{C:Addr}{us:List Value}{kw:List (Str×Value)}:(A.under (.builtin "type.__call__" ⟨.ref C::us,kw⟩)).units=A.units+1:=by
  first|rfl|simp[Around.under,Code.cUnits,Code.frames,Code.isFrame]
theorem f6.make{k:Nat}{A:Around}(r:f6 (k+1) A)(C:Addr)(us:List Value)(kw:List (Str×Value)):f6 k (A.under (.builtin "type.__call__" ⟨.ref C::us,kw⟩)) :=
  ⟨r.hd,by have:=r.dp;rw[tZ];omega,by have:=r.un;rw[t4];omega⟩
theorem f6.depth{k:Nat}{A:Around}(r:f6 k A):A.depth<recursionLimit:=by have:=r.dp;omega
theorem f6.units{k:Nat}{A:Around}(r:f6 k A):A.units+64<cLine:=by have:=r.un;omega
def zW:TA:=λ_ H Q=>Q [] H
def t8(ta:TE)(tr:TA):TA:=λσ H Q=>ta σ H λx H1=>tr σ H1 λxs H2=>Q (x::xs) H2
section
variable{X:Cx}{e:Expr}{es:List Expr}{te:TE}{t:TA}{pos:Pos}
theorem ah:PA X [] zW:=λ_ _ _ _ H Q I h=>Calls.spliced_nil ⟨[],H,I,.nil,h⟩
theorem aa(ha:PE X e te)(hr:PA X es t)(hs:starEach (e::es) X.env=(false,eval e X.env)::starEach es X.env:=by rfl):PA X (e::es) (t8 te t):=by
  intro pos pins s σ H Q I h;rw[hs];show wpAny _ _ (spliced ((false,eval e X.env)::backTo pos (starEach es X.env))) _ _ s;refine Calls.spliced_cons (thn (ha pins s σ H _ I h) λu s1 ⟨x,H1,I1,r1,q1⟩=>?_);exact thn (hr pos pins s1 σ H1 _ I1 q1) λus s2 ⟨xs,H2,I2,r2,q2⟩=>⟨x::xs,H2,I2,.cons r1 r2,q2⟩
def IK(t:TA):TE:=λσ H Q=>t σ H λxs H1=>xs.length≤sizeLine∧∀ p,H1 p=none→Q (.ref p) (upd H1 p (.tup xs))
def IL(t:TA):TE:=λσ H Q=>t σ H λxs H1=>xs.length≤sizeLine∧∀ p,H1 p=none→Q (.ref p) (upd H1 p (.lst xs))
theorem dz{x1}(h:PA X es t):PE X (.Tuple es x1 pos) (IK t):=by
  intro pins s σ H Q I hq;refine wpAny_Tuple_spliced (thn (h pos pins s σ H _ I hq) λus s1 ⟨xs,H1,I1,r,z,q⟩=>⟨by rw[←r.length];exact z,?_⟩);have hf:H1 s1.heap.objs.size=none:=I1.hok.fresh (JR _);refine⟨.ref s1.heap.objs.size,upd H1 s1.heap.objs.size (.tup xs),I1.laid (t':=s1.toks) (λb u e=>JQ _ e) (JR _) ?_,rfl,q _ hf⟩;exact⟨z,us,r,⟨_,Kk _ rfl,rfl,_,rfl⟩⟩
theorem dk(h:PA X es t):PE X (.List es pos) (IL t):=by
  intro pins s σ H Q I hq;refine wpAny_List_spliced (thn (h pos pins s σ H _ I hq) λus s1 ⟨xs,H1,I1,r,z,q⟩=>⟨by rw[←r.length];exact z,?_⟩);have hf:H1 s1.heap.objs.size=none:=I1.hok.fresh (JR _);refine⟨.ref s1.heap.objs.size,upd H1 s1.heap.objs.size (.lst xs),I1.laid (t':=s1.toks) (λb u e=>JQ _ e) (JR _) ?_,rfl,q _ hf⟩;exact⟨z,us,0,r,Kk _ rfl⟩
end
abbrev Sp:=List V→Hp→VK→XK→Prop
abbrev CXT:=List Env→Hp→Shared→XK→Value→Shared→Prop
structure xG(P:Program)(w:World)(K:W.Frag)(mg:Str→Option Value)(base:Heap)(A:Around)(outer:List Env)(s:Shared)(H:Hp):Prop where
  frames:A.frames=some outer
  mod:Mod K mg base
  bs:∀ b o,base.get? b=some o→s.heap.get? b=some o∧H b=none
  bsz:base.objs.size≤s.heap.objs.size
  lQ:s.heap.FunFrames base outer
  frf:∀ b∈frs outer,H b=none
  hok:HOk P w H s.heap
  bare:AllBare s.gens
def CE(outer:List Env)(P:Program)(w:World)(H:Hp)(s:Shared)(Q:VK)(u:Value)(s':Shared):Prop :=
  ∃ v H',s'.os=s.os∧AllBare s'.gens∧Un (frs outer) [] H H' s.heap s'.heap∧HOk P w H' s'.heap∧RelV v u∧Q v H'
def CR(CX:CXT)(outer:List Env)(P:Program)(w:World)(H:Hp)(s:Shared)(Q:VK)(E:XK)(r:Result)(s':Shared):Prop :=
  match r with
  | .ok (.ret u)=>CE outer P w H s Q u s'
  | .ok _=>False
  | .error e=>CX outer H s E e s'
structure kT(P:Program)(w:World)(K:W.Frag)(mg:Str→Option Value)(base:Heap)(CX:CXT)(k:Nat)(f:Addr)(fd:FuncData)(ps:List Str)(sp:Sp):Prop where
  len:∀ vs H Q E,sp vs H Q E→vs.length=ps.length
  run:∀(A:Around) (outer:List Env) (s:Shared) (H:Hp) (args:Args) (us:List Value) (vs:List V) (Q:VK) (E:XK),f6 k A→xG P w K mg base A outer s H→BindsTo s fd args (ps.zip us)→Vals vs us→sp vs H Q E →
    codeAny (model P w) A (.call (.ref f) args) (CR CX outer P w H s Q E) s
theorem xG.make{P:Program}{w:World}{K:W.Frag}{mg:Str→Option Value}{base:Heap}{A:Around}{outer:List Env}{s:Shared}{H:Hp}(e:xG P w K mg base A outer s H)(C:Addr)(us:List Value)(kw:List (Str×Value)) :
    xG P w K mg base (A.under (.builtin "type.__call__" ⟨.ref C::us,kw⟩)) outer s H:=⟨by first|exact e.frames|(simpa[Around.under,Code.envs,Code.isFrame,pushEnvs] using e.frames),e.mod,e.bs,e.bsz,e.lQ,e.frf,e.hok,e.bare⟩
section
variable{X:Cx}{pins:List (Addr×Obj)}{σ:St}{H:Hp}{s s':Shared}
theorem Inv.D4(I:Inv X pins σ H s):xG X.prog X.w X.K X.mg X.base X.A X.stack s H :=
  ⟨I.ok.frames,I.ok.mod,I.bs,Ko I.ok.bsz I.sz,I.stack,I.hZ,I.hok,I.bare⟩
theorem Inv.after{Q:VK}{u:Value}(I:Inv X pins σ H s)(h:CE X.stack X.prog X.w H s Q u s'):EP X pins σ Q u s':=by
  obtain⟨v,H',os,bare,un,hok,r,q⟩:=h;obtain⟨hh,g,d,t,os'⟩:=s';obtain rfl:os'=s.os:=os;exact⟨v,H',I.call (h':=hh) (g':=g) (d':=d) (t':=t) (ch:=[]) un hok bare (λb z=>absurd z (by simp)),r,q⟩
end
def Gz(C:Addr)(sp:Sp)(dvs:List V)(E:XK)(t:TA):TE:=λσ H Q=>t σ H λvs H1=>∀ x dx,H1 x=none→H1 dx=none→dx≠x →
  sp (.ref x::(vs++dvs)) (upd (upd H1 dx (.own x)) x (.ins C dx [])) (λv H2=>v=.non∧Q (.ref x) H2) E
def Binds(K:W.Frag)(fd:FuncData)(ps:List Str)(ds:List Value):Prop :=
  ∀(s:Shared) (us:List Value),K.In s.heap→(us++ds).length=ps.length→BindsTo s fd ⟨us,[]⟩ (ps.zip (us++ds))
theorem Binds.all{K:W.Frag}{fd:FuncData}{ps:List Str}(h:∀ us:List Value,us.length=ps.length→bindArgs fd ⟨us,[]⟩=pure (ps.zip us)):Binds K fd ps []:=λs us _ hl=>by
  rw[Lu]at hl ⊢;exact .of_eq (h us hl)
def Passes(CX:CXT)(X:Cx)(E:XK):Prop:=∀(pins:List (Addr×Obj)) (σ:St) (H:Hp) (s:Shared) (e:Value) (s':Shared),Inv X pins σ H s→CX X.stack H s E e s'→X.xe e s'
section
variable{X:Cx}{CX:CXT}{k:Nat}{f C:Addr}{fd:FuncData}{ps:List Str}{sp:Sp}{dvs:List V}{ds:List Value}{E:XK}{x m:Str}{p pos apos:Pos}{e o:Expr}{es:List Expr}{ta:TE}{t:TA}
structure Mk(K:W.Frag)(C f:Addr):Prop where
  makes:PySem.W.makesIn K C=true
  init:PySem.W.findIn K (.ref C) "__init__" = some (some (.ref f))
  fn:PySem.W.isFn K (.ref f)=true
  kp:PySem.W.keepIn K (.ref C)=true
theorem xU{pins:List (Addr×Obj)}{σ:St}{H:Hp}{s:Shared}{Q:VK}{us:List Value}{vs:List V}(M:Mk X.K C f)(F:kT X.prog X.w X.K X.mg X.base CX k f fd ps sp)(hr:f6 (k+1) X.A)(hb:Binds X.K fd ps ds)(hd:Vals dvs ds)
    (hx:Passes CX X E) (I:Inv X pins σ H s) (r:Vals vs us)
    (h:∀ x dx,H x=none→H dx=none→dx≠x→sp (.ref x::(vs++dvs)) (upd (upd H dx (.own x)) x (.ins C dx [])) (λv H2=>v=.non∧Q (.ref x) H2) E) :
    wpAny (model X.prog X.w) X.A (call (.ref C) us) (EP X pins σ Q) X.xe s:=by
  have hq:=h (s.heap.objs.size+1) s.heap.objs.size (I.hok.fresh (Lo _)) (I.hok.fresh (JR _)) (Kb (Nat.lt_succ_self _));have I2:=Inv.made (C:=C) I;have r2:Vals (V.ref (s.heap.objs.size+1)::(vs++dvs)) (Value.ref (s.heap.objs.size+1)::(us++ds)):=.cons rfl (r.append hd);have hl:(Value.ref (s.heap.objs.size+1)::us++ds).length=ps.length:=by
    have e:=r2.length;rw[F.len _ _ _ _ hq]at e;exact e.symm
  refine wpAny_call (xT (f:=f) I.kIn M.makes M.init (beq_iff_eq.mp M.fn) (codeAny_mono (F.run _ X.stack _ _ ⟨Value.ref (s.heap.objs.size+1)::us,[]⟩ (Value.ref (s.heap.objs.size+1)::(us++ds)) _ _ E (hr.make C us [])
    (I2.D4.make C us []) (hb _ (Value.ref (s.heap.objs.size+1)::us) I2.kIn hl) r2 hq) λr s' hq'=>?_))
  cases r with
  | error e=>exact hx pins σ _ _ e s' I2 hq'
  | ok fl =>
    cases fl with
    | ret u =>
      obtain⟨v,H',I3,rv,ev,q3⟩:=I2.after hq';subst ev;exact⟨rv,⟨V.ref (s.heap.objs.size+1),H',I3,rfl,q3⟩⟩
    | next=>exact False.elim hq'
    | brk=>exact False.elim hq'
    | cont=>exact False.elim hq'
theorem vA(M:Mk X.K C f)(F:kT X.prog X.w X.K X.mg X.base CX k f fd ps sp)(hr:f6 (k+1) X.A)(hg:Gl X x)(hm:X.mg x=some (.ref C))(hb:Binds X.K fd ps ds)(hd:Vals dvs ds)(hx:Passes CX X E)
    (ha:PA X (e::es) t) (hdb:(x == ("__debug__" : Str))=false:=by decide) (he:starEach (e::es) X.env=(false,eval e X.env)::starEach es X.env:=by rfl) (hpl:(backTo pos (starEach es X.env)).any (·.1)=false:=by rfl) :
    PE X (.Call (.Name x p) (e::es) [] pos) (Gz C sp dvs E t):=by
  intro pins s σ H Q I h;refine wpAny_Call_Name_kw (ky I hg hm ?_ hdb);refine PySem.W.callWith_K (h₀:=X.base) I.ok.mod.kin M.kp (thn (ha pos pins s σ H _ I h) λus s1 ⟨vs,H1,I1,r,q⟩=>⟨I1.kIn,?_⟩) he hpl;exact xU M F hr hb hd hx I1 r q
end
section
variable{X:Cx}{CX:CXT}{k:Nat}{f C:Addr}{fd:FuncData}{ps ks:List Str}{sp:Sp}{E:XK}{x m:Str}{p pos apos D5:Pos}{e o:Expr}{es:List Expr}{kws:List Keyword}{te ta:TE}{t tk:TA}{nm:Option Str}
variable{g:List Value→List Value→List Value}{gV:List V→List V→List V}
end
structure aK(N P:List Str)(sc:Scope):Prop where
  kind:sc.kind=.function
  co:sc.isCoroutine=false
  gen:sc.isGenerator=false
  nd:N.Nodup
  pre:N.take P.length=P
  par:∀ x∈P,sc.names.lookup x=some .local∨sc.names.lookup x=some .cell
  Ds:∀ y∈sc.names,y.2≠.free
theorem pO{kindOf:Str→Option NameKind}{x:Str}:∀ {binds:List (Str×Value)} {m:Str→Option Value},(∀ v,(x,v)∉binds)→bindL kindOf binds m x=m x
  | [],_,_=>rfl
  | (n,v)::r,m,h=>by
    unfold bindL;rw[pO λw hw=>h w (JT _ hw)];split
    · have:x≠n:=by rintro rfl;exact h v JW
      simp[this]
    · rfl
theorem pP{kindOf:Str→Option NameKind}{x:Str}:∀ {binds:List (Str×Value)} {m:Str→Option Value},(∀ v,(x,v)∉binds)→bindC kindOf binds m x=m x
  | [],_,_=>rfl
  | (n,v)::r,m,h=>by
    unfold bindC;rw[pP λw hw=>h w (JT _ hw)];split
    · rfl
    · have:x≠n:=by rintro rfl;exact h v JW
      simp[this]
theorem pQ{kindOf:Str→Option NameKind}{x:Str}{v:Value}:∀ {P:List Str} {vs:List Value} {i:Nat} {m:Str→Option Value},P.Nodup→P[i]?=some x→vs[i]?=some v→kindOf x=some .local →
    bindL kindOf (P.zip vs) m x=some v
  | [],_,_,_,_,h,_,_=>by simp at h
  | _::_,[],_,_,_,_,h,_=>by simp at h
  | p::P,w::vs,0,m,nd,h1,h2,hk=>by
    simp at h1 h2;subst h1;subst h2;show bindL kindOf ((p,w)::P.zip vs) m p=_;unfold bindL;rw[pO λv hv=>(K3.mp nd).1 (LH hv).1,if_pos hk];simp
  | p::P,w::vs,i+1,m,nd,h1,h2,hk=>by
    show bindL kindOf ((p,w)::P.zip vs) m x=_;unfold bindL;exact pQ (i:=i) (K3.mp nd).2 (by simpa using h1) (by simpa using h2) hk
theorem pR{kindOf:Str→Option NameKind}{x:Str}{v:Value}:∀ {P:List Str} {vs:List Value} {i:Nat} {m:Str→Option Value},P.Nodup→P[i]?=some x→vs[i]?=some v→kindOf x≠some .local →
    bindC kindOf (P.zip vs) m x=some v
  | [],_,_,_,_,h,_,_=>by simp at h
  | _::_,[],_,_,_,_,h,_=>by simp at h
  | p::P,w::vs,0,m,nd,h1,h2,hk=>by
    simp at h1 h2;subst h1;subst h2;show bindC kindOf ((p,w)::P.zip vs) m p=_;unfold bindC;rw[pP λv hv=>(K3.mp nd).1 (LH hv).1,if_neg hk];simp
  | p::P,w::vs,i+1,m,nd,h1,h2,hk=>by
    show bindC kindOf ((p,w)::P.zip vs) m x=_;unfold bindC;exact pR (i:=i) (K3.mp nd).2 (by simpa using h1) (by simpa using h2) hk
def start(N:List Str)(vs:List V):St:=vs.map some++List.replicate (N.length-vs.length) none
def yI(CX:CXT)(P:Program)(w:World)(K:W.Frag)(mg:Str→Option Value)(base:Heap)(N:List Str)(qual:Str)(scope:Scope)(f:Addr)(cd:Value)(A:Around)(outer:List Env)(s:Shared)(H:Hp)(E:XK):Cx where
  prog:=P
  w:=w
  K:=K
  mg:=mg
  base:=base
  A:=A.deeper (envOfC qual scope s.heap.objs.size f cd)
  N:=N
  s₀:=s
  H₀:=H
  env:=envOfC qual scope s.heap.objs.size f cd
  outer:=outer
  stack:=envOfC qual scope s.heap.objs.size f cd::outer
  ex:=[]
  calm:=true
  fn:=λ_=>true
  pn:=[]
  xe:=λe s'=>wpAny (model P w) (A.deeper (envOfC qual scope s.heap.objs.size f cd)) (leaving (envOfC qual scope s.heap.objs.size f cd) e) (λ_ s''=>CX outer H s E e s'') (λe' s''=>CX outer H s E e' s'') s'
theorem sY{sc:Scope}{n:Nat}{x:Str}(h:sc.names.lookup x=some .cell):∃ c,(cellsFrom n sc.names []).lookup x=some c:=by
  have q:=PySem.W.cellsFrom_some sc.names n [] (.inl h);exact Option.isSome_iff_exists.mp q
theorem wC{CX:CXT}{P:Program}{w:World}{K:W.Frag}{mg:Str→Option Value}{base:Heap}{N ps:List Str}{qual:Str}{scope:Scope}{f:Addr}{cd:Value}{A:Around}{outer:List Env}{s s1:Shared}{H:Hp}{E:XK}{us:List Value}{vs:List V}
    (S:aK N ps scope) (hd:A.handled=none) (e0:xG P w K mg base A outer s H) (hl:vs.length=ps.length) (r:Vals vs us)
    (x:InCallC s s.heap.objs.size (bindL (envOfC qual scope s.heap.objs.size f cd).kindOf (ps.zip us) λ_=>none) (cellsFrom (s.heap.objs.size+1) scope.names []) (bindC (envOfC qual scope s.heap.objs.size f cd).kindOf (ps.zip us) λ_=>none) s1) :
    Inv (yI CX P w K mg base N qual scope f cd A outer s H E) [] (start N vs) H s1:=by
  have hpl:ps.length≤N.length:=by have:=congrArg List.length S.pre;rw[Kf]at this;omega
  obtain⟨h1,tk,rfl,hk⟩:=x.done;have noA:∀ b:Addr,b∉(yI CX P w K mg base N qual scope f cd A outer s H E).ex:=λb z=>absurd (show b∈([]:List Addr) from z) (by simp);refine⟨⟨e0.mod,S.kind,rfl,rfl,JR _,λy z c h1 h2=>?_,λy hy=>?_,λy c _ h=>?_,λ_=>hd,Around.frames_deeper e0.frames,.inr ⟨rfl,rfl⟩,λb z=>absurd z (noA b),e0.bs,e0.bsz,λb _ _=>noA b,λb z=>absurd z (noA b),e0.lQ,e0.frf⟩,
    rfl,e0.bare,Un.kept hk,⟨_,x.toInCall.ns,λi y v h1 h2 h3=>?_⟩,λy c h=>⟨_,x.cell y c h⟩,e0.hok.fresh (JR _),λy c h=>?_,λp hp=>absurd (show p∈([]:List (Addr×Obj)) from hp) (by simp),e0.hok.kept hk,?_⟩
  · exact name_of_addr x.apart (Ks h1) (Ks h2)
  · have hy:scope.names.lookup y=some .cell∨scope.names.lookup y=some .free:=hy
    rcases hy with hy|hy
    · exact sY hy
    · exact absurd rfl (S.Ds _ (Ks hy))
  · exact Lx (x.above y c (Ks h))
  · have hi:i<vs.length:=by
      unfold start at h2;by_cases hi:i<vs.length
      · exact hi
      · rw[Ke (by simpa using hi)]at h2
        rw[List.getElem?_replicate]at h2;split at h2<;>cases h2
    have ha:vs[i]?=some v:=by
      unfold start at h2;rw[Kg (by simpa using hi),JZ]at h2;cases e:vs[i]? with
      | none=>rw[e]at h2;cases h2
      | some a=>rw[e]at h2;cases h2;rfl
    obtain⟨u,hu,rv⟩:=r.get ha;have hp:ps[i]?=some y:=by
      rw[←S.pre,List.getElem?_take_of_lt (by omega)];exact h1
    have ndP:ps.Nodup:=(by rw[←S.pre];exact S.nd.sublist (List.take_sublist _ _));refine⟨u,rv,?_⟩;rcases S.par y (J0 hp) with k|k
    · exact .inl ⟨k,pQ ndP hp hu k⟩
    · obtain⟨c,e⟩:=sY (n:=s.heap.objs.size+1) k
      refine .inr ⟨.inl k,c,e,?_⟩;have q:=x.cell y c e;rw[pR ndP hp hu (by show scope.names.lookup y≠_;rw[k];decide)]at q;exact q
  · exact e0.hok.fresh (Lx (x.above y c (Ks h)))
  · unfold start
    show _=N.length;rw[JU,JS,Ku];omega
theorem AZ{CX:CXT}{P:Program}{w:World}{K:W.Frag}{mg:Str→Option Value}{base:Heap}{k:Nat}{f:Addr}{name qual:Str}{params:Arguments}{body:List Stmt}{scope:Scope}{dV kV doc pm cdv ct oc:Value}{an od:Option Addr}
    {osl:Array (Option Value)} {N ps:List Str} {sp:Sp} (lk:K.lookup f=some ⟨oc,od,.func (PySem.W.fnOf name qual params body scope dV kV doc pm an cdv ct),osl⟩) (hcd:PySem.W.codeIn K cdv qual=true) (S:aK N ps scope)
    (len:∀ vs H Q E,sp vs H Q E→vs.length=ps.length)
    (ua:∀(A:Around) (outer:List Env) (s:Shared) (H:Hp) (vs:List V) (Q:VK) (E:XK),f6 k (A.deeper (envOfC qual scope s.heap.objs.size f cdv))→sp vs H Q E →
      ∃ t,PSs (yI CX P w K mg base N qual scope f cdv A outer s H E) body t∧t {nx:=λ_ H'=>Q .non H',rt:=Q} (start N vs) H) :
    kT P w K mg base CX (k+1) f (PySem.W.fnOf name qual params body scope dV kV doc pm an cdv ct) ps sp:=by
  refine⟨len,λA outer s H args us vs Q E hr e0 hb r hsp=>?_⟩;have hl:=len _ _ _ _ hsp;have KX:K.In s.heap:=e0.mod.kin.keeps λb o e=>(e0.bs b o e).1;have lim:s.heap.NoLimit:=e0.mod.nolimit.keeps λb o e=>(e0.bs b o e).1;have GA:∀ y∈ps.zip us,scope.names.lookup y.1=some .local∨(scope.names.lookup y.1=some .cell∧((cellsFrom (s.heap.objs.size+1) scope.names []).lookup y.1).isSome=true):=λ⟨n,v⟩ hy=>by
    rcases S.par n (LH hy).1 with q|q
    · exact .inl q
    · exact .inr ⟨q,PySem.W.cellsFrom_some _ _ _ (.inl q)⟩
  refine codeAny_call_function hr.depth (KX _ _ lk) rfl S.co S.gen rfl (PySem.W.codeRec_of KX hcd) (hb _ _ _ _ ?_);refine wpAny_newFunctionEnv_cells S.kind GA λenv he s1 x=>?_;subst he;refine⟨lim.keeps x.toInCall.keep,codeAny_func ?_⟩;obtain⟨t,ht,hq⟩:=ua A outer s H vs Q E (hr.deeper _) hsp;have I:Inv (yI CX P w K mg base N qual scope f cdv A outer s H E) [] (start N vs) H s1:=wC S hr.hd e0 hl r x;refine wpAny_mono (ht [] s1 (start N vs) H _ I hq) (λfl s' hs=>?_) λe s' hs=>hs;have fin:∀ {σ':St} {H':Hp} {v:V} {u:Value},Inv (yI CX P w K mg base N qual scope f cdv A outer s H E) [] σ' H' s'→RelV v u→Q v H'→CE outer P w H s Q u s' :=
    λ{σ' H' v u} J rv q=>⟨v,H',J.os,J.bare,J.base,J.hok,rv,q⟩
  cases fl with
  | ret u =>
    obtain⟨v,σ',H',J,rv,q⟩:=hs;exact fin J rv q
  | next =>
    obtain⟨σ',H',J,q⟩:=hs;exact fin (v:=V.non) (u:=Value.none) J rfl q
  | brk =>
    obtain⟨_,_,_,q⟩:=hs;exact False.elim q
  | cont =>
    obtain⟨_,_,_,q⟩:=hs;exact False.elim q
end L2
namespace L2
open PySem PySem.Spec PyProof.Rows
section
variable{X:Cx}{x:Str}{p pos:Pos}{e:Expr}{es:List Expr}{t:TA}{id T:String}{r:List V→Hp→VK→Prop}
def tCB(r:List V→Hp→VK→Prop)(t:TA):TE:=λσ H Q=>t σ H λvs H1=>r vs H1 Q
theorem aV(hc:je X (.builtin id) r)(hg:Gl X x)(hm:X.mg x=none)(hv:bootBuiltins x=some (.builtin id))(ha:PA X (e::es) t)(hn:x ≠ "__name__" := by decide)(hdb:(x == ("__debug__" : Str))=false:=by decide)
    (he:starEach (e::es) X.env=(false,eval e X.env)::starEach es X.env:=by rfl) (hpl:(backTo pos (starEach es X.env)).any (·.1)=false:=by rfl):PE X (.Call (.Name x p) (e::es) [] pos) (tCB r t):=by
  intro pins s σ H Q I h;refine wpAny_Call_Name_kw (j2 I hg hm hv ?_ hn hdb);exact PyProof.Rows.callWith_builtin1 (thn (ha pos pins s σ H _ I h) λus s1 ⟨vs,H1,I1,r1,q1⟩=>hc pins s1 σ H1 vs us Q I1 r1 q1) he hpl
theorem dP(hc:je X (.type T) r)(hg:Gl X x)(hm:X.mg x=none)(hv:bootBuiltins x=some (.type T))(ha:PA X (e::es) t)(hn:x ≠ "__name__" := by decide)(hdb:(x == ("__debug__" : Str))=false:=by decide)
    (he:starEach (e::es) X.env=(false,eval e X.env)::starEach es X.env:=by rfl) (hpl:(backTo pos (starEach es X.env)).any (·.1)=false:=by rfl):PE X (.Call (.Name x p) (e::es) [] pos) (tCB r t):=by
  intro pins s σ H Q I h;refine wpAny_Call_Name_kw (j2 I hg hm hv ?_ hn hdb);exact PyProof.Rows.callWith_type1 (thn (ha pos pins s σ H _ I h) λus s1 ⟨vs,H1,I1,r1,q1⟩=>hc pins s1 σ H1 vs us Q I1 r1 q1) he hpl
end
end L2
namespace HT
open PySem PyProof.Rows
section
open PySem.SeqAt
open PySem.AutoSeq1 (wpAny_loadPart')
open PySem.MeetsSeq PySem.MeetsSeq2 PySem.MeetsSeq3
end
section
variable{prog:Program}{w:World}{A:Around}{E:Value→Shared→Prop}{s:Shared}
def sIx(n d:Nat):Option Int→Nat
  | none=>d
  | some v=>if v<0 then(v+(n:Int)).toNat else min v.toNat n
theorem vB(n d k:Nat):sIx n d (some (k:Int))=min k n:=by
  show(if(k:Int)<0 then((k:Int)+(n:Int)).toNat else min (k:Int).toNat n)=min k n;rw[if_neg (by omega),Int.toNat_natCast]
end
end HT
namespace L2
open PySem PySem.Spec PyProof.Rows
abbrev TO:=St→Hp→(Option Int→Hp→Prop)→Prop
def PO(X:Cx)(e:Option Expr)(t:TO):Prop :=
  ∀(pins:List (Addr×Obj)) (s:Shared) (σ:St) (H:Hp) (Q:Option Int→Hp→Prop),Inv X pins σ H s→t σ H Q →
    wpAny (model X.prog X.w) X.A (evalPart e X.env) (λu s'=>∃ o H',Inv X pins σ H' s'∧IsPart u o∧Q o H') X.xe s
def zX:TO:=λ_ H Q=>Q none H
def GB(t:TE):TO:=λσ H Q=>t σ H λx H1=>∃ i,x=.int i∧Q (some i) H1
section
variable{X:Cx}{e:Expr}{te:TE}{lo hi:Option Expr}{tl th:TO}{pos p2:Pos}
theorem vC:PO X none zX:=by
  intro pins s σ H Q I h;rw[evalPart_none];exact wpAny_pure ⟨none,H,I,.none,h⟩
theorem jq(h:PE X e te):PO X (some e) (GB te):=by
  intro pins s σ H Q I hw;rw[evalPart_some];refine thn (h pins s σ H _ I hw) λu s1 ⟨x,H1,I1,r1,q1⟩=>?_;obtain⟨i,rfl,q⟩:=q1;obtain⟨t,rfl⟩:=r1;exact⟨some i,H1,I1,.int i t,q⟩
def SlR(X:Cx)(r:V→Option Int→Option Int→Hp→VK→Prop):Prop :=
  ∀(pins:List (Addr×Obj)) (s:Shared) (σ:St) (H:Hp) (x:V) (v vl vu:Value) (lo hi:Option Int) (sl:Addr) (Q:VK),Inv X pins σ H s→RelV x v→s.heap.IsSliceOf sl vl vu .none→IsPart vl lo→IsPart vu hi→r x lo hi H Q →
    ∃ T id,typeLookup (.type T) "__getitem__" = pure (some (.builtin id))∧s.TypeIs v T∧wpAny (model X.prog X.w) X.A (getItem v (.ref sl)) (EP X pins σ Q) X.xe s
def tSl(r:V→Option Int→Option Int→Hp→VK→Prop)(te:TE)(tl th:TO):TE:=λσ H Q=>te σ H λx H1=>tl σ H1 λl H2=>th σ H2 λu H3=>r x l u H3 Q
theorem j7{r:V→Option Int→Option Int→Hp→VK→Prop}(hr:SlR X r)(he:PE X e te)(hl:PO X lo tl)(hu:PO X hi th):PE X (.Subscript e (.Slice lo hi none p2) pos) (tSl r te tl th):=by
  intro pins s σ H Q I h;refine Subscript_ (thn (he pins s σ H _ I h) λv s1 ⟨x,H1,I1,r1,q1⟩=>?_);refine wpAny_Slice (thn (hl pins s1 σ H1 _ I1 q1) λvl s2 ⟨l,H2,I2,pl,q2⟩=>thn (hu pins s2 σ H2 _ I2 q2) λvu s3 ⟨u,H3,I3,pu,q3⟩=>?_);rw[evalPart_none];refine wpAny_pure ?_;have I4:Inv X pins σ H3 {s3 with heap:=s3.heap.push {cls:=.type "slice",data:=.fields #[vl,vu,.none]}}:=I3.kept (t':=s3.toks) λb ob q=>JQ _ q;obtain⟨T,id,hT,ht,hg⟩:=hr pins {s3 with heap:=s3.heap.push {cls:=.type "slice",data:=.fields #[vl,vu,.none]}} σ H3 x v vl vu l u s3.heap.objs.size Q I4 r1 (Heap.IsSliceOf.new ..) pl pu q3;show wpAny (model X.prog X.w) X.A (subscriptTail e (.Slice lo hi none p2) v (.ref s3.heap.objs.size)) (EP X pins σ Q) X.xe {s3 with heap:=s3.heap.push {cls:=.type "slice",data:=.fields #[vl,vu,.none]}};exact tail_any (ops:=[.ref s3.heap.objs.size,v]) ht hT hg (by with_unfolding_all rfl)
def xI(xs:List V)(lo hi:Option Int):List V:=(xs.drop (HT.sIx xs.length 0 lo)).take (HT.sIx xs.length xs.length hi-HT.sIx xs.length 0 lo)
theorem rD(xs:List V)(lo hi:Option Int):(xI xs lo hi).length≤xs.length:=by
  unfold xI;rw[Kf,K0];omega
end
end L2
namespace L2
open PySem PySem.Spec PyProof.Rows
def ixN(n:Nat)(i:Int):Option Nat:=if 0≤i then(if i<n then some i.toNat else none) else if -(n:Int)≤i then some (i+n).toNat else none
def atI{α:Type}(xs:List α)(i:Int):Option α:=(ixN xs.length i).bind λj=>xs[j]?
theorem vD{n:Nat}{i:Int}{j:Nat}(h:ixN n i=some j):seqIndex? i n=some j∧j<n∧-(n:Int)≤i∧i<n:=by
  unfold ixN at h;by_cases h0:0≤i
  · rw[if_pos h0]at h
    by_cases h1:i<n
    · rw[if_pos h1]at h
      have e:i.toNat=j:=Kq h;exact⟨by rw[seqIndex_of h0 h1,e],by omega,by omega,h1⟩
    · rw[if_neg h1]at h;cases h
  · rw[if_neg h0]at h
    by_cases h1:-(n:Int)≤i
    · rw[if_pos h1]at h
      have e:(i+n).toNat=j:=Kq h;exact⟨by rw[seqIndex_neg (by omega) h1,e],by omega,h1,by omega⟩
    · rw[if_neg h1]at h;cases h
theorem vE{α:Type}{xs:List α}{i:Int}{v:α}(h:atI xs i=some v):∃ j,seqIndex? i xs.length=some j∧xs[j]?=some v∧j<xs.length∧-(xs.length:Int)≤i∧i<xs.length:=by
  unfold atI at h;cases e:ixN xs.length i with
  | none=>rw[e]at h;cases h
  | some j =>
    rw[e]at h;obtain⟨h1,h2,h3,h4⟩:=vD e;exact⟨j,h1,h,h2,h3,h4⟩
theorem vF{α:Type}{xs:List α}{j:Nat}{v:α}(h:xs[j]?=some v):atI xs (j:Int)=some v:=by
  have hj:j<xs.length:=(JN.mp h).1;have e:ixN xs.length (j:Int)=some j:=by
    unfold ixN;rw[if_pos (by omega),if_pos (by omega)];simp
  unfold atI;rw[e];exact h
def zY(b:Expr):Prop:=∀ o i,subscripted b false o i=operate [o,i] (getItem o i)
def IxR(X:Cx)(r:R2):Prop :=
  ∀(value slice:Expr) (pins:List (Addr×Obj)) (s:Shared) (σ:St) (H:Hp) (x y:V) (v u:Value) (Q:VK),Inv X pins σ H s→RelV x v→RelV y u→r x y H Q →
    subscripted slice false v u=operate [v,u] (getItem v u)→wpAny (model X.prog X.w) X.A (subscriptTail value slice v u) (EP X pins σ Q) X.xe s
def MtR(X:Cx)(id:String)(r:V→List V→Hp→VK→Prop):Prop :=
  ∀(pins:List (Addr×Obj)) (s:Shared) (σ:St) (H:Hp) (x:V) (xs:List V) (v:Value) (us:List Value) (Q:VK),Inv X pins σ H s→RelV x v→Vals xs us→r x xs H Q →
    wpAny (model X.prog X.w) X.A (call (.builtin id) (v::us)) (EP X pins σ Q) X.xe s
section
variable{X:Cx}{a b:Expr}{ta tb:TE}{pos:Pos}
theorem bI{r:R2}(hr:IxR X r)(ha:PE X a ta)(hb:PE X b tb)(hs:zY b):PE X (.Subscript a b pos) (tOp r ta tb):=by
  intro pins s σ H Q I h;exact Subscript_ (D2 ha hb I h λv u s2 x y H2 I2 rx ry q=>hr a b pins s2 σ H2 x y v u Q I2 rx ry q (hs _ _))
def A0(K:W.Frag):R2:=λx y H Q=>∃ p xs i v,x=.ref p∧y=.int i∧SqL K H p xs∧atI xs i=some v∧Q v H
def Hg(K:W.Frag):R2:=λx y H Q=>∃ p xs i v,x=.ref p∧y=.int i∧SqT K H p xs∧atI xs i=some v∧Q v H
theorem cg:IxR X (A0 X.K):=by
  intro value slice pins s σ H x y v u Q I rx ry h hs;obtain⟨p,xs,i,z,rfl,rfl,hq,he,q⟩:=h;cases rx;obtain⟨t,rfl⟩:=ry;obtain⟨its,r,pl,hz⟩:=I.list hq;obtain⟨j,h1,h2,h3,h4,h5⟩:=vE he;obtain⟨w,ew,rw'⟩:=r.get h2;have hl:=r.length;have hn:=qZ;have fin:EP X pins σ Q w s:=⟨z,H,I,rw',q⟩;by_cases h0:0≤i
  · have hj:i.toNat=j:=by
      rw[seqIndex_of h0 h5]at h1;exact Kq h1
    exact item_listR pl.isList h0 (by omega) (by rw[hj];simpa using ew) fin hs
  · have hj:(i+(its.toArray.size:Int)).toNat=j:=by
      rw[seqIndex_neg (by omega) h4]at h1;rw[JV,←hl];exact Kq h1
    exact subscriptTail_builtinR (x:=w) pl.isList.typeIs slot_list_getitem.lookup
      (wpAny_getItem_list_neg (Q:=λr s'=>r=w∧EP X pins σ Q r s') pl.isList (by omega) (by rw[JV]<;>omega) (by omega) (by rw[hj];simpa using ew) ⟨rfl,fin⟩) hs
theorem dm:IxR X (Hg X.K):=by
  intro value slice pins s σ H x y v u Q I rx ry h hs;obtain⟨p,xs,i,z,rfl,rfl,hq,he,q⟩:=h;cases rx;obtain⟨t,rfl⟩:=ry;obtain⟨its,r,pl,hz⟩:=I.tuple hq;obtain⟨j,h1,h2,h3,h4,h5⟩:=vE he;obtain⟨w,ew,rw'⟩:=r.get h2;have hl:=r.length;have hn:=qZ;have fin:EP X pins σ Q w s:=⟨z,H,I,rw',q⟩;exact subscriptTail_builtinR (x:=w) pl.typeIs slot_tuple_getitem.lookup
    (getItem_tuple (j:=j) (Q:=λr s'=>r=w∧EP X pins σ Q r s') pl (by omega) (by omega) (by rw[JV,←hl];exact h1) (by simpa using ew) ⟨rfl,fin⟩) hs
theorem uc(its:List Value)(n j:Nat)(u:Value):Obj.mapSeq (·.setIfInBounds j u) {cls:=.type "list",data:=.seq its.toArray n}={cls:=.type "list",data:=.seq (its.set j u).toArray n}:=by
  simp[Obj.mapSeq]
theorem Inv.lst{pins:List (Addr×Obj)}{σ:St}{H:Hp}{s:Shared}{p:Addr}{xs:List V}(I:Inv X pins σ H s)(h:H p=some (.lst xs)) :
    ∃(its:List Value) (n:Nat),Vals xs its∧s.heap.get? p=some {cls:=.type "list",data:=.seq its.toArray n}∧xs.length≤sizeLine:=by
  obtain⟨z,its,n,r,e⟩:=I.hok p _ h;exact⟨its,n,r,e,z⟩
theorem Inv.Dt{pins:List (Addr×Obj)}{σ:St}{H:Hp}{s:Shared}{p:Addr}{xs ys:List V}{its n4:List Value}{n n':Nat}{f:Obj→Obj}(I:Inv X pins σ H s)(h:H p=some (.lst xs))
    (ho:s.heap.get? p=some {cls:=.type "list",data:=.seq its.toArray n}) (hf:f {cls:=.type "list",data:=.seq its.toArray n}={cls:=.type "list",data:=.seq n4.toArray n'}) (r:Vals ys n4) (hz:ys.length≤sizeLine) (t:Nat) :
    Inv X pins σ (upd H p (.lst ys)) {s with heap:=s.heap.update p f,toks:=t}:=by
  have e:(s.heap.update p f).get? p=some {cls:=.type "list",data:=.seq n4.toArray n'}:=by
    rw[Heap.get?_update_self f ho (by rw[hf]<;>rfl),hf]
  refine I.write (x:=p) (e:=p) (by rw[h];trivial) (.inl rfl) (λb u hb q=>(Ky _ _ (KG hb)).trans q) ⟨_,e⟩ ?_;exact⟨hz,n4,n',r,e⟩
def GC:V→V→V→Hp→(Hp→Prop)→Prop:=λo i v H Q=>∃ p xs k j,o=.ref p∧i=.int k∧H p=some (.lst xs)∧ixN xs.length k=some j∧Q (upd H p (.lst (xs.set j v)))
theorem set_list:Hb X GC:=by
  intro pins s σ H o i v ov iv u Q I ro ri rv h;obtain⟨p,xs,k,j,rfl,rfl,hp,hj,q⟩:=h;cases ro;obtain⟨t,rfl⟩:=ri;obtain⟨its,n,r,ho,hz⟩:=I.lst hp;obtain⟨h1,h2,h3,h4⟩:=vD hj;have hl:=r.length;have hn:=qZ;have I':Inv X pins σ (upd H p (.lst (xs.set j v))) {s with heap:=s.heap.update p (Obj.mapSeq (·.setIfInBounds j u))} :=
    I.Dt hp ho (uc its n j u) (r.set rv j) (by rw[Kr];exact hz) s.toks
  by_cases h0:0≤k
  · have hk:k.toNat=j:=by
      rw[seqIndex_of h0 h4]at h1;exact Kq h1
    exact PySem.W.ki_setAt ho h0 (by omega) (by rw[JV,←hl];exact h4) (by rw[hk];exact⟨_,I',q⟩)
  · have hk:(k+(its.toArray.size:Int)).toNat=j:=by
      rw[seqIndex_neg (by omega) h3]at h1;rw[JV,←hl];exact Kq h1
    exact PySem.W.ki_setBack ho (by omega) (by rw[JV,←hl];exact h3) (by omega) (by rw[hk];exact⟨_,I',q⟩)
theorem qj(lo hi:Option Int)(n:Nat):(sliceBounds lo hi none n).1=((HT.sIx n 0 lo:Nat):Int)∧(sliceBounds lo hi none n).2.1=((HT.sIx n n hi:Nat):Int)∧(sliceBounds lo hi none n).2.2=1:=by
  refine⟨?_,?_,rfl⟩
  · cases lo with
    | none=>simp[sliceBounds,HT.sIx]
    | some i =>
      simp only[sliceBounds,HT.sIx,Option.getD_none,show(1:Int)>0 by decide,if_true];by_cases h:i<0
      · simp only[h,if_true]<;>omega
      · simp only[h,if_false]<;>omega
  · cases hi with
    | none=>simp[sliceBounds,HT.sIx]
    | some i =>
      simp only[sliceBounds,HT.sIx,Option.getD_none,show(1:Int)>0 by decide,if_true];by_cases h:i<0
      · simp only[h,if_true]<;>omega
      · simp only[h,if_false]<;>omega
theorem oe(its:List Value)(lo hi:Option Int):slicePick its.toArray lo hi none=((its.drop (HT.sIx its.length 0 lo)).take (HT.sIx its.length its.length hi-HT.sIx its.length 0 lo)).toArray:=by
  obtain⟨h1,h2,h3⟩:=qj lo hi its.toArray.size;unfold slicePick;rw[h1,h2,h3];simp only[sliceRange_one,pick_run,JV]<;>rfl
def IM(K:W.Frag):V→Option Int→Option Int→Hp→VK→Prop:=λx lo hi H Q=>∃ a xs,x=.ref a∧SqL K H a xs∧∀ p,H p=none→Q (.ref p) (upd H p (.lst (xI xs lo hi)))
theorem mV:SlR X (IM X.K):=by
  intro pins s σ H x v vl vu lo hi sl Q I rx hs pl pu h;obtain⟨a,xs,rfl,hx,q⟩:=h;cases rx;obtain⟨its,r,ht,hz⟩:=I.list hx;have hlen:=r.length;refine⟨"list",_,slot_list_getitem.lookup,ht.isList.typeIs,?_⟩;refine wpAny_getItem_list_slice ht.isList hs pl pu .none (by simp) ?_ (by rw[JV]<;>omega);rw[oe,←hlen];refine⟨.ref s.heap.objs.size,_,I.laid (t':=s.toks) (o:=.lst (xI xs lo hi)) (λb ob q=>JQ _ q) (JR _) ?_,rfl,q _ (I.hok.fresh (JR _))⟩;exact⟨Ko (rD xs lo hi) hz,_,0,(r.drop (HT.sIx xs.length 0 lo)).take (HT.sIx xs.length xs.length hi-HT.sIx xs.length 0 lo),Kk _ rfl⟩
def d3:V→Bool
  | .non=>true
  | .bl _=>true
  | .int _=>true
  | .str _=>true
  | _=>false
def eqV:V→V→Bool
  | .non,.non=>true
  | .bl a,.bl b=>a == b
  | .bl a,.int b=>(if a then 1 else 0) == b
  | .int a,.bl b=>a == (if b then 1 else 0)
  | .int a,.int b=>a == b
  | .str a,.str b=>a == b
  | _,_=>false
theorem q9{A:Around}{s:Shared}{y x:V}{u v:Value}(ry:RelV y u)(rx:RelV x v)(fy:d3 y=true)(fx:d3 x=true):SeqAt.EqAt A s u v (eqV y x):=by
  cases y with
  | non =>
    cases ry;cases x with
    | non=>cases rx;exact SeqAt.EqAt.same _
    | bl b=>cases rx;exact SeqAt.EqAt.none_bool b
    | int b=>obtain⟨t,rfl⟩:=rx;exact SeqAt.EqAt.none_int b t
    | str b=>obtain⟨t,rfl⟩:=rx;exact SeqAt.EqAt.none_str b t
    | _=>exact absurd (show false=true from fx) JX
  | bl a =>
    cases ry;cases x with
    | non=>cases rx;exact SeqAt.EqAt.bool_none a
    | bl b=>cases rx;exact SeqAt.EqAt.bool_bool a b
    | int b=>obtain⟨t,rfl⟩:=rx;exact SeqAt.EqAt.bool_int a b t
    | str b=>obtain⟨t,rfl⟩:=rx;exact SeqAt.EqAt.bool_str a b t
    | _=>exact absurd (show false=true from fx) JX
  | int a =>
    obtain⟨t',rfl⟩:=ry;cases x with
    | non=>cases rx;exact SeqAt.EqAt.int_none a t'
    | bl b=>cases rx;exact SeqAt.EqAt.int_bool a t' b
    | int b=>obtain⟨t,rfl⟩:=rx;exact SeqAt.EqAt.int_int a t' b t
    | str b=>obtain⟨t,rfl⟩:=rx;exact SeqAt.EqAt.int_str a t' b t
    | _=>exact absurd (show false=true from fx) JX
  | str a =>
    obtain⟨t',rfl⟩:=ry;cases x with
    | non=>cases rx;exact SeqAt.EqAt.str_none a t'
    | bl b=>cases rx;exact SeqAt.EqAt.str_bool a t' b
    | int b=>obtain⟨t,rfl⟩:=rx;exact SeqAt.EqAt.str_int a t' b t
    | str b=>obtain⟨t,rfl⟩:=rx;exact SeqAt.EqAt.str_str a t' b t
    | _=>exact absurd (show false=true from fx) JX
  | _=>exact absurd (show false=true from fy) JX
def eqU(x:V)(u:Value):Bool:=match u with
  | .none=>eqV .non x
  | .bool b=>eqV (.bl b) x
  | .int i _=>eqV (.int i) x
  | .str z _=>eqV (.str z) x
  | _=>false
theorem rb{x y:V}{u:Value}(r:RelV y u)(f:d3 y=true):eqU x u=eqV y x:=by
  cases y with
  | non=>cases r;rfl
  | bl b=>cases r;rfl
  | int i=>obtain⟨t,rfl⟩:=r;rfl
  | str z=>obtain⟨t,rfl⟩:=r;rfl
  | _=>exact absurd (show false=true from f) JX
theorem kz{x:V}:∀ {xs:List V} {us:List Value},Vals xs us→xs.all d3=true→us.any (eqU x)=xs.any λy=>eqV y x
  | _,_,.nil,_=>rfl
  | y::xs,u::us,.cons r t,f=>by
    rw[List.all_cons,Lh]at f;rw[Ll,Ll,rb r f.1,kz t f.2]
theorem gH{A:Around}{s:Shared}{x:V}{v:Value}(rx:RelV x v)(fx:d3 x=true):∀ {xs:List V} {us:List Value},Vals xs us→xs.all d3=true→∀ u∈us,SeqAt.EqAt A s u v (eqU x u)
  | _,_,.nil,_=>λu hu=>by cases hu
  | y::xs,u::us,.cons r t,f=>λu' hu=>by
    rw[List.all_cons,Lh]at f;rcases Kc.mp hu with rfl|hu
    · rw[rb r f.1];exact q9 r rx f.1 fx
    · exact gH rx fx t f.2 u' hu
def inV(x:V)(xs:List V):Bool:=xs.any λy=>eqV y x
def rIn(K:W.Frag)(neg:Bool):R2:=λx y H Q=>∃ p xs,y=.ref p∧(SqL K H p xs∨SqT K H p xs)∧d3 x=true∧xs.all d3=true∧Q (.bl (if neg then !inV x xs else inV x xs)) H
theorem pS:OpR X (compareOp .In) (rIn X.K false):=by
  intro pins s σ H x y v u Q I rx ry h;obtain⟨p,xs,rfl,hq,fx,fs,q⟩:=h;cases ry;rcases hq with hq|hq
  · obtain⟨its,r,pl,hz⟩:=I.list hq
    refine SeqAt.in_listAt (eqU x) pl.isList (λw hw=>gH rx fx r fs w (by simpa using hw)) ⟨.bl _,H,I,rfl,?_⟩;rw[show its.toArray.any (eqU x)=its.any (eqU x) by simp,kz r fs];exact q
  · obtain⟨its,r,pl,hz⟩:=I.tuple hq
    refine SeqAt.in_tupleAt (eqU x) pl (λw hw=>gH rx fx r fs w (by simpa using hw)) ⟨.bl _,H,I,rfl,?_⟩;rw[show its.toArray.any (eqU x)=its.any (eqU x) by simp,kz r fs];exact q
theorem iw:OpR X (compareOp .NotIn) (rIn X.K true):=by
  intro pins s σ H x y v u Q I rx ry h;obtain⟨p,xs,rfl,hq,fx,fs,q⟩:=h;cases ry;rcases hq with hq|hq
  · obtain⟨its,r,pl,hz⟩:=I.list hq
    refine SeqAt.notIn_listAt (eqU x) pl.isList (λw hw=>gH rx fx r fs w (by simpa using hw)) ⟨.bl _,H,I,rfl,?_⟩;rw[show its.toArray.any (eqU x)=its.any (eqU x) by simp,kz r fs];exact q
  · obtain⟨its,r,pl,hz⟩:=I.tuple hq
    refine SeqAt.notIn_tupleAt (eqU x) pl (λw hw=>gH rx fx r fs w (by simpa using hw)) ⟨.bl _,H,I,rfl,?_⟩;rw[show its.toArray.any (eqU x)=its.any (eqU x) by simp,kz r fs];exact q
theorem aL:je X (.builtin "len") (λxs H Q=>∃ p ys,xs=[.ref p]∧(SqL X.K H p ys∨SqT X.K H p ys)∧Q (.int ys.length) H):=by
  intro pins s σ H xs us Q I r h;obtain⟨p,ys,rfl,hq,q⟩:=h;obtain⟨u,rfl,rx⟩:=vals1 r;cases rx;have hn:=qZ;rcases hq with hq|hq
  · obtain⟨its,r',pl,hz⟩:=I.list hq
    have hlen:=r'.length;exact Calls.call_len_list pl.isList (by simp only[JV]<;>omega) ⟨.int ys.length,H,I.tok _,⟨s.toks+1,by rw[JV,hlen]⟩,q⟩
  · obtain⟨its,r',pl,hz⟩:=I.tuple hq
    have hlen:=r'.length;exact len_tuple pl (by simp only[JV]<;>omega) ⟨.int ys.length,H,I.tok _,⟨s.toks+1,by rw[JV,hlen]⟩,q⟩
theorem cV:je X (.type "list") (λxs H Q=>∃ p ys,xs=[.ref p]∧(SqL X.K H p ys∨SqT X.K H p ys)∧∀ l,H l=none→Q (.ref l) (upd H l (.lst ys))):=by
  intro pins s σ H xs us Q I r h;obtain⟨p,ys,rfl,hq,q⟩:=h;obtain⟨u,rfl,rx⟩:=vals1 r;cases rx;have fin:∀(its:List Value),Vals ys its→ys.length≤sizeLine→∀(h':Heap) (c':Nat),(∀ b o',s.heap.get? b=some o'→h'.get? b=some o') →
      h'.get? s.heap.objs.size=some {cls:=.type "list",dict:=none,data:=.seq its.toArray c',slots:=#[]}→EP X pins σ Q (.ref s.heap.objs.size) {s with heap:=h'}:=λits r' hz h' c' kp e =>
    ⟨.ref s.heap.objs.size,_,I.laid (t':=s.toks) kp (JR _) (show cw X.prog X.w _ h' _ (.lst ys) from⟨hz,its,c',r',e⟩),rfl,q _ (I.hok.fresh (JR _))⟩
  rcases hq with hq|hq
  · obtain⟨its,r',pl,hz⟩:=I.list hq
    have hlen:=r'.length;obtain⟨o,ho,hc,n,hd⟩:=pl.isList;exact call_list_seq p (.inl rfl) ho hc hd (λh' c' kp e=>fin its r' hz h' c' kp e) (by simp only[JV]<;>omega)
  · obtain⟨its,r',pl,hz⟩:=I.tuple hq
    have hlen:=r'.length;obtain⟨o,ho,hc,n,hd⟩:=pl;exact call_list_seq p (.inr rfl) ho hc hd (λh' c' kp e=>fin its r' hz h' c' kp e) (by simp only[JV]<;>omega)
def tyV(K:W.Frag)(T:String)(x:V)(H:Hp):Prop:=match x with
  | .str _=>T = "str"
  | .int _=>T = "int"
  | .ref p=>(T = "list" ∧ ∃ xs,SqL K H p xs)∨(T = "tuple" ∧ ∃ o,K.lookup p=some o∧o.cls=.type "tuple" ∧ o.dict=none) ∨
      (T = "dict" ∧ ((∃ kvs,H p=some (.dK kvs))∨∃ kvs,H p=some (.dT kvs)))∨(T = "set" ∧ ∃ S n,H p=some (.set S n))
  | _=>False
theorem yJ{pins:List (Addr×Obj)}{σ:St}{H:Hp}{s:Shared}{T:String}{x:V}{v:Value}(I:Inv X pins σ H s)(r:RelV x v)(ty:tyV X.K T x H) :
    s.TypeIs v T∧∀ a,v=.ref a→∃ ob,s.heap.get? a=some ob∧ob.dict=none:=by
  cases x with
  | str z =>
    obtain⟨t,rfl⟩:=r;cases (show T = "str" from ty);exact⟨typeIs_str s z t,λ_ e=>nomatch e⟩
  | int i =>
    obtain⟨t,rfl⟩:=r;cases (show T = "int" from ty);exact⟨typeIs_int s i t,λ_ e=>nomatch e⟩
  | ref p =>
    cases r;rcases ty with⟨rfl,xs,hq⟩|⟨rfl,o,hk,hc,hd⟩|⟨rfl,hk⟩|⟨rfl,S,n,hk⟩
    · obtain⟨its,_,pl,_⟩:=I.list hq
      refine⟨pl.isList.typeIs,λa e=>?_⟩;cases e;obtain⟨o,n,e,c,hd,_⟩:=pl;exact⟨o,e,hd⟩
    · refine⟨⟨o,I.kIn p o hk,hc⟩,λa e=>?_⟩
      cases e;exact⟨o,I.kIn _ o hk,hd⟩
    · have z:∃ o,s.heap.get? p=some o∧o.ExactDict:=by
        rcases hk with⟨kvs,hk⟩|⟨kvs,hk⟩
        · obtain⟨_,_,_,_,o,_,_,e,ex,_⟩:=I.hok p _ hk
          exact⟨o,e,ex⟩
        · obtain⟨_,_,_,_,o,_,_,e,ex,_⟩:=I.hok p _ hk
          exact⟨o,e,ex⟩
      obtain⟨o,e,ex⟩:=z;refine⟨⟨o,e,ex.1⟩,λa e2=>?_⟩;cases e2;exact⟨o,e,ex.2.1⟩
    · obtain⟨o,_,_,_,e,ex,_⟩:=I.hok p _ hk
      refine⟨⟨o,e,ex.1⟩,λa e2=>?_⟩;cases e2;exact⟨o,e,ex.2.1⟩
  | _=>exact False.elim ty
def IP(K:W.Frag)(T:String)(r:V→List V→Hp→VK→Prop)(to:TE):TE:=λσ H Q=>to σ H λx H1=>tyV K T x H1∧r x [] H1 Q
def tBM(K:W.Frag)(T:String)(r:V→List V→Hp→VK→Prop)(to:TE)(t:TA):TE:=λσ H Q=>to σ H λx H1=>tyV K T x H1∧t σ H1 λxs H2=>r x xs H2 Q
variable{o e:Expr}{es:List Expr}{to:TE}{t:TA}{name:Str}{apos sZ:Pos}{T id:String}{r:V→List V→Hp→VK→Prop}
theorem Du(pa:PlainAttrs T)(slot:Slot T name id)(hty:typeOf (.builtin id)=pure (.type "method_descriptor"))(hm:MtR X id r)(ho:PE X o to)
    (zy:attributeBase o name X.env (eval o X.env)=eval o X.env:=by rfl) (zA:(apos.endLine == sZ.line)=true:=by rfl):PE X (.Call (.Attribute o name apos) [] [] sZ) (IP X.K T r to):=by
  intro pins s σ H Q I h;refine wpAny_Call_method0_late zy zA (thn (ho pins s σ H _ I h) λv s1 ⟨x,H1,I1,r1,ty,q1⟩=>?_);obtain⟨h1,h2⟩:=yJ I1 r1 ty;exact⟨T,id,pa,slot,hty,h1,h2,Calls.callWith_builtin rfl (PySem.evalArgs_none (hm pins s1 σ H1 x [] v [] Q I1 r1 .nil q1))⟩
theorem mW(pa:PlainAttrs T)(slot:Slot T name id)(hty:typeOf (.builtin id)=pure (.type "method_descriptor"))(hm:MtR X id r)(ho:PE X o to)(ha:PA X (e::es) t)
    (zy:attributeBase o name X.env (eval o X.env)=eval o X.env:=by rfl)
    (IQ:((backTo sZ (starEach (e::es) X.env)).all (λx=>!x.1)&&(backToKw sZ (keywordEach [] X.env)).all (λx=>x.1.isSome)
      && decide ((e::es).length+([]:List Keyword).length+(if([]:List Keyword).isEmpty then 0 else 1)<30))=true:=by rfl)
    (zA:(apos.endLine == sZ.line)=true:=by rfl) (hs:starEach (e::es) X.env=(false,eval e X.env)::starEach es X.env:=by rfl) (Dv:(backTo sZ (starEach es X.env)).any (·.1)=false:=by rfl) :
    PE X (.Call (.Attribute o name apos) (e::es) [] sZ) (tBM X.K T r to t):=by
  intro pins s σ H Q I h;refine wpAny_Call_method_late zy IQ zA rfl (thn (ho pins s σ H _ I h) λv s1 ⟨x,H1,I1,r1,ty,q1⟩=>?_);obtain⟨h1,h2⟩:=yJ I1 r1 ty;refine⟨T,id,pa,slot,hty,h1,h2,?_⟩;have hA:=ha sZ pins s1 σ H1 _ I1 q1;rw[hs]at hA ⊢;refine Calls.callWith_builtin (by show(false||(backTo sZ (starEach es X.env)).any (·.1))=false;rw[Dv]<;>rfl) (Calls.evalArgs_plain ?_);exact thn hA λus s2 ⟨vs,H2,I2,r2,q2⟩=>hm pins s2 σ H2 x vs v us Q I2 r1 r2 q2
end
end L2
namespace L2
open PySem PySem.Spec PyProof.Rows
def MtM(X:Cx)(id:String)(r:V→List V→Hp→VK→Prop):Prop :=
  ∀(pins:List (Addr×Obj)) (s:Shared) (σ:St) (H:Hp) (x:V) (xs:List V) (v:Value) (us:List Value) (Q:VK),Inv X pins σ H s→RelV x v→Vals xs us→r x xs H Q →
    wpAny (model X.prog X.w) X.A (call (.builtin id) (v::us)) (EP X pins σ Q) X.xe s
theorem Vals.one:∀ {x:V} {us:List Value},Vals [x] us→∃ u,us=[u]∧RelV x u
  | _,_,.cons r .nil=>⟨_,rfl,r⟩
theorem Vals.zero:∀ {us:List Value},Vals [] us→us=[]
  | _,.nil=>rfl
theorem Vals.dropLast{xs:List V}{us:List Value}(h:Vals xs us):Vals xs.dropLast us.dropLast:=by
  induction h with
  | nil=>exact .nil
  | cons r t ih =>
    cases t with
    | nil=>exact .nil
    | cons q t'=>exact .cons r ih
theorem Vals.rep{xs:List V}{us:List Value}(h:Vals xs us):∀ k:Nat,Vals (List.replicate k xs).flatten (List.replicate k us).flatten
  | 0=>.nil
  | k+1=>by
    rw[KP,KP,Ld,Ld];exact Vals.append h (Vals.rep h k)
theorem ud{α:Type}(l:List α):l.eraseIdx (l.length-1)=l.dropLast:=by
  induction l with
  | nil=>rfl
  | cons a r ih =>
    cases r with
    | nil=>rfl
    | cons b r =>
      have e:(a::b::r).length-1=((b::r).length-1)+1:=by
        have h1:(a::b::r).length=r.length+2:=rfl;have h2:(b::r).length=r.length+1:=rfl;omega
      rw[e,List.eraseIdx_cons_succ,ih]
      all_goals rfl
theorem foldl_rep(its:List Value):∀(k:Nat) (acc:List Value),
    List.foldl (λx1 x2=>x1++x2) acc.toArray (List.replicate k its.toArray)=(acc++(List.replicate k its).flatten).toArray
  | 0,acc=>by simp
  | k+1,acc=>by
    have e:acc.toArray++its.toArray=(acc++its).toArray:=(by simp);have e2:(acc++its)++(List.replicate k its).flatten=acc++(List.replicate (k+1) its).flatten:=by
      rw[KP,Ld,Ly]
    rw[←e2,←foldl_rep its k (acc++its),←e,KP,List.foldl_cons]
section
variable{X:Cx}{pins:List (Addr×Obj)}{σ:St}{H:Hp}{s:Shared}{l b:Addr}{xs ys zs:List V}
theorem Inv.D6{its n4:List Value}{n:Nat}{f:Array Value→Array Value}{t':Nat}(I:Inv X pins σ H s)(hH:H l=some (.lst xs))
    (e:s.heap.get? l=some {cls:=.type "list",data:=.seq its.toArray n}) (hf:f its.toArray=n4.toArray) (hv:Vals ys n4) (hz:ys.length≤sizeLine) :
    Inv X pins σ (upd H l (.lst ys)) {s with heap:=s.heap.update l (Obj.mapSeq f),toks:=t'}:=by
  have q:=PySem.IsL.update e f;rw[hf]at q;refine I.write (x:=l) (e:=l) (by rw[hH];exact trivial) (.inl rfl) (λb' u hb hu=>(Ky s.heap (Obj.mapSeq f) (KG hb)).trans hu) ⟨_,q⟩ ?_;exact⟨hz,n4,_,hv,q⟩
theorem Inv.yK{its:List Value}{t':Nat}(I:Inv X pins σ H s)(hv:Vals ys its)(hz:ys.length≤sizeLine) :
    Inv X pins σ (upd H s.heap.objs.size (.lst ys)) {s with heap:=s.heap.push {cls:=.type "list",data:=.seq its.toArray},toks:=t'} :=
  I.laid (λ_ _ q=>JQ _ q) (JR _) ⟨hz,its,0,hv,Kk _ rfl⟩
theorem Inv.fresh(I:Inv X pins σ H s):H s.heap.objs.size=none:=I.hok.fresh (JR _)
theorem Inv.zZ(I:Inv X pins σ H s)(hH:H l=some (.lst xs)):xs.length≤sizeLine∧∃(its:List Value) (n:Nat),Vals xs its∧xs.length=its.length∧s.heap.get? l=some {cls:=.type "list",data:=.seq its.toArray n}:=by
  obtain⟨z,its,n,r,e⟩:=I.hok l _ hH;exact⟨z,its,n,r,r.length,e⟩
theorem tj{n:Nat}(h:n≤sizeLine):Builtin.List.listTooLong n=false:=by
  unfold Builtin.List.listTooLong;exact decide_eq_false (by omega)
end
section
variable{X:Cx}
def z8:V→List V→Hp→VK→Prop:=λx vs H Q=>∃ l xs y,x=.ref l∧vs=[y]∧H l=some (.lst xs)∧xs.length<sizeLine∧Q .non (upd H l (.lst (xs++[y])))
theorem gu:MtM X "list.append" z8:=by
  intro pins s σ H x vs v us Q I rx rv h;obtain⟨l,xs,y,rfl,rfl,hH,hz,q⟩:=h;cases rx;obtain⟨u,rfl,ru⟩:=rv.one;obtain⟨z,its,n,r,hl,e⟩:=I.zZ hH;refine call_meets F.slot_list_append ⟨_,e,rfl⟩ F.entry_list_append (F.args_list_append_2 _ _) (PySem.list_append l its.toArray n u (by rw[JV];omega)) ⟨e,?_⟩;refine⟨.non,_,I.D6 (n4:=its++[u]) hH e (by simp) (r.append (.cons ru .nil)) ?_,rfl,q⟩;rw[JU,Kt];omega
def Aa:V→List V→Hp→VK→Prop:=λx vs H Q=>∃ l b xs zs,x=.ref l∧vs=[.ref b]∧H l=some (.lst xs)∧H b=some (.lst zs)∧xs.length+zs.length≤sizeLine∧Q .non (upd H l (.lst (xs++zs)))
theorem wD:MtM X "list.extend" Aa:=by
  intro pins s σ H x vs v us Q I rx rv h;obtain⟨l,b,xs,zs,rfl,rfl,hH,hB,hz,q⟩:=h;cases rx;obtain⟨u,rfl,ru⟩:=rv.one;cases ru;obtain⟨z,its,n,r,hl,e⟩:=I.zZ hH;obtain⟨z2,A1,n2,r2,hl2,e2⟩:=I.zZ hB;have hsz:its.toArray.size+A1.toArray.size≤sizeLine:=by rw[JV,JV];omega
  have zB:¬(!its.toArray.isEmpty&&Builtin.List.listTooLong (its.toArray.size+A1.toArray.size))=true:=by
    rw[tj hsz,K9];exact JX
  refine call_meets F.slot_list_extend ⟨_,e,rfl⟩ F.entry_list_extend (F.args_list_extend_2 _ _)
    (AutoSeq1.list_extend_list_list_0 l its.toArray n b A1.toArray n2 zB (by rw[JV];omega) (by omega)) ⟨e,e2,?_⟩
  refine⟨.non,_,I.D6 (n4:=its++A1) hH e (by simp) (r.append r2) ?_,rfl,q⟩;rw[JU];omega
def IS:V→List V→Hp→VK→Prop:=λx vs H Q=>∃ l xs y,x=.ref l∧vs=[]∧H l=some (.lst xs)∧xs[xs.length-1]?=some y∧Q y (upd H l (.lst xs.dropLast))
theorem Dw:MtM X "list.pop" IS:=by
  intro pins s σ H x vs v us Q I rx rv h;obtain⟨l,xs,y,rfl,rfl,hH,hy,q⟩:=h;cases rx;have hus:=rv.zero;subst hus;obtain⟨z,its,n,r,hl,e⟩:=I.zZ hH;obtain⟨u,hu,ru⟩:=r.get hy;have hy':its.toArray[its.toArray.size-1]?=some u:=by
    show its.toArray[its.length-1]?=some u;rw[←Array.getElem?_toList,←hl];exact hu
  refine call_meets F.slot_list_pop ⟨_,e,rfl⟩ F.entry_list_pop (F.args_list_pop_1 _) (MeetsSeq.list_pop_last l its.toArray n u hy' (by rw[JV];omega)) ⟨e,?_⟩;refine⟨y,_,I.D6 (n4:=its.dropLast) hH e ?_ r.dropLast ?_,ru,q⟩
  · show its.toArray.eraseIdxIfInBounds (its.toArray.size-1)=its.dropLast.toArray
    rw[JV,List.eraseIdxIfInBounds_toArray,ud]
  · rw[List.length_dropLast]
    omega
def IT:R2:=λx y H Q=>∃ l k xs,x=.ref l∧y=.int k∧H l=some (.lst xs)∧-(2 ^ 63)≤k∧k<2 ^ 63∧xs.length*k.toNat≤sizeLine ∧
  ∀ p,H p=none→Q (.ref p) (upd H p (.lst (List.replicate k.toNat xs).flatten))
theorem len_rep{α:Type}(xs:List α)(k:Nat):(List.replicate k xs).flatten.length=k*xs.length:=by
  induction k with
  | zero=>simp
  | succ k ih=>rw[KP,Ld,JU,ih,Nat.succ_mul,Nat.add_comm]
theorem Dx:OpR X (binaryOp .Mult) IT:=by
  intro pins s σ H x y v u Q I rx ry h;obtain⟨l,k,xs,rfl,rfl,hH,h1,h2,hz,q⟩:=h;cases rx;obtain⟨t,rfl⟩:=ry;obtain⟨z,its,n,r,hl,e⟩:=I.zZ hH;have hlen:its.toArray.size*k.toNat≤sizeLine:=by rw[JV,←hl];exact hz
  have IU:¬its.toArray.size*k.toNat>(2 ^ 63-1)/8:=by
    have:(sizeLine:Nat)≤(2 ^ 63-1)/8:=by decide
    omega
  have IV:¬(!Builtin.List.listFitsIndex k)=true:=by
    rw[fitsIndex_both h1 h2];exact JX
  have zB:¬Builtin.List.listTooLong (its.toArray.size*k.toNat)=true:=by
    rw[tj hlen];exact JX
  have IW:List.foldl (λx1 x2=>x1++x2) #[] (List.replicate (if its.toArray.isEmpty=true then 0 else k.toNat) its.toArray)=(List.replicate k.toNat its).flatten.toArray:=by
    have f0:∀ m:Nat,List.foldl (λx1 x2=>x1++x2) #[] (List.replicate m its.toArray)=(List.replicate m its).flatten.toArray:=λm=>by
      have:=foldl_rep its m []
      rw[List.nil_append]at this;exact this
    rw[f0];cases its with
    | nil=>simp
    | cons a r'=>rw[if_neg (by simp)]
  refine wpAny_binaryOp_repeat_ref (T := "list") (U := "int") (by decide) ⟨_,e,rfl⟩ (λs'=>typeIs_int s' k t) noFill_list_mul F.fills_int_mul F.slot_int_rmul repeat_list F.slot_int_index.lookup
    (call_meets F.slot_int_rmul (typeIs_int s k t) F.entry_int_rmul (F.args_int_rmul_2 _ _) (int___rmul___int_list k t l its.toArray n)
      ⟨e,rfl,⟨_,e,rfl⟩,call_meets F.slot_list_mul ⟨_,e,rfl⟩ F.entry_list_mul (F.args_list_mul_2 _ _) (AutoListH.list___mul___list_int_3 l its.toArray n k t IV IU zB) ⟨e,?_⟩⟩)
  rw[IW];exact⟨.ref _,_,I.yK (t':=s.toks) (r.rep k.toNat) (by rw[len_rep,Nat.mul_comm];exact hz),rfl,q _ I.fresh⟩
end
section
variable{prog:Program}{w:World}{A:Around}{E:Value→Shared→Prop}{s:Shared}
end
section
variable{X:Cx}
end
end L2
namespace Att
open PySem PySem.W PySem.Calls PyProof.Rows
theorem k9{P:Params}{h:Heap}:∀(ns:List Int) (vs:List Value),WellAll P h vs (ns.map WData.int)→IntsAre vs ns:=by
  intro ns;induction ns with
  | nil =>
    intro vs w;rw[List.map_nil]at w;cases w;exact .nil
  | cons n ns ih =>
    intro vs w;rw[Kz]at w;cases w with
    | cons a b =>
      cases a;exact .cons _ _ (ih _ b)
theorem wF{l:OpenLaw}{n:Nat}(hn:l.most=some n){P:Params}{h:Heap}{args:List WData}{vals:List Value}
    (A2:l.row.toRowW.claim.pre args=true) (hwl:WellAll P h vals args) :
    ∃ a vs ns,vals=[Value.ref a]∧args=[WData.list (ns.map WData.int)]∧h.get? a=some {cls:=.type "list",data:=.seq vs.toArray}∧IntsAre vs ns∧ns.length≤n:=by
  have hsh:WShape.hasAll [] args [.list .int]=true:=(pre_splitW A2).1;have hc:l.pre.holds [] {args:=args}=true:=(pre_splitW A2).2;obtain⟨d,r,rfl,h1,h2⟩:=hasAllW_cons hsh;obtain rfl:=hasAllW_nil h2;obtain⟨xs,rfl,h3⟩:=hasW_list h1;obtain⟨ns,rfl⟩:=items_int h3;have hlen:ns.length≤n:=by
    unfold OpenLaw.pre at hc;have h4:(WTm.not (.lt (.lit (.int (n:Int))) (.len (.arg 0)))).holds [] {args:=[.list (ns.map .int)]}=true:=by
      have h4:=(holds_andW hc).1;rw[hn]at h4;exact h4
    have h5:=condW_of h4 (w_not (w_lt w_lit (w_len_list (w_arg rfl))));rw[JS]at h5;refine Nat.le_of_not_lt λq=>?_;have q':(n:Int)<((ns.length:Nat):Int):=by omega
    first
      | (rw[decide_eq_true q']at h5;exact absurd h5 (by decide))
      | (simp at h5;omega)
  cases hwl with
  | cons w1 w2 =>
    cases w2;cases w1 with
    | list ho yL=>exact⟨_,_,ns,rfl,rfl,ho,k9 ns _ yL,hlen⟩
theorem wG(l:OpenLaw)(args:List WData):l.row.toRowW.claim.post args (.bool true) args=true :=
  postW_of (r:=l.row.toRowW) (X:=(true == true))
    (show WShape.has [] (.bool true) .bool=true by first|rfl|decide|simp[WShape.has,WShape.arms,WShape.armsAll])
    (show(WTm.eq .res (.lit (.bool true))).value [] {args:=args,res:=some (.bool true),after:=args}=some (.bool (true == true)) from w_eq_bool (w_res rfl) w_lit) rfl
theorem rE{l:OpenLaw}{n:Nat}{q:Program}{loose:List Str}{XP:(Str→Option Value)→Heap→Prop}{YP:World→Heap→Prop}{d:DefRec}
    (hn:l.most=some n) (hdf:d.params.defaults=[])
    (call:∀(w:World) (s₀ s₁:Shared) (mg mb:Str→Option Value) (fa:Addr) (o:Obj) (pm cd doc:Value) (a:Addr) (vs:List Value) (ns:List Int),
      Ground q loose [] XP w s₀ mg mb s₁.heap→YP w s₁.heap →
      s₁.heap.get? fa=some o→o.data=.func (docDef d.name d.params d.body d.scope pm cd doc)→s₁.heap.CodeRec cd d.name→mg d.name=some (.ref fa) →
      s₁.heap.get? a=some {cls:=.type "list",data:=.seq vs.toArray}→IntsAre vs ns→ns.length≤n→s₁.gens=#[] →
      codeAny (model l.prog w) callerA (.call (.ref fa) ⟨[.ref a],[]⟩) (λr s'=>r=.ok (.ret (.bool true))∧OldK s₁.heap s'.heap∧s'.os=s₁.os∧AllBare s'.gens) s₁) :
    WalkO q loose XP YP l.row.toRowW d [] (λf vs=>PySem.call f vs):=by
  intro w s₀ s₁ mg mb G Y fa o pm cd doc dV kV ho hd hcd hD hmg hg args vals as A2 hlay hrd hwl hlo;obtain rfl:dV=.none:=Dflts.none hD hdf;obtain rfl:kV=.none:=Dflts.noKw hD;obtain⟨a,vs,ns,rfl,rfl,D7,hints,hlen⟩:=wF hn A2 hwl;refine enter_call (codeAny_mono (call w s₀ s₁ mg mb fa o pm cd doc a vs ns G Y ho (fd_plain hd) hcd hmg D7 hints hlen hg) λr s' hq=>?_);obtain⟨rfl,h2,h3,h4⟩:=hq;exact⟨.inl ⟨.bool true,.bool true,[],rfl,λ_=>rfl,.bool true,wG l _,λ_=>⟨List.Pairwise.nil,λ_ hm=>(nomatch hm)⟩⟩,h2,h3,h4⟩
section
variable{prog:Program}{w:World}{A:Around}{E:Value→Shared→Prop}{s:Shared}{K:Frag}
end
end Att
namespace L2
open PySem PySem.Spec PyProof.Rows
theorem pT:∀ {vs:List Value} {ns:List Int},IntsAre vs ns→Vals (ns.map V.int) vs
  | _,_,.nil=>.nil
  | _,_,.cons n t h=>.cons ⟨t,rfl⟩ (pT h)
end L2
namespace L2
open PySem PySem.Spec PyProof.Rows
end L2
namespace L2
open PySem PySem.Spec PyProof.Rows
def inClass(s:Stmt)(j:Nat):Stmt:=match s with
  | .ClassDef _ _ _ body _ _ _ _ _ _ _=>body.getD j (.Pass ⟨0,0,0,0⟩)
  | _=>.Pass ⟨0,0,0,0⟩
def h8(s:Stmt):Arguments:=match s with
  | .FunctionDef _ a _ _ _ _ _ _ _ _=>a
  | _=>{posonlyargs:=[],args:=[],vararg:=none,kwonlyargs:=[],kw_defaults:=[],kwarg:=none,defaults:=[]}
def fW(s:Stmt):List Stmt:=match s with
  | .FunctionDef _ _ b _ _ _ _ _ _ _=>b
  | _=>[]
def aq(s:Stmt):Scope:=match s with
  | .FunctionDef _ _ _ _ _ _ sc _ _ _=>sc
  | _=>{kind:=.function,names:=[],isGenerator:=false,isCoroutine:=false}
structure Fun(K:W.Frag)(x qual:Str)(st:Stmt)(f:Addr)(fd:FuncData):Prop where
  ex:∃(oc:Value) (od:Option Addr) (kV doc pm:Value) (an:Option Addr) (cdv ct:Value) (osl:Array (Option Value)),
    fd=PySem.W.fnOf x qual (h8 st) (fW st) (aq st) .none kV doc pm an cdv ct∧K.lookup f=some ⟨oc,od,.func fd,osl⟩∧PySem.W.codeIn K cdv qual=true
  kp:PySem.W.keepIn K (.ref f)=true
section
variable{P:Program}{w:World}{K:W.Frag}{mg:Str→Option Value}{base:Heap}
theorem Fun.binds{x qual:Str}{st:Stmt}{f:Addr}{fd:FuncData}{ps:List Str}(F:Fun K x qual st f fd)
    (h:∀(kV doc pm:Value) (an:Option Addr) (cdv ct:Value) (us:List Value),us.length=ps.length→bindArgs (PySem.W.fnOf x qual (h8 st) (fW st) (aq st) .none kV doc pm an cdv ct) ⟨us,[]⟩=pure (ps.zip us)):Binds K fd ps []:=by
  obtain⟨oc,od,kV,doc,pm,an,cdv,ct,osl,rfl,lk,hcd⟩:=F.ex;exact .all (h kV doc pm an cdv ct)
theorem yM{x qual:Str}{st:Stmt}{f:Addr}{oc:Value}{od an:Option Addr}{osl:Array (Option Value)}{kV doc pm cdv ct:Value}(l:K.lookup f=some ⟨oc,od,.func (PySem.W.fnOf x qual (h8 st) (fW st) (aq st) .none kV doc pm an cdv ct),osl⟩)
    (c:PySem.W.codeIn K cdv qual=true) (k:PySem.W.keepIn K (.ref f)=true):Fun K x qual st f (PySem.W.fnOf x qual (h8 st) (fW st) (aq st) .none kV doc pm an cdv ct):=⟨⟨oc,od,kV,doc,pm,an,cdv,ct,osl,rfl,l,c⟩,k⟩
end
theorem j8{A:Around}{k:Nat}(hr:f6 k A):A.units+1<cLine:=KI (KN (by decide:1≤64) _) hr.units
section
variable{X:Cx}
theorem pv(i:Nat){x:Str}{pos:Pos}(hN:X.N[i]?=some x:=by rfl)(hv:Vis X.env.scope x:=by first|exact Or.inl rfl|exact Or.inr (Or.inl rfl)|exact Or.inr (Or.inr rfl))(hd:(x == ("__debug__" : Str))=false:=by decide)
    (hcd:(x == ("__classdict__" : Str))=false:=by decide):PE X (.Name x pos) (zT i):=Dl hN hv hd hcd
end
theorem kU{A B:Prop}(h:B):if false=true then A else B:=by
  rw[if_neg JX];exact h
theorem tw{A B:Prop}(h:A):if true=true then A else B:=by
  rw[if_pos rfl];exact h
theorem mX{c A B:Prop}[Decidable c](h1:c→A)(h2:¬c→B):if c then A else B:=by
  by_cases h:c
  · rw[if_pos h]
    exact h1 h
  · rw[if_neg h]
    exact h2 h
def ar(H H':Hp):Prop:=∀ b o,H b=some o→H' b=some o
theorem ar.refl(H:Hp):ar H H:=λ_ _ h=>h
theorem ar.trans{H H1 H2:Hp}(a:ar H H1)(b:ar H1 H2):ar H H2:=λc o h=>b c o (a c o h)
end L2
end
section
namespace K42
open PySem PySem.W L2 PySem.PyData
def top(i:Nat):Stmt:=PySem.Challenge.pw_stillheap_k42_copies_refused.main.body.getD i (.Pass ⟨0,0,0,0⟩)
section
abbrev OO:=Params→Obj
def oF(n q:Str)(s:Stmt)(m:Value)(r:Addr):Obj:=⟨.type "function",none,.func (fnOf n q (h8 s) (fW s) (aq s) .none .none .none m none (.ref r) .none),#[]⟩
def oG(n q:Str)(s:Stmt):Obj:=⟨.none,none,.func ⟨n,q,h8 s,.stmts (fW s),aq s,0,[],.none,.none,.none,.none,none,.none,.none,0⟩,#[]⟩
def oT(l:List Value):Obj:=⟨.type "tuple",none,.seq (List.toArray l) 0,#[]⟩
def kE(P:Params)(x:Str)(n:Tok)(v:Value):DictEntry:=⟨keyHash P x,.str x n,v⟩
def oC(n:Str)(t:Tok)(q:Str)(l a b c d:Int)(r:Addr)(e:Int)(f g h i:Addr)(z:Int)(u:Tok):Obj:=⟨.type "code",none,.fields (List.toArray [.str n t,.str q (t+1),.str "/claim/cut.py" (t+2),.int l 0,.int a 0,.int b 0,.int c 0,.int d 0,.ref r,.bool true,.int e 0,.ref f,.none,.ref g,.ref h,.ref i,.int z 0,.int l 0,.str "/claim/cut.py" u]),#[]⟩
def spl:List (Params→Obj)→List (Params→Obj)×List (Params→Obj)
 | []=>([],[])
 | [a]=>([a],[])
 | a::b::r=>(a::(spl r).1,b::(spl r).2)
def mkT(P:Params):Nat→List (Params→Obj)→BT
 | 0,_=>.nil
 | _+1,[]=>.nil
 | n+1,x::r=>.node (x P) (mkT P n (spl r).1) (mkT P n (spl r).2)
noncomputable def o0:OO:=λP=>⟨(.type "dict"),none,(.dict (List.toArray [kE P "__name__" 1 (.str "builtins" 160),kE P "__doc__" 2 (.builtin "builtins.__doc__:str#opaque"),kE P "__package__" 3 (.builtin "builtins.__package__:str#opaque"),kE P "__loader__" 4 (.builtin "builtins.__loader__:shared#opaque"),kE P "__spec__" 5 (.builtin "builtins.__spec__#opaque"),kE P "__build_class__" 6 (.builtin "__build_class__"),kE P "__import__" 7 (.builtin "__import__"),kE P "abs" 8 (.builtin "abs"),kE P "all" 9 (.builtin "all"),kE P "any" 10 (.builtin "any"),kE P "ascii" 11 (.builtin "ascii"),kE P "bin" 12 (.builtin "bin"),kE P "breakpoint" 13 (.builtin "breakpoint"),kE P "callable" 14 (.builtin "callable"),kE P "chr" 15 (.builtin "chr"),kE P "compile" 16 (.builtin "compile"),kE P "delattr" 17 (.builtin "delattr"),kE P "dir" 18 (.builtin "dir"),kE P "divmod" 19 (.builtin "divmod"),kE P "eval" 20 (.builtin "eval"),kE P "exec" 21 (.builtin "exec"),kE P "format" 22 (.builtin "format"),kE P "getattr" 23 (.builtin "getattr"),kE P "globals" 24 (.builtin "globals"),kE P "hasattr" 25 (.builtin "hasattr"),kE P "hash" 26 (.builtin "hash"),kE P "hex" 27 (.builtin "hex"),kE P "id" 28 (.builtin "id"),kE P "input" 29 (.builtin "input"),kE P "isinstance" 30 (.builtin "isinstance"),kE P "issubclass" 31 (.builtin "issubclass"),kE P "iter" 32 (.builtin "iter"),kE P "aiter" 33 (.builtin "aiter"),kE P "len" 34 (.builtin "len"),kE P "locals" 35 (.builtin "locals"),kE P "max" 36 (.builtin "max"),kE P "min" 37 (.builtin "min"),kE P "next" 38 (.builtin "next"),kE P "anext" 39 (.builtin "anext"),kE P "oct" 40 (.builtin "oct"),kE P "ord" 41 (.builtin "ord"),kE P "pow" 42 (.builtin "pow"),kE P "print" 43 (.builtin "print"),kE P "repr" 44 (.builtin "repr"),kE P "round" 45 (.builtin "round"),kE P "setattr" 46 (.builtin "setattr"),kE P "sorted" 47 (.builtin "sorted"),kE P "sum" 48 (.builtin "sum"),kE P "vars" 49 (.builtin "vars"),kE P "None" 50 .none,kE P "Ellipsis" 51 .ellipsis,kE P "NotImplemented" 52 .notImplemented,kE P "False" 53 (.bool false),kE P "True" 54 (.bool true),kE P "bool" 55 (.type "bool"),kE P "memoryview" 56 (.type "memoryview"),kE P "bytearray" 57 (.type "bytearray"),kE P "bytes" 58 (.type "bytes"),kE P "classmethod" 59 (.type "classmethod"),kE P "complex" 60 (.type "complex"),kE P "dict" 61 (.type "dict"),kE P "enumerate" 62 (.type "enumerate"),kE P "filter" 63 (.type "filter"),kE P "float" 64 (.type "float"),kE P "frozenset" 65 (.type "frozenset"),kE P "property" 66 (.type "property"),kE P "int" 67 (.type "int"),kE P "list" 68 (.type "list"),kE P "map" 69 (.type "map"),kE P "object" 70 (.type "object"),kE P "range" 71 (.type "range"),kE P "reversed" 72 (.type "reversed"),kE P "set" 73 (.type "set"),kE P "slice" 74 (.type "slice"),kE P "staticmethod" 75 (.type "staticmethod"),kE P "str" 76 (.type "str"),kE P "super" 77 (.type "super"),kE P "tuple" 78 (.type "tuple"),kE P "type" 79 (.type "type"),kE P "zip" 80 (.type "zip"),kE P "__debug__" 81 (.bool true),kE P "BaseException" 82 (.type "BaseException"),kE P "BaseExceptionGroup" 83 (.type "BaseExceptionGroup"),kE P "Exception" 84 (.type "Exception"),kE P "GeneratorExit" 85 (.type "GeneratorExit"),kE P "KeyboardInterrupt" 86 (.type "KeyboardInterrupt"),kE P "SystemExit" 87 (.type "SystemExit"),kE P "ArithmeticError" 88 (.type "ArithmeticError"),kE P "AssertionError" 89 (.type "AssertionError"),kE P "AttributeError" 90 (.type "AttributeError"),kE P "BufferError" 91 (.type "BufferError"),kE P "EOFError" 92 (.type "EOFError"),kE P "ImportError" 93 (.type "ImportError"),kE P "LookupError" 94 (.type "LookupError"),kE P "MemoryError" 95 (.type "MemoryError"),kE P "NameError" 96 (.type "NameError"),kE P "OSError" 97 (.type "OSError"),kE P "ReferenceError" 98 (.type "ReferenceError"),kE P "RuntimeError" 99 (.type "RuntimeError"),kE P "StopAsyncIteration" 100 (.type "StopAsyncIteration"),kE P "StopIteration" 101 (.type "StopIteration"),kE P "SyntaxError" 102 (.type "SyntaxError"),kE P "SystemError" 103 (.type "SystemError"),kE P "TypeError" 104 (.type "TypeError"),kE P "ValueError" 105 (.type "ValueError"),kE P "Warning" 106 (.type "Warning"),kE P "FloatingPointError" 107 (.type "FloatingPointError"),kE P "OverflowError" 108 (.type "OverflowError"),kE P "ZeroDivisionError" 109 (.type "ZeroDivisionError"),kE P "BytesWarning" 110 (.type "BytesWarning"),kE P "DeprecationWarning" 111 (.type "DeprecationWarning"),kE P "EncodingWarning" 112 (.type "EncodingWarning"),kE P "FutureWarning" 113 (.type "FutureWarning"),kE P "ImportWarning" 114 (.type "ImportWarning"),kE P "PendingDeprecationWarning" 115 (.type "PendingDeprecationWarning"),kE P "ResourceWarning" 116 (.type "ResourceWarning"),kE P "RuntimeWarning" 117 (.type "RuntimeWarning"),kE P "SyntaxWarning" 118 (.type "SyntaxWarning"),kE P "UnicodeWarning" 119 (.type "UnicodeWarning"),kE P "UserWarning" 120 (.type "UserWarning"),kE P "BlockingIOError" 121 (.type "BlockingIOError"),kE P "ChildProcessError" 122 (.type "ChildProcessError"),kE P "ConnectionError" 123 (.type "ConnectionError"),kE P "FileExistsError" 124 (.type "FileExistsError"),kE P "FileNotFoundError" 125 (.type "FileNotFoundError"),kE P "InterruptedError" 126 (.type "InterruptedError"),kE P "IsADirectoryError" 127 (.type "IsADirectoryError"),kE P "NotADirectoryError" 128 (.type "NotADirectoryError"),kE P "PermissionError" 129 (.type "PermissionError"),kE P "ProcessLookupError" 130 (.type "ProcessLookupError"),kE P "TimeoutError" 131 (.type "TimeoutError"),kE P "IndentationError" 132 (.type "IndentationError"),kE P "_IncompleteInputError" 133 (.type "_IncompleteInputError"),kE P "IndexError" 134 (.type "IndexError"),kE P "KeyError" 135 (.type "KeyError"),kE P "ModuleNotFoundError" 136 (.type "ModuleNotFoundError"),kE P "NotImplementedError" 137 (.type "NotImplementedError"),kE P "PythonFinalizationError" 138 (.type "PythonFinalizationError"),kE P "RecursionError" 139 (.type "RecursionError"),kE P "UnboundLocalError" 140 (.type "UnboundLocalError"),kE P "UnicodeError" 141 (.type "UnicodeError"),kE P "BrokenPipeError" 142 (.type "BrokenPipeError"),kE P "ConnectionAbortedError" 143 (.type "ConnectionAbortedError"),kE P "ConnectionRefusedError" 144 (.type "ConnectionRefusedError"),kE P "ConnectionResetError" 145 (.type "ConnectionResetError"),kE P "TabError" 146 (.type "TabError"),kE P "UnicodeDecodeError" 147 (.type "UnicodeDecodeError"),kE P "UnicodeEncodeError" 148 (.type "UnicodeEncodeError"),kE P "UnicodeTranslateError" 149 (.type "UnicodeTranslateError"),kE P "ExceptionGroup" 150 (.type "ExceptionGroup"),kE P "EnvironmentError" 151 (.type "OSError"),kE P "IOError" 152 (.type "OSError"),kE P "open" 153 (.builtin "open"),kE P "quit" 154 (.builtin "builtins.quit#opaque"),kE P "exit" 155 (.builtin "builtins.exit#opaque"),kE P "copyright" 156 (.builtin "builtins.copyright#opaque"),kE P "credits" 157 (.builtin "builtins.credits#opaque"),kE P "license" 158 (.builtin "builtins.license#opaque"),kE P "help" 159 (.builtin "builtins.help#opaque")]) 159),#[]⟩
noncomputable def o1:OO:=λP=>⟨(.type "dict"),none,(.dict (List.toArray [kE P "builtins" 162 (.ref 4),kE P "__main__" 163 (.ref 5)]) 2),#[]⟩
def o2:OO:=λ_=>⟨.none,none,(.dict #[] 0),#[]⟩
noncomputable def o3:OO:=λP=>⟨(.type "dict"),none,(.dict (List.toArray [kE P "__name__" 165 (.str "__main__" 164),kE P "__doc__" 166 .none,kE P "__package__" 167 .none,kE P "__loader__" 168 (.builtin "__main__.__loader__#opaque"),kE P "__spec__" 169 .none,kE P "__annotations__" 170 (.ref 6),kE P "__builtins__" 171 (.ref 4),kE P "__file__" 173 (.str "/claim/cut.py" 172),kE P "__cached__" 174 .none]) 9),#[]⟩
noncomputable def o4:OO:=λ_=>⟨(.type "module"),(.some 0),.plain,#[]⟩
noncomputable def o5:OO:=λ_=>⟨(.type "module"),(.some 3),.plain,#[]⟩
noncomputable def o6:OO:=λ_=>⟨(.type "dict"),none,(.dict #[] 0),#[]⟩
noncomputable def o7:OO:=λ_=>⟨(.type "tuple"),none,(.seq #[] 0),#[]⟩
def o8:OO:=λ_=>⟨.none,none,(.fields #[]),#[]⟩
noncomputable def o9:OO:=λ_=>⟨(.type "code"),none,(.fields (List.toArray [(.str "<module>" 176),(.str "<module>" 177),(.str "/claim/cut.py" 178),(.int 1 0),(.int 0 0),(.int 0 0),(.int 0 0),(.int 0 0),(.ref 7),(.bool false),(.int 175 0),(.ref 8),.none,.none,.none,.none,(.int 179 0),(.int 1 0),(.str "/claim/cut.py" 180)])),#[]⟩
noncomputable def o10:OO:=λ_=>⟨(.type "frame"),none,.plain,(List.toArray [(.some (.ref 9)),(.some (.ref 3)),(.some (.ref 3)),none,(.some (.str "__main__" 164)),none,(.some (.ref 0))])⟩
noncomputable def o11:OO:=λ_=>⟨(.type "code"),none,(.fields (List.toArray [(.str "<module>" 182),(.str "<module>" 183),(.str "/claim/cut.py" 184),(.int 1 0),(.int 0 0),(.int 0 0),(.int 0 0),(.int 0 0),(.ref 11),(.bool false),(.int 181 0),(.ref 12),.none,.none,.none,.none,(.int 185 0),(.int 1 0),(.str "/claim/cut.py" 186)])),#[]⟩
noncomputable def o12:OO:=λ_=>⟨(.type "frame"),none,.plain,(List.toArray [(.some (.ref 13)),(.some (.ref 3)),(.some (.ref 3)),none,(.some (.str "__main__" 164)),none,(.some (.ref 0))])⟩
noncomputable def o13:OO:=λP=>⟨(.type "dict"),none,(.dict (List.toArray [kE P "__name__" 165 (.str "stillheap.errors" 194),kE P "__doc__" 166 .none,kE P "__package__" 167 .none,kE P "__loader__" 168 (.builtin "__main__.__loader__#opaque"),kE P "__spec__" 169 .none,kE P "__annotations__" 170 (.ref 6),kE P "__builtins__" 171 (.ref 4),kE P "__file__" 173 (.str "/claim/cut.py" 172),kE P "__cached__" 174 .none,kE P "_wall" 193 (.ref 21),kE P "HeapError" 228 (.ref 45),kE P "BadHand" 251 (.ref 65),kE P "BadName" 274 (.ref 84),kE P "BadField" 297 (.ref 103),kE P "BadCount" 320 (.ref 122),kE P "NoRoom" 343 (.ref 141),kE P "TooManyWords" 366 (.ref 160),kE P "RoundOn" 389 (.ref 179)]) 18),#[]⟩
noncomputable def o14:OO:=λ_=>⟨.none,none,(.fields (List.toArray [(.int 1 0),(.int 0 0),(.ref 20),(.int 5 0),(.int 0 0),(.ref 27),(.int 12 0),(.int 0 0),(.ref 54),(.int 16 0),(.int 0 0),(.ref 73),(.int 20 0),(.int 0 0),(.ref 92),(.int 24 0),(.int 0 0),(.ref 111),(.int 28 0),(.int 0 0),(.ref 130),(.int 32 0),(.int 0 0),(.ref 149),(.int 36 0),(.int 0 0),(.ref 168)])),#[]⟩
def o15:OO:=λ_=>oT [(.str "k" 190)]
def o16:OO:=λ_=>oG "_wall" "_wall" (top 0)
noncomputable def o17:OO:=λ_=>oC "_wall" 187 "_wall" 1 1 0 0 3 15 181 16 17 18 19 191 192
noncomputable def o18:OO:=λ_=>oF "_wall" "_wall" (top 0) (.str "__main__" 164) 20
def o19:OO:=λ_=>oT [(.type "ValueError")]
noncomputable def o20:OO:=λ_=>⟨(.type "builtin_function_or_method"),none,(.fields (List.toArray [(.builtin "type.__prepare__"),(.type "type")])),#[]⟩
noncomputable def o21:OO:=λP=>⟨(.type "dict"),none,(.dict (List.toArray [kE P "__module__" 203 (.str "stillheap.errors" 194),kE P "__qualname__" 205 (.str "HeapError" 204),kE P "__firstlineno__" 207 (.int 5 206),kE P "__init__" 215 (.ref 35),kE P "called" 222 (.ref 42),kE P "__static_attributes__" 223 (.ref 43)]) 6),#[]⟩
noncomputable def o22:OO:=λ_=>⟨.none,none,(.fields (List.toArray [(.int 7 0),(.int 4 0),(.ref 34),(.int 10 0),(.int 4 0),(.ref 41)])),#[]⟩
noncomputable def o23:OO:=λ_=>⟨(.type "code"),none,(.fields (List.toArray [(.str "HeapError" 198),(.str "HeapError" 199),(.str "/claim/cut.py" 200),(.int 5 0),(.int 0 0),(.int 0 0),(.int 0 0),(.int 0 0),(.ref 25),(.bool false),(.int 181 0),(.ref 26),.none,.none,.none,.none,(.int 201 0),(.int 5 0),(.str "/claim/cut.py" 202)])),#[]⟩
noncomputable def o24:OO:=λ_=>⟨(.type "frame"),none,.plain,(List.toArray [(.some (.ref 27)),(.some (.ref 3)),(.some (.ref 24)),none,(.some (.str "stillheap.errors" 194)),none,(.some (.ref 0))])⟩
noncomputable def o25:OO:=λ_=>oT [(.str "self" 211),(.str "text" 212)]
noncomputable def o26:OO:=λ_=>oG "__init__" "HeapError.__init__" (inClass (top 2) 0)
noncomputable def o27:OO:=λ_=>oC "__init__" 208 "HeapError.__init__" 7 2 0 0 3 29 181 30 31 32 33 213 214
noncomputable def o28:OO:=λ_=>oF "__init__" "HeapError.__init__" (inClass (top 2) 0) (.str "stillheap.errors" 194) 34
def o29:OO:=λ_=>oT [(.str "self" 219)]
noncomputable def o30:OO:=λ_=>oG "called" "HeapError.called" (inClass (top 2) 1)
noncomputable def o31:OO:=λ_=>oC "called" 216 "HeapError.called" 10 1 0 0 3 36 181 37 38 39 40 220 221
noncomputable def o32:OO:=λ_=>oF "called" "HeapError.called" (inClass (top 2) 1) (.str "stillheap.errors" 194) 41
noncomputable def o33:OO:=λP=>⟨(.type "dict"),none,(.dict (List.toArray [kE P "__module__" 203 (.str "stillheap.errors" 194),kE P "__firstlineno__" 207 (.int 5 206),kE P "__init__" 215 (.ref 35),kE P "called" 222 (.ref 42),kE P "__static_attributes__" 223 (.ref 43),kE P "__weakref__" 225 (.ref 46),kE P "__doc__" 226 .none]) 3),#[]⟩
noncomputable def o34:OO:=λ_=>⟨(.type "type"),none,(.cls ⟨"HeapError",[(.type "ValueError")],[(.ref 45),(.type "ValueError"),(.type "Exception"),(.type "BaseException"),(.type "object")],44, "HeapError",true,[],[(.ref 65),(.ref 84),(.ref 103),(.ref 122),(.ref 141),(.ref 160),(.ref 179)],false,none,false⟩),(List.toArray [(.some (.ref 22)),none,(.some (.str "HeapError" 196)),(.some (.str "HeapError" 204)),(.some (.builtin "ValueError.__new__")),(.some (.bool true))])⟩
noncomputable def o35:OO:=λ_=>⟨(.type "getset_descriptor"),none,(.fields (List.toArray [(.str "__weakref__" 224),(.ref 45),(.builtin "ExceptionGroup.__weakref__"),.none])),#[]⟩
noncomputable def o36:OO:=λ_=>⟨(.type "super"),none,(.fields (List.toArray [(.ref 45),(.ref 45),(.ref 45)])),#[]⟩
noncomputable def o37:OO:=λ_=>⟨(.type "builtin_function_or_method"),none,(.fields (List.toArray [(.builtin "object.__init_subclass__"),(.ref 45)])),#[]⟩
def o38:OO:=λ_=>oT [(.ref 45)]
noncomputable def o39:OO:=λP=>⟨(.type "dict"),none,(.dict (List.toArray [kE P "__module__" 236 (.str "stillheap.errors" 194),kE P "__qualname__" 238 (.str "BadHand" 237),kE P "__firstlineno__" 240 (.int 12 239),kE P "called" 247 (.ref 62),kE P "__static_attributes__" 248 (.ref 63)]) 5),#[]⟩
noncomputable def o40:OO:=λ_=>⟨.none,none,(.fields (List.toArray [(.int 14 0),(.int 4 0),(.ref 61)])),#[]⟩
noncomputable def o41:OO:=λ_=>⟨(.type "code"),none,(.fields (List.toArray [(.str "BadHand" 231),(.str "BadHand" 232),(.str "/claim/cut.py" 233),(.int 12 0),(.int 0 0),(.int 0 0),(.int 0 0),(.int 0 0),(.ref 52),(.bool false),(.int 181 0),(.ref 53),.none,.none,.none,.none,(.int 234 0),(.int 12 0),(.str "/claim/cut.py" 235)])),#[]⟩
noncomputable def o42:OO:=λ_=>⟨(.type "frame"),none,.plain,(List.toArray [(.some (.ref 54)),(.some (.ref 3)),(.some (.ref 51)),none,(.some (.str "stillheap.errors" 194)),none,(.some (.ref 0))])⟩
def o43:OO:=λ_=>oT [(.str "self" 244)]
noncomputable def o44:OO:=λ_=>oG "called" "BadHand.called" (inClass (top 3) 0)
noncomputable def o45:OO:=λ_=>oC "called" 241 "BadHand.called" 14 1 0 0 3 56 181 57 58 59 60 245 246
noncomputable def o46:OO:=λ_=>oF "called" "BadHand.called" (inClass (top 3) 0) (.str "stillheap.errors" 194) 61
noncomputable def o47:OO:=λP=>⟨(.type "dict"),none,(.dict (List.toArray [kE P "__module__" 236 (.str "stillheap.errors" 194),kE P "__firstlineno__" 240 (.int 12 239),kE P "called" 247 (.ref 62),kE P "__static_attributes__" 248 (.ref 63),kE P "__doc__" 249 .none]) 2),#[]⟩
noncomputable def o48:OO:=λ_=>⟨(.type "type"),none,(.cls ⟨"BadHand",[(.ref 45)],[(.ref 65),(.ref 45),(.type "ValueError"),(.type "Exception"),(.type "BaseException"),(.type "object")],64, "BadHand",true,[],[],false,none,false⟩),(List.toArray [(.some (.ref 49)),none,(.some (.str "BadHand" 229)),(.some (.str "BadHand" 237)),(.some (.builtin "ValueError.__new__")),(.some (.bool true))])⟩
noncomputable def o49:OO:=λ_=>⟨(.type "super"),none,(.fields (List.toArray [(.ref 65),(.ref 65),(.ref 65)])),#[]⟩
noncomputable def o50:OO:=λ_=>⟨(.type "builtin_function_or_method"),none,(.fields (List.toArray [(.builtin "object.__init_subclass__"),(.ref 65)])),#[]⟩
noncomputable def o51:OO:=λP=>⟨(.type "dict"),none,(.dict (List.toArray [kE P "__module__" 259 (.str "stillheap.errors" 194),kE P "__qualname__" 261 (.str "BadName" 260),kE P "__firstlineno__" 263 (.int 16 262),kE P "called" 270 (.ref 81),kE P "__static_attributes__" 271 (.ref 82)]) 5),#[]⟩
noncomputable def o52:OO:=λ_=>⟨.none,none,(.fields (List.toArray [(.int 18 0),(.int 4 0),(.ref 80)])),#[]⟩
noncomputable def o53:OO:=λ_=>⟨(.type "code"),none,(.fields (List.toArray [(.str "BadName" 254),(.str "BadName" 255),(.str "/claim/cut.py" 256),(.int 16 0),(.int 0 0),(.int 0 0),(.int 0 0),(.int 0 0),(.ref 71),(.bool false),(.int 181 0),(.ref 72),.none,.none,.none,.none,(.int 257 0),(.int 16 0),(.str "/claim/cut.py" 258)])),#[]⟩
noncomputable def o54:OO:=λ_=>⟨(.type "frame"),none,.plain,(List.toArray [(.some (.ref 73)),(.some (.ref 3)),(.some (.ref 70)),none,(.some (.str "stillheap.errors" 194)),none,(.some (.ref 0))])⟩
def o55:OO:=λ_=>oT [(.str "self" 267)]
noncomputable def o56:OO:=λ_=>oG "called" "BadName.called" (inClass (top 4) 0)
noncomputable def o57:OO:=λ_=>oC "called" 264 "BadName.called" 18 1 0 0 3 75 181 76 77 78 79 268 269
noncomputable def o58:OO:=λ_=>oF "called" "BadName.called" (inClass (top 4) 0) (.str "stillheap.errors" 194) 80
noncomputable def o59:OO:=λP=>⟨(.type "dict"),none,(.dict (List.toArray [kE P "__module__" 259 (.str "stillheap.errors" 194),kE P "__firstlineno__" 263 (.int 16 262),kE P "called" 270 (.ref 81),kE P "__static_attributes__" 271 (.ref 82),kE P "__doc__" 272 .none]) 2),#[]⟩
noncomputable def o60:OO:=λ_=>⟨(.type "type"),none,(.cls ⟨"BadName",[(.ref 45)],[(.ref 84),(.ref 45),(.type "ValueError"),(.type "Exception"),(.type "BaseException"),(.type "object")],83, "BadName",true,[],[],false,none,false⟩),(List.toArray [(.some (.ref 68)),none,(.some (.str "BadName" 252)),(.some (.str "BadName" 260)),(.some (.builtin "ValueError.__new__")),(.some (.bool true))])⟩
noncomputable def o61:OO:=λ_=>⟨(.type "super"),none,(.fields (List.toArray [(.ref 84),(.ref 84),(.ref 84)])),#[]⟩
noncomputable def o62:OO:=λ_=>⟨(.type "builtin_function_or_method"),none,(.fields (List.toArray [(.builtin "object.__init_subclass__"),(.ref 84)])),#[]⟩
noncomputable def o63:OO:=λP=>⟨(.type "dict"),none,(.dict (List.toArray [kE P "__module__" 282 (.str "stillheap.errors" 194),kE P "__qualname__" 284 (.str "BadField" 283),kE P "__firstlineno__" 286 (.int 20 285),kE P "called" 293 (.ref 100),kE P "__static_attributes__" 294 (.ref 101)]) 5),#[]⟩
noncomputable def o64:OO:=λ_=>⟨.none,none,(.fields (List.toArray [(.int 22 0),(.int 4 0),(.ref 99)])),#[]⟩
noncomputable def o65:OO:=λ_=>⟨(.type "code"),none,(.fields (List.toArray [(.str "BadField" 277),(.str "BadField" 278),(.str "/claim/cut.py" 279),(.int 20 0),(.int 0 0),(.int 0 0),(.int 0 0),(.int 0 0),(.ref 90),(.bool false),(.int 181 0),(.ref 91),.none,.none,.none,.none,(.int 280 0),(.int 20 0),(.str "/claim/cut.py" 281)])),#[]⟩
noncomputable def o66:OO:=λ_=>⟨(.type "frame"),none,.plain,(List.toArray [(.some (.ref 92)),(.some (.ref 3)),(.some (.ref 89)),none,(.some (.str "stillheap.errors" 194)),none,(.some (.ref 0))])⟩
def o67:OO:=λ_=>oT [(.str "self" 290)]
noncomputable def o68:OO:=λ_=>oG "called" "BadField.called" (inClass (top 5) 0)
noncomputable def o69:OO:=λ_=>oC "called" 287 "BadField.called" 22 1 0 0 3 94 181 95 96 97 98 291 292
noncomputable def o70:OO:=λ_=>oF "called" "BadField.called" (inClass (top 5) 0) (.str "stillheap.errors" 194) 99
noncomputable def o71:OO:=λP=>⟨(.type "dict"),none,(.dict (List.toArray [kE P "__module__" 282 (.str "stillheap.errors" 194),kE P "__firstlineno__" 286 (.int 20 285),kE P "called" 293 (.ref 100),kE P "__static_attributes__" 294 (.ref 101),kE P "__doc__" 295 .none]) 2),#[]⟩
noncomputable def o72:OO:=λ_=>⟨(.type "type"),none,(.cls ⟨"BadField",[(.ref 45)],[(.ref 103),(.ref 45),(.type "ValueError"),(.type "Exception"),(.type "BaseException"),(.type "object")],102, "BadField",true,[],[],false,none,false⟩),(List.toArray [(.some (.ref 87)),none,(.some (.str "BadField" 275)),(.some (.str "BadField" 283)),(.some (.builtin "ValueError.__new__")),(.some (.bool true))])⟩
noncomputable def o73:OO:=λ_=>⟨(.type "super"),none,(.fields (List.toArray [(.ref 103),(.ref 103),(.ref 103)])),#[]⟩
noncomputable def o74:OO:=λ_=>⟨(.type "builtin_function_or_method"),none,(.fields (List.toArray [(.builtin "object.__init_subclass__"),(.ref 103)])),#[]⟩
noncomputable def o75:OO:=λP=>⟨(.type "dict"),none,(.dict (List.toArray [kE P "__module__" 305 (.str "stillheap.errors" 194),kE P "__qualname__" 307 (.str "BadCount" 306),kE P "__firstlineno__" 309 (.int 24 308),kE P "called" 316 (.ref 119),kE P "__static_attributes__" 317 (.ref 120)]) 5),#[]⟩
noncomputable def o76:OO:=λ_=>⟨.none,none,(.fields (List.toArray [(.int 26 0),(.int 4 0),(.ref 118)])),#[]⟩
noncomputable def o77:OO:=λ_=>⟨(.type "code"),none,(.fields (List.toArray [(.str "BadCount" 300),(.str "BadCount" 301),(.str "/claim/cut.py" 302),(.int 24 0),(.int 0 0),(.int 0 0),(.int 0 0),(.int 0 0),(.ref 109),(.bool false),(.int 181 0),(.ref 110),.none,.none,.none,.none,(.int 303 0),(.int 24 0),(.str "/claim/cut.py" 304)])),#[]⟩
noncomputable def o78:OO:=λ_=>⟨(.type "frame"),none,.plain,(List.toArray [(.some (.ref 111)),(.some (.ref 3)),(.some (.ref 108)),none,(.some (.str "stillheap.errors" 194)),none,(.some (.ref 0))])⟩
def o79:OO:=λ_=>oT [(.str "self" 313)]
noncomputable def o80:OO:=λ_=>oG "called" "BadCount.called" (inClass (top 6) 0)
noncomputable def o81:OO:=λ_=>oC "called" 310 "BadCount.called" 26 1 0 0 3 113 181 114 115 116 117 314 315
noncomputable def o82:OO:=λ_=>oF "called" "BadCount.called" (inClass (top 6) 0) (.str "stillheap.errors" 194) 118
noncomputable def o83:OO:=λP=>⟨(.type "dict"),none,(.dict (List.toArray [kE P "__module__" 305 (.str "stillheap.errors" 194),kE P "__firstlineno__" 309 (.int 24 308),kE P "called" 316 (.ref 119),kE P "__static_attributes__" 317 (.ref 120),kE P "__doc__" 318 .none]) 2),#[]⟩
noncomputable def o84:OO:=λ_=>⟨(.type "type"),none,(.cls ⟨"BadCount",[(.ref 45)],[(.ref 122),(.ref 45),(.type "ValueError"),(.type "Exception"),(.type "BaseException"),(.type "object")],121, "BadCount",true,[],[],false,none,false⟩),(List.toArray [(.some (.ref 106)),none,(.some (.str "BadCount" 298)),(.some (.str "BadCount" 306)),(.some (.builtin "ValueError.__new__")),(.some (.bool true))])⟩
noncomputable def o85:OO:=λ_=>⟨(.type "super"),none,(.fields (List.toArray [(.ref 122),(.ref 122),(.ref 122)])),#[]⟩
noncomputable def o86:OO:=λ_=>⟨(.type "builtin_function_or_method"),none,(.fields (List.toArray [(.builtin "object.__init_subclass__"),(.ref 122)])),#[]⟩
noncomputable def o87:OO:=λP=>⟨(.type "dict"),none,(.dict (List.toArray [kE P "__module__" 328 (.str "stillheap.errors" 194),kE P "__qualname__" 330 (.str "NoRoom" 329),kE P "__firstlineno__" 332 (.int 28 331),kE P "called" 339 (.ref 138),kE P "__static_attributes__" 340 (.ref 139)]) 5),#[]⟩
noncomputable def o88:OO:=λ_=>⟨.none,none,(.fields (List.toArray [(.int 30 0),(.int 4 0),(.ref 137)])),#[]⟩
noncomputable def o89:OO:=λ_=>⟨(.type "code"),none,(.fields (List.toArray [(.str "NoRoom" 323),(.str "NoRoom" 324),(.str "/claim/cut.py" 325),(.int 28 0),(.int 0 0),(.int 0 0),(.int 0 0),(.int 0 0),(.ref 128),(.bool false),(.int 181 0),(.ref 129),.none,.none,.none,.none,(.int 326 0),(.int 28 0),(.str "/claim/cut.py" 327)])),#[]⟩
noncomputable def o90:OO:=λ_=>⟨(.type "frame"),none,.plain,(List.toArray [(.some (.ref 130)),(.some (.ref 3)),(.some (.ref 127)),none,(.some (.str "stillheap.errors" 194)),none,(.some (.ref 0))])⟩
def o91:OO:=λ_=>oT [(.str "self" 336)]
noncomputable def o92:OO:=λ_=>oG "called" "NoRoom.called" (inClass (top 7) 0)
noncomputable def o93:OO:=λ_=>oC "called" 333 "NoRoom.called" 30 1 0 0 3 132 181 133 134 135 136 337 338
noncomputable def o94:OO:=λ_=>oF "called" "NoRoom.called" (inClass (top 7) 0) (.str "stillheap.errors" 194) 137
noncomputable def o95:OO:=λP=>⟨(.type "dict"),none,(.dict (List.toArray [kE P "__module__" 328 (.str "stillheap.errors" 194),kE P "__firstlineno__" 332 (.int 28 331),kE P "called" 339 (.ref 138),kE P "__static_attributes__" 340 (.ref 139),kE P "__doc__" 341 .none]) 2),#[]⟩
noncomputable def o96:OO:=λ_=>⟨(.type "type"),none,(.cls ⟨"NoRoom",[(.ref 45)],[(.ref 141),(.ref 45),(.type "ValueError"),(.type "Exception"),(.type "BaseException"),(.type "object")],140, "NoRoom",true,[],[],false,none,false⟩),(List.toArray [(.some (.ref 125)),none,(.some (.str "NoRoom" 321)),(.some (.str "NoRoom" 329)),(.some (.builtin "ValueError.__new__")),(.some (.bool true))])⟩
noncomputable def o97:OO:=λ_=>⟨(.type "super"),none,(.fields (List.toArray [(.ref 141),(.ref 141),(.ref 141)])),#[]⟩
noncomputable def o98:OO:=λ_=>⟨(.type "builtin_function_or_method"),none,(.fields (List.toArray [(.builtin "object.__init_subclass__"),(.ref 141)])),#[]⟩
noncomputable def o99:OO:=λP=>⟨(.type "dict"),none,(.dict (List.toArray [kE P "__module__" 351 (.str "stillheap.errors" 194),kE P "__qualname__" 353 (.str "TooManyWords" 352),kE P "__firstlineno__" 355 (.int 32 354),kE P "called" 362 (.ref 157),kE P "__static_attributes__" 363 (.ref 158)]) 5),#[]⟩
noncomputable def A3:OO:=λ_=>⟨.none,none,(.fields (List.toArray [(.int 34 0),(.int 4 0),(.ref 156)])),#[]⟩
noncomputable def A4:OO:=λ_=>⟨(.type "code"),none,(.fields (List.toArray [(.str "TooManyWords" 346),(.str "TooManyWords" 347),(.str "/claim/cut.py" 348),(.int 32 0),(.int 0 0),(.int 0 0),(.int 0 0),(.int 0 0),(.ref 147),(.bool false),(.int 181 0),(.ref 148),.none,.none,.none,.none,(.int 349 0),(.int 32 0),(.str "/claim/cut.py" 350)])),#[]⟩
noncomputable def A5:OO:=λ_=>⟨(.type "frame"),none,.plain,(List.toArray [(.some (.ref 149)),(.some (.ref 3)),(.some (.ref 146)),none,(.some (.str "stillheap.errors" 194)),none,(.some (.ref 0))])⟩
def Ab:OO:=λ_=>oT [(.str "self" 359)]
noncomputable def A6:OO:=λ_=>oG "called" "TooManyWords.called" (inClass (top 8) 0)
noncomputable def Ac:OO:=λ_=>oC "called" 356 "TooManyWords.called" 34 1 0 0 3 151 181 152 153 154 155 360 361
noncomputable def Ae:OO:=λ_=>oF "called" "TooManyWords.called" (inClass (top 8) 0) (.str "stillheap.errors" 194) 156
noncomputable def Af:OO:=λP=>⟨(.type "dict"),none,(.dict (List.toArray [kE P "__module__" 351 (.str "stillheap.errors" 194),kE P "__firstlineno__" 355 (.int 32 354),kE P "called" 362 (.ref 157),kE P "__static_attributes__" 363 (.ref 158),kE P "__doc__" 364 .none]) 2),#[]⟩
noncomputable def Ag:OO:=λ_=>⟨(.type "type"),none,(.cls ⟨"TooManyWords",[(.ref 45)],[(.ref 160),(.ref 45),(.type "ValueError"),(.type "Exception"),(.type "BaseException"),(.type "object")],159, "TooManyWords",true,[],[],false,none,false⟩),(List.toArray [(.some (.ref 144)),none,(.some (.str "TooManyWords" 344)),(.some (.str "TooManyWords" 352)),(.some (.builtin "ValueError.__new__")),(.some (.bool true))])⟩
noncomputable def A7:OO:=λ_=>⟨(.type "super"),none,(.fields (List.toArray [(.ref 160),(.ref 160),(.ref 160)])),#[]⟩
noncomputable def A8:OO:=λ_=>⟨(.type "builtin_function_or_method"),none,(.fields (List.toArray [(.builtin "object.__init_subclass__"),(.ref 160)])),#[]⟩
noncomputable def A9:OO:=λP=>⟨(.type "dict"),none,(.dict (List.toArray [kE P "__module__" 374 (.str "stillheap.errors" 194),kE P "__qualname__" 376 (.str "RoundOn" 375),kE P "__firstlineno__" 378 (.int 36 377),kE P "called" 385 (.ref 176),kE P "__static_attributes__" 386 (.ref 177)]) 5),#[]⟩
noncomputable def Ba:OO:=λ_=>⟨.none,none,(.fields (List.toArray [(.int 38 0),(.int 4 0),(.ref 175)])),#[]⟩
noncomputable def Bb:OO:=λ_=>⟨(.type "code"),none,(.fields (List.toArray [(.str "RoundOn" 369),(.str "RoundOn" 370),(.str "/claim/cut.py" 371),(.int 36 0),(.int 0 0),(.int 0 0),(.int 0 0),(.int 0 0),(.ref 166),(.bool false),(.int 181 0),(.ref 167),.none,.none,.none,.none,(.int 372 0),(.int 36 0),(.str "/claim/cut.py" 373)])),#[]⟩
noncomputable def Bc:OO:=λ_=>⟨(.type "frame"),none,.plain,(List.toArray [(.some (.ref 168)),(.some (.ref 3)),(.some (.ref 165)),none,(.some (.str "stillheap.errors" 194)),none,(.some (.ref 0))])⟩
def Ah:OO:=λ_=>oT [(.str "self" 382)]
noncomputable def Bd:OO:=λ_=>oG "called" "RoundOn.called" (inClass (top 9) 0)
noncomputable def Ai:OO:=λ_=>oC "called" 379 "RoundOn.called" 38 1 0 0 3 170 181 171 172 173 174 383 384
noncomputable def Aj:OO:=λ_=>oF "called" "RoundOn.called" (inClass (top 9) 0) (.str "stillheap.errors" 194) 175
noncomputable def Ak:OO:=λP=>⟨(.type "dict"),none,(.dict (List.toArray [kE P "__module__" 374 (.str "stillheap.errors" 194),kE P "__firstlineno__" 378 (.int 36 377),kE P "called" 385 (.ref 176),kE P "__static_attributes__" 386 (.ref 177),kE P "__doc__" 387 .none]) 2),#[]⟩
noncomputable def Al:OO:=λ_=>⟨(.type "type"),none,(.cls ⟨"RoundOn",[(.ref 45)],[(.ref 179),(.ref 45),(.type "ValueError"),(.type "Exception"),(.type "BaseException"),(.type "object")],178, "RoundOn",true,[],[],false,none,false⟩),(List.toArray [(.some (.ref 163)),none,(.some (.str "RoundOn" 367)),(.some (.str "RoundOn" 375)),(.some (.builtin "ValueError.__new__")),(.some (.bool true))])⟩
noncomputable def Be:OO:=λ_=>⟨(.type "super"),none,(.fields (List.toArray [(.ref 179),(.ref 179),(.ref 179)])),#[]⟩
noncomputable def Bf:OO:=λ_=>⟨(.type "builtin_function_or_method"),none,(.fields (List.toArray [(.builtin "object.__init_subclass__"),(.ref 179)])),#[]⟩
noncomputable def IX:OO:=λP=>⟨(.type "dict"),none,(.dict (List.toArray [kE P "__name__" 165 (.str "stillheap.memory" 665),kE P "__doc__" 166 .none,kE P "__package__" 167 .none,kE P "__loader__" 168 (.builtin "__main__.__loader__#opaque"),kE P "__spec__" 169 .none,kE P "__annotations__" 170 (.ref 6),kE P "__builtins__" 171 (.ref 4),kE P "__file__" 173 (.str "/claim/cut.py" 172),kE P "__cached__" 174 .none,kE P "_wall" 193 (.ref 21),kE P "HeapError" 228 (.ref 45),kE P "BadHand" 251 (.ref 65),kE P "BadName" 274 (.ref 84),kE P "BadField" 297 (.ref 103),kE P "BadCount" 320 (.ref 122),kE P "NoRoom" 343 (.ref 141),kE P "TooManyWords" 366 (.ref 160),kE P "RoundOn" 389 (.ref 179),kE P "NoRound" 412 (.ref 198),kE P "BadText" 445 (.ref 224),kE P "BadView" 468 (.ref 243),kE P "BadAddress" 491 (.ref 262),kE P "BadPaper" 514 (.ref 281),kE P "BadLog" 547 (.ref 307),kE P "kind_of" 556 (.ref 316),kE P "lay" 570 (.ref 323),kE P "thing_at" 576 (.ref 328),kE P "fields_at" 584 (.ref 335),kE P "fields_told" 594 (.ref 342),kE P "look_at_room" 603 (.ref 349),kE P "copied" 611 (.ref 354),kE P "copied_words" 619 (.ref 361),kE P "things_met" 631 (.ref 368),kE P "address_told" 638 (.ref 375),kE P "words_among" 644 (.ref 380),kE P "places_from" 655 (.ref 387),kE P "told_anew" 664 (.ref 394)]) 37),#[]⟩
noncomputable def IY:OO:=λ_=>⟨.none,none,(.fields (List.toArray [(.int 1 0),(.int 0 0),(.ref 20),(.int 5 0),(.int 0 0),(.ref 27),(.int 12 0),(.int 0 0),(.ref 54),(.int 16 0),(.int 0 0),(.ref 73),(.int 20 0),(.int 0 0),(.ref 92),(.int 24 0),(.int 0 0),(.ref 111),(.int 28 0),(.int 0 0),(.ref 130),(.int 32 0),(.int 0 0),(.ref 149),(.int 36 0),(.int 0 0),(.ref 168),(.int 40 0),(.int 0 0),(.ref 187),(.int 44 0),(.int 0 0),(.ref 206),(.int 52 0),(.int 0 0),(.ref 232),(.int 56 0),(.int 0 0),(.ref 251),(.int 60 0),(.int 0 0),(.ref 270),(.int 64 0),(.int 0 0),(.ref 289),(.int 73 0),(.int 0 0),(.ref 315),(.int 76 0),(.int 0 0),(.ref 322),(.int 81 0),(.int 0 0),(.ref 327),(.int 84 0),(.int 0 0),(.ref 334),(.int 86 0),(.int 0 0),(.ref 341),(.int 92 0),(.int 0 0),(.ref 348),(.int 96 0),(.int 0 0),(.ref 353),(.int 107 0),(.int 0 0),(.ref 360),(.int 109 0),(.int 0 0),(.ref 367),(.int 120 0),(.int 0 0),(.ref 374),(.int 126 0),(.int 0 0),(.ref 379),(.int 128 0),(.int 0 0),(.ref 386),(.int 135 0),(.int 0 0),(.ref 393)])),#[]⟩
noncomputable def Bg:OO:=λ_=>⟨(.type "type"),none,(.cls ⟨"HeapError",[(.type "ValueError")],[(.ref 45),(.type "ValueError"),(.type "Exception"),(.type "BaseException"),(.type "object")],44, "HeapError",true,[],[(.ref 65),(.ref 84),(.ref 103),(.ref 122),(.ref 141),(.ref 160),(.ref 179),(.ref 198),(.ref 224),(.ref 243),(.ref 262),(.ref 281),(.ref 307)],false,none,false⟩),(List.toArray [(.some (.ref 22)),none,(.some (.str "HeapError" 196)),(.some (.str "HeapError" 204)),(.some (.builtin "ValueError.__new__")),(.some (.bool true))])⟩
noncomputable def D8:OO:=λP=>⟨(.type "dict"),none,(.dict (List.toArray [kE P "__module__" 397 (.str "stillheap.errors" 194),kE P "__qualname__" 399 (.str "NoRound" 398),kE P "__firstlineno__" 401 (.int 40 400),kE P "called" 408 (.ref 195),kE P "__static_attributes__" 409 (.ref 196)]) 5),#[]⟩
noncomputable def D9:OO:=λ_=>⟨.none,none,(.fields (List.toArray [(.int 42 0),(.int 4 0),(.ref 194)])),#[]⟩
noncomputable def Ea:OO:=λ_=>⟨(.type "code"),none,(.fields (List.toArray [(.str "NoRound" 392),(.str "NoRound" 393),(.str "/claim/cut.py" 394),(.int 40 0),(.int 0 0),(.int 0 0),(.int 0 0),(.int 0 0),(.ref 185),(.bool false),(.int 181 0),(.ref 186),.none,.none,.none,.none,(.int 395 0),(.int 40 0),(.str "/claim/cut.py" 396)])),#[]⟩
noncomputable def Eb:OO:=λ_=>⟨(.type "frame"),none,.plain,(List.toArray [(.some (.ref 187)),(.some (.ref 3)),(.some (.ref 184)),none,(.some (.str "stillheap.errors" 194)),none,(.some (.ref 0))])⟩
def Bh:OO:=λ_=>oT [(.str "self" 405)]
noncomputable def Ec:OO:=λ_=>oG "called" "NoRound.called" (inClass (top 10) 0)
noncomputable def Bi:OO:=λ_=>oC "called" 402 "NoRound.called" 42 1 0 0 3 189 181 190 191 192 193 406 407
noncomputable def Bj:OO:=λ_=>oF "called" "NoRound.called" (inClass (top 10) 0) (.str "stillheap.errors" 194) 194
noncomputable def Bk:OO:=λP=>⟨(.type "dict"),none,(.dict (List.toArray [kE P "__module__" 397 (.str "stillheap.errors" 194),kE P "__firstlineno__" 401 (.int 40 400),kE P "called" 408 (.ref 195),kE P "__static_attributes__" 409 (.ref 196),kE P "__doc__" 410 .none]) 2),#[]⟩
noncomputable def Bl:OO:=λ_=>⟨(.type "type"),none,(.cls ⟨"NoRound",[(.ref 45)],[(.ref 198),(.ref 45),(.type "ValueError"),(.type "Exception"),(.type "BaseException"),(.type "object")],197, "NoRound",true,[],[],false,none,false⟩),(List.toArray [(.some (.ref 182)),none,(.some (.str "NoRound" 390)),(.some (.str "NoRound" 398)),(.some (.builtin "ValueError.__new__")),(.some (.bool true))])⟩
noncomputable def Ed:OO:=λ_=>⟨(.type "super"),none,(.fields (List.toArray [(.ref 198),(.ref 198),(.ref 198)])),#[]⟩
noncomputable def Ee:OO:=λ_=>⟨(.type "builtin_function_or_method"),none,(.fields (List.toArray [(.builtin "object.__init_subclass__"),(.ref 198)])),#[]⟩
noncomputable def Ef:OO:=λP=>⟨(.type "dict"),none,(.dict (List.toArray [kE P "__module__" 420 (.str "stillheap.errors" 194),kE P "__qualname__" 422 (.str "BadText" 421),kE P "__firstlineno__" 424 (.int 44 423),kE P "__init__" 433 (.ref 214),kE P "called" 440 (.ref 221),kE P "__static_attributes__" 442 (.ref 222)]) 6),#[]⟩
noncomputable def Eg:OO:=λ_=>⟨.none,none,(.fields (List.toArray [(.int 46 0),(.int 4 0),(.ref 213),(.int 50 0),(.int 4 0),(.ref 220)])),#[]⟩
noncomputable def Eh:OO:=λ_=>⟨(.type "code"),none,(.fields (List.toArray [(.str "BadText" 415),(.str "BadText" 416),(.str "/claim/cut.py" 417),(.int 44 0),(.int 0 0),(.int 0 0),(.int 0 0),(.int 0 0),(.ref 204),(.bool false),(.int 181 0),(.ref 205),.none,.none,.none,.none,(.int 418 0),(.int 44 0),(.str "/claim/cut.py" 419)])),#[]⟩
noncomputable def Ei:OO:=λ_=>⟨(.type "frame"),none,.plain,(List.toArray [(.some (.ref 206)),(.some (.ref 3)),(.some (.ref 203)),none,(.some (.str "stillheap.errors" 194)),none,(.some (.ref 0))])⟩
noncomputable def Bm:OO:=λ_=>oT [(.str "self" 428),(.str "text" 429),(.str "row" 430)]
noncomputable def Ej:OO:=λ_=>oG "__init__" "BadText.__init__" (inClass (top 11) 0)
noncomputable def Bn:OO:=λ_=>oC "__init__" 425 "BadText.__init__" 46 3 0 0 3 208 181 209 210 211 212 431 432
noncomputable def Bo:OO:=λ_=>oF "__init__" "BadText.__init__" (inClass (top 11) 0) (.str "stillheap.errors" 194) 213
def Bp:OO:=λ_=>oT [(.str "self" 437)]
noncomputable def Ek:OO:=λ_=>oG "called" "BadText.called" (inClass (top 11) 1)
noncomputable def Bq:OO:=λ_=>oC "called" 434 "BadText.called" 50 1 0 0 3 215 181 216 217 218 219 438 439
noncomputable def Br:OO:=λ_=>oF "called" "BadText.called" (inClass (top 11) 1) (.str "stillheap.errors" 194) 220
def Bs:OO:=λ_=>oT [(.str "row" 441)]
noncomputable def Bv:OO:=λP=>⟨(.type "dict"),none,(.dict (List.toArray [kE P "__module__" 420 (.str "stillheap.errors" 194),kE P "__firstlineno__" 424 (.int 44 423),kE P "__init__" 433 (.ref 214),kE P "called" 440 (.ref 221),kE P "__static_attributes__" 442 (.ref 222),kE P "__doc__" 443 .none]) 2),#[]⟩
noncomputable def Bx:OO:=λ_=>⟨(.type "type"),none,(.cls ⟨"BadText",[(.ref 45)],[(.ref 224),(.ref 45),(.type "ValueError"),(.type "Exception"),(.type "BaseException"),(.type "object")],223, "BadText",true,[],[],false,none,false⟩),(List.toArray [(.some (.ref 201)),none,(.some (.str "BadText" 413)),(.some (.str "BadText" 421)),(.some (.builtin "ValueError.__new__")),(.some (.bool true))])⟩
noncomputable def El:OO:=λ_=>⟨(.type "super"),none,(.fields (List.toArray [(.ref 224),(.ref 224),(.ref 224)])),#[]⟩
noncomputable def Em:OO:=λ_=>⟨(.type "builtin_function_or_method"),none,(.fields (List.toArray [(.builtin "object.__init_subclass__"),(.ref 224)])),#[]⟩
noncomputable def En:OO:=λP=>⟨(.type "dict"),none,(.dict (List.toArray [kE P "__module__" 453 (.str "stillheap.errors" 194),kE P "__qualname__" 455 (.str "BadView" 454),kE P "__firstlineno__" 457 (.int 52 456),kE P "called" 464 (.ref 240),kE P "__static_attributes__" 465 (.ref 241)]) 5),#[]⟩
noncomputable def Eo:OO:=λ_=>⟨.none,none,(.fields (List.toArray [(.int 54 0),(.int 4 0),(.ref 239)])),#[]⟩
noncomputable def Ep:OO:=λ_=>⟨(.type "code"),none,(.fields (List.toArray [(.str "BadView" 448),(.str "BadView" 449),(.str "/claim/cut.py" 450),(.int 52 0),(.int 0 0),(.int 0 0),(.int 0 0),(.int 0 0),(.ref 230),(.bool false),(.int 181 0),(.ref 231),.none,.none,.none,.none,(.int 451 0),(.int 52 0),(.str "/claim/cut.py" 452)])),#[]⟩
noncomputable def Er:OO:=λ_=>⟨(.type "frame"),none,.plain,(List.toArray [(.some (.ref 232)),(.some (.ref 3)),(.some (.ref 229)),none,(.some (.str "stillheap.errors" 194)),none,(.some (.ref 0))])⟩
def By:OO:=λ_=>oT [(.str "self" 461)]
noncomputable def Es:OO:=λ_=>oG "called" "BadView.called" (inClass (top 12) 0)
noncomputable def Bz:OO:=λ_=>oC "called" 458 "BadView.called" 54 1 0 0 3 234 181 235 236 237 238 462 463
noncomputable def BA:OO:=λ_=>oF "called" "BadView.called" (inClass (top 12) 0) (.str "stillheap.errors" 194) 239
noncomputable def BB:OO:=λP=>⟨(.type "dict"),none,(.dict (List.toArray [kE P "__module__" 453 (.str "stillheap.errors" 194),kE P "__firstlineno__" 457 (.int 52 456),kE P "called" 464 (.ref 240),kE P "__static_attributes__" 465 (.ref 241),kE P "__doc__" 466 .none]) 2),#[]⟩
noncomputable def BC:OO:=λ_=>⟨(.type "type"),none,(.cls ⟨"BadView",[(.ref 45)],[(.ref 243),(.ref 45),(.type "ValueError"),(.type "Exception"),(.type "BaseException"),(.type "object")],242, "BadView",true,[],[],false,none,false⟩),(List.toArray [(.some (.ref 227)),none,(.some (.str "BadView" 446)),(.some (.str "BadView" 454)),(.some (.builtin "ValueError.__new__")),(.some (.bool true))])⟩
noncomputable def Et:OO:=λ_=>⟨(.type "super"),none,(.fields (List.toArray [(.ref 243),(.ref 243),(.ref 243)])),#[]⟩
noncomputable def Eu:OO:=λ_=>⟨(.type "builtin_function_or_method"),none,(.fields (List.toArray [(.builtin "object.__init_subclass__"),(.ref 243)])),#[]⟩
noncomputable def Ew:OO:=λP=>⟨(.type "dict"),none,(.dict (List.toArray [kE P "__module__" 476 (.str "stillheap.errors" 194),kE P "__qualname__" 478 (.str "BadAddress" 477),kE P "__firstlineno__" 480 (.int 56 479),kE P "called" 487 (.ref 259),kE P "__static_attributes__" 488 (.ref 260)]) 5),#[]⟩
noncomputable def Ex:OO:=λ_=>⟨.none,none,(.fields (List.toArray [(.int 58 0),(.int 4 0),(.ref 258)])),#[]⟩
noncomputable def Ey:OO:=λ_=>⟨(.type "code"),none,(.fields (List.toArray [(.str "BadAddress" 471),(.str "BadAddress" 472),(.str "/claim/cut.py" 473),(.int 56 0),(.int 0 0),(.int 0 0),(.int 0 0),(.int 0 0),(.ref 249),(.bool false),(.int 181 0),(.ref 250),.none,.none,.none,.none,(.int 474 0),(.int 56 0),(.str "/claim/cut.py" 475)])),#[]⟩
noncomputable def Ez:OO:=λ_=>⟨(.type "frame"),none,.plain,(List.toArray [(.some (.ref 251)),(.some (.ref 3)),(.some (.ref 248)),none,(.some (.str "stillheap.errors" 194)),none,(.some (.ref 0))])⟩
def BD:OO:=λ_=>oT [(.str "self" 484)]
noncomputable def EA:OO:=λ_=>oG "called" "BadAddress.called" (inClass (top 13) 0)
noncomputable def BE:OO:=λ_=>oC "called" 481 "BadAddress.called" 58 1 0 0 3 253 181 254 255 256 257 485 486
noncomputable def BF:OO:=λ_=>oF "called" "BadAddress.called" (inClass (top 13) 0) (.str "stillheap.errors" 194) 258
noncomputable def BG:OO:=λP=>⟨(.type "dict"),none,(.dict (List.toArray [kE P "__module__" 476 (.str "stillheap.errors" 194),kE P "__firstlineno__" 480 (.int 56 479),kE P "called" 487 (.ref 259),kE P "__static_attributes__" 488 (.ref 260),kE P "__doc__" 489 .none]) 2),#[]⟩
noncomputable def BH:OO:=λ_=>⟨(.type "type"),none,(.cls ⟨"BadAddress",[(.ref 45)],[(.ref 262),(.ref 45),(.type "ValueError"),(.type "Exception"),(.type "BaseException"),(.type "object")],261, "BadAddress",true,[],[],false,none,false⟩),(List.toArray [(.some (.ref 246)),none,(.some (.str "BadAddress" 469)),(.some (.str "BadAddress" 477)),(.some (.builtin "ValueError.__new__")),(.some (.bool true))])⟩
noncomputable def EB:OO:=λ_=>⟨(.type "super"),none,(.fields (List.toArray [(.ref 262),(.ref 262),(.ref 262)])),#[]⟩
noncomputable def EC:OO:=λ_=>⟨(.type "builtin_function_or_method"),none,(.fields (List.toArray [(.builtin "object.__init_subclass__"),(.ref 262)])),#[]⟩
noncomputable def ED:OO:=λP=>⟨(.type "dict"),none,(.dict (List.toArray [kE P "__module__" 499 (.str "stillheap.errors" 194),kE P "__qualname__" 501 (.str "BadPaper" 500),kE P "__firstlineno__" 503 (.int 60 502),kE P "called" 510 (.ref 278),kE P "__static_attributes__" 511 (.ref 279)]) 5),#[]⟩
noncomputable def EE:OO:=λ_=>⟨.none,none,(.fields (List.toArray [(.int 62 0),(.int 4 0),(.ref 277)])),#[]⟩
noncomputable def EF:OO:=λ_=>⟨(.type "code"),none,(.fields (List.toArray [(.str "BadPaper" 494),(.str "BadPaper" 495),(.str "/claim/cut.py" 496),(.int 60 0),(.int 0 0),(.int 0 0),(.int 0 0),(.int 0 0),(.ref 268),(.bool false),(.int 181 0),(.ref 269),.none,.none,.none,.none,(.int 497 0),(.int 60 0),(.str "/claim/cut.py" 498)])),#[]⟩
noncomputable def EG:OO:=λ_=>⟨(.type "frame"),none,.plain,(List.toArray [(.some (.ref 270)),(.some (.ref 3)),(.some (.ref 267)),none,(.some (.str "stillheap.errors" 194)),none,(.some (.ref 0))])⟩
def BI:OO:=λ_=>oT [(.str "self" 507)]
noncomputable def EH:OO:=λ_=>oG "called" "BadPaper.called" (inClass (top 14) 0)
noncomputable def BJ:OO:=λ_=>oC "called" 504 "BadPaper.called" 62 1 0 0 3 272 181 273 274 275 276 508 509
noncomputable def BK:OO:=λ_=>oF "called" "BadPaper.called" (inClass (top 14) 0) (.str "stillheap.errors" 194) 277
noncomputable def BL:OO:=λP=>⟨(.type "dict"),none,(.dict (List.toArray [kE P "__module__" 499 (.str "stillheap.errors" 194),kE P "__firstlineno__" 503 (.int 60 502),kE P "called" 510 (.ref 278),kE P "__static_attributes__" 511 (.ref 279),kE P "__doc__" 512 .none]) 2),#[]⟩
noncomputable def BM:OO:=λ_=>⟨(.type "type"),none,(.cls ⟨"BadPaper",[(.ref 45)],[(.ref 281),(.ref 45),(.type "ValueError"),(.type "Exception"),(.type "BaseException"),(.type "object")],280, "BadPaper",true,[],[],false,none,false⟩),(List.toArray [(.some (.ref 265)),none,(.some (.str "BadPaper" 492)),(.some (.str "BadPaper" 500)),(.some (.builtin "ValueError.__new__")),(.some (.bool true))])⟩
noncomputable def EI:OO:=λ_=>⟨(.type "super"),none,(.fields (List.toArray [(.ref 281),(.ref 281),(.ref 281)])),#[]⟩
noncomputable def EJ:OO:=λ_=>⟨(.type "builtin_function_or_method"),none,(.fields (List.toArray [(.builtin "object.__init_subclass__"),(.ref 281)])),#[]⟩
noncomputable def EL:OO:=λP=>⟨(.type "dict"),none,(.dict (List.toArray [kE P "__module__" 522 (.str "stillheap.errors" 194),kE P "__qualname__" 524 (.str "BadLog" 523),kE P "__firstlineno__" 526 (.int 64 525),kE P "__init__" 535 (.ref 297),kE P "called" 542 (.ref 304),kE P "__static_attributes__" 544 (.ref 305)]) 6),#[]⟩
noncomputable def EM:OO:=λ_=>⟨.none,none,(.fields (List.toArray [(.int 66 0),(.int 4 0),(.ref 296),(.int 70 0),(.int 4 0),(.ref 303)])),#[]⟩
noncomputable def EN:OO:=λ_=>⟨(.type "code"),none,(.fields (List.toArray [(.str "BadLog" 517),(.str "BadLog" 518),(.str "/claim/cut.py" 519),(.int 64 0),(.int 0 0),(.int 0 0),(.int 0 0),(.int 0 0),(.ref 287),(.bool false),(.int 181 0),(.ref 288),.none,.none,.none,.none,(.int 520 0),(.int 64 0),(.str "/claim/cut.py" 521)])),#[]⟩
noncomputable def EO:OO:=λ_=>⟨(.type "frame"),none,.plain,(List.toArray [(.some (.ref 289)),(.some (.ref 3)),(.some (.ref 286)),none,(.some (.str "stillheap.errors" 194)),none,(.some (.ref 0))])⟩
noncomputable def BN:OO:=λ_=>oT [(.str "self" 530),(.str "text" 531),(.str "row" 532)]
noncomputable def ER:OO:=λ_=>oG "__init__" "BadLog.__init__" (inClass (top 15) 0)
noncomputable def BO:OO:=λ_=>oC "__init__" 527 "BadLog.__init__" 66 3 0 0 3 291 181 292 293 294 295 533 534
noncomputable def BQ:OO:=λ_=>oF "__init__" "BadLog.__init__" (inClass (top 15) 0) (.str "stillheap.errors" 194) 296
def BR:OO:=λ_=>oT [(.str "self" 539)]
noncomputable def ES:OO:=λ_=>oG "called" "BadLog.called" (inClass (top 15) 1)
noncomputable def BS:OO:=λ_=>oC "called" 536 "BadLog.called" 70 1 0 0 3 298 181 299 300 301 302 540 541
noncomputable def BU:OO:=λ_=>oF "called" "BadLog.called" (inClass (top 15) 1) (.str "stillheap.errors" 194) 303
def BV:OO:=λ_=>oT [(.str "row" 543)]
noncomputable def BW:OO:=λP=>⟨(.type "dict"),none,(.dict (List.toArray [kE P "__module__" 522 (.str "stillheap.errors" 194),kE P "__firstlineno__" 526 (.int 64 525),kE P "__init__" 535 (.ref 297),kE P "called" 542 (.ref 304),kE P "__static_attributes__" 544 (.ref 305),kE P "__doc__" 545 .none]) 2),#[]⟩
noncomputable def BX:OO:=λ_=>⟨(.type "type"),none,(.cls ⟨"BadLog",[(.ref 45)],[(.ref 307),(.ref 45),(.type "ValueError"),(.type "Exception"),(.type "BaseException"),(.type "object")],306, "BadLog",true,[],[],false,none,false⟩),(List.toArray [(.some (.ref 284)),none,(.some (.str "BadLog" 515)),(.some (.str "BadLog" 523)),(.some (.builtin "ValueError.__new__")),(.some (.bool true))])⟩
noncomputable def ET:OO:=λ_=>⟨(.type "super"),none,(.fields (List.toArray [(.ref 307),(.ref 307),(.ref 307)])),#[]⟩
noncomputable def EU:OO:=λ_=>⟨(.type "builtin_function_or_method"),none,(.fields (List.toArray [(.builtin "object.__init_subclass__"),(.ref 307)])),#[]⟩
def BY:OO:=λ_=>oT [(.str "value" 553)]
def EV:OO:=λ_=>oG "kind_of" "kind_of" (top 17)
noncomputable def BZ:OO:=λ_=>oC "kind_of" 550 "kind_of" 73 1 0 0 3 310 181 311 312 313 314 554 555
noncomputable def B0:OO:=λ_=>oF "kind_of" "kind_of" (top 17) (.str "stillheap.values" 548) 315
noncomputable def B2:OO:=λ_=>oT [(.str "memory" 562),(.str "a" 563),(.str "t" 564),(.str "values" 565),(.str "k" 566),(.str "value" 567)]
def EW:OO:=λ_=>oG "lay" "lay" (top 19)
noncomputable def B3:OO:=λ_=>oC "lay" 559 "lay" 76 4 0 0 3 317 181 318 319 320 321 568 569
noncomputable def B4:OO:=λ_=>oF "lay" "lay" (top 19) (.str "stillheap.layout" 557) 322
noncomputable def EX:OO:=λ_=>oG "thing_at" "thing_at" (top 20)
noncomputable def B5:OO:=λ_=>⟨(.type "code"),none,(.fields (List.toArray [(.str "thing_at" 571),(.str "thing_at" 572),(.str "/claim/cut.py" 573),(.int 81 0),(.int 2 0),(.int 0 0),(.int 0 0),(.int 3 0),(.ref 324),(.bool true),(.int 181 0),(.ref 325),.none,.none,.none,(.ref 326),(.int 574 0),(.int 81 0),(.str "/claim/cut.py" 575)])),#[]⟩
noncomputable def B7:OO:=λ_=>oF "thing_at" "thing_at" (top 20) (.str "stillheap.layout" 557) 327
noncomputable def B9:OO:=λ_=>oT [(.str "memory" 580),(.str "a" 581)]
noncomputable def EY:OO:=λ_=>oG "fields_at" "fields_at" (top 21)
noncomputable def Ca:OO:=λ_=>oC "fields_at" 577 "fields_at" 84 2 0 0 3 329 181 330 331 332 333 582 583
noncomputable def Cb:OO:=λ_=>oF "fields_at" "fields_at" (top 21) (.str "stillheap.layout" 557) 334
noncomputable def Cc:OO:=λ_=>oT [(.str "memory" 588),(.str "a" 589),(.str "kinds" 590),(.str "word" 591)]
noncomputable def EZ:OO:=λ_=>oG "fields_told" "fields_told" (top 22)
noncomputable def Cd:OO:=λ_=>oC "fields_told" 585 "fields_told" 86 3 0 0 3 336 181 337 338 339 340 592 593
noncomputable def Ce:OO:=λ_=>oF "fields_told" "fields_told" (top 22) (.str "stillheap.layout" 557) 341
noncomputable def Cf:OO:=λ_=>oT [(.str "memory" 598),(.str "a" 599),(.str "fields" 600)]
noncomputable def E0:OO:=λ_=>oG "look_at_room" "look_at_room" (top 23)
noncomputable def Cg:OO:=λ_=>oC "look_at_room" 595 "look_at_room" 92 3 0 0 3 343 181 344 345 346 347 601 602
noncomputable def Ci:OO:=λ_=>oF "look_at_room" "look_at_room" (top 23) (.str "stillheap.layout" 557) 348
def E1:OO:=λ_=>oG "copied" "copied" (top 25)
noncomputable def Cj:OO:=λ_=>⟨(.type "code"),none,(.fields (List.toArray [(.str "copied" 606),(.str "copied" 607),(.str "/claim/cut.py" 608),(.int 96 0),(.int 4 0),(.int 0 0),(.int 0 0),(.int 3 0),(.ref 350),(.bool true),(.int 181 0),(.ref 351),.none,.none,.none,(.ref 352),(.int 609 0),(.int 96 0),(.str "/claim/cut.py" 610)])),#[]⟩
noncomputable def Ck:OO:=λ_=>oF "copied" "copied" (top 25) (.str "stillheap.copying" 604) 353
noncomputable def Cm:OO:=λ_=>oT [(.str "source" 615),(.str "roots" 616)]
noncomputable def E3:OO:=λ_=>oG "copied_words" "copied_words" (top 26)
noncomputable def Cn:OO:=λ_=>oC "copied_words" 612 "copied_words" 107 2 0 0 3 355 181 356 357 358 359 617 618
noncomputable def Co:OO:=λ_=>oF "copied_words" "copied_words" (top 26) (.str "stillheap.copying" 604) 360
noncomputable def Cp:OO:=λ_=>oT [(.str "source" 623),(.str "roots" 624),(.str "things" 625),(.str "words" 626),(.str "done" 627),(.str "a" 628)]
noncomputable def E4:OO:=λ_=>oG "things_met" "things_met" (top 27)
noncomputable def Cq:OO:=λ_=>oC "things_met" 620 "things_met" 109 2 0 0 3 362 181 363 364 365 366 629 630
noncomputable def Cr:OO:=λ_=>oF "things_met" "things_met" (top 27) (.str "stillheap.copying" 604) 367
def Cs:OO:=λ_=>oT [(.str "word" 635)]
noncomputable def E5:OO:=λ_=>oG "address_told" "address_told" (top 28)
noncomputable def Ct:OO:=λ_=>oC "address_told" 632 "address_told" 120 1 0 0 3 369 181 370 371 372 373 636 637
noncomputable def Cu:OO:=λ_=>oF "address_told" "address_told" (top 28) (.str "stillheap.copying" 604) 374
noncomputable def E6:OO:=λ_=>oG "words_among" "words_among" (top 29)
noncomputable def Cw:OO:=λ_=>⟨(.type "code"),none,(.fields (List.toArray [(.str "words_among" 639),(.str "words_among" 640),(.str "/claim/cut.py" 641),(.int 126 0),(.int 1 0),(.int 0 0),(.int 0 0),(.int 3 0),(.ref 376),(.bool true),(.int 181 0),(.ref 377),.none,.none,.none,(.ref 378),(.int 642 0),(.int 126 0),(.str "/claim/cut.py" 643)])),#[]⟩
noncomputable def Cy:OO:=λ_=>oF "words_among" "words_among" (top 29) (.str "stillheap.copying" 604) 379
noncomputable def Cz:OO:=λ_=>oT [(.str "first" 648),(.str "things" 649),(.str "places" 650),(.str "place" 651),(.str "a" 652)]
noncomputable def E7:OO:=λ_=>oG "places_from" "places_from" (top 30)
noncomputable def CA:OO:=λ_=>oC "places_from" 645 "places_from" 128 2 0 0 3 381 181 382 383 384 385 653 654
noncomputable def CB:OO:=λ_=>oF "places_from" "places_from" (top 30) (.str "stillheap.copying" 604) 386
noncomputable def CC:OO:=λ_=>oT [(.str "word" 659),(.str "places" 660),(.str "a" 661)]
noncomputable def E8:OO:=λ_=>oG "told_anew" "told_anew" (top 31)
noncomputable def CD:OO:=λ_=>oC "told_anew" 656 "told_anew" 135 2 0 0 3 388 181 389 390 391 392 662 663
noncomputable def CF:OO:=λ_=>oF "told_anew" "told_anew" (top 31) (.str "stillheap.copying" 604) 393
noncomputable def E9:OO:=λP=>⟨(.type "dict"),none,(.dict (List.toArray [kE P "__name__" 165 (.str "law_stillheap_k42_copies_refused" 735),kE P "__doc__" 166 .none,kE P "__package__" 167 .none,kE P "__loader__" 168 (.builtin "__main__.__loader__#opaque"),kE P "__spec__" 169 .none,kE P "__annotations__" 170 (.ref 6),kE P "__builtins__" 171 (.ref 4),kE P "__file__" 173 (.str "/claim/cut.py" 172),kE P "__cached__" 174 .none,kE P "_wall" 193 (.ref 21),kE P "HeapError" 228 (.ref 45),kE P "BadHand" 251 (.ref 65),kE P "BadName" 274 (.ref 84),kE P "BadField" 297 (.ref 103),kE P "BadCount" 320 (.ref 122),kE P "NoRoom" 343 (.ref 141),kE P "TooManyWords" 366 (.ref 160),kE P "RoundOn" 389 (.ref 179),kE P "NoRound" 412 (.ref 198),kE P "BadText" 445 (.ref 224),kE P "BadView" 468 (.ref 243),kE P "BadAddress" 491 (.ref 262),kE P "BadPaper" 514 (.ref 281),kE P "BadLog" 547 (.ref 307),kE P "kind_of" 556 (.ref 316),kE P "lay" 570 (.ref 323),kE P "thing_at" 576 (.ref 328),kE P "fields_at" 584 (.ref 335),kE P "fields_told" 594 (.ref 342),kE P "look_at_room" 603 (.ref 349),kE P "copied" 611 (.ref 354),kE P "copied_words" 619 (.ref 361),kE P "things_met" 631 (.ref 368),kE P "address_told" 638 (.ref 375),kE P "words_among" 644 (.ref 380),kE P "places_from" 655 (.ref 387),kE P "told_anew" 664 (.ref 394),kE P "Memory" 734 (.ref 446),kE P "_law_cell" 744 (.ref 457),kE P "_law_digits" 755 (.ref 464),kE P "_law_stream" 761 (.ref 469),kE P "_law_word_by" 769 (.ref 476),kE P "_law_built" 775 (.ref 481),kE P "_law_memory" 789 (.ref 488),kE P "_law_words" 795 (.ref 493),kE P "_law_met" 811 (.ref 500),kE P "_law_pairs" 825 (.ref 507),kE P "_law_anew" 833 (.ref 514),kE P "_law_word" 848 (.ref 521),kE P "_law_put" 854 (.ref 526),kE P "_law_bad" 870 (.ref 533),kE P "_law_good" 876 (.ref 538),kE P "law" 887 (.ref 545)]) 53),#[]⟩
noncomputable def Hh:OO:=λ_=>⟨.none,none,(.fields (List.toArray [(.int 1 0),(.int 0 0),(.ref 20),(.int 5 0),(.int 0 0),(.ref 27),(.int 12 0),(.int 0 0),(.ref 54),(.int 16 0),(.int 0 0),(.ref 73),(.int 20 0),(.int 0 0),(.ref 92),(.int 24 0),(.int 0 0),(.ref 111),(.int 28 0),(.int 0 0),(.ref 130),(.int 32 0),(.int 0 0),(.ref 149),(.int 36 0),(.int 0 0),(.ref 168),(.int 40 0),(.int 0 0),(.ref 187),(.int 44 0),(.int 0 0),(.ref 206),(.int 52 0),(.int 0 0),(.ref 232),(.int 56 0),(.int 0 0),(.ref 251),(.int 60 0),(.int 0 0),(.ref 270),(.int 64 0),(.int 0 0),(.ref 289),(.int 73 0),(.int 0 0),(.ref 315),(.int 76 0),(.int 0 0),(.ref 322),(.int 81 0),(.int 0 0),(.ref 327),(.int 84 0),(.int 0 0),(.ref 334),(.int 86 0),(.int 0 0),(.ref 341),(.int 92 0),(.int 0 0),(.ref 348),(.int 96 0),(.int 0 0),(.ref 353),(.int 107 0),(.int 0 0),(.ref 360),(.int 109 0),(.int 0 0),(.ref 367),(.int 120 0),(.int 0 0),(.ref 374),(.int 126 0),(.int 0 0),(.ref 379),(.int 128 0),(.int 0 0),(.ref 386),(.int 135 0),(.int 0 0),(.ref 393),(.int 139 0),(.int 0 0),(.ref 400),(.int 162 0),(.int 0 0),(.ref 456),(.int 166 0),(.int 0 0),(.ref 463),(.int 178 0),(.int 0 0),(.ref 468),(.int 185 0),(.int 0 0),(.ref 475),(.int 191 0),(.int 0 0),(.ref 480),(.int 209 0),(.int 0 0),(.ref 487),(.int 216 0),(.int 0 0),(.ref 492),(.int 218 0),(.int 0 0),(.ref 499),(.int 234 0),(.int 0 0),(.ref 506),(.int 243 0),(.int 0 0),(.ref 513),(.int 247 0),(.int 0 0),(.ref 520),(.int 262 0),(.int 0 0),(.ref 525),(.int 274 0),(.int 0 0),(.ref 532),(.int 290 0),(.int 0 0),(.ref 537),(.int 320 0),(.int 0 0),(.ref 544)])),#[]⟩
noncomputable def Hi:OO:=λP=>⟨(.type "dict"),none,(.dict (List.toArray [kE P "__module__" 674 (.str "stillheap.memory" 665),kE P "__qualname__" 676 (.str "Memory" 675),kE P "__firstlineno__" 678 (.int 139 677),kE P "__init__" 686 (.ref 408),kE P "size" 693 (.ref 415),kE P "at" 701 (.ref 422),kE P "put" 710 (.ref 429),kE P "copy_of" 717 (.ref 436),kE P "look_at_address" 725 (.ref 443),kE P "__static_attributes__" 727 (.ref 444)]) 10),#[]⟩
noncomputable def Hj:OO:=λ_=>⟨.none,none,(.fields (List.toArray [(.int 141 0),(.int 4 0),(.ref 407),(.int 144 0),(.int 4 0),(.ref 414),(.int 147 0),(.int 4 0),(.ref 421),(.int 151 0),(.int 4 0),(.ref 428),(.int 155 0),(.int 4 0),(.ref 435),(.int 158 0),(.int 4 0),(.ref 442)])),#[]⟩
noncomputable def Hl:OO:=λ_=>⟨(.type "code"),none,(.fields (List.toArray [(.str "Memory" 669),(.str "Memory" 670),(.str "/claim/cut.py" 671),(.int 139 0),(.int 0 0),(.int 0 0),(.int 0 0),(.int 0 0),(.ref 398),(.bool false),(.int 181 0),(.ref 399),.none,.none,.none,.none,(.int 672 0),(.int 139 0),(.str "/claim/cut.py" 673)])),#[]⟩
noncomputable def Hm:OO:=λ_=>⟨(.type "frame"),none,.plain,(List.toArray [(.some (.ref 400)),(.some (.ref 3)),(.some (.ref 397)),none,(.some (.str "stillheap.memory" 665)),none,(.some (.ref 0))])⟩
noncomputable def Fb:OO:=λ_=>oT [(.str "self" 682),(.str "size" 683)]
noncomputable def Hn:OO:=λ_=>oG "__init__" "Memory.__init__" (inClass (top 33) 0)
noncomputable def Fc:OO:=λ_=>oC "__init__" 679 "Memory.__init__" 141 2 0 0 3 402 181 403 404 405 406 684 685
noncomputable def Fd:OO:=λ_=>oF "__init__" "Memory.__init__" (inClass (top 33) 0) (.str "stillheap.memory" 665) 407
def Fe:OO:=λ_=>oT [(.str "self" 690)]
noncomputable def Ho:OO:=λ_=>oG "size" "Memory.size" (inClass (top 33) 1)
noncomputable def Ff:OO:=λ_=>oC "size" 687 "Memory.size" 144 1 0 0 3 409 181 410 411 412 413 691 692
noncomputable def Fg:OO:=λ_=>oF "size" "Memory.size" (inClass (top 33) 1) (.str "stillheap.memory" 665) 414
noncomputable def Fh:OO:=λ_=>oT [(.str "self" 697),(.str "a" 698)]
noncomputable def Hq:OO:=λ_=>oG "at" "Memory.at" (inClass (top 33) 2)
noncomputable def Fi:OO:=λ_=>oC "at" 694 "Memory.at" 147 2 0 0 3 416 181 417 418 419 420 699 700
noncomputable def Fj:OO:=λ_=>oF "at" "Memory.at" (inClass (top 33) 2) (.str "stillheap.memory" 665) 421
noncomputable def Fl:OO:=λ_=>oT [(.str "self" 705),(.str "a" 706),(.str "word" 707)]
noncomputable def Hr:OO:=λ_=>oG "put" "Memory.put" (inClass (top 33) 3)
noncomputable def Fm:OO:=λ_=>oC "put" 702 "Memory.put" 151 3 0 0 3 423 181 424 425 426 427 708 709
noncomputable def Fn:OO:=λ_=>oF "put" "Memory.put" (inClass (top 33) 3) (.str "stillheap.memory" 665) 428
def Fo:OO:=λ_=>oT [(.str "self" 714)]
noncomputable def Ht:OO:=λ_=>oG "copy_of" "Memory.copy_of" (inClass (top 33) 4)
noncomputable def Fp:OO:=λ_=>oC "copy_of" 711 "Memory.copy_of" 155 1 0 0 3 430 181 431 432 433 434 715 716
noncomputable def Fq:OO:=λ_=>oF "copy_of" "Memory.copy_of" (inClass (top 33) 4) (.str "stillheap.memory" 665) 435
noncomputable def Fs:OO:=λ_=>oT [(.str "self" 721),(.str "a" 722)]
noncomputable def Hu:OO:=λ_=>oG "look_at_address" "Memory.look_at_address" (inClass (top 33) 5)
noncomputable def Ft:OO:=λ_=>oC "look_at_address" 718 "Memory.look_at_address" 158 2 0 0 3 437 181 438 439 440 441 723 724
noncomputable def Fu:OO:=λ_=>oF "look_at_address" "Memory.look_at_address" (inClass (top 33) 5) (.str "stillheap.memory" 665) 442
def Fv:OO:=λ_=>oT [(.str "cells" 726)]
noncomputable def Fw:OO:=λP=>⟨(.type "dict"),none,(.dict (List.toArray [kE P "__module__" 674 (.str "stillheap.memory" 665),kE P "__firstlineno__" 678 (.int 139 677),kE P "__init__" 686 (.ref 408),kE P "size" 693 (.ref 415),kE P "at" 701 (.ref 422),kE P "put" 710 (.ref 429),kE P "copy_of" 717 (.ref 436),kE P "look_at_address" 725 (.ref 443),kE P "__static_attributes__" 727 (.ref 444),kE P "__dict__" 729 (.ref 447),kE P "__weakref__" 731 (.ref 448),kE P "__doc__" 732 .none]) 4),#[]⟩
noncomputable def Fx:OO:=λ_=>⟨(.type "type"),none,(.cls ⟨"Memory",[(.type "object")],[(.ref 446),(.type "object")],445, "Memory",true,[],[],false,none,false⟩),(List.toArray [none,none,(.some (.str "Memory" 667)),(.some (.str "Memory" 675)),(.some (.builtin "object.__new__")),(.some (.bool true))])⟩
noncomputable def Fy:OO:=λ_=>⟨(.type "getset_descriptor"),none,(.fields (List.toArray [(.str "__dict__" 728),(.ref 446),(.builtin "function.__dict__"),(.builtin "function.__dict__#set")])),#[]⟩
noncomputable def Fz:OO:=λ_=>⟨(.type "getset_descriptor"),none,(.fields (List.toArray [(.str "__weakref__" 730),(.ref 446),(.builtin "ExceptionGroup.__weakref__"),.none])),#[]⟩
noncomputable def Hv:OO:=λ_=>⟨(.type "super"),none,(.fields (List.toArray [(.ref 446),(.ref 446),(.ref 446)])),#[]⟩
noncomputable def Hw:OO:=λ_=>⟨(.type "builtin_function_or_method"),none,(.fields (List.toArray [(.builtin "object.__init_subclass__"),(.ref 446)])),#[]⟩
noncomputable def FA:OO:=λ_=>oT [(.str "script" 740),(.str "k" 741)]
noncomputable def HA:OO:=λ_=>oG "_law_cell" "_law_cell" (top 35)
noncomputable def FC:OO:=λ_=>oC "_law_cell" 737 "_law_cell" 162 2 0 0 3 451 181 452 453 454 455 742 743
noncomputable def FD:OO:=λ_=>oF "_law_cell" "_law_cell" (top 35) (.str "law_stillheap_k42_copies_refused" 735) 456
noncomputable def FE:OO:=λ_=>oT [(.str "cell" 748),(.str "rest" 749),(.str "told" 750),(.str "k" 751),(.str "near" 752)]
noncomputable def HB:OO:=λ_=>oG "_law_digits" "_law_digits" (top 36)
noncomputable def FF:OO:=λ_=>oC "_law_digits" 745 "_law_digits" 166 1 0 0 3 458 181 459 460 461 462 753 754
noncomputable def FG:OO:=λ_=>oF "_law_digits" "_law_digits" (top 36) (.str "law_stillheap_k42_copies_refused" 735) 463
noncomputable def HC:OO:=λ_=>oG "_law_stream" "_law_stream" (top 37)
noncomputable def FH:OO:=λ_=>⟨(.type "code"),none,(.fields (List.toArray [(.str "_law_stream" 756),(.str "_law_stream" 757),(.str "/claim/cut.py" 758),(.int 178 0),(.int 2 0),(.int 0 0),(.int 0 0),(.int 3 0),(.ref 465),(.bool true),(.int 181 0),(.ref 466),.none,.none,.none,(.ref 467),(.int 759 0),(.int 178 0),(.str "/claim/cut.py" 760)])),#[]⟩
noncomputable def FJ:OO:=λ_=>oF "_law_stream" "_law_stream" (top 37) (.str "law_stillheap_k42_copies_refused" 735) 468
noncomputable def FK:OO:=λ_=>oT [(.str "number" 765),(.str "places" 766)]
noncomputable def HD:OO:=λ_=>oG "_law_word_by" "_law_word_by" (top 38)
noncomputable def FL:OO:=λ_=>oC "_law_word_by" 762 "_law_word_by" 185 2 0 0 3 470 181 471 472 473 474 767 768
noncomputable def FN:OO:=λ_=>oF "_law_word_by" "_law_word_by" (top 38) (.str "law_stillheap_k42_copies_refused" 735) 475
noncomputable def HE:OO:=λ_=>oG "_law_built" "_law_built" (top 39)
noncomputable def Am:OO:=λ_=>⟨(.type "code"),none,(.fields (List.toArray [(.str "_law_built" 770),(.str "_law_built" 771),(.str "/claim/cut.py" 772),(.int 191 0),(.int 1 0),(.int 0 0),(.int 0 0),(.int 3 0),(.ref 477),(.bool true),(.int 181 0),(.ref 478),.none,.none,.none,(.ref 479),(.int 773 0),(.int 191 0),(.str "/claim/cut.py" 774)])),#[]⟩
noncomputable def FO:OO:=λ_=>oF "_law_built" "_law_built" (top 39) (.str "law_stillheap_k42_copies_refused" 735) 480
noncomputable def FP:OO:=λ_=>oT [(.str "things" 779),(.str "size" 780),(.str "memory" 781),(.str "t" 782),(.str "a" 783),(.str "fields" 784),(.str "k" 785),(.str "word" 786)]
noncomputable def HF:OO:=λ_=>oG "_law_memory" "_law_memory" (top 40)
noncomputable def FQ:OO:=λ_=>oC "_law_memory" 776 "_law_memory" 209 2 0 0 3 482 181 483 484 485 486 787 788
noncomputable def FR:OO:=λ_=>oF "_law_memory" "_law_memory" (top 40) (.str "law_stillheap_k42_copies_refused" 735) 487
noncomputable def HG:OO:=λ_=>oG "_law_words" "_law_words" (top 41)
noncomputable def FT:OO:=λ_=>⟨(.type "code"),none,(.fields (List.toArray [(.str "_law_words" 790),(.str "_law_words" 791),(.str "/claim/cut.py" 792),(.int 216 0),(.int 1 0),(.int 0 0),(.int 0 0),(.int 3 0),(.ref 489),(.bool true),(.int 181 0),(.ref 490),.none,.none,.none,(.ref 491),(.int 793 0),(.int 216 0),(.str "/claim/cut.py" 794)])),#[]⟩
noncomputable def FU:OO:=λ_=>oF "_law_words" "_law_words" (top 41) (.str "law_stillheap_k42_copies_refused" 735) 492
noncomputable def FV:OO:=λ_=>oT [(.str "things" 799),(.str "roots" 800),(.str "at" 801),(.str "t" 802),(.str "a" 803),(.str "fields" 804),(.str "row" 805),(.str "left" 806),(.str "place" 807),(.str "word" 808)]
noncomputable def HH:OO:=λ_=>oG "_law_met" "_law_met" (top 42)
noncomputable def FW:OO:=λ_=>oC "_law_met" 796 "_law_met" 218 2 0 0 3 494 181 495 496 497 498 809 810
noncomputable def FX:OO:=λ_=>oF "_law_met" "_law_met" (top 42) (.str "law_stillheap_k42_copies_refused" 735) 499
noncomputable def HI:OO:=λ_=>oT [(.str "things" 815),(.str "roots" 816),(.str "first" 817),(.str "at" 818),(.str "t" 819),(.str "a" 820),(.str "fields" 821),(.str "pairs" 822)]
noncomputable def HJ:OO:=λ_=>oG "_law_pairs" "_law_pairs" (top 43)
noncomputable def HK:OO:=λ_=>oC "_law_pairs" 812 "_law_pairs" 234 3 0 0 3 501 181 502 503 504 505 823 824
noncomputable def HL:OO:=λ_=>oF "_law_pairs" "_law_pairs" (top 43) (.str "law_stillheap_k42_copies_refused" 735) 506
noncomputable def HM:OO:=λ_=>oT [(.str "word" 829),(.str "pairs" 830)]
noncomputable def HN:OO:=λ_=>oG "_law_anew" "_law_anew" (top 44)
noncomputable def HP:OO:=λ_=>oC "_law_anew" 826 "_law_anew" 243 2 0 0 3 508 181 509 510 511 512 831 832
noncomputable def HQ:OO:=λ_=>oF "_law_anew" "_law_anew" (top 44) (.str "law_stillheap_k42_copies_refused" 735) 513
noncomputable def FY:OO:=λ_=>oT [(.str "way" 837),(.str "source" 838),(.str "target" 839),(.str "first" 840),(.str "roots" 841),(.str "word" 842),(.str "e" 843),(.str "others" 844),(.str "marks" 845)]
noncomputable def HR:OO:=λ_=>oG "_law_word" "_law_word" (top 45)
noncomputable def FZ:OO:=λ_=>oC "_law_word" 834 "_law_word" 247 5 0 0 3 515 181 516 517 518 519 846 847
noncomputable def F0:OO:=λ_=>oF "_law_word" "_law_word" (top 45) (.str "law_stillheap_k42_copies_refused" 735) 520
def HS:OO:=λ_=>oG "_law_put" "_law_put" (top 46)
noncomputable def F2:OO:=λ_=>⟨(.type "code"),none,(.fields (List.toArray [(.str "_law_put" 849),(.str "_law_put" 850),(.str "/claim/cut.py" 851),(.int 262 0),(.int 4 0),(.int 0 0),(.int 0 0),(.int 3 0),(.ref 522),(.bool true),(.int 181 0),(.ref 523),.none,.none,.none,(.ref 524),(.int 852 0),(.int 262 0),(.str "/claim/cut.py" 853)])),#[]⟩
noncomputable def F3:OO:=λ_=>oF "_law_put" "_law_put" (top 46) (.str "law_stillheap_k42_copies_refused" 735) 525
noncomputable def F4:OO:=λ_=>oT [(.str "things" 858),(.str "roots" 859),(.str "forward" 860),(.str "at" 861),(.str "t" 862),(.str "a" 863),(.str "fields" 864),(.str "met" 865),(.str "left" 866),(.str "word" 867)]
def HU:OO:=λ_=>oG "_law_bad" "_law_bad" (top 47)
noncomputable def F5:OO:=λ_=>oC "_law_bad" 855 "_law_bad" 274 3 0 0 3 527 181 528 529 530 531 868 869
noncomputable def F6:OO:=λ_=>oF "_law_bad" "_law_bad" (top 47) (.str "law_stillheap_k42_copies_refused" 735) 532
noncomputable def HV:OO:=λ_=>oG "_law_good" "_law_good" (top 48)
noncomputable def F7:OO:=λ_=>⟨(.type "code"),none,(.fields (List.toArray [(.str "_law_good" 871),(.str "_law_good" 872),(.str "/claim/cut.py" 873),(.int 290 0),(.int 4 0),(.int 0 0),(.int 0 0),(.int 3 0),(.ref 534),(.bool true),(.int 181 0),(.ref 535),.none,.none,.none,(.ref 536),(.int 874 0),(.int 290 0),(.str "/claim/cut.py" 875)])),#[]⟩
noncomputable def F8:OO:=λ_=>oF "_law_good" "_law_good" (top 48) (.str "law_stillheap_k42_copies_refused" 735) 537
noncomputable def F9:OO:=λ_=>oT [(.str "script" 880),(.str "things" 881),(.str "roots" 882),(.str "size" 883),(.str "cell" 884)]
def HW:OO:=λ_=>oG "law" "law" (top 49)
noncomputable def Ga:OO:=λ_=>oC "law" 877 "law" 320 1 0 0 3 539 181 540 541 542 543 885 886
noncomputable def Gb:OO:=λ_=>oF "law" "law" (top 49) (.str "law_stillheap_k42_copies_refused" 735) 544
noncomputable def hTa(P:Params):BT:=mkT P 12 (o0::o1::o2::o3::o4::o5::o6::o7::o8::o9::o10::o7::o8::o11::o12::[])
noncomputable def hSa(w:World)(os:OsState):SharedT:=⟨hTa w.params,15,⟨[],[],[],0,[],[],false,(List.toArray []),[],0,false,false,false,0,[2000,10,10],false,0,true,[],[],0,false⟩,#[],⟨0,0,0,0⟩,187,os⟩
noncomputable def hTb(P:Params):BT:=mkT P 12 (o0::o1::o2::o3::o4::o5::o6::o7::o8::o9::o10::o7::o8::o11::o12::[])
noncomputable def hSb(w:World)(os:OsState):SharedT:=⟨hTb w.params,15,⟨[],[],[],0,[],[],false,(List.toArray []),[],0,false,false,false,0,[2000,10,10],false,0,true,[],[],0,false⟩,#[],⟨0,0,0,0⟩,187,os⟩
noncomputable def hT0(P:Params):BT:=mkT P 12 (o0::o1::o2::o13::o4::o5::o6::o7::o8::o9::o10::o7::o14::o11::o12::o7::o8::o15::o7::o16::o17::o18::o19::o20::o21::o7::o22::o23::o24::o7::o8::o25::o7::o26::o27::o28::o7::o8::o29::o7::o30::o31::o32::o7::o33::o34::o35::o36::o37::o38::o20::o39::o7::o40::o41::o42::o7::o8::o43::o7::o44::o45::o46::o7::o47::o48::o49::o50::o38::o20::o51::o7::o52::o53::o54::o7::o8::o55::o7::o56::o57::o58::o7::o59::o60::o61::o62::o38::o20::o63::o7::o64::o65::o66::o7::o8::o67::o7::o68::o69::o70::o7::o71::o72::o73::o74::o38::o20::o75::o7::o76::o77::o78::o7::o8::o79::o7::o80::o81::o82::o7::o83::o84::o85::o86::o38::o20::o87::o7::o88::o89::o90::o7::o8::o91::o7::o92::o93::o94::o7::o95::o96::o97::o98::o38::o20::o99::o7::A3::A4::A5::o7::o8::Ab::o7::A6::Ac::Ae::o7::Af::Ag::A7::A8::o38::o20::A9::o7::Ba::Bb::Bc::o7::o8::Ah::o7::Bd::Ai::Aj::o7::Ak::Al::Be::Bf::[])
noncomputable def hS0(w:World)(os:OsState):SharedT:=⟨hT0 w.params,182,⟨[],[],[],0,[],[],false,(List.toArray []),[],0,false,false,false,0,[2000,10,10],false,0,true,[],[],0,false⟩,#[],⟨0,0,0,0⟩,390,os⟩
noncomputable def hT1(P:Params):BT:=mkT P 12 (o0::o1::o2::IX::o4::o5::o6::o7::o8::o9::o10::o7::IY::o11::o12::o7::o8::o15::o7::o16::o17::o18::o19::o20::o21::o7::o22::o23::o24::o7::o8::o25::o7::o26::o27::o28::o7::o8::o29::o7::o30::o31::o32::o7::o33::Bg::o35::o36::o37::o38::o20::o39::o7::o40::o41::o42::o7::o8::o43::o7::o44::o45::o46::o7::o47::o48::o49::o50::o38::o20::o51::o7::o52::o53::o54::o7::o8::o55::o7::o56::o57::o58::o7::o59::o60::o61::o62::o38::o20::o63::o7::o64::o65::o66::o7::o8::o67::o7::o68::o69::o70::o7::o71::o72::o73::o74::o38::o20::o75::o7::o76::o77::o78::o7::o8::o79::o7::o80::o81::o82::o7::o83::o84::o85::o86::o38::o20::o87::o7::o88::o89::o90::o7::o8::o91::o7::o92::o93::o94::o7::o95::o96::o97::o98::o38::o20::o99::o7::A3::A4::A5::o7::o8::Ab::o7::A6::Ac::Ae::o7::Af::Ag::A7::A8::o38::o20::A9::o7::Ba::Bb::Bc::o7::o8::Ah::o7::Bd::Ai::Aj::o7::Ak::Al::Be::Bf::o38::o20::D8::o7::D9::Ea::Eb::o7::o8::Bh::o7::Ec::Bi::Bj::o7::Bk::Bl::Ed::Ee::o38::o20::Ef::o7::Eg::Eh::Ei::o7::o8::Bm::o7::Ej::Bn::Bo::o7::o8::Bp::o7::Ek::Bq::Br::Bs::Bv::Bx::El::Em::o38::o20::En::o7::Eo::Ep::Er::o7::o8::By::o7::Es::Bz::BA::o7::BB::BC::Et::Eu::o38::o20::Ew::o7::Ex::Ey::Ez::o7::o8::BD::o7::EA::BE::BF::o7::BG::BH::EB::EC::o38::o20::ED::o7::EE::EF::EG::o7::o8::BI::o7::EH::BJ::BK::o7::BL::BM::EI::EJ::o38::o20::EL::o7::EM::EN::EO::o7::o8::BN::o7::ER::BO::BQ::o7::o8::BR::o7::ES::BS::BU::BV::BW::BX::ET::EU::o7::o8::BY::o7::EV::BZ::B0::o7::o8::B2::o7::EW::B3::B4::o7::o8::EX::B5::B7::o7::o8::B9::o7::EY::Ca::Cb::o7::o8::Cc::o7::EZ::Cd::Ce::o7::o8::Cf::o7::E0::Cg::Ci::o7::o8::E1::Cj::Ck::o7::o8::Cm::o7::E3::Cn::Co::o7::o8::Cp::o7::E4::Cq::Cr::o7::o8::Cs::o7::E5::Ct::Cu::o7::o8::E6::Cw::Cy::o7::o8::Cz::o7::E7::CA::CB::o7::o8::CC::o7::E8::CD::CF::[])
noncomputable def hS1(w:World)(os:OsState):SharedT:=⟨hT1 w.params,395,⟨[],[],[],0,[],[],false,(List.toArray []),[],0,false,false,false,0,[2000,10,10],false,0,true,[],[],0,false⟩,#[],⟨0,0,0,0⟩,667,os⟩
noncomputable def hT2(P:Params):BT:=mkT P 12 (o0::o1::o2::E9::o4::o5::o6::o7::o8::o9::o10::o7::Hh::o11::o12::o7::o8::o15::o7::o16::o17::o18::o19::o20::o21::o7::o22::o23::o24::o7::o8::o25::o7::o26::o27::o28::o7::o8::o29::o7::o30::o31::o32::o7::o33::Bg::o35::o36::o37::o38::o20::o39::o7::o40::o41::o42::o7::o8::o43::o7::o44::o45::o46::o7::o47::o48::o49::o50::o38::o20::o51::o7::o52::o53::o54::o7::o8::o55::o7::o56::o57::o58::o7::o59::o60::o61::o62::o38::o20::o63::o7::o64::o65::o66::o7::o8::o67::o7::o68::o69::o70::o7::o71::o72::o73::o74::o38::o20::o75::o7::o76::o77::o78::o7::o8::o79::o7::o80::o81::o82::o7::o83::o84::o85::o86::o38::o20::o87::o7::o88::o89::o90::o7::o8::o91::o7::o92::o93::o94::o7::o95::o96::o97::o98::o38::o20::o99::o7::A3::A4::A5::o7::o8::Ab::o7::A6::Ac::Ae::o7::Af::Ag::A7::A8::o38::o20::A9::o7::Ba::Bb::Bc::o7::o8::Ah::o7::Bd::Ai::Aj::o7::Ak::Al::Be::Bf::o38::o20::D8::o7::D9::Ea::Eb::o7::o8::Bh::o7::Ec::Bi::Bj::o7::Bk::Bl::Ed::Ee::o38::o20::Ef::o7::Eg::Eh::Ei::o7::o8::Bm::o7::Ej::Bn::Bo::o7::o8::Bp::o7::Ek::Bq::Br::Bs::Bv::Bx::El::Em::o38::o20::En::o7::Eo::Ep::Er::o7::o8::By::o7::Es::Bz::BA::o7::BB::BC::Et::Eu::o38::o20::Ew::o7::Ex::Ey::Ez::o7::o8::BD::o7::EA::BE::BF::o7::BG::BH::EB::EC::o38::o20::ED::o7::EE::EF::EG::o7::o8::BI::o7::EH::BJ::BK::o7::BL::BM::EI::EJ::o38::o20::EL::o7::EM::EN::EO::o7::o8::BN::o7::ER::BO::BQ::o7::o8::BR::o7::ES::BS::BU::BV::BW::BX::ET::EU::o7::o8::BY::o7::EV::BZ::B0::o7::o8::B2::o7::EW::B3::B4::o7::o8::EX::B5::B7::o7::o8::B9::o7::EY::Ca::Cb::o7::o8::Cc::o7::EZ::Cd::Ce::o7::o8::Cf::o7::E0::Cg::Ci::o7::o8::E1::Cj::Ck::o7::o8::Cm::o7::E3::Cn::Co::o7::o8::Cp::o7::E4::Cq::Cr::o7::o8::Cs::o7::E5::Ct::Cu::o7::o8::E6::Cw::Cy::o7::o8::Cz::o7::E7::CA::CB::o7::o8::CC::o7::E8::CD::CF::o7::o20::Hi::o7::Hj::Hl::Hm::o7::o8::Fb::o7::Hn::Fc::Fd::o7::o8::Fe::o7::Ho::Ff::Fg::o7::o8::Fh::o7::Hq::Fi::Fj::o7::o8::Fl::o7::Hr::Fm::Fn::o7::o8::Fo::o7::Ht::Fp::Fq::o7::o8::Fs::o7::Hu::Ft::Fu::Fv::Fw::Fx::Fy::Fz::Hv::Hw::o7::o8::FA::o7::HA::FC::FD::o7::o8::FE::o7::HB::FF::FG::o7::o8::HC::FH::FJ::o7::o8::FK::o7::HD::FL::FN::o7::o8::HE::Am::FO::o7::o8::FP::o7::HF::FQ::FR::o7::o8::HG::FT::FU::o7::o8::FV::o7::HH::FW::FX::o7::o8::HI::o7::HJ::HK::HL::o7::o8::HM::o7::HN::HP::HQ::o7::o8::FY::o7::HR::FZ::F0::o7::o8::HS::F2::F3::o7::o8::F4::o7::HU::F5::F6::o7::o8::HV::F7::F8::o7::o8::F9::o7::HW::Ga::Gb::[])
noncomputable def hS2(w:World)(os:OsState):SharedT:=⟨hT2 w.params,546,⟨[],[],[],0,[],[],false,(List.toArray []),[],0,false,false,false,0,[2000,10,10],false,0,true,[],[],0,false⟩,#[],⟨0,0,0,0⟩,888,os⟩
noncomputable def hTf(P:Params):BT:=mkT P 12 (o0::o1::o2::E9::o4::o5::o6::o7::o8::o9::o10::o7::Hh::o11::o12::o7::o8::o15::o7::o16::o17::o18::o19::o20::o21::o7::o22::o23::o24::o7::o8::o25::o7::o26::o27::o28::o7::o8::o29::o7::o30::o31::o32::o7::o33::Bg::o35::o36::o37::o38::o20::o39::o7::o40::o41::o42::o7::o8::o43::o7::o44::o45::o46::o7::o47::o48::o49::o50::o38::o20::o51::o7::o52::o53::o54::o7::o8::o55::o7::o56::o57::o58::o7::o59::o60::o61::o62::o38::o20::o63::o7::o64::o65::o66::o7::o8::o67::o7::o68::o69::o70::o7::o71::o72::o73::o74::o38::o20::o75::o7::o76::o77::o78::o7::o8::o79::o7::o80::o81::o82::o7::o83::o84::o85::o86::o38::o20::o87::o7::o88::o89::o90::o7::o8::o91::o7::o92::o93::o94::o7::o95::o96::o97::o98::o38::o20::o99::o7::A3::A4::A5::o7::o8::Ab::o7::A6::Ac::Ae::o7::Af::Ag::A7::A8::o38::o20::A9::o7::Ba::Bb::Bc::o7::o8::Ah::o7::Bd::Ai::Aj::o7::Ak::Al::Be::Bf::o38::o20::D8::o7::D9::Ea::Eb::o7::o8::Bh::o7::Ec::Bi::Bj::o7::Bk::Bl::Ed::Ee::o38::o20::Ef::o7::Eg::Eh::Ei::o7::o8::Bm::o7::Ej::Bn::Bo::o7::o8::Bp::o7::Ek::Bq::Br::Bs::Bv::Bx::El::Em::o38::o20::En::o7::Eo::Ep::Er::o7::o8::By::o7::Es::Bz::BA::o7::BB::BC::Et::Eu::o38::o20::Ew::o7::Ex::Ey::Ez::o7::o8::BD::o7::EA::BE::BF::o7::BG::BH::EB::EC::o38::o20::ED::o7::EE::EF::EG::o7::o8::BI::o7::EH::BJ::BK::o7::BL::BM::EI::EJ::o38::o20::EL::o7::EM::EN::EO::o7::o8::BN::o7::ER::BO::BQ::o7::o8::BR::o7::ES::BS::BU::BV::BW::BX::ET::EU::o7::o8::BY::o7::EV::BZ::B0::o7::o8::B2::o7::EW::B3::B4::o7::o8::EX::B5::B7::o7::o8::B9::o7::EY::Ca::Cb::o7::o8::Cc::o7::EZ::Cd::Ce::o7::o8::Cf::o7::E0::Cg::Ci::o7::o8::E1::Cj::Ck::o7::o8::Cm::o7::E3::Cn::Co::o7::o8::Cp::o7::E4::Cq::Cr::o7::o8::Cs::o7::E5::Ct::Cu::o7::o8::E6::Cw::Cy::o7::o8::Cz::o7::E7::CA::CB::o7::o8::CC::o7::E8::CD::CF::o7::o20::Hi::o7::Hj::Hl::Hm::o7::o8::Fb::o7::Hn::Fc::Fd::o7::o8::Fe::o7::Ho::Ff::Fg::o7::o8::Fh::o7::Hq::Fi::Fj::o7::o8::Fl::o7::Hr::Fm::Fn::o7::o8::Fo::o7::Ht::Fp::Fq::o7::o8::Fs::o7::Hu::Ft::Fu::Fv::Fw::Fx::Fy::Fz::Hv::Hw::o7::o8::FA::o7::HA::FC::FD::o7::o8::FE::o7::HB::FF::FG::o7::o8::HC::FH::FJ::o7::o8::FK::o7::HD::FL::FN::o7::o8::HE::Am::FO::o7::o8::FP::o7::HF::FQ::FR::o7::o8::HG::FT::FU::o7::o8::FV::o7::HH::FW::FX::o7::o8::HI::o7::HJ::HK::HL::o7::o8::HM::o7::HN::HP::HQ::o7::o8::FY::o7::HR::FZ::F0::o7::o8::HS::F2::F3::o7::o8::F4::o7::HU::F5::F6::o7::o8::HV::F7::F8::o7::o8::F9::o7::HW::Ga::Gb::[])
noncomputable def hSf(w:World)(os:OsState):SharedT:=⟨hTf w.params,546,⟨[],[],[],0,[],[],false,(List.toArray []),[],0,false,false,false,0,[2000,10,10],false,0,true,[],[],0,false⟩,#[],⟨0,0,0,0⟩,888,os⟩
def An:Env:={scope:=(PySem.Challenge.pw_stillheap_k42_copies_refused).main.scope,locals:=mainNs,globals:=mainNs,cells:=[],code:=(.ref 13),frame:=some 14}
def hG0:List Stmt:=[top 0,top 1,top 2,top 3,top 4,top 5,top 6,top 7,top 8,top 9]
def hG1:List Stmt:=[top 10,top 11,top 12,top 13,top 14,top 15,top 16,top 17,top 18,top 19,top 20,top 21,top 22,top 23,top 24,top 25,top 26,top 27,top 28,top 29,top 30,top 31,top 32]
def hG2:List Stmt:=[top 33,top 34,top 35,top 36,top 37,top 38,top 39,top 40,top 41,top 42,top 43,top 44,top 45,top 46,top 47,top 48,top 49]
def hB:List Stmt:=hG0++(hG1++(hG2++[]))
def hC:Code:=.body hB An
abbrev hF:List Frame:=[topFrame ⟨0,0,0,0⟩]
theorem IZ(w:World)(os:OsState):topGo treeTable PySem.Challenge.pw_stillheap_k42_copies_refused w 11 (.some (.ref 6)) 12 ⟨boot_heap w.params,#[],boot_drawn,boot_toks,os⟩ (topStub PySem.Challenge.pw_stillheap_k42_copies_refused)=some ((hSa w os).abs,⟨denote treeTable hC,hC,⟨0,0,0,0⟩,hF⟩):=by kernel_rfl
theorem I0(w:World)(os:OsState):segRun treeTable PySem.Challenge.pw_stillheap_k42_copies_refused w 11 (.some (.ref 6)) 1 1 (hSa w os).abs (blockOf hB An hC ⟨0,0,0,0⟩ hF)=some (.next,(hSb w os).abs,hC,⟨0,0,0,0⟩):=by kernel_rfl
theorem hR0(w:World)(os:OsState):segRunT treeTable PySem.Challenge.pw_stillheap_k42_copies_refused w 11 (.some (.ref 6)) 1 1988 (hSb w os) (piecesOf hG0 An hC ⟨0,0,0,0⟩ hF)=some (.next,hS0 w os,hC,⟨36,0,39,16⟩):=by kernel_rfl
theorem hR1(w:World)(os:OsState):segRunT treeTable PySem.Challenge.pw_stillheap_k42_copies_refused w 11 (.some (.ref 6)) 1 1954 (hS0 w os) (piecesOf hG1 An hC ⟨36,0,39,16⟩ hF)=some (.next,hS1 w os,hC,⟨138,0,138,8⟩):=by kernel_rfl
theorem hR2(w:World)(os:OsState):segRunT treeTable PySem.Challenge.pw_stillheap_k42_copies_refused w 11 (.some (.ref 6)) 1 862 (hS1 w os) (piecesOf hG2 An hC ⟨138,0,138,8⟩ hF)=some (.next,hS2 w os,hC,⟨320,0,325,15⟩):=by kernel_rfl
theorem Ja(w:World)(os:OsState):topRun treeTable PySem.Challenge.pw_stillheap_k42_copies_refused w 11 (.some (.ref 6)) 2 (hS2 w os).abs ⟨doneF .next,hC,⟨320,0,325,15⟩,hF⟩=some (hSf w os).abs:=by kernel_rfl
theorem Jb(w:World)(os:OsState):topRun treeTable PySem.Challenge.pw_stillheap_k42_copies_refused w 11 (.some (.ref 6)) (12+(1+(1988+(1954+(862+2))))) ⟨boot_heap w.params,#[],boot_drawn,boot_toks,os⟩ (topStub PySem.Challenge.pw_stillheap_k42_copies_refused)=some (hSf w os).abs:=go_top (IZ w os) (piece_block (I0 w os) (piece_app (segRun_of (hR0 w os)) (piece_app (segRun_of (hR1 w os)) (piece_app (segRun_of (hR2 w os)) (Ja w os)))))
noncomputable def hK0(P:Params):Frag:=(nat_lit 2,o2 P)::(nat_lit 3,E9 P)::(nat_lit 15,o7 P)::(nat_lit 17,o15 P)::(nat_lit 18,o7 P)::(nat_lit 20,o17 P)::(nat_lit 21,o18 P)::(nat_lit 22,o19 P)::(nat_lit 29,o7 P)::(nat_lit 31,o25 P)::(nat_lit 32,o7 P)::(nat_lit 34,o27 P)::(nat_lit 35,o28 P)::(nat_lit 36,o7 P)::(nat_lit 38,o29 P)::(nat_lit 39,o7 P)::(nat_lit 41,o31 P)::(nat_lit 42,o32 P)::(nat_lit 43,o7 P)::(nat_lit 44,o33 P)::(nat_lit 45,Bg P)::(nat_lit 46,o35 P)::(nat_lit 49,o38 P)::(nat_lit 56,o7 P)::(nat_lit 58,o43 P)::(nat_lit 59,o7 P)::(nat_lit 61,o45 P)::(nat_lit 62,o46 P)::(nat_lit 63,o7 P)::(nat_lit 64,o47 P)::(nat_lit 65,o48 P)::(nat_lit 68,o38 P)::(nat_lit 75,o7 P)::(nat_lit 77,o55 P)::(nat_lit 78,o7 P)::(nat_lit 80,o57 P)::(nat_lit 81,o58 P)::(nat_lit 82,o7 P)::(nat_lit 83,o59 P)::(nat_lit 84,o60 P)::(nat_lit 87,o38 P)::(nat_lit 94,o7 P)::(nat_lit 96,o67 P)::(nat_lit 97,o7 P)::(nat_lit 99,o69 P)::(nat_lit 100,o70 P)::(nat_lit 101,o7 P)::(nat_lit 102,o71 P)::(nat_lit 103,o72 P)::(nat_lit 106,o38 P)::(nat_lit 113,o7 P)::(nat_lit 115,o79 P)::(nat_lit 116,o7 P)::(nat_lit 118,o81 P)::(nat_lit 119,o82 P)::(nat_lit 120,o7 P)::(nat_lit 121,o83 P)::(nat_lit 122,o84 P)::(nat_lit 125,o38 P)::(nat_lit 132,o7 P)::(nat_lit 134,o91 P)::(nat_lit 135,o7 P)::(nat_lit 137,o93 P)::(nat_lit 138,o94 P)::(nat_lit 139,o7 P)::(nat_lit 140,o95 P)::(nat_lit 141,o96 P)::(nat_lit 144,o38 P)::(nat_lit 151,o7 P)::(nat_lit 153,Ab P)::(nat_lit 154,o7 P)::(nat_lit 156,Ac P)::(nat_lit 157,Ae P)::(nat_lit 158,o7 P)::(nat_lit 159,Af P)::(nat_lit 160,Ag P)::(nat_lit 163,o38 P)::(nat_lit 170,o7 P)::(nat_lit 172,Ah P)::(nat_lit 173,o7 P)::(nat_lit 175,Ai P)::(nat_lit 176,Aj P)::(nat_lit 177,o7 P)::(nat_lit 178,Ak P)::(nat_lit 179,Al P)::(nat_lit 182,o38 P)::(nat_lit 189,o7 P)::(nat_lit 191,Bh P)::(nat_lit 192,o7 P)::(nat_lit 194,Bi P)::(nat_lit 195,Bj P)::(nat_lit 196,o7 P)::(nat_lit 197,Bk P)::(nat_lit 198,Bl P)::(nat_lit 201,o38 P)::(nat_lit 208,o7 P)::(nat_lit 210,Bm P)::(nat_lit 211,o7 P)::(nat_lit 213,Bn P)::(nat_lit 214,Bo P)::(nat_lit 215,o7 P)::(nat_lit 217,Bp P)::(nat_lit 218,o7 P)::(nat_lit 220,Bq P)::(nat_lit 221,Br P)::(nat_lit 222,Bs P)::(nat_lit 223,Bv P)::(nat_lit 224,Bx P)::(nat_lit 227,o38 P)::(nat_lit 234,o7 P)::(nat_lit 236,By P)::(nat_lit 237,o7 P)::(nat_lit 239,Bz P)::(nat_lit 240,BA P)::(nat_lit 241,o7 P)::(nat_lit 242,BB P)::(nat_lit 243,BC P)::(nat_lit 246,o38 P)::(nat_lit 253,o7 P)::(nat_lit 255,BD P)::(nat_lit 256,o7 P)::(nat_lit 258,BE P)::(nat_lit 259,BF P)::(nat_lit 260,o7 P)::(nat_lit 261,BG P)::(nat_lit 262,BH P)::(nat_lit 265,o38 P)::(nat_lit 272,o7 P)::(nat_lit 274,BI P)::(nat_lit 275,o7 P)::(nat_lit 277,BJ P)::(nat_lit 278,BK P)::(nat_lit 279,o7 P)::(nat_lit 280,BL P)::(nat_lit 281,BM P)::(nat_lit 284,o38 P)::(nat_lit 291,o7 P)::(nat_lit 293,BN P)::(nat_lit 294,o7 P)::(nat_lit 296,BO P)::(nat_lit 297,BQ P)::(nat_lit 298,o7 P)::(nat_lit 300,BR P)::(nat_lit 301,o7 P)::(nat_lit 303,BS P)::(nat_lit 304,BU P)::(nat_lit 305,BV P)::(nat_lit 306,BW P)::(nat_lit 307,BX P)::(nat_lit 310,o7 P)::(nat_lit 312,BY P)::(nat_lit 313,o7 P)::(nat_lit 315,BZ P)::(nat_lit 316,B0 P)::(nat_lit 317,o7 P)::(nat_lit 319,B2 P)::(nat_lit 320,o7 P)::(nat_lit 322,B3 P)::(nat_lit 323,B4 P)::(nat_lit 324,o7 P)::(nat_lit 327,B5 P)::(nat_lit 328,B7 P)::(nat_lit 329,o7 P)::(nat_lit 331,B9 P)::(nat_lit 332,o7 P)::(nat_lit 334,Ca P)::(nat_lit 335,Cb P)::(nat_lit 336,o7 P)::(nat_lit 338,Cc P)::(nat_lit 339,o7 P)::(nat_lit 341,Cd P)::(nat_lit 342,Ce P)::(nat_lit 343,o7 P)::(nat_lit 345,Cf P)::(nat_lit 346,o7 P)::(nat_lit 348,Cg P)::(nat_lit 349,Ci P)::(nat_lit 350,o7 P)::(nat_lit 353,Cj P)::(nat_lit 354,Ck P)::(nat_lit 355,o7 P)::(nat_lit 357,Cm P)::(nat_lit 358,o7 P)::(nat_lit 360,Cn P)::(nat_lit 361,Co P)::(nat_lit 362,o7 P)::(nat_lit 364,Cp P)::(nat_lit 365,o7 P)::(nat_lit 367,Cq P)::(nat_lit 368,Cr P)::(nat_lit 369,o7 P)::(nat_lit 371,Cs P)::(nat_lit 372,o7 P)::(nat_lit 374,Ct P)::(nat_lit 375,Cu P)::(nat_lit 376,o7 P)::(nat_lit 379,Cw P)::(nat_lit 380,Cy P)::(nat_lit 381,o7 P)::(nat_lit 383,Cz P)::(nat_lit 384,o7 P)::(nat_lit 386,CA P)::(nat_lit 387,CB P)::(nat_lit 388,o7 P)::(nat_lit 390,CC P)::(nat_lit 391,o7 P)::(nat_lit 393,CD P)::(nat_lit 394,CF P)::(nat_lit 402,o7 P)::(nat_lit 404,Fb P)::(nat_lit 405,o7 P)::(nat_lit 407,Fc P)::(nat_lit 408,Fd P)::(nat_lit 409,o7 P)::(nat_lit 411,Fe P)::(nat_lit 412,o7 P)::(nat_lit 414,Ff P)::(nat_lit 415,Fg P)::(nat_lit 416,o7 P)::(nat_lit 418,Fh P)::(nat_lit 419,o7 P)::(nat_lit 421,Fi P)::(nat_lit 422,Fj P)::(nat_lit 423,o7 P)::(nat_lit 425,Fl P)::(nat_lit 426,o7 P)::(nat_lit 428,Fm P)::(nat_lit 429,Fn P)::(nat_lit 430,o7 P)::(nat_lit 432,Fo P)::(nat_lit 433,o7 P)::(nat_lit 435,Fp P)::(nat_lit 436,Fq P)::(nat_lit 437,o7 P)::(nat_lit 439,Fs P)::(nat_lit 440,o7 P)::(nat_lit 442,Ft P)::(nat_lit 443,Fu P)::(nat_lit 444,Fv P)::(nat_lit 445,Fw P)::(nat_lit 446,Fx P)::(nat_lit 447,Fy P)::(nat_lit 448,Fz P)::(nat_lit 451,o7 P)::(nat_lit 453,FA P)::(nat_lit 454,o7 P)::(nat_lit 456,FC P)::(nat_lit 457,FD P)::(nat_lit 458,o7 P)::(nat_lit 460,FE P)::(nat_lit 461,o7 P)::(nat_lit 463,FF P)::(nat_lit 464,FG P)::(nat_lit 465,o7 P)::(nat_lit 468,FH P)::(nat_lit 469,FJ P)::(nat_lit 470,o7 P)::(nat_lit 472,FK P)::(nat_lit 473,o7 P)::(nat_lit 475,FL P)::(nat_lit 476,FN P)::(nat_lit 477,o7 P)::(nat_lit 480,Am P)::(nat_lit 481,FO P)::(nat_lit 482,o7 P)::(nat_lit 484,FP P)::(nat_lit 485,o7 P)::(nat_lit 487,FQ P)::(nat_lit 488,FR P)::(nat_lit 489,o7 P)::(nat_lit 492,FT P)::(nat_lit 493,FU P)::(nat_lit 494,o7 P)::(nat_lit 496,FV P)::(nat_lit 497,o7 P)::(nat_lit 499,FW P)::(nat_lit 500,FX P)::(nat_lit 515,o7 P)::(nat_lit 517,FY P)::(nat_lit 518,o7 P)::(nat_lit 520,FZ P)::(nat_lit 521,F0 P)::(nat_lit 522,o7 P)::(nat_lit 525,F2 P)::(nat_lit 526,F3 P)::(nat_lit 527,o7 P)::(nat_lit 529,F4 P)::(nat_lit 530,o7 P)::(nat_lit 532,F5 P)::(nat_lit 533,F6 P)::(nat_lit 534,o7 P)::(nat_lit 537,F7 P)::(nat_lit 538,F8 P)::(nat_lit 539,o7 P)::(nat_lit 541,F9 P)::(nat_lit 542,o7 P)::(nat_lit 544,Ga P)::(nat_lit 545,Gb P)::[]
noncomputable def hK(P:Params):Frag:=(nat_lit 478,o8 P)::hK0 P
def hAs:List Addr:=[478,2,3,15,17,18,20,21,22,29,31,32,34,35,36,38,39,41,42,43,44,45,46,49,56,58,59,61,62,63,64,65,68,75,77,78,80,81,82,83,84,87,94,96,97,99,100,101,102,103,106,113,115,116,118,119,120,121,122,125,132,134,135,137,138,139,140,141,144,151,153,154,156,157,158,159,160,163,170,172,173,175,176,177,178,179,182,189,191,192,194,195,196,197,198,201,208,210,211,213,214,215,217,218,220,221,222,223,224,227,234,236,237,239,240,241,242,243,246,253,255,256,258,259,260,261,262,265,272,274,275,277,278,279,280,281,284,291,293,294,296,297,298,300,301,303,304,305,306,307,310,312,313,315,316,317,319,320,322,323,324,327,328,329,331,332,334,335,336,338,339,341,342,343,345,346,348,349,350,353,354,355,357,358,360,361,362,364,365,367,368,369,371,372,374,375,376,379,380,381,383,384,386,387,388,390,391,393,394,402,404,405,407,408,409,411,412,414,415,416,418,419,421,422,423,425,426,428,429,430,432,433,435,436,437,439,440,442,443,444,445,446,447,448,451,453,454,456,457,458,460,461,463,464,465,468,469,470,472,473,475,476,477,480,481,482,484,485,487,488,489,492,493,494,496,497,499,500,515,517,518,520,521,522,525,526,527,529,530,532,533,534,537,538,539,541,542,544,545]
theorem gZ(P:Params):hAs=(hK P).map (·.1):=rfl
theorem hP0(w:World):(hK0 w.params).lookup 478=Option.none:=by kernel_rfl
theorem hY{w:World}{h:Heap}(X:(hK w.params).In h):(hK0 w.params).In h∧h.get? 478=some (tabObj #[])∧CodeHd h 480 478:=by
 refine⟨λb o e=>X b o ?_,X 478 (tabObj #[]) (by kernel_rfl),Am w.params,_,_,_,_,_,_,_,_,X 480 (Am w.params) (by kernel_rfl),rfl,rfl,rfl,rfl,rfl,rfl,rfl,rfl,by decide⟩;by_cases c:b=478
 ·rw[c,hP0]at e;cases e
 ·show List.lookup b ((478,o8 w.params)::hK0 w.params)=some o
  rw[List.lookup_cons,show(b == 478)=false from beq_eq_false_iff_ne.mpr c];exact e
def hQ:Program:={PySem.Challenge.pw_stillheap_k42_copies_refused with main:={(PySem.Challenge.pw_stillheap_k42_copies_refused).main with body:=[top 0,top 2,top 3,top 4,top 5,top 6,top 7,top 8,top 9,top 10,top 11,top 12,top 13,top 14,top 15,top 17,top 19,top 20,top 21,top 22,top 23,top 25,top 26,top 27,top 28,top 29,top 30,top 31,top 33,top 35,top 36,top 37,top 38,top 39,top 40,top 41,top 42,top 43,top 44,top 45,top 46,top 47,top 48,top 49]}}
def hLo:List Str:=[]
theorem GD(w:World):(fencedOpening treeTable PySem.Challenge.pw_stillheap_k42_copies_refused w 9728).map (λs=>(s.heap,s.gens,s.drawn,s.toks))=some (boot_heap w.params,#[],boot_drawn,boot_toks):=by kernel_rfl
theorem GF(w:World):((boot_heap w.params).isNs mainGlobals&&(#[]:Array GenState).size == 0,(boot_heap w.params).objs.size,(boot_heap w.params).nsMap mainGlobals "__annotations__")=(true,11,((.some (.ref 6)):Option Value)):=by kernel_rfl
abbrev hXt(s:Shared):Bool:=xlAt hQ [] s&&recOk (RowW.records (OpenRow.toRowW (OpenLaw.row PySem.Challenge.rw_stillheap_k42_copies_refused))) s
noncomputable abbrev hFH(w:World):Heap:=(absHeap (hTf w.params) 546 ⟨[],[],[],0,[],[],false,(List.toArray []),[],0,false,false,false,0,[2000,10,10],false,0,true,[],[],0,false⟩)
noncomputable abbrev hFS(w:World)(os:OsState):Shared:=⟨hFH w,#[],⟨0,0,0,0⟩,888,os⟩
theorem hK1(w:World)(os:OsState):staticsOk (importedModules (PySem.Challenge.pw_stillheap_k42_copies_refused).main.body) (boot_heap w.params) (hFH w)=true:=by kernel_rfl
theorem hK2(w:World)(os:OsState):namesBound PySem.Challenge.pw_stillheap_k42_copies_refused (hFH w)=true:=by kernel_rfl
theorem hK3(w:World)(os:OsState):gensDone (hFS w os)=true:=by kernel_rfl
theorem hK4(w:World)(os:OsState):laidKept (boot_heap w.params) (hFH w)=true:=by kernel_rfl
theorem hK5(w:World)(os:OsState):openSeen hQ hLo (importedModules (PySem.Challenge.pw_stillheap_k42_copies_refused).main.body) hXt true (hFS w os)=openGood hQ hLo:=by kernel_rfl
theorem hK6(w:World)(os:OsState):Hook.obs (kHook hK hAs gZ) (hFS w os)=Hook.val (kHook hK hAs gZ) w:=by kernel_rfl
theorem Dy(w:World):(λos:OsState=>((staticsOk (importedModules (PySem.Challenge.pw_stillheap_k42_copies_refused).main.body) (boot_heap w.params) (hFH w)&&namesBound PySem.Challenge.pw_stillheap_k42_copies_refused (hFH w)&&gensDone (hFS w os)&&laidKept (boot_heap w.params) (hFH w)),
  openSeen hQ hLo (importedModules (PySem.Challenge.pw_stillheap_k42_copies_refused).main.body) hXt true (hFS w os),Hook.obs (kHook hK hAs gZ) (hFS w os)))=λ_=>(true,openGood hQ hLo,Hook.val (kHook hK hAs gZ) w):=by
 funext os
 rw[hK1 w os,hK2 w os,hK3 w os,hK4 w os,hK5 w os,hK6 w os];rfl
theorem GG:LeftO PySem.Challenge.pw_stillheap_k42_copies_refused hQ hLo hXt (Hook.obs (kHook hK hAs gZ)) (Hook.val (kHook hK hAs gZ)) 9728 :=
 LeftO.of_pieces (H₁:=λP=>absHeap (hTf P) 546 ⟨[],[],[],0,[],[],false,(List.toArray []),[],0,false,false,false,0,[2000,10,10],false,0,true,[],[],0,false⟩) GD GF Jb (by rfl) Dy
end
end K42
end
section
namespace L2
open PySem PySem.Spec PyProof.Rows
section
variable{κ:Type}[DecidableEq κ]
def ia(kvs:List (κ×V))(k:κ):Option V:=(kvs.find? λkv=>decide (kv.1=k)).map (·.2)
def putK(kvs:List (κ×V))(k:κ)(v:V):List (κ×V) :=
  if(kvs.any λkv=>decide (kv.1=k))=true then kvs.map (λkv=>if kv.1=k then(kv.1,v) else kv) else kvs++[(k,v)]
theorem d9{p:κ×V}{r:List (κ×V)}{k:κ}(e:p.1=k):ia (p::r) k=some p.2:=by simp[ia,Lb,e]
theorem dQ{p:κ×V}{r:List (κ×V)}{k:κ}(e:¬p.1=k):ia (p::r) k=ia r k:=by simp[ia,Lb,e]
theorem jb(k:κ):∀ kvs:List (κ×V),(kvs.any λkv=>decide (kv.1=k))=(ia kvs k).isSome
  | []=>rfl
  | p::r=>by
    rw[Ll];by_cases e:p.1=k
    · simp only[d9 e,decide_eq_true e,Bool.true_or,Option.isSome_some]
    · rw[dQ e,decide_eq_false e,Bool.false_or];exact jb k r
theorem tD(k j:κ)(y:V):∀ kvs:List (κ×V),ia (kvs.map λkv=>if kv.1=k then(kv.1,y) else kv) j=(ia kvs j).map λx=>if j=k then y else x
  | []=>rfl
  | p::r=>by
    have ih:=tD k j y r;rw[Kz];by_cases h:p.1=k
    · rw[if_pos h]
      by_cases e:p.1=j
      · rw[d9 (p:=(p.1,y)) e,d9 e,KZ,if_pos (e.symm.trans h)]
      · rw[dQ (p:=(p.1,y)) e,dQ e,ih]
    · rw[if_neg h]
      by_cases e:p.1=j
      · rw[d9 (p:=p) e,d9 e,KZ,if_neg (λz=>h (e.trans z))]
      · rw[dQ (p:=p) e,dQ e,ih]
theorem pU(k j:κ)(y:V):∀ kvs:List (κ×V),ia kvs k=none→ia (kvs++[(k,y)]) j=if j=k then some y else ia kvs j
  | [],_=>by
    by_cases e:k=j
    · rw[if_pos e.symm];exact d9 (p:=(k,y)) e
    · rw[if_neg (λz=>e z.symm)];exact dQ (p:=(k,y)) e
  | p::r,hn=>by
    rw[List.cons_append];have hk:¬p.1=k:=λz=>by rw[d9 z]at hn;cases hn
    rw[dQ hk]at hn;have ih:=pU k j y r hn;by_cases e:p.1=j
    · rw[d9 e,d9 e,if_neg (λz=>hk (e.trans z))]
    · rw[dQ e,dQ e,ih]
theorem fh(kvs:List (κ×V))(k j:κ)(y:V):ia (putK kvs k y) j=if j=k then some y else ia kvs j:=by
  unfold putK;by_cases a:(kvs.any λkv=>decide (kv.1=k))=true
  · rw[if_pos a,tD]
    rw[jb]at a;by_cases e:j=k
    · obtain⟨x,hx⟩:=Option.isSome_iff_exists.mp a
      rw[if_pos e,e,hx,KZ,if_pos rfl]
    · rw[if_neg e]
      cases ia kvs j with
      | none=>rfl
      | some x=>rw[KZ,if_neg e]
  · rw[if_neg a]
    refine pU k j y kvs ?_;rw[jb]at a;cases q:ia kvs k with
    | none=>rfl
    | some x=>rw[q]at a;exact(a rfl).elim
theorem kW(kvs:List (κ×V))(k:κ)(v:V):(putK kvs k v).length≤kvs.length+1:=by
  unfold putK;split
  · rw[JS];omega
  · rw[JU,Kv,List.length_nil];omega
theorem j9{kvs:List (κ×V)}{k:κ}(v:V)(h:ia kvs k=none):putK kvs k v=kvs++[(k,v)]:=by
  unfold putK;rw[jb,h];exact if_neg (by decide)
theorem kN.kI{o:Option V}{u:Option Value}(r:kN o u):o.isSome=u.isSome:=by
  cases o with
  | none=>cases u with
    | none=>rfl
    | some _=>exact(show False from r).elim
  | some _=>cases u with
    | none=>exact(show False from r).elim
    | some _=>rfl
theorem KV.val{kvs:List (κ×V)}{vs:List (κ×Value)}(r:KV kvs vs)(k:κ):kN (ia kvs k) (valueAt vs k):=by
  unfold KV at r;induction r with
  | nil=>exact True.intro
  | @cons p q ps qs h t ih =>
    obtain⟨h1,h2⟩:=h;by_cases e:p.1=k
    · have e':q.1=k:=h1.symm.trans e
      have b:valueAt (q::qs) k=some q.2:=(by simp[valueAt,Lb,e']);rw[d9 e,b];exact h2
    · have e':¬q.1=k:=λz=>e (h1.trans z)
      have b:valueAt (q::qs) k=valueAt qs k:=(by simp[valueAt,Lb,e']);rw[dQ e,b];exact ih
theorem KV.any{kvs:List (κ×V)}{vs:List (κ×Value)}(r:KV kvs vs)(k:κ):(kvs.any λkv=>decide (kv.1=k))=vs.any λkv=>decide (kv.1=k):=by
  unfold KV at r;induction r with
  | nil=>rfl
  | cons h t ih=>rw[Ll,Ll,ih,h.1]
theorem KV.Gd{kvs:List (κ×V)}{vs:List (κ×Value)}(r:KV kvs vs)(k:κ){y:V}{u:Value}(ry:RelV y u) :
    KV (kvs.map λkv=>if kv.1=k then(kv.1,y) else kv) (vs.map λkv=>if kv.1=k then(kv.1,u) else kv):=by
  unfold KV at r ⊢;induction r with
  | nil=>exact .nil
  | @cons p q ps qs h t ih =>
    rw[Kz,Kz];refine .cons ?_ ih;obtain⟨h1,h2⟩:=h;by_cases e:p.1=k
    · rw[if_pos e,if_pos (h1.symm.trans e)];exact⟨h1,ry⟩
    · rw[if_neg e,if_neg (λz=>e (h1.trans z))];exact⟨h1,h2⟩
theorem KV.put{kvs:List (κ×V)}{vs:List (κ×Value)}(r:KV kvs vs)(k:κ){y:V}{u:Value}(ry:RelV y u):KV (putK kvs k y) (stored vs k u):=by
  unfold putK stored;rw[r.any k];by_cases e:(vs.any λkv=>decide (kv.1=k))=true
  · rw[if_pos e,if_pos e];exact r.Gd k ry
  · rw[if_neg e,if_neg e];exact Paired.snoc r ⟨rfl,ry⟩
theorem KV.length{kvs:List (κ×V)}{vs:List (κ×Value)}(r:KV kvs vs):kvs.length=vs.length:=Paired.length r
end
theorem xt{P:Program}{w:World}{k:Key}{u:Value}(r:RelV (kV k) u):(dN P w).is k u=true:=by
  cases k with
  | inl i=>obtain⟨t,e⟩:=(show ∃ t,u=Value.int i t from r);subst e;exact rB P w i t
  | inr x=>obtain⟨t,e⟩:=(show ∃ t,u=Value.str x t from r);subst e;exact rC P w x t
theorem pV{P:Program}{w:World}:∀ {ks:List Key} {us:List Value},Vals (ks.map kV) us→ItemsAre (dN P w) ks us
  | [],_,r=>by rw[List.map_nil]at r;cases r;exact .nil
  | k::ks,_,r=>by
    rw[Kz]at r;cases r with
    | cons h t=>exact .cons (xt h) (pV t)
abbrev KT(H:Hp):List (List Key×V)→List (List Key×Addr×Value)→Prop:=Paired λp q=>p.1=q.1∧H q.2.1=some (.tup (p.1.map kV))∧RelV p.2 q.2.2
theorem KT.val{H:Hp}{kvs:List (List Key×V)}{xs:List (List Key×Addr×Value)}(r:KT H kvs xs)(k:List Key):kN (ia kvs k) ((atKey xs k).map (·.2)):=by
  induction r with
  | nil=>exact True.intro
  | @cons p q ps qs h t ih =>
    obtain⟨h1,_,h2⟩:=h;by_cases e:p.1=k
    · have e':q.1=k:=h1.symm.trans e
      have b:atKey (q::qs) k=some q.2:=(by simp[atKey,Lb,e']);rw[d9 e,b];exact h2
    · have e':¬q.1=k:=λz=>e (h1.trans z)
      have b:atKey (q::qs) k=atKey qs k:=(by simp[atKey,Lb,e']);rw[dQ e,b];exact ih
theorem KT.Gd{H:Hp}{kvs:List (List Key×V)}{xs:List (List Key×Addr×Value)}(r:KT H kvs xs)(k:List Key){y:V}{u:Value}(ry:RelV y u) :
    KT H (kvs.map λkv=>if kv.1=k then(kv.1,y) else kv) (xs.map (putAt k u)):=by
  induction r with
  | nil=>exact .nil
  | @cons p q ps qs h t ih =>
    rw[Kz,Kz];refine .cons ?_ ih;obtain⟨h1,h2,h3⟩:=h;unfold putAt;by_cases e:p.1=k
    · rw[if_pos e,if_pos (h1.symm.trans e)];exact⟨h1,h2,ry⟩
    · rw[if_neg e,if_neg (λz=>e (h1.trans z))];exact⟨h1,h2,h3⟩
theorem KT.put{H:Hp}{kvs:List (List Key×V)}{xs:List (List Key×Addr×Value)}(r:KT H kvs xs)(k:List Key){b:Addr}{y:V}{u:Value}(hb:H b=some (.tup (k.map kV)))(ry:RelV y u) :
    KT H (putK kvs k y) (storedH xs k b u):=by
  have e:(kvs.any λkv=>decide (kv.1=k))=(atKey xs k).isSome:=by
    rw[jb,(r.val k).kI,Option.isSome_map]
  unfold putK storedH;rw[e];by_cases q:(atKey xs k).isSome=true
  · rw[if_pos q,if_pos q];exact r.Gd k ry
  · rw[if_neg q,if_neg q];exact Paired.snoc r ⟨rfl,hb,ry⟩
theorem KT.keeps{H H':Hp}{kvs:List (List Key×V)}{xs:List (List Key×Addr×Value)}(r:KT H kvs xs)(ht:∀ b ys,H b=some (.tup ys)→H' b=some (.tup ys)):KT H' kvs xs :=
  Paired.DW r λ_ _ z=>⟨z.1,ht _ _ z.2.1,z.2.2⟩
section
variable{P:Program}{w:World}{H:Hp}{h:Heap}{a:Addr}
theorem CG{u:HO}(ok:HOk P w H h)(e:Rd H a u):cw P w H h a u:=e.ok ok
theorem xu{kvs:List (Key×V)}(ok:HOk P w H h)(e:Rd H a (.dK kvs)):kvs.length≤sizeLine∧(a == sysModules)=false∧∃ vs,KV kvs vs∧h.DictOf (dN P w) a vs :=
  show cw P w H h a (.dK kvs) from CG ok e
theorem CI{kvs:List (Key×V)}(ok:HOk P w H h)(e:H a=some (.dK kvs)):kvs.length≤sizeLine∧(a == sysModules)=false∧∃ vs,KV kvs vs∧h.DictOf (dN P w) a vs:=xu ok (.inl e)
theorem rd{ks:List Key}(ok:HOk P w H h)(e:H a=some (.tup (ks.map kV))):(tupleKind (dN P w)).is h ks a:=by
  obtain⟨_,its,r,o,h1,h2,n,h3⟩:=(show cw P w H h a (.tup (ks.map kV)) from ok a _ e);exact⟨o,its.toArray,n,h1,h2,h3,by simpa using pV r⟩
theorem xv{kvs:List (List Key×V)}(ok:HOk P w H h)(e:Rd H a (.dT kvs)):kvs.length≤sizeLine∧(a == sysModules)=false ∧
    ∃ xs,KT H kvs xs∧h.DictOfH (tupleKind (dN P w)) a xs:=by
  obtain⟨z,y,xs,r,o,es,ep,h1,h2,h3,h4,h5⟩:=(show cw P w H h a (.dT kvs) from CG ok e);refine⟨z,y,xs,r,o,es,ep,h1,h2,h3,h4,λx hx=>?_,h5⟩;have all:∀ {l:List (List Key×V)} {m:List (List Key×Addr×Value)},KT H l m→∀ x∈m,(tupleKind (dN P w)).is h x.1 x.2.1:=by
    intro l m q;induction q with
    | nil=>intro x hx;exact nomatch hx
    | @cons p q ps qs hq t ih =>
      intro x hx;rcases Kc.mp hx with e|hx
      · subst e
        exact rd ok (by rw[←hq.1];exact hq.2.1)
      · exact ih x hx
  exact all r x hx
theorem GH{kvs:List (List Key×V)}(ok:HOk P w H h)(e:H a=some (.dT kvs)):kvs.length≤sizeLine∧(a == sysModules)=false ∧
    ∃ xs,KT H kvs xs∧h.DictOfH (tupleKind (dN P w)) a xs:=xv ok (.inl e)
end
def Ao(H:Hp)(a:Addr)(y:V)(r:Option V):Prop :=
  (∃ kvs k,Rd H a (.dK kvs)∧y=kV k∧r=ia kvs k)∨∃ kvs k b,Rd H a (.dT kvs)∧y=.ref b∧H b=some (.tup (k.map kV))∧r=ia kvs k
def vG(H:Hp)(a:Addr)(y v:V)(H':Hp):Prop :=
  (∃ kvs k,H a=some (.dK kvs)∧y=kV k∧kvs.length<sizeLine∧H'=upd H a (.dK (putK kvs k v))) ∨
  ∃ kvs k b,H a=some (.dT kvs)∧y=.ref b∧H b=some (.tup (k.map kV))∧kvs.length<sizeLine∧H'=upd H a (.dT (putK kvs k v))
theorem vG.k{H:Hp}{a:Addr}{kvs:List (Key×V)}{k:Key}{v:V}(e:H a=some (.dK kvs))(hl:kvs.length<sizeLine):vG H a (kV k) v (upd H a (.dK (putK kvs k v))):=.inl ⟨kvs,k,e,rfl,hl,rfl⟩
section
variable{X:Cx}{pins:List (Addr×Obj)}{σ:St}{H:Hp}{s:Shared}{a:Addr}{y v:V}{u r:Value}{o:Option V}{A:Around}{E:Value→Shared→Prop}
theorem Inv.big(I:Inv X pins σ H s):sysModules<s.heap.objs.size:=by
  have h:mainGlobals<s.heap.objs.size:=(I.mod.glob.keeps I.bk).lt;exact Nat.lt_trans (by decide) h
theorem wH{Q:Value→Shared→Prop}(hu:A.units+1<cLine)(I:Inv X pins σ H s)(g:Ao H a y (some v))(ry:RelV y u)(h:∀ w' s',Inv X pins σ H s'→RelV v w'→Q w' s') :
    wpAny (model X.prog X.w) A (getItem (.ref a) u) Q E s:=by
  rcases g with⟨kvs,k,e,ey,l⟩|⟨kvs,k,b,e,ey,eb,l⟩
  · subst ey
    obtain⟨z,hd,vs,rel,dd⟩:=xu I.hok e;obtain⟨w',hw,rw'⟩:=kN.some_of (v:=v) (o:=valueAt vs k) (by rw[l];exact rel.val k);exact wpAny_getItem_of (xt ry) dd.mapOf hw (h w' _ (I.tok _) rw')
  · subst ey
    cases (show u=Value.ref b from ry);obtain⟨z,hd,xs,rel,dd⟩:=xv I.hok e;obtain⟨w',hw,rw'⟩:=kN.some_of (v:=v) (o:=(atKey xs k).map (·.2)) (by rw[l];exact rel.val k);obtain⟨p,hp,hp2⟩:=Kn.mp hw;refine wpAny_getItem_heap (tupleKind_room_in1 hu) (rd I.hok eb) dd hp ?_;rw[hp2];exact h w' _ (I.tok _) rw'
theorem Ap{Q:Value→Shared→Prop}(hu:A.units+1<cLine)(I:Inv X pins σ H s)(g:Ao H a y o)(ry:RelV y u)(h:∀ s',Inv X pins σ H s'→Q (.bool (!o.isSome)) s') :
    wpAny (model X.prog X.w) A (compareOp .NotIn u (.ref a)) Q E s:=by
  rcases g with⟨kvs,k,e,ey,l⟩|⟨kvs,k,b,e,ey,eb,l⟩
  · subst ey
    obtain⟨z,hd,vs,rel,dd⟩:=xu I.hok e;refine wpAny_notIn_of (xt ry) hd dd.mapOf ?_;rw[←(rel.val k).kI,←l];exact h _ (I.tok _)
  · subst ey
    cases (show u=Value.ref b from ry);obtain⟨z,hd,xs,rel,dd⟩:=xv I.hok e;refine wpAny_notIn_heap (tupleKind_room_in1 hu) (rd I.hok eb) hd dd ?_;have q:=(rel.val k).kI;rw[Option.isSome_map]at q;rw[←q,←l];exact h _ (I.tok _)
theorem vH{h':Heap}{t':Nat}{ob:HO}(I:Inv X pins σ H s)(mu:Mut (H a))(hs:Heap.SameBut a s.heap h')(he:∃ q,h'.get? a=some q)(new:cw X.prog X.w (upd H a ob) h' a ob) :
    Inv X pins σ (upd H a ob) {s with heap:=h',toks:=t'} :=
  I.write (x:=a) (e:=a) mu (.inl rfl) (λb q hb z=>(hs.2 b hb).trans z) he new
theorem Dz{P:Program}{w:World}{H':Hp}{h':Heap}{kvs:List (Key×V)}{vs:List (Key×Value)}(z:kvs.length≤sizeLine)(hd:(a == sysModules)=false)(rel:KV kvs vs)(dd:h'.DictOf (dN P w) a vs) :
    cw P w H' h' a (.dK kvs):=⟨z,hd,vs,rel,dd⟩
theorem wI{H':Hp}{Q:Unit→Shared→Prop}(hu:A.units+1<cLine)(I:Inv X pins σ H s)(g:vG H a y v H')(ry:RelV y u)(rv:RelV v r)(h:∀ s',Inv X pins σ H' s'→Q () s') :
    wpAny (model X.prog X.w) A (setItem (.ref a) u r) Q E s:=by
  rcases g with⟨kvs,k,e,ey,l,eH⟩|⟨kvs,k,b,e,ey,eb,l,eH⟩
  · subst ey eH
    obtain⟨z,hd,vs,rel,dd⟩:=CI I.hok e;have hz:vs.length≤sizeLine:=(by rw[←rel.length];exact z);have hl:(putK kvs k v).length≤sizeLine:=(by have:=kW kvs k v;omega);refine wpAny_setItem_pairs (hsz:=hz) (xt ry) dd λh' dd' hs=>h _ ?_;have he:∃ q,h'.get? a=some q:=let ⟨q,_,_,hq,_⟩:=dd';⟨q,hq⟩;exact vH I (by rw[e];exact True.intro) hs he (Dz hl hd (rel.put k rv) dd')
  · subst ey eH
    cases (show u=Value.ref b from ry);obtain⟨z,hd,xs,rel,dd⟩:=GH I.hok e;have hz:xs.length≤sizeLine:=(by rw[←Paired.length rel];exact z);have hl:(putK kvs k v).length≤sizeLine:=(by have:=kW kvs k v;omega);refine wpAny_setItem_heap (hsz:=hz) (tupleKind_room_in1 hu) (rd I.hok eb) dd λh' dd' hs=>h _ ?_;obtain⟨q,es,ep,hq,h2,h3,h4,_,h5⟩:=dd';refine vH I (by rw[e];exact True.intro) hs ⟨q,hq⟩ ⟨hl,hd,_,(rel.put k eb rv).keeps λc ys ec=>?_,q,es,ep,hq,h2,h3,h4,h5⟩;rw[aj (cG ec e (λz=>nomatch z))];exact ec
end
section
variable{X:Cx}{pins:List (Addr×Obj)}{σ:St}{H:Hp}{s:Shared}{a:Addr}{kvs:List (Key×V)}{k:Key}{u:Value}{A:Around}{E:Value→Shared→Prop}
end
def HX(i:Expr):Prop:=∀ ov iv,subscripted i false ov iv=operate [ov,iv] (getItem ov iv)
theorem Aq{prog:Program}{w:World}{A:Around}{E:Value→Shared→Prop}{s:Shared}{env:Env}{value slice:Expr}{pos:Pos}{T id:String}{Q:Value→Shared→Prop}
    (hl:typeLookup (.type T) "__getitem__" = pure (some (.builtin id))) (hs:HX slice)
    (h:wpAny (model prog w) A (eval value env) (λo s₁=>wpAny (model prog w) A (eval slice env) (λi s₂=>s₂.TypeIs o T∧wpAny (model prog w) A (getItem o i) Q E s₂) E s₁) E s) :
    wpAny (model prog w) A (eval (.Subscript value slice pos) env) Q E s:=by
  refine Subscript_ (wpAny_mono h (λo s₁ h₁=>wpAny_mono h₁ (λi s₂ h₂=>?_) λ_ _ x=>x) λ_ _ x=>x);obtain⟨hT,h₂⟩:=h₂;unfold subscriptTail;refine wpAny_bind ?_;rw[getitemInPython_of_ne hT.not_modules];refine wpAny_bind (wpAny_specialOf hT hl ?_);have fin:wpAny (model prog w) A (subscripted slice false o i) (λr s₃=>wpAny (model prog w) A (letTemporaryGo value o r >>= λ_=>pure r) Q E s₃) E s₂:=by
    rw[hs o i];exact wpAny_operating (wpAny_mono h₂ (λr s₃ h₃=>wpAny_bind (wpAny_letTemporaryGo (wpAny_pure h₃))) λ_ _ x=>x)
  first
    | exact wpAny_pure (wpAny_bind fin)
    | exact wpAny_bind (wpAny_pure (wpAny_bind fin))
    | exact wpAny_bind fin
theorem rF{X:Cx}{pins:List (Addr×Obj)}{σ:St}{H:Hp}{s:Shared}{a:Addr}{y:V}{o:Option V}(I:Inv X pins σ H s)(g:Ao H a y o):s.TypeIs (.ref a) "dict" := by
  rcases g with⟨kvs,k,e,_,_⟩|⟨kvs,k,b,e,_,_,_⟩
  · obtain⟨_,_,vs,_,dd⟩:=xu I.hok e
    exact dd.typeIs
  · obtain⟨_,_,xs,_,dd⟩:=xv I.hok e
    exact dd.typeIs
def GI(td ty:TE):TE:=λσ H Q=>td σ H λx H1=>ty σ H1 λy H2=>∃ a v,x=.ref a∧Ao H2 a y (some v)∧Q v H2
def Ar(ty td:TE):TE:=λσ H Q=>ty σ H λy H1=>td σ H1 λx H2=>∃ a o,x=.ref a∧Ao H2 a y o∧Q (.bl (!o.isSome)) H2
def GJ(td ty tv:TE):TS:=λD σ H=>tv σ H λv H1=>td σ H1 λx H2=>ty σ H2 λy H3=>∃ a H4,x=.ref a∧vG H3 a y v H4∧D.nx σ H4
section
variable{X:Cx}{o i e value:Expr}{pos pos' IJ:Pos}{td ty tv:TE}
theorem fm(hu:X.A.units+1<cLine)(ho:PE X o td)(hi:PE X i ty)(hs:HX i):PE X (.Subscript o i pos) (GI td ty):=by
  intro pins s σ H Q I h;refine Aq PySem.F.slot_dict_getitem.lookup hs (thn (ho pins s σ H _ I h) λu s1 ⟨x,H1,I1,rx,q1⟩=>thn (hi pins s1 σ H1 _ I1 q1) λiv s2 ⟨y,H2,I2,ry,a,v,ex,g,q2⟩=>?_);subst ex;obtain rfl:u=Value.ref a:=rx;exact⟨rF I2 g,wH hu I2 g ry λw' s3 I3 rw'=>⟨v,H2,I3,rw',q2⟩⟩
theorem pW(hu:X.A.units+1<cLine)(hi:PE X i ty)(ho:PE X o td):PC X .NotIn i o (Ar ty td):=by
  intro pins s σ H Q I h;refine thn (hi pins s σ H _ I h) λiv s1 ⟨y,H1,I1,ry,q1⟩=>thn (ho pins s1 σ H1 _ I1 q1) λu s2 ⟨x,H2,I2,rx,a,ov,ex,g,q2⟩=>?_;subst ex;obtain rfl:u=Value.ref a:=rx;exact Ap hu I2 g ry λs3 I3=>⟨.bl (!ov.isSome),H2,I3,rfl,q2⟩
theorem mY(hu:X.A.units+1<cLine)(ho:PE X o td)(hi:PE X i ty)(hv:PE X value tv)(hs:swapsWith value (some (.Subscript o i pos')) pos.line X.env=pure false) :
    PS X (.Assign [.Subscript o i pos'] value pos) (GJ td ty tv):=by
  intro pins s σ H D I h;refine wpAny_Assign_Subscript (thn (hv pins s σ H _ I h) λr s1 ⟨v,H1,I1,rv,q1⟩=>thn (ho pins s1 σ H1 _ I1 q1) λu s2 ⟨x,H2,I2,rx,q2⟩=>thn (hi pins s2 σ H2 _ I2 q2) λiv s3 ⟨y,H3,I3,ry,a,H4,ex,g,q3⟩=>?_) hs;subst ex;obtain rfl:u=Value.ref a:=rx;exact wI hu I3 g ry rv λs4 I4=>⟨σ,H4,I4,q3⟩
end
theorem xV{P:Program}{w:World}{H:Hp}(h:Heap)(hb:sysModules<h.objs.size):cw P w H (h.push {cls:=.type "dict",data:=.dict #[]}) h.objs.size (.dK []) :=
  ⟨Kh _,beq_eq_false_iff_ne.mpr (KG (Kb hb)),[],.nil,Heap.DictOf.new h⟩
def DA:TE:=λ_ H Q=>∀ p,H p=none→Q (.ref p) (upd H p (.dK []))
section
variable{X:Cx}{pos:Pos}
theorem kc:PE X (.Dict [] [] pos) DA:=λpins s σ H Q I h =>
  wpAny_Dict_empty ⟨.ref s.heap.objs.size,_,I.laid (a:=s.heap.objs.size) (o:=.dK []) (t':=s.toks) (λ_ _ q=>JQ _ q) (JR _) (xV s.heap I.big),rfl,h _ (I.hok.fresh (JR _))⟩
end
section
variable{X:Cx}{pins:List (Addr×Obj)}{σ:St}{H:Hp}{s:Shared}{a:Addr}{y d:V}{u r:Value}{o:Option V}{A:Around}{E:Value→Shared→Prop}
end
section
variable{X:Cx}{o e f:Expr}{apos sZ:Pos}{td ty tx:TE}
end
section
variable{X:Cx}{pins:List (Addr×Obj)}{σ:St}{H:Hp}{s:Shared}{a:Addr}{kvs:List (Key×V)}{A:Around}{E:Value→Shared→Prop}
end
section
variable{X:Cx}{pins:List (Addr×Obj)}{σ:St}{H:Hp}{s:Shared}{a:Addr}{y:V}{u:Value}{A:Around}{E:Value→Shared→Prop}
end
end L2
namespace L2
open PySem PySem.Spec PyProof.Rows
section
variable{X:Cx}
end
end L2
end
section
namespace LX
open PySem PySem.W
def bq(c:Value)(od:Option Addr)(fs:Array Value)(sl:Array (Option Value)):Obj:={cls:=c,dict:=od,data:=.fields fs,slots:=sl}
def yN(dd:Option Addr)(cd:ClassData)(k0 k1 k2 k3 k5:Option Value):Obj:={cls:=.type "type",dict:=dd,data:=.cls cd,slots:=#[k0,k1,k2,k3,some (.builtin "ValueError.__new__"),k5]}
structure ed(K:Frag)(C:Addr)(cd:ClassData):Prop where
 ob:∃ dd k0 k1 k2 k3 k5,K.lookup C=some (yN dd cd k0 k1 k2 k3 k5)
 del:cd.hasDel=false
 line:∃ r,cd.mro=.ref C::r
 val:cd.mro.contains (.type "ValueError")=true
 bas:cd.mro.contains (.type "BaseException")=true
 obj:cd.mro.contains (.type "object")=true
 atr:cd.mro.contains (.type "AttributeError")=false
 nam:cd.mro.contains (.type "NameError")=false
def rf(K:Frag)(C:Addr):Bool:=match K.lookup C with
 | some ⟨.type "type",_,.cls cd,sl⟩=>(match cd.mro,sl.toList with
  | .ref D::_,[_,_,_,_,some (.builtin n),_]=>D == C&&n == "ValueError.__new__" && !cd.hasDel&&cd.mro.contains (.type "ValueError")&&cd.mro.contains (.type "BaseException") &&
    cd.mro.contains (.type "object")&&!cd.mro.contains (.type "AttributeError")&&!cd.mro.contains (.type "NameError")
  | _,_=>false)
 | _=>false
theorem qP{K:Frag}{C:Addr}(e:rf K C=true):∃ cd,clsIn K C=some cd∧ed K C cd:=by
 unfold rf at e;split at e
 ·rename_i dd cd sl ho
  split at e
  ·rename_i D r k0 k1 k2 k3 n k5 hm hs
   simp only[Lh,beq_iff_eq,Bool.not_eq_true']at e;obtain⟨⟨⟨⟨⟨⟨⟨rfl,rfl⟩,e1⟩,e2⟩,e3⟩,e4⟩,e5⟩,e6⟩:=e;obtain⟨sl⟩:=sl;simp only at hs;subst hs;exact⟨cd,by unfold clsIn;rw[ho],⟨dd,k0,k1,k2,k3,k5,ho⟩,e1,⟨r,hm⟩,e2,e3,e4,e5,e6⟩
  ·cases e
 ·cases e
section
variable{K:Frag}{C:Addr}{cd:ClassData}{M:Model}{h:Heap}
theorem ed.cls(x:ed K C cd):clsIn K C=some cd:=by
 obtain⟨dd,k0,k1,k2,k3,k5,e⟩:=x.ob;unfold clsIn;rw[e];rfl
theorem ed.ke(x:ed K C cd):cd.mro.isEmpty=false:=by
 obtain⟨r,e⟩:=x.line;rw[e];rfl
theorem ed.sub(x:ed K C cd)(X:K.In h)(v:Value):Looks M h (isSubtype (.ref C) v) (cd.mro.contains v) :=
 looks_mroIn X (by unfold mroIn;rw[x.cls,K5,if_neg (by rw[x.ke];decide)])
theorem ed.mro(x:ed K C cd)(X:K.In h):Looks M h (mroOf (.ref C)) cd.mro:=(looks_clsIn X x.cls).andThen .now
theorem ed.typ(x:ed K C cd)(X:K.In h):Looks M h (typeOf (.ref C)) (.type "type"):=by
 obtain⟨dd,k0,k1,k2,k3,k5,e⟩:=x.ob;exact(Looks.ld (X _ _ e)).andThen .now
theorem ed.Ge(x:ed K C cd)(X:K.In h):Looks M h (isType (.ref C)) true:=by
 obtain⟨dd,k0,k1,k2,k3,k5,e⟩:=x.ob;intro A Q E s k q;unfold isType loadHead;exact wpAny_bind (wpAny_loadPart (k _ _ (X _ _ e)) (wpAny_pure q))
theorem ed.madeBy(x:ed K C cd)(X:K.In h):Looks M h (Bind.madeBy (.ref C)) (some "ValueError.__new__"):=by
 obtain⟨dd,k0,k1,k2,k3,k5,e⟩:=x.ob;obtain⟨r,hr⟩:=x.line;intro A Q E s k q;unfold Bind.madeBy;refine wpAny_bind (x.mro X A _ E s k ?_);rw[hr,List.forIn_cons];refine wpAny_bind (wpAny_bind (wpAny_bind (wpAny_bind (wpAny_loadPart (k _ _ (X _ _ e)) (wpAny_pure ?_)))));exact wpAny_pure (wpAny_pure (wpAny_pure q))
theorem ed.static(x:ed K C cd)(X:K.In h):Looks M h (Bind.staticBase (.ref C)) (.ref C):=by
 obtain⟨r,hr⟩:=x.line;intro A Q E s k q;unfold Bind.staticBase;refine wpAny_bind (x.mro X A _ E s k ?_);rw[hr,List.forIn_cons];exact wpAny_bind (wpAny_bind (wpAny_bind (x.madeBy X A _ E s k (wpAny_pure (wpAny_pure (wpAny_pure q))))))
theorem As:Manifest.canonical "ValueError.__new__" = Manifest.canonical "BaseException.__new__" := PySem.F.excBase_ValueError.canon
theorem ed.here(x:ed K C cd)(X:K.In h):Looks M h (Bind.madeHere "BaseException.__new__" (.ref C)) () :=
 (x.static X).andThen ((x.madeBy X).andThen (Looks.of_pure (by simp only[KZ,As,bne_self_eq_false,KC,if_false])))
end
def Back(x:Addr)(R:Result→Shared→Prop)(r:Result)(s':Shared):Prop:=match r with
 | .ok (.ret v)=>v=.none∧R (.ok (.ret (.ref x))) s'
 | .ok _=>False
 | .error e=>R (.error e) s'
abbrev ve(C t:Addr):Obj:=bq (.ref C) none #[.ref t,.none,.none,.none,.bool false,.none] #[]
abbrev jr(vs:List Value):Obj:={cls:=.type "tuple",data:=.seq vs.toArray}
abbrev ib(h:Heap)(C:Addr)(vs:List Value):Heap:=(h.push (jr vs)).push (ve C h.objs.size)
section
variable{prog:Program}{w:World}{A:Around}{R:Result→Shared→Prop}{h:Heap}{g:Array GenState}{d:Drawn}{t:Nat}{os:OsState}{K:Frag}{C:Addr}{cd:ClassData}{vs:List Value}
theorem xW(x:ed K C cd)(X:K.In h)(hv:vs.length≤sizeLine)(k:R (.ok (.ret (.ref (h.objs.size+1)))) ⟨ib h C vs,g,d,t,os⟩) :
  codeAny (model prog w) A (.call (.builtin "ValueError.__new__") ⟨.ref C::vs,[]⟩) R ⟨h,g,d,t,os⟩:=by
 have F:=PySem.F.excBase_ValueError;have st:=x.static (M:=model prog w) X;have ty:=x.Ge (M:=model prog w) X;have mb:=x.madeBy (M:=model prog w) X;have hh:=x.here (M:=model prog w) X;have s1:=x.sub (M:=model prog w) X (.type "ValueError");rw[x.val]at s1;have s2:=x.sub (M:=model prog w) X (.type "AttributeError");rw[x.atr]at s2;have s3:=x.sub (M:=model prog w) X (.type "NameError");rw[x.nam]at s3;refine codeAny_call_builtin_code (Code.quiet_builtin _ F.quiet) ?_;have star:=F.noStar;simp only[checkBuiltinCall,F.newKind,F.newSplit,F.newRow]
 repeat (first|simp only[bne_self_eq_false,KC,if_false,Bool.not_true]|lk)
 refine codeAny_builtinAt F.entry ?_;unfold Builtin.«BaseException.__new__»;refine wpAt_bind ?_;show wpAt _ _ _ (stack >>= _) _ _ _;refine wpAt_bind (wpAt_stack λp below=>wpAt_of_wpAny ?_);have JE:=F.ends;wp_walk
 refine wpAt_of_wpAny ?_;rw[F.owner]
 repeat (first|simp only[bne_self_eq_false,KC,if_false,Bool.not_true]|lk)
 rw[if_neg (by rw[JV];omega)];obtain⟨dd,k0,k1,k2,k3,k5,ho⟩:=x.ob
 repeat lk
 refine nd_load (JQ _ (JQ _ (X _ _ ho))) (wpAny_pure (wpAny_pure ?_));rw[x.del,if_neg JX];refine wpAny_pure (wpAny_pure ?_);show R _ _;rw[K8];exact k
theorem xX{f:Addr}(x:ed K C cd)(X:K.In h)(hi:findIn K (.ref C) "__init__" = some (some (.ref f)))(hf:typeIn K (.ref f)=some (.type "function"))(hv:vs.length≤sizeLine)
  (k:codeAny (model prog w) (A.under (.builtin "type.__call__" ⟨.ref C::vs,[]⟩)) (.call (.ref f) ⟨.ref (h.objs.size+1)::vs,[]⟩) (Back (h.objs.size+1) R) ⟨ib h C vs,g,d,t,os⟩) :
  codeAny (model prog w) A (.call (.ref C) ⟨vs,[]⟩) R ⟨h,g,d,t,os⟩:=by
 obtain⟨dd,k0,k1,k2,k3,k5,ho⟩:=x.ob;have hC:=X _ _ ho;have ht:=x.typ (M:=model prog w) X;refine codeAny_of_tree ?_;show wpAny _ _ (callAny (.ref C) _) _ _ _;refine nd_load hC ?_;show wpAny _ _ (callAny.viaDunder (.ref C) _) _ _ _;unfold callAny.viaDunder;have sp:Looks (model prog w) h (specialOf (.ref C) "__call__") (some (.builtin "type.__call__")):=ht.andThen (Looks.of_pure tc_lookup);refine wpAny_bind (sp.at ?_);dsimp only;rw[tc_bind];refine wpAny_bind (wpAny_pure (wpAny_bind (wpAny_pure ?_)));refine wpAny_pure (a:=Fin.again (.call (.builtin "type.__call__") ⟨.ref C::vs,[]⟩)) (And.intro rfl ?_);refine codeAny_call_builtin_at (Code.quiet_builtin _ (by decide +kernel)) entry_typeCall (check_slot tc_kind tc_split (ht.andThen (Looks.of_pure tc_sub)) (tc_args _ _ _) ?_);unfold Builtin.«type.__call__»;have hm:=x.mro (M:=model prog w) X;have em:=x.ke;have mb:=x.madeBy (M:=model prog w) X
 repeat (first|simp only[em,KC,if_false]|with_reducible refine wpAny_call ?_|lk)
 refine xW x X hv ?_;have kp:∀ b o,h.get? b=some o→(ib h C vs).get? b=some o:=λb o e=>JQ _ (JQ _ e);have X1:K.In (ib h C vs):=X.keeps kp;have hx:(ib h C vs).get? (h.objs.size+1)=some (ve C h.objs.size):=by heap_get
 have t1:Looks (model prog w) (ib h C vs) (typeOf (.ref (h.objs.size+1))) (.ref C):=(Looks.ld hx).andThen .now;have s1:=x.sub (M:=model prog w) X1 (.ref C);obtain⟨r,hr⟩:=x.line;rw[show cd.mro.contains (.ref C)=true by rw[hr];simp]at s1;have i1:=looks_findIn (M:=model prog w) X1 hi;have b1:=bind_fn (M:=model prog w) X1 (.ref (h.objs.size+1)) hf;unfold isInstance callSpecial? specialOf
 repeat (first|with_reducible refine wpAny_call ?_|lk)
 refine codeAny_mono k λr s' z=>?_;rcases r with e|(v|_|_|_)<;>first|exact z|exact z.elim|skip;obtain⟨rfl,z⟩:=z;exact wpAny_pure (wpAny_pure z)
end
section
variable{prog:Program}{w:World}{A:Around}{E:Value→Shared→Prop}{h:Heap}{g:Array GenState}{d:Drawn}{t:Nat}{os:OsState}{K:Frag}{C e t0:Addr}{cd:ClassData}{vs:List Value}{od:Option Addr}{fs:Array Value}{sl:Array (Option Value)}
theorem nG{M:Model}(he:h.get? e=some (bq (.ref C) od fs sl)):Looks M h (typeOf (.ref e)) (.ref C):=(Looks.ld he).andThen .now
theorem rG{Q:Value→Shared→Prop}(x:ed K C cd)(X:K.In h)(he:h.get? e=some (bq (.ref C) od fs sl))(h0:fs[0]?=some (.ref t0))(hv:vs.length≤sizeLine)
  (k:Q .none ⟨(h.push (jr vs)).update e (Obj.mapFields (·.setIfInBounds 0 (.ref h.objs.size))),g,d,t,os⟩) :
  wpAny (model prog w) A (call (.builtin "ValueError.__init__") (.ref e::vs)) Q E ⟨h,g,d,t,os⟩:=by
 have F:=PySem.F.excBase_ValueError;have ty:=nG (M:=model prog w) he;have s1:=x.sub (M:=model prog w) X (.type "ValueError");rw[x.val]at s1;obtain⟨dd,k0,k1,k2,k3,k5,ho⟩:=x.ob;have hC:h.get? C=some ⟨.type "type",dd,.cls cd,#[k0,k1,k2,k3,some (.builtin "ValueError.__new__"),k5]⟩:=X _ _ ho;have star:=F.noStar;refine wpAny_call (codeAny_call_builtin F.init.plain F.initEntry ?_);simp only[checkBuiltinCall,F.initKind,F.initSplit,F.initRow];unfold isInstance Bind.checkArgs;refine wpAny_bind (wpAny_bind (ty.at (s1.at ?_)));simp only[KC,if_false,Bool.not_true];refine wpAny_bind (m:=Bind.printed "*" true _ _) ?_;unfold Bind.printed Bind.receiverType typeNameWhole;rw[if_neg (by decide)];dsimp only;rw[if_neg (by decide)];refine wpAny_bind (ty.at ?_);refine wpAny_bind (wpAny_bind ((looks_clsIn X x.cls).at (wpAny_pure (wpAny_pure ?_))));refine wpAny_bind (m:=if("ValueError" != "*")=true then pure "ValueError" else _) ?_;rw[if_pos star];refine wpAny_pure (wpAny_onRaise ?_);show wpAny _ _ (Bind.check _ _ _ _ []) _ _ _;rw[PyProof.Rows.check_varPos];refine wpAny_pure ?_;unfold Builtin.«BaseException.__init__»;dsimp only;rw[if_neg (by simp)];unfold newTuple Builtin.BaseException.bexcPut;have hsz:0<fs.size:=(Kl.mp h0).1;have e1:=JQ (h:=h) (jr vs) he;refine wpAny_bind (wpAny_newObj_type ?_ (by show vs.toArray.size≤sizeLine;rw[JV];exact hv));refine wpAny_bind (wpAny_bind (wpAny_field (s:=⟨h.push (jr vs),g,d,t,os⟩) e1 rfl h0 ?_));refine wpAny_bind (wpAny_setField (s:=⟨h.push (jr vs),g,d,t,os⟩) e1 rfl hsz ?_);exact wpAny_letGo (wpAny_pure k)
end
section
variable{prog:Program}{w:World}{A:Around}{E:Value→Shared→Prop}{s:Shared}{K:Frag}
theorem Au:findCls K (.type "ValueError") (.type "type") "__init__" = some (.val (.builtin "ValueError.__init__")):=by kernel_rfl
theorem CJ:findIn K (.type "type") "__getattribute__" = some (some (.builtin "type.__getattribute__")):=by kernel_rfl
theorem yO{M:Model}{h:Heap}:Looks M h (typeOf (.type "ValueError")) (.type "type"):=Looks.of_pure (by kernel_rfl)
theorem DB:subIn K (.type "type") (.type "type")=some true:=by kernel_rfl
theorem DC{M:Model}{h:Heap}:Looks M h (opaqueClassAbove (.type "ValueError")) none:=Looks.of_pure (by kernel_rfl)
theorem Av{pl:Sem Bool}{Q:Value×List Value→Shared→Prop}(X:K.In s.heap)(k:Q (.builtin "ValueError.__init__",[]) {s with toks:=s.toks+1}) :
  wpAny (model prog w) A (getMethod (.type "ValueError") "__init__" pl) Q E s:=by
 have sp:Looks (model prog w) s.heap (specialOf (.type "ValueError") "__getattribute__") (some (.builtin "type.__getattribute__")):=yO.andThen (looks_findIn X CJ);unfold getMethod;refine wpAny_bind (sp.here ?_);dsimp only;rw[if_pos canon_tga];refine wpAny_bind (cls_open (hook:=none) X DC yO CJ (Looks.of_pure (by kernel_rfl)) DB Au ?_);refine wpAny_pure ?_;show wpAny _ _ (handedOut _) _ _ _;rw[handedOut_of (by kernel_rfl)];exact wpAny_pure (wpAny_pure k)
end
section
variable{prog:Program}{w:World}{A:Around}{E:Value→Shared→Prop}{s:Shared}{K:Frag}{env:Env}
def wJ(K:Frag)(E:Value→Shared→Prop)(v:Value)(s1:Shared):Prop :=
 ∃(ea C:Addr) (cd:ClassData) (od:Option Addr) (fs:Array Value) (sl:Array (Option Value)),v=.ref ea∧s1.heap.get? ea=some (bq (.ref C) od fs sl)∧fs[1]?=some .none∧ed K C cd∧K.In s1.heap∧E (.ref ea) s1
theorem wK{e:Expr}{pos:Pos}{Q:Flow→Shared→Prop}(hh:A.handled=none)(k:wpAny (model prog w) A (eval e env) (wJ K E) E s) :
  wpAny (model prog w) A (exec (.Raise (some e) none pos) env) Q E s:=by
 show wpAny (model prog w) A (do standAt pos;raiseStmt env (some (do let v ←eval e env;standAt pos;pure v)) none) Q E s
 refine wpAny_bind (wpAny_standAt ?_);unfold raiseStmt;dsimp only;refine wpAny_bind (wpAny_bind (wpAny_mono k (λv s1 q=>wpAny_bind (wpAny_standAt (wpAny_pure ?_))) λ_ _ z=>z));obtain⟨ea,C,cd,od,fs,sl,rfl,he,h1,x,X,hE⟩:=q;obtain⟨hp,g,d,tk,os⟩:=s1;have ty:=nG (M:=model prog w) he;have nt:Looks (model prog w) hp (isType (.ref ea)) false:=by
  intro A' Q' E' s' kk q;unfold isType loadHead;exact wpAny_bind (wpAny_loadPart (kk _ _ he) (wpAny_pure q))
 have sb:=x.sub (M:=model prog w) X (.type "BaseException");rw[x.bas]at sb;have ct:=x.typ (M:=model prog w) X;have f1:Looks (model prog w) hp (field (.ref ea) 1) .none:=looks_field he 1 h1;refine wpAny_bind (wpAny_pure ?_);dsimp only;refine wpAny_bind (wpAny_holding ?_);unfold excFromValue isExcClass isInstance
 repeat (first|simp only[KC,if_false,if_true]|lk)
 show wpAny _ _ handled _ _ _;refine wpAny_handled ?_;rw[hh];exact wpAny_throw hE
theorem rH{ea C D:Addr}{cd cd':ClassData}{od:Option Addr}{fs:Array Value}{sl:Array (Option Value)}{h:Heap}{g:Array GenState}{d:Drawn}{t:Nat}{os:OsState}{Q:Bool→Shared→Prop}{M:Model}(x:ed K C cd)(y:ed K D cd')(X:K.In h)
  (he:h.get? ea=some (bq (.ref C) od fs sl)) (q:Q (cd.mro.contains (.ref D)) ⟨h,g,d,t,os⟩):wpAny M A (excMatches (.ref ea) (.ref D)) Q E ⟨h,g,d,t,os⟩:=by
 have ty:=nG (M:=M) he;have td:=y.typ (M:=M) X;have ti:=y.Ge (M:=M) X;have tn:Looks M h (isSubtype (.type "type") (.type "tuple")) false:=Looks.of_pure tc_notTuple;have yb:=y.sub (M:=M) X (.type "BaseException");rw[y.bas]at yb;have xs:=x.sub (M:=M) X (.ref D);unfold excMatches isInstance isExcClass
 repeat (first|simp only[KC,if_false,if_true,Bool.not_true]|lk)
 cases hb:cd.mro.contains (.ref D) with
 | true =>
  rw[hb]at q;simp only[if_true]
  repeat lk
  exact q
 | false =>
  rw[hb]at q;simp only[KC,if_false]
  repeat lk
  exact q
theorem wL{ea C:Addr}{fs:Array Value}{sl:Array (Option Value)}{h:Heap}(he:h.get? ea=some (bq (.ref C) none fs sl)):InstAt h ea (bq (.ref C) none fs sl) C none:=⟨he,rfl,rfl,True.intro⟩
theorem wM{ea C dx:Addr}{o:Obj}{fs:Array Value}{sl:Array (Option Value)}{h:Heap}(he:h.get? ea=some (bq (.ref C) (some dx) fs sl))(hd:h.get? dx=some o):InstAt h ea (bq (.ref C) (some dx) fs sl) C (some o):=⟨he,rfl,rfl,hd⟩
end
structure yP(K:Frag)(C:Addr):Prop where
 ga:findIn K (.ref C) "__getattribute__" = some (some (.builtin "BaseException.__getattribute__"))
 gt:findIn K (.ref C) "__getattr__" = some none
section
variable{prog:Program}{w:World}{A:Around}{E:Value→Shared→Prop}{h:Heap}{g:Array GenState}{d:Drawn}{t:Nat}{os:OsState}{K:Frag}{C ea:Addr}{cd:ClassData}{ox:Obj}{od:Option Obj}{name:Str}
theorem wN{tk:Tok}{fill expr:Bool}{r:Builtin.ObjectAttr.Found}{Q:Value→Shared→Prop}(x:ed K C cd)(G:yP K C)(X:K.In h)(I:InstAt h ea ox C od)(hf:findObj K C od name=some r)
  (k:match r with
   | .value v=>handedIn v=true∧Q v ⟨h,g,d,t,os⟩
   | .bind gg a=>wpAny (model prog w) A.in1 (call gg [a,.ref ea,.ref C]) (λv s'=>handedIn v=true∧Q v s') (λ_ _=>False) ⟨h,g,d,t,os⟩
   | .missing=>False) :
  wpAny (model prog w) A (getAttrBy (.ref ea) (.str name tk) fill expr) Q E ⟨h,g,d,t,os⟩:=by
 have ty:=I.type (M:=model prog w);have l1:=looks_findIn (M:=model prog w) X G.ga;have l2:=looks_findIn (M:=model prog w) X G.gt;have l3:=looks_find (M:=model prog w) X I hf;have sb:=x.sub (M:=model prog w) X (.type "BaseException");rw[x.bas]at sb;have S:=PySem.F.excAttr_ValueError.ga;unfold getAttrBy;refine wpAny_holding (wpAny_bind (ty.at (wpAny_bind (l1.at ?_))));dsimp only;rw[show(onTheHeap (Value.ref C)&&Value.builtin "BaseException.__getattribute__" == Value.builtin "object.__getattribute__")=false by rw[show(Value.builtin "BaseException.__getattribute__" == Value.builtin "object.__getattribute__")=false by decide +kernel,K9],if_neg JX];unfold getAttrByItsOwn;have hb:Looks (model prog w) h (hookBefore (.ref C)) none:=looks_hook X (by rw[if_pos (by rfl)];exact G.gt);refine wpAny_bind (hb.at (wpAny_bind (wpAny_attempt (wpAny_holding ?_))));unfold callGetattribute;rw[show(expr&&onTheHeap (Value.builtin "BaseException.__getattribute__"))=false from K9 _,if_neg JX];unfold boundAndCalled;rw[S.bind];refine wpAny_bind (wpAny_pure ?_);show wpAny _ _ (call (.builtin "BaseException.__getattribute__") [.ref ea,.str name tk]) _ _ _;refine wpAny_call (codeAny_call_builtin S.plain PySem.F.entry_bexc_ga ?_);refine @check_slot (model prog w) _ _ ⟨h,g,d,t,os⟩ "BaseException.__getattribute__" "BaseException" "__getattribute__" (.ref ea) [.str name tk] [] _ (by decide +kernel) (by decide +kernel) (ty.andThen sb) (PySem.F.args_bexc_ga (.ref ea) (.str name tk)) ?_;unfold Builtin.«object.__getattribute__»;refine wpAny_bind (wpAny_pure (wpAny_bind (wpAny_pure (wpAny_bind (ty.at (wpAny_bind (l3.at ?_)))))));cases r with
 | value v =>
  refine wpAny_pure ?_;show wpAny _ _ (handedOut v) _ _ _;rw[handedOut_of k.1];exact wpAny_pure k.2
 | bind gg a =>
  refine wpAny_bind (wpAny_holding (wpAny_mono k (λv s' z=>wpAny_pure ?_) λ_ _ z=>z.elim));show wpAny _ _ (handedOut v) _ _ _;rw[handedOut_of z.1];exact wpAny_pure z.2
 | missing=>exact k.elim
theorem wO{Q:Option Value→Shared→Prop}(x:ed K C cd)(G:yP K C)(X:K.In h)(I:InstAt h ea ox C od)(hc:findIn K (.ref C) "__class__" = some (some (.builtin "object.__class__")))
  (k:Q (some (.ref C)) ⟨h,g,d,t+1,os⟩):wpAny (model prog w) A (getAttr? (.ref ea) "__class__") Q E ⟨h,g,d,t,os⟩:=by
 have hn:specialIn K (.builtin "object.__class__") "__get__" = some (some (.builtin "getset_descriptor.__get__")):=by kernel_rfl
 have ht:takesIn K (.builtin "object.__class__")=some true:=by kernel_rfl
 have hf:findObj K C od "__class__" = some (.bind (.builtin "getset_descriptor.__get__") (.builtin "object.__class__")):=by
  unfold findObj;rw[x.cls,K5,hc,K5];dsimp only;rw[hn,K5];dsimp only;rw[ht];rfl
 have mo:mroIn K C (.type "object")=some true:=by
  unfold mroIn;rw[x.cls,K5,if_neg (by rw[x.ke];decide),x.obj]
 unfold getAttr? getAttrBy?;refine wpAny_bind (wpAny_mkText (wpAny_bind (wpAny_attempt ?_)));refine wN (t:=t+1) x G X I hf ?_;refine wpAny_call ?_;refine class_get (s:=⟨h,g,d,t+1,os⟩) (ox:=ox) (od:=od) X I mo ⟨rfl,?_⟩;exact wpAny_pure k
theorem vI(x:ed K C cd)(G:yP K C)(hc:findIn K (.ref C) "__class__" = some (some (.builtin "object.__class__"))):KitX K (.ref ea) (.ref C) (λh=>∃ ox od,InstAt h ea ox C od) where
 ty:=λ_ _ _ ⟨_,_,I⟩=>I.type
 it:=λ_ _ X _=>x.Ge X
 ne:=λh tp dd its n sl X htp=>by
  obtain⟨d2,k0,k1,k2,k3,k5,e⟩:=x.ob;refine Bool.eq_false_iff.mpr λq=>?_;have e2:C=tp:=Value.ref.inj (beq_iff_eq.mp q);subst e2;have z:=congrArg (λo:Option Obj=>o.map (·.data)) ((X _ _ e).symm.trans htp);simp[yN]at z
 ca:=λ{_ _ _ _ _ s} X ⟨_,_,I⟩ k=>by
  obtain⟨hh,gg,dd,tt,oo⟩:=s;exact wO x G X I hc k
end
section
variable{prog:Program}{w:World}{A:Around}{E:Value→Shared→Prop}{h:Heap}{g:Array GenState}{d:Drawn}{t:Nat}{os:OsState}{K:Frag}{C CH ea:Addr}{cd:ClassData}{fs:Array Value}{sl:Array (Option Value)}{name:Str}{v:Value}
end
end LX
end
section
namespace LX
open PySem
structure Kept(fr xs:List Addr)(h k:Heap):Prop where
 plain:∀ b o,h.get? b=some o→b∉fr→b∉xs→k.get? b=some o
 frame:∀ b o,h.get? b=some o→b∈fr→b∉xs→∃ sl,k.get? b=some {o with slots:=sl}
theorem Kept.trans{fr xs ys:List Addr}{h k m:Heap}(x:Kept fr xs h k)(y:Kept fr ys k m):Kept fr (xs++ys) h m where
 plain:=λb o e hb hx=>y.plain b o (x.plain b o e hb λz=>hx (Kw _ z)) hb λz=>hx (JP _ z)
 frame:=λb o e hb hx=>by
  obtain⟨sl,e1⟩:=x.frame b o e hb λz=>hx (Kw _ z);obtain⟨sm,e2⟩:=y.frame b _ e1 hb λz=>hx (JP _ z);exact⟨sm,e2⟩
theorem Kept.weak{fr xs ys:List Addr}{h k:Heap}(x:Kept fr xs h k)(s:∀ b o,h.get? b=some o→b∈xs→b∈ys):Kept fr ys h k :=
 ⟨λb o e hb hy=>x.plain b o e hb λz=>hy (s b o e z),λb o e hb hy=>x.frame b o e hb λz=>hy (s b o e z)⟩
abbrev bR(l:List Env):List Addr:=l.filterMap (·.frame)
section
variable{M:Model}{A:Around}{E:Value→Shared→Prop}{s:Shared}{base:Heap}{env:Env}{outer:List Env}{L e:Addr}{c:Value}{od:Option Addr}{fs:Array Value}{sl:Array (Option Value)}
theorem tE{l:List Env}(F:s.heap.FunFrames base l)(he:s.heap.get? e=some (bq c od fs sl)):e∉bR l:=λz=>by
 obtain⟨_,o,ho,hn⟩:=F.mem z;rw[he]at ho;cases ho;exact hn fs rfl
theorem kA{h:Heap}{a:Addr}{i:Nat}{x:Value}(ha:h.get? a=some (bq c od fs sl)) :
  (h.update a (Obj.mapFields (·.setIfInBounds i x))).get? a=some (bq c od (fs.setIfInBounds i x) sl):=Heap.get?_update_self _ ha rfl
theorem mZ{head:Value}{had:Bool}{Q:Unit→Shared→Prop}(hA:A.frames=some (env::outer))(F:s.heap.FunFrames base (env::outer))(hL:env.frame=some L)
  (he:s.heap.get? e=some (bq c od fs sl)) (h1:1<fs.size)
  (k:∀ m T oc ts,s.heap.objs.size≤T→Kept (bR (env::outer)) [e] s.heap m→m.get? e=some (bq c od (fs.setIfInBounds 1 (.ref T)) sl)→m.get? T=some (bq oc none ts #[])→ts[3]?=some (rawInt L)→Q () {s with heap:=m}) :
  wpAny M A (do let a ←frameOf env;let pl ←entryPlaceOf L had;let b ←EntryCells.newEntry head a .none (rawInt L) .none pl;setField (.ref e) 1 b) Q E s:=by
 have ne:=tE F he;refine wpAny_bind (wpAny_frameOf_fun hA F hL λg hg=>?_);obtain⟨g0,g1,g2⟩:=hg;refine wpAny_bind (wpAny_entryPlaceOf λpl hp=>?_);unfold EntryCells.newEntry newFields;refine wpAny_bind (wpAny_newObj_type ?_ (hp.sizeOk5 _ _ _ _ _));have e1:g.get? e=some (bq c od fs sl):=(g1 e ne).trans he;have e2:=JQ (h:=g) {cls:=.type "traceback",dict:=none,data:=.fields ([head,.ref L,.none,rawInt L,.none]++(if pl.isEmpty then List.replicate 6 Value.none else pl)).toArray} e1;refine wpAny_setField e2 rfl h1 ?_;have Te:g.objs.size≠e:=KR (JY e1);refine k _ g.objs.size (.type "traceback") ([head,.ref L,.none,rawInt L,.none]++(if pl.isEmpty then List.replicate 6 Value.none else pl)).toArray (Nat.le_of_eq g0.symm) ⟨λb o q hb hx=>?_,λb o q hb hx=>?_⟩ (kA e2) ?_ ?_
 ·have be:b≠e:=λz=>hx (by rw[z];exact JO.mpr rfl)
  rw[Ky _ _ (KG be)];exact JQ _ ((g1 b hb).trans q)
 ·have be:b≠e:=λz=>hx (by rw[z];exact JO.mpr rfl)
  obtain⟨sm,q2⟩:=g2 b o q;refine⟨sm,?_⟩;rw[Ky _ _ (KG be)];exact JQ _ q2
 ·rw[Ky _ _ (KG Te)]
  exact Kk g rfl
 ·first|(simp;done)|(rcases hp with rfl|⟨_,_,_,_,_,_,_,rfl⟩<;>simp)
inductive jg(h:Heap)(e:Addr)(fs:Array Value):Option Addr→Prop where
 | none (h1:fs[1]?=some .none):jg h e fs none
 | some {T:Addr} {oc:Value} {ts:Array Value} {d:Option Addr} {sl:Array (Option Value)} (h1:fs[1]?=some (.ref T)) (ne:T≠e) (hT:h.get? T=some (bq oc d ts sl)) (h3:ts[3]?=some .none):jg h e fs (some T)
theorem jg.size{h:Heap}{fs:Array Value}{T:Option Addr}(t:jg h e fs T):1<fs.size:=by
 cases t with
 | none h1=>exact(Kl.mp h1).1
 | some h1=>exact(Kl.mp h1).1
theorem qQ{T0:Option Addr}{Q:Unit→Shared→Prop}(hA:A.frames=some (env::outer))(F:s.heap.FunFrames base (env::outer))(hL:env.frame=some L)(he:s.heap.get? e=some (bq c od fs sl))(t:jg s.heap e fs T0)
  (k:∀ m T oc ts,s.heap.objs.size≤T→Kept (bR (env::outer)) (e::T0.toList) s.heap m→m.get? e=some (bq c od (fs.setIfInBounds 1 (.ref T)) sl)→m.get? T=some (bq oc none ts #[])→ts[3]?=some (rawInt L)→Q () {s with heap:=m}) :
  wpAny M A (noteFrame (.ref e) env) Q E s:=by
 unfold noteFrame;simp only[hL];have h1s:=t.size;cases t with
 | none h1 =>
  refine wpAny_bind (wpAny_field he rfl h1 ?_);rw[if_neg (by decide)];exact mZ hA F hL he h1s k
 | @some T oc ts d sm h1 ne hT h3 =>
  refine wpAny_bind (wpAny_field he rfl h1 ?_);rw[if_pos (show(Value.ref T != Value.none)=true by simp)];refine wpAny_bind (wpAny_field hT rfl h3 ?_);rw[if_neg (show ¬((Value.none == rawInt L)=true) by simp[rawInt])];have h3s:3<ts.size:=(Kl.mp h3).1;refine wpAny_bind (wpAny_setField hT rfl h3s ?_);have oth:∀ b,b≠T→(s.heap.update T (Obj.mapFields (·.setIfInBounds 3 Value.none))).get? b=s.heap.get? b:=λb hb=>Ky _ _ (KG hb);have nT:=tE F hT;have F1:(s.heap.update T (Obj.mapFields (·.setIfInBounds 3 Value.none))).FunFrames base (env::outer):=F.of_keeps λb o hb hn=>⟨o,(oth b λz=>by rw[z,hT]at hb;cases hb;exact hn ts rfl).trans hb,rfl⟩;refine mZ (s:={s with heap:=s.heap.update T (Obj.mapFields (·.setIfInBounds 3 Value.none))}) hA F1 hL ((oth e (KG ne)).trans he) h1s λm T' oc' ts' z1 z2 z3 z4 z5=>k m T' oc' ts' ?_ ?_ z3 z4 z5
  ·have zz:(s.heap.update T (Obj.mapFields (·.setIfInBounds 3 Value.none))).objs.size=s.heap.objs.size:=(K4 (h:=s.heap) (a:=T) (f:=Obj.mapFields (·.setIfInBounds 3 Value.none))).1
   rw[←zz];exact z1
  ·have kk:Kept (bR (env::outer)) [T] s.heap (s.heap.update T (Obj.mapFields (·.setIfInBounds 3 Value.none))) :=
    ⟨λb o q _ hx=>(oth b λz=>hx (by rw[z];exact JO.mpr rfl)).trans q,λb o q _ hx=>⟨o.slots,(oth b λz=>hx (by rw[z];exact JO.mpr rfl)).trans q⟩⟩
   refine(kk.trans z2).weak λb o _ q=>?_;simp only[Ka,JO]at q;simp only[Option.toList_some,Kc,KU,or_false];exact q.symm
theorem iC{T:Addr}{oc:Value}{ts:Array Value}{d:Option Addr}{sm:Array (Option Value)}{Q:Unit→Shared→Prop}(he:s.heap.get? e=some (bq c od fs sl))(h1:fs[1]?=some (.ref T))(ne:T≠e)
  (hT:s.heap.get? T=some (bq oc d ts sm)) (h3:3<ts.size)
  (k:∀ m,(∀ b o,b≠T→s.heap.get? b=some o→m.get? b=some o)→jg m e fs (some T)→m.get? e=some (bq c od fs sl)→Q () {s with heap:=m}):wpAny M A (setFlight (.ref e) none) Q E s:=by
 unfold setFlight;refine wpAny_bind (wpAny_field he rfl h1 ?_);rw[if_pos (show(Value.ref T != Value.none)=true by simp)];have oth:∀ b o,b≠T→s.heap.get? b=some o→(s.heap.update T (Obj.mapFields (·.setIfInBounds 3 Value.none))).get? b=some o:=λb o hb q=>(Ky _ _ (KG hb)).trans q;exact wpAny_setField hT rfl h3 (k _ oth (.some h1 ne (kA hT) (by simp[h3])) (oth e _ (KG ne) he))
theorem vf{T0:Option Addr}{Q:Unit→Shared→Prop}(hA:A.frames=some (env::outer))(F:s.heap.FunFrames base (env::outer))(hL:env.frame=some L)(he:s.heap.get? e=some (bq c od fs sl))(t:jg s.heap e fs T0)
  (k:∀ m T fs',s.heap.objs.size≤T→Kept (bR (env::outer)) (e::T0.toList) s.heap m→m.get? e=some (bq c od fs' sl)→fs'[0]?=fs[0]?→jg m e fs' (some T)→Q () {s with heap:=m}) :
  wpAny M A (leaving env (.ref e)) Q E s:=by
 unfold leaving;refine wpAny_bind (qQ hA F hL he t λm T oc ts z1 z2 z3 z4 z5=>?_);have Te:T≠e:=KR (J8 (JY he) z1);have f1:(fs.setIfInBounds 1 (Value.ref T))[1]?=some (.ref T):=by
  have:=t.size
  simp[this]
 refine iC (s:={s with heap:=m}) z3 f1 Te z4 (Kl.mp z5).1 λm' q1 q2 q3=>k m' T _ z1 ⟨λb o q hb hx=>?_,λb o q hb hx=>?_⟩ q3 (by simp) q2
 ·exact q1 b o (Kb (J8 (JY q) z1)) (z2.plain b o q hb hx)
 ·obtain⟨sm,r⟩:=z2.frame b o q hb hx
  exact⟨sm,q1 b _ (Kb (J8 (JY q) z1)) r⟩
end
end LX
end
section
namespace L2
open PySem PySem.Spec PyProof.Rows LX
def ExP(fresh:Bool)(C e:Addr)(od:Option Addr)(h:Heap):Prop:=∃ fs sl t0,h.get? e=some (bq (.ref C) od fs sl)∧fs[0]?=some (.ref t0)∧(fresh=true→fs[1]?=some .none)
def exo(fresh:Bool)(C e:Addr)(od:Option Addr):HO:=.ext (ExP fresh C e od)
section
variable{P:Program}{w:World}{H:Hp}{h:Heap}{b:Bool}{C e:Addr}{od:Option Addr}
theorem vg(x:ExP b C e od h):cw P w H h e (exo b C e od):=by
 refine⟨x,?_,λh1 h2 p k=>?_⟩
 ·obtain⟨fs,sl,t0,z,_⟩:=x
  exact⟨_,z⟩
 ·obtain⟨fs,sl,t0,z,r⟩:=p
  exact⟨fs,sl,t0,k _ z,r⟩
theorem kB(ok:HOk P w H h)(z:H e=some (exo b C e od)):ExP b C e od h:=(show cw P w H h e (exo b C e od) from ok e _ z).1
end
def del(H:Hp)(a:Addr):Hp:=λb=>if b=a then none else H b
theorem kg{H:Hp}{a:Addr}:del H a a=none:=by unfold del;rw[if_pos rfl]
theorem fZ{H:Hp}{a b:Addr}(h:b≠a):del H a b=H b:=by unfold del;rw[if_neg h]
theorem nI{H:Hp}{a b:Addr}{o:HO}(h:del H a b=some o):H b=some o∧b≠a:=by
 unfold del at h;by_cases q:b=a
 ·rw[if_pos q]at h;cases h
 ·rw[if_neg q]at h;exact⟨h,q⟩
section
variable{P:Program}{w:World}{H H':Hp}{h h':Heap}{a:Addr}
theorem HOk.keeps(ok:HOk P w H h)(k:∀ b u o,H b=some u→h.get? b=some o→h'.get? b=some o):HOk P w H h':=λb u q =>
 (ok b u q).pL (λc v hc r=>by
  rcases hc with rfl|hc
  ·exact k c u v q r
  ·exact k c _ v hc r) (λ_ z=>z) λ_ _ z=>z
theorem HOk.del(ok:HOk P w H h)(ha:∀ y,H a≠some (.own y))(hb:∀ xs,H a≠some (.tup xs)):HOk P w (del H a) h:=λb u q=>by
 obtain⟨q1,q2⟩:=nI q;refine(ok b u q1).pL (λ_ _ _ r=>r) (λc z=>?_) λc xs z=>?_
 ·rw[fZ λe=>ha b (by rw[←e];exact z)];exact z
 ·rw[fZ λe=>hb xs (by rw[←e];exact z)];exact z
theorem HOk.add(ok:HOk P w H h){o:HO}(ha:H a=none)(new:cw P w (upd H a o) h a o):HOk P w (upd H a o) h:=λb u q=>by
 by_cases e:b=a
 ·subst e
  rw[ae]at q;cases q;exact new
 ·rw[aj e]at q
  refine(ok b u q).pL (λ_ _ _ r=>r) (λc z=>?_) λc xs z=>?_
  ·rw[aj λe=>by rw[e,ha]at z;cases z];exact z
  ·rw[aj λe=>by rw[e,ha]at z;cases z];exact z
end
theorem iT{h k base:Heap}:∀ {l:List Env},h.FunFrames base l→(∀ b∈frs l,∀ o,h.get? b=some o→∃ sl,k.get? b=some {o with slots:=sl})→k.FunFrames base l
 | [],_,_=>True.intro
 | env::r,⟨h1,⟨L,o,e1,e2,e3,e4⟩,h2⟩,q=>by
  have hm:L∈frs (env::r):=KH.mpr ⟨env,JW,e1⟩;obtain⟨sl,z⟩:=q L hm o e3;refine⟨h1,⟨L,_,e1,e2,z,e4⟩,iT h2 λb hb o' z'=>q b ?_ o' z'⟩;obtain⟨x,hx,hy⟩:=KH.mp hb;exact KH.mpr ⟨x,JT _ hx,hy⟩
structure Lies(P:Program)(w:World)(outer:List Env)(H H':Hp)(s:Shared)(ea C T:Addr)(od:Option Addr)(fs:Array Value)(sl:Array (Option Value))(s':Shared):Prop where
 os:s'.os=s.os
 bare:AllBare s'.gens
 un:Un (frs outer) [] H H' s.heap s'.heap
 hok:HOk P w H' s'.heap
 Aw:s.heap.get? ea=none
 Jc:s.heap.get? T=none
 ue:H' ea=none
 GK:H' T=none
 at_:s'.heap.get? ea=some (bq (.ref C) od fs sl)
 args:∃ t0,fs[0]?=some (.ref t0)
 trail:jg s'.heap ea fs (some T)
def CXE(P:Program)(w:World):CXT:=λouter H s E e s'=>∃ ea C T od fs sl H',e=.ref ea∧Lies P w outer H H' s ea C T od fs sl s'∧E (.ref C) od H'
section
variable{X:Cx}{pins:List (Addr×Obj)}{σ:St}{H H':Hp}{s s':Shared}{ea C T:Addr}{od:Option Addr}{fs:Array Value}{sl:Array (Option Value)}
theorem Lies.frames(I:Inv X pins σ H s)(l:Lies X.prog X.w X.stack H H' s ea C T od fs sl s'):s'.heap.FunFrames X.base X.stack :=
 iT I.stack λb hb o z=>l.un.any z (I.hZ b hb) (by simp)
theorem Lies.on{m:Heap}{t':Nat}(I:Inv X pins σ H s)(l:Lies X.prog X.w X.stack H H' s ea C T od fs sl s')(k:Kept (bR X.stack) [ea,T] s'.heap m) :
  Un (frs X.stack) [] H H' s.heap m∧HOk X.prog X.w H' m:=by
 have fr:∀ b,b∈frs X.stack→H' b=none:=λb hb=>by
  obtain⟨_,o,z,_⟩:=I.stack.mem hb;exact l.un.free b o z (I.hZ b hb) (by simp)
 have ne:∀ b o,s.heap.get? b=some o→b∉[ea,T]:=λb o z q=>by
  rcases Kc.mp q with e|q
  ·rw[e,l.Aw]at z;cases z
  ·rw[JO.mp q,l.Jc]at z;cases z
 refine⟨⟨λb o z n hb hx=>?_,λb o z n hb hx=>?_,l.un.free,λb o z hx=>?_,l.un.ku,l.un.lO,l.un.lP⟩,?_⟩
 ·exact k.plain b o (l.un.keep b o z n hb hx) hb (ne b o z)
 ·obtain⟨s1,z1⟩:=l.un.slot b o z n hb hx
  obtain⟨s2,z2⟩:=k.frame b _ z1 hb (ne b o z);exact⟨s2,z2⟩
 ·obtain⟨o1,z1⟩:=l.un.there b o z hx
  by_cases hb:b∈bR X.stack
  ·obtain⟨s2,z2⟩:=k.frame b _ z1 hb (ne b o z)
   exact⟨_,z2⟩
  ·exact⟨_,k.plain b _ z1 hb (ne b o z)⟩
 ·refine l.hok.keeps λb u o z q=>k.plain b o q (λhb=>?_) λhx=>?_
  ·rw[fr b hb]at z;cases z
  ·rcases Kc.mp hx with e|hx
   ·rw[e,l.ue]at z;cases z
   ·rw[JO.mp hx,l.GK]at z;cases z
end
section
variable{P:Program}{w:World}{K:W.Frag}{mg:Str→Option Value}{base:Heap}{N:List Str}{qual:Str}{scope:Scope}{f:Addr}{cdv:Value}{A:Around}{outer:List Env}{s₀:Shared}{H₀:Hp}{E₀:XK}
abbrev cxE(P:Program)(w:World)(K:W.Frag)(mg:Str→Option Value)(base:Heap)(N:List Str)(qual:Str)(scope:Scope)(f:Addr)(cdv:Value)(A:Around)(outer:List Env)(s₀:Shared)(H₀:Hp)(E₀:XK):Cx :=
 yI (CXE P w) P w K mg base N qual scope f cdv A outer s₀ H₀ E₀
theorem uf{pins:List (Addr×Obj)}{σ:St}{H H':Hp}{s s':Shared}{ea C T:Addr}{od:Option Addr}{fs:Array Value}{sl:Array (Option Value)}(I:Inv (cxE P w K mg base N qual scope f cdv A outer s₀ H₀ E₀) pins σ H s)
  (l:Lies P w (cxE P w K mg base N qual scope f cdv A outer s₀ H₀ E₀).stack H H' s ea C T od fs sl s') (hE:E₀ (.ref C) od H'):(cxE P w K mg base N qual scope f cdv A outer s₀ H₀ E₀).xe (.ref ea) s':=by
 refine vf I.ok.frames (Lies.frames I l) rfl l.at_ l.trail λm T' fs' z1 z2 z3 z4 z5=>?_;obtain⟨un,hok⟩:=l.on (t':=s'.toks) I z2;have J:Inv (cxE P w K mg base N qual scope f cdv A outer s₀ H₀ E₀) pins σ H' {s' with heap:=m}:=I.mS l.os un hok l.bare (λb z=>absurd z (by simp));have old:∀ b o,s₀.heap.get? b=some o→∃ o',s.heap.get? b=some o':=λb o z=>I.base.there b o z (KU);have e0:s₀.heap.get? ea=none:=by
  cases q:s₀.heap.get? ea with
  | none=>rfl
  | some o =>
   obtain⟨o',z⟩:=old ea o q;rw[l.Aw]at z;cases z
 have t0:s₀.heap.get? T'=none:=by
  cases q:s₀.heap.get? T' with
  | none=>rfl
  | some o =>
   obtain⟨o1,y1⟩:=old T' o q;obtain⟨o2,y2⟩:=l.un.there T' o1 y1 (by simp);exact absurd (JY y2) (Lz.mpr z1)
 obtain⟨a0,ha⟩:=l.args;exact⟨ea,C,T',od,fs',sl,H',rfl,⟨J.os,J.bare,J.base,J.hok,e0,t0,l.ue,l.hok.fresh z1,z3,⟨a0,by rw[z4];exact ha⟩,z5⟩,hE⟩
theorem jh{E:XK}(hE:∀ c od H',E c od H'→E₀ c od H'):Passes (CXE P w) (cxE P w K mg base N qual scope f cdv A outer s₀ H₀ E₀) E:=λpins σ H s e s' I h=>by
 obtain⟨ea,C,T,od,fs,sl,H',rfl,l,q⟩:=h;exact uf I l (hE _ _ _ q)
theorem leave_new{pins:List (Addr×Obj)}{σ:St}{H:Hp}{s:Shared}{ea C:Addr}{od:Option Addr}(I:Inv (cxE P w K mg base N qual scope f cdv A outer s₀ H₀ E₀) pins σ H s)(h1:H ea=some (exo true C ea od))(h0:H₀ ea=none)
  (hE:E₀ (.ref C) od (del H ea)):(cxE P w K mg base N qual scope f cdv A outer s₀ H₀ E₀).xe (.ref ea) s:=by
 obtain⟨fs,sl,a0,z,ha,hf⟩:=kB I.hok h1;have frz:∀ b,b∈frs (cxE P w K mg base N qual scope f cdv A outer s₀ H₀ E₀).stack→H b=none:=I.hZ;have e0:s₀.heap.get? ea=none:=by
  cases q:s₀.heap.get? ea with
  | none=>rfl
  | some o =>
   have:=I.base.free ea o q h0 KU
   rw[h1]at this;cases this
 refine vf I.ok.frames I.stack rfl z (.none (hf rfl)) λm T' fs' z1 z2 z3 z4 z5=>?_;have hd:HOk P w (del H ea) s.heap:=I.hok.del (λy q=>by rw[h1]at q;cases q) λxs q=>by rw[h1]at q;cases q
 have hm:HOk P w (del H ea) m:=hd.keeps λb u o q r=>by
  obtain⟨q1,q2⟩:=nI q;exact z2.plain b o r (λhb=>by rw[frz b hb]at q1;cases q1) (by simpa using q2)
 have neE:∀ b o,s₀.heap.get? b=some o→b≠ea:=λb o q r=>by rw[r,e0]at q;cases q
 have t0:s₀.heap.get? T'=none:=by
  cases q:s₀.heap.get? T' with
  | none=>rfl
  | some o =>
   obtain⟨o2,y2⟩:=I.base.there T' o q KU;exact absurd (JY y2) (Lz.mpr z1)
 have neL:∀ b o,s₀.heap.get? b=some o→b∈bR (cxE P w K mg base N qual scope f cdv A outer s₀ H₀ E₀).stack→b∈frs outer:=λb o q hb=>by
  rcases Kc.mp (I.ik b hb) with r|r
  ·exact absurd (JY q) (by rw[r];exact Lz.mpr I.ok.above)
  ·exact r
 have sub:∀ b,b∈frs outer→b∈bR (cxE P w K mg base N qual scope f cdv A outer s₀ H₀ E₀).stack:=λb hb=>by
  obtain⟨x,hx,hy⟩:=KH.mp hb;exact KH.mpr ⟨x,JT _ hx,hy⟩
 refine⟨ea,C,T',od,fs',sl,del H ea,rfl,⟨I.os,I.bare,⟨λb o q n hb hx=>?_,λb o q n hb hx=>?_,λb o q n hx=>?_,λb o q hx=>?_,λb xs q=>?_,λb o u q=>?_,λb ps q=>?_⟩,hm,e0,t0,kg,?_,z3,⟨a0,by rw[z4];exact ha⟩,z5⟩,hE⟩
 ·exact z2.plain b o (I.base.keep b o q n hb hx) (λz=>hb (neL b o q z)) (by simpa using neE b o q)
 ·obtain⟨s1,y1⟩:=I.base.slot b o q n hb hx
  obtain⟨s2,y2⟩:=z2.frame b _ y1 (sub b hb) (by simpa using neE b o q);exact⟨s2,y2⟩
 ·rw[fZ (neE b o q)]
  exact I.base.free b o q n hx
 ·obtain⟨o1,y1⟩:=I.base.there b o q hx
  by_cases hb:b∈bR (cxE P w K mg base N qual scope f cdv A outer s₀ H₀ E₀).stack
  ·obtain⟨s2,y2⟩:=z2.frame b _ y1 hb (by simpa using neE b o q)
   exact⟨_,y2⟩
  ·exact⟨_,z2.plain b _ y1 hb (by simpa using neE b o q)⟩
 ·have r:=I.base.ku b xs q
  rw[fZ λe=>by rw[e,h1]at r;cases r];exact r
 ·have r:=I.base.lO b o u q
  rw[fZ λe=>by rw[e,h1]at r;cases r];exact r
 ·obtain⟨more,r⟩:=I.base.lP b ps q
  exact⟨more,by rw[fZ λe=>by rw[e,h1]at r;cases r];exact r⟩
 ·by_cases q:T'=ea
  ·rw[q];exact kg
  ·rw[fZ q];exact I.hok.fresh z1
end
theorem Fun.okE{P:Program}{w:World}{K:W.Frag}{mg:Str→Option Value}{base:Heap}{x qual:Str}{st:Stmt}{f:Addr}{fd:FuncData}{N ps:List Str}{k:Nat}{sp:Sp}(F:Fun K x qual st f fd)(S:aK N ps (aq st))(len:∀ vs H Q E,sp vs H Q E→vs.length=ps.length)
  (ua:∀(cdv:Value) (A:Around) (outer:List Env) (s:Shared) (H:Hp) (vs:List V) (Q:VK) (E:XK),f6 k (A.deeper (envOfC qual (aq st) s.heap.objs.size f cdv))→sp vs H Q E →
   ∃ t,PSs (cxE P w K mg base N qual (aq st) f cdv A outer s H E) (fW st) t∧t {nx:=λ_ H'=>Q .non H',rt:=Q} (start N vs) H):kT P w K mg base (CXE P w) (k+1) f fd ps sp:=by
 obtain⟨oc,od,kV,doc,pm,an,cdv,ct,osl,rfl,lk,hcd⟩:=F.ex;exact AZ lk hcd S len λA outer s H vs Q E hr hsp=>ua cdv A outer s H vs Q E hr hsp
def nJ(X:Cx)(E:XK):Prop:=∀(pins:List (Addr×Obj)) (σ:St) (H:Hp) (s:Shared) (ea C:Addr) (od:Option Addr),Inv X pins σ H s→H ea=some (exo true C ea od)→X.H₀ ea=none→E (.ref C) od (del H ea)→X.xe (.ref ea) s
theorem vh{P:Program}{w:World}{K:W.Frag}{mg:Str→Option Value}{base:Heap}{N:List Str}{qual:Str}{scope:Scope}{f:Addr}{cdv:Value}{A:Around}{outer:List Env}{s₀:Shared}{H₀:Hp}{E₀:XK} :
  nJ (cxE P w K mg base N qual scope f cdv A outer s₀ H₀ E₀) E₀:=λ_ _ _ _ _ _ _ I h1 h0 q=>leave_new I h1 h0 q
def DD(H₀:Hp)(K:W.Frag)(E:XK)(te:TE):TS:=λ_ σ H=>te σ H λv H1=>∃ ea C od,v=.ref ea∧H1 ea=some (exo true C ea od)∧(∃ cd,ed K C cd)∧H₀ ea=none∧E (.ref C) od (del H1 ea)
section
variable{X:Cx}
theorem kh{e:Expr}{te:TE}{pos:Pos}{E:XK}(hc:X.calm=true)(hx:nJ X E)(he:PE X e te):PS X (.Raise (some e) none pos) (DD X.H₀ X.K E te):=by
 intro pins s σ H D I h;refine wK (K:=X.K) (I.ok.hd hc) (thn (he pins s σ H _ I h) λu s1 ⟨v,H1,I1,r,ea,C,od,ev,h1,⟨cd,xc⟩,h0,q⟩=>?_);subst ev;obtain rfl:u=Value.ref ea:=r;obtain⟨fs,sl,a0,z,ha,hf⟩:=kB I1.hok h1;exact⟨ea,C,cd,od,fs,sl,rfl,z,hf rfl,xc,I1.kIn,hx pins σ H1 s1 ea C od I1 h1 h0 q⟩
def fq(CX:CXT)(X:Cx)(EK:St→XK):Prop:=∀(pins:List (Addr×Obj)) (σ:St) (H:Hp) (s:Shared) (e:Value) (s':Shared),Inv X pins σ H s→CX X.stack H s (EK σ) e s'→X.xe e s'
theorem Passes.x{CX:CXT}{E:XK}(h:Passes CX X E):fq CX X (λ_=>E):=λpins σ H s e s' I q=>h pins σ H s e s' I q
def GL(sp:Sp)(dvs:List V)(EK:St→XK)(t:TA):TE:=λσ H Q=>t σ H λvs H1=>sp (vs++dvs) H1 Q (EK σ)
def CK(C:Addr)(m:Str)(sp:Sp)(dvs:List V)(EK:St→XK)(ta:TE)(t:TA):TE:=λσ H Q=>ta σ H λx H1=>∃ a dx fs,x=.ref a∧H1 a=some (.ins C dx fs)∧fs.lookup m=none ∧
 t σ H1 λvs H2=>sp (x::(vs++dvs)) H2 Q (EK σ)
def Jd(C:Addr)(sp:Sp)(EK:St→XK)(t:TA):TE:=λσ H Q=>t σ H λvs H1=>∀ ea,H1 ea=none→sp (.ref ea::vs) (upd H1 ea (exo true C ea none)) (λv H2=>v=.non∧Q (.ref ea) H2) (EK σ)
variable{CX:CXT}{k:Nat}{f C:Addr}{fd:FuncData}{ps:List Str}{sp:Sp}{dvs:List V}{ds:List Value}{EK:St→XK}{x m:Str}{p pos apos:Pos}{e o:Expr}{es:List Expr}{ta:TE}{t:TA}
theorem Gf{pins:List (Addr×Obj)}{σ:St}{H:Hp}{s:Shared}{Q:VK}{us:List Value}{vs:List V}(F:kT X.prog X.w X.K X.mg X.base CX k f fd ps sp)(hr:f6 k X.A)(hb:Binds X.K fd ps ds)(hd:Vals dvs ds)(hx:fq CX X EK)
  (I:Inv X pins σ H s) (r:Vals vs us) (h:sp (vs++dvs) H Q (EK σ)):wpAny (model X.prog X.w) X.A (call (.ref f) us) (EP X pins σ Q) X.xe s:=by
 have r2:Vals (vs++dvs) (us++ds):=r.append hd;have hl:(us++ds).length=ps.length:=by rw[←r2.length];exact F.len _ _ _ _ h
 refine wpAny_call (codeAny_mono (F.run X.A X.stack s H ⟨us,[]⟩ (us++ds) (vs++dvs) Q (EK σ) hr I.D4 (hb s us I.kIn hl) r2 h) λr s' hq=>?_);cases r with
 | error e=>exact hx pins σ H s e s' I hq
 | ok fl =>
  cases fl with
  | ret u=>exact I.after hq
  | _=>exact False.elim hq
theorem aH(F:kT X.prog X.w X.K X.mg X.base CX k f fd ps sp)(hr:f6 k X.A)(hg:Gl X x)(hm:X.mg x=some (.ref f))(hk:PySem.W.keepIn X.K (.ref f)=true)(hb:Binds X.K fd ps ds)(hd:Vals dvs ds)(hx:fq CX X EK)
  (ha:PA X (e::es) t) (hdb:(x == ("__debug__" : Str))=false:=by decide) (he:starEach (e::es) X.env=(false,eval e X.env)::starEach es X.env:=by rfl) (hpl:(backTo pos (starEach es X.env)).any (·.1)=false:=by rfl) :
  PE X (.Call (.Name x p) (e::es) [] pos) (GL sp dvs EK t):=by
 intro pins s σ H Q I h;refine wpAny_Call_Name_kw (ky I hg hm ?_ hdb);exact PySem.W.callWith_K (h₀:=X.base) I.ok.mod.kin hk (thn (ha pos pins s σ H _ I h) λus s1 ⟨vs,H1,I1,r,q⟩=>⟨I1.kIn,Gf F hr hb hd hx I1 r q⟩) he hpl
theorem eA{pl:Sem Bool}(he:PE X o ta)(c:Cls X.K C)(hm:Meth X.K C m f)(F:kT X.prog X.w X.K X.mg X.base CX k f fd ps sp)(hr:f6 k X.A)(hb:Binds X.K fd ps ds)(hd:Vals dvs ds)(hx:fq CX X EK)(ha:PA X (e::es) t)
  (hst:starEach (e::es) X.env=(false,eval e X.env)::starEach es X.env:=by rfl) (hpl:(backTo pos (starEach es X.env)).any (·.1)=false:=by rfl)
  (ht:eval (.Call (.Attribute o m apos) (e::es) [] pos) X.env=(do
   let ov ←eval o X.env
   standAt apos.atName
   let (f,first) ←holding [ov] (getMethod ov m pl)
   callWith pos f first (backTo pos (starEach (e::es) X.env)) (backToKw pos (keywordEach [] X.env))):=by rfl) :
  PE X (.Call (.Attribute o m apos) (e::es) [] pos) (CK C m sp dvs EK ta t):=by
 intro pins s σ H Q I h;refine PySem.W.methodCall_KW (pl:=pl) (thn (he pins s σ H _ I h) λu s1 ⟨x,H1,I1,rx,a,dx,fs,ex,ea,l,q⟩=>?_) ht;subst ex;obtain rfl:u=Value.ref a:=rx;refine mU I1 ea c hm l ?_;exact PySem.W.callWith_K (first:=[.ref a]) (h₀:=X.base) I.ok.mod.kin hm.kp (thn (ha pos pins s1 σ H1 _ I1 q) λus s2 ⟨vs,H2,I2,r,q2⟩=>⟨I2.kIn,Gf (us:=.ref a::us) (vs:=.ref a::vs) F hr hb hd hx I2 (.cons rfl r) q2⟩) hst hpl
theorem nK{pl:Sem Bool}(he:PE X o ta)(c:Cls X.K C)(hm:Meth X.K C m f)(F:kT X.prog X.w X.K X.mg X.base CX k f fd ps sp)(hr:f6 k X.A)(hb:Binds X.K fd ps ds)(hd:Vals dvs ds)(hx:fq CX X EK)
  (ht:eval (.Call (.Attribute o m apos) [] [] pos) X.env=(do
   let ov ←eval o X.env
   standAt apos.atName
   let (f,first) ←holding [ov] (getMethod ov m pl)
   callWith pos f first (backTo pos (starEach [] X.env)) (backToKw pos (keywordEach [] X.env))):=by rfl) :
  PE X (.Call (.Attribute o m apos) [] [] pos) (CK C m sp dvs EK ta zW):=by
 intro pins s σ H Q I h;refine PySem.W.methodCall_KW (pl:=pl) (thn (he pins s σ H _ I h) λu s1 ⟨x,H1,I1,rx,a,dx,fs,ex,ea,l,q⟩=>?_) ht;subst ex;obtain rfl:u=Value.ref a:=rx;refine mU I1 ea c hm l ?_;exact PySem.W.callWith_K0 (first:=[.ref a]) I1.kIn hm.kp (Gf (us:=[.ref a]) (vs:=[.ref a]) F hr hb hd hx I1 (.cons rfl .nil) q)
structure MkX(K:W.Frag)(C f:Addr):Prop where
 cls:∃ cd,ed K C cd
 init:PySem.W.findIn K (.ref C) "__init__" = some (some (.ref f))
 fn:PySem.W.isFn K (.ref f)=true
 kp:PySem.W.keepIn K (.ref C)=true
theorem Ax{pins:List (Addr×Obj)}{σ:St}{H:Hp}{s:Shared}{Q:VK}{us:List Value}{vs:List V}(M:MkX X.K C f)(F:kT X.prog X.w X.K X.mg X.base CX k f fd ps sp)(hr:f6 (k+1) X.A)(hb:Binds X.K fd ps [])(hx:fq CX X EK)(hps:ps.length≤1000)
  (I:Inv X pins σ H s) (r:Vals vs us) (h:∀ ea,H ea=none→sp (.ref ea::vs) (upd H ea (exo true C ea none)) (λv H2=>v=.non∧Q (.ref ea) H2) (EK σ)) :
  wpAny (model X.prog X.w) X.A (call (.ref C) us) (EP X pins σ Q) X.xe s:=by
 have hq:=h (s.heap.objs.size+1) (I.hok.fresh (Lo _));obtain⟨cd,xc⟩:=M.cls;have r2:Vals (V.ref (s.heap.objs.size+1)::vs) (Value.ref (s.heap.objs.size+1)::us):=.cons rfl r;have hl:(Value.ref (s.heap.objs.size+1)::us).length=ps.length:=by rw[←r2.length];exact F.len _ _ _ _ hq
 have hz:us.length≤sizeLine:=by rw[Kv]at hl;rw[sizeLine_eq];omega
 have I2:Inv X pins σ (upd H (s.heap.objs.size+1) (exo true C (s.heap.objs.size+1) none)) {s with heap:=ib s.heap C us}:=by
  refine I.laid (t':=s.toks) (λb u q=>JQ _ (JQ _ q)) (Lo _) (vg ⟨#[.ref s.heap.objs.size,.none,.none,.none,.bool false,.none],#[],s.heap.objs.size,?_,rfl,λ_=>rfl⟩);show(ib s.heap C us).get? (s.heap.objs.size+1)=some (ve C s.heap.objs.size);heap_get
 obtain⟨hh,g,d,tk,os⟩:=s;refine wpAny_call (xX xc I.kIn M.init (beq_iff_eq.mp M.fn) hz (codeAny_mono (F.run _ X.stack _ _ ⟨Value.ref (hh.objs.size+1)::us,[]⟩ (Value.ref (hh.objs.size+1)::us) _ _ (EK σ) (hr.make C us []) (I2.D4.make C us [])
  (by have:=hb _ (Value.ref (hh.objs.size+1)::us) I2.kIn (by rw[Lu];exact hl);rw[Lu]at this;exact this) r2 hq) λr s' hq'=>?_))
 cases r with
 | error e=>exact hx pins σ _ _ e s' I2 hq'
 | ok fl =>
  cases fl with
  | ret u =>
   obtain⟨v,H',I3,rv,ev,q3⟩:=I2.after hq';subst ev;exact⟨rv,⟨V.ref (hh.objs.size+1),H',I3,rfl,q3⟩⟩
  | _=>exact False.elim hq'
theorem rg(M:MkX X.K C f)(F:kT X.prog X.w X.K X.mg X.base CX k f fd ps sp)(hr:f6 (k+1) X.A)(hg:Gl X x)(hm:X.mg x=some (.ref C))(hb:Binds X.K fd ps [])(hx:fq CX X EK)
  (ha:PA X (e::es) t) (hps:ps.length≤1000:=by decide) (hdb:(x == ("__debug__" : Str))=false:=by decide) (he:starEach (e::es) X.env=(false,eval e X.env)::starEach es X.env:=by rfl) (hpl:(backTo pos (starEach es X.env)).any (·.1)=false:=by rfl) :
  PE X (.Call (.Name x p) (e::es) [] pos) (Jd C sp EK t):=by
 intro pins s σ H Q I h;refine wpAny_Call_Name_kw (ky I hg hm ?_ hdb);exact PySem.W.callWith_K (h₀:=X.base) I.ok.mod.kin M.kp (thn (ha pos pins s σ H _ I h) λus s1 ⟨vs,H1,I1,r,q⟩=>⟨I1.kIn,Ax M F hr hb hx hps I1 r q⟩) he hpl
end
theorem xY{H:Hp}{a:Addr}{o:HO}(h:H a=some o):upd H a o=H:=by
 funext b
 by_cases e:b=a
 ·rw[e,ae,h]
 ·rw[aj e]
section
variable{X:Cx}
def tVe(K:W.Frag)(t:TA):TE:=λσ H Q=>t σ H λvs H1=>∃ ea C od r,vs=.ref ea::r∧r.length≤1000∧H1 ea=some (exo true C ea od)∧(∃ cd,ed K C cd)∧Q .non H1
theorem GN{p apos pos:Pos}{e:Expr}{es:List Expr}{t:TA}{pl:Sem Bool}(hg:Gl X "ValueError")(hm:X.mg "ValueError" = none)(ha:PA X (e::es) t)
  (hst:starEach (e::es) X.env=(false,eval e X.env)::starEach es X.env:=by rfl) (hpl:(backTo pos (starEach es X.env)).any (·.1)=false:=by rfl)
  (ht:eval (.Call (.Attribute (.Name "ValueError" p) "__init__" apos) (e::es) [] pos) X.env=(do
   let ov ←eval (.Name "ValueError" p) X.env
   standAt apos.atName
   let (f,first) ←holding [ov] (getMethod ov "__init__" pl)
   callWith pos f first (backTo pos (starEach (e::es) X.env)) (backToKw pos (keywordEach [] X.env))):=by rfl) :
  PE X (.Call (.Attribute (.Name "ValueError" p) "__init__" apos) (e::es) [] pos) (tVe X.K t):=by
 intro pins s σ H Q I h;refine PySem.W.methodCall_KW (pl:=pl) (j2 I hg hm PyProof.Rows.Boot.«ValueError» ?_) ht;refine Av I.kIn ?_;refine PyProof.Rows.callWith_builtin1 (thn (ha pos pins _ σ H _ (I.tok _) h) λus s1 ⟨vs,H1,I1,r,ea,C,od,rr,ev,hl,h1,⟨cd,xc⟩,q⟩=>?_) hst hpl;subst ev;cases r with
 | @cons _ u _ us' r1 r2 =>
 obtain rfl:u=Value.ref ea:=r1;obtain⟨fs,sl,a0,z,ha,hf⟩:=kB I1.hok h1;have hz:us'.length≤sizeLine:=by rw[←r2.length,sizeLine_eq];omega
 have I2:Inv X pins σ H1 {s1 with heap:=s1.heap.push (jr us')}:=I1.kept (t':=s1.toks) λb u q=>JQ _ q;have z2:=JQ (h:=s1.heap) (jr us') z;have hs0:0<fs.size:=(Kl.mp ha).1;have I3:Inv X pins σ (upd H1 ea (exo true C ea od)) {s1 with heap:=(s1.heap.push (jr us')).update ea (Obj.mapFields (·.setIfInBounds 0 (.ref s1.heap.objs.size)))}:=by
  refine I2.write (x:=ea) (e:=ea) (t':=s1.toks) (by rw[h1];exact True.intro) (.inl rfl) (λb u hb q=>(Ky _ _ (KG hb)).trans q) ⟨_,kA z2⟩ (vg ⟨_,_,s1.heap.objs.size,kA z2,by simp[hs0],λ_=>?_⟩)
  have:=hf rfl
  simpa using this
 rw[xY h1]at I3;obtain⟨hh,g,d,tk,os⟩:=s1;exact rG xc I1.kIn z ha hz ⟨.non,H1,I3,rfl,q⟩
abbrev TF:=St→Hp→(Hp→Prop)→Prop
def PF(X:Cx)(e:Expr)(t:TF):Prop :=
 ∀(pins:List (Addr×Obj)) (s:Shared) (σ:St) (H:Hp) (Q:Hp→Prop),Inv X pins σ H s→t σ H Q→wpAny (model X.prog X.w) X.A (eval e X.env) (λv s1=>∃ y tk H1,v=.str y tk∧y.length≤2000∧Inv X pins σ H1 s1∧Q H1) X.xe s
def PFs(X:Cx)(es:List Expr)(t:TF):Prop :=
 ∀(out:Str) (pins:List (Addr×Obj)) (s:Shared) (σ:St) (H:Hp) (Q:V→Hp→Prop),out.length+2000*es.length≤100000→Inv X pins σ H s→t σ H (λH1=>∀ y,y.length≤100000→Q (.str y) H1) →
  wpAny (model X.prog X.w) X.A (joinParts out (evalEach es X.env)) (EP X pins σ Q) X.xe s
def CL:TF:=λ_ H Q=>Q H
def Je(te:TE):TF:=λσ H Q=>te σ H λv H1=>∃ i,v=.int i∧i.natAbs.log2<1920∧Q H1
def DE(t u:TF):TF:=λσ H Q=>t σ H λH1=>u σ H1 Q
theorem tF:(100000:Nat)≤sizeLine:=by rw[sizeLine_eq];omega
theorem iM{x j pos}(hl:x.length≤2000:=by decide +kernel):PF X (.Constant (.str x) j pos) CL:=λ_ _ _ H _ I h=>Calls.Constant_str ⟨_,_,H,rfl,hl,I.tok _,h⟩
theorem lI{e:Expr}{te:TE}{pos:Pos}(he:PE X e te):PF X (.FormattedValue e (-1) none pos) (Je te):=by
 intro pins s σ H Q I h;refine FormattedValue_plain (thn (he pins s σ H _ I h) λu s1 ⟨v,H1,I1,r,i,ev,hi,q⟩=>?_);subst ev;obtain⟨t,rfl⟩:=(show ∃ t,u=Value.int i t from r);exact formatField_int_small hi ⟨_,_,H1,rfl,Ko (int_text_len_1921 hi) (by decide),I1.tok _,q⟩
theorem m4:PFs X [] CL:=λout pins s σ H Q hl I h =>
 joinParts_nil ⟨.str out,H,I.tok _,⟨_,rfl⟩,h out (by simpa using hl)⟩ (Ko (by simpa using hl) tF)
theorem dA{e:Expr}{es:List Expr}{t u:TF}(h1:PF X e t)(h2:PFs X es u):PFs X (e::es) (DE t u):=by
 intro out pins s σ H Q hl I h;rw[Kv]at hl;refine joinParts_consE (joinParts_cons (thn (h1 pins s σ H _ I h) λv s1 ⟨y,tk,H1,ev,hy,I1,q⟩=>?_));subst ev;have hz:(out++y).length+2000*es.length≤100000:=by rw[strLen_append];omega
 exact⟨Ko (by omega) tF,h2 (out++y) pins s1 σ H1 Q hz I1 q⟩
def GO(t:TF):TE:=λσ H Q=>t σ H λH1=>∀ y,y.length≤100000→Q (.str y) H1
theorem m5{e e':Expr}{es:List Expr}{t:TF}{pos:Pos}(h:PFs X (e::e'::es) t)(hl:2000*(e::e'::es).length≤100000:=by decide):PE X (.JoinedStr (e::e'::es) pos) (GO t) :=
 λpins s σ H Q I q=>JoinedStr_many (h Str.empty pins s σ H Q (by have z:Str.empty.length=0:=rfl;rw[z];omega) I q)
inductive TyX(K:W.Frag)(H:Hp):V→Value→Prop where
 | of {x:V} {t:Value} (h:oa K H x t):TyX K H x t
 | exc {b:Bool} {a C:Addr} {od:Option Addr} {cd:ClassData} (e:H a=some (exo b C a od)) (hd:od=none∨∃ dx fs,od=some dx∧H dx=some (.xd fs)) (x:ed K C cd) (g:yP K C)
   (hc:PySem.W.findIn K (.ref C) "__class__" = some (some (.builtin "object.__class__"))):TyX K H (.ref a) (.ref C)
def yQ:V→Value
 | .ref a=>.ref a
 | .ty n=>.type n
 | _=>.none
theorem tG{P:Program}{w:World}{H:Hp}{h:Heap}{b:Bool}{C a:Addr}{od:Option Addr}(ok:HOk P w H h)(e:H a=some (exo b C a od))(hd:od=none∨∃ dx fs,od=some dx∧H dx=some (.xd fs)) :
  ∃ ox o,PySem.W.InstAt h a ox C o:=by
 obtain⟨fs,sl,a0,z,_⟩:=kB ok e;rcases hd with rfl|⟨dx,gs,rfl,q⟩
 ·exact⟨_,_,wL z⟩
 ·obtain⟨mA,n,_⟩:=(show cw P w H h dx (.xd gs) from ok dx _ q)
  obtain⟨o,_,_,ho,_⟩:=n;exact⟨_,_,wM z ho⟩
def Gg(K:W.Frag):List V→Hp→VK→Prop:=λvs H Q=>∃ x c t b,vs=[x,c]∧TyX K H x t∧(∃ a,c=.ref a)∧PySem.W.kitOne K t (yQ c)=some b∧Q (.bl b) H
def zC(K:W.Frag):List V→Hp→VK→Prop:=λvs H Q=>∃ x c t b,vs=[x,c]∧TyX K H x t∧(∃ n,c=.ty n)∧PySem.W.kitOne K t (yQ c)=some b∧Q (.bl b) H
theorem vJ{pins:List (Addr×Obj)}{s:Shared}{σ:St}{H:Hp}{x:V}{u c t:Value}{b:Bool}{Q:VK}(I:Inv X pins σ H s)(rx:RelV x u)(ty:TyX X.K H x t)(e:PySem.W.kitOne X.K t c=some b)(q:Q (.bl b) H) :
  wpAny (model X.prog X.w) X.A (call (.builtin "isinstance") [u,c]) (EP X pins σ Q) X.xe s:=by
 have fin:∀ tk,EP X pins σ Q (.bool b) {s with toks:=tk}:=λtk=>⟨.bl b,H,I.tok tk,rfl,q⟩;cases ty with
 | of h=>exact wB I rx h e fin
 | exc ea hd xc g hc =>
  cases (show u=Value.ref _ from rx);obtain⟨ox,o,J⟩:=tG I.hok ea hd;exact PySem.W.kia_one (vI xc g hc) I.kIn ⟨ox,o,J⟩ e (λz=>nomatch z) fin
theorem tH:je X (.builtin "isinstance") (Gg X.K):=by
 rintro pins s σ H xs us Q I r ⟨x,c,t,b,rfl,ty,⟨a,rfl⟩,e,q⟩;obtain⟨u,v,rfl,ru,rv⟩:=vals2 r;cases (show v=Value.ref a from rv);exact vJ I ru ty e q
theorem wQ:je X (.builtin "isinstance") (zC X.K):=by
 rintro pins s σ H xs us Q I r ⟨x,c,t,b,rfl,ty,⟨n,rfl⟩,e,q⟩;obtain⟨u,v,rfl,ru,rv⟩:=vals2 r;cases (show v=Value.type n from rv);exact vJ I ru ty e q
end
abbrev Cx.rh(X:Cx)(pins:List (Addr×Obj))(E:Value→Shared→Prop):Cx:={X with xe:=E,pn:=X.pn++pins}
abbrev Cx.iP(X:Cx)(ea:Addr):Cx:={X with A:=X.A.mark (some (.ref ea)),calm:=false,xe:=λ_ _=>False}
section
variable{X:Cx}{pins:List (Addr×Obj)}{σ:St}{H:Hp}{s:Shared}{E:Value→Shared→Prop}{ea:Addr}
theorem Inv.rh(I:Inv X pins σ H s)(E:Value→Shared→Prop):Inv (X.rh pins E) [] σ H s :=
 ⟨⟨I.ok.mod,I.ok.kind,I.ok.glob,I.ok.blt,I.ok.above,I.ok.inj,I.ok.has,I.ok.cab,I.ok.hd,I.ok.frames,I.ok.stk,I.ok.exf,I.ok.bs,I.ok.bsz,I.ok.tU,I.ok.xE,I.ok.lQ,I.ok.frf⟩,
  I.os,I.bare,I.base,I.loc,I.cell,I.free,I.fU,λp hp=>I.pin p (by simpa using hp),I.hok,I.len⟩
theorem Inv.kC{qV:List (Addr×Obj)}(I:Inv (X.rh pins E) qV σ H s):Inv X pins σ H s :=
 ⟨⟨I.ok.mod,I.ok.kind,I.ok.glob,I.ok.blt,I.ok.above,I.ok.inj,I.ok.has,I.ok.cab,I.ok.hd,I.ok.frames,I.ok.stk,I.ok.exf,I.ok.bs,I.ok.bsz,I.ok.tU,I.ok.xE,I.ok.lQ,I.ok.frf⟩,
  I.os,I.bare,I.base,I.loc,I.cell,I.free,I.fU,λp hp=>I.pin p (Kw _ hp),I.hok,I.len⟩
theorem Inv.iP(I:Inv X pins σ H s)(ea:Addr):Inv (X.iP ea) pins σ H s :=
 ⟨⟨I.ok.mod,I.ok.kind,I.ok.glob,I.ok.blt,I.ok.above,I.ok.inj,I.ok.has,I.ok.cab,(λz=>nomatch z),I.ok.frames,I.ok.stk,I.ok.exf,I.ok.bs,I.ok.bsz,I.ok.tU,I.ok.xE,I.ok.lQ,I.ok.frf⟩,
  I.os,I.bare,I.base,I.loc,I.cell,I.free,I.fU,I.pin,I.hok,I.len⟩
theorem Inv.uncaught{Y:Cx}(I:Inv (Y.iP ea) pins σ H s)(ok:Y.Ok):Inv Y pins σ H s:=⟨ok,I.os,I.bare,I.base,I.loc,I.cell,I.free,I.fU,I.pin,I.hok,I.len⟩
theorem Inv.GP{o:HO}{c:Value}{od:Option Addr}{fs:Array Value}{sl:Array (Option Value)}(I:Inv X pins σ H s)(hn:H ea=none)(h0:X.s₀.heap.get? ea=none)(hr:s.heap.get? ea=some (bq c od fs sl))
  (hp:∀ p∈X.pn++pins,p.1≠ea) (new:cw X.prog X.w (upd H ea o) s.heap ea o):Inv X pins σ (upd H ea o) s:=by
 have ne:∀ b u,H b=some u→b≠ea:=λb u q e=>by rw[e,hn]at q;cases q
 refine⟨I.ok,I.os,I.bare,⟨I.base.keep,I.base.slot,λb u q n hx=>?_,I.base.there,λb xs q=>?_,λb u v q=>?_,λb ps q=>?_⟩,I.loc,I.cell,?_,λx c' q=>?_,λp hq=>?_,I.hok.add hn new,I.len⟩
 ·rw[aj λe=>by rw[e,h0]at q;cases q]
  exact I.base.free b u q n hx
 ·have r:=I.base.ku b xs q
  rw[aj (ne b _ r)];exact r
 ·have r:=I.base.lO b u v q
  rw[aj (ne b _ r)];exact r
 ·obtain⟨more,r⟩:=I.base.lP b ps q
  exact⟨more,by rw[aj (ne b _ r)];exact r⟩
 ·rw[aj λe=>?_]
  ·exact I.free
  ·obtain⟨m,⟨oL,es,ep,ho,hd,_⟩,_⟩:=I.loc
   rw[e,hr]at ho;cases ho;cases hd
 ·rw[aj λe=>?_]
  ·exact I.fU x c' q
  ·obtain⟨v,oc,ho,hd⟩:=I.cell x c' q
   rw[e,hr]at ho;cases ho;cases hd
 ·obtain⟨e,n,z⟩:=I.pin p hq
  exact⟨e,by rw[aj (hp p hq)];exact n,z⟩
end
def vK(i:Nat)(D:Ends):Ends:={nx:=λσ H=>D.nx (σ.set i none) H,rt:=D.rt,bk:=λσ H=>D.bk (σ.set i none) H,ct:=λσ H=>D.ct (σ.set i none) H}
def zE(K:W.Frag)(Dc:Addr)(i:Nat)(ts:TS)(D:Ends):St→XK:=λσ c od H=>∃ C cd,c=.ref C∧ed K C cd∧cd.mro.contains (.ref Dc)=true∧∀ ea,H ea=none→ts (vK i D) (σ.set i (some (.ref ea))) (upd H ea (exo false C ea od))
def Jf(K:W.Frag)(Dc:Addr)(i:Nat)(tb:(St→XK)→TS)(ts:TS):TS:=λD σ H=>tb (zE K Dc i ts D) D σ H
section
variable{X:Cx}
theorem xZ{pins:List (Addr×Obj)}{σ:St}{H:Hp}{s:Shared}{E:Value→Shared→Prop}{n:Str}{i:Nat}{pos:Pos}{Q:Unit→Shared→Prop}(I:Inv X pins σ H s)(hN:X.N.Nodup)(hi:X.N[i]?=some n)(hx:X.env.scope.names.lookup n=some .local)
  (k:∀ s',Inv X pins (σ.set i none) H s'→Q () s'):wpAny (model X.prog X.w) X.A (do bindName X.env n .none;unbindBehindTheSuite X.env n pos) Q E s:=by
 obtain⟨m,hn,hl⟩:=id I.loc;have DX:(X.env.scope.kind == .class||(X.env.scope.kind == .module&&X.env.locals != X.env.globals))=false:=by rw[I.ok.kind];rfl
 refine wpAny_nameGoes_keeps hx hn DX λh' v hn' hs=>k _ ?_;obtain⟨oL,_,_,hoL,_⟩:=id hn;have tr:HOk X.prog X.w H h':=I.hok.keeps λb u o q r=>(hs.2 b λe=>by rw[e,I.free]at q;cases q).trans r;refine⟨I.ok,I.os,I.bare,⟨λb o e n hb hx=>?_,λb o e n hb hx=>?_,I.base.free,λb o e hx=>?_,I.base.ku,I.base.lO,I.base.lP⟩,⟨_,hn',λj y v' e1 e2 e3=>?_⟩,λy c e=>?_,I.free,I.fU,λp hp=>?_,tr,by simpa using I.len⟩
 ·exact(hs.2 b (Kb (J8 (JY e) I.ok.above))).trans (I.base.keep b o e n hb hx)
 ·obtain⟨sl,e1⟩:=I.base.slot b o e n hb hx
  exact⟨sl,(hs.2 b (Kb (J8 (JY e) I.ok.above))).trans e1⟩
 ·obtain⟨o',e1⟩:=I.base.there b o e hx
  exact⟨o',(hs.2 b (Kb (J8 (JY e) I.ok.above))).trans e1⟩
 ·by_cases hj:j=i
  ·subst hj
   rw[LA]at e2;simp only[if_true]at e2;split at e2<;>cases e2
  ·rw[KD (KG hj)]at e2
   obtain⟨u',r',q⟩:=hl j y v' e1 e2 e3;refine⟨u',r',?_⟩;rcases q with⟨kk,e⟩|⟨kk,c,e,z⟩
   ·refine .inl ⟨kk,?_⟩
    have:y≠n:=λe=>hj (nE hN e1 (e ▸ hi))
    simp[this,e]
   ·exact .inr ⟨kk,c,e,z.sameBut hs (I.cne y c e)⟩
 ·obtain⟨w',z⟩:=I.cell y c e
  exact⟨w',z.sameBut hs (I.cne y c e)⟩
 ·obtain⟨e,n,ne,nf,d⟩:=I.pin p hp
  exact⟨(hs.2 p.1 ne).trans e,n,ne,nf,d⟩
theorem DF{body CM:List Stmt}{b₀:Stmt}{x n:Str}{np hpos pos:Pos}{i:Nat}{Dc:Addr}{cdD:ClassData}{tb:(St→XK)→TS}{ts:TS}(hex:X.ex=[])(hst:X.stack=X.env::X.outer)(hfr:X.env.frame=some X.env.locals)(hg:Gl X x)(hm:X.mg x=some (.ref Dc))
  (hD:ed X.K Dc cdD) (hN:X.N.Nodup) (hi:X.N[i]?=some n) (hx:X.env.scope.names.lookup n=some .local)
  (hb:∀(pins:List (Addr×Obj)) (E:Value→Shared→Prop) (EK:St→XK),fq (CXE X.prog X.w) (X.rh pins E) EK→PSs (X.rh pins E) body (tb EK))
  (hs:∀ ea,PSs (X.iP ea) (b₀::CM) ts) (hdb:(x == ("__debug__" : Str))=false:=by decide) :
  PS X (.Try body [.ExceptHandler (some (.Name x np)) (some n) (b₀::CM) hpos] [] [] pos) (Jf X.K Dc i tb ts):=by
 intro pins s σ H D I h;refine wpAny_Try_except ?_;refine wpAny_mono (hb pins (λe s₁=>∃ σ' H1 sc,Inv X pins σ' H1 sc∧CXE X.prog X.w X.stack H1 sc (zE X.K Dc i ts D σ') e s₁) (zE X.K Dc i ts D)
  (λqV σ' H1 sc e s' J q=>⟨σ',H1,sc,J.kC,q⟩) [] s σ H D (I.rh _) h) (λfl s1 q=>?_) λe s1 q=>?_
 ·cases fl with
  | next =>
   obtain⟨σ',H',J,q⟩:=q;exact wpAny_execs_nil ⟨σ',H',J.kC,q⟩
  | brk=>obtain⟨σ',H',J,q⟩:=q;exact⟨σ',H',J.kC,q⟩
  | cont=>obtain⟨σ',H',J,q⟩:=q;exact⟨σ',H',J.kC,q⟩
  | ret u=>obtain⟨v,σ',H',J,r,q⟩:=q;exact⟨v,σ',H',J.kC,r,q⟩
 ·obtain⟨σ',H1,sc,J,ea,Cv,T,od,fs,sl,H',rfl,l,C,cd,ec,xc,hmr,q⟩:=q
  cases ec;have hA:X.A.frames=some (X.env::X.outer):=by rw[J.ok.frames,hst]
  have hF:s1.heap.FunFrames X.base (X.env::X.outer):=by rw[←hst];exact l.frames J
  have e0:X.s₀.heap.get? ea=none:=by
   cases z:X.s₀.heap.get? ea with
   | none=>rfl
   | some o =>
    obtain⟨o',z'⟩:=J.base.there ea o z (by rw[hex];exact KU);rw[l.Aw]at z';cases z'
  have st:∀(m:Heap) (tk:Nat),Kept (bR X.stack) [ea,T] s1.heap m→Inv X pins σ' H' {s1 with heap:=m,toks:=tk}:=λm tk k=>by
   obtain⟨un,hok⟩:=l.on (t':=s1.toks) J k;exact J.mS l.os un hok l.bare λb z=>absurd z (by simp)
  have pn:∀ p∈X.pn++pins,p.1≠ea:=λp hp e=>by
   obtain⟨z,_⟩:=J.pin p hp;rw[e,l.Aw]at z;cases z
  refine qQ hA hF hfr l.at_ l.trail λm T' oc tsx z1 z2 z3 z4 z5=>?_;have Te:T'≠ea:=KR (J8 (JY l.at_) z1);have f1:(fs.setIfInBounds 1 (Value.ref T'))[1]?=some (.ref T'):=by
   have:=l.trail.size
   simp[this]
  have k1:Kept (bR X.stack) [ea,T] s1.heap m:=by rw[hst];exact z2
  refine iC (s:={s1 with heap:=m}) z3 f1 Te z4 (Kl.mp z5).1 λm' q1 q2 q3=>?_;have nT:∀ b o,s1.heap.get? b=some o→b≠T':=λb o q=>Kb (J8 (JY q) z1);have k2:Kept (bR X.stack) [ea,T] s1.heap m':=⟨λb o q hb hx=>q1 b o (nT b o q) (k1.plain b o q hb hx),λb o q hb hx=>by
   obtain⟨sm,r⟩:=k1.frame b o q hb hx;exact⟨sm,q1 b _ (nT b o q) r⟩⟩
  have J2:=st m' s1.toks k2;refine wpAny_handleBy_cons (codeAny_handlers_test ?_) (by intro z;cases z);refine ky (X:=X.iP ea) (J2.iP ea) hg hm ?_ hdb;refine rH xc hD J2.kIn q3 ?_;rw[hmr];refine codeAny_handlers_suite_as ?_;cases q2 with
  | @some _ oc2 ts2 d2 sm2 y1 y2 y3 y4 =>
  refine iC (s:={s1 with heap:=m'}) q3 y1 y2 y3 (Kl.mp y4).1 λm3 r1 r2 r3=>?_;have k3:Kept (bR X.stack) [ea,T] s1.heap m3:=⟨λb o q hb hx=>r1 b o (nT b o q) (k2.plain b o q hb hx),λb o q hb hx=>by
   obtain⟨sm,r⟩:=k2.frame b o q hb hx;exact⟨sm,r1 b _ (nT b o q) r⟩⟩
  have J3:=st m3 s1.toks k3;obtain⟨a0,ha⟩:=l.args;have J4:Inv X pins σ' (upd H' ea (exo false Cv ea od)) {s1 with heap:=m3}:=J3.GP l.ue e0 r3 pn (vg ⟨_,_,a0,r3,by simpa using ha,λz=>nomatch z⟩);refine j6 (X:=X.iP ea) (J4.iP ea) hN hi (.inl hx) (v:=.ref ea) rfl (λs5 J5=>?_) (.inr hx);refine wpAny_mono (hs ea pins s5 _ _ (vK i D) J5 (q ea l.ue)) (λfl s6 w=>?_) λ_ _ z=>False.elim z;have off:∀ {σ6:St} {H6:Hp} {Q6:Unit→Shared→Prop},Inv (X.iP ea) pins σ6 H6 s6→(∀ s7,Inv X pins (σ6.set i none) H6 s7→Q6 () s7)→wpAny (model X.prog X.w) X.A (do bindName X.env n .none;unbindBehindTheSuite X.env n hpos) Q6 X.xe s6 :=
   λJ6 k=>xZ (J6.uncaught J.ok) hN hi hx k
  cases fl with
  | next=>obtain⟨σ6,H6,J6,w⟩:=w;exact off J6 λs7 J7=>⟨_,_,J7,w⟩
  | brk=>obtain⟨σ6,H6,J6,w⟩:=w;exact off J6 λs7 J7=>⟨_,_,J7,w⟩
  | cont=>obtain⟨σ6,H6,J6,w⟩:=w;exact off J6 λs7 J7=>⟨_,_,J7,w⟩
  | ret u=>obtain⟨v,σ6,H6,J6,r,w⟩:=w;exact off J6 λs7 J7=>⟨v,_,_,J7,r,w⟩
end
section
variable{X:Cx}
def GQ(K:W.Frag):R2:=λx y H Q=>∃ l b xs zs,x=.ref l∧y=.ref b∧SqL K H l xs∧SqL K H b zs∧xs.length+zs.length≤sizeLine∧∀ p,H p=none→Q (.ref p) (upd H p (.lst (xs++zs)))
theorem vL:OpR X (binaryOp .Add) (GQ X.K):=by
 intro pins s σ H x y v u Q I rx ry h;obtain⟨l,b,xs,zs,rfl,rfl,hx,hy,hz,q⟩:=h;cases rx;cases ry;obtain⟨vs,r1,⟨⟨c1,d1,da1,s1⟩,n1,e1,f1,_,g1⟩,_⟩:=I.list hx;obtain⟨ws,r2,⟨⟨c2,d2,da2,s2⟩,n2,e2,f2,_,g2⟩,_⟩:=I.list hy;simp only at f1 g1 f2 g2;subst f1 g1 f2 g2;have hl:vs.length+ws.length≤sizeLine:=by rw[←r1.length,←r2.length];exact hz
 have ea:vs.toArray++ws.toArray=(vs++ws).toArray:=by simp
 refine concat_meets ⟨_,e1,rfl⟩ ⟨_,e2,rfl⟩ noFill_list_add seq_list_add PySem.F.slot_list_add PySem.F.entry_list_add (PySem.F.args_list_add_2 _ _) (list_addW l b vs.toArray ws.toArray n1 n2 d1 d2 s1 s2 (by simpa using hl)) ⟨e1,e2,?_⟩;rw[ea];exact⟨.ref _,_,I.yK (t':=s.toks) (r1.append r2) (by rw[JU];exact hz),rfl,q _ I.fresh⟩
theorem m6{x:V}:∀ {xs:List V} {us:List Value},Vals xs us→xs.all d3=true→us.countP (eqU x)=xs.countP λy=>eqV y x
 | _,_,.nil,_=>rfl
 | y::xs,u::us,.cons r t,f=>by
  rw[List.all_cons,Lh]at f;rw[List.countP_cons,List.countP_cons,rb r f.1,m6 t f.2]
def vi(K:W.Frag):V→List V→Hp→VK→Prop:=λx vs H Q=>∃ l xs y,x=.ref l∧vs=[y]∧SqL K H l xs∧d3 y=true∧xs.all d3=true∧Q (.int (xs.countP (λz=>eqV z y):Nat)) H
theorem x3:MtM X "list.count" (vi X.K):=by
 intro pins s σ H x vs v us Q I rx rv h;obtain⟨l,xs,y,rfl,rfl,hx,fy,fx,q⟩:=h;cases rx;obtain⟨u,rfl,ru⟩:=rv.one;obtain⟨its,r1,⟨⟨c1,d1,da1,s1⟩,n1,e1,f1,_,g1⟩,_⟩:=I.list hx;simp only at f1 g1;subst f1 g1;refine call_meets PySem.F.slot_list_count ⟨_,e1,rfl⟩ PySem.F.entry_list_count (PySem.F.args_list_count_2 _ _) (SeqAt.list_countAt l its.toArray n1 d1 s1 u (eqU y)) ⟨e1,λz hz=>gH ru fy r1 fx z (by simpa using hz),?_⟩;rw[show its.toArray.toList=its from rfl,m6 r1 fx];exact⟨.int _,H,I.tok _,⟨_,rfl⟩,q⟩
end
theorem ar.upd{H:Hp}{a:Addr}{o:HO}(h:H a=none):ar H (L2.upd H a o):=λb u q=>by rw[aj λe=>by rw[e,h]at q;cases q];exact q
structure Ay(K:W.Frag)(C:Addr):Prop where
 cls:∃ cd,ed K C cd
 get:yP K C
 own:PySem.W.findIn K (.ref C) "__class__" = some (some (.builtin "object.__class__"))
theorem Ay.ty{K:W.Frag}{C a:Addr}{H:Hp}{b:Bool}(c:Ay K C)(e:H a=some (exo b C a none)):TyX K H (.ref a) (.ref C):=by
 obtain⟨cd,x⟩:=c.cls;exact .exc e (.inl rfl) x c.get c.own
def yR(K:W.Frag):Sp:=λvs H Q _=>∃ ea C od x,vs=[.ref ea,x]∧H ea=some (exo true C ea od)∧(∃ cd,ed K C cd)∧Q .non H
theorem kJ{K:W.Frag}{i:Nat}{σ:St}{H:Hp}{Q:VK}{x:V}{D:String}{t:Value}{b:Bool}(h0:σ[i]?=some (some x))(ty:TyX K H x t)(hk:PySem.W.kitOne K t (.type D)=some b)(q:Q (.bl b) H) :
  tCB (zC K) (t8 (zT i) (t8 (tC (.ty D)) zW)) σ H Q:=⟨x,h0,x,.ty D,t,b,rfl,ty,⟨_,rfl⟩,hk,q⟩
theorem GR{X:Cx}{x:Str}{T:String}{pos:Pos}(hg:Gl X x)(hm:X.mg x=none)(hv:bootBuiltins x=some (.type T))(hn:x ≠ "__name__" := by decide)(hd:(x == ("__debug__" : Str))=false:=by decide):PE X (.Name x pos) (tC (.ty T)) :=
 λ_ _ _ H _ I h=>j2 I hg hm hv ⟨.ty T,H,I,rfl,h⟩ hn hd
theorem dU{P:Program}{w:World}{X:Cx}:fq (CXE P w) X.nox (λ_ _ _ _=>False):=λ_ _ _ _ _ _ _ ⟨_,_,_,_,_,_,_,_,_,q⟩=>q.elim
theorem wU{n:Int}(h:n.natAbs<2 ^ 1920):n.natAbs.log2<1920:=by
 by_cases z:n.natAbs=0
 ·rw[z];decide
 ·exact(Nat.log2_lt z).mpr h
theorem GS{P:Program}{w:World}{outer:List Env}{H:Hp}{s:Shared}{e:Value}{s':Shared}(h:CXE P w outer H s (λ_ _ _=>False) e s'):False:=by
 obtain⟨_,_,_,_,_,_,_,_,_,q⟩:=h;exact q
def zF(xs ys:List V):Bool:=(List.range xs.length).all λj=>eqV (xs.getD j .non) (ys.getD j .non)
def Jg(K:W.Frag):R2:=λx y H Q=>∃ a b xs ys,x=.ref a∧y=.ref b∧SqL K H a xs∧SqL K H b ys∧xs.length=ys.length∧xs.all d3=true∧ys.all d3=true∧Q (.bl (zF xs ys)) H
theorem DG{X:Cx}(hu:X.A.units<cLine):OpR X (compareOp .Eq) (Jg X.K):=by
 intro pins s σ H x y v u Q I rx ry h;obtain⟨a,b,xs,ys,rfl,rfl,ha,hb,hl,fx,fy,q⟩:=h;cases rx;cases ry;obtain⟨vs,r1,⟨o1,n1,e1,c1,_,g1⟩,_⟩:=I.list ha;obtain⟨ws,r2,⟨o2,n2,e2,c2,_,g2⟩,_⟩:=I.list hb;have l1:=r1.length;have l2:=r2.length;refine SeqAt.eq_listAt (e:=λj=>eqV (xs.getD j .non) (ys.getD j .non)) ⟨o1,e1,c1,n1,g1⟩ ⟨o2,e2,c2,n2,g2⟩ (by simp only[JV];omega) hu (λj h1 h2=>?_) ⟨.bl _,H,I,rfl,?_⟩
 ·simp only[JV]at h1 h2
  obtain⟨w1,z1,rz1⟩:=r1.get (i:=j) (x:=xs[j]'(by omega)) (JM (by omega));obtain⟨w2,z2,rz2⟩:=r2.get (i:=j) (x:=ys[j]'(by omega)) (JM (by omega));have a1:vs.toArray[j]=w1:=by
   have:=(JN.mp z1).2
   simpa using this
  have a2:ws.toArray[j]=w2:=by
   have:=(JN.mp z2).2
   simpa using this
  rw[a1,a2];have d1:xs.getD j .non=xs[j]'(by omega):=by simp[List.getD,JM (show j<xs.length by omega)]
  have d2:ys.getD j .non=ys[j]'(by omega):=by simp[List.getD,JM (show j<ys.length by omega)]
  show SeqAt.EqAt _ _ _ _ (eqV (xs.getD j .non) (ys.getD j .non));rw[d1,d2];exact q9 rz1 rz2 (K6.mp fx _ (Lr _)) (K6.mp fy _ (Lr _))
 ·have:vs.toArray.size=xs.length:=by simp only[JV];omega
  rw[this];exact q
section
variable{X:Cx}
variable{o e value:Expr}{f:Str}{pos pos':Pos}{ta tv:TE}
end
theorem ix{prog:Program}{w:World}{A:Around}{R:Result→Shared→Prop}{s:Shared}{elt target iter:Expr}{scope:Scope}{pos:Pos}{it acc:Value}{env:Env}(I:Nat→Shared→Prop)
  (turn:∀ n s,I n s→wpAny (model prog w) A (pyNext it) (λr s₁=>match r with
   | none=>R (.ok .next) s₁
   | some v=>wpAny (model prog w) A (letOwnedTupleGo target it v) (λ_ s5=>wpAny (model prog w) A (assign target env v) (λ_ s₂=>wpAny (model prog w) A (eval elt env) (λx s₃ =>
     wpAny (model prog w) A (call (.builtin "list.append") [acc,x]) (λ_ s₄=>∃ m,m<n∧I m s₄) (notedBy (model prog w) A env λe s'=>R (.error e) s') s₃)
     (notedBy (model prog w) A env λe s'=>R (.error e) s') s₂) (notedBy (model prog w) A env λe s'=>R (.error e) s') s5) (notedBy (model prog w) A env λe s'=>R (.error e) s') s₁) (notedBy (model prog w) A env λe s'=>R (.error e) s') s)
  (n:Nat) (h:I n s):codeAny (model prog w) A (.compLoop (.ListComp elt [⟨target,iter,[],0⟩] scope pos) 0 it acc env) R s:=by
 refine codeAny_loop rfl I (λn s hI=>?_) n h;show wpAny _ _ ((compTurn (.ListComp elt [⟨target,iter,[],0⟩] scope pos) 0 it acc env).onRaise (λx=>do noteFrame x env;theTreesLotGoes x)) _ _ s
 refine wpAny_noted ?_;rw[compTurn_list1];refine wpAny_bind (wpAny_standAt (wpAny_bind (wpAny_mono (turn n s hI) (λr s₁ h₁=>?_) λ_ _ h'=>h')));cases r with
 | none=>exact wpAny_pure h₁
 | some v =>
  refine wpAny_bind (wpAny_mono h₁ (λ_ s5 h5=>?_) λ_ _ h'=>h');exact wpAny_bind (wpAny_mono h5 (λ_ s₂ h₂=>wpAny_bind (wpAny_bind (wpAny_mono h₂ (λx s₃ h₃=>wpAny_bind (wpAny_mono h₃
   (λ_ s₄ h₄=>wpAny_pure (wpAny_pure ⟨rfl,h₄⟩)) λ_ _ h'=>h')) λ_ _ h'=>h'))) λ_ _ h'=>h')
abbrev cxC(X:Cx)(scope:Scope)(cl:List (Str×Addr))(NC:List Str)(C:Addr)(fp:List Addr)(s₀:Shared)(H₀:Hp):Cx :=
 {X with N:=NC,s₀:=s₀,H₀:=H₀,env:=compEnvC scope cl C X.env,outer:=X.stack,ex:=fp,fn:=λ_=>false,pn:=[],xe:=λ_ _=>False}
def gy(σ:St)(idx:List Nat):St:=idx.map λi=>(σ[i]?).getD none
structure rj(X:Cx)(scope:Scope)(cl:List (Str×Addr))(x:Str)(idx:List Nat)(NC:List Str):Prop where
 xJ:closureFor scope X.env=pure cl
 sub:∀ y c,cl.lookup y=some c→X.env.cells.lookup y=some c
 has:∀ y,((relabel scope X.env).names.lookup y=some .cell∨(relabel scope X.env).names.lookup y=some .free)→∃ c,cl.lookup y=some c
 j5:∀ y∈scope.names,y.2≠.cell
 kind:scope.kind=.function
 loc:∀ y∈scope.names,y.2=.local→scope.names.lookup y.1=some .local
 xl:scope.names.lookup x=some .local
 nc:NC=x::idx.map λi=>X.N.getD i x
 nd:NC.Nodup
 cap:∀ i∈idx,i<X.N.length∧((X.env.scope.names.lookup (X.N.getD i x)=some .cell∨X.env.scope.names.lookup (X.N.getD i x)=some .free)∧((relabel scope X.env).names.lookup (X.N.getD i x)=some .cell∨(relabel scope X.env).names.lookup (X.N.getD i x)=some .free))
section
variable{X:Cx}{scope:Scope}{cl:List (Str×Addr)}{x:Str}{idx:List Nat}{NC:List Str}{C:Addr}{fp:List Addr}{pins:List (Addr×Obj)}{σ:St}{H:Hp}{s:Shared}
theorem tI{h1:Heap}{t':Nat}(c:rj X scope cl x idx NC)(I:Inv X pins σ H s)(hf:∀ b∈fp,jV X pins H b)(hlt:∀ b∈fp,b<s.heap.objs.size)(ns:h1.Ns s.heap.objs.size (λ_=>none))
  (k:∀ b o,s.heap.get? b=some o→h1.get? b=some o):Inv (cxC X scope cl NC s.heap.objs.size fp s H) [] (none::gy σ idx) H {s with heap:=h1,toks:=t'}:=by
 have sub:∀ b,b∈frs X.stack→b∈X.env.locals::X.fs:=I.ik;refine⟨⟨I.ok.mod,c.kind,I.ok.glob,I.ok.blt,JR _,λy z a h1 h2=>I.ok.inj y z a (c.sub _ _ h1) (c.sub _ _ h2),c.has,λy a z=>(by cases z),I.ok.hd,I.ok.frames,.inl rfl,λb hb=>⟨Kb (hlt b hb),λy a q=>(hf b hb).2.2.2.2.1 y a (c.sub _ _ q)⟩,
  λb o q=>I.bs b o q,Ko I.ok.bsz I.sz,λb o q hb=>?_,λb hb z=>?_,I.stack,I.hZ⟩,rfl,I.bare,Un.kept k,⟨_,ns,λi y v e1 e2 e3=>?_⟩,λy a q=>?_,I.hok.fresh (JR _),λy a q=>I.fU _ _ (c.sub _ _ q),λp hp=>(by cases hp),I.hok.keeps λb u o _ q=>k b o q,?_⟩
 ·rcases(hf b hb).2.2.2.1 with z|z
  ·exact I.ok.tU b o q z
  ·exact absurd (J8 (JY (I.ok.bs b o q).1) z) (KO _)
 ·rcases Kc.mp (sub b z) with r|r
  ·exact(hf b hb).2.1 r
  ·exact(hf b hb).2.2.1 r
 ·cases i with
  | zero=>cases e2
  | succ j =>
   have e1':(idx.map λi=>X.N.getD i x)[j]?=some y:=by
    have:(cxC X scope cl NC s.heap.objs.size fp s H).N=NC:=rfl
    rw[this,c.nc]at e1;exact e1
   have e2':(gy σ idx)[j]?=some (some v):=e2;rw[JZ]at e1';unfold gy at e2';rw[JZ]at e2';cases ei:idx[j]? with
   | none=>rw[ei]at e1';cases e1'
   | some i =>
    rw[ei]at e1' e2';simp only[KZ,Option.some.injEq]at e1' e2';obtain⟨hi,h2,h3⟩:=c.cap i (J0 ei);rw[e1']at h2 h3;have hN:X.N[i]?=some y:=by
     rw[←e1'];simp[List.getD,JM hi]
    have hσ:σ[i]?=some (some v):=by
     cases q:σ[i]? with
     | none=>rw[q]at e2';cases e2'
     | some o=>rw[q]at e2';simp only[K7]at e2';rw[e2']
    obtain⟨m,hn,hl⟩:=I.loc;obtain⟨u,r,l⟩:=hl i y v hN hσ (h2.elim (λz=>.inr (.inl z)) λz=>.inr (.inr z));refine⟨u,r,.inr ⟨h3,?_⟩⟩;rcases l with⟨l,_⟩|⟨_,a,ha,hc⟩
    ·exfalso
     have l':X.env.scope.names.lookup y=some .local:=l;rcases h2 with z|z<;>(rw[l']at z;cases z)
    ·obtain⟨a',ha'⟩:=c.has y h3
     have:=c.sub _ _ ha'
     rw[ha]at this;cases this;exact⟨a,ha',hc.keeps k⟩
 ·obtain⟨v,z⟩:=I.cell _ _ (c.sub _ _ q)
  exact⟨v,z.keeps k⟩
 ·show _=NC.length
  rw[c.nc];simp[gy]
def rk(J:It)(D:Addr)(τ:St)(te:TE)(Q:VK)(H:Hp):Prop:=∃ W:Nat→Nat→List V→Hp→Prop,(∃ m,W 0 m [] H)∧∀ i m ys H2,W i m ys H2→H2 D=some (.lst ys) ∧
 ((J.stop i H2∧Q (.ref D) H2)∨(J.go i H2∧ys.length<sizeLine∧∃ N:List V→Hp→Prop,(∀ zs H',N zs H'→∃ m',m'<m∧W (i+1) m' zs H')∧∀ y H3,J.yld i H2 y H3→te (some y::τ) H3 λv H4=>H4 D=some (.lst ys)∧N (ys++[v]) (upd H4 D (.lst (ys++[v])))))
def CN(wi:TI)(idx:List Nat)(te:TE):TE:=λσ H Q=>wi σ H λJ H1=>∀ D,H1 D=none→rk J D (gy σ idx) te Q (upd H1 D (.lst []))
theorem ki{X:Cx}{pins:List (Addr×Obj)}{σ:St}{H:Hp}{s:Shared}{D:Addr}{ys:List V}{v:V}{u:Value}(I:Inv X pins σ H s)(h:H D=some (.lst ys))(hz:ys.length<sizeLine)(r:RelV v u) :
  wpAny (model X.prog X.w) X.A (call (.builtin "list.append") [.ref D,u]) (λ_ s'=>Inv X pins σ (upd H D (.lst (ys++[v]))) s') X.xe s:=by
 refine thn (gu pins s σ H (.ref D) [v] (.ref D) [u] (λ_ H'=>H'=upd H D (.lst (ys++[v]))) I rfl (.cons r .nil) ⟨D,ys,v,rfl,rfl,h,hz,rfl⟩) λw s' ⟨_,H',I',_,e⟩=>?_;rw[←e];exact I'
theorem iN{elt iter:Expr}{px pos:Pos}{wi:TI}{te:TE}(c:rj X scope cl x idx NC)(hc:X.calm=true)(hi:PI X (.Name x px) iter wi)(he:∀ C fp s₀ H₀,PE (cxC X scope cl NC C fp s₀ H₀) elt te)
  (hs:∀ x,foldedSetIterable iter X.env x=pure x:=by intro _;rfl):PE X (.ListComp elt [⟨.Name x px,iter,[],0⟩] scope pos) (CN wi idx te):=by
 intro pins s σ H Q I h;rw[eval_ListComp];refine wpAny_comprehension_free (use:=none) rfl hs c.xJ c.kind c.loc (thn (hi pins s σ H _ I h) λv s1 h1=>thn h1 λitv s2 h2=>?_);obtain⟨it,fp,tn,J,H2,rfl,I2,T,st2,f2,q⟩:=h2;refine wpAny_newObj_type (wpAny_newFunctionEnv c.j5 (by intro y hy;simp at hy) (λh₁ hns₁ hsb₁=>?_) c.kind);dsimp only at hns₁ hsb₁ ⊢;have I3:Inv X pins σ (upd H2 s2.heap.objs.size (.lst [])) {s2 with heap:=s2.heap.push {cls:=.type "list",data:=.seq ([]:List Value).toArray},toks:=s2.toks}:=I2.yK (ys:=[]) (its:=[]) .nil (Kh _);obtain⟨W,⟨m0,w0⟩,turn⟩:=q s2.heap.objs.size I2.fresh;generalize hD:s2.heap.objs.size=D at *;generalize hH:s2.heap.push {cls:=.type "list",data:=.seq ([]:List Value).toArray}=h3 at *;have qR:∀ b∈fp,b<D:=λb hb=>by
  obtain⟨o,e,_⟩:=T.obj _ _ st2 b hb;rw[←hD];exact JY e
 have hlt:∀ b∈fp,b<h3.objs.size:=λb hb=>by
  rw[←hH,K8,hD];exact Lp (qR b hb)
 have hf:∀ b∈fp,jV X pins (upd H2 D (.lst [])) b:=λb hb=>⟨by rw[aj (Kb (qR b hb))];exact(f2 b hb).1,(f2 b hb).2⟩;have kp:∀ b o,h3.get? b=some o→h₁.get? b=some o:=λb o e=>hsb₁.extBut b o (Kb (JY e)) (JQ _ e);have I4:Inv (cxC X scope cl NC h3.objs.size fp {s2 with heap:=h3,toks:=s2.toks} (upd H2 D (.lst []))) [] (none::gy σ idx) (upd H2 D (.lst [])) {s2 with heap:=h₁,toks:=s2.toks+([]:List (Str×Value)).length} :=
  tI (s:={s2 with heap:=h3,toks:=s2.toks}) c I3 hf hlt hns₁ kp
 have jG:∀ {H':Hp},(∀ b∈fp,H' b=none)→∀ b∈fp,jV (cxC X scope cl NC h3.objs.size fp {s2 with heap:=h3,toks:=s2.toks} (upd H2 D (.lst []))) [] H' b:=λhn b hb =>
  ⟨hn b hb,Kb (hlt b hb),λz=>(Kc.mp (I3.ik b z)).elim (hf b hb).2.1 (hf b hb).2.2.1,.inl hb,λy a q=>(hf b hb).2.2.2.2.1 y a (c.sub _ _ q),λp hp=>(by cases hp)⟩
 have st1:tn 0 h₁:=T.keep 0 _ _ st2 λb hb o e=>kp b o (by rw[←hH];exact JQ _ e);have loop:∀ s4:Shared,s4={s2 with heap:=h₁,toks:=s2.toks+([]:List (Str×Value)).length} →
   codeAny (model X.prog X.w) X.A (.compLoop (.ListComp elt [⟨.Name x px,iter,[],0⟩] scope pos) 0 (.ref it) (.ref D) (compEnvC scope cl h3.objs.size X.env)) (compPost (model X.prog X.w) X.A X.xe none (EP X pins σ Q) (.ref D) h3.objs.size) s4:=by
  rintro s4 rfl;refine ix (λn s'=>∃ i ys H' v0,Inv (cxC X scope cl NC h3.objs.size fp {s2 with heap:=h3,toks:=s2.toks} (upd H2 D (.lst []))) [] (v0::gy σ idx) H' s'∧tn i s'.heap∧(∀ b∈fp,H' b=none)∧W i n ys H')
   ?_ m0 ⟨0,[],_,none,I4,st1,λb hb=>(hf b hb).1,w0⟩
  rintro n s5 ⟨i,ys,H5,v0,I5,st5,fr5,w5⟩;obtain⟨hDl,alt⟩:=turn i n ys H5 w5;rcases alt with⟨stop,qn⟩|⟨go,hz,N,hN,step⟩
  ·refine thn (T.done (cxC X scope cl NC h3.objs.size fp {s2 with heap:=h3,toks:=s2.toks} (upd H2 D (.lst []))) rfl rfl rfl hc i [] s5 _ H5 _ I5 (jG fr5) st5 stop) λr s6 ⟨hr,I6⟩=>?_
   subst hr;obtain⟨m,ns6,_⟩:=id I6.loc;refine⟨m,ns6,λh' hs'=>⟨.ref D,H5,?_,rfl,qn⟩⟩;have J6:Inv X pins σ H5 s6:=I3.mS (ch:=fp) I6.os I6.base I6.hok I6.bare λb hb=>⟨(hf b hb).2.2.2.1,(hf b hb).2.1,(hf b hb).2.2.2.2.1,(hf b hb).2.2.2.2.2⟩;refine J6.turned (t':=s6.toks) (it:=h3.objs.size) (λb o hb e=>hs'.extBut b o hb e) I6.free (KR I3.lt) (.inr I3.sz) (λy a q z=>?_) (λp hp z=>?_)
   ·obtain⟨v,q'⟩:=I3.cell y a q
    exact absurd q'.lt (by rw[z];exact KO _)
   ·exact absurd (JY (I3.pin p hp).1) (by rw[z];exact KO _)
  ·refine thn (T.item (cxC X scope cl NC h3.objs.size fp {s2 with heap:=h3,toks:=s2.toks} (upd H2 D (.lst []))) rfl rfl rfl hc i [] s5 _ H5 _ I5 (jG fr5) st5 go) λr s6 ⟨u,hr,h6⟩=>?_
   subst hr;refine thn h6 λ_ s7 ⟨y,H7,I7,r7,y7,st7,fr7⟩=>?_;have I7':=I7.pinned (jG fr7) (T.obj _ _ st7);have hnl:(relabel scope X.env).names.lookup x=some .local:=lookup_relabel_local c.xl;refine wpAny_mono (aP (X:=cxC X scope cl NC h3.objs.size fp {s2 with heap:=h3,toks:=s2.toks} (upd H2 D (.lst []))) (i:=0) (x:=x) (pos:=px) c.nd (by show NC[0]?=some x;rw[c.nc];rfl) (.inl hnl) (.inr hnl) _ s7 _ H7 y u
    (λσ' H'=>σ'=some y::gy σ idx∧H'=H7) I7' r7 ⟨rfl,rfl⟩) (λ_ s8 ⟨σ8,H8,I8,e8,e8'⟩=>?_) λ_ _ z=>z.elim
   subst e8 e8';refine wpAny_mono (he _ _ _ _ _ s8 _ H8 _ I8 (step y H8 y7)) (λw s9 ⟨v,H9,I9,r9,hD9,n9⟩=>?_) λ_ _ z=>z.elim;obtain⟨m',hm,w9⟩:=hN _ _ n9;refine wpAny_mono (ki (X:=(cxC X scope cl NC h3.objs.size fp {s2 with heap:=h3,toks:=s2.toks} (upd H2 D (.lst [])))) I9 hD9 hz r9) (λ_ s10 I10=>?_) λ_ _ z=>z.elim;refine⟨m',hm,i+1,ys++[v],_,some y,I10.fg,T.keep _ _ _ st7 λb hb o e=>(I10.pin (b,o) (JP _ (JP _ (cn hb e)))).1,λb hb=>?_,w9⟩;obtain⟨o,e,d⟩:=T.obj _ _ st7 b hb;exact(I10.pin (b,o) (JP _ (JP _ (cn hb e)))).2.1
 exact codeAny_compStart_list (loop _ rfl) (T.self _ 0 _ _ _ st1 (loop _ rfl))
end
section
variable{X:Cx}
theorem og{prog:Program}{w:World}{A:Around}{R:Result→Shared→Prop}{s:Shared}{elt target iter c:Expr}{scope:Scope}{pos:Pos}{it acc:Value}{env:Env}(I:Nat→Shared→Prop)
  (turn:∀ n s,I n s→wpAny (model prog w) A (pyNext it) (λr s₁=>match r with
   | none=>R (.ok .next) s₁
   | some v=>wpAny (model prog w) A (letOwnedTupleGo target it v) (λ_ s5=>wpAny (model prog w) A (assign target env v) (λ_ s₂=>wpAny (model prog w) A (isTrue c env (eval c env)) (λok s6=>if ok=true then wpAny (model prog w) A (eval elt env) (λx s₃ =>
     wpAny (model prog w) A (call (.builtin "list.append") [acc,x]) (λ_ s₄=>∃ m,m<n∧I m s₄) (notedBy (model prog w) A env λe s'=>R (.error e) s') s₃)
     (notedBy (model prog w) A env λe s'=>R (.error e) s') s6 else ∃ m,m<n∧I m s6) (notedBy (model prog w) A env λe s'=>R (.error e) s') s₂) (notedBy (model prog w) A env λe s'=>R (.error e) s') s5) (notedBy (model prog w) A env λe s'=>R (.error e) s') s₁) (notedBy (model prog w) A env λe s'=>R (.error e) s') s)
  (n:Nat) (h:I n s):codeAny (model prog w) A (.compLoop (.ListComp elt [⟨target,iter,[c],0⟩] scope pos) 0 it acc env) R s:=by
 refine codeAny_loop rfl I (λn s hI=>?_) n h;show wpAny _ _ ((compTurn (.ListComp elt [⟨target,iter,[c],0⟩] scope pos) 0 it acc env).onRaise (λx=>do noteFrame x env;theTreesLotGoes x)) _ _ s
 refine wpAny_noted ?_;rw[compTurn_list];refine wpAny_bind (wpAny_standAt (wpAny_bind (wpAny_mono (turn n s hI) (λr s₁ h₁=>?_) λ_ _ h'=>h')));cases r with
 | none=>exact wpAny_pure h₁
 | some v =>
  refine wpAny_bind (wpAny_mono h₁ (λ_ s5 h5=>?_) λ_ _ h'=>h');refine wpAny_bind (wpAny_mono h5 (λ_ s₂ h₂=>wpAny_bind (wpAny_mono (wpAny_tests_one h₂) (λok s₃ h₃=>?_) λ_ _ h'=>h')) λ_ _ h'=>h');cases ok with
  | false=>exact wpAny_pure ⟨rfl,h₃⟩
  | true =>
   exact wpAny_bind (wpAny_bind (wpAny_mono h₃ (λx s₄ h₄=>wpAny_bind (wpAny_mono h₄ (λ_ s₅ h₅=>wpAny_pure (wpAny_pure ⟨rfl,h₅⟩)) λ_ _ h'=>h')) λ_ _ h'=>h'))
variable{scope:Scope}{cl:List (Str×Addr)}{x:Str}{idx:List Nat}{NC:List Str}{C:Addr}{fp:List Addr}{pins:List (Addr×Obj)}{σ:St}{H:Hp}{s:Shared}
end
def Ite(K:W.Frag)(a:Addr):It :=
 ⟨λi H=>∃ xs x,SqL K H a xs∧xs[i]?=some x,λi H y H'=>∃ t x,H t=none∧y=.ref t∧(∀ xs,SqL K H a xs→xs[i]?=some x)∧H'=upd H t (.tup [.int (i:Int),x]),λi H=>∃ xs,SqL K H a xs∧xs.length≤i⟩
theorem wV{P:Program}{w:World}{K:W.Frag}{es:List Expr}{x1:Nat}{pos:Pos}(a it e:Addr)(hne:e≠it) :
  Turn P w K (.Tuple es x1 pos) (Ite K a) [e,it] e (λi h=>∃ old,IsEnum h e it i old∧h.IsListIter it a i) where
 mem:=by simp
 obj:=λi h st b hb=>by
  obtain⟨old,h1,o,q,c,d⟩:=st;rcases Kc.mp hb with z|z
  ·rw[z]
   exact⟨_,h1,λv z=>by
    have z':Data.fields _=Data.cell v:=z;cases z'⟩
  ·rw[JO.mp z]
   exact⟨o,q,λv z=>by rw[d]at z;cases z⟩
 keep:=λi h h' st k=>by
  obtain⟨old,h1,h2⟩:=st;exact⟨old,k e (by simp) _ h1,h2.at λo q=>k it (by simp) o q⟩
 item:=by
  intro X hP hw hK hc i pins s σ H E I hf st hg;subst hP hw hK;obtain⟨xs,x,hq,hx⟩:=hg;obtain⟨its,rv,p,hz⟩:=I.list hq;obtain⟨u,hu,ru⟩:=rv.get hx;obtain⟨old,he,hit⟩:=st;have fr:H s.heap.objs.size=none:=I.hok.fresh (JR _);refine wpAny_pyNext_enum_item he hit p.isList (x:=u) (by simpa using hu) hne λh1 heo hit1 ht1 hz1 hk1=>⟨_,rfl,wpAny_letOwnedTupleGo_enum heo λh2 he2 hs2=>?_⟩;replace hs2:Heap.SameBut e h1 h2:=hs2;have hel:e<s.heap.objs.size:=JY he;have k2:∀ b o,b≠e→b≠it→s.heap.get? b=some o→h2.get? b=some o:=λb o z1 z2 q=>(hs2.2 b z1).trans (hk1 b o z1 z2 q);have ht2:h2.get? s.heap.objs.size=some {cls:=.type "tuple",data:=.seq #[.int i s.toks,u]}:=(hs2.2 _ (KR hel)).trans ht1;have Jh:h2.IsListIter it a (i+1):=hit1.extBut hs2.extBut (KG hne);have nt:∀ b o,s.heap.get? b=some o→b≠s.heap.objs.size:=λb o q=>Kb (JY q);have nh:∀ b v,H b=some v→b≠s.heap.objs.size:=λb v q=>ai q fr;have ne':∀ b v,H b=some v→b≠e∧b≠it:=λb v q=>⟨ai q (hf e (by simp)).1,ai q (hf it (by simp)).1⟩;refine⟨.ref s.heap.objs.size,upd H s.heap.objs.size (.tup [.int (i:Int),x]),?_,rfl,⟨_,x,fr,rfl,λys hy=>by rw[I.sX hy hq];exact hx,rfl⟩,⟨_,he2,Jh⟩,λb hb=>?_⟩
  ·refine Inv.step (s:=s) (h':=h2) (t':=s.toks+1) (H:=H) (g':=s.gens) (d':=s.drawn) (ch:=[e,it]) I (λb hb=>⟨(hf b hb).2.2.2.1,(hf b hb).2.1,(hf b hb).2.2.2.2.1,(hf b hb).2.2.2.2.2⟩)
    (λb o _ _ z q _=>k2 b o (λy=>z (by simp[y])) (λy=>z (by simp[y])) q) (λb o _ _ z q _=>⟨o.slots,k2 b o (λy=>z (by simp[y])) (λy=>z (by simp[y])) q⟩)
    (λb o _ q n=>by rw[aj (nt b o q)];exact n) (λb o z q=>⟨o,k2 b o (λy=>z (by simp[y])) (λy=>z (by simp[y])) q⟩)
    (λb xs q=>by rw[aj (nh b _ q)];exact q) (λb o v q=>by rw[aj (nh b _ q)];exact q) (λb ps q=>⟨#[],by rw[aj (nh b _ q),q];simp⟩) (λm hm=>?_) (λb v q=>?_) I.bare
   ·obtain⟨o,es',ep,ho,r⟩:=hm
    exact⟨o,es',ep,k2 _ o (KG (hf e (by simp)).2.1) (KG (hf it (by simp)).2.1) ho,r⟩
   ·by_cases z:b=s.heap.objs.size
    ·subst z
     rw[ae]at q;cases q;exact⟨by show 2≤sizeLine;decide,[.int i s.toks,u],.cons ⟨_,rfl⟩ (.cons ru .nil),_,ht2,rfl,_,rfl⟩
    ·rw[aj z]at q
     refine(I.hok b v q).pL (λc o hc w=>?_) (λc w=>by rw[aj (nh c _ w)];exact w) λc xs w=>by rw[aj (nh c _ w)];exact w
     rcases hc with y|y
     ·rw[y]at w ⊢
      exact k2 b o (ne' b v q).1 (ne' b v q).2 w
     ·exact k2 c o (ne' c _ y).1 (ne' c _ y).2 w
  ·have hb':b<s.heap.objs.size:=by
    rcases Kc.mp hb with z|z
    ·rw[z];exact hel
    ·rw[JO.mp z]
     obtain⟨o,q,_⟩:=hit;exact JY q
   rw[aj (Kb hb')];exact(hf b hb).1
 done:=by
  intro X hP hw hK hc i pins s σ H E I hf st hg;subst hP hw hK;obtain⟨xs,hq,hx⟩:=hg;obtain⟨its,rv,p,hz⟩:=I.list hq;obtain⟨f0,f1,f2,f3,f4,f5⟩:=hf it (by simp);have hl:=rv.length;obtain⟨old,he,hit⟩:=st;exact wpAny_pyNext_enum_end (I.ok.hd hc) he hit p.isList (by simp;omega) λh' eb=>⟨rfl,I.turned (t':=s.toks) (λb o hb q=>eb b o hb q) f0 f1 f3 f4 f5⟩
 self:=λA i s Q E st h=>by
  obtain⟨old,he,hit⟩:=st;exact wpAny_pyIter_enum he h
section
variable{X:Cx}{es:List Expr}{x1:Nat}{tp:Pos}
def GU(K:W.Frag)(ta:TA):TI:=λσ H R=>ta σ H λvs H1=>∃ a,vs=[.ref a]∧(∃ xs,SqL K H1 a xs)∧R (Ite K a) H1
theorem m7{a:Expr}{ta:TA}{p pos:Pos}(hg:Gl X "enumerate")(hm:X.mg "enumerate" = none)(ha:PA X [a] ta)(hs:starEach [a] X.env=[(false,eval a X.env)]:=by rfl):PI X (.Tuple es x1 tp) (.Call (.Name "enumerate" p) [a] [] pos) (GU X.K ta):=by
 intro pins s σ H R I h;refine Call_ (j2 I hg hm PyProof.Rows.Boot.«enumerate» (PyProof.Rows.callWith_type1 (thn (ha pos pins s σ H _ I h) λus s1 ⟨vs,H1,I1,r1,q1⟩=>?_) hs rfl));obtain⟨l,e,⟨xs,hq⟩,q⟩:=q1;subst e;cases r1 with
 | cons r rr =>
  cases rr;cases r;obtain⟨its,rv,pl,hz⟩:=I1.list hq;refine call_enumerate_list pl.isList λh' he hit hsz hk=>?_;refine wpAny_pyIter_enum he ?_;refine⟨s1.heap.objs.size+1,[s1.heap.objs.size+1,s1.heap.objs.size],_,_,H1,rfl,I1.kept (t':=s1.toks) hk,wV l s1.heap.objs.size (s1.heap.objs.size+1) (Nat.succ_ne_self _),⟨_,he,hit⟩,λb hb=>?_,q⟩;have hb':s1.heap.objs.size≤b:=by
   rcases Kc.mp hb with z|z
   ·rw[z];exact Lo _
   ·rw[JO.mp z]
    exact JR _
  exact I1.yC hb' (I1.hok.fresh hb')
end
theorem kj{K:W.Frag}{a:Addr}{xs:List V}{g:TG}{tb:TS}{D:Ends}{σ:St}{H:Hp}(Pv:Nat→St→Hp→Prop)(h0:Pv 0 σ H)(hl:∀ i σ H,i≤xs.length→Pv i σ H→SqL K H a xs)
  (hs:∀ i x σ H t,xs[i]?=some x→Pv i σ H→H t=none→g (.ref t) σ (upd H t (.tup [.int (i:Int),x])) λσ2 H2=>tb {D with nx:=Pv (i+1),ct:=Pv (i+1),bk:=D.nx} σ2 H2) (hd:∀ σ H,Pv xs.length σ H→D.nx σ H) :
  ∃ W:Nat→Nat→St→Hp→Prop,(∃ m,W 0 m σ H)∧∀ i m σ H,W i m σ H →
   ((Ite K a).stop i H∧D.nx σ H)∨((Ite K a).go i H∧∃ N:St→Hp→Prop,(∀ σ' H',N σ' H'→∃ m',m'<m∧W (i+1) m' σ' H')∧∀ x H',(Ite K a).yld i H x H'→g x σ H' λσ2 H2=>tb {D with nx:=N,ct:=N,bk:=D.nx} σ2 H2):=by
 refine⟨λi m σ H=>m=xs.length-i∧i≤xs.length∧Pv i σ H,⟨xs.length,by simp,Kh _,h0⟩,?_⟩;rintro i m σ H ⟨rfl,hi,p⟩;by_cases hlt:i<xs.length
 ·refine .inr ⟨⟨xs,xs[i],hl i σ H hi p,JM hlt⟩,Pv (i+1),λσ' H' p'=>⟨xs.length-(i+1),by omega,rfl,hlt,p'⟩,λx H' y=>?_⟩
  obtain⟨t,v,e1,e2,e3,e4⟩:=y;subst e2 e4;exact hs i v σ H t (e3 xs (hl i σ H hi p)) p e1
 ·have e:i=xs.length:=by omega
  subst e;exact .inl ⟨⟨xs,hl _ σ H hi p,JR _⟩,hd σ H p⟩
end L2
namespace L2
open PySem
theorem gz{lo:Int}{n:Nat}{te:TE}{Q:VK}{D:Addr}{τ:St}{H:Hp}(Pv:Nat→List V→Hp→Prop)(h0:Pv 0 [] H)(hD:∀ i ys H,i≤n→Pv i ys H→H D=some (.lst ys)∧ys.length=i)(hn:n≤sizeLine)
  (hs:∀ i ys H,i<n→Pv i ys H→te (some (.int (lo+i))::τ) H λv H4=>H4 D=some (.lst ys)∧Pv (i+1) (ys++[v]) (upd H4 D (.lst (ys++[v])))) (hd:∀ ys H,Pv n ys H→Q (.ref D) H):rk (Itr lo n) D τ te Q H:=by
 refine⟨λi m ys H=>m=n-i∧i≤n∧Pv i ys H,⟨n,by simp,Kh _,h0⟩,?_⟩;rintro i m ys H2 ⟨rfl,hi,p⟩;obtain⟨hd1,hd2⟩:=hD i ys H2 hi p;refine⟨hd1,?_⟩;by_cases hlt:i<n
 ·refine .inr ⟨hlt,by omega,Pv (i+1),λzs H' p'=>⟨n-(i+1),by omega,rfl,hlt,p'⟩,λy H3 e=>?_⟩
  obtain⟨e1,e2⟩:=e;subst e1 e2;exact hs i ys _ hlt p
 ·have e:i=n:=by omega
  subst e;exact .inl ⟨JR _,hd ys H2 p⟩
theorem ji{K:W.Frag}{a:Addr}{xs:List V}{te:TE}{Q:VK}{D:Addr}{τ:St}{H:Hp}(Pv:Nat→List V→Hp→Prop)(h0:Pv 0 [] H)(hD:∀ i ys H,i≤xs.length→Pv i ys H→H D=some (.lst ys)∧ys.length=i)(hl:∀ i ys H,i≤xs.length→Pv i ys H→SqL K H a xs)(hn:xs.length≤sizeLine)
  (hs:∀ i x ys H,xs[i]?=some x→Pv i ys H→te (some x::τ) H λv H4=>H4 D=some (.lst ys)∧Pv (i+1) (ys++[v]) (upd H4 D (.lst (ys++[v])))) (hd:∀ ys H,Pv xs.length ys H→Q (.ref D) H):rk (Itl K a) D τ te Q H:=by
 refine⟨λi m ys H=>m=xs.length-i∧i≤xs.length∧Pv i ys H,⟨xs.length,by simp,Kh _,h0⟩,?_⟩;rintro i m ys H2 ⟨rfl,hi,p⟩;obtain⟨hd1,hd2⟩:=hD i ys H2 hi p;refine⟨hd1,?_⟩;by_cases hlt:i<xs.length
 ·refine .inr ⟨⟨xs,xs[i],hl i ys H2 hi p,JM hlt⟩,by omega,Pv (i+1),λzs H' p'=>⟨xs.length-(i+1),by omega,rfl,hlt,p'⟩,λy H3 e=>?_⟩
  obtain⟨e1,e2⟩:=e;subst e1;exact hs i y ys _ (e2 xs (hl i ys _ hi p)) p
 ·have e:i=xs.length:=by omega
  subst e;exact .inl ⟨⟨xs,hl _ ys H2 hi p,JR _⟩,hd ys H2 p⟩
end L2
end
section
namespace L2
open PySem PySem.Spec PyProof.Rows LX
def vM(sc:Scope)(names:List (Str×NameKind)):List (Str×NameKind):=names.map λ(n,k)=>if(k == .free&&sc.kind == .function&&sc.names.lookup n == some .cell) then(n,.cell) else(n,k)
def zG(sc scope:Scope)(x:Str)(ns N:List Str)(idx:List Nat):Prop :=
 (∀ y∈scope.names,y.2≠.cell)∧(∀ y∈scope.names,y.2=.local→scope.names.lookup y.1=some .local)∧scope.names.lookup x=some .local∧(∀ p∈vM sc scope.names,p.2=.cell∨p.2=.free→p.1∈ns)∧(x::idx.map λi=>N.getD i x).Nodup ∧
 ∀ i∈idx,i<N.length∧((sc.names.lookup (N.getD i x)=some .cell∨sc.names.lookup (N.getD i x)=some .free)∧((vM sc scope.names).lookup (N.getD i x)=some .cell∨(vM sc scope.names).lookup (N.getD i x)=some .free))
instance (sc scope:Scope) (x:Str) (ns N:List Str) (idx:List Nat):Decidable (zG sc scope x ns N idx):=by unfold zG;infer_instance
theorem gP{y:Str}:∀ {cl:List (Str×Addr)},y∈cl.map (·.1)→∃ c,cl.lookup y=some c
 | [],h=>by simp at h
 | (n,c)::r,h=>by
  by_cases e:y=n
  ·exact⟨c,by simp[List.lookup,e]⟩
  ·have h':y∈r.map (·.1):=by
    rw[Kz]at h;rcases Kc.mp h with z|z
    ·exact absurd z e
    ·exact z
   obtain⟨c',q⟩:=gP h';have hb:(y == n)=false:=beq_eq_false_iff_ne.mpr e;exact⟨c',by simp only[List.lookup,hb];exact q⟩
theorem ft{X:Cx}{sc scope:Scope}{cl:List (Str×Addr)}{x:Str}{ns N:List Str}{idx:List Nat}(hsc:X.env.scope=sc)(hN:X.N=N)(hk:scope.kind=.function)(p:zG sc scope x ns N idx)(hn:cl.map (·.1)=ns)
  (ug:closureFor scope X.env=pure cl) (Az:∀ q∈cl,X.env.cells.lookup q.1=some q.2):rj X scope cl x idx (x::idx.map λi=>N.getD i x):=by
 obtain⟨p1,p2,p3,p4,p5,p6⟩:=p;have re:(relabel scope X.env).names=vM sc scope.names:=by subst hsc;rfl
 subst hsc hN hn;refine⟨ug,λy c q=>Az (y,c) (Ks q),λy h=>?_,p1,hk,p2,p3,rfl,p5,λi hi=>?_⟩
 ·rw[re]at h
  refine gP ?_;rcases h with h|h
  ·exact p4 (y,.cell) (Ks h) (.inl rfl)
  ·exact p4 (y,.free) (Ks h) (.inr rfl)
 ·rw[re]
  exact p6 i hi
theorem rn{P:Program}{w:World}{X:Cx}:fq (CXE P w) X (λ_ _ _ _=>False):=λ_ _ _ _ _ _ _ ⟨_,_,_,_,_,_,_,_,_,q⟩=>q.elim
section
variable{X:Cx}{scope:Scope}{cl:List (Str×Addr)}{x:Str}{idx:List Nat}{NC:List Str}{pins:List (Addr×Obj)}{σ:St}{H:Hp}{s:Shared}
theorem m8{i:Nat}{y:Str}{elt iter:Expr}{px py pos AA:Pos}{wi:TI}{te:TE}(hN:X.N.Nodup)(hi':X.N[i]?=some y)(hx:X.env.scope.names.lookup y=some .local)(c:rj X scope cl x idx NC)(hc:X.calm=true)(hi:PI X (.Name x px) iter wi)
  (he:∀ C fp s₀ H₀,PE (cxC X scope cl NC C fp s₀ H₀) elt te) (hsw:swapsWith (.ListComp elt [⟨.Name x px,iter,[],0⟩] scope pos) (some (.Name y py)) AA.line X.env=pure true:=by rfl)
  (hs:∀ x,foldedSetIterable iter X.env x=pure x:=by intro _;rfl):PS X (.Assign [.Name y py] (.ListComp elt [⟨.Name x px,iter,[],0⟩] scope pos) AA) (AU (CN wi idx te) (gO i)):=by
 intro pins s σ H D0 I h;rw[exec_Assign_Name_used _ _ _ _ hsw];refine wpAny_bind (wpAny_standAt (wpAny_bind ?_));show wpAny _ _ (do let _ ←comprehension (.ListComp elt [⟨.Name x px,iter,[],0⟩] scope pos) scope X.env _ (newList []) false (eval iter X.env) (some (assign (.Name y py) X.env))) _ _ s
 refine wpAny_bind (wpAny_mono (wpAny_comprehension_free (use:=some (assign (.Name y py) X.env)) (Q:=λ_ s'=>SP X pins D0 .next s') rfl hs c.xJ c.kind c.loc
  (thn (hi pins s σ H _ I h) λv s1 h1=>thn h1 λitv s2 h2=>?_)) (λ_ s' hq=>wpAny_pure (wpAny_pure hq)) λ_ _ e=>e)
 obtain⟨it,fp,tn,J,H2,rfl,I2,T,st2,f2,q⟩:=h2;refine wpAny_newObj_type (wpAny_newFunctionEnv c.j5 (by intro y hy;simp at hy) (λh₁ hns₁ hsb₁=>?_) c.kind);dsimp only at hns₁ hsb₁ ⊢;have I3:Inv X pins σ (upd H2 s2.heap.objs.size (.lst [])) {s2 with heap:=s2.heap.push {cls:=.type "list",data:=.seq ([]:List Value).toArray},toks:=s2.toks}:=I2.yK (ys:=[]) (its:=[]) .nil (Kh _);obtain⟨W,⟨m0,w0⟩,turn⟩:=q s2.heap.objs.size I2.fresh;generalize hD:s2.heap.objs.size=D at *;generalize hH:s2.heap.push {cls:=.type "list",data:=.seq ([]:List Value).toArray}=h3 at *;have qR:∀ b∈fp,b<D:=λb hb=>by
  obtain⟨o,e,_⟩:=T.obj _ _ st2 b hb;rw[←hD];exact JY e
 have hlt:∀ b∈fp,b<h3.objs.size:=λb hb=>by
  rw[←hH,K8,hD];exact Lp (qR b hb)
 have hf:∀ b∈fp,jV X pins (upd H2 D (.lst [])) b:=λb hb=>⟨by rw[aj (Kb (qR b hb))];exact(f2 b hb).1,(f2 b hb).2⟩;have kp:∀ b o,h3.get? b=some o→h₁.get? b=some o:=λb o e=>hsb₁.extBut b o (Kb (JY e)) (JQ _ e);have I4:Inv (cxC X scope cl NC h3.objs.size fp {s2 with heap:=h3,toks:=s2.toks} (upd H2 D (.lst []))) [] (none::gy σ idx) (upd H2 D (.lst [])) {s2 with heap:=h₁,toks:=s2.toks+([]:List (Str×Value)).length} :=
  tI (s:={s2 with heap:=h3,toks:=s2.toks}) c I3 hf hlt hns₁ kp
 have jG:∀ {H':Hp},(∀ b∈fp,H' b=none)→∀ b∈fp,jV (cxC X scope cl NC h3.objs.size fp {s2 with heap:=h3,toks:=s2.toks} (upd H2 D (.lst []))) [] H' b:=λhn b hb =>
  ⟨hn b hb,Kb (hlt b hb),λz=>(Kc.mp (I3.ik b z)).elim (hf b hb).2.1 (hf b hb).2.2.1,.inl hb,λy a q=>(hf b hb).2.2.2.2.1 y a (c.sub _ _ q),λp hp=>(by cases hp)⟩
 have st1:tn 0 h₁:=T.keep 0 _ _ st2 λb hb o e=>kp b o (by rw[←hH];exact JQ _ e);have loop:∀ s4:Shared,s4={s2 with heap:=h₁,toks:=s2.toks+([]:List (Str×Value)).length} →
   codeAny (model X.prog X.w) X.A (.compLoop (.ListComp elt [⟨.Name x px,iter,[],0⟩] scope pos) 0 (.ref it) (.ref D) (compEnvC scope cl h3.objs.size X.env)) (compPost (model X.prog X.w) X.A X.xe (some (assign (.Name y py) X.env)) (λ_ s'=>SP X pins D0 .next s') (.ref D) h3.objs.size) s4:=by
  rintro s4 rfl;refine ix (λn s'=>∃ i ys H' v0,Inv (cxC X scope cl NC h3.objs.size fp {s2 with heap:=h3,toks:=s2.toks} (upd H2 D (.lst []))) [] (v0::gy σ idx) H' s'∧tn i s'.heap∧(∀ b∈fp,H' b=none)∧W i n ys H')
   ?_ m0 ⟨0,[],_,none,I4,st1,λb hb=>(hf b hb).1,w0⟩
  rintro n s5 ⟨i5,ys,H5,v0,I5,st5,fr5,w5⟩;obtain⟨hDl,alt⟩:=turn i5 n ys H5 w5;rcases alt with⟨stop,qn⟩|⟨go,hz,N,hN',step⟩
  ·refine thn (T.done (cxC X scope cl NC h3.objs.size fp {s2 with heap:=h3,toks:=s2.toks} (upd H2 D (.lst []))) rfl rfl rfl hc i5 [] s5 _ H5 _ I5 (jG fr5) st5 stop) λr s6 ⟨hr,I6⟩=>?_
   subst hr;obtain⟨m,ns6,_⟩:=id I6.loc;have J6:Inv X pins σ H5 s6:=I3.mS (ch:=fp) I6.os I6.base I6.hok I6.bare λb hb=>⟨(hf b hb).2.2.2.1,(hf b hb).2.1,(hf b hb).2.2.2.2.1,(hf b hb).2.2.2.2.2⟩;have fC:jV X pins H5 h3.objs.size:=I3.yC (JR _) I6.free;obtain⟨o,es,ep,ho,rr⟩:=ns6;have od:∀ v,o.data≠.cell v:=λv z=>by
    rw[rr.1]at z;cases z
   show wpAny _ _ (assign (.Name y py) X.env (.ref D)) (λ_ s''=>∃ m,s''.heap.Ns h3.objs.size m∧∀ h',Heap.SameBut h3.objs.size s''.heap h'→SP X pins D0 .next {s'' with heap:=h'}) X.xe s6;have J7:=J6.pinned (fp:=[h3.objs.size]) (λb hb=>by rw[JO.mp hb];exact fC) (λb hb=>by rw[JO.mp hb];exact⟨o,ho,od⟩);refine wpAny_mono (aP (pos:=py) hN hi' (.inl hx) (.inr hx) _ s6 _ H5 (.ref D) (.ref D) D0.nx J7 rfl qn) (λ_ s7 ⟨σ7,H7,I7,q7⟩=>?_) (λ_ _ z=>z);have pC:=I7.pin (h3.objs.size,o) (JP _ (JP _ (cn (JO.mpr rfl) ho)));refine⟨m,⟨o,es,ep,pC.1,rr⟩,λh' hs'=>⟨σ7,H7,?_,q7⟩⟩;exact I7.fg.turned (t':=s7.toks) (it:=h3.objs.size) (λb o hb e=>hs'.extBut b o hb e) pC.2.1 fC.2.1 fC.2.2.2.1 fC.2.2.2.2.1 fC.2.2.2.2.2
  ·refine thn (T.item (cxC X scope cl NC h3.objs.size fp {s2 with heap:=h3,toks:=s2.toks} (upd H2 D (.lst []))) rfl rfl rfl hc i5 [] s5 _ H5 _ I5 (jG fr5) st5 go) λr s6 ⟨u,hr,h6⟩=>?_
   subst hr;refine thn h6 λ_ s7 ⟨y,H7,I7,r7,y7,st7,fr7⟩=>?_;have I7':=I7.pinned (jG fr7) (T.obj _ _ st7);have hnl:(relabel scope X.env).names.lookup x=some .local:=lookup_relabel_local c.xl;refine wpAny_mono (aP (X:=cxC X scope cl NC h3.objs.size fp {s2 with heap:=h3,toks:=s2.toks} (upd H2 D (.lst []))) (i:=0) (x:=x) (pos:=px) c.nd (by show NC[0]?=some x;rw[c.nc];rfl) (.inl hnl) (.inr hnl) _ s7 _ H7 y u
    (λσ' H'=>σ'=some y::gy σ idx∧H'=H7) I7' r7 ⟨rfl,rfl⟩) (λ_ s8 ⟨σ8,H8,I8,e8,e8'⟩=>?_) λ_ _ z=>z.elim
   subst e8 e8';refine wpAny_mono (he _ _ _ _ _ s8 _ H8 _ I8 (step y H8 y7)) (λw s9 ⟨v,H9,I9,r9,hD9,n9⟩=>?_) λ_ _ z=>z.elim;obtain⟨m',hm,w9⟩:=hN' _ _ n9;refine wpAny_mono (ki (X:=(cxC X scope cl NC h3.objs.size fp {s2 with heap:=h3,toks:=s2.toks} (upd H2 D (.lst [])))) I9 hD9 hz r9) (λ_ s10 I10=>?_) λ_ _ z=>z.elim;refine⟨m',hm,i5+1,ys++[v],_,some y,I10.fg,T.keep _ _ _ st7 λb hb o e=>(I10.pin (b,o) (JP _ (JP _ (cn hb e)))).1,λb hb=>?_,w9⟩;obtain⟨o,e,d⟩:=T.obj _ _ st7 b hb;exact(I10.pin (b,o) (JP _ (JP _ (cn hb e)))).2.1
 exact codeAny_compStart_list (loop _ rfl) (T.self _ 0 _ _ _ st1 (loop _ rfl))
theorem yS:∀ {cs:List V} {its:List Value},Vals cs its→(∀ c∈cs,∃ a,c=.ref a)→its=cs.map yQ
 | [],_,.nil,_=>rfl
 | c::r,_,.cons h t,hc=>by
  obtain⟨a,rfl⟩:=hc c (JW ..);cases h;rw[yS t λd hd=>hc d (JT _ hd)];rfl
def qS(K:W.Frag):List V→Hp→VK→Prop:=λvs H Q=>∃(k:Bool) (a C tp:Addr) (od:Option Addr) (cd:ClassData) (cs:List V) (b:Bool),vs=[.ref a,.ref tp]∧H a=some (exo k C a od)∧(od=none∨∃ dx fs,od=some dx∧H dx=some (.xd fs))∧ed K C cd∧yP K C ∧
 PySem.W.findIn K (.ref C) "__class__" = some (some (.builtin "object.__class__"))∧SqT K H tp cs∧(∀ c∈cs,∃ a,c=.ref a)∧PySem.W.kitAny K (.ref C) (cs.map yQ)=some b∧Q (.bl b) H
theorem kX:je X (.builtin "isinstance") (qS X.K):=by
 rintro pins s σ H xs us Q I r ⟨k,a,C,tp,od,cd,cs,b,rfl,ea,hd,xc,g,hc,ht,hcs,e,q⟩;obtain⟨u,v,rfl,ru,rv⟩:=vals2 r;cases (show v=Value.ref tp from rv);cases (show u=Value.ref a from ru);obtain⟨its,rvs,⟨⟨cls,dd,data,sl⟩,ho,hcl,n,hda⟩,hz⟩:=I.tuple ht;simp only at hcl hda;subst hcl hda;rw[←yS rvs hcs]at e;obtain⟨ox,o,J⟩:=tG I.hok ea hd;exact PySem.W.kia_tup (vI xc g hc) I.kIn ⟨ox,o,J⟩ ho e (λz=>nomatch z) λtk=>⟨.bl b,H,I.tok tk,rfl,q⟩
end
section
variable{X:Cx}
end
theorem yT{v:V}(h:d3 v=true):eqV v v=true:=by
 cases v with
 | non=>rfl
 | bl b=>cases b<;>rfl
 | int n=>simp[eqV]
 | str z=>simp[eqV]
 | _=>exact absurd (show false=true from h) JX
section
variable{X:Cx}
end
section
variable{X:Cx}{tg:Expr}
end
section
variable{X:Cx}{scope:Scope}{cl:List (Str×Addr)}{x:Str}{idx:List Nat}{NC:List Str}{pins:List (Addr×Obj)}{σ:St}{H:Hp}{s:Shared}
end
end L2
end
section
namespace L2
open PySem PySem.Spec PyProof.Rows LX
section
variable{P:Program}{w:World}{A:Around}{E:Value→Shared→Prop}{s:Shared}{a:Addr}{S:Int→Bool}{n:Nat}
end
end L2
end
section
namespace L2
open PySem PySem.Spec PyProof.Rows LX
section
variable{P:Program}{w:World}{A:Around}{R:Result→Shared→Prop}{I:Addr}{fp wr:List Addr}{G:Array GenState→Array GenState→Prop}{n:Nat}{p:Nat→Value→Prop}{St:Nat→Shared→Prop}
end
section
variable{P:Program}{w:World}{A:Around}{E:Value→Shared→Prop}{s:Shared}
end
section
variable{P:Program}{w:World}{A:Around}{E:Value→Shared→Prop}{s:Shared}{it a:Addr}{first:Value}{i n ep:Nat}
end
section
variable{P:Program}{w:World}{A:Around}{E:Value→Shared→Prop}{s:Shared}{it a:Addr}{first:Value}{i n ep:Nat}{es:Array (Int×Value)}{t:SetTable}
end
section
variable{P:Program}{w:World}{A:Around}{E:Value→Shared→Prop}{s:Shared}{I a:Addr}{ep:Nat}{es:Array (Int×Value)}{t:SetTable}{sl:Nat→Nat}{vs:List Value}
end
end L2
end
section
namespace L2
open PySem PySem.Spec PyProof.Rows LX PySem.W
section
variable{P:Program}{w:World}{A:Around}{E:Value→Shared→Prop}{s:Shared}{a:Addr}{ep:Nat}{es:Array (Int×Value)}{t:SetTable}
end
section
variable{P:Program}{w:World}{A:Around}{E:Value→Shared→Prop}{s:Shared}{a:Addr}{ep:Nat}{es:Array (Int×Value)}{t:SetTable}
end
section
variable{X:Cx}
end
end L2
end
section
namespace L2
open PySem PySem.Spec PyProof.Rows LX
section
variable{X:Cx}{pins:List (Addr×Obj)}{σ:St}{H:Hp}{s:Shared}{d:Addr}{kvs:List (Key×V)}
theorem Inv.frozen(I:Inv X pins σ H s)(hd:H d=some (.dK kvs)):∃ o,Inv X pins σ (upd H d (.frz o (.dK kvs))) s:=by
 obtain⟨hz,h0,vs,rel,o,es,ep,ho,r⟩:=CI I.hok hd;have nn:∀ {b:Addr},H b=none→upd H d (.frz o (.dK kvs)) b=none:=λ{b} q=>by
  rw[aj λz=>by rw[z,hd]at q;cases q];exact q
 have ns:∀ {b:Addr} {u:HO},H b=some u→u≠.dK kvs→upd H d (.frz o (.dK kvs)) b=some u:=λ{b u} q n=>by
  rw[aj λz=>n (by rw[z,hd]at q;exact(Kq q).symm)];exact q
 refine⟨o,I.ok,I.os,I.bare,⟨I.base.keep,I.base.slot,λb ob q n e=>nn (I.base.free b ob q n e),I.base.there,λb xs q=>ns (I.base.ku b xs q) (by intro z;cases z),λb ob u q=>ns (I.base.lO b ob u q) (by intro z;cases z),λb ps q=>?_⟩,I.loc,I.cell,nn I.free,λx c q=>nn (I.fU x c q),λp hp=>?_,λa u q=>?_,I.len⟩
 ·obtain⟨more,q'⟩:=I.base.lP b ps q
  exact⟨more,ns q' (by intro z;cases z)⟩
 ·obtain⟨p1,p2,p3⟩:=I.pin p hp
  exact⟨p1,nn p2,p3⟩
 ·have st:∀ {a:Addr} {u:HO},cw X.prog X.w H s.heap a u→cw X.prog X.w (upd H d (.frz o (.dK kvs))) s.heap a u:=λx=>x.pL (λ_ _ _ z=>z) (λb z=>ns z (by intro y;cases y)) λb xs z=>ns z (by intro y;cases y)
  by_cases e:a=d
  ·subst e
   rw[ae]at q;cases q;exact⟨ho,st (I.hok a _ hd)⟩
  ·rw[aj e]at q
   exact st (I.hok a u q)
def Ji(te:TE):TE:=λσ H Q=>te σ H λv H1=>∃ d kvs,H1 d=some (.dK kvs)∧∀ o,Q v (upd H1 d (.frz o (.dK kvs)))
theorem vj{e:Expr}{te:TE}(h:PE X e te):PE X e (Ji te):=by
 intro pins s σ H Q I t;refine wpAny_mono (h pins s σ H _ I t) (λu s1 ⟨v,H1,I1,r,q⟩=>?_) λ_ _ z=>z;obtain⟨d,kvs,hd,q⟩:=q;obtain⟨o,I2⟩:=I1.frozen hd;exact⟨v,_,I2,r,q o⟩
def Itd(d:Addr)(o:Obj)(kvs:List (Key×V)):It :=
 ⟨λi H=>H d=some (.frz o (.dK kvs))∧i<kvs.length,λi H x H'=>H'=H∧∃ p,kvs[i]?=some p∧x=kV p.1,λi H=>H d=some (.frz o (.dK kvs))∧kvs.length≤i⟩
theorem DH{P:Program}{w:World}{k:Key}{u:Value}(h:(dN P w).is k u=true):RelV (kV k) u:=by
 have h4:pH k u=true:=h;rcases cF h4 with⟨i,t,e1,e2⟩|⟨y,t,e1,e2⟩
 ·subst e1 e2
  exact⟨t,rfl⟩
 ·subst e1 e2
  exact⟨t,rfl⟩
theorem vk{o:Obj}(I:Inv X pins σ H s)(hd:H d=some (.frz o (.dK kvs))){es:Array DictEntry}{ep:Nat}(eo:o.data=.dict es ep):kvs.length≤sizeLine∧(d == sysModules)=false∧∃ vs,KV kvs vs∧s.heap.DictAt (dN X.prog X.w) d vs ep:=by
 obtain⟨ho,hz,h0,vs,rel,o',es',ep',ho',c1,c2,c3⟩:=(show cw X.prog X.w H s.heap d (.frz o (.dK kvs)) from I.hok d _ hd);have e:o'=o:=Kq (ho'.symm.trans ho);subst e;rw[eo]at c2;injection c2 with e1 e2;subst e1 e2;exact⟨hz,h0,vs,rel,o',es,ho',c1,eo,c3⟩
theorem x6{o:Obj}(I:Inv X pins σ H s)(hd:H d=some (.frz o (.dK kvs))):∃ es ep,o.data=.dict es ep:=by
 obtain⟨ho,hz,h0,vs,rel,o',es',ep',ho',c1,c2,c3⟩:=(show cw X.prog X.w H s.heap d (.frz o (.dK kvs)) from I.hok d _ hd);have e:o'=o:=Kq (ho'.symm.trans ho);subst e;exact⟨es',ep',c2⟩
theorem yU:∀ {kvs:List (Key×V)} {vs:List (Key×Value)},KV kvs vs→∀ {i:Nat} {p:Key×V},kvs[i]?=some p→∃ x,vs[i]?=some (p.1,x)
 | _,_,.nil,_,_,h=>by simp at h
 | (k,v)::_,(k',x)::_,.cons a r,0,p,h=>by
  have h1:(k,v)=p:=by simpa using h
  subst h1;obtain⟨e,_⟩:=a;have e':k=k':=e;subst e';exact⟨x,rfl⟩
 | _::_,_::_,.cons _ r,i+1,p,h=>by
  have:=yU r (i:=i) (p:=p) (by simpa using h)
  simpa using this
theorem wW{P:Program}{w:World}{K:W.Frag}{tg:Expr}(d it:Addr)(o:Obj)(kvs:List (Key×V))(ne:d≠it):Turn P w K tg (Itd d o kvs) [it] it (λi h=>∃ es ep,o.data=.dict es ep∧h.IsKeyIter it d i kvs.length ep) where
 mem:=by simp
 obj:=λi h st b hb=>by
  have e:b=it:=by simpa using hb
  subst e;obtain⟨es,ep,_,o,e,c,d⟩:=st;exact⟨o,e,λv z=>by rw[d]at z;cases z⟩
 keep:=λi h h' ⟨es,ep,eo,st⟩ k=>⟨es,ep,eo,st.at λo e=>k it (by simp) o e⟩
 item:=by
  rintro X hP hw hK hc i pins s σ H E I hf ⟨es,ep,eo,st⟩ ⟨hd,hi⟩;subst hP hw hK;obtain⟨hz,h0,vs,rel,hat⟩:=vk I hd eo;have hl:=rel.length;obtain⟨x,hx⟩:=yU rel (JM hi);obtain⟨f0,f1,f2,f3,f4,f5⟩:=hf it (by simp);rw[hl]at st;refine wpAny_pyNext_dict_item st hat hx λkey h' hk st' sb=>?_;have I1:Inv X pins σ H {s with heap:=h'}:=I.turned (t':=s.toks) (λb o hb e=>(sb.2 b hb).trans e) f0 f1 f3 f4 f5;exact⟨key,rfl,letGo_keyiter (s':={s with heap:=h'}) st' ⟨kV (kvs[i]'hi).1,H,I1,DH hk,⟨rfl,_,JM hi,rfl⟩,⟨es,ep,eo,by rw[hl];exact st'⟩,λb hb=>(hf b hb).1⟩⟩
 done:=by
  rintro X hP hw hK hc i pins s σ H E I hf ⟨es,ep,eo,st⟩ ⟨hd,hi⟩;subst hP hw hK;obtain⟨hz,h0,vs,rel,hat⟩:=vk I hd eo;have hl:=rel.length;obtain⟨f0,f1,f2,f3,f4,f5⟩:=hf it (by simp);rw[hl]at st;exact wpAny_pyNext_dict_end (I.ok.hd hc) st hat (KS (by omega)) λh' eb=>⟨rfl,I.turned (t':=s.toks) (λb o hb e=>eb b o hb e) f0 f1 f3 f4 f5⟩
 self:=λ_ _ _ _ _ ⟨_,_,_,st⟩ h=>wpAny_pyIter_keyiter st h
def GV(td:TE):TI:=λσ H R=>td σ H λx H1=>∃ d o kvs,x=.ref d∧H1 d=some (.frz o (.dK kvs))∧R (Itd d o kvs) H1
theorem m9{tg l:Expr}{tl:TE}(hl:PE X l tl):PI X tg l (GV tl):=by
 intro pins s σ H R I h;refine thn (hl pins s σ H _ I h) λv s1 ⟨x,H1,I1,r1,q1⟩=>?_;obtain⟨d,o,kvs,e,hd,q⟩:=q1;subst e;cases r1;obtain⟨es,ep,eo⟩:=x6 I1 hd;obtain⟨hz,h0,vs,rel,hat⟩:=vk I1 hd eo;have hl:=rel.length;refine wpAny_pyIter_dict h0 hat ?_;rw[←hl];refine⟨s1.heap.objs.size,[s1.heap.objs.size],_,_,H1,rfl,I1.kept (t':=s1.toks) λb o e=>JQ _ e,wW d _ o kvs (Kb hat.lt_size),⟨es,ep,eo,_,Kk _ rfl,rfl,rfl⟩,λb hb=>?_,q⟩;have e:b=s1.heap.objs.size:=by simpa using hb
 subst e;exact I1.yC (JR _) (I1.hok.fresh (JR _))
end
theorem tJ{d:Addr}{o:Obj}{kvs:List (Key×V)}{g:TG}{tb:TS}{D:Ends}{σ:St}{H:Hp}(Pv:Nat→St→Hp→Prop)(h0:Pv 0 σ H)(hl:∀ i σ H,i≤kvs.length→Pv i σ H→H d=some (.frz o (.dK kvs)))
  (hs:∀ i p σ H,kvs[i]?=some p→Pv i σ H→g (kV p.1) σ H λσ2 H2=>tb {D with nx:=Pv (i+1),ct:=Pv (i+1),bk:=D.nx} σ2 H2) (hd:∀ σ H,Pv kvs.length σ H→D.nx σ H) :
  ∃ W:Nat→Nat→St→Hp→Prop,(∃ m,W 0 m σ H)∧∀ i m σ H,W i m σ H →
   ((Itd d o kvs).stop i H∧D.nx σ H)∨((Itd d o kvs).go i H∧∃ N:St→Hp→Prop,(∀ σ' H',N σ' H'→∃ m',m'<m∧W (i+1) m' σ' H')∧∀ x H',(Itd d o kvs).yld i H x H'→g x σ H' λσ2 H2=>tb {D with nx:=N,ct:=N,bk:=D.nx} σ2 H2):=by
 refine⟨λi m σ H=>m=kvs.length-i∧i≤kvs.length∧Pv i σ H,⟨kvs.length,by simp,Kh _,h0⟩,?_⟩;rintro i m σ H ⟨rfl,hi,p⟩;by_cases hlt:i<kvs.length
 ·refine .inr ⟨⟨hl i σ H hi p,hlt⟩,Pv (i+1),λσ' H' p'=>⟨kvs.length-(i+1),by omega,rfl,hlt,p'⟩,λx H' y=>?_⟩
  obtain⟨e1,q,e2,e3⟩:=y;subst e1 e3;exact hs i q σ _ e2 p
 ·have e:i=kvs.length:=by omega
  subst e;exact .inl ⟨⟨hl _ σ H hi p,JR _⟩,hd σ H p⟩
section
variable{X:Cx}
end
section
variable{X:Cx}{pins:List (Addr×Obj)}{σ:St}{H:Hp}{s:Shared}
end
theorem uh:∀ {ms ns:List Int},ms.length=ns.length→zF (ms.map V.int) (ns.map V.int)=decide (ms=ns):=by
 intro ms ns hl;rw[Lk,decide_eq_true_eq];unfold zF;rw[K6];constructor
 ·intro h
  refine List.ext_getElem hl λj h1 h2=>?_
  have:=h j (by rw[JS];exact Le.mpr h1)
  simpa[List.getD,h1,h2,eqV] using this
 ·rintro rfl j hj
  rw[JS]at hj;have hj:=Le.mp hj;simp[List.getD,hj,eqV]
theorem ie(ns:List Int):(ns.map V.int).all d3=true:=by simp[d3]
section
variable{X:Cx}
end
section
variable{X:Cx}
end
section
variable{X:Cx}
end
section
variable{P:Program}{w:World}{A:Around}{E:Value→Shared→Prop}
end
section
variable{P:Program}{w:World}{A:Around}{R:Result→Shared→Prop}{KK:Type}[DecidableEq KK]{knd:KeyKind P w KK}
end
section
variable{P:Program}{w:World}{A:Around}{E:Value→Shared→Prop}{KK:Type}[DecidableEq KK]{knd:KeyKind P w KK}
end
section
variable{P:Program}{w:World}{A:Around}{E:Value→Shared→Prop}
end
section
variable{X:Cx}
def Jj(K:W.Frag):R2:=λx y H Q=>∃ a b,∃ ms ns:List Int,x=.ref a∧y=.ref b∧SqL K H a (ms.map V.int)∧SqL K H b (ns.map V.int)∧Q (.bl (decide (ms=ns))) H
theorem DI(hu:X.A.units<cLine):OpR X (compareOp .Eq) (Jj X.K):=by
 rintro pins s σ H x y v u Q I rx ry ⟨a,b,ms,ns,rfl,rfl,ha,hb,q⟩;by_cases hl:ms.length=ns.length
 ·refine DG hu pins s σ H _ _ v u Q I rx ry ⟨a,b,_,_,rfl,rfl,ha,hb,by simpa using hl,ie _,ie _,?_⟩
  rw[uh hl];exact q
 ·cases rx
  cases ry;obtain⟨vs,r1,⟨o1,n1,e1,c1,_,g1⟩,_⟩:=I.list ha;obtain⟨ws,r2,⟨o2,n2,e2,c2,_,g2⟩,_⟩:=I.list hb;have l1:=r1.length;have l2:=r2.length;rw[JS]at l1 l2;refine SeqAt.eq_list_lengthsAt ⟨o1,e1,c1,n1,g1⟩ ⟨o2,e2,c2,n2,g2⟩ (by simp only[JV,bne_iff_ne,ne_eq];omega) hu ⟨.bl false,H,I,rfl,?_⟩;rw[decide_eq_false λz=>hl (by rw[z])]at q;exact q
end
section
variable{P:Program}{w:World}{K:W.Frag}{mg:Str→Option Value}{base:Heap}{N:List Str}{qual:Str}{scope:Scope}{f:Addr}{cdv:Value}{A:Around}{outer:List Env}{s₀:Shared}{H₀:Hp}{E₀:XK}
def XO(P:Program)(w:World)(qual:Str)(scope:Scope)(f:Addr)(cdv:Value)(A:Around)(outer:List Env)(s₀:Shared)(H₀:Hp)(E₀:XK)(base:Heap)(e:Value)(s:Shared):Prop :=
 ∃(ea:Addr) (c:Value) (od:Option Addr) (fs:Array Value) (sl:Array (Option Value)) (T0:Option Addr),e=.ref ea∧(A.deeper (envOfC qual scope s₀.heap.objs.size f cdv)).frames=some (envOfC qual scope s₀.heap.objs.size f cdv::outer)∧s.heap.FunFrames base (envOfC qual scope s₀.heap.objs.size f cdv::outer)∧s.heap.get? ea=some (bq c od fs sl)∧jg s.heap ea fs T0 ∧
  ∀(m:Heap) (T:Addr) (fs':Array Value),s.heap.objs.size≤T→Kept (bR (envOfC qual scope s₀.heap.objs.size f cdv::outer)) (ea::T0.toList) s.heap m→m.get? ea=some (bq c od fs' sl)→fs'[0]?=fs[0]?→jg m ea fs' (some T)→CXE P w outer H₀ s₀ E₀ (.ref ea) {s with heap:=m}
def XN(P:Program)(w:World)(outer:List Env)(s₀:Shared)(H₀:Hp)(E₀:XK)(L:Addr)(e:Value)(s:Shared):Prop :=
 ∃(ea T:Addr) (c oc:Value) (od d:Option Addr) (fs ts:Array Value) (sl sm:Array (Option Value)),e=.ref ea∧s.heap.get? ea=some (bq c od fs sl)∧fs[1]?=some (.ref T)∧T≠ea∧s.heap.get? T=some (bq oc d ts sm)∧ts[3]?=some (rawInt L) ∧
  ∀ m:Heap,(∀ b o,b≠T→s.heap.get? b=some o→m.get? b=some o)→jg m ea fs (some T)→m.get? ea=some (bq c od fs sl)→CXE P w outer H₀ s₀ E₀ (.ref ea) {s with heap:=m}
def XR(P:Program)(w:World)(qual:Str)(scope:Scope)(f:Addr)(cdv:Value)(A:Around)(outer:List Env)(s₀:Shared)(H₀:Hp)(E₀:XK)(base:Heap)(e:Value)(s:Shared):Prop :=
 XO P w qual scope f cdv A outer s₀ H₀ E₀ base e s∨XN P w outer s₀ H₀ E₀ s₀.heap.objs.size e s
theorem x8{pins:List (Addr×Obj)}{σ:St}{H H':Hp}{s s':Shared}{ea C T:Addr}{od:Option Addr}{fs:Array Value}{sl:Array (Option Value)}(I:Inv (cxE P w K mg base N qual scope f cdv A outer s₀ H₀ E₀) pins σ H s)
  (l:Lies P w (cxE P w K mg base N qual scope f cdv A outer s₀ H₀ E₀).stack H H' s ea C T od fs sl s') (hE:E₀ (.ref C) od H'):XO P w qual scope f cdv A outer s₀ H₀ E₀ base (.ref ea) s':=by
 refine⟨ea,_,_,_,_,_,rfl,I.ok.frames,Lies.frames I l,l.at_,l.trail,λm T' fs' z1 z2 z3 z4 z5=>?_⟩;obtain⟨un,hok⟩:=l.on (t':=s'.toks) I z2;have J:Inv (cxE P w K mg base N qual scope f cdv A outer s₀ H₀ E₀) pins σ H' {s' with heap:=m}:=I.mS l.os un hok l.bare (λb z=>absurd z (by simp));have old:∀ b o,s₀.heap.get? b=some o→∃ o',s.heap.get? b=some o':=λb o z=>I.base.there b o z (KU);have e0:s₀.heap.get? ea=none:=by
  cases q:s₀.heap.get? ea with
  | none=>rfl
  | some o =>
   obtain⟨o',z⟩:=old ea o q;rw[l.Aw]at z;cases z
 have t0:s₀.heap.get? T'=none:=by
  cases q:s₀.heap.get? T' with
  | none=>rfl
  | some o =>
   obtain⟨o1,y1⟩:=old T' o q;obtain⟨o2,y2⟩:=l.un.there T' o1 y1 (by simp);exact absurd (JY y2) (Lz.mpr z1)
 obtain⟨a0,ha⟩:=l.args;exact⟨ea,C,T',od,fs',sl,H',rfl,⟨J.os,J.bare,J.base,J.hok,e0,t0,l.ue,l.hok.fresh z1,z3,⟨a0,by rw[z4];exact ha⟩,z5⟩,hE⟩
theorem AB{pins:List (Addr×Obj)}{σ:St}{H:Hp}{s:Shared}{ea C:Addr}{od:Option Addr}(I:Inv (cxE P w K mg base N qual scope f cdv A outer s₀ H₀ E₀) pins σ H s)(h1:H ea=some (exo true C ea od))(h0:H₀ ea=none)
  (hE:E₀ (.ref C) od (del H ea)):XO P w qual scope f cdv A outer s₀ H₀ E₀ base (.ref ea) s:=by
 obtain⟨fs,sl,a0,z,ha,hf⟩:=kB I.hok h1;have frz:∀ b,b∈frs (cxE P w K mg base N qual scope f cdv A outer s₀ H₀ E₀).stack→H b=none:=I.hZ;have e0:s₀.heap.get? ea=none:=by
  cases q:s₀.heap.get? ea with
  | none=>rfl
  | some o =>
   have:=I.base.free ea o q h0 KU
   rw[h1]at this;cases this
 refine⟨ea,_,_,_,_,_,rfl,I.ok.frames,I.stack,z,.none (hf rfl),λm T' fs' z1 z2 z3 z4 z5=>?_⟩;have hd:HOk P w (del H ea) s.heap:=I.hok.del (λy q=>by rw[h1]at q;cases q) λxs q=>by rw[h1]at q;cases q
 have hm:HOk P w (del H ea) m:=hd.keeps λb u o q r=>by
  obtain⟨q1,q2⟩:=nI q;exact z2.plain b o r (λhb=>by rw[frz b hb]at q1;cases q1) (by simpa using q2)
 have neE:∀ b o,s₀.heap.get? b=some o→b≠ea:=λb o q r=>by rw[r,e0]at q;cases q
 have t0:s₀.heap.get? T'=none:=by
  cases q:s₀.heap.get? T' with
  | none=>rfl
  | some o =>
   obtain⟨o2,y2⟩:=I.base.there T' o q KU;exact absurd (JY y2) (Lz.mpr z1)
 have neL:∀ b o,s₀.heap.get? b=some o→b∈bR (cxE P w K mg base N qual scope f cdv A outer s₀ H₀ E₀).stack→b∈frs outer:=λb o q hb=>by
  rcases Kc.mp (I.ik b hb) with r|r
  ·exact absurd (JY q) (by rw[r];exact Lz.mpr I.ok.above)
  ·exact r
 have sub:∀ b,b∈frs outer→b∈bR (cxE P w K mg base N qual scope f cdv A outer s₀ H₀ E₀).stack:=λb hb=>by
  obtain⟨x,hx,hy⟩:=KH.mp hb;exact KH.mpr ⟨x,JT _ hx,hy⟩
 refine⟨ea,C,T',od,fs',sl,del H ea,rfl,⟨I.os,I.bare,⟨λb o q n hb hx=>?_,λb o q n hb hx=>?_,λb o q n hx=>?_,λb o q hx=>?_,λb xs q=>?_,λb o u q=>?_,λb ps q=>?_⟩,hm,e0,t0,kg,?_,z3,⟨a0,by rw[z4];exact ha⟩,z5⟩,hE⟩
 ·exact z2.plain b o (I.base.keep b o q n hb hx) (λz=>hb (neL b o q z)) (by simpa using neE b o q)
 ·obtain⟨s1,y1⟩:=I.base.slot b o q n hb hx
  obtain⟨s2,y2⟩:=z2.frame b _ y1 (sub b hb) (by simpa using neE b o q);exact⟨s2,y2⟩
 ·rw[fZ (neE b o q)]
  exact I.base.free b o q n hx
 ·obtain⟨o1,y1⟩:=I.base.there b o q hx
  by_cases hb:b∈bR (cxE P w K mg base N qual scope f cdv A outer s₀ H₀ E₀).stack
  ·obtain⟨s2,y2⟩:=z2.frame b _ y1 hb (by simpa using neE b o q)
   exact⟨_,y2⟩
  ·exact⟨_,z2.plain b _ y1 hb (by simpa using neE b o q)⟩
 ·have r:=I.base.ku b xs q
  rw[fZ λe=>by rw[e,h1]at r;cases r];exact r
 ·have r:=I.base.lO b o u q
  rw[fZ λe=>by rw[e,h1]at r;cases r];exact r
 ·obtain⟨more,r⟩:=I.base.lP b ps q
  exact⟨more,by rw[fZ λe=>by rw[e,h1]at r;cases r];exact r⟩
 ·by_cases q:T'=ea
  ·rw[q];exact kg
  ·rw[fZ q];exact I.hok.fresh z1
theorem XR.xe{e:Value}{s:Shared}(h:XR P w qual scope f cdv A outer s₀ H₀ E₀ base e s):(cxE P w K mg base N qual scope f cdv A outer s₀ H₀ E₀).xe e s:=by
 rcases h with⟨ea,c,od,fs,sl,T0,rfl,hA,F,he,t,k⟩|⟨ea,T,c,oc,od,d,fs,ts,sl,sm,rfl,he,h1,ne,hT,h3,k⟩
 ·exact vf hA F rfl he t k
 ·have h3s:3<ts.size:=(Kl.mp h3).1
  show wpAny _ _ (leaving _ (.ref ea)) _ _ s;unfold leaving noteFrame;refine wpAny_bind ?_;show wpAny _ _ (field (.ref ea) 1 >>= _) _ _ s;refine wpAny_bind (wpAny_field he rfl h1 ?_);rw[if_pos (show(Value.ref T != Value.none)=true by simp)];refine wpAny_bind (wpAny_field hT rfl h3 ?_);rw[if_pos (by simp)];exact wpAny_pure (iC he h1 ne hT h3s k)
theorem ui:PassesOwn (model P w) (A.deeper (envOfC qual scope s₀.heap.objs.size f cdv)) (envOfC qual scope s₀.heap.objs.size f cdv) (XR P w qual scope f cdv A outer s₀ H₀ E₀ base):=by
 intro e s h;have HY:∀ {s1:Shared},XN P w outer s₀ H₀ E₀ s₀.heap.objs.size e s1→cameBackBy (model P w) (A.deeper (envOfC qual scope s₀.heap.objs.size f cdv)) (envOfC qual scope s₀.heap.objs.size f cdv) (XR P w qual scope f cdv A outer s₀ H₀ E₀ base) e s1:=by
  rintro s1 ⟨ea,T,c,oc,od,d,fs,ts,sl,sm,rfl,he,h1,ne,hT,h3,k⟩;have h3s:3<ts.size:=(Kl.mp h3).1;unfold cameBackBy setFlight;refine wpAny_bind (wpAny_field he rfl h1 ?_);dsimp only;rw[if_neg (by simp)];refine wpAny_bind (wpAny_field he rfl h1 ?_);rw[if_pos (show(Value.ref T != Value.none)=true by simp)];refine wpAny_setField hT rfl h3s ?_;have oth:∀ b o,b≠T→s1.heap.get? b=some o→(s1.heap.update T (Obj.mapFields (·.setIfInBounds 3 (rawInt s₀.heap.objs.size)))).get? b=some o:=λb o hb q=>(Ky _ _ (KG hb)).trans q;exact .inr ⟨ea,T,c,oc,od,d,fs,ts.setIfInBounds 3 (rawInt s₀.heap.objs.size),sl,sm,rfl,oth _ _ (KG ne) he,h1,ne,kA hT,by simp[h3s],λm q1 q2 q3=>k m (λb o hb q=>q1 b o hb (oth b o hb q)) q2 q3⟩
 rcases h with⟨ea,c,od,fs,sl,T0,rfl,hA,F,he,t,k⟩|⟨ea,T,c,oc,od,d,fs,ts,sl,sm,rfl,he,h1,ne,hT,h3,k⟩
 ·refine qQ hA F rfl he t λm T oc ts z1 z2 z3 z4 z5=>HY ?_
  have Te:T≠ea:=KR (J8 (JY he) z1);have f1:(fs.setIfInBounds 1 (Value.ref T))[1]?=some (.ref T):=by
   have:=t.size
   simp[this]
  refine⟨ea,T,c,oc,od,none,_,ts,sl,#[],rfl,z3,f1,Te,z4,z5,λm' q1 q2 q3=>k m' T _ z1 ⟨λb o q hb hx=>?_,λb o q hb hx=>?_⟩ q3 (by simp) q2⟩
  ·exact q1 b o (Kb (J8 (JY q) z1)) (z2.plain b o q hb hx)
  ·obtain⟨sm,r⟩:=z2.frame b o q hb hx
   exact⟨sm,q1 b _ (Kb (J8 (JY q) z1)) r⟩
 ·have h3s:3<ts.size:=(Kl.mp h3).1
  show wpAny _ _ (noteFrame (.ref ea) _) _ _ s;unfold noteFrame;show wpAny _ _ (field (.ref ea) 1 >>= _) _ _ s;refine wpAny_bind (wpAny_field he rfl h1 ?_);rw[if_pos (show(Value.ref T != Value.none)=true by simp)];refine wpAny_bind (wpAny_field hT rfl h3 ?_);rw[if_pos (by simp)];exact wpAny_pure (HY ⟨ea,T,c,oc,od,d,fs,ts,sl,sm,rfl,he,h1,ne,hT,h3,k⟩)
abbrev cxR(P:Program)(w:World)(K:W.Frag)(mg:Str→Option Value)(base:Heap)(N:List Str)(qual:Str)(scope:Scope)(f:Addr)(cdv:Value)(A:Around)(outer:List Env)(s₀:Shared)(H₀:Hp)(E₀:XK):Cx :=
 (cxE P w K mg base N qual scope f cdv A outer s₀ H₀ E₀).pM (XR P w qual scope f cdv A outer s₀ H₀ E₀ base)
theorem PSs.xr{st:List Stmt}{t:TS}(h:PSs (cxR P w K mg base N qual scope f cdv A outer s₀ H₀ E₀) st t):PSs (cxE P w K mg base N qual scope f cdv A outer s₀ H₀ E₀) st t:=λpins s σ H D I hw =>
 wpAny_mono (h pins s σ H D (I.pM _) hw) (λ_ _ q=>q.gX) λ_ _ z=>z.xe
theorem DJ:nJ (cxR P w K mg base N qual scope f cdv A outer s₀ H₀ E₀) E₀:=λ_ _ _ _ _ _ _ I h1 h0 q=>.inl (AB I.gX h1 h0 q)
theorem jH{E:XK}(hE:∀ c od H',E c od H'→E₀ c od H'):fq (CXE P w) (cxR P w K mg base N qual scope f cdv A outer s₀ H₀ E₀) (λ_=>E):=λpins σ H s e s' I h=>by
 obtain⟨ea,C,T,od,fs,sl,H',rfl,l,q⟩:=h;exact .inl (x8 I.gX l (hE _ _ _ q))
theorem HZ:PassesOwn (model P w) (cxR P w K mg base N qual scope f cdv A outer s₀ H₀ E₀).A (cxR P w K mg base N qual scope f cdv A outer s₀ H₀ E₀).env (cxR P w K mg base N qual scope f cdv A outer s₀ H₀ E₀).xe:=ui
end
section
open PySem.SeqAt
open PySem.AutoSeq1 (wpAny_loadPart')
open PySem.MeetsSeq PySem.MeetsSeq2 PySem.MeetsSeq3
end
section
variable{X:Cx}
end
section
variable{P:Program}{w:World}{A:Around}{E:Value→Shared→Prop}
end
section
variable{X:Cx}
end
section
variable{P:Program}{w:World}
variable{A:Around}{E:Value→Shared→Prop}{s:Shared}
end
section
variable{cmp:Nat→Nat→(Bool→Shared→Prop)→Shared→Prop}{s:Shared}
end
section
variable{P:Program}{w:World}{A:Around}{E:Value→Shared→Prop}{s:Shared}
end
section
variable{P:Program}{w:World}{A:Around}{E:Value→Shared→Prop}{s:Shared}
def Jk(P:Program)(w:World)(A:Around)(vs:List Value)(s:Shared):Prop:=∃ κ:SortKind,(∀(Q:SortKind→Shared→Prop) (E:Value→Shared→Prop),Q κ s→wpAny (model P w) A (keyKind' vs.toArray) Q E s) ∧
 ∀ i j,i<vs.length→j<vs.length→∀ C:Bool→Shared→Prop,(∀ b,C b s)→PySem.W.kas_ask P w A κ vs i j C s
end
section
variable{X:Cx}{pins:List (Addr×Obj)}{σ:St}{H:Hp}{s:Shared}{A:Around}{E:Value→Shared→Prop}
theorem jI{us:List Value}{a b:Int}(r:Vals [.int a,.int b] us):∃ t t',us=[.int a t,.int b t']:=by
 cases r with
 | cons h1 r =>
  cases r with
  | cons h2 r =>
   cases r;obtain⟨t,rfl⟩:=h1;obtain⟨t',rfl⟩:=h2;exact⟨t,t',rfl⟩
theorem AD(I:Inv X pins σ H s){p q:Addr}{a b a' b':Int}(hp:H p=some (.tup [.int a,.int b]))(hq:H q=some (.tup [.int a',.int b'])){Q:Bool→Shared→Prop}(k:∀ c,Q c s):wpAny (model X.prog X.w) A (keyLt' (tuples' true) (.ref p) (.ref q)) Q E s:=by
 obtain⟨vs,r1,t1,_⟩:=I.tuple (SqT.of hp);obtain⟨ws,r2,t2,_⟩:=I.tuple (SqT.of hq);obtain⟨n0,n1,rfl⟩:=jI r1;obtain⟨m0,m1,rfl⟩:=jI r2;obtain⟨o1,ho1,_,n,hd1⟩:=t1;obtain⟨o2,ho2,_,m,hd2⟩:=t2;refine PySem.W.kat_lt ho1 hd1 ho2 hd2 (PySem.W.kat_cons (wpAny_eqBool_int ?_));by_cases h0:a=a'
 ·rw[show(a == a')=true from beq_iff_eq.mpr h0]
  refine PySem.W.kat_yes (PySem.W.kat_cons (wpAny_eqBool_int ?_));by_cases h1:b=b'
  ·rw[show(b == b')=true from beq_iff_eq.mpr h1]
   exact PySem.W.kat_yes (PySem.W.kat_nil (k _))
  ·rw[show(b == b')=false from beq_eq_false_iff_ne.mpr h1]
   exact PySem.W.kat_no (PySem.W.kat_one _ _ (PyProof.Rows.lt_int (k _)))
 ·rw[show(a == a')=false from beq_eq_false_iff_ne.mpr h0]
  exact PySem.W.kat_no (oneLt_int (k _))
theorem ng(I:Inv X pins σ H s):∀ us:List Value,(∀ v∈us,∃ q a b,v=.ref q∧H q=some (.tup [.int a,.int b]))→∃ fs:List Value,fs.length=us.length∧(∀ v∈fs,∃ n t,v=Value.int n t)∧PySem.W.KatTups s.heap us fs
 | [],_=>⟨[],rfl,(λv h=>nomatch h),.nil⟩
 | e::us,hw=>by
  obtain⟨fs,h1,h2,h3⟩:=ng I us λz hz=>hw z (JT _ hz);obtain⟨q,a,b,rfl,hq⟩:=hw e JW;obtain⟨vs,r1,⟨o,go,gc,n,gd⟩,_⟩:=I.tuple (SqT.of hq);obtain⟨n0,n1,rfl⟩:=jI r1;refine⟨.int a n0::fs,by rw[Kv,Kv,h1],λv hv=>?_,.cons go gc gd rfl h3⟩;rcases Kc.mp hv with rfl|hv
  ·exact⟨_,_,rfl⟩
  ·exact h2 v hv
theorem wX(I:Inv X pins σ H s){us:List Value}(hw:∀ v∈us,∃ q a b,v=.ref q∧H q=some (.tup [.int a,.int b]))(h2:2≤us.length):Jk X.prog X.w A us s:=by
 refine⟨tuples' true,λQ E q=>?_,λi j hi hj C c=>?_⟩
 ·obtain⟨fs,e1,e2,e3⟩:=ng I us hw
  refine PySem.W.kat_kind (T:=Value.type "int") e3 (by omega) (λv hv=>?_) (by rfl) q;obtain⟨n,t,rfl⟩:=e2 v hv;exact PySem.W.Looks.of_pure rfl
 ·unfold PySem.W.kas_ask
  rw[Ki,Ki,JM hi,JM hj,K7,K7];obtain⟨q1,a1,b1,e1,g1⟩:=hw _ (Lr hi);obtain⟨q2,a2,b2,e2,g2⟩:=hw _ (Lr hj);rw[e1,e2];exact AD I g1 g2 c
end
end L2
end
section
namespace L2
open PySem PySem.Spec PyProof.Rows LX PySem.W
def fA{α:Type}(n:Nat)(P:α→Prop):KasT α→Prop
 | .ret a=>P a
 | .ask i j k=>i<n∧j<n∧∀ b,fA n P (k b)
theorem fA.bind{α β:Type}{n:Nat}{P:α→Prop}{Q:β→Prop}{f:α→KasT β}:∀ {t:KasT α},fA n P t→(∀ a,P a→fA n Q (f a))→fA n Q (t.bind f)
 | .ret a,h,k=>k a h
 | .ask _ _ _,h,k=>⟨h.1,h.2.1,λb=>fA.bind (h.2.2 b) k⟩
def Pm(n:Nat)(p:Array Nat):Prop:=p.Perm (List.toArray (List.range n))
theorem Pm.lt{n:Nat}{p:Array Nat}(h:Pm n p)(hn:0<n)(k:Nat):p.getD k 0<n:=by
 by_cases hk:k<p.size
 ·have e:p.getD k 0=p[k]:=by simp[Array.getD,hk]
  rw[e];have m:p[k]∈p:=Array.getElem_mem hk;have m':=h.mem_iff.mp m;simpa using m'
 ·have e:p.getD k 0=0:=by simp[Array.getD,hk]
  rw[e];exact hn
theorem Pm.rev{n:Nat}{p:Array Nat}(h:Pm n p)(i j:Nat):Pm n (kas_rev p i j):=(mirror_perm _ _ _ _).trans h
theorem nM{n:Nat}{p:Array Nat}(h:Pm n p)(hn:0<n):∀(f m:Nat),fA n (λ_=>True) (kas_asc p f m)
 | 0,_=>trivial
 | f+1,m=>⟨h.lt hn _,h.lt hn _,λb=>by
  cases b with
  | true=>exact trivial
  | false=>exact nM h hn f (m+1)⟩
theorem jj{n:Nat}(hn:0<n):∀(f:Nat) (p:Array Nat) (m q:Nat),Pm n p→fA n (λr=>Pm n r.1) (kas_desc f p m q)
 | 0,_,_,_,h=>h
 | f+1,p,m,q,h=>⟨h.lt hn _,h.lt hn _,λb=>by
  cases b with
  | true =>
   show fA n _ (if q>0 then _ else _);by_cases hq:q>0
   ·rw[if_pos hq];exact jj hn f _ _ _ (h.rev _ _)
   ·rw[if_neg hq];exact jj hn f _ _ _ h
  | false =>
   refine⟨h.lt hn _,h.lt hn _,λc=>?_⟩;cases c with
   | true=>exact h
   | false=>exact jj hn f _ _ _ h⟩
theorem ni{n:Nat}(hn:0<n){p:Array Nat}(h:Pm n p)(m yV:Nat):fA n (λr=>Pm n r.2) (kas_tail3 m yV p) :=
 (nM (h.rev _ _) hn _ _).bind λ_ _=>h.rev _ _
theorem js{n:Nat}(hn:0<n){p:Array Nat}(h:Pm n p)(m yV:Nat):fA n (λr=>Pm n r.2) (kas_descPart m yV p):=by
 refine(jj hn _ _ _ _ h).bind λr hr=>?_;by_cases hq:r.2.2>0
 ·rw[if_pos hq];exact ni hn (hr.rev _ _) _ _
 ·rw[if_neg hq];exact ni hn hr _ _
theorem uj{n:Nat}(hn:0<n){p:Array Nat}(h:Pm n p)(yV:Nat):fA n (λr=>Pm n r.2) (kas_count yV p):=by
 refine(nM h hn _ _).bind λm _=>?_;by_cases h1:(m == yV)=true
 ·rw[if_pos h1];exact h
 ·rw[if_neg h1]
  by_cases h2:m>1
  ·rw[if_pos h2]
   refine⟨h.lt hn _,h.lt hn _,λb=>?_⟩;cases b with
   | true=>exact h
   | false=>exact js hn (h.rev _ _) _ _
  ·rw[if_neg h2];exact js hn h _ _
theorem jJ{n:Nat}(hn:0<n){p:Array Nat}(h:Pm n p)(k:Nat):∀(f l r:Nat),fA n (λ_=>True) (kas_place p k f l r)
 | 0,_,_=>trivial
 | f+1,l,r=>by
  show fA n _ (if l≥r then _ else _);by_cases h1:l≥r
  ·rw[if_pos h1];exact trivial
  ·rw[if_neg h1]
   refine⟨h.lt hn _,h.lt hn _,λb=>?_⟩;cases b with
   | true=>exact jJ hn h k f _ _
   | false=>exact jJ hn h k f _ _
theorem tK{n:Nat}(hn:0<n):∀(f:Nat) (p:Array Nat) (k:Nat),Pm n p→fA n (Pm n) (kas_bin f p k)
 | 0,_,_,h=>h
 | f+1,p,k,h=>(jJ hn h k _ _ _).bind λl _=>tK hn f _ _ ((bubble_perm _ _ _).trans h)
theorem wY{n:Nat}(hn:0<n):fA n (Pm n) (kas_sort n):=by
 refine(uj hn (Array.Perm.refl _) n).bind λr hr=>?_;by_cases h:r.1<n
 ·rw[if_pos h];exact tK hn _ _ _ hr
 ·rw[if_neg h];exact hr
theorem fA.wp{α:Type}{n:Nat}{P:α→Prop}{cmp:Nat→Nat→(Bool→Shared→Prop)→Shared→Prop}{G:α→Shared→Prop}{s:Shared}(hc:∀ i j,i<n→j<n→∀ C:Bool→Shared→Prop,(∀ b,C b s)→cmp i j C s)(hG:∀ a,P a→G a s):∀ {t:KasT α},fA n P t→t.kasWp cmp G s
 | .ret a,h=>hG a h
 | .ask i j k,h=>hc i j h.1 h.2.1 _ λb=>fA.wp hc hG (h.2.2 b)
end L2
end
section
namespace L2
open PySem PySem.Spec PyProof.Rows LX
open PySem.W (CodeHd tabObj envX kla_obj kla_fn)
section
variable{X:Cx}{pins:List (Addr×Obj)}{σ:St}{H:Hp}{s:Shared}
theorem Inv.DK{a:Addr}{o:HO}{h':Heap}{t':Nat}(I:Inv X pins σ H s)(hs:Heap.SameBut a s.heap h')(hn:H a=none)(own:X.s₀.heap.objs.size≤a)(nl:a≠X.env.locals)
  (nc:∀ x c,X.env.cells.lookup x=some c→c≠a) (np:∀ p∈X.pn++pins,p.1≠a) (lt:∃ u,h'.get? a=some u) (new:cw X.prog X.w (upd H a o) h' a o):Inv X pins σ (upd H a o) {s with heap:=h',toks:=t'}:=by
 have na:∀ b u,H b=some u→b≠a:=λb u e z=>by rw[z,hn]at e;cases e
 have ot:∀ b,b∉[a]→b≠a:=λb hb z=>hb (by rw[z];exact JO.mpr rfl);refine I.step (g':=s.gens) (d':=s.drawn) (ch:=[a]) (λb hb=>?_) (λb o _ _ hc e _=>(hs.2 b (ot b hc)).trans e) (λb o _ _ hc e _=>⟨o.slots,(hs.2 b (ot b hc)).trans e⟩) (λb _ hc _ n=>by rw[aj (ot b hc)];exact n)
  (λb o hc e=>⟨o,(hs.2 b (ot b hc)).trans e⟩) (λb _ e=>by rw[aj (na b _ e)];exact e) (λb _ _ e=>by rw[aj (na b _ e)];exact e) (λb ps e=>⟨#[],by rw[aj (na b _ e),e];simp⟩) (λm hm=>hm.sameBut hs nl.symm) (λb u e=>?_) I.bare
 ·rw[JO.mp hb]
  exact⟨.inr own,nl,nc,np⟩
 ·by_cases hb:b=a
  ·subst hb;rw[ae]at e;cases e;exact new
  ·rw[aj hb]at e
   refine(I.hok b u e).pL (λc v hc q=>(hs.2 c ?_).trans q) (λc q=>by rw[aj (na c _ q)];exact q) λc xs q=>by rw[aj (na c _ q)];exact q
   rcases hc with z|z
   ·rw[z];exact hb
   ·exact na c _ z
theorem Inv.zH{a:Addr}{o o':Obj}{h':Heap}{t':Nat}(I:Inv X ((a,o)::pins) σ H s)(hs:Heap.SameBut a s.heap h')(ho:h'.get? a=some o')(own:X.s₀.heap.objs.size≤a)(np:∀ p∈X.pn++pins,p.1≠a)(d:∀ v,o'.data≠.cell v) :
  Inv X ((a,o')::pins) σ H {s with heap:=h',toks:=t'}:=by
 obtain⟨e1,e2,e3,e4,e5⟩:=I.pin (a,o) (JP _ JW);have nc:∀ x c,X.env.cells.lookup x=some c→c≠a:=λx c e z=>by
  obtain⟨v,oc,h1,h2⟩:=I.cell x c e;rw[z]at h1;have h1':=h1.symm.trans e1;cases h1';exact e5 v h2
 have I1:Inv X pins σ H s:=I.jm λp hp=>I.pin p (JP _ (JT _ hp));have I2:Inv X pins σ H {s with heap:=h',toks:=t'}:=I1.turned (t':=t') (it:=a) (λb o hb e=>(hs.2 b hb).trans e) e2 e3 (.inr own) nc np;refine I2.jm λp hp=>?_;rcases Kc.mp hp with rfl|hp
 ·exact⟨ho,e2,e3,e4,d⟩
 ·exact I2.pin p (JP _ hp)
theorem Inv.xw{p:Addr×Obj}(I:Inv X (p::pins) σ H s):Inv X pins σ H s:=I.jm λq hq=>I.pin q (JP _ (JT _ hq))
theorem Inv.CO{a:Addr}{o:Obj}(I:Inv X pins σ H s)(h1:s.heap.get? a=some o)(h2:H a=none)(h3:a≠X.env.locals)(h4:a∉X.fs)(h5:∀ v,o.data≠.cell v):Inv X ((a,o)::pins) σ H s:=by
 refine I.jm λp hp=>?_;rcases Kc.mp hp with rfl|hp
 ·exact⟨h1,h2,h3,h4,h5⟩
 ·exact I.pin p (JP _ hp)
theorem Inv.CP(I:Inv X pins σ H s){a:Addr}(h:s.heap.objs.size≤a):∀ p∈X.pn++pins,p.1≠a:=λp hp z=>by
 have:=JY (I.pin p hp).1
 rw[z]at this;exact absurd (J8 this h) (KO _)
end
abbrev cxL(X:Cx)(A:Around)(qual:Str)(scope:Scope)(cl:List (Str×Addr))(NC:List Str)(L f:Addr)(cd:Value)(s₀:Shared)(H₀:Hp):Cx :=
 {X with A:=A.deeper (envX qual scope L f cd cl),N:=NC,s₀:=s₀,H₀:=H₀,env:=envX qual scope L f cd cl,outer:=X.stack,stack:=envX qual scope L f cd cl::X.stack,ex:=[],fn:=λ_=>false,calm:=true,pn:=[],xe:=λ_ _=>False}
structure uk(X:Cx)(scope:Scope)(cl:List (Str×Addr))(x:Str)(idx:List Nat)(NC:List Str):Prop where
 xJ:closureFor scope X.env=pure cl
 sub:∀ y c,cl.lookup y=some c→X.env.cells.lookup y=some c
 has:∀ y,(scope.names.lookup y=some .cell∨scope.names.lookup y=some .free)→∃ c,cl.lookup y=some c
 j5:∀ y∈scope.names,y.2≠.cell
 kind:scope.kind=.function
 co:scope.isCoroutine=false
 gen:scope.isGenerator=false
 xl:scope.names.lookup x=some .local
 nc:NC=x::idx.map λi=>X.N.getD i x
 cap:∀ i∈idx,i<X.N.length∧((X.env.scope.names.lookup (X.N.getD i x)=some .cell∨X.env.scope.names.lookup (X.N.getD i x)=some .free)∧(scope.names.lookup (X.N.getD i x)=some .cell∨scope.names.lookup (X.N.getD i x)=some .free))
structure nr(K:W.Frag)(mg:Str→Option Value)(base:Heap)(c Pt:Addr):Prop where
 cd:CodeHd base c Pt
 ne:mainGlobals≠Pt
 bm:base.BuiltinsAt mg Pt
section
variable{X:Cx}{pins:List (Addr×Obj)}{σ:St}{H:Hp}{s:Shared}{scope:Scope}{cl:List (Str×Addr)}{x:Str}{idx:List Nat}{NC:List Str}{qual:Str}{f:Addr}{cd:Value}
theorem AE{A:Around}{h1:Heap}{t':Nat}{v:V}{u:Value}(c:uk X scope cl x idx NC)(I:Inv X pins σ H s)(hA:A.frames=some X.stack)(hh:A.handled=none)(rv:RelV v u)(ns:h1.Ns s.heap.objs.size (λy=>[(x,u)].reverse.lookup y))
  (k:∀ b o,s.heap.get? b=some o→h1.get? b=some o):Inv (cxL X A qual scope cl NC s.heap.objs.size f cd s H) [] (some v::gy σ idx) H {s with heap:=h1,toks:=t'}:=by
 refine⟨⟨I.ok.mod,c.kind,rfl,rfl,JR _,λy z a h1 h2=>I.ok.inj y z a (c.sub _ _ h1) (c.sub _ _ h2),c.has,λy a z=>(by cases z),λ_=>hh,(by show A.frames.map _=_;rw[hA];rfl),.inr ⟨rfl,rfl⟩,λb hb=>(by cases hb),
  λb o q=>I.bs b o q,Ko I.ok.bsz I.sz,λb o q hb=>(by cases hb),λb hb z=>(by cases hb),I.stack,I.hZ⟩,rfl,I.bare,Un.kept k,⟨_,ns,λi y v' e1 e2 e3=>?_⟩,λy a q=>?_,I.hok.fresh (JR _),λy a q=>I.fU _ _ (c.sub _ _ q),λp hp=>(by cases hp),I.hok.kept k,?_⟩
 ·cases i with
  | zero =>
   have e1':NC[0]?=some y:=e1;rw[c.nc]at e1';obtain rfl:x=y:=(by simpa using e1');have e2':some (some v)=some (some v'):=e2;cases e2';exact⟨u,rv,.inl ⟨c.xl,by simp⟩⟩
  | succ j =>
   have e1':(idx.map λi=>X.N.getD i x)[j]?=some y:=by
    have Ia:NC[j+1]?=some y:=e1;rw[c.nc]at Ia;exact Ia
   have e2':(gy σ idx)[j]?=some (some v'):=e2;rw[JZ]at e1';unfold gy at e2';rw[JZ]at e2';cases ei:idx[j]? with
   | none=>rw[ei]at e1';cases e1'
   | some i =>
    rw[ei]at e1' e2';simp only[KZ,Option.some.injEq]at e1' e2';obtain⟨hi,h2,h3⟩:=c.cap i (J0 ei);rw[e1']at h2 h3;have hN:X.N[i]?=some y:=by
     rw[←e1'];simp[List.getD,JM hi]
    have hσ:σ[i]?=some (some v'):=by
     cases q:σ[i]? with
     | none=>rw[q]at e2';cases e2'
     | some o=>rw[q]at e2';simp only[K7]at e2';rw[e2']
    obtain⟨m,hn,hl⟩:=I.loc;obtain⟨u',r,l⟩:=hl i y v' hN hσ (h2.elim (λz=>.inr (.inl z)) λz=>.inr (.inr z));refine⟨u',r,.inr ⟨h3,?_⟩⟩;rcases l with⟨l,_⟩|⟨_,a,ha,hc⟩
    ·exfalso
     have l':X.env.scope.names.lookup y=some .local:=l;rcases h2 with z|z<;>(rw[l']at z;cases z)
    ·obtain⟨a',ha'⟩:=c.has y h3
     have:=c.sub _ _ ha'
     rw[ha]at this;cases this;exact⟨a,ha',hc.keeps k⟩
 ·obtain⟨v',z⟩:=I.cell _ _ (c.sub _ _ q)
  exact⟨v',z.keeps k⟩
 ·show _=NC.length
  rw[c.nc];simp[gy]
theorem AF{A:Around}{k:Nat}{params:Arguments}{body:Expr}{pm ctv:Value}{c':Addr}{te:TE}{Q:VK}{v:V}{u:Value}(c:uk X scope cl x idx NC)(I:Inv X pins σ H s)(hA:A.frames=some X.stack)(hr:f6 (k+1) A)(rv:RelV v u)
  (hf:s.heap.get? f=some (kla_obj "<lambda>" qual params body scope cl pm c' ctv)) (hcd:s.heap.CodeRec (.ref c') qual) (hb:∀ u:Value,bindArgs (kla_fn "<lambda>" qual params body scope cl pm (.ref c') ctv) ⟨[u],[]⟩=pure [(x,u)])
  (he:PE (cxL X A qual scope cl NC s.heap.objs.size f (.ref c') s H) body te) (hq:te (some v::gy σ idx) H Q) :
  wpAny (model X.prog X.w) A (call (.ref f) [u]) (λu' s'=>∃ v' H',Inv X pins σ H' s'∧RelV v' u'∧(∀ b xs,H b=some (.tup xs)→H' b=some (.tup xs))∧Q v' H') (λ_ _=>False) s:=by
 refine wpAny_call (PySem.W.kla_callFunE hr.depth hf rfl c.co c.gen rfl hcd ?_);rw[hb u];refine wpAny_pure (wpAny_newFunctionEnv c.j5 (λy hy=>by rw[JO.mp hy];exact c.xl) (λh₁ hns hsb=>⟨I.nolimit.fresh _ hsb,?_⟩) c.kind);show codeAny _ _ (.expr body (envX qual scope s.heap.objs.size f (.ref c') cl)) _ _;have kp:∀ b o,s.heap.get? b=some o→h₁.get? b=some o:=λb o e=>hsb.extBut b o (Kb (JY e)) (JQ _ e);have I1:=AE (qual:=qual) (f:=f) (cd:=.ref c') (t':=s.toks+1) c I hA hr.hd rv hns kp;refine PySem.W.kla_codeExpr (wpAny_mono (he [] _ _ H Q I1 hq) (λu' s' ⟨v',H',I',r',q'⟩=>?_) λ_ _ z=>z.elim);exact⟨v',H',I.mS (ch:=[]) I'.os I'.base I'.hok I'.bare (λb hb=>(by cases hb)),r',I'.base.ku,q'⟩
theorem x9{params:Arguments}{body:Expr}{lS:Pos}{cc Pt:Addr}{ps:Array Value}{Q:Value→Shared→Prop}(c:uk X scope cl x idx NC)(pJ:X.env.code=.ref cc)(T:nr X.K X.mg X.base cc Pt)(I:Inv X pins σ H s)(hP:H Pt=some (.tbl ps))(ht:TriplesOk ps.toList)(hnf:codeAmong lS ps.toList=none)
  (Gh:defaultsOf params X.env=([],[]))
  (q:∀(f c':Addr) (oc:Obj) (pm ctv:Value) (ps':Array Value) (s':Shared),Inv X ((f,kla_obj "<lambda>" (X.env.qual ++ "<lambda>") params body scope cl pm c' ctv)::(c',oc)::pins) σ (upd H Pt (.tbl ps')) s'→s'.heap.CodeRec (.ref c') (X.env.qual ++ "<lambda>")→Q (.ref f) s') :
  wpAny (model X.prog X.w) X.A (eval (.Lambda params body scope lS) X.env) Q X.xe s:=by
 have hP':s.heap.get? Pt=some (tabObj ps):=I.hok Pt _ hP;have bm':s.heap.BuiltinsAt X.mg Pt:=let ⟨bm,ob,a1,a2,a3,a4,a5,a6⟩:=T.bm;⟨bm,ob,a1,a2,a3,a4,I.bk _ _ a5,a6⟩;refine PySem.W.kla_eval Gh (PySem.W.kla_makeFunction (mg:=X.mg) c.xJ I.ok.glob (I.mod.glob.keeps I.bk) pJ (T.cd.keeps I.bk) hP' ht hnf T.ne bm' λc' ctv h' tk hx hge hlt hrec htb=>?_);obtain⟨c2,oc,vs,t,e2,hoc,hd,hv⟩:=hrec;cases e2;have nP:∀ b u,b≠Pt→s.heap.get? b=some u→h'.get? b=some u:=λb u hb e=>hx b u hb e;have tr:∀ b,H b=none→b≠Pt:=λb n z=>by rw[z,hP]at n;cases n
 have ltP:Pt<s.heap.objs.size:=JY hP';have hsz:s.heap.objs.size≤h'.objs.size:=Ko hge (Lx hlt);generalize hpm:(X.mg "__name__").getD .none=pm;obtain⟨of,hof⟩:∃ of,of=kla_obj "<lambda>" (X.env.qual ++ "<lambda>") params body scope cl pm c' ctv:=⟨_,rfl⟩;have Ib:(kla_obj "<lambda>" (X.env.qual ++ "<lambda>") params body scope cl pm c' ctv)=of:=hof.symm;have kp:∀ b u,b≠Pt→s.heap.get? b=some u→(h'.push of).get? b=some u:=λb u hb e=>JQ _ (nP b u hb e);have I2:Inv X pins σ (upd H Pt (.tbl (ps++#[rawInt lS.line,rawInt lS.col,.ref c']))) {s with heap:=h'.push of,toks:=tk}:=by
  refine I.step (g':=s.gens) (d':=s.drawn) (ch:=[]) (λ_ z=>nomatch z) (λb o _ _ _ e n=>kp b o (tr b n) e) (λb o _ _ _ e n=>⟨o.slots,kp b o (tr b n) e⟩) (λb o _ e n=>by rw[aj (tr b n)];exact n) (λb o _ e=>?_)
   (λb xs e=>by rw[aj (cG e hP (by simp))];exact e) (λb o u e=>by rw[aj (cG e hP (by simp))];exact e) (λb qs e=>?_) (λm hm=>?_) (λb u e=>?_) I.bare
  ·by_cases hb:b=Pt
   ·subst hb;exact⟨_,JQ _ htb⟩
   ·exact⟨o,kp b o hb e⟩
  ·by_cases hb:b=Pt
   ·subst hb
    rw[hP]at e;cases e;exact⟨_,ae⟩
   ·exact⟨#[],by rw[aj hb,e];simp⟩
  ·obtain⟨o,es,ep,ho,r⟩:=hm
   exact⟨o,es,ep,kp _ o (tr _ I.free) ho,r⟩
  ·by_cases hb:b=Pt
   ·subst hb
    rw[ae]at e;cases e;show(h'.push of).get? b=some _;exact JQ _ htb
   ·rw[aj hb]at e
    refine(I.hok b u e).pL (λz w hz r=>kp z w ?_ r) (λz r=>by rw[aj (cG r hP (by simp))];exact r) λz xs r=>by rw[aj (cG r hP (by simp))];exact r
    rcases hz with rfl|hz
    ·exact hb
    ·exact cG hz hP (by simp)
 have fr:∀ a,s.heap.objs.size≤a→upd H Pt (.tbl (ps++#[rawInt lS.line,rawInt lS.col,.ref c'])) a=none:=λa ha=>by
  rw[aj (KR (J8 ltP ha))];exact I.hok.fresh ha
 have nl:∀ a,s.heap.objs.size≤a→a≠X.env.locals:=λa ha=>KR (J8 I.lt ha);rw[Ib];refine q h'.objs.size c' oc pm ctv (ps++#[rawInt lS.line,rawInt lS.col,.ref c']) _ ?_ ⟨c',oc,vs,t,rfl,JQ _ hoc,hd,hv⟩;refine Inv.CO (Inv.CO I2 (JQ _ hoc) (fr _ hge) (nl _ hge) (I.zS hge) (λv z=>by rw[hd]at z;cases z)) ?_ (fr _ hsz) (nl _ hsz) (I.zS hsz) (λv z=>by cases z);rw[Ib];exact Kk _ (by rw[hof];rfl)
end
end L2
end
section
namespace L2
open PySem PySem.Spec PyProof.Rows LX
open PySem.W (CodeHd tabObj envX kla_obj kla_fn)
section
variable{P:Program}{w:World}{A:Around}{E:Value→Shared→Prop}{s:Shared}
theorem rJ{r:Addr}{n:Nat}{t u v:Tok}{R:List Value→Shared→Prop}(hh:A.handled=none)(hr:s.heap.get? r=some {cls:=.type "range",data:=.fields #[.int 0 t,.int n u,.int 1 v]})(hn:n≤63)
  (h:∀(h':Heap) (tk:Nat) (acc:Array Value),(∀ b o,s.heap.get? b=some o→h'.get? b=some o)→ItemsOf (λi v=>∃ t,v=.int ((0:Int)+i*1) t) acc n→R acc.toList {s with heap:=h',toks:=tk}) :
  wpAny (model P w) A (collect (.ref r)) R E s:=by
 have hlt:=JY hr;unfold collect;refine wpAny_bind (wpAny_runValue (codeAny_builtin PySem.F.entry_proto_collect ?_));rw[Around.under_plainId PySem.F.plain_proto_collect _];show wpAny _ A.in1 (newList [] >>= λl=>again (.builtin "list.__iadd__" ⟨[l,.ref r],[]⟩)) _ _ s;refine wpAny_bind (wpAny_newObj_type ?_);refine wpAny_pure ⟨plainId_quiet PySem.F.plain_list_iadd _,codeAny_builtin PySem.F.entry_list_iadd ?_⟩;rw[Around.under_plainId PySem.F.plain_list_iadd _];have hS₁:(s.heap.push {cls:=.type "list",data:=.seq ([]:List Value).toArray}).get? s.heap.objs.size=some {cls:=.type "list",data:=.seq #[]}:=Kk _ rfl;show wpAny _ A.in1 (Builtin.List.listExtendWith (.ref s.heap.objs.size) (.ref r) (.ref s.heap.objs.size)) _ _ _;have hz:Builtin.Range.rangeSize 0 n 1=n:=by
  unfold Builtin.Range.rangeSize;simp only[show((1:Int)>0)=True from eq_true (by decide),if_true];by_cases h0:(0:Int)<n
  ·rw[if_pos h0];simp only[Int.ediv_one];omega
  ·rw[if_neg h0];omega
 have hsm:Builtin.Range.small 0 n 1=true:=by
  unfold Builtin.Range.small;rw[hz];have fl:∀ i:Int,0≤i→i≤63→Builtin.Range.rangeFitsLong i=true:=λi h1 h2=>by
   unfold Builtin.Range.rangeFitsLong;simp;omega
  have hn':(n:Int)≤63:=by exact_mod_cast hn
  have h0:(0:Int)≤n:=Int.natCast_nonneg n;rw[fl 0 (by decide) (by decide),fl n h0 hn',fl 1 (by decide) (by decide),if_pos (by decide),fl (n+(1-1)) (by omega) (by omega)];simp
 have key:=wpAny_extend_range (prog:=P) (w:=w) (A:=A) (s:={s with heap:=s.heap.push {cls:=.type "list",data:=.seq ([]:List Value).toArray}})
  (R:=λ(q:Result) (s':Shared)=>∃(h':Heap) (tk:Nat) (um:Array Value) (c':Nat),q=.ok (.ret (.ref s.heap.objs.size))∧s'={s with heap:=h',toks:=tk} ∧
   (∀ b o,s.heap.get? b=some o→h'.get? b=some o)∧h'.get? s.heap.objs.size=some {cls:=.type "list",dict:=none,data:=.seq um c',slots:=#[]}∧ItemsOf (λi v=>∃ t,v=.int ((0:Int)+i*1) t) um n)
  hh (JQ _ hr) hsm hz (by omega) s.heap.objs.size (.ref s.heap.objs.size) 0 hS₁
  (λh' tk um c' hk hS' uo=>⟨h',tk,um,c',rfl,rfl,λb o e=>hk b o (Kb (JY e)) (JQ _ e),hS',uo⟩)
 refine wpAny_mono key (λfin s' x=>?_) λe s' x=>?_
 ·cases fin with
  | done f =>
   obtain⟨h',tk,um,c',e,rfl,hk,hS',uo⟩:=x;cases e;exact wpAny_bind (wpAny_load hS' (wpAny_pure (h h' tk um hk uo)))
  | again c' =>
   refine⟨x.1,codeAny_mono x.2 λq s2 y=>?_⟩;obtain⟨h',tk,um,c',e,rfl,hk,hS',uo⟩:=y;cases e;exact wpAny_bind (wpAny_load hS' (wpAny_pure (h h' tk um hk uo)))
 ·obtain⟨h',tk,um,c',e,_⟩:=x
  cases e
end
section
variable{X:Cx}{pins:List (Addr×Obj)}{σ:St}{H:Hp}{s:Shared}
def GW(X:Cx)(A:Around)(f:Addr)(n:Nat)(W:Hp→Prop)(PN:List (Addr×Obj))(σ:St):Prop:=∀(k:Nat) (t:Tok) (pins:List (Addr×Obj)) (H:Hp) (s:Shared),k<n→W H→(∀ p∈PN,p∈pins)→Inv X pins σ H s →
 wpAny (model X.prog X.w) A (call (.ref f) [.int k t]) (λu s'=>∃ H',Inv X pins σ H' s'∧W H'∧(∀ b xs,H b=some (.tup xs)→H' b=some (.tup xs))∧∃ q a b,u=.ref q∧H' q=some (.tup [.int a,.int b])) (λ_ _=>False) s
def PrK(H:Hp)(v:Value):Prop:=∃ q a b,v=Value.ref q∧H q=some (.tup [.int a,.int b])
def vm(vs:List Value)(n:Nat):Prop:=vs.length=n∧∀ i,i<n→∃ t,vs.getD i Value.none=.int (i:Int) t
theorem pX{vs:List Value}{n:Nat}(h:vm vs n):∀(ks:List Nat),(∀ k∈ks,k<n)→Vals (ks.map λi:Nat=>V.int (i:Int)) (ks.map λi:Nat=>vs.getD i Value.none)
 | [],_=>.nil
 | k::ks,hk=>.cons (let ⟨t,e⟩:=h.2 k (hk k JW);⟨t,e⟩) (pX h ks λk m=>hk k (JT _ m))
theorem ya{A:Around}{E:Value→Shared→Prop}{F:PySem.Fin→Shared→Prop}{n e0:Nat}{f a:Addr}{W:Hp→Prop}{vs:List Value}{PN:List (Addr×Obj)}(hK:GW X A f n W PN σ)(hs:∀ p∈PN,p∈pins)(hi:vm vs n)(hn:n≤63)(w0:W H)
  (I:Inv X ((a,seqObj "list" vs.toArray e0)::pins) σ H s) (ow:X.s₀.heap.objs.size≤a) (na:∀ p∈X.pn++pins,p.1≠a)
  (q:∀(H':Hp) (s':Shared) (ks:List Nat),W H'→H' a=none→ks.Perm (List.range n)→Inv X pins σ (upd H' a (.lst (ks.map λi:Nat=>V.int (i:Int)))) s'→F (.done (.ret .none)) s') :
  wpAny (model X.prog X.w) A (ksk_tree a (.ref f) false) F E s:=by
 have zl:∀ m:Nat,m≤64→m≤sizeLine:=λm h=>by rw[sizeLine_eq];omega
 have lv:=hi.1;obtain⟨ga,_,_⟩:=I.pin _ (JP _ JW);have alt:a<s.heap.objs.size:=JY ga;unfold ksk_tree;refine wpAny_bind (listItems_at ga rfl ?_);refine wpAny_bind (listUpdate_at ga rfl ?_ (zl _ (by rw[JV];omega)) (Kh _));have s1:=K4 s.heap a (Obj.mapSeq λ_=>(#[]:Array Value));obtain⟨e1,g1⟩:∃ e1,(s.heap.update a (Obj.mapSeq λ_=>(#[]:Array Value))).get? a=some (seqObj "list" #[] e1):=⟨_,get?_update_seq ga λ_=>#[]⟩;have I1:Inv X ((a,seqObj "list" #[] e1)::pins) σ H {s with heap:=s.heap.update a (Obj.mapSeq λ_=>(#[]:Array Value))}:=I.zH (t':=s.toks) s1 g1 ow na (λv z=>by cases z);refine wpAny_bind (seqEpoch_at g1 rfl ?_);refine wpAny_bind (wpAny_newTuple ?_ (zl _ (by show vs.length≤_;omega)));refine wpAny_bind (wpAny_newList ?_ (Kh _));refine wpAny_holding ?_;obtain⟨h2,eh2⟩:∃ h2,(s.heap.update a (Obj.mapSeq λ_=>(#[]:Array Value))).push (seqObj "tuple" vs.toArray 0)=h2:=⟨_,rfl⟩;have k2:∀ b o,(s.heap.update a (Obj.mapSeq λ_=>(#[]:Array Value))).get? b=some o→(h2.push (seqObj "list" #[] 0)).get? b=some o:=λb o e=>by
  rw[←eh2];exact JQ _ (JQ _ e)
 have hsz:(s.heap.update a (Obj.mapSeq λ_=>(#[]:Array Value))).objs.size≤h2.objs.size:=by
  rw[←eh2,size_push'];exact Lo _
 show wpAny (model X.prog X.w) A _ F E {s with heap:=((s.heap.update a (Obj.mapSeq λ_=>(#[]:Array Value))).push (seqObj "tuple" vs.toArray 0)).push (seqObj "list" #[] 0)};show wpAny (model X.prog X.w) A (ksk_rest a (.ref f) false vs.toArray e1 (.ref ((s.heap.update a (Obj.mapSeq λ_=>(#[]:Array Value))).push (seqObj "tuple" vs.toArray 0)).objs.size)) F E _;rw[eh2];have I2:Inv X ((a,seqObj "list" #[] e1)::pins) σ H {s with heap:=h2.push (seqObj "list" #[] 0)}:=I1.kept (t':=s.toks) k2;generalize hkS:h2.objs.size=kS at *;have I3:Inv X ((kS,seqObj "list" #[] 0)::(a,seqObj "list" #[] e1)::pins) σ H {s with heap:=h2.push (seqObj "list" #[] 0)} :=
  I2.CO (by rw[←hkS];exact Kk _ rfl) (I1.hok.fresh hsz) (KR (J8 I1.lt hsz)) (I1.zS hsz) (λv z=>by cases z)
 have nk:∀ p∈X.pn++((a,seqObj "list" #[] e1)::pins),p.1≠kS:=I1.CP hsz;have owk:X.s₀.heap.objs.size≤kS:=Ko I1.sz hsz;clear I2 k2;unfold ksk_rest;refine wpAny_bind (wpAny_rule ?_);rw[List.forIn_toArray];refine wpAny_bind (ksk_fold (λi s'=>∃(H':Hp) (ks:List Value) (e:Nat),Inv X ((kS,seqObj "list" ks.toArray e)::(a,seqObj "list" #[] e1)::pins) σ H' s'∧W H'∧ks.length=i∧∀ v∈ks,PrK H' v) vs 0 _ ⟨H,[],0,I3,w0,rfl,λv m=>nomatch m⟩ ?_ ?_)
 ·rintro j x s' hx ⟨H',ks,e,I',w',lk,hk⟩
  have hj:j<n:=by rw[←lv];exact(JN.mp hx).1
  obtain⟨t,et⟩:=hi.2 j hj;have ex:x=.int (j:Int) t:=by rw[←et,Ki,hx];rfl
  subst ex;refine wpAny_bind (wpAny_attempt (wpAny_mono (hK j t _ H' s' hj w' (λp hp=>JT _ (JT _ (hs p hp))) I') (λu s2 ⟨H2,I2,w2,tu,q',a',b',eu,hq'⟩=>?_) λ_ _ z=>z.elim));obtain⟨gk,_⟩:=I2.pin _ (JP _ JW)
  try dsimp only
  have lz:ks.length≤63:=by omega
  refine wpAny_bind (listUpdate_at gk rfl ?_ (zl _ (by rw[JV];omega)) (Ko (Nat.le_of_eq (Array.size_push ..)) (by rw[JV,sizeLine_eq];omega)));refine wpAny_pure ⟨rfl,?_⟩;have s2b:=K4 s2.heap kS (Obj.mapSeq (·.push u));have ea:ks.toArray.push u=(ks++[u]).toArray:=by simp
  obtain⟨c2,hc2⟩:∃ c2,(s2.heap.update kS (Obj.mapSeq (·.push u))).get? kS=some (seqObj "list" (ks++[u]).toArray c2):=⟨_,by rw[←ea];exact get?_update_seq gk (·.push u)⟩;refine⟨H2,ks++[u],c2,I2.zH (t':=s2.toks) s2b hc2 owk nk (λv z=>by cases z),w2,by rw[JU,lk];simp,λv m=>?_⟩;rcases Ka.mp m with m|m
  ·obtain⟨q1,a1,b1,ev,h1⟩:=hk v m
   exact⟨q1,a1,b1,ev,tu _ _ h1⟩
  ·rw[JO.mp m]
   exact⟨q',a',b',eu,hq'⟩
 rintro s' ⟨H',ks,e,I',w',lk,hk⟩;rw[Nat.zero_add]at lk;obtain⟨gk,_,nlk,nfk,_⟩:=I'.pin _ (JP _ JW);obtain⟨ga',fa',nla,nfa,_⟩:=I'.pin _ (JP _ (JT _ JW));refine wpAny_bind (listItems_at gk rfl ?_);have nka:kS≠a:=λz=>nk (a,seqObj "list" #[] e1) (JP _ JW) z.symm;have nca:∀ x c,X.env.cells.lookup x=some c→c≠a:=λx c ec z=>by
  obtain⟨v,oc,h1,h2⟩:=I'.cell x c ec;rw[z]at h1;have h1':=h1.symm.trans ga';cases h1';cases h2
 have tail:∀(st:SortSt) (s2:Shared) (ps:List Nat),s2=s'→ps.Perm (List.range n)→(arrOf st).map (·.2)=List.toArray (ps.map λi:Nat=>vs.getD i Value.none)→failedOf st=none→wpAny (model X.prog X.w) A (ksk_tail a false e1 (.ref kS) st) F E s2:=by
  intro st s2 ps es hp Gi hf;rw[es];have lp:ps.length=n:=by rw[hp.length_eq,LB]
  have b1:=K4 s'.heap kS (Obj.mapSeq λ_=>(#[]:Array Value));have g2:(s'.heap.update kS (Obj.mapSeq λ_=>(#[]:Array Value))).get? a=some (seqObj "list" #[] e1):=(b1.2 a nka.symm).trans ga';obtain⟨ck,hck⟩:∃ ck,(s'.heap.update kS (Obj.mapSeq λ_=>(#[]:Array Value))).get? kS=some (seqObj "list" #[] ck):=⟨_,get?_update_seq gk λ_=>#[]⟩;have J1:=(I'.zH (t':=s'.toks) b1 hck owk nk (λv z=>by cases z)).xw.xw;have b2:=K4 (s'.heap.update kS (Obj.mapSeq λ_=>(#[]:Array Value))) a (Obj.mapSeq λ_=>List.toArray (ps.map λi:Nat=>vs.getD i Value.none));obtain⟨c2,hc2⟩:∃ c2,((s'.heap.update kS (Obj.mapSeq λ_=>(#[]:Array Value))).update a (Obj.mapSeq λ_=>List.toArray (ps.map λi:Nat=>vs.getD i Value.none))).get? a=some (seqObj "list" (List.toArray (ps.map λi:Nat=>vs.getD i Value.none)) c2):=⟨_,get?_update_seq g2 λ_=>List.toArray (ps.map λi:Nat=>vs.getD i Value.none)⟩;unfold ksk_tail
  try dsimp only
  rw[Gi];refine wpAny_bind (listUpdate_at gk rfl ?_ (zl _ (by rw[JV];omega)) (Kh _));refine wpAny_bind (wpAny_letGo ?_);refine wpAny_bind (seqEpoch_at g2 rfl ?_);refine wpAny_bind (listUpdate_at g2 rfl ?_ (Kh _) (by simp only[KC,if_false];rw[JV,JS,lp,sizeLine_eq];omega));rw[hf];simp only[bne_self_eq_false,KC,if_false];refine wpAny_pure (q H' _ ps w' fa' hp (J1.DK (t':=s'.toks) b2 fa' ow nla nca na ⟨_,hc2⟩ ⟨?_,_,c2,pX hi ps λk m=>?_,hc2⟩))
  ·rw[JS,lp];exact zl _ (by omega)
  ·exact Le.mp (hp.mem_iff.mp m)
 have zs:vs.toArray.size=n:=by simp[lv]
 show wpAny (model X.prog X.w) A (ksk_end a false vs.toArray e1 (.ref kS) ks.toArray) F E s';unfold ksk_end;simp only[KC,if_false];by_cases h2:vs.toArray.size<2
 ·rw[if_pos h2,if_pos h2]
  refine wpAny_bind (wpAny_pure ?_);rw[StateT.run_pure];refine wpAny_bind (wpAny_pure ?_)
  try dsimp only
  refine tail (SortSt.mk' general' (ks.toArray.zip vs.toArray) #[] 7 none) s' (List.range n) rfl (List.Perm.refl _) ?_ rfl;show(ks.toArray.zip vs.toArray).map (·.2)=_;apply Array.toList_inj.mp
  have e2:ks.length=vs.length:=by omega
  simp only[Array.toList_map,ksk_zip];rw[List.map_snd_zip (by omega)];apply LD
  intro i;rw[JZ];by_cases hin:i<n
  ·rw[List.getElem?_range hin]
   show vs[i]?=some (vs.getD i Value.none);rw[Ki,JM (by omega)];rfl
  ·rw[KS (by omega),KS (by rw[LB];omega)]
   rfl
 ·rw[if_neg h2,if_neg h2]
  have l2:2≤vs.length:=by omega
  have l2k:2≤ks.length:=by omega
  have hl:ks.length=vs.length:=by omega
  obtain⟨κ,k1,k2⟩:=wX (A:=A) I' (us:=ks) hk l2k;refine wpAny_bind (k1 _ _ ?_);refine wpAny_bind (wpAny_mono (PySem.W.kat_run (ks:=ks) (vs:=vs) (Q:=λst' s2=>s2=s'∧failedOf st'=none∧∃ ps:List Nat,ps.Perm (List.range n)∧(arrOf st').map (·.2)=List.toArray (ps.map λi:Nat=>vs.getD i Value.none)) (G:=λp s2=>s2=s'∧Pm n p) hl l2 (by omega)
   (λp st' s2 a1 a2 a3 ⟨a4,a5⟩=>⟨a4,a3,p.toList,by have:=Array.perm_iff_toList_perm.mp a5;simpa using this,PySem.W.kat_snds hl a2⟩) (by rw[lv];exact fA.wp (λi j h1 h2 C hC=>k2 i j (by omega) (by omega) C hC) (λp hp=>⟨rfl,hp⟩) (wY (by omega)))) ?_ λ_ _ e=>e)
  rintro⟨⟨⟩,st'⟩ s2 ⟨e2,hf,ps,hp,Gi⟩;exact tail st' s2 ps e2 hp Gi hf
end
end L2
end
section
namespace L2
open PySem PySem.Spec PyProof.Rows LX
open PySem.W (CodeHd tabObj envX kla_obj kla_fn)
def tSK(Pt:Addr)(idx:List Nat)(tr:TA)(te:TE):TE:=λσ H Q=>tr σ H λvs H1=>∃(r:Addr) (n:Nat),vs=[.ref r]∧H1 r=some (.rng 0 n)∧n≤63∧H1 Pt=some (.tbl #[])∧∃ W:Hp→Prop,(∀ ps,W (upd H1 Pt (.tbl ps))) ∧
 (∀(H2:Hp) (k:Nat),W H2→k<n→te (some (.int k)::gy σ idx) H2 λv H3=>W H3∧∃ q a b,v=.ref q∧H3 q=some (.tup [.int a,.int b])) ∧
 ∀(H2:Hp) (l:Addr) (ks:List Nat),W H2→H2 l=none→ks.Perm (List.range n)→Q (.ref l) (upd H2 l (.lst (ks.map λi:Nat=>V.int (i:Int))))
section
variable{X:Cx}
theorem uq{cc Pt:Addr}{p pos D5 lS:Pos}{e body:Expr}{params:Arguments}{scope:Scope}{cl:List (Str×Addr)}{x:Str}{idx:List Nat}{NC:List Str}{tr:TA}{te:TE}{k:Nat}(hr:f6 (k+4) X.A)(CQ:X.calm=true)(hg:Gl X "sorted")(hm:X.mg "sorted" = none)
  (ha:PA X [e] tr) (c:uk X scope cl x idx NC) (pJ:X.env.code=.ref cc) (T:nr X.K X.mg X.base cc Pt) (Gh:defaultsOf params X.env=([],[]))
  (hb:∀(pm ctv:Value) (c':Addr) (u:Value),bindArgs (kla_fn "<lambda>" (X.env.qual ++ "<lambda>") params body scope cl pm (.ref c') ctv) ⟨[u],[]⟩=pure [(x,u)])
  (he:∀(A:Around) (L f:Addr) (cd:Value) (s₀:Shared) (H₀:Hp),PE (cxL X A (X.env.qual ++ "<lambda>") scope cl NC L f cd s₀ H₀) body te)
  (hst:starEach [e] X.env=(false,eval e X.env)::starEach [] X.env:=by rfl)
  (hpl:((backTo pos (starEach [e] X.env)).any (·.1)||(backToKw pos (keywordEach [⟨some "key",.Lambda params body scope lS,D5⟩] X.env)).any (·.1.isNone))=false:=by rfl) :
  PE X (.Call (.Name "sorted" p) [e] [⟨some "key",.Lambda params body scope lS,D5⟩] pos) (tSK Pt idx tr te):=by
 intro pins s σ H Q I h;refine wpAny_Call_Name_kw (j2 I hg hm (show bootBuiltins "sorted" = some (.builtin "sorted") by kernel_rfl) ?_);refine PySem.W.callWith_of (P:=λ_=>True) hpl (λ_ _=>⟨.machine,.inr (.inl rfl),PySem.W.Looks.of_pure rfl⟩) (evalArgs_kw2 (by rfl) (thn (ha pos pins s σ H _ I h) λus s1 ⟨vs,H1,I1,rv,r,n,ev,hrg,hn,hPt,W,w1,wk,wq⟩=>?_) hst);subst ev;obtain⟨u,rfl,ru⟩:=rv.one;cases (show u=Value.ref r from ru);show wpAny _ _ (evalAll ((do let v ←eval (.Lambda params body scope lS) X.env;standAt pos;pure v)::[])) _ _ s1
 refine wpAny_evalAll_cons (wpAny_bind (x9 (ps:=#[]) c pJ T I1 hPt trivial rfl Gh λf c' oc pm ctv ps' s2 I2 hcd=>wpAny_bind (wpAny_standAt (wpAny_pure (wpAny_evalAll_nil ⟨trivial,?_⟩)))));show wpAny _ _ (call (.builtin "sorted") [.ref r] [(Str.ofString "key",.ref f)]) _ _ s2;have nrP:r≠Pt:=cG hrg hPt (by simp);have Jl:upd H1 Pt (.tbl ps') r=some (.rng 0 n):=by rw[aj nrP];exact hrg
 obtain⟨t0,t1,t2,hro⟩:=(show cw X.prog X.w _ s2.heap r (.rng 0 n) from I2.hok r _ Jl);have hh:X.A.in1.handled=none:=I.ok.hd CQ;refine call_function_entry_kw kind_sorted plain_sorted entry_sorted (ksk_s1 _ _) ?_;unfold Builtin.«sorted»;refine wpAny_bind (m:=checkCount "sorted" 1 1 _) (wpAny_pure ?_);refine wpAny_bind (rJ hh hro hn λh3 tk acc k3 uo=>?_);have Ic:acc.toList.length=n:=by rw[Ls];exact uo.1
 have hi:vm acc.toList n:=⟨Ic,λi hin=>by
  have hi':i<acc.size:=by rw[uo.1];exact hin
  obtain⟨t,et⟩:=uo.2 i acc[i] (Array.getElem?_eq_getElem hi');refine⟨t,?_⟩;rw[Ki,Array.getElem?_toList,Array.getElem?_eq_getElem hi',K7,et];congr 1
  omega⟩
 refine wpAny_bind (wpAny_newList ?_ (by rw[Ic,sizeLine_eq];omega));have I3:=I2.kept (h':=h3) (t':=tk) k3;have I4:=I3.kept (h':=h3.push (seqObj "list" acc.toList.toArray 0)) (t':=tk) λb o e=>JQ _ e;have I5:=I4.CO (a:=h3.objs.size) (o:=seqObj "list" acc.toList.toArray 0) (Kk _ rfl) (I3.hok.fresh (JR _)) (KR I3.lt) (I3.zS (JR _)) (λv z=>by cases z);obtain⟨gf,_⟩:=I5.pin _ (JP _ (JT _ JW));have gl:(h3.push (seqObj "list" acc.toList.toArray 0)).get? h3.objs.size=some (seqObj "list" acc.toList.toArray 0):=Kk _ rfl;refine wpAny_bind (wpAny_holding (wpAny_call_entry_kw slot_list_sort (self:=.ref h3.objs.size) (rest:=[]) ⟨_,gl,rfl⟩ entry_list_sort ?body (ksk_l1 _ _)));obtain⟨c2,oc2,vs2,tq,ec,hoc,hdc,hvq⟩:=hcd;cases ec;rw[ksk_t1];have hR:f6 (k+1) X.A.in1.in1:=⟨I.ok.hd CQ,by have:=hr.dp;show X.A.depth+3*(k+1)+5<_;omega,by have:=hr.un;show X.A.units+1+1+16*(k+1)+200<_;omega⟩;have hfr:X.A.in1.in1.frames=some X.stack:=I.ok.frames;obtain⟨pc,_⟩:=I2.pin (c',oc) (JP _ (JT _ JW));have eoc:oc2=oc:=Kq (hoc.symm.trans pc);subst eoc;refine ya (W:=W) (n:=n) (PN:=[(f,kla_obj "<lambda>" (X.env.qual ++ "<lambda>") params body scope cl pm c' ctv),(c',oc2)]) (λk' t qV H' s' hk hw hs I'=>?_) (λp hp=>?_) hi hn (w1 ps') I5 I3.sz (I3.CP (JR _)) λH' s' ks w' fa hp I'=>?_
 ·obtain⟨hf',_⟩:=I'.pin _ (JP _ (hs _ JW))
  obtain⟨hc',_⟩:=I'.pin _ (JP _ (hs _ (JT _ JW)));refine thn (AF (v:=.int k') c I' hfr hR ⟨t,rfl⟩ hf' ⟨c',oc2,vs2,tq,rfl,hc',hdc,hvq⟩ (hb pm ctv c') (he _ _ _ _ _ _) (wk H' k' hw hk)) λu s3 ⟨v',H3,J,rv',tu,w3,q',a',b',ev',hq'⟩=>?_;subst ev';cases (show u=Value.ref q' from rv');exact⟨H3,J,w3,tu,q',a',b',rfl,hq'⟩
 ·rcases Kc.mp hp with rfl|hp
  ·exact JW
  ·rw[JO.mp hp]
   exact JT _ JW
 ·refine⟨_,rfl,wpAny_pure ⟨_,rfl,.ref h3.objs.size,_,I'.xw.xw,rfl,wq H' _ ks w' fa hp⟩⟩
end
end L2
end
section
namespace L2
open PySem PySem.Spec PyProof.Rows LX
open PySem.W (CodeHd tabObj)
theorem Fun.okC{P:Program}{w:World}{K:W.Frag}{mg:Str→Option Value}{base:Heap}{x qual:Str}{st:Stmt}{f cc:Addr}{fd:FuncData}{N ps:List Str}{k:Nat}{sp:Sp}(F:Fun K x qual st f fd)(pJ:fd.code=.ref cc)(S:aK N ps (aq st))(len:∀ vs H Q E,sp vs H Q E→vs.length=ps.length)
  (ua:∀(A:Around) (outer:List Env) (s:Shared) (H:Hp) (vs:List V) (Q:VK) (E:XK),f6 k (A.deeper (envOfC qual (aq st) s.heap.objs.size f (.ref cc)))→sp vs H Q E →
   ∃ t,PSs (cxE P w K mg base N qual (aq st) f (.ref cc) A outer s H E) (fW st) t∧t {nx:=λ_ H'=>Q .non H',rt:=Q} (start N vs) H):kT P w K mg base (CXE P w) (k+1) f fd ps sp:=by
 obtain⟨oc,od,kV,doc,pm,an,cdv,ct,osl,rfl,lk,hcd⟩:=F.ex;obtain rfl:cdv=.ref cc:=pJ;exact AZ lk hcd S len λA outer s H vs Q E hr hsp=>ua A outer s H vs Q E hr hsp
def Gj(sc scope:Scope)(x:Str)(ns N:List Str)(idx:List Nat):Prop :=
 (∀ y∈scope.names,y.2≠.cell)∧scope.names.lookup x=some .local∧(∀ p∈scope.names,p.2=.cell∨p.2=.free→p.1∈ns) ∧
 ∀ i∈idx,i<N.length∧((sc.names.lookup (N.getD i x)=some .cell∨sc.names.lookup (N.getD i x)=some .free)∧(scope.names.lookup (N.getD i x)=some .cell∨scope.names.lookup (N.getD i x)=some .free))
instance (sc scope:Scope) (x:Str) (ns N:List Str) (idx:List Nat):Decidable (Gj sc scope x ns N idx):=by unfold Gj;infer_instance
theorem DL{X:Cx}{sc scope:Scope}{cl:List (Str×Addr)}{x:Str}{ns N:List Str}{idx:List Nat}(hsc:X.env.scope=sc)(hN:X.N=N)(hk:scope.kind=.function)(hco:scope.isCoroutine=false)(hge:scope.isGenerator=false)(p:Gj sc scope x ns N idx)(hn:cl.map (·.1)=ns)
  (ug:closureFor scope X.env=pure cl) (Az:∀ q∈cl,X.env.cells.lookup q.1=some q.2):uk X scope cl x idx (x::idx.map λi=>N.getD i x):=by
 obtain⟨p1,p3,p4,p6⟩:=p;subst hsc hN hn;refine⟨ug,λy c q=>Az (y,c) (Ks q),λy h=>?_,p1,hk,hco,hge,p3,rfl,p6⟩;refine gP ?_;rcases h with h|h
 ·exact p4 (y,.cell) (Ks h) (.inl rfl)
 ·exact p4 (y,.free) (Ks h) (.inr rfl)
theorem wZ{P:Program}{w:World}{K:W.Frag}{mg mb:Str→Option Value}{CX:CXT}{k:Nat}{fa a c Pt:Addr}{fd:FuncData}{x:Str}{sp:Sp}{s₁:Shared}{vs:List Value}{ns:List Int}
  (KX:K.In s₁.heap) (hns:s₁.heap.Ns mainGlobals mg) (hb:s₁.heap.Ns builtinsNs mb) (hbb:∀ x:Str,x ≠ "__name__" → mb x=bootBuiltins x) (Jm:s₁.heap.NoLimit) (hg:s₁.gens=#[])
  (ha:s₁.heap.get? a=some {cls:=.type "list",data:=.seq vs.toArray}) (hi:IntsAre vs ns) (hl:ns.length≤sizeLine) (hr:f6 k callerA)
  (hP:s₁.heap.get? Pt=some (tabObj #[])) (kP:K.lookup Pt=none) (hC:CodeHd s₁.heap c Pt) (hB:∃ bm ob,mg "__builtins__" = some (.ref bm)∧bm≠builtinsNs∧s₁.heap.get? bm=some ob∧ob.cls=.type "module" ∧ ob.dict=some builtinsNs∧ob.data=.plain)
  (F:∀ base:Heap,K.In base→base.Ns mainGlobals mg→nr K mg base c Pt→kT P w K mg base CX k fa fd [x] sp) (GX:∀(s:Shared) (u:Value),BindsTo s fd ⟨[u],[]⟩ [(x,u)])
  (hsp:∀ H:Hp,H Pt=some (.tbl #[])→SqL K H a (ns.map V.int)→sp [.ref a] H (λv _=>v=.bl true) λ_ _ _=>False)
  (hCX:∀ H e s',CX [] H s₁ (λ_ _ _=>False) e s'→False) :
  codeAny (model P w) callerA (.call (.ref fa) ⟨[.ref a],[]⟩) (λr s'=>r=.ok (.ret (.bool true))∧OldK s₁.heap s'.heap∧s'.os=s₁.os∧AllBare s'.gens) s₁:=by
 have rv:=pT hi;have Jn:=hi.length;have naP:a≠Pt:=λz=>by rw[z,hP]at ha;cases ha
 have core:∀ H:Hp,H Pt=some (.tbl #[])→SqL K H a (ns.map V.int)→HOk P w H s₁.heap→(∀ b,b≠Pt→H b=none∨(b=a∧∃ o xs,H b=some (.frz o (.lst xs))))→(H a≠none→K.lookup a=none) →
   codeAny (model P w) callerA (.call (.ref fa) ⟨[.ref a],[]⟩) (λr s'=>r=.ok (.ret (.bool true))∧OldK s₁.heap s'.heap∧s'.os=s₁.os∧AllBare s'.gens) s₁:=by
  intro H hT hS hok hA hK;have nu:∀ {b:Addr} {o:Obj},s₁.heap.get? b=some o→H b=none→(sV s₁.heap H).get? b=some o:=λe n=>xP e n;have no:∀ {b:Addr} {o:Obj},s₁.heap.get? b=some o→o.data≠.fields #[]→o.cls≠.type "list" → H b=none:=λ{b o} e d1 d2=>by
   by_cases hb:b=Pt
   ·subst hb;rw[hP]at e;cases e;exact absurd rfl d1
   ·rcases hA b hb with z|⟨z,_⟩
    ·exact z
    ·subst z;rw[ha]at e;cases e;exact absurd rfl d2
  have noA:∀ {b:Addr} {o:Obj} {es:Array DictEntry} {ep:Nat},s₁.heap.get? b=some o→o.data=.dict es ep→H b=none:=λ{b o es ep} e d=>by
   by_cases hb:b=Pt
   ·subst hb;rw[hP]at e;cases e;cases d
   ·rcases hA b hb with z|⟨z,_⟩
    ·exact z
    ·subst z;rw[ha]at e;cases e;cases d
  have nsK:∀ {b:Addr} {m:Str→Option Value},s₁.heap.Ns b m→(sV s₁.heap H).Ns b m:=λ{b m} ⟨o,es,ep,e,d,r⟩=>⟨o,es,ep,nu e (noA e d),d,r⟩;have hKb:K.In (sV s₁.heap H):=λb o e=>nu (KX b o e) (by
   by_cases hb:b=Pt
   ·subst hb;rw[kP]at e;cases e
   ·rcases hA b hb with z|⟨z,_,_,z2⟩
    ·exact z
    ·subst z
     rw[hK (by rw[z2];simp)]at e;cases e)
  have hgP:mainGlobals≠Pt:=λz=>by
   obtain⟨o,es,ep,e,hd,_⟩:=hns;rw[z,hP]at e;cases e;cases hd
  have Jo:nr K mg (sV s₁.heap H) c Pt:=by
   obtain⟨bm,ob,b1,b2,b3,b4,b5,b6⟩:=hB;obtain⟨o,vs',file,tf,flags,tg,inF,text,tt,e1,r1,r2,r3,r4⟩:=hC;refine⟨⟨o,vs',file,tf,flags,tg,inF,text,tt,nu e1 (no e1 (λz=>?_) (λz=>by rw[r1]at z;exact absurd z (by decide))),r1,r2,r3,r4⟩,hgP,bm,ob,b1,b2,λq=>?_,λq=>?_,nu b3 (no b3 (λz=>by rw[b6]at z;cases z) (λz=>by rw[b4]at z;exact absurd z (by decide))),b4,b5,b6⟩
   ·rw[r2]at z;cases z;cases r3
   ·obtain⟨o',es,ep,e,hd,_⟩:=hns
    rw[q,e]at b3;cases b3;rw[hd]at b6;cases b6
   ·rw[q,hP]at b3;cases b3;cases b4
  have hM:Mod K mg (sV s₁.heap H):=⟨hKb,nsK hns,⟨mb,nsK hb,hbb⟩,let ⟨mc,h1,h2⟩:=Jm;⟨mc,nsK h1,h2⟩⟩;have e0:xG P w K mg (sV s₁.heap H) callerA [] s₁ H:=⟨rfl,hM,λb o e=>zR e,Nat.le_of_eq (wm _ _),trivial,λb hb=>absurd (show b∈([]:List Addr) from hb) (by simp),hok,.of_eq hg⟩;refine codeAny_mono ((F _ hKb (nsK hns) Jo).run callerA [] s₁ H ⟨[.ref a],[]⟩ [.ref a] [.ref a] _ _ hr e0 (GX s₁ (.ref a)) (.cons rfl .nil) (hsp H hT hS)) λr s' h=>?_;cases r with
  | error e=>exact(hCX H e s' h).elim
  | ok fl =>
   cases fl with
   | next=>exact False.elim h
   | brk=>exact False.elim h
   | cont=>exact False.elim h
   | ret u =>
    obtain⟨v,H',os,bare,un,Ie,r',q⟩:=h;have q':v=.bl true:=q;subst q';obtain rfl:u=Value.bool true:=r';have kept:∀ b o,b≠Pt→s₁.heap.get? b=some o→s'.heap.get? b=some o:=λb o hb e=>by
     rcases hA b hb with z|⟨_,ob,xs,z⟩
     ·exact un.keep b o e z (by intro z;exact absurd (show b∈([]:List Addr) from z) (by simp)) (by simp)
     ·have z2:=un.lO b ob _ z
      obtain⟨e1,_⟩:=hok b _ z;obtain⟨e2,_⟩:=Ie b _ z2;rw[e]at e1;cases e1;exact e2
    obtain⟨more,hm⟩:=un.lP Pt #[] hT;have hm':s'.heap.get? Pt=some (tabObj (#[]++more)):=Ie Pt _ hm;refine⟨rfl,⟨λb o e=>?_,λb o e=>?_⟩,os,bare⟩
    ·by_cases hb:b=Pt
     ·subst hb
      rw[hP]at e;cases e;exact .inr (.inl ⟨(hC.tab hP).isCodeTable,rfl,#[],more,rfl,hm'⟩)
     ·exact .inl (kept b o hb e)
    ·by_cases hb:b=Pt
     ·subst hb;exact⟨_,hm'⟩
     ·exact⟨o,kept b o hb e⟩
 cases hk:K.lookup a with
 | some o =>
  have e:=KX a o hk;rw[ha]at e;cases e;refine core (λb=>if b=Pt then some (.tbl #[]) else none) (if_pos rfl) (.inr ⟨_,vs.toArray,_,hk,rfl,rfl,rfl,by rw[JV,Jn];exact hl,by simpa using rv⟩) (λb u z=>?_) (λb hb=>.inl (if_neg hb)) λz=>absurd (if_neg naP) z;by_cases hb:b=Pt
  ·have z':=(if_pos hb).symm.trans z
   cases z';subst hb;exact hP
  ·have z':=(if_neg hb).symm.trans z
   cases z'
 | none =>
  refine core (λb=>if b=Pt then some (.tbl #[]) else if b=a then some (.frz {cls:=.type "list",data:=.seq vs.toArray} (.lst (ns.map V.int))) else none) (if_pos rfl) (.inl (.inr ⟨{cls:=.type "list",data:=.seq vs.toArray},(if_neg naP).trans (if_pos rfl)⟩)) (λb u z=>?_) (λb hb=>?_) λ_=>hk
  ·by_cases hb:b=Pt
   ·have z':=(if_pos hb).symm.trans z
    cases z';subst hb;exact hP
   ·have z':=(if_neg hb).symm.trans z
    by_cases hb2:b=a
    ·have z2:=(if_pos hb2).symm.trans z'
     cases z2;subst hb2;exact⟨ha,by rw[JS];exact hl,vs,_,rv,ha⟩
    ·have z2:=(if_neg hb2).symm.trans z'
     cases z2
  ·by_cases hb2:b=a
   ·exact .inr ⟨hb2,_,_,(if_neg hb).trans (if_pos hb2)⟩
   ·exact .inl ((if_neg hb).trans (if_neg hb2))
theorem yc{l:PySem.W.OpenLaw}{n k:Nat}{q:Program}{loose:List Str}{XP:(Str→Option Value)→Heap→Prop}{YP:World→Heap→Prop}{d:DefRec}{K:Params→W.Frag}{CX:World→CXT}{sp:World→Sp}{x:Str}{c Pt:Addr}
  (hn:l.most=some n) (hn2:n≤sizeLine) (hdf:d.params.defaults=[]) (hr:f6 k callerA)
  (hY:∀(w:World) (h:Heap),YP w h→(K w.params).In h∧h.get? Pt=some (tabObj #[])∧CodeHd h c Pt) (kP:∀ w:World,(K w.params).lookup Pt=none)
  (F:∀(w:World) (mg:Str→Option Value) (fa:Addr) (h:Heap),(K w.params).In h→h.Ns mainGlobals mg→mg d.name=some (.ref fa) →
   ∃ fd:FuncData,(∀(s:Shared) (u:Value),BindsTo s fd ⟨[u],[]⟩ [(x,u)]) ∧
    ∀ base:Heap,(K w.params).In base→base.Ns mainGlobals mg→nr (K w.params) mg base c Pt→kT l.prog w (K w.params) mg base (CX w) k fa fd [x] (sp w))
  (hsp:∀(w:World) (H:Hp) (a:Addr) (ns:List Int),ns.length≤n→H Pt=some (.tbl #[])→SqL (K w.params) H a (ns.map V.int)→sp w [.ref a] H (λv _=>v=.bl true) λ_ _ _=>False)
  (hCX:∀(w:World) (H:Hp) (s:Shared) (e:Value) (s':Shared),CX w [] H s (λ_ _ _=>False) e s'→False) :
  PySem.W.WalkO q loose XP YP l.row.toRowW d [] (λf vs=>PySem.call f vs):=by
 refine Att.rE hn hdf λw s₀ s₁ mg mb fa o pm cd doc a vs ns G Y ho hd hcd hmg D7 hints hlen hg=>?_;obtain⟨KX,hP,hC⟩:=hY w _ Y;obtain⟨fd,hb,hF⟩:=F w mg fa _ KX G.T.g hmg;exact wZ KX G.T.g G.T.b G.T.builtins G.T.nolimit hg D7 hints (Ko hlen hn2) hr hP (kP w) hC G.T.bmain hF hb (λH hO hS=>hsp w H a ns hlen hO hS) λH e s'=>hCX w H s₁ e s'
end L2
end
section
namespace L2
open PySem PySem.Spec PyProof.Rows LX
section
variable{X:Cx}
theorem ur:je X (.type "int") (λxs H Q=>∃ b:Bool,xs=[.bl b]∧Q (.int (if b then 1 else 0)) H):=by
 rintro pins s σ H xs us Q I r ⟨b,rfl,q⟩;obtain⟨u,rfl,r1⟩:=r.one;cases r1;exact call_int_bool ⟨.int _,H,I.tok _,⟨_,rfl⟩,q⟩
end
inductive Vl where
 | a (v:V)
 | l (xs:List Vl)
 | t (xs:List Vl)
def Rp(H:Hp):Nat→V→Vl→Prop
 | 0,v,.a x=>v=x∧d3 x=true
 | 0,_,.l _=>False
 | 0,_,.t _=>False
 | _+1,v,.a x=>v=x∧d3 x=true
 | n+1,v,.l xs=>∃ p us,v=.ref p∧H p=some (.lst us)∧us.length=xs.length∧∀(i:Nat) (u:V) (x:Vl),us[i]?=some u→xs[i]?=some x→Rp H n u x
 | n+1,v,.t xs=>∃ p us,v=.ref p∧H p=some (.tup us)∧us.length=xs.length∧∀(i:Nat) (u:V) (x:Vl),us[i]?=some u→xs[i]?=some x→Rp H n u x
def eqD:Nat→Vl→Vl→Bool
 | _,.a x,.a y=>eqV x y
 | n+1,.l xs,.l ys=>(List.range xs.length).all (λi=>match xs[i]?,ys[i]? with|some x,some y=>eqD n x y|_,_=>true)&&xs.length == ys.length
 | n+1,.t xs,.t ys=>(List.range xs.length).all (λi=>match xs[i]?,ys[i]? with|some x,some y=>eqD n x y|_,_=>true)&&xs.length == ys.length
 | _,_,_=>false
theorem Rp.kY{H:Hp}{n:Nat}{v x:V}(h:Rp H n v (.a x)):v=x∧d3 x=true:=by cases n<;>exact h
theorem rp{n:Nat}{x y:V}:eqD n (.a x) (.a y)=eqV x y:=by cases n<;>rfl
theorem yW{H:Hp}{n:Nat}{us:List V}{xs ys:List Vl}(lx:us.length=xs.length)(ly:us.length=ys.length)(h:∀(i:Nat) (x y:Vl),xs[i]?=some x→ys[i]?=some y→eqD n x y=true) :
  ((List.range xs.length).all (λi=>match xs[i]?,ys[i]? with|some x,some y=>eqD n x y|_,_=>true)&&xs.length == ys.length)=true:=by
 rw[Lh];refine⟨K6.mpr λi hi=>?_,beq_iff_eq.mpr (by omega)⟩;have hi:=Le.mp hi;have e1:xs[i]?=some xs[i]:=JM hi;have e2:ys[i]?=some (ys[i]'(by omega)):=JM (by omega);simp only[e1,e2];exact h i _ _ e1 e2
theorem kl{H:Hp}:∀ {n:Nat} {v:V} {a b:Vl},Rp H n v a→Rp H n v b→eqD n a b=true:=by
 intro n;induction n with
 | zero =>
  intro v a b ha hb;cases a with
  | a x =>
   cases b with
   | a y =>
    obtain⟨rfl,fx⟩:=ha.kY;obtain⟨rfl,_⟩:=hb.kY;rw[rp];exact yT fx
   | l ys=>exact hb.elim
   | t ys=>exact hb.elim
  | l xs=>exact ha.elim
  | t xs=>exact ha.elim
 | succ n ih =>
  intro v a b ha hb;cases a with
  | a x =>
   obtain⟨rfl,fx⟩:=ha.kY;cases b with
   | a y =>
    obtain⟨rfl,_⟩:=hb.kY;rw[rp];exact yT fx
   | l ys =>
    obtain⟨p,us,rfl,_⟩:=hb;exact absurd (show false=true from fx) JX
   | t ys =>
    obtain⟨p,us,rfl,_⟩:=hb;exact absurd (show false=true from fx) JX
  | l xs =>
   obtain⟨p,us,rfl,hp,hl,hi⟩:=ha;cases b with
   | a y =>
    obtain⟨e,fy⟩:=hb.kY;rw[←e]at fy;exact absurd (show false=true from fy) JX
   | l ys =>
    obtain⟨q,ws,e,hq,ml,mi⟩:=hb;cases e;rw[hp]at hq;cases hq;exact yW (H:=H) hl ml λi x y e1 e2=>by
     have hiu:i<us.length:=(by rw[hl];exact(JN.mp e1).1);exact ih (hi i _ x (JM hiu) e1) (mi i _ y (JM hiu) e2)
   | t ys =>
    obtain⟨q,ws,e,hq,ml,mi⟩:=hb;cases e;rw[hp]at hq;cases hq
  | t xs =>
   obtain⟨p,us,rfl,hp,hl,hi⟩:=ha;cases b with
   | a y =>
    obtain⟨e,fy⟩:=hb.kY;rw[←e]at fy;exact absurd (show false=true from fy) JX
   | t ys =>
    obtain⟨q,ws,e,hq,ml,mi⟩:=hb;cases e;rw[hp]at hq;cases hq;exact yW (H:=H) hl ml λi x y e1 e2=>by
     have hiu:i<us.length:=(by rw[hl];exact(JN.mp e1).1);exact ih (hi i _ x (JM hiu) e1) (mi i _ y (JM hiu) e2)
   | l ys =>
    obtain⟨q,ws,e,hq,ml,mi⟩:=hb;cases e;rw[hp]at hq;cases hq
structure RcB(A:Around)(s:Shared)(u v:Value)(b:Bool):Prop where
 eq:SeqAt.RcAt A s u v b
 ne:SeqAt.RcNeAt A s u v (!b)
theorem pY{A:Around}{s:Shared}{y x:V}{u v:Value}(ry:RelV y u)(rx:RelV x v)(fy:d3 y=true)(fx:d3 x=true):RcB A s u v (eqV y x):=by
 cases y with
 | non =>
  cases ry;cases x with
  | non=>cases rx;exact⟨.none_none ,.none_none ⟩
  | bl b=>cases rx;exact⟨.none_bool b,.none_bool b⟩
  | int b=>obtain⟨t,rfl⟩:=rx;exact⟨.none_int b t,.none_int b t⟩
  | str b=>obtain⟨t,rfl⟩:=rx;exact⟨.none_str b t,.none_str b t⟩
  | _=>exact absurd (show false=true from fx) JX
 | bl a =>
  cases ry;cases x with
  | non=>cases rx;exact⟨.bool_none a,.bool_none a⟩
  | bl b=>cases rx;exact⟨.bool_bool a b,.bool_bool a b⟩
  | int b=>obtain⟨t,rfl⟩:=rx;exact⟨.bool_int a b t,.bool_int a b t⟩
  | str b=>obtain⟨t,rfl⟩:=rx;exact⟨.bool_str a b t,.bool_str a b t⟩
  | _=>exact absurd (show false=true from fx) JX
 | int a =>
  obtain⟨t',rfl⟩:=ry;cases x with
  | non=>cases rx;exact⟨.int_none a t',.int_none a t'⟩
  | bl b=>cases rx;exact⟨.int_bool a t' b,.int_bool a t' b⟩
  | int b=>obtain⟨t,rfl⟩:=rx;exact⟨.int_int a t' b t,.int_int a t' b t⟩
  | str b=>obtain⟨t,rfl⟩:=rx;exact⟨.int_str a t' b t,.int_str a t' b t⟩
  | _=>exact absurd (show false=true from fx) JX
 | str a =>
  obtain⟨t',rfl⟩:=ry;cases x with
  | non=>cases rx;exact⟨.str_none a t',.str_none a t'⟩
  | bl b=>cases rx;exact⟨.str_bool a t' b,.str_bool a t' b⟩
  | int b=>obtain⟨t,rfl⟩:=rx;exact⟨.str_int a t' b t,.str_int a t' b t⟩
  | str b=>obtain⟨t,rfl⟩:=rx;exact⟨.str_str a t' b t,.str_str a t' b t⟩
  | _=>exact absurd (show false=true from fx) JX
 | _=>exact absurd (show false=true from fy) JX
section
variable{X:Cx}{pins:List (Addr×Obj)}{σ:St}{H:Hp}{s:Shared}
theorem tL{A:Around}{x:V}{u:Value}{l:Addr}{items:Array Value}(rx:RelV x u)(fx:d3 x=true)(hl:s.heap.IsList l items)(hu:A.units<cLine):RcB A s u (.ref l) false∧RcB A s (.ref l) u false∧SeqAt.EqAt A s u (.ref l) false∧SeqAt.EqAt A s (.ref l) u false:=by
 cases x with
 | non=>cases rx;exact⟨⟨.none_list hl hu,.none_list hl hu⟩,⟨.list_none hl hu,.list_none hl hu⟩,.none_list hl hu,.list_none hl hu⟩
 | bl b=>cases rx;exact⟨⟨.bool_list _ hl hu,.bool_list _ hl hu⟩,⟨.list_bool _ hl hu,.list_bool _ hl hu⟩,.bool_list _ hl hu,.list_bool _ hl hu⟩
 | int n=>obtain⟨t,rfl⟩:=rx;exact⟨⟨.int_list _ _ hl hu,.int_list _ _ hl hu⟩,⟨.list_int _ _ hl hu,.list_int _ _ hl hu⟩,.int_list _ _ hl hu,.list_int _ _ hl hu⟩
 | str z=>obtain⟨t,rfl⟩:=rx;exact⟨⟨.str_list _ _ hl hu,.str_list _ _ hl hu⟩,⟨.list_str _ _ hl hu,.list_str _ _ hl hu⟩,.str_list _ _ hl hu,.list_str _ _ hl hu⟩
 | _=>exact absurd (show false=true from fx) JX
theorem tM{A:Around}{x:V}{u:Value}{l:Addr}{items:Array Value}(rx:RelV x u)(fx:d3 x=true)(hl:s.heap.IsTuple l items)(hu:A.units<cLine):RcB A s u (.ref l) false∧RcB A s (.ref l) u false∧SeqAt.EqAt A s u (.ref l) false∧SeqAt.EqAt A s (.ref l) u false:=by
 cases x with
 | non=>cases rx;exact⟨⟨.none_tuple hl hu,.none_tuple hl hu⟩,⟨.tuple_none hl hu,.tuple_none hl hu⟩,.none_tuple hl hu,.tuple_none hl hu⟩
 | bl b=>cases rx;exact⟨⟨.bool_tuple _ hl hu,.bool_tuple _ hl hu⟩,⟨.tuple_bool _ hl hu,.tuple_bool _ hl hu⟩,.bool_tuple _ hl hu,.tuple_bool _ hl hu⟩
 | int n=>obtain⟨t,rfl⟩:=rx;exact⟨⟨.int_tuple _ _ hl hu,.int_tuple _ _ hl hu⟩,⟨.tuple_int _ _ hl hu,.tuple_int _ _ hl hu⟩,.int_tuple _ _ hl hu,.tuple_int _ _ hl hu⟩
 | str z=>obtain⟨t,rfl⟩:=rx;exact⟨⟨.str_tuple _ _ hl hu,.str_tuple _ _ hl hu⟩,⟨.tuple_str _ _ hl hu,.tuple_str _ _ hl hu⟩,.str_tuple _ _ hl hu,.tuple_str _ _ hl hu⟩
 | _=>exact absurd (show false=true from fx) JX
theorem lst_is(I:Inv X pins σ H s){p:Addr}{us:List V}(h:H p=some (.lst us)):∃ vs,Vals us vs∧s.heap.IsList p vs.toArray:=by
 obtain⟨vs,r,⟨o,n,e,c,_,g⟩,_⟩:=I.list (SqL.of h);exact⟨vs,r,o,e,c,n,g⟩
theorem tup_is(I:Inv X pins σ H s){p:Addr}{us:List V}(h:H p=some (.tup us)):∃ vs,Vals us vs∧s.heap.IsTuple p vs.toArray:=by
 obtain⟨vs,r,t,_⟩:=I.tuple (SqT.of h);exact⟨vs,r,t⟩
theorem rcG(I:Inv X pins σ H s):∀ {n:Nat} {x y:V} {a b:Vl},Rp H n x a→Rp H n y b→∀ {A:Around} {u v:Value},RelV x u→RelV y v→A.units+n<cLine →
  SeqAt.EqAt A s u v (eqD n a b)∧(¬((∃ z,a=.a z)∧∃ z,b=.a z)→RcB A s u v (eqD n a b)):=by
 intro n;induction n with
 | zero =>
  intro x y a b ha hb A u v rx ry hu;cases a with
  | a z =>
   cases b with
   | a z' =>
    obtain⟨rfl,fx⟩:=ha.kY;obtain⟨rfl,fy⟩:=hb.kY;rw[rp];exact⟨q9 rx ry fx fy,λh=>(h ⟨⟨_,rfl⟩,_,rfl⟩).elim⟩
   | _=>exact hb.elim
  | _=>exact ha.elim
 | succ n ih =>
  intro x y a b ha hb A u v rx ry hu;have hu0:A.units<cLine:=by omega
  cases a with
  | a z =>
   obtain⟨rfl,fx⟩:=ha.kY;cases b with
   | a z' =>
    obtain⟨rfl,fy⟩:=hb.kY;rw[rp];exact⟨q9 rx ry fx fy,λh=>(h ⟨⟨_,rfl⟩,_,rfl⟩).elim⟩
   | l ys =>
    obtain⟨q,ws,rfl,hq,_⟩:=hb;obtain⟨vs,_,hl⟩:=lst_is I hq;cases ry;obtain⟨h1,_,h3,_⟩:=tL rx fx hl hu0;exact⟨h3,λ_=>h1⟩
   | t ys =>
    obtain⟨q,ws,rfl,hq,_⟩:=hb;obtain⟨vs,_,hl⟩:=tup_is I hq;cases ry;obtain⟨h1,_,h3,_⟩:=tM rx fx hl hu0;exact⟨h3,λ_=>h1⟩
  | l xs =>
   have ha':=ha;obtain⟨p,us,rfl,hp,lx,hx⟩:=ha;obtain⟨vs,r1,hl⟩:=lst_is I hp;cases rx;cases b with
   | a z' =>
    obtain⟨rfl,fy⟩:=hb.kY;obtain⟨_,h2,_,h4⟩:=tL ry fy hl hu0;exact⟨h4,λ_=>h2⟩
   | l ys =>
    have hb':=hb;obtain⟨q,ws,rfl,hq,ly,hy⟩:=hb;obtain⟨vs2,r2,hl2⟩:=lst_is I hq;cases ry;have l1:=r1.length;have l2:=r2.length;have rc:RcB A s (.ref p) (.ref q) (eqD (n+1) (.l xs) (.l ys)):=by
     by_cases hs:xs.length=ys.length
     ·have he:∀ j (h1:j<vs.toArray.size) (h2:j<vs2.toArray.size),SeqAt.EqAt A.in1 s vs.toArray[j] vs2.toArray[j] (match xs[j]?,ys[j]? with|some x,some y=>eqD n x y|_,_=>true):=λj h1 h2=>by
       simp only[JV]at h1 h2;obtain⟨w1,z1,rz1⟩:=r1.get (i:=j) (x:=us[j]'(by omega)) (JM (by omega));obtain⟨w2,z2,rz2⟩:=r2.get (i:=j) (x:=ws[j]'(by omega)) (JM (by omega));have a1:vs.toArray[j]=w1:=by
        have:=(JN.mp z1).2
        simpa using this
       have a2:vs2.toArray[j]=w2:=by
        have:=(JN.mp z2).2
        simpa using this
       rw[a1,a2];have e1:xs[j]?=some (xs[j]'(by omega)):=JM (by omega);have e2:ys[j]?=some (ys[j]'(by omega)):=JM (by omega);simp only[e1,e2];exact(ih (hx j _ _ (JM (by omega)) e1) (hy j _ _ (JM (by omega)) e2) rz1 rz2 (by rw[Around.in1_units];omega)).1
      have e:eqD (n+1) (.l xs) (.l ys)=(List.range vs.toArray.size).all (λi=>match xs[i]?,ys[i]? with|some x,some y=>eqD n x y|_,_=>true):=by
       show(_&&_)=_;rw[beq_iff_eq.mpr hs,Bool.and_true];simp only[JV];rw[show vs.length=xs.length by omega]
      rw[e];exact⟨.lists hl hl2 (by simp only[JV];omega) hu0 he,.lists hl hl2 (by simp only[JV];omega) hu0 he⟩
     ·have e:eqD (n+1) (.l xs) (.l ys)=false:=by
       show(_&&_)=_;rw[beq_eq_false_iff_ne.mpr hs,K9]
      rw[e];exact⟨.lists_lengths hl hl2 (by simp only[JV,bne_iff_ne,ne_eq];omega) hu0,.lists_lengths hl hl2 (by simp only[JV,bne_iff_ne,ne_eq];omega) hu0⟩
    refine⟨?_,λ_=>rc⟩;by_cases e:p=q
    ·subst e
     rw[kl ha' hb'];exact .same _
    ·exact .of_refs e rc.eq
   | t ys =>
    obtain⟨q,ws,rfl,hq,ly,hy⟩:=hb;obtain⟨vs2,r2,hl2⟩:=tup_is I hq;cases ry;have ne:p≠q:=λe=>by rw[e,hq]at hp;cases hp
    exact⟨.of_refs ne (.list_tuple hl hl2 hu0),λ_=>⟨.list_tuple hl hl2 hu0,.list_tuple hl hl2 hu0⟩⟩
  | t xs =>
   have ha':=ha;obtain⟨p,us,rfl,hp,lx,hx⟩:=ha;obtain⟨vs,r1,hl⟩:=tup_is I hp;cases rx;cases b with
   | a z' =>
    obtain⟨rfl,fy⟩:=hb.kY;obtain⟨_,h2,_,h4⟩:=tM ry fy hl hu0;exact⟨h4,λ_=>h2⟩
   | l ys =>
    obtain⟨q,ws,rfl,hq,ly,hy⟩:=hb;obtain⟨vs2,r2,hl2⟩:=lst_is I hq;cases ry;have ne:p≠q:=λe=>by rw[e,hq]at hp;cases hp
    exact⟨.of_refs ne (.tuple_list hl hl2 hu0),λ_=>⟨.tuple_list hl hl2 hu0,.tuple_list hl hl2 hu0⟩⟩
   | t ys =>
    have hb':=hb;obtain⟨q,ws,rfl,hq,ly,hy⟩:=hb;obtain⟨vs2,r2,hl2⟩:=tup_is I hq;cases ry;have l1:=r1.length;have l2:=r2.length;have he:∀ j (h1:j<vs.toArray.size) (h2:j<vs2.toArray.size),SeqAt.EqAt A.in1 s vs.toArray[j] vs2.toArray[j] (match xs[j]?,ys[j]? with|some x,some y=>eqD n x y|_,_=>true):=λj h1 h2=>by
     simp only[JV]at h1 h2;obtain⟨w1,z1,rz1⟩:=r1.get (i:=j) (x:=us[j]'(by omega)) (JM (by omega));obtain⟨w2,z2,rz2⟩:=r2.get (i:=j) (x:=ws[j]'(by omega)) (JM (by omega));have a1:vs.toArray[j]=w1:=by
      have:=(JN.mp z1).2
      simpa using this
     have a2:vs2.toArray[j]=w2:=by
      have:=(JN.mp z2).2
      simpa using this
     rw[a1,a2];have e1:xs[j]?=some (xs[j]'(by omega)):=JM (by omega);have e2:ys[j]?=some (ys[j]'(by omega)):=JM (by omega);simp only[e1,e2];exact(ih (hx j _ _ (JM (by omega)) e1) (hy j _ _ (JM (by omega)) e2) rz1 rz2 (by rw[Around.in1_units];omega)).1
    have e:eqD (n+1) (.t xs) (.t ys)=((List.range (min vs.toArray.size vs2.toArray.size)).all (λi=>match xs[i]?,ys[i]? with|some x,some y=>eqD n x y|_,_=>true)&&vs.toArray.size == vs2.toArray.size):=by
     show(_&&_)=_;simp only[JV];by_cases hs:xs.length=ys.length
     ·rw[show min vs.length vs2.length=xs.length by omega,show(vs.length == vs2.length)=(xs.length == ys.length) by rw[show vs.length=xs.length by omega,show vs2.length=ys.length by omega]]
     ·rw[beq_eq_false_iff_ne.mpr hs,show(vs.length == vs2.length)=false from beq_eq_false_iff_ne.mpr (by omega),K9,K9]
    have rc:RcB A s (.ref p) (.ref q) (eqD (n+1) (.t xs) (.t ys)):=by
     rw[e];exact⟨.tuples hl hl2 hu0 he,.tuples hl hl2 hu0 he⟩
    refine⟨?_,λ_=>rc⟩;by_cases e:p=q
    ·subst e
     rw[kl ha' hb'];exact .same _
    ·exact .of_refs e rc.eq
end
def Jp(n:Nat):R2:=λx y H Q=>∃ a b,Rp H n x a∧Rp H n y b∧Q (.bl (eqD n a b)) H
def Jq(n:Nat):R2:=λx y H Q=>∃ a b,Rp H n x a∧Rp H n y b∧Q (.bl (!eqD n a b)) H
section
variable{X:Cx}
theorem yX{n:Nat}(hu:X.A.units+n<cLine):OpR X (compareOp .Eq) (Jp n):=by
 rintro pins s σ H x y v u Q I rx ry ⟨a,b,ha,hb,q⟩;by_cases h:(∃ z,a=.a z)∧∃ z,b=.a z
 ·obtain⟨⟨z,rfl⟩,z',rfl⟩:=h
  obtain⟨rfl,fx⟩:=ha.kY;obtain⟨rfl,fy⟩:=hb.kY;rw[rp]at q;exact(pY rx ry fx fy).eq _ _ _ _ ⟨.bl _,H,I,rfl,q⟩
 ·exact((rcG I ha hb rx ry hu).2 h).eq _ _ _ _ ⟨.bl _,H,I,rfl,q⟩
theorem lJ{n:Nat}(hu:X.A.units+n<cLine):OpR X (compareOp .NotEq) (Jq n):=by
 rintro pins s σ H x y v u Q I rx ry ⟨a,b,ha,hb,q⟩;by_cases h:(∃ z,a=.a z)∧∃ z,b=.a z
 ·obtain⟨⟨z,rfl⟩,z',rfl⟩:=h
  obtain⟨rfl,fx⟩:=ha.kY;obtain⟨rfl,fy⟩:=hb.kY;rw[rp]at q;exact(pY rx ry fx fy).ne _ _ _ _ ⟨.bl _,H,I,rfl,q⟩
 ·exact((rcG I ha hb rx ry hu).2 h).ne _ _ _ _ ⟨.bl _,H,I,rfl,q⟩
end
section
variable{X:Cx}{pins:List (Addr×Obj)}{σ:St}{H:Hp}{s:Shared}{d:Addr}{o:Obj}{u:HO}
theorem CS:∀ {ns:List Int} {us:List Value},Vals (ns.map V.int) us→∃ ps:List (Int×Tok),us=ps.map (λp=>Value.int p.1 p.2)∧ps.map (·.1)=ns
 | [],_,.nil=>⟨[],rfl,rfl⟩
 | n::r,_,.cons h t=>by
  obtain⟨k,rfl⟩:=h;obtain⟨ps,e,e2⟩:=CS t;exact⟨(n,k)::ps,by rw[e];rfl,by rw[Kz,e2]⟩
def GY(K:W.Frag):List V→Hp→VK→Prop:=λvs H Q=>∃(p:Addr) (ns:List Int),vs=[.ref p]∧SqL K H p (ns.map V.int)∧Q (.int ns.sum) H
theorem pZ(hc:X.calm=true):je X (.builtin "sum") (GY X.K):=by
 rintro pins s σ H xs us Q I r ⟨p,ns,rfl,hq,q⟩;obtain⟨u,rfl,ru⟩:=r.one;cases (show u=Value.ref p from ru);obtain⟨its,rv,⟨o,n,e1,e2,e3,e4⟩,hz⟩:=I.list hq;obtain⟨ps,e,ee⟩:=CS rv;have hl:s.heap.IsList p (intItems ps.toArray):=by
  refine⟨o,e1,e2,n,?_⟩;rw[e4,e];simp[intItems]
 have hs:preSum (numAt ps.toArray) ps.toArray.size=ns.sum:=by
  rw[preSum_eq];simp only[JV];rw[ee,J9 (by rw[←ee,JS];exact JR _)]
 refine sum_intListG (I.ok.hd hc) hl λh' tk t' hk=>⟨.int ns.sum,H,I.kept (t':=tk) hk,⟨t',by rw[hs]⟩,q⟩
end
theorem p7{d:Addr}{o:Obj}{kvs:List (Key×V)}{te:TE}{Q:VK}{D:Addr}{τ:St}{H:Hp}(Pv:Nat→List V→Hp→Prop)(h0:Pv 0 [] H)(hD:∀ i ys H,i≤kvs.length→Pv i ys H→H D=some (.lst ys)∧ys.length=i)(hl:∀ i ys H,i≤kvs.length→Pv i ys H→H d=some (.frz o (.dK kvs)))(hn:kvs.length≤sizeLine)
  (hs:∀ i p ys H,kvs[i]?=some p→Pv i ys H→te (some (kV p.1)::τ) H λv H4=>H4 D=some (.lst ys)∧Pv (i+1) (ys++[v]) (upd H4 D (.lst (ys++[v])))) (hd:∀ ys H,Pv kvs.length ys H→Q (.ref D) H):rk (Itd d o kvs) D τ te Q H:=by
 refine⟨λi m ys H=>m=kvs.length-i∧i≤kvs.length∧Pv i ys H,⟨kvs.length,by simp,Kh _,h0⟩,?_⟩;rintro i m ys H2 ⟨rfl,hi,p⟩;obtain⟨d1,d2⟩:=hD i ys H2 hi p;refine⟨d1,?_⟩;have hS:=hl i ys H2 hi p;by_cases hlt:i<kvs.length
 ·refine .inr ⟨⟨hS,hlt⟩,by omega,Pv (i+1),λzs H' p'=>⟨kvs.length-(i+1),by omega,rfl,hlt,p'⟩,λy H3 q=>?_⟩
  obtain⟨e1,q',e2,e3⟩:=q;subst e1 e3;exact hs i q' ys _ e2 p
 ·have e:i=kvs.length:=by omega
  subst e;exact .inl ⟨⟨hS,JR _⟩,hd ys H2 p⟩
section
variable{X:Cx}{i o:Expr}{ty td:TE}
end
section
variable{X:Cx}{K:W.Frag}
def GZ(K:W.Frag):List V→Hp→VK→Prop:=λxs H Q=>∃ p ys,xs=[V.ref p]∧(SqL K H p ys∨SqT K H p ys)∧Q (.int (ys.length:Int)) H
theorem p8(hK:X.K=K):je X (.builtin "len") (GZ K):=by
 subst hK;exact aL
end
section
variable{X:Cx}{o:Expr}{ta:TE}
end
end L2
end
section
namespace L2
open PySem PySem.Spec PyProof.Rows LX
section
variable{prog:Program}{w:World}{A:Around}{E:Value→Shared→Prop}{s:Shared}{a₀:Array Keyed}
end
section
variable{X:Cx}
end
end L2
end
section
namespace K42
open PySem L2 LX
abbrev dW:Stmt:=inClass (top 2) 0
abbrev kK:Stmt:=top 17
abbrev zI:Stmt:=top 19
abbrev iD:Stmt:=top 20
abbrev iZ:Stmt:=top 21
abbrev g4:Stmt:=top 22
abbrev gi:Stmt:=top 23
abbrev ir:Stmt:=top 25
abbrev gj:Stmt:=top 26
abbrev iy:Stmt:=top 27
abbrev gn:Stmt:=top 28
abbrev fB:Stmt:=top 29
abbrev g5:Stmt:=top 30
abbrev i3:Stmt:=top 31
abbrev eS:Stmt:=inClass (top 33) 0
abbrev g6:Stmt:=inClass (top 33) 1
abbrev i4:Stmt:=inClass (top 33) 2
abbrev iz:Stmt:=inClass (top 33) 3
abbrev cU:Stmt:=inClass (top 33) 5
abbrev i6:Stmt:=top 35
abbrev g7:Stmt:=top 36
abbrev fD:Stmt:=top 37
abbrev gp:Stmt:=top 38
abbrev cW:Stmt:=top 39
abbrev g8:Stmt:=top 40
abbrev f7:Stmt:=top 41
abbrev jK:Stmt:=top 42
abbrev i7:Stmt:=top 45
abbrev iE:Stmt:=top 46
abbrev jL:Stmt:=top 47
abbrev gQ:Stmt:=top 48
abbrev zJ:Stmt:=top 49
structure Ad where
 bG:Addr
 af:Addr
 au:Addr
 bh:Addr
 bj:Addr
 bT:Addr
 cQ:Addr
 bU:Addr
 bo:Addr
 bV:Addr
 bW:Addr
 bX:Addr
 bY:Addr
 aF:Addr
 aO:Addr
 ax:Addr
 aQ:FuncData
 dR:Addr
 gv:FuncData
 lg:Addr
 uu:FuncData
 dE:Addr
 gA:FuncData
 c7:Addr
 fP:FuncData
 bL:Addr
 eB:FuncData
 a7:Addr
 dq:FuncData
 fi:Addr
 jc:FuncData
 bC:Addr
 dY:FuncData
 bS:Addr
 d5:FuncData
 a8:Addr
 dr:FuncData
 bA:Addr
 dI:FuncData
 bM:Addr
 eC:FuncData
 c9:Addr
 fQ:FuncData
 aU:Addr
 cb:FuncData
 bB:Addr
 dj:FuncData
 b9:Addr
 dB:FuncData
 bE:Addr
 cX:FuncData
 az:Addr
 aS:FuncData
 de:Addr
 fR:FuncData
 bN:Addr
 eD:FuncData
 bO:Addr
 eE:FuncData
 bD:Addr
 dZ:FuncData
 cy:Addr
 d6:FuncData
 bP:Addr
 eF:FuncData
 cz:Addr
 fc:FuncData
 dF:Addr
 gB:FuncData
 df:Addr
 fS:FuncData
 dG:Addr
 gC:FuncData
 dH:Addr
 gD:FuncData
 dh:Addr
 fT:FuncData
 pK:Addr
 uv:FuncData
structure Txt(K:W.Frag)(mg:Str→Option Value)(D:Ad):Prop where
 h:∃ cd,ed K D.bG cd
 mH:mg "HeapError" = some (.ref D.bG)
 fE:mg "BadAddress" = some (.ref D.af)
 aE:Ay K D.af
 g9:MkX K D.af D.ax
 jt:PySem.W.kitOne K (.ref D.af) (.type "ValueError")=some true
 iU:∃ cd,ed K D.af cd∧cd.mro.contains (.ref D.bG)=true
 qa:mg "NoRoom" = some (.ref D.au)
 fO:Ay K D.au
 w4:MkX K D.au D.ax
 w6:PySem.W.kitOne K (.ref D.au) (.type "ValueError")=some true
 uw:∃ cd,ed K D.au cd∧cd.mro.contains (.ref D.bG)=true
 rK:mg "BadField" = some (.ref D.bh)
 rL:mg "BadCount" = some (.ref D.bj)
 ux:mg "BadHand" = some (.ref D.bT)
 w8:mg "BadLog" = some (.ref D.cQ)
 uy:mg "BadName" = some (.ref D.bU)
 rM:mg "BadPaper" = some (.ref D.bo)
 uz:mg "BadText" = some (.ref D.bV)
 uB:mg "BadView" = some (.ref D.bW)
 uC:mg "NoRound" = some (.ref D.bX)
 uD:mg "RoundOn" = some (.ref D.bY)
 lh:mg "TooManyWords" = some (.ref D.aF)
 cq:PySem.W.kitOne K (.ref D.af) (.ref D.bh)=some false
 cu:PySem.W.kitOne K (.ref D.af) (.ref D.bj)=some false
 cH:PySem.W.kitOne K (.ref D.af) (.ref D.bT)=some false
 cS:PySem.W.kitOne K (.ref D.af) (.ref D.cQ)=some false
 cI:PySem.W.kitOne K (.ref D.af) (.ref D.bU)=some false
 cv:PySem.W.kitOne K (.ref D.af) (.ref D.bo)=some false
 cJ:PySem.W.kitOne K (.ref D.af) (.ref D.bV)=some false
 cK:PySem.W.kitOne K (.ref D.af) (.ref D.bW)=some false
 cL:PySem.W.kitOne K (.ref D.af) (.ref D.bX)=some false
 cM:PySem.W.kitOne K (.ref D.af) (.ref D.bY)=some false
 br:PySem.W.kitOne K (.ref D.af) (.ref D.aF)=some false
 bJ:PySem.W.kitOne K (.ref D.af) (.ref D.af)=some true
 cT:PySem.W.kitOne K (.ref D.af) (.ref D.au)=some false
 eG:PySem.W.kitOne K (.ref D.au) (.ref D.bh)=some false
 eI:PySem.W.kitOne K (.ref D.au) (.ref D.bj)=some false
 eT:PySem.W.kitOne K (.ref D.au) (.ref D.bT)=some false
 fu:PySem.W.kitOne K (.ref D.au) (.ref D.cQ)=some false
 eU:PySem.W.kitOne K (.ref D.au) (.ref D.bU)=some false
 eJ:PySem.W.kitOne K (.ref D.au) (.ref D.bo)=some false
 eV:PySem.W.kitOne K (.ref D.au) (.ref D.bV)=some false
 eW:PySem.W.kitOne K (.ref D.au) (.ref D.bW)=some false
 eX:PySem.W.kitOne K (.ref D.au) (.ref D.bX)=some false
 eY:PySem.W.kitOne K (.ref D.au) (.ref D.bY)=some false
 dy:PySem.W.kitOne K (.ref D.au) (.ref D.aF)=some false
 dX:PySem.W.kitOne K (.ref D.au) (.ref D.af)=some false
 fv:PySem.W.kitOne K (.ref D.au) (.ref D.au)=some true
 qb:mg "Memory" = some (.ref D.aO)
 aI:Cls K D.aO
 jk:Mk K D.aO D.aU
 du:j4 K D.aO "cells"
 gq:Meth K D.aO "size" D.bB
 fe:Meth K D.aO "at" D.b9
 dJ:Meth K D.aO "put" D.bE
 d4:Meth K D.aO "look_at_address" D.az
 kL:mg "kind_of" = some (.ref D.dR)
 ig:PySem.W.keepIn K (.ref D.dR)=true
 G0:mg "lay" = some (.ref D.lg)
 zK:PySem.W.keepIn K (.ref D.lg)=true
 uE:mg "thing_at" = some (.ref D.dE)
 jM:PySem.W.keepIn K (.ref D.dE)=true
 rN:mg "fields_at" = some (.ref D.c7)
 i8:PySem.W.keepIn K (.ref D.c7)=true
 oh:mg "fields_told" = some (.ref D.bL)
 hJ:PySem.W.keepIn K (.ref D.bL)=true
 iV:mg "look_at_room" = some (.ref D.a7)
 eZ:PySem.W.keepIn K (.ref D.a7)=true
 yd:mg "copied" = some (.ref D.fi)
 nN:PySem.W.keepIn K (.ref D.fi)=true
 lU:mg "copied_words" = some (.ref D.bC)
 gr:PySem.W.keepIn K (.ref D.bC)=true
 jW:mg "things_met" = some (.ref D.bS)
 f9:PySem.W.keepIn K (.ref D.bS)=true
 iW:mg "address_told" = some (.ref D.a8)
 e7:PySem.W.keepIn K (.ref D.a8)=true
 ju:mg "words_among" = some (.ref D.bA)
 fF:PySem.W.keepIn K (.ref D.bA)=true
 oi:mg "places_from" = some (.ref D.bM)
 hU:PySem.W.keepIn K (.ref D.bM)=true
 kZ:mg "told_anew" = some (.ref D.c9)
 gR:PySem.W.keepIn K (.ref D.c9)=true
 rO:mg "_law_cell" = some (.ref D.de)
 i9:PySem.W.keepIn K (.ref D.de)=true
 oj:mg "_law_digits" = some (.ref D.bN)
 hV:PySem.W.keepIn K (.ref D.bN)=true
 om:mg "_law_stream" = some (.ref D.bO)
 hW:PySem.W.keepIn K (.ref D.bO)=true
 iX:mg "_law_word_by" = some (.ref D.bD)
 e9:PySem.W.keepIn K (.ref D.bD)=true
 qk:mg "_law_built" = some (.ref D.cy)
 iA:PySem.W.keepIn K (.ref D.cy)=true
 oq:mg "_law_memory" = some (.ref D.bP)
 hX:PySem.W.keepIn K (.ref D.bP)=true
 ff:mg "_law_words" = some (.ref D.cz)
 dC:PySem.W.keepIn K (.ref D.cz)=true
 uF:mg "_law_met" = some (.ref D.dF)
 jN:PySem.W.keepIn K (.ref D.dF)=true
 k4:mg "_law_word" = some (.ref D.df)
 gS:PySem.W.keepIn K (.ref D.df)=true
 uG:mg "_law_put" = some (.ref D.dG)
 jO:PySem.W.keepIn K (.ref D.dG)=true
 uH:mg "_law_bad" = some (.ref D.dH)
 jP:PySem.W.keepIn K (.ref D.dH)=true
 rP:mg "_law_good" = some (.ref D.dh)
 ja:PySem.W.keepIn K (.ref D.dh)=true
 JF:mg "law" = some (.ref D.pK)
 CT:PySem.W.keepIn K (.ref D.pK)=true
 fV:mg "len" = none
 fX:mg "range" = none
 iu:mg "list" = none
 nO:mg "sorted" = none
 xy:mg "sum" = none
 zL:mg "max" = none
 dD:mg "isinstance" = none
 zM:mg "int" = none
 eK:mg "enumerate" = none
 gb:mg "ValueError" = none
structure Ok(P:Program)(w:World)(K:W.Frag)(mg:Str→Option Value)(base:Heap)(n:Nat)(f:Addr)(fd:FuncData)(ps:List Str)(sp:Sp):Prop where
 g:kT P w K mg base (CXE P w) n f fd ps sp
 b:Binds K fd ps []
section
variable{P:Program}{w:World}{K:W.Frag}{mg:Str→Option Value}{base:Heap}{D:Ad}
theorem dO{t u:TS}{D:Ends}{σ:St}{H:Hp}(h:∀ N:St→Hp→Prop,(∀ σ' H',u D σ' H'→N σ' H')→t {D with nx:=N} σ H):Ha t u D σ H:=h (u D) (λ_ _ q=>q)
theorem yY{P:Program}{w:World}{X:Cx}:Passes (CXE P w) X (λ_ _ _=>False):=λ_ _ _ _ _ _ _ ⟨_,_,_,_,_,_,_,_,_,q⟩=>q.elim
theorem gw{H0 H:Hp}{K:W.Frag}{E E2:XK}{C:Addr}{y:Str}(ec:Ay K C)(h0:∀ b,H b=none→H0 b=none)(k:∀ H',ar H H'→E (.ref C) none H')(ea:Addr)(hea:H ea=none) :
  yR K [.ref ea,.str y] (upd H ea (exo true C ea none)) (λv H2=>v=.non∧(λ(v:V) (H1:Hp)=>∃ ea C od,v=.ref ea∧H1 ea=some (exo true C ea od)∧(∃ cd,ed K C cd)∧H0 ea=none∧E (.ref C) od (del H1 ea)) (.ref ea) H2) E2:=by
 refine⟨ea,C,none,.str y,rfl,ae,ec.cls,rfl,ea,C,none,rfl,ae,ec.cls,h0 _ hea,k _ λb o q=>?_⟩;have nb:b≠ea:=λe=>by rw[e,hea]at q;cases q
 rw[fZ nb,aj nb];exact q
def Bad(C:Addr)(H:Hp)(E:XK):Prop:=∀ H',ar H H'→E (.ref C) none H'
theorem Bad.same{C:Addr}{H H1:Hp}{E:XK}(k:Bad C H E)(s:ar H H1):Bad C H1 E:=λH' s'=>k H' (s.trans s')
def Sm(n:Int):Prop:=n.natAbs.log2<1920
theorem Sm.of{n:Int}(h0:-1000000≤n)(h1:n≤1000000):Sm n:=wU (Nat.lt_trans (show n.natAbs<2000000 by omega) (by decide))
theorem eL{xs:List V}{a:Int}{v:V}(h0:0≤a)(h:xs[a.toNat]?=some v):atI xs a=some v:=by
 have e:a=(a.toNat:Int):=by omega
 rw[e];exact vF h
theorem xA{n:Nat}{a:Int}(h0:0≤a)(h1:a<n):ixN n a=some a.toNat:=by
 unfold ixN;rw[if_pos h0,if_pos h1]
theorem bK{b:Bool}{A B:Prop}(h:b=false)(k:B):if b=true then A else B:=by rw[h];exact k
theorem bQ{b:Bool}{A B:Prop}(h:b=true)(k:A):if b=true then A else B:=by rw[h];exact k
def But(m:Addr)(H H':Hp):Prop:=∀ b u,b≠m→H b=some u→H' b=some u
theorem But.upd{m a:Addr}{H:Hp}{o:HO}(h:H a=none):But m H (L2.upd H a o):=λb u _ q=>by rw[aj (ai q h)];exact q
theorem But.self{m:Addr}{H:Hp}{o:HO}:But m H (L2.upd H m o):=λb u n q=>by rw[aj n];exact q
theorem But.trans{m:Addr}{H H1 H2:Hp}(a:But m H H1)(b:But m H1 H2):But m H H2:=λc u n q=>b c u n (a c u n q)
theorem But.same{m:Addr}{H H1:Hp}(s:ar H H1):But m H H1:=λb u _ q=>s b u q
theorem ar.none{H H':Hp}(s:ar H H'){b:Addr}(h:H' b=none):H b=none:=by
 cases q:H b with
 | none=>rfl
 | some u=>rw[s _ _ q]at h;cases h
inductive Mw where
 | no
 | num (n:Int)
 | ad (a:Int)
 | hd (t n:Int)
 | mv (a n:Int)
def Mw.its:Mw→List V
 | .no=>[]
 | .num n=>[.str "number",.int n]
 | .ad a=>[.str "at",.int a]
 | .hd t n=>[.str "head",.int t,.int n]
 | .mv a n=>[.str "moved",.int a,.int n]
def Mw.kind:Mw→Str
 | .no => "none"
 | .num _ => "number"
 | .ad _ => "at"
 | .hd _ _ => "head"
 | .mv _ _ => "moved"
def MV(H:Hp)(v:V)(w:Mw):Prop:=(w=.no∧v=.non)∨(w≠.no∧∃ t,v=.ref t∧H t=some (.tup w.its))
def bg(H H':Hp):Prop:=∀ t us,H t=some (.tup us)→H' t=some (.tup us)
theorem bg.of{H H':Hp}(s:ar H H'):bg H H':=λt us q=>s _ _ q
theorem bg.trans{H H1 H2:Hp}(a:bg H H1)(b:bg H1 H2):bg H H2:=λt us q=>b t us (a t us q)
theorem bg.set{H:Hp}{c:Addr}{xs:List V}{o:HO}(h:H c=some (.lst xs)):bg H (upd H c o):=λt us q=>by
 rw[aj (cG q h (by intro z;cases z))];exact q
theorem MV.keep{H H':Hp}{v:V}{w:Mw}(h:MV H v w)(s:bg H H'):MV H' v w:=by
 rcases h with h|⟨n,t,e,q⟩
 ·exact .inl h
 ·exact .inr ⟨n,t,e,s _ _ q⟩
def MR(H:Hp)(xs:List V)(ws:List Mw):Prop:=xs.length=ws.length∧∀(i:Nat) (v:V) (w:Mw),xs[i]?=some v→ws[i]?=some w→MV H v w
theorem MR.keep{H H':Hp}{xs:List V}{ws:List Mw}(h:MR H xs ws)(s:bg H H'):MR H' xs ws:=⟨h.1,λi v w a b=>(h.2 i v w a b).keep s⟩
theorem MR.get{H:Hp}{xs:List V}{ws:List Mw}(h:MR H xs ws){i:Nat}{w:Mw}(hw:ws[i]?=some w):∃ v,xs[i]?=some v∧MV H v w:=by
 have hi:i<xs.length:=by rw[h.1];exact(JN.mp hw).1
 exact⟨_,JM hi,h.2 i _ _ (JM hi) hw⟩
theorem MR.set{H:Hp}{xs:List V}{ws:List Mw}{i:Nat}{v:V}{w:Mw}(h:MR H xs ws)(hv:MV H v w):MR H (xs.set i v) (ws.set i w):=by
 refine⟨by rw[Kr,Kr];exact h.1,λj u y a b=>?_⟩;by_cases e:i=j
 ·subst e
  rw[LA]at a b;simp only[if_true]at a b;split at a
  ·split at b
   ·cases a;cases b;exact hv
   ·cases b
  ·cases a
 ·rw[KD e]at a b
  exact h.2 j u y a b
theorem MR.rep{H:Hp}{n:Nat}:MR H (List.replicate n .non) (List.replicate n .no):=⟨by rw[Ku,Ku],λi v w a b=>by
 rw[List.getElem?_replicate]at a b;split at a
 ·rename_i c
  rw[if_pos c]at b;cases a;cases b;exact .inl ⟨rfl,rfl⟩
 ·cases a⟩
structure Mm(D:Ad)(H:Hp)(m mx c:Addr)(xs:List V)(ws:List Mw):Prop where
 i:H m=some (.ins D.aO mx [("cells",.ref c)])
 l:H c=some (.lst xs)
 r:MR H xs ws
 z:ws.length≤10000
section
variable{D:Ad}{H H':Hp}{m mx c:Addr}{xs:List V}{ws:List Mw}
theorem Mm.same(M:Mm D H m mx c xs ws)(s:ar H H'):Mm D H' m mx c xs ws:=⟨s _ _ M.i,s _ _ M.l,M.r.keep (bg.of s),M.z⟩
theorem Mm.mc(M:Mm D H m mx c xs ws):m≠c:=cG M.i M.l (by intro z;cases z)
theorem Mm.set(M:Mm D H m mx c xs ws){i:Nat}{v:V}{w:Mw}(hv:MV H v w):Mm D (upd H c (.lst (xs.set i v))) m mx c (xs.set i v) (ws.set i w) :=
 ⟨by rw[aj M.mc];exact M.i,ae,(M.r.set hv).keep (bg.set M.l),by rw[Kr];exact M.z⟩
end
theorem ye(n:Nat):(List.replicate n [V.non]).flatten=List.replicate n .non:=by
 induction n with
 | zero=>rfl
 | succ n ih=>rw[KP,Ld,ih,KP];rfl
def thg(ws:List Mw)(a:Int):Option (Int×Int):=if 0≤a then(match ws[a.toNat]? with|some (.hd t n)=>if a+n<ws.length then some (t,n) else none|_=>none) else none
theorem km{ws:List Mw}{a t n:Int}(h:thg ws a=some (t,n)):0≤a∧ws[a.toNat]?=some (.hd t n)∧a+n<ws.length:=by
 unfold thg at h;split at h
 ·rename_i h0
  split at h
  ·rename_i t' n' e
   split at h
   ·rename_i hl
    cases h;exact⟨h0,e,hl⟩
   ·cases h
  ·cases h
 ·cases h
structure Gm(ws:List Mw):Prop where
 hd:∀ t n,Mw.hd t n∈ws→0≤n∧n≤1000
 mv:∀ a n,Mw.mv a n∈ws→Sm a
def iF(ws:List Mw):Nat→List Mw→List Mw
 | _,[]=>ws
 | i,u::r=>iF (ws.set i u) (i+1) r
theorem kM(ws:List Mw)(i:Nat)(us:List Mw):(iF ws i us).length=ws.length:=by
 induction us generalizing ws i with
 | nil=>rfl
 | cons u r ih=>unfold iF;rw[ih,Kr]
theorem nv(ws:List Mw)(i:Nat)(us:List Mw)(u:Mw):iF ws i (us++[u])=(iF ws i us).set (i+us.length) u:=by
 induction us generalizing ws i with
 | nil=>rfl
 | cons v r ih =>
  show iF (ws.set i v) (i+1) (r++[u])=(iF (ws.set i v) (i+1) r).set (i+(r.length+1)) u;rw[ih,show i+1+r.length=i+(r.length+1) by omega]
theorem yf(ws:List Mw)(i:Nat)(us:List Mw)(j:Nat)(hl:i+us.length≤ws.length):(iF ws i us)[j]?=if i≤j∧j<i+us.length then us[j-i]? else ws[j]?:=by
 induction us generalizing ws i with
 | nil=>rw[if_neg (by simp)];rfl
 | cons u r ih =>
  show(iF (ws.set i u) (i+1) r)[j]?=_;rw[Kv]at hl ⊢;rw[ih (ws.set i u) (i+1) (by rw[Kr];omega)];by_cases c:i=j
  ·subst c
   rw[if_neg (by omega),if_pos (by omega),KJ (by omega),K1];rfl
  ·by_cases d:i+1≤j∧j<i+1+r.length
   ·rw[if_pos d,if_pos (by omega),show j-i=(j-(i+1))+1 by omega,List.getElem?_cons_succ]
   ·rw[if_neg d,if_neg (by omega),KD c]
def layW(ws:List Mw)(a:Nat)(t:Int)(us:List Mw):List Mw:=iF (ws.set a (.hd t us.length)) (a+1) us
def lK(ws:List Mw)(a n:Nat):List Mw:=(ws.drop (a+1)).take n
abbrev iQ:List Str:=["self", "text"]
theorem iK:aK iQ ["self", "text"] (aq dW):=⟨rfl,rfl,rfl,by decide +kernel,rfl,by decide +kernel,by decide +kernel⟩
theorem iL(F:Fun K "__init__" "HeapError.__init__" dW D.ax D.aQ)(T:Txt K mg D):Ok P w K mg base 1 D.ax D.aQ ["self", "text"] (yR K):=by
 refine⟨?_,F.binds (ps:=["self", "text"]) λ_ _ _ _ _ _ us hl=>match us,hl with|[_,_],_=>rfl⟩
 refine F.okE iK (λvs H Q E h=>?_) (λcdv A' outer s' H vs Q E hr h=>?_)
 ·obtain⟨ea,C,od,x,rfl,_⟩:=h
  rfl
 ·obtain⟨ea,C,od,x,rfl,h1,hc,k⟩:=h
  refine⟨_,(ao (cB (GN rfl T.gb (aa (pv 0) (aa (pv 1) ah))))),?_⟩;exact⟨_,rfl,_,rfl,ea,C,od,[x],rfl,(by show 1≤1000;decide),h1,hc,k⟩
def nQ(D:Ad):Sp:=λvs H Q _=>∃ m dx,∃ n:Int,vs=[.ref m,.int n]∧H m=some (.ins D.aO dx [])∧0≤n∧n≤10000∧∀ c H',But m H H'→H c=none→Mm D H' m dx c (List.replicate n.toNat .non) (List.replicate n.toNat .no)→Q .non H'
abbrev jR:List Str:=["self", "size"]
theorem jE:aK jR ["self", "size"] (aq eS):=⟨rfl,rfl,rfl,by decide +kernel,rfl,by decide +kernel,by decide +kernel⟩
theorem jF(F:Fun K "__init__" "Memory.__init__" eS D.aU D.cb)(T:Txt K mg D):Ok P w K mg base 1 D.aU D.cb ["self", "size"] (nQ D):=by
 refine⟨?_,F.binds (ps:=["self", "size"]) λ_ _ _ _ _ _ us hl=>match us,hl with|[_,_],_=>rfl⟩
 refine F.okE jE (λvs H Q E h=>?_) (λcdv A' outer s' H vs Q E hr h=>?_)
 ·obtain⟨m,dx,n,rfl,_⟩:=h
  rfl
 ·obtain⟨m,dx,n,rfl,hm,n0,n1,k⟩:=h
  refine⟨_,(ao (Dr (pv 0) (aw Dx (dk (aa jo ah)) (pv 1)) rfl)),?_⟩;refine⟨by show 1≤sizeLine;decide,λp hp=>⟨_,rfl,p,n,_,rfl,rfl,ae,by omega,by omega,by show 1*n.toNat≤sizeLine;exact Ko (show 1*n.toNat≤10000 by omega) (by decide),λq hq=>?_⟩⟩;have np:m≠p:=ai hm hp;have hm1:upd H p (.lst [.non]) m=some (.ins D.aO dx []):=by rw[aj np];exact hm
  have nq:m≠q:=ai hm1 hq;have qp:q≠p:=λe=>by rw[e,ae]at hq;cases hq
  have hq0:H q=none:=by rw[aj qp]at hq;exact hq
  refine⟨_,rfl,m,D.aO,dx,[],rfl,(by rw[aj nq];exact hm1),T.aI,T.du,by decide,?_⟩;refine k q _ (((But.upd hp).trans (But.upd hq)).trans But.self) hq0 ⟨ae,?_,MR.rep,by rw[Ku];omega⟩;rw[aj (KG nq),ae,ye]
def kn(D:Ad):Sp:=λvs H Q _=>∃ m mx c xs ws,vs=[.ref m]∧Mm D H m mx c xs ws∧Q (.int ws.length) H
abbrev ou:List Str:=["self"]
theorem lV:aK ou ["self"] (aq g6):=⟨rfl,rfl,rfl,by decide +kernel,rfl,by decide +kernel,by decide +kernel⟩
theorem lX(F:Fun K "size" "Memory.size" g6 D.bB D.dj)(T:Txt K mg D):Ok P w K mg base 1 D.bB D.dj ["self"] (kn D):=by
 refine⟨?_,F.binds (ps:=["self"]) λ_ _ _ _ _ _ us hl=>match us,hl with|[_],_=>rfl⟩
 refine F.okE lV (λvs H Q E h=>?_) (λcdv A' outer s' H vs Q E hr h=>?_)
 ·obtain⟨m,mx,c,xs,ws,rfl,_⟩:=h
  rfl
 ·obtain⟨m,mx,c,xs,ws,rfl,M,k⟩:=h
  refine⟨_,(PSs.nox (ao (a9 (aV aL rfl T.fV PyProof.Rows.Boot.«len» (aa (q8 (pv 0) rfl) ah))))),?_⟩;refine⟨_,rfl,m,D.aO,mx,_,.ref c,rfl,M.i,T.aI,T.du,rfl,c,_,rfl,.inl (SqL.of M.l),?_⟩;rw[M.r.1];exact k
def nR(D:Ad):Sp:=λvs H Q E=>∃ m mx c xs ws,∃ a:Int,vs=[.ref m,.int a]∧Mm D H m mx c xs ws∧Sm a∧(if 0≤a∧a<ws.length then Q .non H else Bad D.af H E)
abbrev gJ:List Str:=["self", "a"]
theorem gE:aK gJ ["self", "a"] (aq cU):=⟨rfl,rfl,rfl,by decide +kernel,rfl,by decide +kernel,by decide +kernel⟩
theorem gF(F:Fun K "look_at_address" "Memory.look_at_address" cU D.az D.aS)(T:Txt K mg D)
  (av:Ok P w K mg base 1 D.ax D.aQ ["self", "text"] (yR K)):Ok P w K mg base 3 D.az D.aS ["self", "a"] (nR D):=by
 refine⟨?_,F.binds (ps:=["self", "a"]) λ_ _ _ _ _ _ us hl=>match us,hl with|[_,_],_=>rfl⟩
 refine F.okE gE (λvs H Q E h=>?_) (λcdv A' outer s' H vs Q E hr h=>?_)
 ·obtain⟨m,mx,c,xs,ws,a,rfl,_⟩:=h
  rfl
 ·obtain⟨m,mx,c,xs,ws,a,rfl,M,ha,k⟩:=h
  refine⟨_,(ao (dw (qX (xR Gw qY ak (pv 1) (aV aL rfl T.fV PyProof.Rows.Boot.«len» (aa (q8 (pv 0) rfl) ah))))
    (ao (kh rfl vh (rg T.g9 av.g (hr.mono (by decide)) rfl T.fE av.b (Passes.x (jh λ_ _ _ q=>q)) (aa (m5 (dA iM (dA (lI (pv 1)) m4))) ah))))
    aY)),?_⟩
  have el:=M.r.1;by_cases g:0≤a∧a<(ws.length:Int)
  ·rw[if_pos g]at k
   refine⟨_,rfl,0,a,rfl,rfl,_,rfl,mX (λ_=>⟨_,rfl,m,D.aO,mx,_,.ref c,rfl,M.i,T.aI,T.du,rfl,c,_,rfl,.inl (SqL.of M.l),a,_,rfl,rfl,_,rfl,mX (λh2=>absurd h2 (by rw[el,decide_eq_true g.2];decide)) (λ_=>k)⟩) (λh1=>absurd (decide_eq_true g.1) h1)⟩
  ·rw[if_neg g]at k
   by_cases g0:0≤a
   ·have g1:¬a<(ws.length:Int):=λz=>g ⟨g0,z⟩
    refine⟨_,rfl,0,a,rfl,rfl,_,rfl,mX (λ_=>⟨_,rfl,m,D.aO,mx,_,.ref c,rfl,M.i,T.aI,T.du,rfl,c,_,rfl,.inl (SqL.of M.l),a,_,rfl,rfl,_,rfl,mX (λ_=>⟨_,rfl,a,rfl,ha,λy hy ea hea=>gw T.aE (λ_ q=>q) k ea hea⟩) (λh2=>absurd (by rw[el,decide_eq_false g1];rfl) h2)⟩) (λh1=>absurd (decide_eq_true g0) h1)⟩
   ·refine⟨_,rfl,0,a,rfl,rfl,_,rfl,mX (λh1=>absurd (of_decide_eq_true h1) g0) (λ_=>⟨_,rfl,tw ⟨_,rfl,a,rfl,ha,λy hy ea hea=>gw T.aE (λ_ q=>q) k ea hea⟩⟩)⟩
def oy(D:Ad):Sp:=λvs H Q E=>∃ m mx c xs ws,∃ a:Int,vs=[.ref m,.int a]∧Mm D H m mx c xs ws∧Sm a∧(if 0≤a∧a<ws.length then ∀ v w,xs[a.toNat]?=some v→ws[a.toNat]?=some w→MV H v w→Q v H else Bad D.af H E)
abbrev rQ:List Str:=["self", "a"]
theorem ql:aK rQ ["self", "a"] (aq i4):=⟨rfl,rfl,rfl,by decide +kernel,rfl,by decide +kernel,by decide +kernel⟩
theorem qm(F:Fun K "at" "Memory.at" i4 D.b9 D.dB)(T:Txt K mg D)
  (aD:Ok P w K mg base 3 D.az D.aS ["self", "a"] (nR D)):Ok P w K mg base 4 D.b9 D.dB ["self", "a"] (oy D):=by
 refine⟨?_,F.binds (ps:=["self", "a"]) λ_ _ _ _ _ _ us hl=>match us,hl with|[_,_],_=>rfl⟩
 refine F.okE ql (λvs H Q E h=>?_) (λcdv A' outer s' H vs Q E hr h=>?_)
 ·obtain⟨m,mx,c,xs,ws,a,rfl,_⟩:=h
  rfl
 ·obtain⟨m,mx,c,xs,ws,a,rfl,M,ha,k⟩:=h
  refine⟨_,(ag (cB (eA (pv 0) T.aI T.d4 aD.g (hr.mono (by decide)) aD.b .nil (Passes.x (jh λ_ _ _ q=>q)) (aa (pv 1) ah)))
   (ao (a9 (bI cg (q8 (pv 0) rfl) (pv 1) (λ_ _=>rfl))))),?_⟩
  have el:=M.r.1;refine⟨_,rfl,m,_,_,rfl,M.i,(by kernel_rfl),_,rfl,m,mx,c,xs,ws,a,rfl,M,ha,?_⟩;by_cases g:0≤a∧a<(ws.length:Int)
  ·rw[if_pos g]at k ⊢
   have hw:ws[a.toNat]?=some (ws[a.toNat]'(by omega)):=JM _;obtain⟨v,hv,mv⟩:=M.r.get hw;exact⟨_,rfl,m,D.aO,mx,_,.ref c,rfl,M.i,T.aI,T.du,rfl,_,rfl,c,xs,a,v,rfl,rfl,SqL.of M.l,eL g.1 hv,k v _ hv hw mv⟩
  ·rw[if_neg g]at k ⊢
   exact k
def kD(D:Ad):Sp:=λvs H Q E=>∃ m mx c xs ws,∃(a:Int) (v:V) (w:Mw),vs=[.ref m,.int a,v]∧Mm D H m mx c xs ws∧Sm a∧MV H v w∧(if 0≤a∧a<ws.length then(Mm D (upd H c (.lst (xs.set a.toNat v))) m mx c (xs.set a.toNat v) (ws.set a.toNat w)→Q .non (upd H c (.lst (xs.set a.toNat v)))) else Bad D.af H E)
abbrev qo:List Str:=["self", "a", "word"]
theorem oz:aK qo ["self", "a", "word"] (aq iz):=⟨rfl,rfl,rfl,by decide +kernel,rfl,by decide +kernel,by decide +kernel⟩
theorem oA(F:Fun K "put" "Memory.put" iz D.bE D.cX)(T:Txt K mg D)
  (aD:Ok P w K mg base 3 D.az D.aS ["self", "a"] (nR D)):Ok P w K mg base 4 D.bE D.cX ["self", "a", "word"] (kD D):=by
 refine⟨?_,F.binds (ps:=["self", "a", "word"]) λ_ _ _ _ _ _ us hl=>match us,hl with|[_,_,_],_=>rfl⟩
 refine F.okE oz (λvs H Q E h=>?_) (λcdv A' outer s' H vs Q E hr h=>?_)
 ·obtain⟨m,mx,c,xs,ws,a,v,w,rfl,_⟩:=h
  rfl
 ·obtain⟨m,mx,c,xs,ws,a,v,w,rfl,M,ha,hv,k⟩:=h
  refine⟨_,(ag (cB (eA (pv 0) T.aI T.d4 aD.g (hr.mono (by decide)) aD.b .nil (Passes.x (jh λ_ _ _ q=>q)) (aa (pv 1) ah)))
   (ao (j3 (pv 2) (n6 (q8 (pv 0) rfl) (pv 1) set_list)))),?_⟩
  have el:=M.r.1;refine⟨_,rfl,m,_,_,rfl,M.i,(by kernel_rfl),_,rfl,m,mx,c,xs,ws,a,rfl,M,ha,?_⟩;by_cases g:0≤a∧a<(ws.length:Int)
  ·rw[if_pos g]at k ⊢
   exact⟨_,rfl,_,rfl,m,D.aO,mx,_,.ref c,rfl,M.i,T.aI,T.du,rfl,_,rfl,c,xs,a,a.toNat,rfl,rfl,M.l,xA g.1 (by rw[el];exact g.2),k (M.set hv)⟩
  ·rw[if_neg g]at k ⊢
   exact k
def vn:Sp:=λvs H Q _=>∃ v w,vs=[v]∧MV H v w∧Q (.str w.kind) H
abbrev xa:List Str:=["value"]
theorem uI:aK xa ["value"] (aq kK):=⟨rfl,rfl,rfl,by decide +kernel,rfl,by decide +kernel,by decide +kernel⟩
theorem uJ(F:Fun K "kind_of" "kind_of" kK D.dR D.gv)(T:Txt K mg D):Ok P w K mg base 1 D.dR D.gv ["value"] (vn):=by
 refine⟨?_,F.binds (ps:=["value"]) λ_ _ _ _ _ _ us hl=>match us,hl with|[_],_=>rfl⟩
 refine F.okE uI (λvs H Q E h=>?_) (λcdv A' outer s' H vs Q E hr h=>?_)
 ·obtain⟨v,w,rfl,_⟩:=h
  rfl
 ·obtain⟨v,w,rfl,hv,k⟩:=h
  refine⟨_,(PSs.nox (ao (a9 (sW (aA yG (pv 0) jo (aT _)) cA (bI dm (pv 0) ak (λ_ _=>rfl)))))),?_⟩;rcases hv with⟨rfl,rfl⟩|⟨n,t,rfl,ht⟩
  ·exact⟨_,rfl,rfl,_,rfl,mX (λ_=>k) (λh=>absurd (by simp) h)⟩
  ·refine⟨_,rfl,rfl,_,rfl,mX (λh=>by simp at h) (λ_=>⟨_,rfl,t,_,0,.str w.kind,rfl,rfl,SqT.of ht,?_,k⟩)⟩
   cases w with
   | no=>exact absurd rfl n
   | _=>rfl
def qT(D:Ad):Sp:=λvs H Q E=>∃ m mx c xs ws,∃ a n:Int,vs=[.ref m,.int a,.int n]∧Mm D H m mx c xs ws∧Sm a∧Sm n∧(if 0≤a∧a+n<ws.length then Q .non H else Bad D.af H E)
abbrev lY:List Str:=["memory", "a", "fields"]
theorem lj:aK lY ["memory", "a", "fields"] (aq gi):=⟨rfl,rfl,rfl,by decide +kernel,rfl,by decide +kernel,by decide +kernel⟩
theorem lq(F:Fun K "look_at_room" "look_at_room" gi D.a7 D.dq)(T:Txt K mg D)
  (aX:Ok P w K mg base 1 D.bB D.dj ["self"] (kn D))
  (av:Ok P w K mg base 1 D.ax D.aQ ["self", "text"] (yR K)):Ok P w K mg base 3 D.a7 D.dq ["memory", "a", "fields"] (qT D):=by
 refine⟨?_,F.binds (ps:=["memory", "a", "fields"]) λ_ _ _ _ _ _ us hl=>match us,hl with|[_,_,_],_=>rfl⟩
 refine F.okE lj (λvs H Q E h=>?_) (λcdv A' outer s' H vs Q E hr h=>?_)
 ·obtain⟨m,mx,c,xs,ws,a,n,rfl,_⟩:=h
  rfl
 ·obtain⟨m,mx,c,xs,ws,a,n,rfl,M,ha,hn,k⟩:=h
  refine⟨_,(ao (dw (PW.pt (pw_or (aA qY (pv 1) ak (aT _)) (pw_or1 (aA Gx (aw aW (pv 1) (pv 2)) (nK (pv 0) T.aI T.gq aX.g (hr.mono (by decide)) aX.b .nil (Passes.x (jh λ_ _ _ q=>q))) (aT _)))))
    (ao (kh rfl vh (rg T.g9 av.g (hr.mono (by decide)) rfl T.fE av.b (Passes.x (jh λ_ _ _ q=>q)) (aa (m5 (dA iM (dA (lI (pv 2)) (dA iM (dA (lI (pv 1)) m4))))) ah))))
    aY)),?_⟩
  by_cases g0:a<0
  ·rw[if_neg (λz=>by have:=z.1;omega)]at k
   exact⟨_,rfl,a,0,rfl,rfl,_,rfl,bQ (decide_eq_true g0) (tw ⟨_,rfl,n,rfl,hn,_,rfl,a,rfl,ha,λy hy ea hea=>gw T.aE (λ_ q=>q) k ea hea⟩)⟩
  ·refine⟨_,rfl,a,0,rfl,rfl,_,rfl,bK (decide_eq_false g0) ⟨_,rfl,_,rfl,a,n,rfl,rfl,_,rfl,m,_,_,rfl,M.i,(by kernel_rfl),m,mx,c,xs,ws,rfl,M,_,_,rfl,rfl,_,rfl,?_⟩⟩
   by_cases g:0≤a∧a+n<(ws.length:Int)
   ·rw[if_pos g]at k
    exact bK (decide_eq_false (by omega)) k
   ·rw[if_neg g]at k
    exact bQ (decide_eq_true (by omega)) ⟨_,rfl,n,rfl,hn,_,rfl,a,rfl,ha,λy hy ea hea=>gw T.aE (λ_ q=>q) k ea hea⟩
def tN(D:Ad):Sp:=λvs H Q E=>∃ m mx c xs ws,∃(a:Int) (kd:Addr),vs=[.ref m,.int a,.ref kd]∧Mm D H m mx c xs ws∧Gm ws∧Sm a∧H kd=some (.tup [.str "head"])∧(match thg ws a with|some (_,n)=>Q (.int n) H|none=>Bad D.af H E)
abbrev oB:List Str:=["memory", "a", "kinds", "word"]
theorem iY:aK oB ["memory", "a", "kinds"] (aq g4):=⟨rfl,rfl,rfl,by decide +kernel,rfl,by decide +kernel,by decide +kernel⟩
theorem lZ(F:Fun K "fields_told" "fields_told" g4 D.bL D.eB)(T:Txt K mg D)
  (aM:Ok P w K mg base 4 D.b9 D.dB ["self", "a"] (oy D))
  (dS:Ok P w K mg base 1 D.dR D.gv ["value"] (vn))
  (bZ:Ok P w K mg base 3 D.a7 D.dq ["memory", "a", "fields"] (qT D))
  (av:Ok P w K mg base 1 D.ax D.aQ ["self", "text"] (yR K)):Ok P w K mg base 5 D.bL D.eB ["memory", "a", "kinds"] (tN D):=by
 refine⟨?_,F.binds (ps:=["memory", "a", "kinds"]) λ_ _ _ _ _ _ us hl=>match us,hl with|[_,_,_],_=>rfl⟩
 refine F.okE iY (λvs H Q E h=>?_) (λcdv A' outer s' H vs Q E hr h=>?_)
 ·obtain⟨m,mx,c,xs,ws,a,kd,rfl,_⟩:=h
  rfl
 ·obtain⟨m,mx,c,xs,ws,a,kd,rfl,M,gm,ha,hkd,k⟩:=h
  refine⟨_,(ag (ay (i:=3) iY.nd rfl (Or.inl rfl) (eA (pv 0) T.aI T.fe aM.g (hr.mono (by decide)) aM.b .nil (Passes.x (jh λ_ _ _ q=>q)) (aa (pv 1) ah)))
   (ag (dw (PW.pt (pw_or (aA iw (aH dS.g (hr.mono (by decide)) rfl T.kL T.ig dS.b .nil (Passes.x (jh λ_ _ _ q=>q)) (aa (pv 3) ah)) (pv 2) (by with_unfolding_all rfl)) (pw_or1 (aA qY (bI dm (pv 3) ak (λ_ _=>rfl)) ak (aT _)))))
    (ao (kh rfl vh (rg T.g9 av.g (hr.mono (by decide)) rfl T.fE av.b (Passes.x (jh λ_ _ _ q=>q)) (aa (m5 (dA iM (dA (lI (pv 1)) m4))) ah))))
    aY)
   (ag (cB (aH bZ.g (hr.mono (by decide)) rfl T.iV T.eZ bZ.b .nil (Passes.x (jh λ_ _ _ q=>q)) (aa (pv 0) (aa (pv 1) (aa (bI dm (pv 3) ak (λ_ _=>rfl)) ah)))))
   (ao (a9 (bI dm (pv 3) ak (λ_ _=>rfl))))))),?_⟩
  refine⟨_,rfl,m,_,_,rfl,M.i,(by kernel_rfl),_,rfl,m,mx,c,xs,ws,a,rfl,M,ha,?_⟩;by_cases g:0≤a∧a<(ws.length:Int)
  ·rw[if_pos g]
   intro v wd hv hw mv;refine⟨_,rfl,v,wd,rfl,mv,_,rfl,kd,_,rfl,.inr (SqT.of hkd),rfl,rfl,_,rfl,?_⟩;have nh:(∀ t n,wd≠.hd t n)→thg ws a=none:=λh=>by
    unfold thg;rw[if_pos g.1,hw];cases wd with
    | hd t n=>exact absurd rfl (h t n)
    | _=>rfl
   have bad:(∀ t n,wd≠.hd t n)→(!inV (V.str wd.kind) [V.str "head"])=true:=λh=>by
    cases wd with
    | hd t n=>exact absurd rfl (h t n)
    | _=>kernel_rfl
   by_cases hh:∃ t n,wd=.hd t n
   ·obtain⟨t,n,rfl⟩:=hh
    have hn:=gm.hd t n (J0 hw);obtain⟨_,p,rfl,hp⟩:=mv.resolve_left (λz=>by cases z.1);refine bK (by kernel_rfl) ⟨_,rfl,p,_,2,.int n,rfl,rfl,SqT.of hp,rfl,n,0,rfl,rfl,_,rfl,bK (decide_eq_false (by omega)) ?_⟩;refine⟨_,rfl,_,rfl,_,rfl,p,_,2,.int n,rfl,rfl,SqT.of hp,rfl,m,mx,c,xs,ws,a,n,rfl,M,ha,Sm.of (by omega) (by omega),?_⟩;by_cases l:a+n<(ws.length:Int)
    ·rw[if_pos ⟨g.1,l⟩]
     rw[show thg ws a=some (t,n) by unfold thg;rw[if_pos g.1,hw];exact if_pos l]at k;exact⟨_,rfl,p,_,2,.int n,rfl,rfl,SqT.of hp,rfl,k⟩
    ·rw[if_neg (λz=>l z.2)]
     rw[show thg ws a=none by unfold thg;rw[if_pos g.1,hw];exact if_neg l]at k;exact k
   ·have h:∀ t n,wd≠.hd t n:=λt n e=>hh ⟨t,n,e⟩
    rw[nh h]at k;exact bQ (bad h) (tw ⟨_,rfl,a,rfl,ha,λy hy ea hea=>gw T.aE (λ_ q=>q) k ea hea⟩)
  ·rw[if_neg g]
   have:thg ws a=none:=by
    unfold thg;by_cases h0:0≤a
    ·rw[if_pos h0,List.getElem?_eq_none_iff.mpr (by omega)]
    ·rw[if_neg h0]
   rw[this]at k;exact k
def yZ(D:Ad):Sp:=λvs H Q E=>∃ m mx c xs ws,∃ a:Int,vs=[.ref m,.int a]∧Mm D H m mx c xs ws∧Gm ws∧Sm a∧(match thg ws a with|some (_,n)=>∀ H',ar H H'→Q (.int n) H'|none=>Bad D.af H E)
abbrev rR:List Str:=["memory", "a"]
theorem qq:aK rR ["memory", "a"] (aq iZ):=⟨rfl,rfl,rfl,by decide +kernel,rfl,by decide +kernel,by decide +kernel⟩
theorem qr(F:Fun K "fields_at" "fields_at" iZ D.c7 D.fP)(T:Txt K mg D)
  (fG:Ok P w K mg base 5 D.bL D.eB ["memory", "a", "kinds"] (tN D)):Ok P w K mg base 6 D.c7 D.fP ["memory", "a"] (yZ D):=by
 refine⟨?_,F.binds (ps:=["memory", "a"]) λ_ _ _ _ _ _ us hl=>match us,hl with|[_,_],_=>rfl⟩
 refine F.okE qq (λvs H Q E h=>?_) (λcdv A' outer s' H vs Q E hr h=>?_)
 ·obtain⟨m,mx,c,xs,ws,a,rfl,_⟩:=h
  rfl
 ·obtain⟨m,mx,c,xs,ws,a,rfl,M,gm,ha,k⟩:=h
  refine⟨_,(ao (a9 (aH fG.g (hr.mono (by decide)) rfl T.oh T.hJ fG.b .nil (Passes.x (jh λ_ _ _ q=>q)) (aa (pv 0) (aa (pv 1) (aa (dz (aa cA ah)) ah)))))),?_⟩;refine⟨_,rfl,_,rfl,by show 1≤sizeLine;decide,λkd hkd=>?_⟩;have s1:=ar.upd (o:=.tup [V.str "head"]) hkd;refine⟨m,mx,c,xs,ws,a,kd,rfl,M.same s1,gm,ha,ae,?_⟩;cases e:thg ws a with
  | none=>rw[e]at k;exact k.same s1
  | some z=>rw[e]at k;exact k _ s1
def y9(D:Ad):Sp:=λvs H Q E=>∃ m mx c xs ws,∃ a:Int,vs=[.ref m,.int a]∧Mm D H m mx c xs ws∧Gm ws∧Sm a∧(match thg ws a with|some (t,n)=>∀ p l ys H',ar H H'→H l=none→H' p=some (.tup [.int t,.ref l])→H' l=some (.lst ys)→MR H' ys (lK ws a.toNat n.toNat)→Q (.ref p) H'|none=>Bad D.af H E)
abbrev nz:List Str:=["memory", "a", "fields"]
theorem k6:aK nz ["memory", "a"] (aq iD):=⟨rfl,rfl,rfl,by decide +kernel,rfl,by decide +kernel,by decide +kernel⟩
theorem rS(F:Fun K "thing_at" "thing_at" iD D.dE D.gA)(T:Txt K mg D)
  (gT:Ok P w K mg base 6 D.c7 D.fP ["memory", "a"] (yZ D))
  (aM:Ok P w K mg base 4 D.b9 D.dB ["self", "a"] (oy D)):Ok P w K mg base 7 D.dE D.gA ["memory", "a"] (y9 D):=by
 refine⟨?_,F.binds (ps:=["memory", "a"]) λ_ _ _ _ _ _ us hl=>match us,hl with|[_,_],_=>rfl⟩
 refine F.okE k6 (λvs H Q E h=>?_) (λcdv A' outer s' H vs Q E hr h=>?_)
 ·obtain⟨m,mx,c,xs,ws,a,rfl,_⟩:=h
  rfl
 ·obtain⟨m,mx,c,xs,ws,a,rfl,M,gm,ha,k⟩:=h
  refine⟨_,(ag (ay (i:=2) k6.nd rfl (Or.inl rfl) (aH gT.g (hr.mono (by decide)) rfl T.rN T.i8 gT.b .nil (Passes.x (jh λ_ _ _ q=>q)) (aa (pv 0) (aa (pv 1) ah))))
   (ao (a9 (dz (aa (bI dm (eA (pv 0) T.aI T.fe aM.g (hr.mono (by decide)) aM.b .nil (Passes.x (jh λ_ _ _ q=>q)) (aa (pv 1) ah)) ak (λ_ _=>rfl)) (aa (iN (cl:=[("memory",s'.heap.objs.size+1),("a",s'.heap.objs.size+2)]) (x := "k") (idx:=[1,0]) (NC:=["k", "a", "memory"]) ?co1 rfl (fN rfl T.fX (aa (pv 2) ah)) (λC fp s₀ H₀=>(eA (pv 2) T.aI T.fe aM.g (hr.mono (by decide)) aM.b .nil rn (aa (aw aW (aw aW (pv 1) ak) (pv 0)) ah)))) ah)))))),?_⟩
  case co1 =>
   exact ft (sc:=aq iD) (N:=nz) (ns:=["memory", "a"]) rfl rfl rfl (by decide +kernel) rfl rfl (by
    intro q hq;rcases Kc.mp hq with rfl|hq
    ·rfl
    rw[JO.mp hq];rfl)
  have el:=M.r.1;refine⟨_,rfl,_,rfl,m,mx,c,xs,ws,a,rfl,M,gm,ha,?_⟩;cases e:thg ws a with
  | none=>rw[e]at k;exact k
  | some z =>
   obtain⟨t,n⟩:=z;rw[e]at k;obtain⟨a0,hw,al⟩:=km e;have hn:=gm.hd t n (J0 hw);intro H1 s1;have M1:=M.same s1;refine⟨_,rfl,m,_,_,rfl,M1.i,(by kernel_rfl),_,rfl,m,mx,c,xs,ws,a,rfl,M1,ha,?_⟩;rw[if_pos ⟨a0,by omega⟩];intro v w2 hv hw2 mv;rw[hw]at hw2;cases hw2;obtain⟨_,p,rfl,hp⟩:=mv.resolve_left (λz=>by cases z.1);have z:=M.z;obtain⟨n,rfl⟩:∃ j:Nat,n=(j:Int):=⟨n.toNat,by omega⟩;simp only[Int.toNat_natCast]at k;refine⟨p,_,1,.int t,rfl,rfl,SqT.of hp,rfl,_,rfl,n,rfl,by omega,by omega,λL hL=>?_⟩;refine gz (lo:=0) (n:=n) (λi ys Hc=>ys=(xs.drop (a.toNat+1)).take i∧ar H1 Hc∧Hc L=some (.lst ys)) ⟨rfl,ar.upd hL,ae⟩ (λi ys Hc hi ⟨e,_,z⟩=>⟨z,by rw[e,Kf,K0];omega⟩) (by exact Ko (show n≤10000 by omega) (by decide)) (λi ys Hc hi ⟨e,sc,z⟩=>?_) (λys Hc ⟨e,sc,z⟩=>?_)
   ·have M2:=M1.same sc
    have hx:ws[(a+1+(0+(i:Int))).toNat]?=some (ws[(a+1+(0+(i:Int))).toNat]'(by omega)):=JM _;refine⟨_,rfl,m,_,_,rfl,M2.i,(by kernel_rfl),_,rfl,a,1,rfl,rfl,_,rfl,_,_,rfl,rfl,m,mx,c,xs,ws,_,rfl,M2,Sm.of (by omega) (by omega),?_⟩;rw[if_pos ⟨by omega,by omega⟩];intro v w2 hv2 _ _;refine⟨z,?_,λb u q=>by rw[aj (ai q hL)];exact sc b u q,ae⟩;have hd:(xs.drop (a.toNat+1))[i]?=some v:=by
     rw[Lm,←hv2];congr 1
     omega
    rw[e,List.take_succ,hd];rfl
   ·refine⟨by show 2≤sizeLine;decide,λq hq=>?_⟩
    have s3:=ar.upd (o:=.tup [V.int t,V.ref L]) hq;refine k q L _ _ ((s1.trans sc).trans s3) (ar.none s1 hL) ae (by rw[s3 _ _ z,e]) ⟨by unfold lK;rw[Kf,Kf,K0,K0,el],λi v w2 g1 g2=>?_⟩;unfold lK at g2;rw[K2]at g1 g2;split at g1
    ·rename_i ci
     rw[if_pos ci,Lm]at g2;rw[Lm]at g1;exact(M.r.2 _ _ _ g1 g2).keep ((bg.of s1).trans ((bg.of sc).trans (bg.of s3)))
    ·cases g1
end
section
variable{P:Program}{w:World}{K:W.Frag}{mg:Str→Option Value}{base:Heap}{D:Ad}
theorem jv{n:Nat}(h:n≤20000):n<sizeLine:=KI h (by decide)
theorem fH{n:Nat}(h:n≤20000):n≤sizeLine:=Lx (jv h)
theorem take_snoc{α:Type}{gs:List α}{i:Nat}{t:α}(e:gs[i]?=some t):gs.take (i+1)=gs.take i++[t]:=by rw[Ln (JN.mp e).1,(JN.mp e).2]
theorem nS{ws:List Mw}{a:Nat}{t:Int}{us:List Mw}:(layW ws a t us).length=ws.length:=by unfold layW;rw[kM,Kr]
def Kys(kvs:List (Key×V))(ms:List Int):Prop:=kvs.map (·.1)=ms.map Sum.inl
theorem Kys.len{kvs:List (Key×V)}{ms:List Int}(k:Kys kvs ms):kvs.length=ms.length:=by have:=congrArg List.length k;simpa using this
theorem Kys.non{kvs:List (Key×V)}{ms:List Int}(k:Kys kvs ms){t:Int}(h:t∉ms):ia kvs (Sum.inl t)=none:=by
 induction kvs generalizing ms with
 | nil=>rfl
 | cons p r ih=>cases ms with
  | nil=>cases k
  | cons a ms =>
   unfold Kys at k;rw[Kz,Kz]at k;injection k with k1 k2;rw[dQ (λz=>h (by rw[←Sum.inl.inj (k1.symm.trans z)];exact JW))];exact ih k2 λz=>h (JT _ z)
structure Dg(kvs:List (Key×V))(ms:List Int)(g:Int→Int):Prop where
 k:Kys kvs ms
 n:ms.Nodup
 v:∀ t∈ms,ia kvs (Sum.inl t)=some (.int (g t))
theorem Dg.nil{g:Int→Int}:Dg [] [] g:=⟨rfl,Lg,λt m=>nomatch m⟩
theorem DM{X:Cx}{st:Stmt}:PS X st (λ_ _ _=>False):=λ_ _ _ _ _ _ h=>h.elim
def Mw.adr:Mw→Option Int
 | .ad a=>some a
 | _=>none
theorem tO{w:Mw}{a:Int}(h:w.adr=some a):w=.ad a:=by
 cases w with
 | ad b=>cases h;rfl
 | _=>cases h
def jX(acc:List Int)(w:Mw):List Int:=match w.adr with
 | some a=>if a∈acc then acc else acc++[a]
 | none=>acc
def addW:List Int→List Mw→List Int
 | acc,[]=>acc
 | acc,w::r=>addW (jX acc w) r
theorem nU{acc:List Int}{a:Int}(h:a∉acc):jX acc (.ad a)=acc++[a]:=if_neg h
theorem nV{acc:List Int}{a:Int}(h:a∈acc):jX acc (.ad a)=acc:=if_pos h
theorem vN{acc:List Int}{w:Mw}(h:w.adr=none):jX acc w=acc:=by unfold jX;rw[h]
theorem fY(acc:List Int)(u v:List Mw):addW acc (u++v)=addW (addW acc u) v:=by
 induction u generalizing acc with
 | nil=>rfl
 | cons w r ih=>exact ih _
theorem jd(acc:List Int)(w:Mw):addW acc [w]=jX acc w:=rfl
theorem yg(acc:List Int)(w:Mw):acc <+: jX acc w:=by
 unfold jX;cases w.adr with
 | none=>exact LF _
 | some a =>
  show acc <+: if a∈acc then acc else acc++[a];split
  ·exact LF _
  ·exact List.prefix_append _ _
theorem nW(acc:List Int)(u:List Mw):acc <+: addW acc u:=by
 induction u generalizing acc with
 | nil=>exact LF _
 | cons w r ih=>exact(yg acc w).trans (ih _)
theorem AG{acc:List Int}{w:Mw}(h:acc.Nodup):(jX acc w).Nodup:=by
 unfold jX;cases w.adr with
 | none=>exact h
 | some a =>
  show(if a∈acc then acc else acc++[a]).Nodup;split
  ·exact h
  ·rename_i n
   rw[KQ];exact⟨h,by simp,λx hx y hy=>by rw[JO.mp hy];exact λe=>n (by rw[←e];exact hx)⟩
theorem vO{acc:List Int}{u:List Mw}(h:acc.Nodup):(addW acc u).Nodup:=by
 induction u generalizing acc with
 | nil=>exact h
 | cons w r ih=>exact ih (AG h)
theorem yh{acc:List Int}{w:Mw}{a:Int}:a∈jX acc w↔a∈acc∨w=.ad a:=by
 cases w with
 | ad b =>
  by_cases c:b∈acc
  ·rw[nV c]
   exact⟨.inl,λz=>z.elim id λe=>by cases e;exact c⟩
  ·rw[nU c,Ka,JO]
   exact⟨λz=>z.elim .inl λe=>.inr (by rw[e]),λz=>z.elim .inl λe=>by cases e;exact .inr rfl⟩
 | _=>exact⟨.inl,λz=>z.elim id λe=>by cases e⟩
theorem tP{acc:List Int}{u:List Mw}{a:Int}:a∈addW acc u↔a∈acc∨Mw.ad a∈u:=by
 induction u generalizing acc with
 | nil=>exact⟨.inl,λz=>z.elim id λe=>nomatch e⟩
 | cons w r ih =>
  show a∈addW (jX acc w) r↔_;rw[ih,yh,Kc];constructor
  ·rintro((h|h)|h)
   ·exact .inl h
   ·exact .inr (.inl h.symm)
   ·exact .inr (.inr h)
  ·rintro(h|h|h)
   ·exact .inl (.inl h)
   ·exact .inl (.inr h.symm)
   ·exact .inr h
def Wl(rs:List Mw)(f:Int→List Mw)(R:List Int):List Mw:=rs++R.flatMap f
theorem nA{rs:List Mw}{f:Int→List Mw}{R:List Int}{a:Int}:Wl rs f (R++[a])=Wl rs f R++f a:=by unfold Wl;rw[List.flatMap_append,Ly];simp
structure Bfs(rs:List Mw)(f:Int→List Mw)(R:List Int):Prop where
 fx:R=addW [] (Wl rs f R)
 wf:∀ k,k<R.length→k<(addW [] (Wl rs f (R.take k))).length
theorem Bfs.pre{rs:List Mw}{f:Int→List Mw}{R:List Int}(h:Bfs rs f R)(k:Nat):addW [] (Wl rs f (R.take k)) <+: R:=by
 have e:Wl rs f R=Wl rs f (R.take k)++(R.drop k).flatMap f:=by
  unfold Wl;rw[Ly,←List.flatMap_append,Lc]
 have:=nW (addW [] (Wl rs f (R.take k))) ((R.drop k).flatMap f)
 rw[←fY,←e,←h.fx]at this;exact this
theorem Bfs.at{rs:List Mw}{f:Int→List Mw}{R:List Int}(h:Bfs rs f R){k:Nat}(hk:k<R.length):R[k]?=(addW [] (Wl rs f (R.take k)))[k]?:=by
 obtain⟨t,ht⟩:=h.pre k
 conv=>lhs;rw[←ht]
 rw[Kg (h.wf k hk)]
theorem Bfs.uniq{rs:List Mw}{f:Int→List Mw}{R S:List Int}(h:Bfs rs f R)(g:Bfs rs f S):R=S:=by
 have tk:∀ k,k≤R.length→k≤S.length→R.take k=S.take k:=by
  intro k;induction k with
  | zero=>intro _ _;rfl
  | succ k ih =>
   intro h1 h2;have e:=ih (by omega) (by omega);rw[List.take_succ,List.take_succ,h.at (by omega),g.at (by omega),e]
 have le:∀ {R S:List Int},Bfs rs f R→Bfs rs f S→(∀ k,k≤R.length→k≤S.length→R.take k=S.take k)→¬R.length<S.length:=λ{R S} h g t c=>by
  have e:=t R.length (JR _) (by omega);rw[J9 (JR _)]at e
  have:=g.wf R.length c
  rw[←e,←h.fx]at this;omega
 have l1:=le h g tk;have l2:=le g h λk a b=>(tk k b a).symm;have e:=tk R.length (JR _) (by omega);rw[J9 (JR _),J9 (by omega)]at e;exact e
theorem Bfs.nd{rs:List Mw}{f:Int→List Mw}{R:List Int}(h:Bfs rs f R):R.Nodup:=by
 rw[h.fx];exact vO Lg
theorem Bfs.mem{rs:List Mw}{f:Int→List Mw}{R:List Int}(h:Bfs rs f R){a:Int}(m:Mw.ad a∈Wl rs f R):a∈R:=by
 rw[h.fx];exact tP.mpr (.inr m)
structure Pg(rs:List Mw)(f:Int→List Mw)(th:List Int)(d:Nat):Prop where
 e:th=addW [] ((Wl rs f th).take d)
 le:d≤(Wl rs f th).length
 wf:∀ k,k<th.length→k<(addW [] (Wl rs f (th.take k))).length
theorem Pg.nil{rs:List Mw}{f:Int→List Mw}:Pg rs f [] 0:=⟨rfl,Kh _,λk h=>nomatch h⟩
theorem bF{α:Type}{gs:List α}{i:Nat}{t:α}(e:gs[i]?=some t):gs.take (i+1)=gs.take i++[t]:=by rw[Ln (JN.mp e).1,(JN.mp e).2]
theorem Pg.old{rs:List Mw}{f:Int→List Mw}{th:List Int}{d:Nat}{w:Mw}(h:Pg rs f th d)(hw:(Wl rs f th)[d]?=some w)(o:jX th w=th):Pg rs f th (d+1):=by
 refine⟨?_,(JN.mp hw).1,h.wf⟩;rw[bF hw,fY,←h.e,jd,o]
theorem Pg.new{rs:List Mw}{f:Int→List Mw}{th:List Int}{d:Nat}{a:Int}(h:Pg rs f th d)(hw:(Wl rs f th)[d]?=some (.ad a))(n:a∉th):Pg rs f (th++[a]) (d+1):=by
 have hd:=(JN.mp hw).1;have e1:addW [] ((Wl rs f th).take (d+1))=th++[a]:=by rw[bF hw,fY,←h.e,jd,nU n]
 refine⟨?_,by rw[nA,JU];omega,λk hk=>?_⟩
 ·rw[nA,KW hd,e1]
 ·rw[JU,Kt]at hk
  by_cases c:k<th.length
  ·rw[KW (by omega)]
   exact h.wf k c
  ·have ek:k=th.length:=by omega
   subst ek;rw[KW (JR _),J9 (JR _)];have p:=nW (addW [] ((Wl rs f th).take (d+1))) ((Wl rs f th).drop (d+1));rw[←fY,Lc,e1]at p
   have:=p.length_le
   rw[JU,Kt]at this;omega
theorem Pg.done{rs:List Mw}{f:Int→List Mw}{th:List Int}{d:Nat}(h:Pg rs f th d)(e:(Wl rs f th).length≤d):Bfs rs f th:=by
 refine⟨?_,h.wf⟩
 have:=h.e
 rw[J9 e]at this;exact this
structure Lw(rs:List Mw)(f:Int→List Mw)(row:List Int)(p:Nat):Prop where
 e:row=addW [] (Wl rs f (row.take p))
 le:p≤row.length
 wf:∀ k,k<p→k<(addW [] (Wl rs f (row.take k))).length
theorem Lw.start{rs:List Mw}{f:Int→List Mw}:Lw rs f (addW [] rs) 0:=⟨by unfold Wl;simp,Kh _,λk h=>nomatch h⟩
theorem Lw.step{rs:List Mw}{f:Int→List Mw}{row:List Int}{p:Nat}{a:Int}(h:Lw rs f row p)(hp:row[p]?=some a):Lw rs f (addW row (f a)) (p+1):=by
 have hl:=(JN.mp hp).1;obtain⟨t,ht⟩:=nW row (f a);have tk:∀ k,k≤p+1→(addW row (f a)).take k=row.take k:=λk hk=>by rw[←ht,KW (by omega)]
 refine⟨?_,by rw[←ht,JU];omega,λk hk=>?_⟩
 ·rw[tk _ (JR _),bF hp,nA,fY,←h.e]
 ·rw[tk k (by omega)]
  by_cases c:k<p
  ·exact h.wf k c
  ·have ek:k=p:=by omega
   subst ek;rw[←h.e];exact hl
theorem Lw.done{rs:List Mw}{f:Int→List Mw}{row:List Int}{p:Nat}(h:Lw rs f row p)(e:row.length≤p):Bfs rs f row:=by
 have hp:p=row.length:=Nat.le_antisymm h.le e;subst hp;refine⟨?_,h.wf⟩
 have:=h.e
 rw[J9 (JR _)]at this;exact this
def tot(f:Int→List Mw):List Int→Nat
 | []=>0
 | a::r=>(f a).length+1+tot f r
theorem vP(f:Int→List Mw)(u v:List Int):tot f (u++v)=tot f u+tot f v:=by
 induction u with
 | nil=>simp[tot]
 | cons a r ih=>show(f a).length+1+tot f (r++v)=(f a).length+1+tot f r+tot f v;rw[ih];omega
theorem yi(f:Int→List Mw)(u:List Int)(a:Int):tot f (u++[a])=tot f u+((f a).length+1):=by rw[vP];rfl
def plA(f:Int→List Mw):Int→List Int→Int→Int
 | p,[],_=>p
 | p,b::r,a=>if a=b then p else plA f (p+(f b).length+1) r a
theorem DN{f:Int→List Mw}{u v:List Int}{a:Int}{p:Int}(h:a∉u):plA f p (u++a::v) a=p+tot f u:=by
 induction u generalizing p with
 | nil=>show(if a=a then p else _)=_;rw[if_pos rfl];simp[tot]
 | cons b r ih =>
  show(if a=b then p else plA f (p+(f b).length+1) (r++a::v) a)=_;rw[if_neg (λe=>h (by rw[e];exact JW)),ih λm=>h (JT _ m)];show _=p+(((f b).length+1+tot f r:Nat):Int)
  push_cast
  omega
theorem nX{R:List Int}{i:Nat}{a:Int}(h:R[i]?=some a):R=R.take i++a::R.drop (i+1):=by
 have hi:=(JN.mp h).1;have e:=(JN.mp h).2;rw[←e,←List.drop_eq_getElem_cons hi,Lc]
theorem vQ{R:List Int}{i:Nat}{a:Int}(nd:R.Nodup)(h:R[i]?=some a):a∉R.take i:=λm=>by
 rw[nX h,KQ]at nd;exact nd.2.2 a m a JW rfl
theorem za{f:Int→List Mw}{R:List Int}{i:Nat}{a p:Int}(nd:R.Nodup)(h:R[i]?=some a):plA f p R a=p+tot f (R.take i):=by
 conv=>lhs;rw[nX h]
 exact DN (vQ nd h)
theorem yj{f:Int→List Mw}{R:List Int}{i:Nat}{a:Int}(h:R[i]?=some a):tot f (R.take i)+((f a).length+1)≤tot f R:=by
 have e:=congrArg (tot f) (nX h);rw[vP]at e
 have:tot f (a::R.drop (i+1))=(f a).length+1+tot f (R.drop (i+1)):=rfl
 omega
def anew(g:Int→Int):Mw→Mw
 | .ad a=>.ad (g a)
 | w=>w
def Okw(w:Mw):Prop:=w=.no∨(∃ n,w=.num n)∨∃ a,w=.ad a∧Sm a
def zb(f:Int→List Mw)(g:Int→Int):List Mw→List Int→List Mw
 | ws,[]=>ws
 | ws,a::r=>zb f g (ws.set a.toNat (.mv (g a) (f a).length)) r
def zc(f:Int→List Mw)(g tt:Int→Int):List Mw→List Int→List Mw
 | ws,[]=>ws
 | ws,a::r=>zc f g tt (layW ws (g a).toNat (tt a) ((f a).map (anew g))) r
theorem xb(f:Int→List Mw)(g:Int→Int)(ws:List Mw)(u:List Int)(a:Int):zb f g ws (u++[a])=(zb f g ws u).set a.toNat (.mv (g a) (f a).length):=by
 induction u generalizing ws with
 | nil=>rfl
 | cons b r ih=>exact ih _
theorem xf(f:Int→List Mw)(g tt:Int→Int)(ws:List Mw)(u:List Int)(a:Int):zc f g tt ws (u++[a])=layW (zc f g tt ws u) (g a).toNat (tt a) ((f a).map (anew g)):=by
 induction u generalizing ws with
 | nil=>rfl
 | cons b r ih=>exact ih _
theorem yk(f:Int→List Mw)(g:Int→Int)(ws:List Mw)(u:List Int):(zb f g ws u).length=ws.length:=by
 induction u generalizing ws with
 | nil=>rfl
 | cons b r ih=>show(zb f g _ r).length=_;rw[ih,Kr]
theorem yl(f:Int→List Mw)(g tt:Int→Int)(ws:List Mw)(u:List Int):(zc f g tt ws u).length=ws.length:=by
 induction u generalizing ws with
 | nil=>rfl
 | cons b r ih=>show(zc f g tt _ r).length=_;rw[ih,nS]
theorem jw:∀ {R B:List Int},R.Nodup→(∀ a∈R,a∈B)→R.length≤B.length
 | [],_,_,_=>Kh _
 | a::r,B,nd,h=>by
  rw[K3]at nd;have ha:=h a JW;have e:=jw (R:=r) (B:=B.erase a) nd.2 λb m=>(List.mem_erase_of_ne (λz=>nd.1 (by rw[←z];exact m))).mpr (h b (JT _ m));rw[List.length_erase_of_mem ha]at e
  have:=List.length_pos_of_mem ha
  rw[Kv];omega
theorem DO{rs:List Mw}{f:Int→List Mw}{R:List Int}(h:∀ a∈R,(f a).length≤6):(Wl rs f R).length≤rs.length+6*R.length:=by
 unfold Wl;rw[JU]
 have:(R.flatMap f).length≤6*R.length:=by
  induction R with
  | nil=>simp
  | cons a r ih =>
   have h1:=h a JW;have h2:=ih λb m=>h b (JT _ m);rw[List.flatMap_cons,JU,Kv];omega
 omega
theorem vR{f:Int→List Mw}{R:List Int}(h:∀ a∈R,(f a).length≤6):tot f R≤7*R.length:=by
 induction R with
 | nil=>exact Kh _
 | cons a r ih =>
  have h1:=h a JW;have h2:=ih λb m=>h b (JT _ m);rw[Kv];show(f a).length+1+tot f r≤_;omega
structure Dth(H0 H:Hp)(kvs:List (Key×V))(R:List Int)(f:Int→List Mw)(tt:Int→Int):Prop where
 k:Kys kvs R
 n:R.Nodup
 v:∀ a∈R,∃ p l ys,ia kvs (Sum.inl a)=some (.ref p)∧H p=some (.tup [.int (tt a),.ref l])∧H0 l=none∧H l=some (.lst ys)∧MR H ys (f a)
theorem Dth.nil{H0 H:Hp}{f:Int→List Mw}{tt:Int→Int}:Dth H0 H [] [] f tt:=⟨rfl,Lg,λa m=>nomatch m⟩
def Kp(H0 H H':Hp):Prop:=(∀ b xs,H0 b=none→H b=some (.lst xs)→H' b=some (.lst xs))∧∀ b us,H b=some (.tup us)→H' b=some (.tup us)
theorem Kp.of{H0 H H':Hp}(s:ar H H'):Kp H0 H H':=⟨λb u _ q=>s b _ q,λb us q=>s b _ q⟩
theorem Kp.frz{H0 H:Hp}{d:Addr}{kvs:List (Key×V)}{o:HO}(h:H d=some (.dK kvs)):Kp H0 H (upd H d o):=⟨λb u _ q=>by rw[aj (cG q h (by intro z;cases z))];exact q,λb us q=>by rw[aj (cG q h (by intro z;cases z))];exact q⟩
theorem Kp.set{H0 H:Hp}{c:Addr}{o o0 o1:HO}(h0:H0 c=some o0)(h1:H c=some o1)(n:∀ us,o1≠.tup us):Kp H0 H (upd H c o) :=
 ⟨λb u e q=>by rw[aj (λz=>by rw[z,h0]at e;cases e)];exact q,λb us q=>by rw[aj (λz=>by rw[z,h1]at q;exact n us (Kq q))];exact q⟩
theorem Dth.keep{H0 H H':Hp}{kvs:List (Key×V)}{R:List Int}{f:Int→List Mw}{tt:Int→Int}(d:Dth H0 H kvs R f tt)(s:Kp H0 H H'):Dth H0 H' kvs R f tt :=
 ⟨d.k,d.n,λa m=>by obtain⟨p,l,ys,h1,h2,h3,h4,h5⟩:=d.v a m;exact⟨p,l,ys,h1,s.2 _ _ h2,h3,s.1 _ _ h3 h4,h5.keep s.2⟩⟩
theorem Dth.low{H0 H1 H:Hp}{kvs:List (Key×V)}{R:List Int}{f:Int→List Mw}{tt:Int→Int}(d:Dth H1 H kvs R f tt)(s:ar H0 H1):Dth H0 H kvs R f tt :=
 ⟨d.k,d.n,λa m=>by obtain⟨p,l,ys,h1,h2,h3,h4,h5⟩:=d.v a m;exact⟨p,l,ys,h1,h2,ar.none s h3,h4,h5⟩⟩
theorem Dth.put{H0 H:Hp}{kvs:List (Key×V)}{R:List Int}{f:Int→List Mw}{tt:Int→Int}{a:Int}{p l:Addr}{ys:List V}(d:Dth H0 H kvs R f tt)(n:a∉R)(h2:H p=some (.tup [.int (tt a),.ref l]))(h3:H0 l=none)(h4:H l=some (.lst ys))(h5:MR H ys (f a)):Dth H0 H (putK kvs (Sum.inl a) (.ref p)) (R++[a]) f tt:=by
 refine⟨?_,?_,λb m=>?_⟩
 ·rw[j9 _ (d.k.non n)]
  have:=d.k
  unfold Kys at this ⊢;rw[Km,Km,this];rfl
 ·rw[KQ]
  exact⟨d.n,by simp,λx hx y hy=>by rw[JO.mp hy];exact λe=>n (by rw[←e];exact hx)⟩
 ·by_cases e:b=a
  ·subst e
   exact⟨p,l,ys,by rw[fh,if_pos rfl],h2,h3,h4,h5⟩
  ·obtain⟨p',l',ys',g1,g⟩:=d.v b ((Ka.mp m).resolve_right λz=>e (JO.mp z))
   exact⟨p',l',ys',by rw[fh,if_neg (λz=>e (Sum.inl.inj z))];exact g1,g⟩
theorem MR.app{H:Hp}{xs ys:List V}{us ws:List Mw}(a:MR H xs us)(b:MR H ys ws):MR H (xs++ys) (us++ws):=by
 refine⟨by rw[JU,JU,a.1,b.1],λi v w h1 h2=>?_⟩;by_cases c:i<xs.length
 ·rw[Kg c]at h1
  rw[Kg (by rw[←a.1];exact c)]at h2;exact a.2 i v w h1 h2
 ·rw[Ke (by omega)]at h1
  rw[Ke (by rw[←a.1];omega),←a.1]at h2;exact b.2 _ v w h1 h2
theorem MR.snoc{H:Hp}{xs:List V}{us:List Mw}{v:V}{w:Mw}(a:MR H xs us)(b:MV H v w):MR H (xs++[v]) (us++[w]):=a.app ⟨rfl,λi x y h1 h2=>by
 cases i with
 | zero=>cases h1;cases h2;exact b
 | succ i=>cases h1⟩
def adV(w:Mw):V:=match w.adr with|some a=>.int a|none=>.non
def vo:Sp:=λvs H Q _=>∃ v w,vs=[v]∧MV H v w∧Okw w∧∀ H',ar H H'→Q (adV w) H'
abbrev md:List Str:=["word"]
theorem lu:aK md ["word"] (aq gn):=⟨rfl,rfl,rfl,by decide +kernel,rfl,by decide +kernel,by decide +kernel⟩
theorem lA(F:Fun K "address_told" "address_told" gn D.a8 D.dr)(T:Txt K mg D)
  (dS:Ok P w K mg base 1 D.dR D.gv ["value"] (vn)):Ok P w K mg base 2 D.a8 D.dr ["word"] (vo):=by
 refine⟨?_,F.binds (ps:=["word"]) λ_ _ _ _ _ _ us hl=>match us,hl with|[_],_=>rfl⟩
 refine F.okE lu (λvs H Q E h=>?_) (λcdv A' outer s' H vs Q E hr h=>?_)
 ·obtain⟨v,w,rfl,_⟩:=h
  rfl
 ·obtain⟨v,w,rfl,hv,ok,k⟩:=h
  refine⟨_,(PSs.nox (ag (dw (aA pS (aH dS.g (hr.mono (by decide)) rfl T.kL T.ig dS.b .nil dU (aa (pv 0) ah)) (dz (aa cA (aa cA ah))) (by with_unfolding_all rfl))
    (ao (a9 jo))
    aY)
   (ag (dw (aA xq (aH dS.g (hr.mono (by decide)) rfl T.kL T.ig dS.b .nil dU (aa (pv 0) ah)) cA (aT _))
    (ao DM)
    aY)
   (ao (a9 (bI dm (pv 0) ak (λ_ _=>rfl))))))),?_⟩
  refine⟨_,rfl,v,w,rfl,hv,by show 2≤sizeLine;decide,λp hp=>?_⟩;have s1:=ar.upd (o:=.tup [V.str "none",V.str "number"]) hp;refine⟨p,_,rfl,.inr (SqT.of ae),rfl,rfl,_,rfl,?_⟩;rcases ok with rfl|⟨n,rfl⟩|⟨a,rfl,sa⟩
  ·exact bQ (by kernel_rfl) (k _ s1)
  ·exact bQ (by kernel_rfl) (k _ s1)
  ·obtain⟨_,q,rfl,hq⟩:=hv.resolve_left (λz=>by cases z.1)
   refine bK (by kernel_rfl) ⟨_,rfl,_,.ad a,rfl,.inr ⟨(by intro z;cases z),q,rfl,s1 _ _ hq⟩,rfl,_,rfl,bK (by kernel_rfl) ?_⟩;exact⟨_,rfl,q,_,1,.int a,rfl,rfl,SqT.of (s1 _ _ hq),rfl,k _ s1⟩
inductive Rch(rs:List Mw)(f:Int→List Mw):Int→Prop where
 | root {a:Int}:Mw.ad a∈rs→Rch rs f a
 | step {a b:Int}:Rch rs f a→Mw.ad b∈f a→Rch rs f b
structure Sr(ws rs:List Mw)(f:Int→List Mw)(tt:Int→Int)(B:List Int):Prop where
 rl:rs.length≤9
 ro:∀ w∈rs,Okw w
 bl:B.length≤10
 th:∀ a∈B,thg ws a=some (tt a,((f a).length:Int))∧lK ws a.toNat (f a).length=f a
 fl:∀ a∈B,(f a).length≤6
 fo:∀ a∈B,∀ w∈f a,Okw w
 nb:∀ a,a∉B→thg ws a=none
theorem Sr.ok{ws rs:List Mw}{f:Int→List Mw}{tt:Int→Int}{B R:List Int}(S:Sr ws rs f tt B)(h:∀ a∈R,a∈B){w:Mw}(m:w∈Wl rs f R):Okw w∧((∀ a∈R,Rch rs f a)→∀ a,w=.ad a→Rch rs f a):=by
 rcases Ka.mp m with m|m
 ·exact⟨S.ro w m,λ_ a e=>.root (by rw[←e];exact m)⟩
 ·obtain⟨b,mb,m⟩:=LG.mp m
  exact⟨S.fo b (h b mb) w m,λhr a e=>.step (hr b mb) (by rw[←e];exact m)⟩
theorem Bfs.rch{rs:List Mw}{f:Int→List Mw}{R:List Int}(h:Bfs rs f R){a:Int}(r:Rch rs f a):a∈R:=by
 induction r with
 | root m=>exact h.mem (Kw _ m)
 | step _ m ih=>exact h.mem (JP _ (LG.mpr ⟨_,ih,m⟩))
def vq(D:Ad):Sp:=λvs H Q E=>∃ m mx c xs ws,∃(l:Addr) (ys:List V) (rs:List Mw) (f:Int→List Mw) (tt:Int→Int) (B:List Int),vs=[.ref m,.ref l]∧Mm D H m mx c xs ws∧Gm ws∧H l=some (.lst ys)∧MR H ys rs∧Sr ws rs f tt B∧(∀ a,Rch rs f a→a∉B→Bad D.af H E)∧∀ d kvs R H',Bfs rs f R→(∀ a∈R,a∈B)→ar H H'→H d=none→H' d=some (.dK kvs)→Dth H H' kvs R f tt→Q (.ref d) H'
abbrev qt:List Str:=["source", "roots", "things", "words", "done", "a"]
theorem dM:aK qt ["source", "roots"] (aq iy):=⟨rfl,rfl,rfl,by decide +kernel,rfl,by decide +kernel,by decide +kernel⟩
theorem oE(F:Fun K "things_met" "things_met" iy D.bS D.d5)(T:Txt K mg D)
  (b8:Ok P w K mg base 2 D.a8 D.dr ["word"] (vo))
  (iG:Ok P w K mg base 7 D.dE D.gA ["memory", "a"] (y9 D)):Ok P w K mg base 8 D.bS D.d5 ["source", "roots"] (vq D):=by
 refine⟨?_,F.binds (ps:=["source", "roots"]) λ_ _ _ _ _ _ us hl=>match us,hl with|[_,_],_=>rfl⟩
 refine F.okE dM (λvs H Q E h=>?_) (λcdv A' outer s' H vs Q E hr h=>?_)
 ·obtain⟨m,mx,c,xs,ws,l,ys,rs,f,tt,B,rfl,_⟩:=h
  rfl
 ·obtain⟨m,mx,c,xs,ws,l,ys,rs,f,tt,B,rfl,M,gm,hl,ry,S,kb,k⟩:=h
  have hu:=j8 hr;refine⟨_,(PSs.xr (ag (ay (i:=2) dM.nd rfl (Or.inl rfl) kc)
   (ag (ay (i:=3) dM.nd rfl (Or.inl rfl) (dP cV rfl T.iu PyProof.Rows.Boot.«list» (aa (pv 1) ah)))
   (ag (ay (i:=4) dM.nd rfl (Or.inl rfl) ak)
   (ag (nF HZ (aA qY (pv 4) (aV aL rfl T.fV PyProof.Rows.Boot.«len» (aa (pv 3) ah)) (aT _))
    (ag (ay (i:=5) dM.nd rfl (Or.inl rfl) (aH b8.g (hr.mono (by decide)) rfl T.iW T.e7 b8.b .nil (jH λ_ _ _ q=>q) (aa (bI cg (pv 3) (pv 4) (λ_ _=>rfl)) ah)))
    (ag (dw (PW.pt (pw_and (aA qO (pv 5) jo (aT _)) (pw_and1 (yy (pW hu (pv 5) (pv 2)) (by with_unfolding_all rfl)))))
     (ag (mY hu (pv 2) (pv 5) (aH iG.g (hr.mono (by decide)) rfl T.uE T.jM iG.b .nil (jH λ_ _ _ q=>q) (aa (pv 0) (aa (pv 5) ah))) rfl)
     (ao (cB (mW PySem.F.plainAttrs_list PySem.F.slot_list_extend PySem.F.type_list_extend wD (pv 3) (aa (bI dm (fm hu (pv 2) (pv 5) (λ_ _=>rfl)) ak (λ_ _=>rfl)) ah)))))
     aY)
    (ao (yA (i:=4) dM.nd rfl (Or.inl rfl) ak yB)))))
   (ao (a9 (pv 2)))))))),?_⟩
  have z:=M.z;intro d hd;have s1:=ar.upd (o:=.dK []) hd;refine⟨_,rfl,l,ys,rfl,.inl (SqL.of (s1 _ _ hl)),λq hq=>?_⟩;have s2:=ar.upd (o:=.lst ys) hq;obtain⟨Hs,eHs⟩:∃ Hs,upd (upd H d (.dK [])) q (.lst ys)=Hs:=⟨_,rfl⟩;have ss:ar H Hs:=by rw[←eHs];exact s1.trans s2
  have hds:Hs d=some (.dK []):=by rw[←eHs];exact s2 _ _ ae
  have hqs:Hs q=some (.lst ys):=by rw[←eHs];exact ae
  rw[eHs];refine⟨λn σ Hx=>∃(v5:Option V) (kvs:List (Key×V)) (th:List Int) (dn:Nat) (zs:List V),σ=[some (.ref m),some (.ref l),some (.ref d),some (.ref q),some (.int dn),v5]∧n=100-dn∧Pg rs f th dn∧(∀ a∈th,a∈B)∧(∀ a∈th,Rch rs f a)∧ar H Hx∧Hx d=some (.dK kvs)∧Dth Hs Hx kvs th f tt∧Hx q=some (.lst zs)∧MR Hx zs (Wl rs f th),⟨100,none,[],[],0,ys,rfl,rfl,Pg.nil,(λa m=>nomatch m),(λa m=>nomatch m),ss,hds,Dth.nil,hqs,?_⟩,?_⟩
  ·have:Wl rs f []=rs:=by unfold Wl;simp
   rw[this];exact ry.keep (bg.of ss)
  rintro n σ Hx ⟨v5,kvs,th,dn,zs,rfl,rfl,pg,hB,hRc,sx,hdx,dt,hqx,rz⟩;have lth:th.length≤10:=Ko (jw dt.n hB) S.bl;have lW:=DO (rs:=rs) λa m=>S.fl a (hB a m);have rl:=S.rl;have ez:=rz.1;refine⟨_,rfl,_,rfl,q,_,rfl,.inl (SqL.of hqx),dn,_,rfl,rfl,_,rfl,?_⟩;by_cases hlt:dn<zs.length
  ·refine bQ (decide_eq_true (by omega)) ?_
   have hw:(Wl rs f th)[dn]?=some ((Wl rs f th)[dn]'(by omega)):=JM _;obtain⟨w,ew⟩:∃ w,(Wl rs f th)[dn]'(by omega)=w:=⟨_,rfl⟩;rw[ew]at hw;have mw:=J0 hw;obtain⟨okw,inB⟩:=S.ok hB mw;have inB:=inB hRc;obtain⟨v,hv,mv⟩:=rz.get hw;refine⟨λσ' H'=>∃ m',m'<100-dn∧∃(v5:Option V) (kvs:List (Key×V)) (th:List Int) (dn:Nat) (zs:List V),σ'=[some (.ref m),some (.ref l),some (.ref d),some (.ref q),some (.int dn),v5]∧m'=100-dn∧Pg rs f th dn∧(∀ a∈th,a∈B)∧(∀ a∈th,Rch rs f a)∧ar H H'∧H' d=some (.dK kvs)∧Dth Hs H' kvs th f tt∧H' q=some (.lst zs)∧MR H' zs (Wl rs f th),λ_ _ h=>h,?_⟩;refine⟨_,rfl,_,rfl,q,zs,dn,v,rfl,rfl,SqL.of hqx,eL (by omega) (by rw[Int.toNat_natCast];exact hv),v,w,rfl,mv,okw,λH1 s3=>?_⟩;have hd1:=s3 _ _ hdx;have hq1:=s3 _ _ hqx;have dt1:=dt.keep (Kp.of (H0:=Hs) s3);have rz1:=rz.keep (bg.of s3);have sx1:=sx.trans s3;have old:jX th w=th→∃ m',m'<100-dn∧∃(v5:Option V) (kvs:List (Key×V)) (th:List Int) (dn':Nat) (zs:List V),[some (.ref m),some (.ref l),some (.ref d),some (.ref q),some (.int ((dn:Int)+1)),some (adV w)]=[some (.ref m),some (.ref l),some (.ref d),some (.ref q),some (.int dn'),v5]∧m'=100-dn'∧Pg rs f th dn'∧(∀ a∈th,a∈B)∧(∀ a∈th,Rch rs f a)∧ar H H1∧H1 d=some (.dK kvs)∧Dth Hs H1 kvs th f tt∧H1 q=some (.lst zs)∧MR H1 zs (Wl rs f th):=λh =>
    ⟨100-(dn+1),by omega,some (adV w),kvs,th,dn+1,zs,rfl,rfl,pg.old hw h,hB,hRc,sx1,hd1,dt1,hq1,rz1⟩
   refine⟨_,rfl,rfl,_,rfl,?_⟩;cases ea:w.adr with
   | none =>
    have ev:adV w=.non:=(by unfold adV;rw[ea]);refine bK (by rw[ev];rfl) ⟨_,rfl,_,_,rfl,rfl,old (vN ea)⟩
   | some a =>
    have ev:adV w=.int a:=(by unfold adV;rw[ea]);obtain rfl:=tO ea;have aR:=inB a rfl;have smA:Sm a:=by
     rcases okw with e|⟨_,e⟩|⟨_,e,h⟩
     ·cases e
     ·cases e
     ·cases e;exact h
    refine bQ (by rw[ev];rfl) ⟨_,rfl,_,rfl,d,_,rfl,.inl ⟨kvs,Sum.inl a,.inl hd1,rfl,rfl⟩,_,rfl,?_⟩;by_cases ha:a∈th
    ·obtain⟨p,_,_,hp,_⟩:=dt.v a ha
     refine bK (by rw[hp];rfl) ⟨_,rfl,_,_,rfl,rfl,old (nV ha)⟩
    ·refine bQ (by rw[dt.k.non ha];rfl) ?_
     refine⟨_,rfl,_,rfl,m,mx,c,xs,ws,a,rfl,M.same sx1,gm,smA,?_⟩;by_cases aB:a∈B
     case neg =>
      rw[S.nb a aB];exact(kb a aR aB).same sx1
     obtain⟨tg,sl⟩:=S.th a aB;obtain⟨a0,hwa,al⟩:=km tg;rw[tg];intro p l2 ys2 H2 s4 hl0 hp hl2 ry2;rw[Int.toNat_natCast,sl]at ry2;have hd2:=s4 _ _ hd1;have hq2:=s4 _ _ hq1;have Jr:Hs l2=none:=by
      cases e:Hs l2 with
      | none=>rfl
      | some u =>
       exfalso;by_cases c1:l2=d
       ·rw[c1,hd1]at hl0;cases hl0
       ·by_cases c2:l2=q
        ·rw[c2,hq1]at hl0;cases hl0
        ·have:H l2=some u:=by rw[←e,←eHs,aj c2,aj c1]
         rw[sx1 _ _ this]at hl0;cases hl0
     have dt2:=(dt1.keep (Kp.of (H0:=Hs) s4)).put ha hp Jr hl2 ry2;have lk:=dt.k.len;refine⟨_,rfl,_,rfl,d,_,rfl,vG.k (k:=Sum.inl a) hd2 (by rw[lk];exact jv (by omega)),?_⟩;obtain⟨lT,ek2⟩:∃ lT,putK kvs (Sum.inl a) (.ref p)=lT:=⟨_,rfl⟩;have vp:ia lT (Sum.inl a)=some (.ref p):=(by rw[←ek2,fh,if_pos rfl]);rw[ek2]at dt2 ⊢;have ndq:q≠d:=cG hq2 hd2 (by intro z;cases z);have hp3:upd H2 d (.dK lT) p=some (.tup [.int (tt a),.ref l2]):=(by rw[aj (cG hp hd2 (by intro z;cases z))];exact hp);have hl3:upd H2 d (.dK lT) l2=some (.lst ys2):=(by rw[aj (cG hl2 hd2 (by intro z;cases z))];exact hl2);have hq3:upd H2 d (.dK lT) q=some (.lst zs):=(by rw[aj ndq];exact hq2);have kp3:Kp Hs H2 (upd H2 d (.dK lT)):=Kp.set hds hd2 (by intro us z;cases z);have e2:=ry2.1;have fl:=S.fl a aB;refine⟨_,rfl,.inl ⟨rfl,_,SqL.of hq3⟩,_,rfl,_,rfl,d,_,rfl,.inl ⟨lT,Sum.inl a,.inl ae,rfl,vp.symm⟩,p,_,1,.ref l2,rfl,rfl,SqT.of hp3,rfl,q,l2,zs,ys2,rfl,rfl,hq3,hl3,fH (by omega),?_⟩;have kp4:Kp Hs (upd H2 d (.dK lT)) (upd (upd H2 d (.dK lT)) q (.lst (zs++ys2))):=Kp.set hqs hq3 (by intro us z;cases z);have tp:bg H1 (upd (upd H2 d (.dK lT)) q (.lst (zs++ys2))):=λt us y=>kp4.2 _ _ (kp3.2 _ _ (s4 _ _ y));refine⟨_,rfl,_,_,rfl,rfl,100-(dn+1),by omega,some (adV (.ad a)),lT,th++[a],dn+1,zs++ys2,rfl,rfl,pg.new hw ha,λb mb=>?_,(λb mb=>(Ka.mp mb).elim (hRc b) λz=>by rw[JO.mp z];exact aR),λb u y=>?_,by rw[aj (KG ndq)];exact ae,(dt2.keep kp3).keep kp4,ae,?_⟩
     ·rcases Ka.mp mb with mb|mb
      ·exact hB b mb
      ·rw[JO.mp mb];exact aB
     ·have nbd:b≠d:=ai y hd
      have nbq:b≠q:=ai y (by have:=hq;rw[aj (λz=>by rw[z]at hq;rw[ae]at hq;cases hq)]at this;exact this);rw[aj nbq,aj nbd];exact s4 _ _ (sx1 _ _ y)
     ·rw[nA]
      exact(rz1.keep tp).app (ry2.keep λt us y=>kp4.2 _ _ (kp3.2 _ _ y))
  ·refine bK (decide_eq_false (by omega)) ⟨_,rfl,?_⟩
   exact k d kvs th Hx (pg.done (by omega)) hB sx hd hdx (dt.low ss)
end
end K42
end
section
namespace L2
open PySem PySem.Spec PyProof.Rows LX
section
variable{X:Cx}
theorem G1{n:Option Int}{zs:List Int}{f:Option Int→V}(hf:f none=.non)(hs:∀ t,f (some t)=.int t):inV (f n) (zs.map V.int)=(match n with|none=>false|some t=>decide (t∈zs)):=by
 unfold inV;cases n with
 | none =>
  rw[hf];show _=false;rw[List.any_map];refine List.any_eq_false.mpr λz _=>?_;simp[eqV]
 | some t =>
  rw[hs,List.any_map];show _=decide (t∈zs);induction zs with
  | nil=>rfl
  | cons a r ih =>
   rw[Ll,ih];by_cases e:a=t
   ·subst e
    simp[eqV]
   ·have:(t∈a::r)↔t∈r:=by
     rw[Kc];exact⟨λh=>h.elim (λz=>absurd z.symm e) id,.inr⟩
    simp[eqV,e,this]
end
end L2
end
section
namespace K42
open PySem L2 LX
section
variable{P:Program}{w:World}{K:W.Frag}{mg:Str→Option Value}{base:Heap}{D:Ad}
def ze(D:Ad):Sp:=λvs H Q _=>∃ m mx c xs ws,∃(a t:Int) (l:Addr) (ys:List V) (us:List Mw),vs=[.ref m,.int a,.int t,.ref l]∧Mm D H m mx c xs ws∧H l=some (.lst ys)∧MR H ys us∧l≠c∧0≤a∧a+us.length<ws.length∧∀ xs' H',But c H H'→Mm D H' m mx c xs' (layW ws a.toNat t us)→Q .non H'
abbrev G2:List Str:=["memory", "a", "t", "values", "k", "value"]
theorem vt:aK G2 ["memory", "a", "t", "values"] (aq zI):=⟨rfl,rfl,rfl,by decide +kernel,rfl,by decide +kernel,by decide +kernel⟩
theorem DP(F:Fun K "lay" "lay" zI D.lg D.uu)(T:Txt K mg D)
  (bZ:Ok P w K mg base 3 D.a7 D.dq ["memory", "a", "fields"] (qT D))
  (aC:Ok P w K mg base 4 D.bE D.cX ["self", "a", "word"] (kD D)):Ok P w K mg base 6 D.lg D.uu ["memory", "a", "t", "values"] (ze D):=by
 refine⟨?_,F.binds (ps:=["memory", "a", "t", "values"]) λ_ _ _ _ _ _ us hl=>match us,hl with|[_,_,_,_],_=>rfl⟩
 refine F.okE vt (λvs H Q E h=>?_) (λcdv A' outer s' H vs Q E hr h=>?_)
 ·obtain⟨m,mx,c,xs,ws,a,t,l,ys,us,rfl,_⟩:=h
  rfl
 ·obtain⟨m,mx,c,xs,ws,a,t,l,ys,us,rfl,M,hl,ru,nlc,a0,al,k⟩:=h
  refine⟨_,(PSs.nox (ag (cB (aH bZ.g (hr.mono (by decide)) rfl T.iV T.eZ bZ.b .nil dU (aa (pv 0) (aa (pv 1) (aa (aV aL rfl T.fV PyProof.Rows.Boot.«len» (aa (pv 3) ah)) ah)))))
   (ag (cB (eA (pv 0) T.aI T.dJ aC.g (hr.mono (by decide)) aC.b .nil dU (aa (pv 1) (aa (dz (aa cA (aa (pv 2) (aa (aV aL rfl T.fV PyProof.Rows.Boot.«len» (aa (pv 3) ah)) ah)))) ah))))
   (ao (fz Kx rfl (m7 rfl T.eK (aa (pv 3) ah)) (gY rfl (aN (aP (i:=4) vt.nd rfl (Or.inl rfl)) (aN (aP (i:=5) vt.nd rfl (Or.inl rfl)) fj)))
    (ao (cB (eA (pv 0) T.aI T.dJ aC.g (hr.mono (by decide)) aC.b .nil dU (aa (aw aW (aw aW (pv 1) ak) (pv 4)) (aa (pv 5) ah)))))))))),?_⟩
  have z:=M.z;have eu:=ru.1;refine⟨_,rfl,_,rfl,_,rfl,l,ys,rfl,.inl (SqL.of hl),m,mx,c,xs,ws,a,ys.length,rfl,M,Sm.of (by omega) (by omega),Sm.of (by omega) (by omega),?_⟩;rw[if_pos ⟨a0,by omega⟩];refine⟨_,rfl,m,_,_,rfl,M.i,(by kernel_rfl),_,rfl,_,rfl,_,rfl,l,ys,rfl,.inl (SqL.of hl),by show 3≤sizeLine;decide,λp hp=>?_⟩;have s1:=ar.upd (o:=.tup [V.str "head",V.int t,V.int ys.length]) hp;refine⟨m,mx,c,xs,ws,a,.ref p,.hd t us.length,rfl,M.same s1,Sm.of (by omega) (by omega),.inr ⟨(by intro z;cases z),p,rfl,by rw[ae,eu];rfl⟩,?_⟩;rw[if_pos ⟨a0,by omega⟩];intro M2;have b2:But c H (upd (upd H p (.tup [V.str "head",V.int t,V.int ys.length])) c (.lst (xs.set a.toNat (.ref p)))):=(But.same s1).trans But.self;refine⟨_,rfl,l,rfl,⟨_,SqL.of (b2 l _ nlc hl)⟩,kj (K:=K) (a:=l) (xs:=ys) (λi σ Hx=>∃ v4 v5 xs',σ=[some (.ref m),some (.int a),some (.int t),some (.ref l),v4,v5]∧But c H Hx∧Mm D Hx m mx c xs' (iF (ws.set a.toNat (.hd t us.length)) (a.toNat+1) (us.take i)))
   ⟨none,none,_,rfl,b2,M2⟩ (λi σ Hx _ ⟨_,_,_,_,b,_⟩=>SqL.of (b l _ nlc hl)) ?_ ?_⟩
  ·rintro i v σ Hx tp hi ⟨v4,v5,xs',rfl,bx,Mx⟩ htp
   have s3:=ar.upd (o:=.tup [.int (i:Int),v]) htp;refine⟨tp,_,rfl,SqT.of ae,rfl,_,_,rfl,_,_,rfl,rfl,?_⟩;have hil:i<us.length:=(by rw[←eu];exact(JN.mp hi).1);have hu':us[i]?=some us[i]:=JM hil;have ll:(iF (ws.set a.toNat (.hd t us.length)) (a.toNat+1) (us.take i)).length=ws.length:=(by rw[kM,Kr]);have M3:=Mx.same s3;have tv:bg H (upd Hx tp (.tup [.int (i:Int),v])):=λb us q=>s3 _ _ (bx b _ (cG q M.l (by intro z;cases z)) q);refine⟨_,rfl,m,_,_,rfl,M3.i,(by kernel_rfl),_,rfl,a,1,rfl,rfl,_,rfl,_,_,rfl,rfl,_,rfl,m,mx,c,xs',_,a+1+(i:Int),v,us[i],rfl,M3,Sm.of (by omega) (by omega),(ru.2 i v _ hi hu').keep tv,?_⟩;rw[ll,if_pos ⟨by omega,by omega⟩];intro M4;refine⟨_,_,xs'.set (a+1+(i:Int)).toNat v,rfl,(bx.trans (But.same s3)).trans But.self,?_⟩;rw[take_snoc hu',nv,Kf,show a.toNat+1+min i us.length=(a+1+(i:Int)).toNat by omega];exact M4
  ·rintro σ Hx ⟨v4,v5,xs',rfl,bx,Mx⟩
   rw[eu,J9 (JR _)]at Mx;exact k xs' Hx bx Mx
def zN:Sp:=λvs H Q _=>∃(d:Addr) (ob:Obj) (kvs:List (Key×V)) (H0:Hp) (R:List Int) (f:Int→List Mw) (tt:Int→Int),vs=[.ref d]∧H d=some (.frz ob (.dK kvs))∧Dth H0 H kvs R f tt∧R.length≤10∧(∀ a∈R,(f a).length≤6)∧∀ H',ar H H'→Q (.int (tot f R)) H'
abbrev jy:List Str:=["things"]
theorem mf:aK jy ["things"] (aq fB):=⟨rfl,rfl,rfl,by decide +kernel,rfl,by decide +kernel,by decide +kernel⟩
theorem mh(F:Fun K "words_among" "words_among" fB D.bA D.dI)(T:Txt K mg D):Ok P w K mg base 1 D.bA D.dI ["things"] (zN):=by
 refine⟨?_,F.binds (ps:=["things"]) λ_ _ _ _ _ _ us hl=>match us,hl with|[_],_=>rfl⟩
 refine F.okE mf (λvs H Q E h=>?_) (λcdv A' outer s' H vs Q E hr h=>?_)
 ·obtain⟨d,ob,kvs,H0,R,f,tt,rfl,_⟩:=h
  rfl
 ·obtain⟨d,ob,kvs,H0,R,f,tt,rfl,hd,dt,lR,lf,k⟩:=h
  have hu:=j8 hr;refine⟨_,(PSs.nox (ao (a9 (aV (pZ rfl) rfl T.xy PyProof.Rows.Boot.«sum» (aa (iN (cl:=[("things",s'.heap.objs.size+1)]) (x := "a") (idx:=[0]) (NC:=["a", "things"]) (by exact ft (sc:=aq fB) (N:=jy) (ns:=["things"]) rfl rfl rfl (by decide +kernel) rfl rfl (by intro q hq;rw[JO.mp hq];rfl)) rfl (m9 (pv 0)) (λC fp s₀ H₀=>(aw aW (aV (p8 rfl) rfl T.fV PyProof.Rows.Boot.«len» (aa (bI (r:=Hg K) dm (fm hu (pv 1) (pv 0) (λ_ _=>rfl)) ak (λ_ _=>rfl)) ah)) ak))) ah))))),?_⟩;have lk:=dt.k.len;have ek:=dt.k;unfold Kys at ek;refine⟨_,rfl,d,ob,kvs,rfl,hd,λL hL=>?_⟩;refine p7 (d:=d) (o:=ob) (kvs:=kvs) (λi ys Hc=>ys=((R.take i).map λa=>((f a).length:Int)+1).map V.int∧ar H Hc∧Hc L=some (.lst ys)) ⟨rfl,ar.upd hL,ae⟩ (λi ys Hc hi ⟨e,_,z⟩=>⟨z,by rw[e,JS,JS,Kf];omega⟩) (λi ys Hc _ ⟨_,sc,_⟩=>sc _ _ hd) (fH (by omega)) (λi p ys Hc hp ⟨e,sc,z⟩=>?_) (λys Hc ⟨e,sc,z⟩=>?_)
  ·have hk:(kvs.map (·.1))[i]?=some p.1:=by rw[JZ,hp];rfl
   rw[ek,JZ]at hk;obtain⟨a,ha,ep⟩:=Kn.mp hk;have ma:=J0 ha;obtain⟨q,l,zs,h1,h2,h3,h4,h5⟩:=dt.v a ma;rw[←ep];refine⟨_,rfl,_,rfl,d,_,rfl,.inl ⟨kvs,Sum.inl a,.inr ⟨ob,sc _ _ hd⟩,rfl,h1.symm⟩,q,_,1,.ref l,rfl,rfl,SqT.of (sc _ _ h2),rfl,l,zs,rfl,.inl (SqL.of (sc _ _ h4)),_,_,rfl,rfl,z,?_,λb u y=>by rw[aj (ai y hL)];exact sc b u y,ae⟩;rw[e,bF ha,Km,Km,h5.1];rfl
  ·refine⟨L,_,rfl,SqL.of (by rw[z,e]),?_⟩
   rw[lk,J9 (JR _)];have es:∀ R:List Int,(R.map λa=>((f a).length:Int)+1).sum=(tot f R:Int):=λR=>by
    induction R with
    | nil=>rfl
    | cons a r ih=>rw[Kz,List.sum_cons,ih];show _=(((f a).length+1+tot f r:Nat):Int);push_cast;omega
   rw[es];exact k _ sc
def CU:Sp:=λvs H Q _=>∃(fs:Int) (d:Addr) (ob:Obj) (kvs:List (Key×V)) (H0:Hp) (R:List Int) (f:Int→List Mw) (tt:Int→Int),vs=[.int fs,.ref d]∧H d=some (.frz ob (.dK kvs))∧Dth H0 H kvs R f tt∧R.length≤10∧∀ p lT H',ar H H'→H p=none→H' p=some (.dK lT)→Dg lT R (plA f fs R)→Q (.ref p) H'
abbrev oH:List Str:=["first", "things", "places", "place", "a"]
theorem d0:aK oH ["first", "things"] (aq g5):=⟨rfl,rfl,rfl,by decide +kernel,rfl,by decide +kernel,by decide +kernel⟩
theorem mm(F:Fun K "places_from" "places_from" g5 D.bM D.eC)(T:Txt K mg D):Ok P w K mg base 1 D.bM D.eC ["first", "things"] (CU):=by
 refine⟨?_,F.binds (ps:=["first", "things"]) λ_ _ _ _ _ _ us hl=>match us,hl with|[_,_],_=>rfl⟩
 refine F.okE d0 (λvs H Q E h=>?_) (λcdv A' outer s' H vs Q E hr h=>?_)
 ·obtain⟨fs,d,ob,kvs,H0,R,f,tt,rfl,_⟩:=h
  rfl
 ·obtain⟨fs,d,ob,kvs,H0,R,f,tt,rfl,hd,dt,lR,k⟩:=h
  have hu:=j8 hr;refine⟨_,(PSs.nox (ag (ay (i:=2) d0.nd rfl (Or.inl rfl) kc)
   (ag (ay (i:=3) d0.nd rfl (Or.inl rfl) (pv 0))
   (ag (fz Kx rfl (m9 (pv 1)) (aP (i:=4) d0.nd rfl (Or.inl rfl))
    (ag (mY hu (pv 2) (pv 4) (pv 3) rfl)
    (ao (yA (i:=3) d0.nd rfl (Or.inl rfl) (aw aW (aV aL rfl T.fV PyProof.Rows.Boot.«len» (aa (bI dm (fm hu (pv 1) (pv 4) (λ_ _=>rfl)) ak (λ_ _=>rfl)) ah)) ak) yB))))
   (ao (a9 (pv 2))))))),?_⟩
  have lk:=dt.k.len;have ek:=dt.k;unfold Kys at ek;intro p hp;have s1:=ar.upd (o:=.dK []) hp;refine⟨_,rfl,_,rfl,d,ob,kvs,rfl,s1 _ _ hd,tJ (d:=d) (o:=ob) (kvs:=kvs) (λi σ Hx=>∃(v4:Option V) (kv2:List (Key×V)),σ=[some (.int fs),some (.ref d),some (.ref p),some (.int (fs+tot f (R.take i))),v4]∧ar H Hx∧Hx p=some (.dK kv2)∧Dg kv2 (R.take i) (plA f fs R)) ⟨none,[],(by rw[List.take_zero];show _=[some (V.int fs),some (V.ref d),some (V.ref p),some (V.int (fs+0)),none];rw[Int.add_zero];rfl),s1,ae,Dg.nil⟩ (λi σ Hx _ ⟨_,_,_,sx,_⟩=>sx _ _ hd) ?_ ?_⟩
  ·rintro i pr σ Hx hpr ⟨v4,kv2,rfl,sx,zp,dg⟩
   have hk:(kvs.map (·.1))[i]?=some pr.1:=(by rw[JZ,hpr];rfl);rw[ek,JZ]at hk;obtain⟨a,ha,ep⟩:=Kn.mp hk;have ma:=J0 ha;obtain⟨q,l,zs,h1,h2,h3,h4,h5⟩:=dt.v a ma;rw[←ep];have na:=vQ dt.n ha;have pl:=za (f:=f) (p:=fs) dt.n ha;have lk2:=dg.k.len;refine⟨_,rfl,_,rfl,_,rfl,p,_,rfl,vG.k (k:=Sum.inl a) zp (by rw[lk2,Kf];exact jv (by omega)),?_⟩;have npd:d≠p:=ai hd hp;have hd2:∀ o,upd Hx p o d=some (.frz ob (.dK kvs)):=λo=>by rw[aj npd];exact sx _ _ hd
   have up:∀ b u o,H b=some u→upd Hx p o b=some u:=λb u o y=>by rw[aj (ai y hp)];exact sx _ _ y
   refine⟨_,rfl,_,rfl,_,rfl,d,_,rfl,.inl ⟨kvs,Sum.inl a,.inr ⟨ob,hd2 _⟩,rfl,h1.symm⟩,q,_,1,.ref l,rfl,rfl,SqT.of (up _ _ _ h2),rfl,l,zs,rfl,.inl (SqL.of (up _ _ _ h4)),_,_,rfl,rfl,_,_,rfl,rfl,some (.int a),putK kv2 (Sum.inl a) (.int (fs+tot f (R.take i))),?_,λb u y=>up b u _ y,ae,?_⟩
   ·rw[bF ha,yi,h5.1]
    show[_,_,_,some (V.int (fs+(tot f (R.take i):Int)+(((f a).length:Int)+1))),_]=_;rw[show fs+(tot f (R.take i):Int)+(((f a).length:Int)+1)=fs+((tot f (R.take i)+((f a).length+1):Nat):Int) by push_cast;omega];rfl
   ·rw[←pl,bF ha]
    refine⟨?_,?_,λu m=>?_⟩
    ·rw[j9 _ (dg.k.non na)]
     have:=dg.k
     unfold Kys at this ⊢;rw[Km,Km,this];rfl
    ·rw[KQ]
     exact⟨dg.n,by simp,λx hx y hy=>by rw[JO.mp hy];exact λe=>na (by rw[←e];exact hx)⟩
    ·by_cases e:u=a
     ·subst e;rw[fh,if_pos rfl]
     ·rw[fh,if_neg (λz=>e (Sum.inl.inj z))];exact dg.v u ((Ka.mp m).resolve_right λz=>e (JO.mp z))
  ·rintro σ Hx ⟨v4,kv2,rfl,sx,zp,dg⟩
   rw[lk,J9 (JR _)]at dg;exact⟨_,rfl,k p kv2 Hx sx hp zp dg⟩
def CV:Sp:=λvs H Q _=>∃(v:V) (w:Mw) (d:Addr) (kvs:List (Key×V)) (R:List Int) (g:Int→Int),vs=[v,.ref d]∧MV H v w∧Okw w∧Rd H d (.dK kvs)∧Dg kvs R g∧(∀ a,w=.ad a→a∈R)∧∀ v' H',ar H H'→MV H' v' (anew g w)→Q v' H'
abbrev rT:List Str:=["word", "places", "a"]
theorem jY:aK rT ["word", "places"] (aq i3):=⟨rfl,rfl,rfl,by decide +kernel,rfl,by decide +kernel,by decide +kernel⟩
theorem qu(F:Fun K "told_anew" "told_anew" i3 D.c9 D.fQ)(T:Txt K mg D)
  (b8:Ok P w K mg base 2 D.a8 D.dr ["word"] (vo)):Ok P w K mg base 3 D.c9 D.fQ ["word", "places"] (CV):=by
 refine⟨?_,F.binds (ps:=["word", "places"]) λ_ _ _ _ _ _ us hl=>match us,hl with|[_,_],_=>rfl⟩
 refine F.okE jY (λvs H Q E h=>?_) (λcdv A' outer s' H vs Q E hr h=>?_)
 ·obtain⟨v,w,d,kvs,R,g,rfl,_⟩:=h
  rfl
 ·obtain⟨v,w,d,kvs,R,g,rfl,hv,ok,hd,dg,hR,k⟩:=h
  have hu:=j8 hr;refine⟨_,(PSs.nox (ag (ay (i:=2) jY.nd rfl (Or.inl rfl) (aH b8.g (hr.mono (by decide)) rfl T.iW T.e7 b8.b .nil dU (aa (pv 0) ah)))
   (ao (a9 (sW (aA yG (pv 2) jo (aT _)) (pv 0) (dz (aa cA (aa (fm hu (pv 1) (pv 2) (λ_ _=>rfl)) ah)))))))),?_⟩
  refine⟨_,rfl,v,w,rfl,hv,ok,λH1 s1=>⟨_,rfl,rfl,_,rfl,?_⟩⟩;have hd1:Rd H1 d (.dK kvs):=by
   rcases hd with h|⟨o,h⟩
   ·exact .inl (s1 _ _ h)
   ·exact .inr ⟨o,s1 _ _ h⟩
  cases ea:w.adr with
  | none =>
   have ev:adV w=.non:=(by unfold adV;rw[ea]);have en:anew g w=w:=by
    cases w with
    | ad a=>cases ea
    | _=>rfl
   refine mX (λ_=>⟨_,rfl,k v H1 s1 (by rw[en];exact hv.keep (bg.of s1))⟩) (λh=>absurd (by rw[ev];rfl) h)
  | some a =>
   have ev:adV w=.int a:=(by unfold adV;rw[ea]);obtain rfl:=tO ea;refine mX (λh=>absurd h (by rw[ev];exact λz=>by cases z)) (λ_=>⟨_,rfl,_,rfl,d,.int (g a),rfl,.inl ⟨kvs,Sum.inl a,hd1,by rw[ev];rfl,(dg.v a (hR a rfl)).symm⟩,by show 2≤sizeLine;decide,λp hp=>?_⟩);exact k _ _ (s1.trans (ar.upd hp)) (.inr ⟨(by intro z;cases z),p,rfl,ae⟩)
def ic(c1 c2:Addr)(H H':Hp):Prop:=∀ b u,b≠c1→b≠c2→H b=some u→H' b=some u
theorem ic.same{c1 c2:Addr}{H H':Hp}(s:ar H H'):ic c1 c2 H H':=λb u _ _ q=>s b u q
theorem ic.l{c1 c2:Addr}{H H':Hp}(s:But c1 H H'):ic c1 c2 H H':=λb u n _ q=>s b u n q
theorem ic.r{c1 c2:Addr}{H H':Hp}(s:But c2 H H'):ic c1 c2 H H':=λb u _ n q=>s b u n q
theorem ic.trans{c1 c2:Addr}{H H1 H2:Hp}(a:ic c1 c2 H H1)(b:ic c1 c2 H1 H2):ic c1 c2 H H2:=λc u n m q=>b c u n m (a c u n m q)
theorem ic.ku{c1 c2:Addr}{H H':Hp}{xs ys:List V}(s:ic c1 c2 H H')(h1:H c1=some (.lst xs))(h2:H c2=some (.lst ys)):bg H H':=λt us q=>s t _ (cG q h1 (by intro z;cases z)) (cG q h2 (by intro z;cases z)) q
theorem Mm.but{D:Ad}{H H':Hp}{m mx c c':Addr}{xs zs:List V}{ws:List Mw}(M:Mm D H m mx c xs ws)(b:But c' H H')(n:c≠c')(h:H c'=some (.lst zs)):Mm D H' m mx c xs ws :=
 ⟨b _ _ (cG M.i h (by intro z;cases z)) M.i,b _ _ n M.l,M.r.keep (λt us q=>b _ _ (cG q h (by intro z;cases z)) q),M.z⟩
def Prs(H:Hp)(ps:List V)(R:List Int)(g:Int→Int):Prop:=ps.length=R.length∧∀(i:Nat) (u:V) (t:Int),ps[i]?=some u→R[i]?=some t→∃ q,u=.ref q∧H q=some (.tup [.int t,.int (g t)])
theorem Prs.keep{H H':Hp}{ps:List V}{ks:List Int}{g:Int→Int}(p:Prs H ps ks g)(s:bg H H'):Prs H' ps ks g:=⟨p.1,λi u t a b=>by obtain⟨q,e,h⟩:=p.2 i u t a b;exact⟨q,e,s _ _ h⟩⟩
theorem Prs.snoc{H:Hp}{ps:List V}{R:List Int}{g:Int→Int}{a:Int}{q:Addr}(p:Prs H ps R g)(h:H q=some (.tup [.int a,.int (g a)])):Prs H (ps++[.ref q]) (R++[a]) g:=by
 refine⟨by rw[JU,JU,p.1];rfl,λi u t h1 h2=>?_⟩;by_cases c:i<ps.length
 ·rw[Kg c]at h1
  rw[Kg (by rw[←p.1];exact c)]at h2;exact p.2 i u t h1 h2
 ·have e:i=ps.length:=by have:=(JN.mp h1).1;rw[JU,Kt]at this;omega
  subst e;rw[Ke (JR _),K1]at h1;rw[p.1,Ke (JR _),K1]at h2;cases h1;cases h2;exact⟨q,rfl,h⟩
def CW(D:Ad):Sp:=λvs H Q E=>∃ m mx c xs ws,∃(l:Addr) (ys:List V) (rs:List Mw) (f:Int→List Mw) (tt:Int→Int) (B:List Int),vs=[.ref m,.ref l]∧Mm D H m mx c xs ws∧Gm ws∧H l=some (.lst ys)∧MR H ys rs∧Sr ws rs f tt B∧(∀ a,Rch rs f a→a∉B→Bad D.af H E)∧∀ R H',Bfs rs f R→(∀ a∈R,a∈B)→ar H H'→Q (.int (tot f R)) H'
abbrev mn:List Str:=["source", "roots"]
theorem lC:aK mn ["source", "roots"] (aq gj):=⟨rfl,rfl,rfl,by decide +kernel,rfl,by decide +kernel,by decide +kernel⟩
theorem lD(F:Fun K "copied_words" "copied_words" gj D.bC D.dY)(T:Txt K mg D)
  (cY:Ok P w K mg base 8 D.bS D.d5 ["source", "roots"] (vq D))
  (cD:Ok P w K mg base 1 D.bA D.dI ["things"] (zN)):Ok P w K mg base 9 D.bC D.dY ["source", "roots"] (CW D):=by
 refine⟨?_,F.binds (ps:=["source", "roots"]) λ_ _ _ _ _ _ us hl=>match us,hl with|[_,_],_=>rfl⟩
 refine F.okE lC (λvs H Q E h=>?_) (λcdv A' outer s' H vs Q E hr h=>?_)
 ·obtain⟨m,mx,c,xs,ws,l,ys,rs,f,tt,B,rfl,_⟩:=h
  rfl
 ·obtain⟨m,mx,c,xs,ws,l,ys,rs,f,tt,B,rfl,M,gm,hl,ry,S,kb,k⟩:=h
  refine⟨_,(PSs.xr (ao (a9 (aH cD.g (hr.mono (by decide)) rfl T.ju T.fF cD.b .nil (jH λ_ _ _ q=>q) (aa (vj (aH cY.g (hr.mono (by decide)) rfl T.jW T.f9 cY.b .nil (jH λ_ _ _ q=>q) (aa (pv 0) (aa (pv 1) ah)))) ah))))),?_⟩;refine⟨_,rfl,_,rfl,m,mx,c,xs,ws,l,ys,rs,f,tt,B,rfl,M,gm,hl,ry,S,kb,λd kvs R H1 bf hB s1 hd0 hd dt=>⟨d,kvs,hd,λob=>?_⟩⟩;have lR:R.length≤10:=Ko (jw dt.n hB) S.bl;exact⟨d,ob,kvs,H,R,f,tt,rfl,ae,dt.keep (Kp.frz hd),lR,λa m=>S.fl a (hB a m),λH2 s2=>k R H2 bf hB (λb u q=>s2 _ _ (by rw[aj (ai q hd0)];exact s1 _ _ q))⟩
def CY(D:Ad):Sp:=λvs H Q E=>∃ m mx c xs ws m2 mx2 c2 xs2 ws2,∃(fs:Int) (l:Addr) (ys:List V) (rs:List Mw) (f:Int→List Mw) (tt:Int→Int) (B:List Int),vs=[.ref m,.ref m2,.int fs,.ref l]∧Mm D H m mx c xs ws∧Mm D H m2 mx2 c2 xs2 ws2∧c≠c2∧l≠c∧l≠c2∧Gm ws∧H l=some (.lst ys)∧MR H ys rs∧Sr ws rs f tt B∧0≤fs∧fs≤1000∧(∀ a,Rch rs f a→a∉B→Bad D.af H E)∧(∀ R,Bfs rs f R→(∀ a∈R,a∈B)→(0<(tot f R:Int)∧(ws2.length:Int)<fs+tot f R)→Bad D.au H E)∧∀ R p H',Bfs rs f R→(∀ a∈R,a∈B)→¬(0<(tot f R:Int)∧(ws2.length:Int)<fs+tot f R)→ic c c2 H H'→Q (.ref p) H'
abbrev ko:List Str:=["source", "target", "first", "roots", "things", "words", "places", "a", "fields"]
theorem gx:aK ko ["source", "target", "first", "roots"] (aq ir):=⟨rfl,rfl,rfl,by decide +kernel,rfl,by decide +kernel,by decide +kernel⟩
theorem xg(F:Fun K "copied" "copied" ir D.fi D.jc)(T:Txt K mg D)
  (cY:Ok P w K mg base 8 D.bS D.d5 ["source", "roots"] (vq D))
  (cD:Ok P w K mg base 1 D.bA D.dI ["things"] (zN))
  (aX:Ok P w K mg base 1 D.bB D.dj ["self"] (kn D))
  (fI:Ok P w K mg base 1 D.bM D.eC ["first", "things"] (CU))
  (xB:Ok P w K mg base 6 D.lg D.uu ["memory", "a", "t", "values"] (ze D))
  (eM:Ok P w K mg base 3 D.c9 D.fQ ["word", "places"] (CV))
  (aC:Ok P w K mg base 4 D.bE D.cX ["self", "a", "word"] (kD D))
  (av:Ok P w K mg base 1 D.ax D.aQ ["self", "text"] (yR K)):Ok P w K mg base 10 D.fi D.jc ["source", "target", "first", "roots"] (CY D):=by
 refine⟨?_,F.binds (ps:=["source", "target", "first", "roots"]) λ_ _ _ _ _ _ us hl=>match us,hl with|[_,_,_,_],_=>rfl⟩
 refine F.okE gx (λvs H Q E h=>?_) (λcdv A' outer s' H vs Q E hr h=>?_)
 ·obtain⟨m,mx,c,xs,ws,m2,mx2,c2,xs2,ws2,fs,l,ys,rs,f,tt,B,rfl,_⟩:=h
  rfl
 ·obtain⟨m,mx,c,xs,ws,m2,mx2,c2,xs2,ws2,fs,l,ys,rs,f,tt,B,rfl,M,M2,ncc,nlc,Gk,gm,hl,ry,S,fs0,fs1,kb,room,k⟩:=h
  have hu:=j8 hr;refine⟨_,(PSs.xr (ag (ay (i:=4) gx.nd rfl (Or.inl rfl) (vj (aH cY.g (hr.mono (by decide)) rfl T.jW T.f9 cY.b .nil (jH λ_ _ _ q=>q) (aa (pv 0) (aa (pv 3) ah)))))
   (ag (ay (i:=5) gx.nd rfl (Or.inl rfl) (aH cD.g (hr.mono (by decide)) rfl T.ju T.fF cD.b .nil (jH λ_ _ _ q=>q) (aa (pv 4) ah)))
   (ag (dw (PW.pt (pw_and (aA tW (pv 5) ak (aT _)) (pw_and1 (aA tW (aw aW (pv 2) (pv 5)) (nK (pv 1) T.aI T.gq aX.g (hr.mono (by decide)) aX.b .nil (jH λ_ _ _ q=>q)) (aT _)))))
    (ao (kh rfl DJ (rg T.w4 av.g (hr.mono (by decide)) rfl T.qa av.b (jH λ_ _ _ q=>q) (aa (m5 (dA iM (dA (lI (pv 5)) (dA iM (dA (lI (pv 2)) (dA iM m4)))))) ah))))
    aY)
   (ag (ay (i:=6) gx.nd rfl (Or.inr rfl) (vj (aH fI.g (hr.mono (by decide)) rfl T.oi T.hU fI.b .nil (jH λ_ _ _ q=>q) (aa (pv 2) (aa (pv 4) ah)))))
   (ag (fz HZ rfl (m9 (pv 4)) (aP (i:=7) gx.nd rfl (Or.inl rfl))
    (ag (ay (i:=8) gx.nd rfl (Or.inl rfl) (bI dm (fm hu (pv 4) (pv 7) (λ_ _=>rfl)) ak (λ_ _=>rfl)))
    (ag (cB (aH xB.g (hr.mono (by decide)) rfl T.G0 T.zK xB.b .nil (jH λ_ _ _ q=>q) (aa (pv 1) (aa (fm hu (pv 6) (pv 7) (λ_ _=>rfl)) (aa (bI dm (fm hu (pv 4) (pv 7) (λ_ _=>rfl)) ak (λ_ _=>rfl)) (aa (iN (cl:=[("places",s'.heap.objs.size+1)]) (x := "word") (idx:=[6]) (NC:=["word", "places"]) (by exact ft (sc:=aq ir) (N:=ko) (ns:=["places"]) rfl rfl rfl (by decide +kernel) rfl rfl (by intro q hq;rw[JO.mp hq];rfl)) rfl (eP (pv 8)) (λC fp s₀ H₀=>(aH eM.g (hr.mono (by decide)) rfl T.kZ T.gR eM.b .nil rn (aa (pv 0) (aa (pv 1) ah))))) ah))))))
    (ao (cB (eA (pv 0) T.aI T.dJ aC.g (hr.mono (by decide)) aC.b .nil (jH λ_ _ _ q=>q) (aa (pv 7) (aa (dz (aa cA (aa (fm hu (pv 6) (pv 7) (λ_ _=>rfl)) (aa (aV aL rfl T.fV PyProof.Rows.Boot.«len» (aa (pv 8) ah)) ah)))) ah))))))))
   (ao (a9 (dz (aa (iN (cl:=[("places",s'.heap.objs.size+1)]) (x := "word") (idx:=[6]) (NC:=["word", "places"]) (by exact ft (sc:=aq ir) (N:=ko) (ns:=["places"]) rfl rfl rfl (by decide +kernel) rfl rfl (by intro q hq;rw[JO.mp hq];rfl)) rfl (eP (pv 3)) (λC fp s₀ H₀=>(aH eM.g (hr.mono (by decide)) rfl T.kZ T.gR eM.b .nil rn (aa (pv 0) (aa (pv 1) ah))))) (aa (iN (cl:=[("places",s'.heap.objs.size+1)]) (x := "a") (idx:=[6]) (NC:=["a", "places"]) (by exact ft (sc:=aq ir) (N:=ko) (ns:=["places"]) rfl rfl rfl (by decide +kernel) rfl rfl (by intro q hq;rw[JO.mp hq];rfl)) rfl (m9 (pv 6)) (λC fp s₀ H₀=>(dz (aa (pv 0) (aa (fm hu (pv 1) (pv 0) (λ_ _=>rfl)) ah))))) ah))))))))))),?_⟩
  have z:=M.z;have z2:=M2.z;refine⟨_,rfl,_,rfl,m,mx,c,xs,ws,l,ys,rs,f,tt,B,rfl,M,gm,hl,ry,S,kb,λd kvs R H1 bf hB s1 hd0 hd dt=>⟨d,kvs,hd,λob=>?_⟩⟩;have lR:R.length≤10:=Ko (jw dt.n hB) S.bl;have fl:∀ a∈R,(f a).length≤6:=λa m=>S.fl a (hB a m);have nrm:=room R bf hB;have lt:=vR fl;have dt:=dt.keep (Kp.frz (o:=.frz ob (.dK kvs)) hd);have s2:ar H (upd H1 d (.frz ob (.dK kvs))):=λb u q=>by rw[aj (ai q hd0)];exact s1 _ _ q
  have hd2:upd H1 d (.frz ob (.dK kvs)) d=some (.frz ob (.dK kvs)):=ae;generalize upd H1 d (.frz ob (.dK kvs))=H2 at *;refine⟨_,rfl,d,ob,kvs,H,R,f,tt,rfl,hd2,dt,lR,fl,λH3 s3=>?_⟩;have M3:=M2.same (s2.trans s3);simp only[gO];refine dO λN hN=>?_;by_cases rm':0<(tot f R:Int)∧(ws2.length:Int)<fs+tot f R
  ·refine⟨_,rfl,_,0,rfl,rfl,_,rfl,?_⟩
   refine bQ (decide_eq_true rm'.1) ⟨_,rfl,_,rfl,_,_,rfl,rfl,_,rfl,m2,_,_,rfl,M3.i,(by kernel_rfl),m2,mx2,c2,xs2,ws2,rfl,M3,_,_,rfl,rfl,_,rfl,bQ (decide_eq_true (by omega)) ?_⟩;exact⟨_,rfl,_,rfl,Sm.of (by omega) (by omega),_,rfl,fs,rfl,Sm.of (by omega) (by omega),λy hy ea hea=>gw T.fO (λ_ q=>ar.none (s2.trans s3) q) ((nrm rm').same (s2.trans s3)) ea hea⟩
  have rm:0<(tot f R:Int)→fs+tot f R≤ws2.length:=λz=>by have:=λy=>rm' ⟨z,y⟩;omega
  have kk:=k R;clear k;have tk0:(0:Int)≤tot f R:=Int.natCast_nonneg _;have nd:=dt.n;have pix:∀ {i:Nat} {a:Int},R[i]?=some a→plA f fs R a=fs+tot f (R.take i):=λh=>za nd h;obtain⟨g,eg⟩:∃ g,plA f fs R=g:=⟨_,rfl⟩;rw[eg]at pix;have wR:∀ w∈Wl rs f R,Okw w∧∀ a,w=.ad a→a∈R:=λw mw=>⟨(S.ok hB mw).1,λa e=>bf.mem (by rw[←e];exact mw)⟩;suffices hq:N [some (.ref m),some (.ref m2),some (.int fs),some (.ref l),some (.ref d),some (.int (tot f R)),none,none,none] H3 by
   refine⟨_,rfl,_,0,rfl,rfl,_,rfl,?_⟩;by_cases h0:(0:Int)<tot f R
   ·refine bQ (decide_eq_true h0) ⟨_,rfl,_,rfl,_,_,rfl,rfl,_,rfl,m2,_,_,rfl,M3.i,(by kernel_rfl),m2,mx2,c2,xs2,ws2,rfl,M3,_,_,rfl,rfl,_,rfl,bK (decide_eq_false (by omega)) hq⟩
   ·exact bK (decide_eq_false h0) hq
  refine hN _ _ ?_;refine⟨_,rfl,_,rfl,fs,d,ob,kvs,H,R,f,tt,rfl,s3 _ _ hd2,dt.keep (Kp.of s3),lR,λp kvp H4 s4 hp0 hp dg=>⟨p,kvp,hp,λop=>?_⟩⟩;rw[eg]at dg;have s5:ar H3 (upd H4 p (.frz op (.dK kvp))):=λb u q=>by rw[aj (ai q hp0)];exact s4 _ _ q
  have hp5:upd H4 p (.frz op (.dK kvp)) p=some (.frz op (.dK kvp)):=ae;generalize upd H4 p (.frz op (.dK kvp))=H5 at *;have sA:ar H H5:=(s2.trans s3).trans s5;have dt5:=dt.keep (Kp.of (H0:=H) (s3.trans s5));have hd5:=s5 _ _ (s3 _ _ hd2);have ek:=dt.k;unfold Kys at ek;have lk:=dt.k.len;have M5:=M.same sA;have M25:=M2.same sA;have kpt:∀ {b:Addr} {u:HO} {Hx:Hp},ic c c2 H5 Hx→(∀ xs,u≠.lst xs)→H5 b=some u→Hx b=some u:=λ{b u Hx} bx n q=>bx b u (λz=>by rw[z,M5.l]at q;exact n _ (Kq q).symm) (λz=>by rw[z,M25.l]at q;exact n _ (Kq q).symm) q;have tpx:∀ {Hx:Hp},ic c c2 H5 Hx→bg H5 Hx:=λbx=>bx.ku M5.l M25.l;refine⟨_,rfl,d,ob,kvs,rfl,hd5,tJ (d:=d) (o:=ob) (kvs:=kvs) (λi σ Hx=>∃(v7 v8:Option V) (xs' CZ:List V),σ=[some (.ref m),some (.ref m2),some (.int fs),some (.ref l),some (.ref d),some (.int (tot f R)),some (.ref p),v7,v8]∧ic c c2 H5 Hx∧Mm D Hx m mx c xs' (zb f g ws (R.take i))∧Mm D Hx m2 mx2 c2 CZ (zc f g tt ws2 (R.take i))) ⟨none,none,xs,xs2,rfl,ic.same (ar.refl _),M5,M25⟩ (λi σ Hx _ ⟨_,_,_,_,_,bx,_⟩=>kpt bx (by intro xs z;cases z) hd5) ?_ ?_⟩
  ·rintro i pr σ Hx hpr ⟨v7,v8,xs',CZ,rfl,bx,Mx,M2x⟩
   have hk:(kvs.map (·.1))[i]?=some pr.1:=(by rw[JZ,hpr];rfl);rw[ek,JZ]at hk;obtain⟨a,ha,ep⟩:=Kn.mp hk;have ma:=J0 ha;obtain⟨q,lf,zs,h1,h2,h3,h4,h5⟩:=dt5.v a ma;rw[←ep];have pl:=pix ha;have tt1:=yj (f:=f) ha;have fla:=fl a ma;obtain⟨tg,_⟩:=S.th a (hB a ma);obtain⟨a0,hwa,al⟩:=km tg;have nf1:lf≠c:=λz=>by rw[z,M.l]at h3;cases h3
   have nf2:lf≠c2:=λz=>by rw[z,M2.l]at h3;cases h3
   have hdx:=kpt bx (by intro xs z;cases z) hd5;have hpx:=kpt bx (by intro xs z;cases z) hp5;have h2x:=tpx bx _ _ h2;have h4x:=bx _ _ nf1 nf2 h4;have h5x:=h5.keep (tpx bx);have e5:=h5.1;refine⟨_,rfl,_,rfl,d,_,rfl,.inl ⟨kvs,Sum.inl a,.inr ⟨ob,hdx⟩,rfl,h1.symm⟩,q,_,1,.ref lf,rfl,rfl,SqT.of h2x,rfl,?_⟩;refine⟨_,rfl,_,rfl,_,rfl,p,_,rfl,.inl ⟨kvp,Sum.inl a,.inr ⟨op,hpx⟩,rfl,(dg.v a ma).symm⟩,_,rfl,_,rfl,d,_,rfl,.inl ⟨kvs,Sum.inl a,.inr ⟨ob,hdx⟩,rfl,h1.symm⟩,q,_,0,.int (tt a),rfl,rfl,SqT.of h2x,rfl,_,rfl,lf,rfl,⟨_,SqL.of h4x⟩,λL hL=>?_⟩;refine ji (K:=K) (a:=lf) (xs:=zs) (λj ys Hc=>ar Hx Hc∧Hc L=some (.lst ys)∧MR Hc ys (((f a).take j).map (anew g))) ⟨ar.upd hL,ae,rfl,(λj v w h=>by cases h)⟩ (λj ys Hc hj ⟨_,y,r⟩=>⟨y,by rw[r.1,JS,Kf];omega⟩) (λj ys Hc _ ⟨sc,_⟩=>SqL.of (sc _ _ h4x)) (fH (by omega)) (λj v ys Hc hj ⟨sc,y,r⟩=>?_) (λys Hc ⟨sc,y,r⟩=>?_)
   ·have hjl:j<(f a).length:=by rw[←e5];exact(JN.mp hj).1
    have hw:(f a)[j]?=some (f a)[j]:=JM hjl;obtain⟨w,ew⟩:∃ w,(f a)[j]=w:=⟨_,rfl⟩;rw[ew]at hw;have mw:w∈Wl rs f R:=JP _ (LG.mpr ⟨a,ma,J0 hw⟩);refine⟨_,rfl,_,rfl,v,w,p,kvp,R,g,rfl,(h5x.2 j v w hj hw).keep (bg.of sc),(wR w mw).1,.inr ⟨op,sc _ _ hpx⟩,dg,(wR w mw).2,λv' H' s' mv'=>⟨s' _ _ y,λb u z=>by rw[aj (ai z hL)];exact s' _ _ (sc b u z),ae,?_⟩⟩;have tu:bg H' (upd H' L (.lst (ys++[v']))):=λb us z=>by rw[aj (cG z (s' _ _ y) (by intro z;cases z))];exact z
    rw[bF hw,Km];exact((r.keep (bg.of s')).snoc mv').keep tu
   ·rw[e5,J9 (JR _)]at r
    have M2c:=M2x.same sc;have Js:L≠c2:=KG (ai M2x.l hL);have nLc:L≠c:=KG (ai Mx.l hL);refine⟨m2,mx2,c2,CZ,_,g a,tt a,L,ys,_,rfl,M2c,y,r,Js,by omega,by rw[yl,JS];omega,λxs3 H6 b6 M26=>?_⟩;have Mc:=(Mx.same sc).but b6 ncc M2c.l;have hp6:=b6 _ _ (cG (sc _ _ hpx) M2c.l (by intro z;cases z)) (sc _ _ hpx);have h46:=b6 _ _ nf2 (sc _ _ h4x);refine⟨_,rfl,m,_,_,rfl,Mc.i,(by kernel_rfl),_,rfl,_,rfl,_,rfl,p,_,rfl,.inl ⟨kvp,Sum.inl a,.inr ⟨op,hp6⟩,rfl,(dg.v a ma).symm⟩,_,rfl,lf,_,rfl,.inl (SqL.of h46),by show 3≤sizeLine;decide,λt7 ht7=>?_⟩;have s7:=ar.upd (o:=.tup [V.str "moved",V.int (g a),V.int zs.length]) ht7;have M7:=Mc.same s7;refine⟨m,mx,c,xs',_,a,.ref t7,.mv (g a) (f a).length,rfl,M7,Sm.of (by omega) (by omega),.inr ⟨(by intro z;cases z),t7,rfl,by rw[ae,e5];rfl⟩,?_⟩;rw[yk,if_pos ⟨a0,by omega⟩];intro M8;have bz:But c (upd H6 t7 (.tup [V.str "moved",V.int (g a),V.int zs.length])) _:=But.self (o:=.lst (xs'.set a.toNat (.ref t7)));refine⟨some (.int a),some (.ref lf),xs'.set a.toNat (.ref t7),xs3,rfl,((bx.trans (ic.same sc)).trans (ic.r b6)).trans ((ic.same s7).trans (ic.l bz)),?_,?_⟩
    ·rw[bF ha,xb]
     exact M8
    ·rw[bF ha,xf]
     exact(M26.same s7).but bz (KG ncc) M7.l
  ·rintro σ Hx ⟨v7,v8,xs',CZ,rfl,bx,Mx,M2x⟩
   rw[lk,J9 (JR _)]at Mx M2x;have hpx:=kpt bx (by intro xs z;cases z) hp5;have hlx:=bx _ _ nlc Gk (sA _ _ hl);have ryx:=(ry.keep (bg.of sA)).keep (tpx bx);have er:=ry.1;have rl:=S.rl;refine⟨_,rfl,l,rfl,⟨_,SqL.of hlx⟩,λL1 hL1=>?_⟩;refine ji (K:=K) (a:=l) (xs:=ys) (λj zs Hc=>ar Hx Hc∧Hc L1=some (.lst zs)∧MR Hc zs ((rs.take j).map (anew g))) ⟨ar.upd hL1,ae,rfl,(λj v w h=>by cases h)⟩ (λj zs Hc hj ⟨_,y,r⟩=>⟨y,by rw[r.1,JS,Kf];omega⟩) (λj zs Hc _ ⟨sc,_⟩=>SqL.of (sc _ _ hlx)) (fH (by omega)) (λj v zs Hc hj ⟨sc,y,r⟩=>?_) (λzs Hc ⟨sc,y,r⟩=>?_)
   ·have hjl:j<rs.length:=by rw[←er];exact(JN.mp hj).1
    have hw:rs[j]?=some rs[j]:=JM hjl;obtain⟨w,ew⟩:∃ w,rs[j]=w:=⟨_,rfl⟩;rw[ew]at hw;have mw:w∈Wl rs f R:=Kw _ (J0 hw);refine⟨_,rfl,_,rfl,v,w,p,kvp,R,g,rfl,(ryx.2 j v w hj hw).keep (bg.of sc),(wR w mw).1,.inr ⟨op,sc _ _ hpx⟩,dg,(wR w mw).2,λv' H' s' mv'=>⟨s' _ _ y,λb u z=>by rw[aj (ai z hL1)];exact s' _ _ (sc b u z),ae,?_⟩⟩;have tu:bg H' (upd H' L1 (.lst (zs++[v']))):=λb us z=>by rw[aj (cG z (s' _ _ y) (by intro z;cases z))];exact z
    rw[bF hw,Km];exact((r.keep (bg.of s')).snoc mv').keep tu
   ·rw[er,J9 (JR _)]at r
    have lp:=dg.k.len;have eg2:=dg.k;unfold Kys at eg2;have hpc:=sc _ _ hpx;refine⟨_,rfl,p,op,kvp,rfl,hpc,λL2 hL2=>?_⟩;refine p7 (d:=p) (o:=op) (kvs:=kvp) (λj ps Hd=>ar Hc Hd∧Hd L2=some (.lst ps)∧Prs Hd ps (R.take j) g) ⟨ar.upd hL2,ae,rfl,(λj v w h=>by cases h)⟩ (λj ps Hd hj ⟨_,y,r⟩=>⟨y,by rw[r.1,Kf];omega⟩) (λj ps Hd _ ⟨sd,_⟩=>sd _ _ hpc) (fH (by omega)) (λj pr ps Hd hj ⟨sd,y2,r2⟩=>?_) (λps Hd ⟨sd,y2,r2⟩=>?_)
    ·have hk:(kvp.map (·.1))[j]?=some pr.1:=by rw[JZ,hj];rfl
     rw[eg2,JZ]at hk;obtain⟨a,ha,ep⟩:=Kn.mp hk;have ma:=J0 ha;rw[←ep];refine⟨_,rfl,_,rfl,_,rfl,p,_,rfl,.inl ⟨kvp,Sum.inl a,.inr ⟨op,sd _ _ hpc⟩,rfl,(dg.v a ma).symm⟩,by show 2≤sizeLine;decide,λt9 h9=>?_⟩;have s9:=ar.upd (o:=.tup [V.int a,V.int (g a)]) h9;have z9:=s9 _ _ y2;refine⟨z9,λb u z=>by rw[aj (ai z hL2)];exact s9 _ _ (sd b u z),ae,?_⟩;rw[bF ha];exact((r2.keep (bg.of s9)).snoc ae).keep λb us z=>by rw[aj (cG z z9 (by intro z;cases z))];exact z
    ·rw[lp,J9 (JR _)]at r2
     refine⟨by show 2≤sizeLine;decide,λpp hpp=>?_⟩;have s10:=ar.upd (o:=.tup [V.ref L1,V.ref L2]) hpp;have sF:=(sc.trans sd).trans s10;exact kk pp _ bf hB rm' (((ic.same sA).trans bx).trans (ic.same sF))
end
end K42
end
section
namespace L2
open PySem PySem.Spec PyProof.Rows LX
def Jt:List V→Hp→VK→Prop:=λvs H Q=>∃ n:Int,vs=[.int n]∧∀ r,H r=none→Q (.ref r) (upd H r (.rng 0 n))
section
variable{X:Cx}
theorem ym:je X (.type "range") Jt:=by
 rintro pins s σ H xs us Q I r ⟨n,rfl,q⟩;obtain⟨u,rfl,t,rfl⟩:=r.one;refine call_range_1 ⟨.ref s.heap.objs.size,_,I.laid (a:=s.heap.objs.size) (o:=.rng 0 n) (t':=s.toks+1+1) (λb o e=>JQ _ e) (JR _) ⟨_,_,_,Kk _ rfl⟩,rfl,q _ (I.hok.fresh (JR _))⟩
end
end L2
end
section
namespace K42
open PySem L2 LX
section
variable{P:Program}{w:World}{K:W.Frag}{mg:Str→Option Value}{base:Heap}{D:Ad}
theorem qU{H H':Hp}{a:Addr}{xs:List V}(h:SqL K H a xs)(s:ar H H'):SqL K H' a xs:=Or.imp (λr=>Or.elim r (λe=>.inl (s _ _ e)) λ⟨o,e⟩=>.inr ⟨o,s _ _ e⟩) id h
def vS(K:W.Frag):Sp:=λvs H Q _=>∃(a:Addr) (ns:List Int) (j:Int),vs=[.ref a,.int j]∧SqL K H a (ns.map V.int)∧0≤j∧Q (.int (ns.getD j.toNat 0)) H
abbrev rV:List Str:=["script", "k"]
theorem qv:aK rV ["script", "k"] (aq i6):=⟨rfl,rfl,rfl,by decide +kernel,rfl,by decide +kernel,by decide +kernel⟩
theorem qw(F:Fun K "_law_cell" "_law_cell" i6 D.de D.fR)(T:Txt K mg D):Ok P w K mg base 1 D.de D.fR ["script", "k"] (vS K):=by
 refine⟨?_,F.binds (ps:=["script", "k"]) λ_ _ _ _ _ _ us hl=>match us,hl with|[_,_],_=>rfl⟩
 refine F.okE qv (λvs H Q E h=>?_) (λcdv A' outer s' H vs Q E hr h=>?_)
 ·obtain⟨a,ns,j,rfl,_⟩:=h
  rfl
 ·obtain⟨a,ns,j,rfl,hS,j0,k⟩:=h
  refine⟨_,(PSs.nox (ag (dw (aA qY (pv 1) (aV aL rfl T.fV PyProof.Rows.Boot.«len» (aa (pv 0) ah)) (aT _))
    (ao (a9 (bI cg (pv 0) (pv 1) (λ_ _=>rfl))))
    aY)
   (ao (a9 ak)))),?_⟩
  refine⟨_,rfl,_,rfl,a,_,rfl,.inl hS,j,_,rfl,rfl,_,rfl,mX (λh=>?_) (λh=>?_)⟩
  case refine_2 =>
   have hl:ns.length≤j.toNat:=by
    have h:=of_decide_eq_false (Bool.eq_false_iff.mpr h);rw[JS]at h;omega
   rw[Ki,List.getElem?_eq_none_iff.mpr hl]at k;exact k
  have hl:j.toNat<ns.length:=by
   have:=of_decide_eq_true h
   rw[JS]at this;omega
  exact⟨_,rfl,_,rfl,a,_,j,.int ns[j.toNat],rfl,rfl,hS,eL j0 (by rw[JZ,JM hl];rfl),by rw[Ki,JM hl]at k;exact k⟩
def qc:Sp:=λvs H Q _=>∃ c:Int,vs=[.int c]∧∀(p:Addr) (ds:List Int) (H':Hp),ar H H'→H' p=some (.lst (ds.map V.int))→H p=none→ds.length=6→Q (.ref p) H'
abbrev oI:List Str:=["cell", "rest", "told", "k", "near"]
theorem cN:aK oI ["cell"] (aq g7):=⟨rfl,rfl,rfl,by decide +kernel,rfl,by decide +kernel,by decide +kernel⟩
theorem mq(F:Fun K "_law_digits" "_law_digits" g7 D.bN D.eD)(T:Txt K mg D):Ok P w K mg base 1 D.bN D.eD ["cell"] (qc):=by
 refine⟨?_,F.binds (ps:=["cell"]) λ_ _ _ _ _ _ us hl=>match us,hl with|[_],_=>rfl⟩
 refine F.okE cN (λvs H Q E h=>?_) (λcdv A' outer s' H vs Q E hr h=>?_)
 ·obtain⟨c,rfl,_⟩:=h
  rfl
 ·obtain⟨c,rfl,k⟩:=h
  refine⟨_,(PSs.nox (ag (ay (i:=1) cN.nd rfl (Or.inl rfl) (aw cC (pv 0) ak))
   (ag (ay (i:=2) cN.nd rfl (Or.inl rfl) (dk ah))
   (ag (fz Kx rfl (fN rfl T.fX (aa ak ah)) (aP (i:=3) cN.nd rfl (Or.inl rfl))
    (ao (dw (aA jf (aw bc (pv 0) ak) ak (aT _))
     (ag (cB (mW PySem.F.plainAttrs_list PySem.F.slot_list_append PySem.F.type_list_append gu (pv 2) (aa (aw bc (pv 1) ak) ah)))
     (ao (ay (i:=1) cN.nd rfl (Or.inl rfl) (aw cC (pv 1) ak))))
     (ag (ay (i:=4) cN.nd rfl (Or.inl rfl) (aw bc (aw aW (aw aW (pv 1) (aw iq ak (pv 3))) ak) ak))
     (ag (ay (i:=4) cN.nd rfl (Or.inl rfl) (aw aW (aw bc (aw iq (pv 4) (pv 4)) ak) (aw iq ak (pv 3))))
     (ao (cB (mW PySem.F.plainAttrs_list PySem.F.slot_list_append PySem.F.type_list_append gu (pv 2) (aa (aw bc (aw cC (aw bc (aw iq (pv 4) (pv 4)) ak) ak) ak) ah)))))))))
   (ao (a9 (pv 2))))))),?_⟩
  refine⟨_,rfl,c,2,rfl,rfl,⟨by decide,by decide⟩,by show 0≤sizeLine;exact Kh _,λp hp=>?_⟩;refine⟨6,rfl,by decide,by decide,pN (lo:=0) (n:=6) (λi σ H2=>∃(r:Int) (v3 v4:Option V) (ds:List Int),σ=[some (.int c),some (.int r),some (.ref p),v3,v4]∧ar H H2∧H2 p=some (.lst (ds.map V.int))∧ds.length=i)
   ⟨_,none,none,[],rfl,ar.upd hp,ae,rfl⟩ ?_ ?_⟩
  ·rintro i σ H2 hi ⟨r,v3,v4,ds,rfl,s2,z,hl⟩
   have fin:∀ d:Int,ar H (upd H2 p (.lst (ds.map V.int++[V.int d])))∧upd H2 p (.lst (ds.map V.int++[V.int d])) p=some (.lst ((ds++[d]).map V.int))∧(ds++[d]).length=i+1:=λd =>
    ⟨λb u q=>by rw[aj (ai q hp)];exact s2 b u q,by rw[ae,Km];rfl,by rw[JU,hl];rfl⟩
   have hz:(ds.map V.int).length<sizeLine:=(by rw[JS,hl];exact Nat.lt_trans hi (by decide));refine⟨_,rfl,c,2,rfl,rfl,(by show(0:Int)<2;decide),rfl,_,rfl,mX (λ_=>?_) (λ_=>?_)⟩
   ·refine⟨_,rfl,.inl ⟨rfl,_,SqL.of z⟩,_,rfl,r,60,rfl,rfl,(by show(0:Int)<60;decide),p,_,_,rfl,rfl,z,hz,?_⟩
    refine⟨_,rfl,r,60,rfl,rfl,⟨by decide,by decide⟩,?_⟩;exact⟨_,_,_,_,rfl,fin _⟩
   ·refine⟨_,rfl,_,rfl,7919,_,rfl,rfl,.inl ⟨by decide,by decide⟩,r,_,rfl,rfl,_,11,rfl,rfl,_,2305843009213693951,rfl,rfl,(by show(0:Int)<2305843009213693951;decide),?_⟩
    have b0:=Kj (r+7919*(0+(i:Int))+11) (show(2305843009213693951:Int)≠0 by decide);have b1:=Kd (r+7919*(0+(i:Int))+11) (show(0:Int)<2305843009213693951 by decide);obtain⟨n1,e1⟩:∃ n1,(r+7919*(0+(i:Int))+11)%2305843009213693951=n1:=⟨_,rfl⟩;rw[e1]at b0 b1;have c0:=Kj (n1*n1) (show(1000000007:Int)≠0 by decide);have c1:=Kd (n1*n1) (show(0:Int)<1000000007 by decide);refine⟨_,rfl,_,rfl,_,_,rfl,rfl,.inl ?_,_,1000000007,rfl,rfl,(by show(0:Int)<1000000007;decide),_,rfl,31,_,rfl,rfl,.inl ⟨by decide,by decide⟩,_,_,rfl,rfl,?_⟩
    ·show _<(r+7919*(0+(i:Int))+11)%2305843009213693951∧(r+7919*(0+(i:Int))+11)%2305843009213693951<_
     rw[e1];omega
    ·refine⟨_,rfl,.inl ⟨rfl,_,SqL.of z⟩,_,rfl,_,rfl,_,_,rfl,rfl,.inl ?_,_,998244353,rfl,rfl,(by show(0:Int)<998244353;decide),_,8,rfl,rfl,⟨by decide,by decide⟩,_,60,rfl,rfl,(by show(0:Int)<60;decide),p,_,_,rfl,rfl,z,hz,?_⟩
     ·show _<(r+7919*(0+(i:Int))+11)%2305843009213693951*((r+7919*(0+(i:Int))+11)%2305843009213693951)%1000000007+31*(0+(i:Int))∧(r+7919*(0+(i:Int))+11)%2305843009213693951*((r+7919*(0+(i:Int))+11)%2305843009213693951)%1000000007+31*(0+(i:Int))<_
      rw[e1];omega
     ·exact⟨_,_,_,_,rfl,fin _⟩
  ·rintro σ H2 ⟨r,v3,v4,ds,rfl,s2,z,hl⟩
   exact⟨_,rfl,k p ds H2 s2 z hp hl⟩
def qd(K:W.Frag):Sp:=λvs H Q _=>∃(a:Addr) (ns:List Int),vs=[.ref a,.int 130]∧SqL K H a (ns.map V.int)∧ns.length≤1000∧∀(p:Addr) (ds:List Int) (H':Hp),ar H H'→H' p=some (.lst (ds.map V.int))→H p=none→ds.length=130→Q (.ref p) H'
abbrev jz:List Str:=["script", "many", "told", "k", "cell", "place", "digit", "at"]
theorem cO:aK jz ["script", "many"] (aq fD):=⟨rfl,rfl,rfl,by decide +kernel,rfl,by decide +kernel,by decide +kernel⟩
theorem mz(F:Fun K "_law_stream" "_law_stream" fD D.bO D.eE)(T:Txt K mg D)
  (fJ:Ok P w K mg base 1 D.bN D.eD ["cell"] (qc)):Ok P w K mg base 2 D.bO D.eE ["script", "many"] (qd K):=by
 refine⟨?_,F.binds (ps:=["script", "many"]) λ_ _ _ _ _ _ us hl=>match us,hl with|[_,_],_=>rfl⟩
 refine F.okE cO (λvs H Q E h=>?_) (λcdv A' outer s' H vs Q E hr h=>?_)
 ·obtain⟨a,ns,rfl,_⟩:=h
  rfl
 ·obtain⟨a,ns,rfl,hS,hz,k⟩:=h
  refine⟨_,(PSs.nox (ag (m8 (cl:=[]) (x := "k") (idx:=[]) (NC:=["k"]) (i:=2) cO.nd rfl rfl (by exact ft (sc:=aq fD) (N:=jz) (ns:=[]) rfl rfl rfl (by decide +kernel) rfl rfl (by intro q hq;cases hq)) rfl (fN rfl T.fX (aa (pv 1) ah)) (λC fp s₀ H₀=>(aw bc (aw aW (aw aW (aw iq (aw iq (pv 0) (pv 0)) ak) (aw iq ak (pv 0))) ak) ak)))
   (ag (fz Kx rfl (m7 rfl T.eK (aa (pv 0) ah)) (gY rfl (aN (aP (i:=3) cO.nd rfl (Or.inl rfl)) (aN (aP (i:=4) cO.nd rfl (Or.inl rfl)) fj)))
    (ao (fz Kx rfl (m7 rfl T.eK (aa (aH fJ.g (hr.mono (by decide)) rfl T.oj T.hV fJ.b .nil dU (aa (pv 4) ah)) ah)) (gY rfl (aN (aP (i:=5) cO.nd rfl (Or.inl rfl)) (aN (aP (i:=6) cO.nd rfl (Or.inl rfl)) fj)))
     (ag (ay (i:=7) cO.nd rfl (Or.inl rfl) (aw bc (aw aW (aw iq ak (pv 3)) (pv 5)) (pv 1)))
     (ao (j3 (aw bc (aw aW (aw iq (bI cg (pv 2) (pv 7) (λ_ _=>rfl)) ak) (pv 6)) ak) (n6 (pv 2) (pv 7) set_list)))))))
   (ao (a9 (pv 2)))))),?_⟩
  refine⟨_,rfl,130,rfl,by decide,by decide,λDd hD=>?_⟩;refine gz (lo:=0) (n:=130) (λi zs H2=>∃ ds:List Int,zs=ds.map V.int∧ds.length=i∧ar H H2∧H2 Dd=some (.lst zs)) ⟨[],rfl,rfl,ar.upd hD,ae⟩ (λi zs H2 hi ⟨ds,e,l,_,z⟩=>⟨z,by rw[e,JS];exact l⟩)
   (by decide) (λi zs H2 hi ⟨ds,e,l,s2,z⟩=>?_) (λzs H2 ⟨ds,e,l,s2,z⟩=>?_)
  ·refine⟨_,rfl,_,rfl,0+(i:Int),0+(i:Int),rfl,rfl,.inl ⟨by omega,by omega⟩,_,7,rfl,rfl,.inr ⟨by decide,by decide⟩,_,rfl,13,_,rfl,rfl,.inl ⟨by decide,by decide⟩,_,_,rfl,rfl,_,5,rfl,rfl,_,61,rfl,rfl,(by show(0:Int)<61;decide),z,ds++[((0+(i:Int))*(0+(i:Int))*7+13*(0+(i:Int))+5)%61],?_,?_,?_,ae⟩
   ·rw[Km,e];rfl
   ·rw[JU,l];rfl
   ·exact λb u q=>by rw[aj (ai q hD)];exact s2 b u q
  ·have fin:∀ {H3:Hp} {zs:List V},ar H H3→ar H (upd H3 Dd (.lst zs)):=λs3 b u q=>by rw[aj (ai q hD)];exact s3 b u q
   refine⟨_,rfl,a,rfl,⟨_,qU hS s2⟩,kj (K:=K) (a:=a) (xs:=ns.map V.int) (λi σ H3=>∃(v3 v4 v5 v6 v7:Option V) (ds:List Int),σ=[some (.ref a),some (.int 130),some (.ref Dd),v3,v4,v5,v6,v7]∧ar H H3∧H3 Dd=some (.lst (ds.map V.int))∧ds.length=130)
    ⟨none,none,none,none,none,ds,rfl,s2,by rw[←e];exact z,l⟩ (λi σ H3 _ ⟨_,_,_,_,_,_,_,s3,_⟩=>qU hS s3) ?_ ?_⟩
   ·rintro i x σ H3 t hi ⟨v3,v4,v5,v6,v7,ds3,rfl,s3,z3,l3⟩ ht
    have hlt:i<ns.length:=(by have:=(JN.mp hi).1;rwa[JS]at this);rw[JZ]at hi;obtain⟨n,hn,rfl⟩:=Kn.mp hi;have s4:ar H (upd H3 t (.tup [.int (i:Int),.int n])):=s3.trans (ar.upd ht);have z4:upd H3 t (.tup [.int (i:Int),.int n]) Dd=some (.lst (ds3.map V.int)):=(by rw[aj (ai z3 ht)];exact z3);refine⟨t,_,rfl,SqT.of ae,rfl,_,_,rfl,_,_,rfl,rfl,?_⟩;refine⟨_,rfl,n,rfl,λp2 ds2 H5 s5 z5 hp2 l2=>?_⟩;have nD:Dd≠p2:=ai z4 hp2;refine⟨p2,rfl,⟨_,SqL.of z5⟩,kj (K:=K) (a:=p2) (xs:=ds2.map V.int) (λj σ H6=>∃(v5 v6 v7:Option V) (ds:List Int),σ=[some (.ref a),some (.int 130),some (.ref Dd),some (.int (i:Int)),some (.int n),v5,v6,v7]∧ar H H6∧H6 Dd=some (.lst (ds.map V.int))∧ds.length=130∧H6 p2=some (.lst (ds2.map V.int)))
     ⟨_,_,_,ds3,rfl,s4.trans s5,s5 _ _ z4,l3,z5⟩ (λj σ H6 _ ⟨_,_,_,_,_,_,_,_,q⟩=>SqL.of q) ?_ ?_⟩
    ·rintro j y σ H6 t2 hj ⟨v5,v6,v7,ds6,rfl,s6,z6,l6,q6⟩ ht2
     have hjt:j<ds2.length:=(by have:=(JN.mp hj).1;rwa[JS]at this);rw[JZ]at hj;obtain⟨d,hd,rfl⟩:=Kn.mp hj;have s7:ar H (upd H6 t2 (.tup [.int (j:Int),.int d])):=s6.trans (ar.upd ht2);have z7:upd H6 t2 (.tup [.int (j:Int),.int d]) Dd=some (.lst (ds6.map V.int)):=(by rw[aj (ai z6 ht2)];exact z6);have q7:upd H6 t2 (.tup [.int (j:Int),.int d]) p2=some (.lst (ds2.map V.int)):=(by rw[aj (ai q6 ht2)];exact q6);refine⟨t2,_,rfl,SqT.of ae,rfl,_,_,rfl,_,_,rfl,rfl,?_⟩;refine⟨_,rfl,6,_,rfl,rfl,.inl ⟨by decide,by decide⟩,_,rfl,_,_,rfl,rfl,_,rfl,_,130,rfl,rfl,(by show(0:Int)<130;decide),?_⟩;have b0:=Kj (6*(i:Int)+(j:Int)) (show(130:Int)≠0 by decide);have b1:=Kd (6*(i:Int)+(j:Int)) (show(0:Int)<130 by decide);obtain⟨m,em⟩:∃ m:Nat,(6*(i:Int)+(j:Int))%130=(m:Int):=⟨((6*(i:Int)+(j:Int))%130).toNat,by omega⟩;have hm:m<ds6.length:=(by omega);have hat:atI (ds6.map V.int) ((6*(i:Int)+(j:Int))%130)=some (.int (ds6[m]'hm)):=by
      rw[em];exact vF (by rw[JZ,JM hm];rfl)
     have hix:ixN (ds6.map V.int).length ((6*(i:Int)+(j:Int))%130)=some m:=by
      rw[em];unfold ixN;rw[if_pos (by omega),if_pos (by rw[JS];omega)];rfl
     refine⟨_,rfl,_,rfl,Dd,_,_,.int (ds6[m]'hm),rfl,rfl,SqL.of z7,hat,_,7,rfl,rfl,.inr ⟨by decide,by decide⟩,_,rfl,_,_,rfl,rfl,_,100003,rfl,rfl,(by show(0:Int)<100003;decide),?_⟩;refine⟨_,rfl,_,rfl,Dd,_,_,m,rfl,rfl,z7,hix,?_⟩;refine⟨_,_,_,ds6.set m ((ds6[m]'hm*7+d)%100003),rfl,fin s7,?_,by rw[Kr];exact l6,?_⟩
     ·rw[ae,List.map_set]
     ·rw[aj (KG nD)]
      exact q7
    ·rintro σ H6 ⟨v5,v6,v7,ds6,rfl,s6,z6,l6,_⟩
     exact⟨_,_,_,_,_,ds6,rfl,s6,z6,l6⟩
   ·rintro σ H3 ⟨v3,v4,v5,v6,v7,ds3,rfl,s3,z3,l3⟩
    exact⟨_,rfl,k Dd ds3 H3 s3 z3 hD l3⟩
def Wby(ps:List Int)(w:Mw):Prop:=w=.no∨(∃ z,w=.num z)∨∃ a∈ps,w=.ad a
def C0:Sp:=λvs H Q _=>∃(n:Int) (lp:Addr) (ps:List Int),vs=[.int n,.ref lp]∧H lp=some (.lst (ps.map V.int))∧∀ v w H',ar H H'→MV H' v w→Wby ps w→Q v H'
abbrev mC:List Str:=["number", "places"]
theorem lE:aK mC ["number", "places"] (aq gp):=⟨rfl,rfl,rfl,by decide +kernel,rfl,by decide +kernel,by decide +kernel⟩
theorem lF(F:Fun K "_law_word_by" "_law_word_by" gp D.bD D.dZ)(T:Txt K mg D):Ok P w K mg base 1 D.bD D.dZ ["number", "places"] (C0):=by
 refine⟨?_,F.binds (ps:=["number", "places"]) λ_ _ _ _ _ _ us hl=>match us,hl with|[_,_],_=>rfl⟩
 refine F.okE lE (λvs H Q E h=>?_) (λcdv A' outer s' H vs Q E hr h=>?_)
 ·obtain⟨n,lp,ps,rfl,_⟩:=h
  rfl
 ·obtain⟨n,lp,ps,rfl,hl,k⟩:=h
  have hu:=Nat.lt_of_succ_lt (j8 hr);refine⟨_,(PSs.nox (ag (dw (PW.pt (pw_or (aA jf (aw bc (pv 0) ak) ak (aT _)) (pw_or1 (PW.pt (pw_and (aA tW (aw bc (pv 0) ak) ak (aT _)) (pw_and1 (aA (DI hu) (pv 1) (dk ah) (aT _))))))))
    (ao (a9 (dz (aa cA (aa (aw yD (aw cC (pv 0) ak) ak) ah)))))
    aY)
   (ag (dw (aA jf (aw bc (pv 0) ak) ak (aT _))
    (ao (a9 jo))
    aY)
   (ao (a9 (dz (aa cA (aa (bI cg (pv 1) (aw bc (aw cC (pv 0) ak) (aV aL rfl T.fV PyProof.Rows.Boot.«len» (aa (pv 1) ah))) (λ_ _=>rfl)) ah)))))))),?_⟩
  refine⟨_,rfl,n,4,rfl,rfl,(by show(0:Int)<4;decide),rfl,_,rfl,mX (λ_=>tw ⟨_,rfl,n,4,rfl,rfl,⟨by decide,by decide⟩,_,5000,rfl,rfl,by show 2≤sizeLine;decide,λq hq=>k _ (.num (n/4-5000)) _ (ar.upd hq) (.inr ⟨(by intro z;cases z),q,rfl,ae⟩) (.inr (.inl ⟨_,rfl⟩))⟩) (λh1=>?_)⟩;have m0:=Kj n (show(4:Int)≠0 by decide);have m1:=Kd n (show(0:Int)<4 by decide);have r1:n%4≠1:=λe=>h1 (by show decide (V.int (n%4)=V.int 1)=true;rw[e];rfl);refine⟨_,rfl,n,4,rfl,rfl,(by show(0:Int)<4;decide),_,1,rfl,rfl,_,rfl,?_⟩;by_cases c2:1<n%4
  ·refine bQ (decide_eq_true c2) ⟨_,rfl,by show 0≤sizeLine;exact Kh _,λe he=>?_⟩
   have s1:=ar.upd (o:=.lst []) he;refine⟨lp,e,ps,[],rfl,rfl,SqL.of (s1 _ _ hl),SqL.of ae,_,rfl,?_⟩;by_cases cp:ps=[]
   ·exact bQ (decide_eq_true cp) ⟨_,rfl,n,4,rfl,rfl,⟨by decide,by decide⟩,_,5000,rfl,rfl,by show 2≤sizeLine;decide,λq hq=>k _ (.num (n/4-5000)) _ (s1.trans (ar.upd hq)) (.inr ⟨(by intro z;cases z),q,rfl,ae⟩) (.inr (.inl ⟨_,rfl⟩))⟩
   ·have lz:0<ps.length:=Li.mpr cp
    have q0:=Kj (n/4) (show(ps.length:Int)≠0 by omega);have q1:=Kd (n/4) (show(0:Int)<ps.length by omega);have hx:ps[(n/4%(ps.length:Int)).toNat]?=some (ps[(n/4%(ps.length:Int)).toNat]'(by omega)):=JM _;refine bK (decide_eq_false cp) ⟨_,rfl,n,4,rfl,rfl,(by show(0:Int)<4;decide),rfl,_,rfl,bK (by simp;omega) ⟨_,rfl,_,rfl,n,4,rfl,rfl,⟨by decide,by decide⟩,_,rfl,lp,_,rfl,.inl (SqL.of (s1 _ _ hl)),_,_,rfl,rfl,?_,lp,_,_,.int _,rfl,rfl,SqL.of (s1 _ _ hl),eL ?_ (by rw[JS,JZ,hx];rfl),by show 2≤sizeLine;decide,λq hq=>k _ (.ad _) _ (s1.trans (ar.upd hq)) (.inr ⟨(by intro z;cases z),q,rfl,ae⟩) (.inr (.inr ⟨_,J0 hx,rfl⟩))⟩⟩
    ·rw[JS];omega
    ·rw[JS];exact q0
  ·refine bK (decide_eq_false c2) (kU ⟨_,rfl,n,4,rfl,rfl,(by show(0:Int)<4;decide),rfl,_,rfl,bQ (by simp;omega) ?_⟩)
   exact k .non .no H (ar.refl _) (.inl ⟨rfl,rfl⟩) (.inl rfl)
theorem Gn(ns:List Int)(lo hi:Option Int):xI (ns.map V.int) lo hi=((ns.drop (HT.sIx ns.length 0 lo)).take (HT.sIx ns.length ns.length hi-HT.sIx ns.length 0 lo)).map V.int:=by
 unfold xI;rw[JS,List.map_take,List.map_drop]
theorem Ig(ds:List Int)(u s:Nat)(h:u+s≤ds.length){lo hi:Int}(e1:lo=u)(e2:hi=((u+s:Nat):Int)):∃ cs:List Int,xI (ds.map V.int) (some lo) (some hi)=cs.map V.int∧cs.length=s:=by
 subst e1 e2;refine⟨_,Gn ds _ _,?_⟩;rw[HT.vB,HT.vB,Kf,K0];omega
def BP(Pt:Addr)(H H':Hp):Prop:=But Pt H H'∧∃ ps,H' Pt=some (.tbl ps)
theorem BP.same{Pt:Addr}{H H1 H2:Hp}(b:BP Pt H H1)(s:ar H1 H2):BP Pt H H2:=⟨b.1.trans (But.same s),let ⟨ps,e⟩:=b.2;⟨ps,s _ _ e⟩⟩
theorem BP.low{Pt:Addr}{H H1 H2:Hp}(b:BP Pt H1 H2)(s:ar H H1):BP Pt H H2:=⟨(But.same s).trans b.1,b.2⟩
theorem BP.non{Pt:Addr}{H H':Hp}(b:BP Pt H H'){x:Addr}(h:H' x=none):H x=none:=by
 cases e:H x with
 | none=>rfl
 | some u =>
  by_cases c:x=Pt
  ·obtain⟨ps,q⟩:=b.2
   rw[c,q]at h;cases h
  ·rw[b.1 _ _ c e]at h;cases h
theorem BP.put{Pt:Addr}{H H':Hp}(b:BP Pt H H'){x:Addr}{o:HO}(h:H x=none)(n:x≠Pt):BP Pt H (upd H' x o) :=
 ⟨λy u ny q=>by rw[aj (ai q h)];exact b.1 y u ny q,let ⟨ps,e⟩:=b.2;⟨ps,by rw[aj (KG n)];exact e⟩⟩
structure C1(zs pl:List Int)(dn:List Nat)(at':Int):Prop where
 lo:∀ j∈dn,0≤pl.getD j 0∧pl.getD j 0+zs.getD j 0<at'
 ap:∀ j∈dn,∀ k∈dn,j≠k→pl.getD j 0+zs.getD j 0<pl.getD k 0∨pl.getD k 0+zs.getD k 0<pl.getD j 0
theorem tQ{l:List Int}{k j:Nat}{v:Int}(h:k<l.length):(l.set k v).getD j 0=if j=k then v else l.getD j 0:=by
 rw[Ki,LA,Ki];by_cases c:k=j
 ·rw[if_pos c,if_pos (by omega),if_pos c.symm];rfl
 ·rw[if_neg c,if_neg (KG c)]
theorem C1.put{zs pl:List Int}{dn:List Nat}{at' at2:Int}{k:Nat}(h:C1 zs pl dn at')(n:k∉dn)(hk:k<pl.length)(a0:0≤at')(hz:0≤zs.getD k 0)(h2:at'+zs.getD k 0<at2):C1 zs (pl.set k at') (dn++[k]) at2:=by
 have ot:∀ j∈dn,(pl.set k at').getD j 0=pl.getD j 0:=λj m=>by rw[tQ hk,if_neg (λe=>n (by rw[←e];exact m))]
 have me:(pl.set k at').getD k 0=at':=by rw[tQ hk,if_pos rfl]
 refine⟨λj m=>?_,λi mi j mj ne=>?_⟩
 ·rcases Ka.mp m with m|m
  ·have:=h.lo j m
   rw[ot j m];omega
  ·rw[JO.mp m,me]
   omega
 ·rcases Ka.mp mi with mi|mi
  ·rcases Ka.mp mj with mj|mj
   ·rw[ot i mi,ot j mj];exact h.ap i mi j mj ne
   ·rw[JO.mp mj,ot i mi,me]
    have:=h.lo i mi
    omega
  ·rcases Ka.mp mj with mj|mj
   ·rw[JO.mp mi,ot j mj,me]
    have:=h.lo j mj
    omega
   ·exact absurd ((JO.mp mi).trans (JO.mp mj).symm) ne
abbrev Tg:=Int×Int×List Mw
structure Bt(ts:List Tg)(rs:List Mw)(sz:Int):Prop where
 n:ts.length≤10
 rl:rs.length≤9
 r1:1≤rs.length
 fl:∀ x∈ts,x.2.2.length≤6
 lo:∀ x∈ts,0≤x.2.1
 hi:∀ x∈ts,x.2.1+x.2.2.length<sz
 ap:∀(i j:Nat) (x y:Tg),i≠j→ts[i]?=some x→ts[j]?=some y→x.2.1+x.2.2.length<y.2.1∨y.2.1+y.2.2.length<x.2.1
 rw:∀ w∈rs,Wby (ts.map (·.2.1)) w
 fw:∀ x∈ts,∀ w∈x.2.2,Wby (ts.map (·.2.1)) w
 z0:0≤sz
 z1:sz≤1000
 t0:∀ x∈ts,0≤x.1
 t1:∀ x∈ts,x.1≤1000
def ThV(H:Hp)(v:V)(x:Tg):Prop:=∃ q lf zs,v=.ref q∧H q=some (.tup [.int x.1,.int x.2.1,.ref lf])∧H lf=some (.lst zs)∧MR H zs x.2.2
def ThL(H:Hp)(tv:List V)(ts:List Tg):Prop:=tv.length=ts.length∧∀(i:Nat) (v:V) (x:Tg),tv[i]?=some v→ts[i]?=some x→ThV H v x
theorem ThV.keep{H H':Hp}{v:V}{x:Tg}(h:ThV H v x)(s:∀ b u,H b=some u→(∀ kvs,u≠.dK kvs)→H' b=some u):ThV H' v x:=by
 obtain⟨q,lf,zs,e,h1,h2,h3⟩:=h;exact⟨q,lf,zs,e,s _ _ h1 (by intro k z;cases z),s _ _ h2 (by intro k z;cases z),h3.keep λt us y=>s _ _ y (by intro k z;cases z)⟩
theorem ThL.same{H H':Hp}{tv:List V}{ts:List Tg}(h:ThL H tv ts)(s:ar H H'):ThL H' tv ts:=⟨h.1,λi v x a b=>(h.2 i v x a b).keep λb u y _=>s b u y⟩
def tR(K:W.Frag)(Pt:Addr):Sp:=λvs H Q _=>∃(a:Addr) (ns:List Int),vs=[.ref a]∧SqL K H a (ns.map V.int)∧ns.length≤63∧H Pt=some (.tbl #[])∧∀ p lt tv lr rv sz ts rs H',But Pt H H'→H' p=some (.tup [.ref lt,.ref lr,.int sz])→H' lt=some (.lst tv)→H' lr=some (.lst rv)→ThL H' tv ts→MR H' rv rs→Bt ts rs sz→H lt=none→H lr=none→Q (.ref p) H'
abbrev d7:List Str:=["script", "cell", "stream", "many", "sizes", "places", "at", "k", "things", "used", "fields", "roots"]
theorem aJ:aK d7 ["script"] (aq cW):=⟨rfl,rfl,rfl,by decide +kernel,rfl,by decide +kernel,by decide +kernel⟩
theorem oJ(F:Fun K "_law_built" "_law_built" cW D.cy D.d6)(T:Txt K mg D){cc Pt:Addr}(pJ:D.d6.code=.ref cc)(TB:nr K mg base cc Pt)
  (gU:Ok P w K mg base 1 D.de D.fR ["script", "k"] (vS K))
  (fK:Ok P w K mg base 2 D.bO D.eE ["script", "many"] (qd K))
  (dv:Ok P w K mg base 1 D.bD D.dZ ["number", "places"] (C0)):Ok P w K mg base 6 D.cy D.d6 ["script"] (tR K Pt):=by
 refine⟨?_,F.binds (ps:=["script"]) λ_ _ _ _ _ _ us hl=>match us,hl with|[_],_=>rfl⟩
 refine F.okC pJ aJ (λvs H Q E h=>?_) (λA' outer s' H vs Q E hr h=>?_)
 ·obtain⟨a,ns,rfl,_⟩:=h
  rfl
 ·obtain⟨a,ns,rfl,hS,hl,hPt,k⟩:=h
  refine⟨_,(PSs.nox (ag (ay (i:=1) aJ.nd rfl (Or.inl rfl) (aH gU.g (hr.mono (by decide)) rfl T.rO T.i9 gU.b .nil dU (aa (pv 0) (aa ak ah))))
   (ag (ay (i:=2) aJ.nd rfl (Or.inr rfl) (aH fK.g (hr.mono (by decide)) rfl T.om T.hW fK.b .nil dU (aa (j7 mV (pv 0) (jq ak) vC) (aa ak ah))))
   (ag (ay (i:=3) aJ.nd rfl (Or.inl rfl) (bI cg (dk (aa ak (aa ak (aa ak (aa ak (aa ak (aa ak ah))))))) (aw bc (pv 1) ak) (λ_ _=>rfl)))
   (ag (m8 (cl:=[("stream",s'.heap.objs.size+2)]) (x := "k") (idx:=[2]) (NC:=["k", "stream"]) (i:=4) aJ.nd rfl rfl (by exact ft (sc:=aq cW) (N:=d7) (ns:=["stream"]) rfl rfl rfl (by decide +kernel) rfl rfl (by intro q hq;rw[JO.mp hq];rfl)) rfl (fN rfl T.fX (aa (pv 3) ah)) (λC fp s₀ H₀=>(aw bc (bI (r:=A0 K) cg (pv 1) (pv 0) (λ_ _=>rfl)) ak)))
   (ag (ay (i:=5) aJ.nd rfl (Or.inr rfl) (iN (cl:=[]) (x := "k") (idx:=[]) (NC:=["k"]) (by exact ft (sc:=aq cW) (N:=d7) (ns:=[]) rfl rfl rfl (by decide +kernel) rfl rfl (by intro q hq;cases hq)) rfl (fN rfl T.fX (aa (pv 3) ah)) (λC fp s₀ H₀=>ak)))
   (ag (ay (i:=6) aJ.nd rfl (Or.inl rfl) (aw bc (aw cC (pv 1) ak) ak))
   (ag (fz Kx rfl (eP (uq (cc:=cc) (Pt:=Pt) (k:=1) (cl:=[("stream",s'.heap.objs.size+2)]) (x := "k") (idx:=[2]) (NC:=["k", "stream"]) (hr.mono (by decide)) rfl rfl T.nO (aa (dP ym rfl T.fX PyProof.Rows.Boot.«range» (aa (pv 3) ah)) ah) (by exact DL (sc:=aq cW) (N:=d7) (ns:=["stream"]) rfl rfl rfl rfl rfl (by decide +kernel) rfl rfl (by intro q hq;rw[JO.mp hq];rfl)) rfl TB rfl (λ_ _ _ _=>rfl) (λA L f cd s₀ H₀=>(dz (aa (bI (r:=A0 K) cg (pv 1) (aw aW ak (pv 0)) (λ_ _=>rfl)) (aa (pv 0) ah)))))) (aP (i:=7) aJ.nd rfl (Or.inl rfl))
    (ag (j3 (pv 6) (n6 (pv 5) (pv 7) set_list))
    (ao (ay (i:=6) aJ.nd rfl (Or.inl rfl) (aw aW (aw aW (aw aW (pv 6) (bI cg (pv 4) (pv 7) (λ_ _=>rfl))) ak) (aw bc (bI cg (pv 2) (aw aW ak (pv 7)) (λ_ _=>rfl)) ak))))))
   (ag (ay (i:=8) aJ.nd rfl (Or.inl rfl) (dk ah))
   (ag (ay (i:=9) aJ.nd rfl (Or.inl rfl) ak)
   (ag (fz Kx rfl (fN rfl T.fX (aa (pv 3) ah)) (aP (i:=7) aJ.nd rfl (Or.inl rfl))
    (ag (m8 (cl:=[("places",s'.heap.objs.size+1)]) (x := "number") (idx:=[5]) (NC:=["number", "places"]) (i:=10) aJ.nd rfl rfl (by exact ft (sc:=aq cW) (N:=d7) (ns:=["places"]) rfl rfl rfl (by decide +kernel) rfl rfl (by intro q hq;rw[JO.mp hq];rfl)) rfl (eP (j7 mV (pv 2) (jq (pv 9)) (jq (aw aW (pv 9) (bI cg (pv 4) (pv 7) (λ_ _=>rfl)))))) (λC fp s₀ H₀=>(aH dv.g (hr.mono (by decide)) rfl T.iX T.e9 dv.b .nil rn (aa (pv 0) (aa (pv 1) ah)))))
    (ag (ay (i:=9) aJ.nd rfl (Or.inl rfl) (aw aW (pv 9) (bI cg (pv 4) (pv 7) (λ_ _=>rfl))))
    (ao (cB (mW PySem.F.plainAttrs_list PySem.F.slot_list_append PySem.F.type_list_append gu (pv 8) (aa (dz (aa (aw aW (aw iq (pv 7) (aw aW ak (aw bc (aw cC (pv 1) ak) ak))) (aw bc (aw cC (pv 1) ak) ak)) (aa (bI cg (pv 5) (pv 7) (λ_ _=>rfl)) (aa (pv 10) ah)))) ah)))))))
   (ag (m8 (cl:=[("places",s'.heap.objs.size+1)]) (x := "number") (idx:=[5]) (NC:=["number", "places"]) (i:=11) aJ.nd rfl rfl (by exact ft (sc:=aq cW) (N:=d7) (ns:=["places"]) rfl rfl rfl (by decide +kernel) rfl rfl (by intro q hq;rw[JO.mp hq];rfl)) rfl (eP (j7 mV (pv 2) (jq ak) (jq (aw aW ak (aw bc (aw cC (pv 1) ak) ak))))) (λC fp s₀ H₀=>(aH dv.g (hr.mono (by decide)) rfl T.iX T.e9 dv.b .nil rn (aa (pv 0) (aa (pv 1) ah)))))
   (ao (a9 (dz (aa (pv 8) (aa (pv 11) (aa (aw aW (pv 6) (aw bc (aw cC (pv 1) ak) ak)) ah)))))))))))))))))),?_⟩
  refine⟨_,rfl,a,ns,0,rfl,hS,by decide,?_⟩;obtain⟨c,ec⟩:∃ c,ns.getD (0:Int).toNat 0=c:=⟨_,rfl⟩;rw[ec];refine⟨_,rfl,1,rfl,a,_,rfl,hS,λp1 h1=>?_⟩;rw[Gn];have s1:=ar.upd (o:=.lst (((ns.drop (HT.sIx ns.length 0 (some 1))).take (HT.sIx ns.length ns.length none-HT.sIx ns.length 0 (some 1))).map V.int)) h1;refine⟨p1,_,rfl,SqL.of ae,by rw[Kf,K0];omega,λp2 ds H2 s2 z2 hp2 l2=>?_⟩;have sA:=s1.trans s2;have q0:=Kj c (show(6:Int)≠0 by decide);have q1:=Kd c (show(0:Int)<6 by decide);obtain⟨n,n10,en⟩:∃ n:Nat,n≤10∧([.int 3,.int 1,.int 6,.int 9,.int 10,.int 0]:List V)[(c%6).toNat]?=some (.int (n:Int)):=by
   rcases(show(c%6).toNat=0∨(c%6).toNat=1∨(c%6).toNat=2∨(c%6).toNat=3∨(c%6).toNat=4∨(c%6).toNat=5 by omega) with e|e|e|e|e|e<;>rw[e]
   ·exact⟨3,by decide,rfl⟩
   ·exact⟨1,by decide,rfl⟩
   ·exact⟨6,by decide,rfl⟩
   ·exact⟨9,by decide,rfl⟩
   ·exact⟨10,by decide,rfl⟩
   ·exact⟨0,by decide,rfl⟩
  refine⟨by show 6≤sizeLine;decide,λp3 h3=>?_⟩;have s3:=ar.upd (o:=.lst [V.int 3,V.int 1,V.int 6,V.int 9,V.int 10,V.int 0]) h3;refine⟨_,rfl,c,6,rfl,rfl,(by show(0:Int)<6;decide),p3,_,_,.int n,rfl,rfl,SqL.of ae,eL q0 en,?_⟩;have sB:=sA.trans s3;have z2:=s3 _ _ z2;generalize upd H2 p3 (.lst [V.int 3,V.int 1,V.int 6,V.int 9,V.int 10,V.int 0])=H3 at *;refine⟨_,rfl,n,rfl,by omega,by omega,λL4 hL4=>?_⟩;refine gz (lo:=0) (n:=n) (λi ys Hc=>∃ zs:List Int,ys=zs.map V.int∧zs.length=i∧(∀ z∈zs,0≤z∧z≤6)∧ar H3 Hc∧Hc L4=some (.lst ys)) ⟨[],rfl,rfl,(λz m=>nomatch m),ar.upd hL4,ae⟩ (λi ys Hc hi ⟨zs,e,l,_,_,y⟩=>⟨y,by rw[e,JS];exact l⟩) (fH (by omega)) (λi ys Hc hi ⟨zs,e,l,hz,sc,y⟩=>?_) (λys Hc ⟨zs,e,lz,hz,sc,z4⟩=>?_)
  ·have hx:ds[(0+(i:Int)).toNat]?=some (ds[(0+(i:Int)).toNat]'(by omega)):=JM _
   obtain⟨x,ex⟩:∃ x,ds[(0+(i:Int)).toNat]'(by omega)=x:=⟨_,rfl⟩;rw[ex]at hx;refine⟨_,rfl,_,rfl,p2,_,_,.int x,rfl,rfl,SqL.of (sc _ _ z2),eL (by omega) (by rw[JZ,hx];rfl),_,7,rfl,rfl,(by show(0:Int)<7;decide),y,zs++[x%7],by rw[e,Km];rfl,by rw[JU,l];rfl,λz m=>?_,λb u q=>by rw[aj (ai q hL4)];exact sc b u q,ae⟩;rcases Ka.mp m with m|m
   ·exact hz z m
   ·rw[JO.mp m]
    have:=Kj x (show(7:Int)≠0 by decide)
    have:=Kd x (show(0:Int)<7 by decide)
    omega
  rw[e]at z4;clear e;have sC:=sB.trans sc;have z2:=sc _ _ z2;have n24:p2≠L4:=ai (show H3 p2=_ by assumption) hL4;refine⟨_,rfl,n,rfl,by omega,by omega,λL5 hL5=>?_⟩;have n25:p2≠L5:=ai z2 hL5;have n45:L4≠L5:=ai z4 hL5;refine gz (lo:=0) (n:=n) (λi ys Hd=>ys=(List.replicate i (0:Int)).map V.int∧ar Hc Hd∧Hd L5=some (.lst ys)) ⟨rfl,ar.upd hL5,ae⟩ (λi ys Hd hi ⟨e,_,y⟩=>⟨y,by rw[e,JS,Ku]⟩) (fH (by omega)) (λi ys Hd hi ⟨e,sd,y⟩=>?_) (λys Hd ⟨e,sd,z5⟩=>?_)
  ·refine⟨y,?_,λb u q=>by rw[aj (ai q hL5)];exact sd b u q,ae⟩
   rw[e,List.replicate_succ',Km];rfl
  rw[e]at z5;clear e;have sD:=sC.trans sd;have Ju:H L5=none:=ar.none sC hL5;have hPd:=sD _ _ hPt;have z2:=sd _ _ z2;have z4:=sd _ _ z4;refine⟨_,rfl,c,6,rfl,rfl,⟨by decide,by decide⟩,_,3,rfl,rfl,(by show(0:Int)<3;decide),?_⟩;have a0:=Kj (c/6) (show(3:Int)≠0 by decide);have a1:=Kd (c/6) (show(0:Int)<3 by decide);obtain⟨at0,ea⟩:∃ at0,c/6%3=at0:=⟨_,rfl⟩;rw[ea]at a0 a1;simp only[ea,gO];have zD:∀ j,0≤zs.getD j 0∧zs.getD j 0≤6:=λj=>by
   rw[Ki];cases e:zs[j]? with
   | none=>exact⟨Int.le_refl _,by decide⟩
   | some x=>exact hz x (J0 e)
  have zat:∀(j:Nat),j<n→zs[j]?=some (zs.getD j 0):=λj hj=>by rw[Ki,JM (by omega)];rfl
  have dat:∀(j:Nat),j<130→∃ x,ds[j]?=some x:=λj hj=>⟨_,JM (by omega)⟩;refine⟨_,rfl,n,rfl,λr hr'=>⟨r,n,rfl,ae,by omega,by rw[aj (ai hPd hr')];exact hPd,λHx=>BP Pt Hd Hx,?_,?_,?_⟩⟩
  ·refine λps=>⟨λb u nb q=>?_,ps,ae⟩
   rw[aj nb,aj (ai q hr')];exact q
  ·intro Hx k' wx hk'
   obtain⟨x,hx⟩:=dat (20+(k':Int)).toNat (by omega);have n2P:p2≠Pt:=cG z2 hPd (by intro z;cases z);refine⟨_,rfl,_,rfl,20,_,rfl,rfl,p2,_,_,.int x,rfl,rfl,SqL.of (wx.1 _ _ n2P z2),eL (by omega) (by rw[JZ,hx];rfl),_,rfl,by show 2≤sizeLine;decide,λq hq=>⟨wx.same (ar.upd hq),q,x,k',rfl,ae⟩⟩
  intro H7 l ks w7 hl0 pm;have lks:ks.length=n:=by rw[pm.length_eq,LB]
  have ndk:ks.Nodup:=pm.nodup_iff.mpr List.nodup_range;have kin:∀ j,j∈ks↔j<n:=λj=>by rw[pm.mem_iff,Le]
  have n2P:p2≠Pt:=cG z2 hPd (by intro z;cases z);have n4P:L4≠Pt:=cG z4 hPd (by intro z;cases z);have n5P:L5≠Pt:=cG z5 hPd (by intro z;cases z);have y2:=w7.1 _ _ n2P z2;have y4:=w7.1 _ _ n4P z4;have y5:=w7.1 _ _ n5P z5;have sl:=ar.upd (o:=.lst (ks.map λi:Nat=>V.int (i:Int))) hl0;have nl5:l≠L5:=KG (ai y5 hl0);have b7:BP Pt H (upd H7 l (.lst (ks.map λi:Nat=>V.int (i:Int)))):=(w7.low sD).same sl;refine⟨l,rfl,⟨_,SqL.of ae⟩,ip (K:=K) (a:=l) (xs:=ks.map λi:Nat=>V.int (i:Int)) (λi σ Hx=>∃(v7:Option V) (pl:List Int) (at':Int),σ=[some (.ref a),some (.int c),some (.ref p2),some (.int n),some (.ref L4),some (.ref L5),some (.int at'),v7,none,none,none,none]∧BP Pt H Hx∧Hx p2=some (.lst (ds.map V.int))∧Hx L4=some (.lst (zs.map V.int))∧Hx l=some (.lst (ks.map λi:Nat=>V.int (i:Int)))∧Hx L5=some (.lst (pl.map V.int))∧pl.length=n∧C1 zs pl (ks.take i) at'∧0≤at'∧at'≤2+8*i)
   ⟨none,List.replicate n 0,at0,rfl,b7,sl _ _ y2,sl _ _ y4,ae,sl _ _ y5,Ku,⟨(λj m=>nomatch m),(λj m=>nomatch m)⟩,a0,by omega⟩ (λi σ Hx _ ⟨_,_,_,_,_,_,_,y,_⟩=>SqL.of y) ?_ ?_⟩
  ·rintro i v σ Hx hi ⟨v7,pl,at',rfl,bx,x2,x4,xl,x5,lp,po,p0,p9⟩
   rw[JZ]at hi;obtain⟨j,hj,rfl⟩:=Kn.mp hi;have jn:j<n:=(kin j).mp (J0 hj);have iln:i<n:=(by rw[←lks];exact(JN.mp hj).1);have nj:j∉ks.take i:=λm=>by
    have e:ks=ks.take i++j::ks.drop (i+1):=(by rw[←(JN.mp hj).2,←List.drop_eq_getElem_cons (JN.mp hj).1,Lc]);rw[e,KQ]at ndk;exact ndk.2.2 j m j JW rfl
   have zj:=zD j;obtain⟨x,hx⟩:=dat (40+(j:Int)).toNat (by omega);refine⟨_,rfl,_,rfl,_,rfl,L5,_,_,(j:Int).toNat,rfl,rfl,x5,xA (by omega) (by rw[JS];omega),?_⟩;have x2':upd Hx L5 (.lst ((pl.map V.int).set (j:Int).toNat (.int at'))) p2=some (.lst (ds.map V.int)):=(by rw[aj n25];exact x2);have x4':upd Hx L5 (.lst ((pl.map V.int).set (j:Int).toNat (.int at'))) L4=some (.lst (zs.map V.int)):=(by rw[aj n45];exact x4);refine⟨_,rfl,_,rfl,_,rfl,L4,_,_,.int (zs.getD j 0),rfl,rfl,SqL.of x4',eL (by omega) (by rw[Int.toNat_natCast,JZ,zat j jn];rfl),_,_,rfl,rfl,_,1,rfl,rfl,_,rfl,_,rfl,40,_,rfl,rfl,p2,_,_,.int x,rfl,rfl,SqL.of x2',eL (by omega) (by rw[JZ,hx];rfl),_,2,rfl,rfl,(by show(0:Int)<2;decide),_,_,rfl,rfl,?_⟩;have r0:=Kj x (show(2:Int)≠0 by decide);have r1:=Kd x (show(0:Int)<2 by decide);refine⟨some (.int j),pl.set j at',at'+zs.getD j 0+1+x%2,rfl,bx.put Ju n5P,x2',x4',?_,?_,by rw[Kr];exact lp,?_,by omega,by push_cast;omega⟩
   ·rw[aj nl5];exact xl
   ·rw[ae,List.map_set,Int.toNat_natCast]
   ·rw[bF hj]
    exact po.put nj (by omega) p0 zj.1 (by omega)
  rintro σ Hx ⟨v7,pl,at',rfl,bx,x2,x4,xl,x5,lp,po,p0,p9⟩;rw[JS,lks]at po p9;rw[J9 (by omega)]at po;refine⟨by show 0≤sizeLine;exact Kh _,λL8 hL8=>?_⟩;have Ih:H L8=none:=bx.non hL8;have s8:=ar.upd (o:=.lst []) hL8;have n28:p2≠L8:=ai x2 hL8;have n48:L4≠L8:=ai x4 hL8;have n58:L5≠L8:=ai x5 hL8;have n8P:L8≠Pt:=λz=>by obtain⟨ps,q⟩:=bx.2;rw[z,q]at hL8;cases hL8
  have pat:∀(j:Nat),j<n→pl[j]?=some (pl.getD j 0):=λj hj=>by rw[Ki,JM (by omega)];rfl
  refine⟨_,rfl,n,rfl,by omega,by omega,pN (lo:=0) (n:=n) (λi σ Hy=>∃(v7 v10:Option V) (us:Nat) (tv:List V) (ts:List Tg),σ=[some (.ref a),some (.int c),some (.ref p2),some (.int n),some (.ref L4),some (.ref L5),some (.int at'),v7,some (.ref L8),some (.int us),v10,none]∧BP Pt H Hy∧Hy p2=some (.lst (ds.map V.int))∧Hy L4=some (.lst (zs.map V.int))∧Hy L5=some (.lst (pl.map V.int))∧Hy L8=some (.lst tv)∧ThL Hy tv ts∧(∀ q t' a' lf,V.ref q∈tv→Hy q=some (.tup [t',a',.ref lf])→lf≠L8)∧ts.length=i∧us≤55+6*i∧∀(j:Nat) (x:Tg),ts[j]?=some x→x.2.1=pl.getD j 0∧(x.2.2.length:Int)=zs.getD j 0∧(∀ w∈x.2.2,Wby pl w)∧0≤x.1∧x.1≤1000)
   ⟨v7,none,55,[],[],rfl,bx.same s8,s8 _ _ x2,s8 _ _ x4,s8 _ _ x5,ae,⟨rfl,(λi v x h=>by cases h)⟩,(λq t' a' lf m=>nomatch m),rfl,by omega,(λj x h=>by cases h)⟩ ?_ ?_⟩
  ·rintro i σ Hy hi ⟨w7,w10,us,tv,ts,rfl,by',y2,y4,y5,y8,tl,nf,lts,ub,hts⟩
   have zi:=zD i;obtain⟨si,esi⟩:∃ si:Nat,zs.getD i 0=(si:Int):=⟨(zs.getD i 0).toNat,by omega⟩;have Ii:atI (zs.map V.int) (0+(i:Int))=some (.int (si:Int)):=eL (by omega) (by rw[show(0+(i:Int)).toNat=i by omega,JZ,zat i hi,esi];rfl);obtain⟨cs,ecs,lcs⟩:=Ig ds us si (by omega) (lo:=us) (hi:=(us:Int)+si) rfl (by push_cast;rfl);refine⟨_,rfl,_,rfl,_,rfl,_,rfl,_,rfl,_,rfl,L4,_,_,.int (si:Int),rfl,rfl,SqL.of y4,Ii,_,_,rfl,rfl,_,rfl,p2,_,rfl,SqL.of y2,λps hps=>?_⟩;rw[ecs];have sp:=ar.upd (o:=.lst (cs.map V.int)) hps;have u2:=sp _ _ y2;have u4:=sp _ _ y4;have u5:=sp _ _ y5;have u8:=sp _ _ y8;have tl1:=tl.same sp;have nf1:∀ q t' a' lf,V.ref q∈tv→upd Hy ps (.lst (cs.map V.int)) q=some (.tup [t',a',.ref lf])→lf≠L8:=λq t' a' lf m h=>nf q t' a' lf m (by
    by_cases e:q=ps
    ·rw[e,ae]at h;cases h
    ·rw[aj e]at h;exact h)
   have bp:=by'.same sp;have zp:upd Hy ps (.lst (cs.map V.int)) ps=some (.lst (cs.map V.int)):=ae;generalize upd Hy ps (.lst (cs.map V.int))=Hz at *;refine⟨ps,rfl,⟨_,SqL.of zp⟩,λLf hLf=>?_⟩;refine ji (K:=K) (a:=ps) (xs:=cs.map V.int) (λj ys Hc=>∃ ws:List Mw,ar Hz Hc∧Hc Lf=some (.lst ys)∧MR Hc ys ws∧ws.length=j∧∀ w∈ws,Wby pl w) ⟨[],ar.upd hLf,ae,⟨rfl,(λj v w h=>by cases h)⟩,rfl,(λw m=>nomatch m)⟩ (λj ys Hc _ ⟨ws,_,y,r,l,_⟩=>⟨y,by rw[r.1];exact l⟩) (λj ys Hc _ ⟨_,sc,_⟩=>SqL.of (sc _ _ zp)) (by rw[JS];exact fH (by omega)) (λj v ys Hc hj ⟨ws,sc,y,r,l,hw⟩=>?_) (λys Hc ⟨ws,sc,y,r,l,hw⟩=>?_)
   ·rw[JZ]at hj
    obtain⟨x,hx,rfl⟩:=Kn.mp hj;refine⟨_,rfl,_,rfl,x,L5,pl,rfl,sc _ _ u5,λv w H' s' mv wb=>⟨s' _ _ y,ws++[w],λb u z=>by rw[aj (ai z hLf)];exact s' _ _ (sc b u z),ae,?_,by rw[JU,l];rfl,λw' m=>?_⟩⟩
    ·exact((r.keep (bg.of s')).snoc mv).keep λb us z=>by rw[aj (cG z (s' _ _ y) (by intro z;cases z))];exact z
    ·rcases Ka.mp m with m|m
     ·exact hw w' m
     ·rw[JO.mp m];exact wb
   rw[JS,lcs]at l;have c2:=sc _ _ u2;have c4:=sc _ _ u4;have c5:=sc _ _ u5;have c8:=sc _ _ u8;refine⟨_,rfl,_,rfl,_,rfl,L4,_,_,.int (si:Int),rfl,rfl,SqL.of c4,Ii,_,_,rfl,rfl,?_⟩;have m0:=Kj (c/18) (show(3:Int)≠0 by decide);have m1:=Kd (c/18) (show(0:Int)<3 by decide);have m2:=Kj (c/54) (show(4:Int)≠0 by decide);have m3:=Kd (c/54) (show(0:Int)<4 by decide);obtain⟨e1,ee1⟩:∃ e1,c/18%3=e1:=⟨_,rfl⟩;obtain⟨e2,ee2⟩:∃ e2,c/54%4=e2:=⟨_,rfl⟩;rw[ee1]at m0 m1;rw[ee2]at m2 m3;refine⟨_,rfl,.inl ⟨rfl,_,SqL.of c8⟩,_,rfl,_,rfl,c,18,rfl,rfl,⟨by decide,by decide⟩,_,3,rfl,rfl,(by show(0:Int)<3;decide),1,_,rfl,rfl,_,_,rfl,rfl,.inl ⟨by omega,by omega⟩,_,rfl,c,54,rfl,rfl,⟨by decide,by decide⟩,_,4,rfl,rfl,(by show(0:Int)<4;decide),_,_,rfl,rfl,_,rfl,_,rfl,L5,_,_,.int (pl.getD i 0),rfl,rfl,SqL.of c5,eL (by omega) (by rw[show(0+(i:Int)).toNat=i by omega,JZ,pat i hi];rfl),_,rfl,by show 3≤sizeLine;decide,λq hq=>?_⟩;have sq:=ar.upd (o:=.tup [V.int ((0+(i:Int))*(1+c/18%3)+c/54%4),V.int (pl.getD i 0),V.ref Lf]) hq;have d8:=sq _ _ c8;have lt1:=tl1.1;refine⟨L8,_,_,rfl,rfl,d8,jv (by omega),?_⟩;have nq8:q≠L8:=λz=>by rw[z,c8]at hq;cases hq
   have nf8:Lf≠L8:=KG (ai u8 hLf);have tp:0≤(0+(i:Int))*(1+c/18%3)∧(0+(i:Int))*(1+c/18%3)≤30:=by
    rw[ee1];constructor
    ·exact Int.mul_nonneg (by omega) (by omega)
    ·have h1:(0+(i:Int))*(1+e1)≤(0+(i:Int))*3:=Int.mul_le_mul_of_nonneg_left (by omega) (by omega)
     omega
   have kp8:∀ b u,b≠L8→Hc b=some u→upd (upd Hc q (.tup [V.int ((0+(i:Int))*(1+c/18%3)+c/54%4),V.int (pl.getD i 0),V.ref Lf])) L8 (.lst (tv++[.ref q])) b=some u:=λb u nb z=>by rw[aj nb];exact sq _ _ z
   have xC:bg Hc _:=λb us z=>kp8 b _ (cG z c8 (by intro z;cases z)) z;refine⟨some (.int (0+(i:Int))),some (.ref Lf),us+si,tv++[.ref q],ts++[((0+(i:Int))*(1+c/18%3)+c/54%4,pl.getD i 0,ws)],rfl,(((bp.same sc).same sq).put Ih n8P),kp8 _ _ n28 c2,kp8 _ _ n48 c4,kp8 _ _ n58 c5,ae,⟨by rw[JU,JU,lt1];rfl,λj v x h1 h2=>?_⟩,λq2 t' a' lf m h=>?_,by rw[JU,lts];rfl,by omega,λj x h=>?_⟩
   ·by_cases cj:j<tv.length
    ·rw[Kg cj]at h1
     rw[Kg (by rw[←lt1];exact cj)]at h2;obtain⟨q',lf,zz,ev,g1,g2,g3⟩:=tl1.2 j v x h1 h2;refine⟨q',lf,zz,ev,xC _ _ (sc _ _ g1),kp8 _ _ ?_ (sc _ _ g2),(g3.keep (bg.of sc)).keep xC⟩;exact nf1 q' _ _ lf (by rw[←ev];exact J0 h1) g1
    ·have ej:j=tv.length:=by have:=(JN.mp h1).1;rw[JU,Kt]at this;omega
     subst ej;rw[Ke (JR _),K1]at h1;rw[lt1,Ke (JR _),K1]at h2;cases h1;cases h2;exact⟨q,Lf,ys,rfl,by rw[aj nq8];exact ae,kp8 _ _ nf8 y,r.keep xC⟩
   ·rcases Ka.mp m with m|m
    ·obtain⟨j,hj⟩:=KA m
     have hj2:ts[j]?=some (ts[j]'(by rw[←lt1];exact(JN.mp hj).1)):=JM _;obtain⟨q',lf',zz,ev,g1,g2,g3⟩:=tl1.2 j _ _ hj hj2;cases ev;rw[xC _ _ (sc _ _ g1)]at h;cases h;exact nf1 _ _ _ _ m g1
    ·cases JO.mp m
     rw[aj nq8,ae]at h;cases h;exact nf8
   ·by_cases cj:j<ts.length
    ·rw[Kg cj]at h
     exact hts j x h
    ·have ej:j=ts.length:=by have:=(JN.mp h).1;rw[JU,Kt]at this;omega
     subst ej;rw[Ke (JR _),K1]at h;cases h;rw[lts];refine⟨rfl,by rw[esi];exact_mod_cast l,hw,by omega,?_⟩;show(0+(i:Int))*(1+c/18%3)+c/54%4≤1000;omega
  rintro σ Hy ⟨w7,w10,us,tv,ts,rfl,by',y2,y4,y5,y8,tl,nf,lts,ub,hts⟩;have m0:=Kj (c/216) (show(9:Int)≠0 by decide);have m1:=Kd (c/216) (show(0:Int)<9 by decide);obtain⟨e1,ee1⟩:∃ e1:Nat,c/216%9=(e1:Int):=⟨(c/216%9).toNat,by omega⟩;rw[ee1]at m0 m1;obtain⟨cs,ecs,lcs⟩:=Ig ds 120 (1+e1) (by omega) (lo:=120) (hi:=121+c/216%9) rfl (by rw[ee1];push_cast;omega);refine⟨_,rfl,120,rfl,_,rfl,c,216,rfl,rfl,⟨by decide,by decide⟩,_,9,rfl,rfl,(by show(0:Int)<9;decide),121,_,rfl,rfl,_,rfl,p2,_,rfl,SqL.of y2,λps hps=>?_⟩;rw[ecs];have sp:=ar.upd (o:=.lst (cs.map V.int)) hps;have u5:=sp _ _ y5;have u8:=sp _ _ y8;have tl1:=tl.same sp;have bp:=by'.same sp;have zp:upd Hy ps (.lst (cs.map V.int)) ps=some (.lst (cs.map V.int)):=ae;generalize upd Hy ps (.lst (cs.map V.int))=Hz at *;refine⟨ps,rfl,⟨_,SqL.of zp⟩,λLf hLf=>?_⟩;refine ji (K:=K) (a:=ps) (xs:=cs.map V.int) (λj ys Hc=>∃ ws:List Mw,ar Hz Hc∧Hc Lf=some (.lst ys)∧MR Hc ys ws∧ws.length=j∧∀ w∈ws,Wby pl w) ⟨[],ar.upd hLf,ae,⟨rfl,(λj v w h=>by cases h)⟩,rfl,(λw m=>nomatch m)⟩ (λj ys Hc _ ⟨ws,_,y,r,l,_⟩=>⟨y,by rw[r.1];exact l⟩) (λj ys Hc _ ⟨_,sc,_⟩=>SqL.of (sc _ _ zp)) (by rw[JS];exact fH (by omega)) (λj v ys Hc hj ⟨ws,sc,y,r,l,hw⟩=>?_) (λys Hc ⟨ws,sc,y,r,l,hw⟩=>?_)
  ·rw[JZ]at hj
   obtain⟨x,hx,rfl⟩:=Kn.mp hj;refine⟨_,rfl,_,rfl,x,L5,pl,rfl,sc _ _ u5,λv w H' s' mv wb=>⟨s' _ _ y,ws++[w],λb u z=>by rw[aj (ai z hLf)];exact s' _ _ (sc b u z),ae,?_,by rw[JU,l];rfl,λw' m=>?_⟩⟩
   ·exact((r.keep (bg.of s')).snoc mv).keep λb us z=>by rw[aj (cG z (s' _ _ y) (by intro z;cases z))];exact z
   ·rcases Ka.mp m with m|m
    ·exact hw w' m
    ·rw[JO.mp m];exact wb
  rw[JS,lcs]at l;have b0:=Kj (c/2160) (show(3:Int)≠0 by decide);have b1:=Kd (c/2160) (show(0:Int)<3 by decide);refine⟨_,rfl,_,rfl,_,rfl,_,rfl,c,2160,rfl,rfl,⟨by decide,by decide⟩,_,3,rfl,rfl,(by show(0:Int)<3;decide),_,_,rfl,rfl,by show 3≤sizeLine;decide,λq hq=>?_⟩;have sq:=ar.upd (o:=.tup [V.ref L8,V.ref Lf,V.int (at'+c/2160%3)]) hq;have epl:ts.map (·.2.1)=pl:=by
   apply LD
   intro j;rw[JZ];by_cases cj:j<n
   ·have h:ts[j]?=some (ts[j]'(by omega)):=JM _
    rw[h,pat j cj,←(hts j _ h).1];rfl
   ·rw[KS (by omega),KS (by omega)]
    rfl
  have hx:∀ x∈ts,∃ j,j<n∧x.2.1=pl.getD j 0∧(x.2.2.length:Int)=zs.getD j 0∧(∀ w∈x.2.2,Wby pl w)∧0≤x.1∧x.1≤1000:=λx m=>by
   obtain⟨j,hj⟩:=KA m;exact⟨j,by have:=(JN.mp hj).1;omega,hts j x hj⟩
  have mk:∀ j,j<n→j∈ks:=λj h=>(kin j).mpr h;refine k q L8 tv Lf ys (at'+c/2160%3) ts ws _ ((bp.same sc).same sq).1 ae (sq _ _ (sc _ _ u8)) (sq _ _ y) ((tl1.same sc).same sq) (r.keep (bg.of sq)) ⟨by omega,by omega,by omega,λx m=>?_,λx m=>?_,λx m=>?_,λi j x y ne hi hj=>?_,by rw[epl];exact hw,λx m=>?_,by omega,by omega,λx m=>?_,λx m=>?_⟩ Ih (bp.non (by exact hLf))
  ·obtain⟨j,cj,e1,e2,_⟩:=hx x m
   have:=zD j
   omega
  ·obtain⟨j,cj,e1,e2,_⟩:=hx x m
   rw[e1];exact(po.lo j (mk j cj)).1
  ·obtain⟨j,cj,e1,e2,_⟩:=hx x m
   have:=(po.lo j (mk j cj)).2
   rw[e1,e2];omega
  ·obtain⟨f1,f2,_⟩:=hts i x hi
   obtain⟨g1,g2,_⟩:=hts j y hj;rw[f1,f2,g1,g2];exact po.ap i (mk i (by have:=(JN.mp hi).1;omega)) j (mk j (by have:=(JN.mp hj).1;omega)) ne
  ·obtain⟨j,cj,e1,e2,e3,_⟩:=hx x m
   rw[epl];exact e3
  ·obtain⟨j,cj,e1,e2,e3,e4,e5⟩:=hx x m
   exact e4
  ·obtain⟨j,cj,e1,e2,e3,e4,e5⟩:=hx x m
   exact e5
structure Bu(ts:List Tg)(rs:List Mw)(sz:Int):Prop where
 n:ts.length≤10
 rl:rs.length≤9
 r1:1≤rs.length
 fl:∀ x∈ts,x.2.2.length≤6
 lo:∀ x∈ts,0≤x.2.1
 hi:∀ x∈ts,x.2.1+x.2.2.length<sz
 ap:∀(i j:Nat) (x y:Tg),i≠j→ts[i]?=some x→ts[j]?=some y→x.2.1+x.2.2.length<y.2.1∨y.2.1+y.2.2.length<x.2.1
 rw:∀ w∈rs,Okw w
 fw:∀ x∈ts,∀ w∈x.2.2,Okw w
 z0:0≤sz
 z1:sz≤1000
def oK:List Mw→List Tg→List Mw
 | ws,[]=>ws
 | ws,x::r=>oK (layW ws x.2.1.toNat x.1 x.2.2) r
theorem qe(ws:List Mw)(ts:List Tg)(x:Tg):oK ws (ts++[x])=layW (oK ws ts) x.2.1.toNat x.1 x.2.2:=by
 induction ts generalizing ws with
 | nil=>rfl
 | cons y r ih=>exact ih _
theorem nY(ws:List Mw)(ts:List Tg):(oK ws ts).length=ws.length:=by
 induction ts generalizing ws with
 | nil=>rfl
 | cons y r ih=>show(oK _ r).length=_;rw[ih,nS]
theorem kF{ws:List Mw}{a:Nat}{t:Int}{us:List Mw}(h:a+us.length<ws.length)(j:Nat):(layW ws a t us)[j]?=if j=a then some (.hd t us.length) else if a<j∧j≤a+us.length then us[j-(a+1)]? else ws[j]?:=by
 unfold layW;rw[yf _ _ _ _ (by rw[Kr];omega)];by_cases c:j=a
 ·subst c
  rw[if_neg (by omega),if_pos rfl,KJ (by omega)]
 ·rw[if_neg c]
  by_cases d:a<j∧j≤a+us.length
  ·rw[if_pos (by omega),if_pos d]
  ·rw[if_neg (by omega),if_neg d,KD (KG c)]
def Lies(ws:List Mw)(a t:Int)(us:List Mw):Prop:=ws[a.toNat]?=some (.hd t us.length)∧∀(j:Nat) (w:Mw),us[j]?=some w→ws[a.toNat+1+j]?=some w
theorem Lies.new{ws:List Mw}{a t:Int}{us:List Mw}(h:a.toNat+us.length<ws.length):Lies (layW ws a.toNat t us) a t us:=by
 refine⟨by rw[kF h,if_pos rfl],λj w hj=>?_⟩;have hl:=(JN.mp hj).1;rw[kF h,if_neg (by omega),if_pos (by omega),show a.toNat+1+j-(a.toNat+1)=j by omega];exact hj
theorem Lies.other{ws:List Mw}{a t b s:Int}{us vs:List Mw}(h:Lies ws a t us)(hb:b.toNat+vs.length<ws.length)(a0:0≤a)(b0:0≤b)(ap:a+us.length<b∨b+vs.length<a):Lies (layW ws b.toNat s vs) a t us:=by
 refine⟨?_,λj w hj=>?_⟩
 ·rw[kF hb,if_neg (by omega),if_neg (by omega)]
  exact h.1
 ·have hl:=(JN.mp hj).1
  rw[kF hb,if_neg (by omega),if_neg (by omega)];exact h.2 j w hj
theorem Lies.thg{ws:List Mw}{a t:Int}{us:List Mw}(h:Lies ws a t us)(a0:0≤a)(hl:a+us.length<ws.length):thg ws a=some (t,(us.length:Int))∧lK ws a.toNat us.length=us:=by
 constructor
 ·unfold K42.thg
  rw[if_pos a0,h.1];exact if_pos hl
 ·apply LD
  intro j;unfold lK;rw[K2];by_cases c:j<us.length
  ·rw[if_pos c,Lm,JM c,h.2 j _ (JM c)]
  ·rw[if_neg c,KS (by omega)]
theorem yn{ws us:List Mw}{i:Nat}{w:Mw}(h:w∈iF ws i us):w∈ws∨w∈us:=by
 induction us generalizing ws i with
 | nil=>exact .inl h
 | cons u r ih =>
  rcases ih h with h|h
  ·rcases KL h with h|h
   ·exact .inl h
   ·exact .inr (by rw[h];exact JW)
  ·exact .inr (JT _ h)
theorem AH{ws us:List Mw}{a:Nat}{t:Int}{w:Mw}(h:w∈layW ws a t us):w∈ws∨w=.hd t us.length∨w∈us:=by
 rcases yn h with h|h
 ·rcases KL h with h|h
  ·exact .inl h
  ·exact .inr (.inl h)
 ·exact .inr (.inr h)
def fOf(ts:List Tg)(a:Int):List Mw:=match ts.find? λx=>decide (x.2.1=a) with|some x=>x.2.2|none=>[]
def tOf(ts:List Tg)(a:Int):Int:=match ts.find? λx=>decide (x.2.1=a) with|some x=>x.1|none=>0
section
variable{ts:List Tg}{rs:List Mw}{sz:Int}
theorem Bu.find(b:Bu ts rs sz){x:Tg}(m:x∈ts):ts.find? (λy=>decide (y.2.1=x.2.1))=some x:=by
 cases e:ts.find? (λy=>decide (y.2.1=x.2.1)) with
 | none=>exact absurd (List.find?_eq_none.mp e x m) (by simp)
 | some y =>
  have h1:=of_decide_eq_true (List.find?_some (p:=λy:Tg=>decide (y.2.1=x.2.1)) e);obtain⟨i,hi⟩:=KA (List.mem_of_find?_eq_some e);obtain⟨j,hj⟩:=KA m;by_cases c:i=j
  ·subst c;rw[hi]at hj;exact hj
  ·rcases b.ap i j y x c hi hj with z|z<;>omega
theorem Bu.f(b:Bu ts rs sz){x:Tg}(m:x∈ts):fOf ts x.2.1=x.2.2:=by unfold fOf;rw[b.find m]
theorem Bu.t(b:Bu ts rs sz){x:Tg}(m:x∈ts):tOf ts x.2.1=x.1:=by unfold tOf;rw[b.find m]
theorem Bu.lies(b:Bu ts rs sz):∀ i,i≤ts.length→∀ x∈ts.take i,Lies (oK (List.replicate sz.toNat .no) (ts.take i)) x.2.1 x.1 x.2.2:=by
 intro i;induction i with
 | zero=>intro _ x m;cases m
 | succ i ih =>
  intro hi x m;have hy:ts[i]?=some (ts[i]'(by omega)):=JM _;obtain⟨y,ey⟩:∃ y,ts[i]'(by omega)=y:=⟨_,rfl⟩;rw[ey]at hy;have my:=J0 hy;have y0:=b.lo y my;have y1:=b.hi y my;rw[bF hy]at m ⊢;rw[qe];have hb:y.2.1.toNat+y.2.2.length<(oK (List.replicate sz.toNat Mw.no) (ts.take i)).length:=by rw[nY,Ku];omega
  rcases Ka.mp m with m|m
  ·obtain⟨j,hj⟩:=KA m
   have jl:=(JN.mp hj).1;rw[Kf]at jl;rw[K2,if_pos (by omega)]at hj;exact(ih (by omega) x m).other hb (b.lo x (List.mem_of_mem_take m)) y0 (b.ap j i x y (by omega) hj hy)
  ·rw[JO.mp m]
   exact Lies.new hb
theorem tS{w:Mw}{ws:List Mw}(h:w∈oK ws ts):w∈ws∨(∃ x∈ts,w=.hd x.1 x.2.2.length)∨∃ x∈ts,w∈x.2.2:=by
 induction ts generalizing ws with
 | nil=>exact .inl h
 | cons y r ih =>
  rcases ih h with h|⟨x,m,e⟩|⟨x,m,e⟩
  ·rcases AH h with h|h|h
   ·exact .inl h
   ·exact .inr (.inl ⟨y,JW,h⟩)
   ·exact .inr (.inr ⟨y,JW,h⟩)
  ·exact .inr (.inl ⟨x,JT _ m,e⟩)
  ·exact .inr (.inr ⟨x,JT _ m,e⟩)
abbrev zf(ts:List Tg)(sz:Int):List Mw:=oK (List.replicate sz.toNat .no) ts
theorem zg(b:Bt ts rs sz){w:Mw}(h:Wby (ts.map (·.2.1)) w):Okw w∧∀ a,w=.ad a→a∈ts.map (·.2.1):=by
 rcases h with rfl|⟨z,rfl⟩|⟨a,m,rfl⟩
 ·exact⟨.inl rfl,λa e=>by cases e⟩
 ·exact⟨.inr (.inl ⟨z,rfl⟩),λa e=>by cases e⟩
 ·refine⟨.inr (.inr ⟨a,rfl,?_⟩),λc e=>by cases e;exact m⟩
  obtain⟨x,mx,rfl⟩:=KY.mp m
  have:=b.lo x mx
  have:=b.hi x mx
  have:=b.z1
  exact Sm.of (by omega) (by omega)
theorem Bt.bu(b:Bt ts rs sz):Bu ts rs sz:=⟨b.n,b.rl,b.r1,b.fl,b.lo,b.hi,b.ap,λw m=>(zg b (b.rw w m)).1,λx m w mw=>(zg b (b.fw x m w mw)).1,b.z0,b.z1⟩
theorem AI{ts:List Tg}{ws:List Mw}(h:∀ x∈ts,0≤x.2.1∧x.2.1.toNat+x.2.2.length<ws.length∧∀ w∈x.2.2,Okw w){j:Nat}{t n:Int}(e:(oK ws ts)[j]?=some (.hd t n)):ws[j]?=some (.hd t n)∨∃ x∈ts,x.2.1=j:=by
 induction ts generalizing ws with
 | nil=>exact .inl e
 | cons y r ih =>
  obtain⟨h0,h1,h2⟩:=h y JW;rcases ih (λx m=>by rw[nS];exact h x (JT _ m)) e with z|⟨x,m,z⟩
  ·rw[kF h1]at z
   by_cases c:j=y.2.1.toNat
   ·exact .inr ⟨y,JW,by omega⟩
   ·rw[if_neg c]at z
    split at z
    ·rcases h2 _ (J0 z) with e|⟨_,e⟩|⟨_,e,_⟩<;>cases e
    ·exact .inl z
  ·exact .inr ⟨x,JT _ m,z⟩
theorem AJ{a z:Int}{n:Nat}(h:0≤a)(h2:0≤z)(h3:a+n<z):a.toNat+n<z.toNat:=by omega
def Bw(ts:List Tg)(fw:Int):List Int:=(ts.map (·.2.1)).filter λa=>decide (a≠fw)
theorem jA{ts:List Tg}{fw a:Int}:a∈Bw ts fw↔(∃ x∈ts,x.2.1=a)∧a≠fw:=by
 unfold Bw;rw[La,KY,decide_eq_true_iff]
theorem Bu.sr(b:Bu ts rs sz)(fw:Int)(ws:List Mw)(hl:ws.length=sz.toNat)(hf:fw<0∨∃ y∈ts,y.2.1=fw)(h1:∀ j:Nat,(j:Int)≠fw→ws[j]?=(zf ts sz)[j]?)(h2:∀ t n,0≤fw→ws[fw.toNat]?≠some (.hd t n)):Sr ws rs (fOf ts) (tOf ts) (Bw ts fw):=by
 have z0:=b.z0;refine⟨b.rl,b.rw,Ko (Lq _ _) (by rw[JS];exact b.n),λa m=>?_,λa m=>?_,λa m w mw=>?_,λa m=>?_⟩
 ·obtain⟨⟨x,mx,rfl⟩,nf⟩:=jA.mp m
  have l:=b.lies ts.length (JR _);rw[J9 (JR _)]at l;have l:=l x mx;rw[b.f mx,b.t mx];have hi:=b.hi x mx;have lo:=b.lo x mx;have ne1:((x.2.1.toNat:Nat):Int)≠fw:=by rw[Int.toNat_of_nonneg lo];exact nf
  have le1:x.2.1+(x.2.2.length:Int)<((sz.toNat:Nat):Int):=by rw[Int.toNat_of_nonneg z0];exact hi
  refine Lies.thg ⟨by rw[h1 _ ne1];exact l.1,λj w hj=>?_⟩ lo (by rw[hl];exact le1);have jl:=(JN.mp hj).1;rw[h1 _ λe=>?_]
  ·exact l.2 j w hj
  ·rcases hf with hf|⟨y,my,ey⟩
   ·omega
   ·obtain⟨i1,e1⟩:=KA mx
    obtain⟨i2,e2⟩:=KA my;by_cases c:i1=i2
    ·subst c
     rw[e1]at e2;rw[←Kq e2]at ey;exact nf ey
    ·rcases b.ap i1 i2 x y c e1 e2 with z|z<;>omega
 ·obtain⟨⟨x,mx,rfl⟩,nf⟩:=jA.mp m
  rw[b.f mx];exact b.fl x mx
 ·obtain⟨⟨x,mx,rfl⟩,nf⟩:=jA.mp m
  rw[b.f mx]at mw;exact b.fw x mx w mw
 ·cases e:thg ws a with
  | none=>rfl
  | some p =>
   exfalso;obtain⟨t,n⟩:=p;obtain⟨a0,hw,al⟩:=km e;by_cases c:a=fw
   ·rw[c]at hw a0;exact h2 _ _ a0 hw
   ·rw[h1 _ (by rw[Int.toNat_of_nonneg a0];exact c)]at hw
    rcases AI (λx mx=>⟨b.lo x mx,by rw[Ku];exact AJ (b.lo x mx) z0 (b.hi x mx),b.fw x mx⟩) hw with z|⟨x,mx,z⟩
    ·exact absurd (Lj (J0 z)) (by intro z;cases z)
    ·exact m (jA.mpr ⟨⟨x,mx,by omega⟩,c⟩)
theorem Bu.gm(b:Bu ts rs sz):Gm (zf ts sz):=by
 refine⟨λt n m=>?_,λa n m=>?_⟩
 ·rcases tS m with h|⟨x,mx,e⟩|⟨x,mx,h⟩
  ·exact absurd (Lj h) (by intro z;cases z)
  ·cases e
   have:=b.fl x mx
   omega
  ·rcases b.fw x mx _ h with e|⟨z,e⟩|⟨a,e,_⟩<;>cases e
 ·rcases tS m with h|⟨x,mx,e⟩|⟨x,mx,h⟩
  ·exact absurd (Lj h) (by intro z;cases z)
  ·cases e
  ·rcases b.fw x mx _ h with e|⟨z,e⟩|⟨a,e,_⟩<;>cases e
end
def Mw.vl:Mw→Vl
 | .no=>.a .non
 | w=>.t (w.its.map .a)
theorem DQ{H:Hp}{t:Addr}{us:List V}{k:Nat}(ht:H t=some (.tup us))(hf:∀ u∈us,d3 u=true):Rp H (k+1) (.ref t) (.t (us.map .a)):=⟨t,us,rfl,ht,(by rw[JS]),λj u x h1 h2=>by
 rw[JZ,h1]at h2;cases h2;cases k<;>exact⟨rfl,hf u (J0 h1)⟩⟩
theorem G3{H:Hp}{y:V}{w:Mw}{k:Nat}(h:MV H y w):Rp H (k+1) y w.vl:=by
 cases w with
 | no =>
  rcases h with⟨_,rfl⟩|⟨n,_⟩
  ·exact⟨rfl,rfl⟩
  ·exact absurd rfl n
 | _ =>
  obtain⟨_,t,rfl,ht⟩:=h.resolve_left (λz=>by cases z.1);exact DQ ht (λu m=>by simp only[Mw.its,Kc,List.mem_nil_iff,or_false]at m;rcases m with rfl|rfl|rfl<;>rfl)
theorem jQ{H:Hp}{l:Addr}{ys:List V}{ws:List Mw}{k:Nat}(hl:H l=some (.lst ys))(r:MR H ys ws):Rp H (k+2) (.ref l) (.l (ws.map Mw.vl)):=⟨l,ys,rfl,hl,by rw[JS];exact r.1,λj u x h1 h2=>by
 rw[JZ]at h2;obtain⟨w,hw,rfl⟩:=Kn.mp h2;exact G3 (r.2 j u w h1 hw)⟩
def vT(D:Ad):Sp:=λvs H Q _=>∃(lt:Addr) (tv:List V) (ts:List Tg) (sz:Int),vs=[.ref lt,.int sz]∧H lt=some (.lst tv)∧ThL H tv ts∧0≤sz∧sz≤1000∧ts.length≤10∧(∀ x∈ts,0≤x.2.1∧x.2.1+x.2.2.length<sz∧x.2.2.length≤6)∧∀ m mx c xs H',ar H H'→H m=none→H c=none→Mm D H' m mx c xs (zf ts sz)→Q (.ref m) H'
abbrev oM:List Str:=["things", "size", "memory", "t", "a", "fields", "k", "word"]
theorem cP:aK oM ["things", "size"] (aq g8):=⟨rfl,rfl,rfl,by decide +kernel,rfl,by decide +kernel,by decide +kernel⟩
theorem mD(F:Fun K "_law_memory" "_law_memory" g8 D.bP D.eF)(T:Txt K mg D)
  (aZ:Ok P w K mg base 1 D.aU D.cb ["self", "size"] (nQ D))
  (aC:Ok P w K mg base 4 D.bE D.cX ["self", "a", "word"] (kD D)):Ok P w K mg base 5 D.bP D.eF ["things", "size"] (vT D):=by
 refine⟨?_,F.binds (ps:=["things", "size"]) λ_ _ _ _ _ _ us hl=>match us,hl with|[_,_],_=>rfl⟩
 refine F.okE cP (λvs H Q E h=>?_) (λcdv A' outer s' H vs Q E hr h=>?_)
 ·obtain⟨lt,tv,ts,sz,rfl,_⟩:=h
  rfl
 ·obtain⟨lt,tv,ts,sz,rfl,ht,tl,z0,z1,n10,hts,k⟩:=h
  refine⟨_,(PSs.nox (ag (ay (i:=2) cP.nd rfl (Or.inl rfl) (vA T.jk aZ.g (hr.mono (by decide)) rfl T.qb aZ.b .nil yY (aa (pv 1) ah)))
   (ag (fz Kx rfl (eP (pv 0)) (gY rfl (aN (aP (i:=3) cP.nd rfl (Or.inl rfl)) (aN (aP (i:=4) cP.nd rfl (Or.inl rfl)) (aN (aP (i:=5) cP.nd rfl (Or.inl rfl)) fj))))
    (ag (cB (eA (pv 2) T.aI T.dJ aC.g (hr.mono (by decide)) aC.b .nil dU (aa (pv 4) (aa (dz (aa cA (aa (pv 3) (aa (aV aL rfl T.fV PyProof.Rows.Boot.«len» (aa (pv 5) ah)) ah)))) ah))))
    (ao (fz Kx rfl (m7 rfl T.eK (aa (pv 5) ah)) (gY rfl (aN (aP (i:=6) cP.nd rfl (Or.inl rfl)) (aN (aP (i:=7) cP.nd rfl (Or.inl rfl)) fj)))
     (ao (cB (eA (pv 2) T.aI T.dJ aC.g (hr.mono (by decide)) aC.b .nil dU (aa (aw aW (aw aW (pv 4) ak) (pv 6)) (aa (pv 7) ah)))))))))
   (ao (a9 (pv 2)))))),?_⟩
  refine⟨_,rfl,?_⟩;intro m mx hm hmx nd;refine⟨m,mx,sz,rfl,ae,by omega,by omega,λc H1 B1 hc M1=>⟨rfl,?_⟩⟩;have s1:ar H H1:=λb u q=>B1 b u (ai q hm) (by rw[aj (ai q hm),aj (ai q hmx)];exact q);have hHc:H c=none:=by
   by_cases e:c=m
   ·rw[e];exact hm
   ·by_cases e2:c=mx
    ·rw[e2];exact hmx
    ·rw[aj e,aj e2]at hc;exact hc
  have lt1:=tl.1;refine⟨_,rfl,lt,rfl,⟨_,SqL.of (s1 _ _ ht)⟩,ip (K:=K) (a:=lt) (xs:=tv) (λi σ Hx=>∃(v3 v4 v5 v6 v7:Option V) (xs:List V),σ=[some (.ref lt),some (.int sz),some (.ref m),v3,v4,v5,v6,v7]∧ar H Hx∧Mm D Hx m mx c xs (oK (List.replicate sz.toNat .no) (ts.take i))) ⟨none,none,none,none,none,_,rfl,s1,M1⟩ (λi σ Hx _ ⟨_,_,_,_,_,_,_,sx,_⟩=>SqL.of (sx _ _ ht)) ?_ ?_⟩
  ·rintro i v σ Hx hi ⟨v3,v4,v5,v6,v7,xs,rfl,sx,Mx⟩
   have il:i<ts.length:=(by rw[←lt1];exact(JN.mp hi).1);have hx:ts[i]?=some ts[i]:=JM il;obtain⟨x,ex⟩:∃ x,ts[i]=x:=⟨_,rfl⟩;rw[ex]at hx;obtain⟨q,lf,zs,rfl,h1,h2,h3⟩:=tl.2 i v x hi hx;obtain⟨a0,a1,a6⟩:=hts x (J0 hx);have e3:=h3.1;have lw:(oK (List.replicate sz.toNat Mw.no) (ts.take i)).length=sz.toNat:=(by rw[nY,Ku]);refine⟨q,_,rfl,SqT.of (sx _ _ h1),rfl,_,_,rfl,_,_,rfl,_,_,rfl,rfl,?_⟩;refine⟨_,rfl,m,_,_,rfl,Mx.i,(by kernel_rfl),_,rfl,_,rfl,_,rfl,lf,_,rfl,.inl (SqL.of (sx _ _ h2)),by show 3≤sizeLine;decide,λp hp=>?_⟩;have sp:=ar.upd (o:=.tup [V.str "head",V.int x.1,V.int zs.length]) hp;refine⟨m,mx,c,xs,_,x.2.1,.ref p,.hd x.1 x.2.2.length,rfl,Mx.same sp,Sm.of (by omega) (by omega),.inr ⟨(by intro z;cases z),p,rfl,by rw[ae,e3];rfl⟩,?_⟩;rw[lw,if_pos ⟨a0,by omega⟩];intro M2;obtain⟨H2,eH2⟩:∃ H2,upd (upd Hx p (.tup [V.str "head",V.int x.1,V.int zs.length])) c (.lst (xs.set x.2.1.toNat (.ref p)))=H2:=⟨_,rfl⟩;have s2:ar H H2:=λb u y=>by rw[←eH2,aj (ai y hHc)];exact sp _ _ (sx _ _ y)
   rw[eH2]at M2 ⊢;refine⟨_,rfl,lf,rfl,⟨_,SqL.of (s2 _ _ h2)⟩,kj (K:=K) (a:=lf) (xs:=zs) (λj σ Hy=>∃(v6 v7:Option V) (xs:List V),σ=[some (.ref lt),some (.int sz),some (.ref m),some (.int x.1),some (.int x.2.1),some (.ref lf),v6,v7]∧ar H Hy∧Mm D Hy m mx c xs (iF ((oK (List.replicate sz.toNat .no) (ts.take i)).set x.2.1.toNat (.hd x.1 x.2.2.length)) (x.2.1.toNat+1) (x.2.2.take j))) ⟨v6,v7,_,rfl,s2,M2⟩ (λj σ Hy _ ⟨_,_,_,_,sy,_⟩=>SqL.of (sy _ _ h2)) ?_ ?_⟩
   ·rintro j v σ Hy tp hj ⟨v6,v7,xs,rfl,sy,My⟩ htp
    have s3:=ar.upd (o:=.tup [.int (j:Int),v]) htp;refine⟨tp,_,rfl,SqT.of ae,rfl,_,_,rfl,_,_,rfl,rfl,?_⟩;have jl:j<x.2.2.length:=(by rw[←e3];exact(JN.mp hj).1);have hw:x.2.2[j]?=some x.2.2[j]:=JM jl;have M3:=My.same s3;refine⟨_,rfl,m,_,_,rfl,M3.i,(by kernel_rfl),_,rfl,_,1,rfl,rfl,_,rfl,_,_,rfl,rfl,_,rfl,m,mx,c,xs,_,x.2.1+1+(j:Int),v,x.2.2[j],rfl,M3,Sm.of (by omega) (by omega),(h3.2 j v _ hj hw).keep (bg.of (sy.trans s3)),?_⟩;rw[kM,Kr,lw,if_pos ⟨by omega,by omega⟩];intro M4;refine⟨_,_,xs.set (x.2.1+1+(j:Int)).toNat v,rfl,λb u y=>by rw[aj (ai y hHc)];exact s3 _ _ (sy _ _ y),?_⟩;rw[bF hw,nv,Kf,show x.2.1.toNat+1+min j x.2.2.length=(x.2.1+1+(j:Int)).toNat by omega];exact M4
   ·rintro σ Hy ⟨v6,v7,xs,rfl,sy,My⟩
    rw[e3,J9 (JR _)]at My;refine⟨_,_,_,_,_,xs,rfl,sy,?_⟩;rw[bF hx,qe];exact My
  ·rintro σ Hx ⟨v3,v4,v5,v6,v7,xs,rfl,sx,Mx⟩
   rw[lt1,J9 (JR _)]at Mx;exact⟨_,rfl,k m mx c xs Hx sx hm hHc Mx⟩
def C2(D:Ad):Sp:=λvs H Q _=>∃ m mx c xs ws,vs=[.ref m]∧Mm D H m mx c xs ws∧∀ p H',ar H H'→H p=none→H' p=some (.lst xs)→Q (.ref p) H'
abbrev jZ:List Str:=["memory"]
theorem oN:aK jZ ["memory"] (aq f7):=⟨rfl,rfl,rfl,by decide +kernel,rfl,by decide +kernel,by decide +kernel⟩
theorem oO(F:Fun K "_law_words" "_law_words" f7 D.cz D.fc)(T:Txt K mg D)
  (aX:Ok P w K mg base 1 D.bB D.dj ["self"] (kn D))
  (aM:Ok P w K mg base 4 D.b9 D.dB ["self", "a"] (oy D)):Ok P w K mg base 5 D.cz D.fc ["memory"] (C2 D):=by
 refine⟨?_,F.binds (ps:=["memory"]) λ_ _ _ _ _ _ us hl=>match us,hl with|[_],_=>rfl⟩
 refine F.okE oN (λvs H Q E h=>?_) (λcdv A' outer s' H vs Q E hr h=>?_)
 ·obtain⟨m,mx,c,xs,ws,rfl,_⟩:=h
  rfl
 ·obtain⟨m,mx,c,xs,ws,rfl,M,k⟩:=h
  refine⟨_,(PSs.nox (ao (a9 (iN (cl:=[("memory",s'.heap.objs.size+1)]) (x := "a") (idx:=[0]) (NC:=["a", "memory"]) (by exact ft (sc:=aq f7) (N:=jZ) (ns:=["memory"]) rfl rfl rfl (by decide +kernel) rfl rfl (by intro q hq;rw[JO.mp hq];rfl)) rfl (fN rfl T.fX (aa (nK (pv 0) T.aI T.gq aX.g (hr.mono (by decide)) aX.b .nil dU) ah)) (λC fp s₀ H₀=>(eA (pv 1) T.aI T.fe aM.g (hr.mono (by decide)) aM.b .nil rn (aa (pv 0) ah))))))),?_⟩;have el:=M.r.1;have z:=M.z;refine⟨_,rfl,m,_,_,rfl,M.i,(by kernel_rfl),m,mx,c,xs,ws,rfl,M,ws.length,rfl,by omega,by omega,λL hL=>?_⟩;refine gz (lo:=0) (n:=ws.length) (λi ys Hc=>ys=xs.take i∧ar H Hc∧Hc L=some (.lst ys)) ⟨rfl,ar.upd hL,ae⟩ (λi ys Hc hi ⟨e,_,y⟩=>⟨y,by rw[e,Kf];omega⟩) (fH (by omega)) (λi ys Hc hi ⟨e,sc,y⟩=>?_) (λys Hc ⟨e,sc,y⟩=>?_)
  ·have Mc:=M.same sc
   refine⟨_,rfl,m,_,_,rfl,Mc.i,(by kernel_rfl),_,rfl,m,mx,c,xs,ws,_,rfl,Mc,Sm.of (by omega) (by omega),?_⟩;rw[if_pos ⟨by omega,by omega⟩];intro v w hv _ _;rw[show(0+(i:Int)).toNat=i by omega]at hv;exact⟨y,by rw[e,bF hv],λb u q=>by rw[aj (ai q hL)];exact sc b u q,ae⟩
  ·rw[e,←el,J9 (JR _)]at y
   exact k L Hc sc hL y
theorem jB{k:Nat}{xs:List Vl}:eqD (k+1) (.l xs) (.l [])=decide (xs=[]):=by
 cases xs with
 | nil=>rfl
 | cons x r =>
  show(_&&((x::r).length == ([]:List Vl).length))=_;rw[show((x::r).length == ([]:List Vl).length)=false from rfl,K9,decide_eq_false (by intro z;cases z)]
theorem lL{ws:List Mw}:(ws.map Mw.vl=[])↔ws=[]:=by simp
theorem lM{H:Hp}{e:Addr}{k:Nat}(h:H e=some (.lst [])):Rp H (k+1) (.ref e) (.l []):=⟨e,[],rfl,h,rfl,λi u x h=>by cases h⟩
theorem nB{a:Int}{ns:List Int}:inV (.int a) (ns.map V.int)=decide (a∈ns):=G1 (n:=some a) (f:=λo=>match o with|none=>.non|some t=>.int t) rfl (λ_=>rfl)
theorem yo(acc:List Int)(u:List Mw):(addW acc u).length≤acc.length+u.length:=by
 induction u generalizing acc with
 | nil=>exact JR _
 | cons w r ih =>
  have h1:(jX acc w).length≤acc.length+1:=by
   unfold jX;cases w.adr with
   | none=>exact Lo _
   | some a =>
    show(if a∈acc then acc else acc++[a]).length≤_;split
    ·exact Lo _
    ·rw[JU];exact JR _
  have h2:=ih (jX acc w);rw[Kv];show(addW (jX acc w) r).length≤_;omega
structure Dat(H:Hp)(kvs:List (Key×V))(ts:List Tg):Prop where
 k:Kys kvs (ts.map (·.2.1))
 v:∀ x∈ts,∃ lf zs,ia kvs (Sum.inl x.2.1)=some (.ref lf)∧H lf=some (.lst zs)∧MR H zs x.2.2
def vU:Sp:=λvs H Q _=>∃(lt:Addr) (tv:List V) (ts:List Tg) (lr:Addr) (rv:List V) (rs:List Mw) (sz:Int),vs=[.ref lt,.ref lr]∧H lt=some (.lst tv)∧ThL H tv ts∧H lr=some (.lst rv)∧MR H rv rs∧Bu ts rs sz∧(∀ a,Rch rs (fOf ts) a→a∈ts.map (·.2.1))∧∀ p R H',ar H H'→H p=none→H' p=some (.lst (R.map V.int))→Bfs rs (fOf ts) R→(∀ a∈R,Rch rs (fOf ts) a)→Q (.ref p) H'
abbrev uK:List Str:=["things", "roots", "at", "t", "a", "fields", "row", "left", "place", "word"]
theorem bH:aK uK ["things", "roots"] (aq jK):=⟨rfl,rfl,rfl,by decide +kernel,rfl,by decide +kernel,by decide +kernel⟩
theorem rW(F:Fun K "_law_met" "_law_met" jK D.dF D.gB)(T:Txt K mg D):Ok P w K mg base 1 D.dF D.gB ["things", "roots"] (vU):=by
 refine⟨?_,F.binds (ps:=["things", "roots"]) λ_ _ _ _ _ _ us hl=>match us,hl with|[_,_],_=>rfl⟩
 refine F.okE bH (λvs H Q E h=>?_) (λcdv A' outer s' H vs Q E hr h=>?_)
 ·obtain⟨lt,tv,ts,lr,rv,rs,sz,rfl,_⟩:=h
  rfl
 ·obtain⟨lt,tv,ts,lr,rv,rs,sz,rfl,ht,tl,hlr,rr,b,hR,k⟩:=h
  have hu:=j8 hr;have hu4:=KI (KN (by decide:2≤64) _) hr.units;refine⟨_,(PSs.nox (ag (ay (i:=2) bH.nd rfl (Or.inl rfl) kc)
   (ag (fz Kx rfl (eP (pv 0)) (gY rfl (aN (aP (i:=3) bH.nd rfl (Or.inl rfl)) (aN (aP (i:=4) bH.nd rfl (Or.inl rfl)) (aN (aP (i:=5) bH.nd rfl (Or.inl rfl)) fj))))
    (ao (mY hu (pv 2) (pv 4) (pv 5) rfl)))
   (ag (ay (i:=6) bH.nd rfl (Or.inl rfl) (dk ah))
   (ag (ay (i:=7) bH.nd rfl (Or.inl rfl) (dP cV rfl T.iu PyProof.Rows.Boot.«list» (aa (pv 1) ah)))
   (ag (ay (i:=8) bH.nd rfl (Or.inl rfl) ak)
   (ag (nF Kx (PW.pt (pw_or (aA (lJ (n:=2) hu4) (pv 7) (dk ah) (aT _)) (pw_or1 (aA qY (pv 8) (aV aL rfl T.fV PyProof.Rows.Boot.«len» (aa (pv 6) ah)) (aT _)))))
    (ag (dw (aA (yX (n:=2) hu4) (pv 7) (dk ah) (aT _))
     (ag (ay (i:=7) bH.nd rfl (Or.inl rfl) (dP cV rfl T.iu PyProof.Rows.Boot.«list» (aa (fm hu (pv 2) (bI cg (pv 6) (pv 8) (λ_ _=>rfl)) (λ_ _=>rfl)) ah)))
     (ao (ay (i:=8) bH.nd rfl (Or.inl rfl) (aw aW (pv 8) ak))))
     aY)
    (ag (fz Kx rfl (eP (pv 7)) (aP (i:=9) bH.nd rfl (Or.inl rfl))
     (ao (dw (PW.pt (pw_and (aA qO (pv 9) jo (aT _)) (pw_and (aA jf (bI dm (pv 9) ak (λ_ _=>rfl)) cA (aT _)) (pw_and1 (aA iw (bI dm (pv 9) ak (λ_ _=>rfl)) (pv 6) (by with_unfolding_all rfl))))))
      (ao (cB (mW PySem.F.plainAttrs_list PySem.F.slot_list_append PySem.F.type_list_append gu (pv 6) (aa (bI dm (pv 9) ak (λ_ _=>rfl)) ah))))
      aY)))
    (ao (ay (i:=7) bH.nd rfl (Or.inl rfl) (dk ah))))))
   (ao (a9 (pv 6)))))))))),?_⟩
  have lt1:=tl.1;have n10:=b.n;intro d hd;have s1:=ar.upd (o:=.dK []) hd;refine⟨_,rfl,lt,rfl,⟨_,SqL.of (s1 _ _ ht)⟩,ip (K:=K) (a:=lt) (xs:=tv) (λi σ Hx=>∃(v3 v4 v5:Option V) (kvs:List (Key×V)),σ=[some (.ref lt),some (.ref lr),some (.ref d),v3,v4,v5,none,none,none,none]∧ar H Hx∧Hx d=some (.dK kvs)∧Dat H kvs (ts.take i)) ⟨none,none,none,[],rfl,s1,ae,rfl,(λx m=>nomatch m)⟩ (λi σ Hx _ ⟨_,_,_,_,_,sx,_⟩=>SqL.of (sx _ _ ht)) ?_ ?_⟩
  ·rintro i v σ Hx hi ⟨v3,v4,v5,kvs,rfl,sx,zd,da⟩
   have il:i<ts.length:=(by rw[←lt1];exact(JN.mp hi).1);have hx:ts[i]?=some ts[i]:=JM il;obtain⟨x,ex⟩:∃ x,ts[i]=x:=⟨_,rfl⟩;rw[ex]at hx;obtain⟨q,lf,zs,rfl,h1,h2,h3⟩:=tl.2 i v x hi hx;have nx:x.2.1∉(ts.take i).map (·.2.1):=λm=>by
    obtain⟨y,my,ey⟩:=KY.mp m;obtain⟨j,hj⟩:=KA my;have jl:=(JN.mp hj).1;rw[Kf]at jl;rw[K2,if_pos (by omega)]at hj;rcases b.ap j i y x (by omega) hj hx with z|z<;>omega
   have lk:=da.k.len;rw[JS,Kf]at lk;refine⟨q,_,rfl,SqT.of (sx _ _ h1),rfl,_,_,rfl,_,_,rfl,_,_,rfl,rfl,?_⟩;refine⟨_,rfl,_,rfl,_,rfl,d,_,rfl,vG.k (k:=Sum.inl x.2.1) zd (by rw[lk];exact jv (by omega)),?_⟩;refine⟨_,_,_,putK kvs (Sum.inl x.2.1) (.ref lf),rfl,λb u y=>by rw[aj (ai y hd)];exact sx b u y,ae,?_⟩;rw[bF hx];refine⟨?_,λy m=>?_⟩
   ·rw[j9 _ (da.k.non nx)]
    have:=da.k
    unfold Kys at this ⊢;rw[Km,Km,Km,this];rfl
   ·by_cases e:y.2.1=x.2.1
    ·have ey:y=x:=by
      rcases Ka.mp m with m|m
      ·exact absurd (KY.mpr ⟨y,m,e⟩) nx
      ·exact JO.mp m
     rw[ey];exact⟨lf,zs,by rw[fh,if_pos rfl],h2,h3⟩
    ·obtain⟨l',z',g1,g⟩:=da.v y ((Ka.mp m).resolve_right λz=>e (by rw[JO.mp z]))
     exact⟨l',z',by rw[fh,if_neg (λz=>e (Sum.inl.inj z))];exact g1,g⟩
  rintro σ H1 ⟨v3,v4,v5,kvs,rfl,s1',zd,da⟩;rw[lt1,J9 (JR _)]at da;refine⟨by show 0≤sizeLine;exact Kh _,λrw' hrw=>?_⟩;have s2:=ar.upd (o:=.lst []) hrw;have sA:=s1'.trans s2;refine⟨_,rfl,lr,rv,rfl,.inl (SqL.of (sA _ _ hlr)),λl0 hl0=>?_⟩;have s3:=ar.upd (o:=.lst rv) hl0;have sB:=sA.trans s3;have zd2:=s3 _ _ (s2 _ _ zd);have zr2:upd (upd H1 rw' (.lst [])) l0 (.lst rv) rw'=some (.lst []):=s3 _ _ ae;have zl2:upd (upd H1 rw' (.lst [])) l0 (.lst rv) l0=some (.lst rv):=ae;have Ij:H rw'=none:=ar.none s1' hrw;generalize upd (upd H1 rw' (.lst [])) l0 (.lst rv)=H3 at *;have er:=rr.1;have rl:=b.rl;refine⟨λn σ Hx=>∃(v3 v4 v5 v9:Option V) (ll:Addr) (lv:List V) (lws:List Mw) (row:List Int) (p:Nat),σ=[some (.ref lt),some (.ref lr),some (.ref d),v3,v4,v5,some (.ref rw'),some (.ref ll),some (.int p),v9]∧ar H Hx∧Hx d=some (.dK kvs)∧Hx rw'=some (.lst (row.map V.int))∧Hx ll=some (.lst lv)∧MR Hx lv lws∧ll≠rw'∧(∀ a∈row,Rch rs (fOf ts) a)∧row.Nodup∧((lws=rs∧row=[]∧p=0∧n=200)∨(lws=[]∧Lw rs (fOf ts) row p∧n=100-p)),⟨200,v3,v4,v5,none,l0,rv,rs,[],0,rfl,sB,zd2,zr2,zl2,rr.keep (bg.of sB),(λe=>by rw[e,ae]at hl0;cases hl0),(λa m=>nomatch m),Lg,.inl ⟨rfl,rfl,rfl,rfl⟩⟩,?_⟩;rintro n σ Hx ⟨v3,v4,v5,v9,ll,lv,lws,row,p,rfl,sx,zdx,zrx,zlx,rl',nlr,hB,nd,ph⟩;have JI:row.length≤10:=Ko (jw nd λa m=>hR a (hB a m)) (by rw[JS];exact b.n);refine⟨_,rfl,by show 0≤sizeLine;exact Kh _,λe he=>?_⟩;have se:=ar.upd (o:=.lst []) he;have R1:Rp (upd Hx e (.lst [])) 2 (V.ref ll) _:=jQ (k:=0) (se _ _ zlx) (rl'.keep (bg.of se));have R2:Rp (upd Hx e (.lst [])) 2 (V.ref e) _:=lM ae;refine⟨_,_,R1,R2,_,rfl,?_⟩;rw[jB];have zd3:=se _ _ zdx;have zr3:=se _ _ zrx;have zl3:=se _ _ zlx;have rl3:=rl'.keep (bg.of se);have sx3:=sx.trans se;generalize upd Hx e (.lst [])=H4 at *;have fin:lws=[]→row.length≤p→Bfs rs (fOf ts) row:=λe h=>by
   rcases ph with⟨e1,e2,e3,_⟩|⟨_,lw,_⟩
   ·have l0:Lw rs (fOf ts) row p:=by rw[e2,e3,←e1,e];exact Lw.start (rs:=[])
    exact l0.done h
   ·exact lw.done h
  refine mX (λh=>tw ?x) (λh=>⟨_,rfl,_,rfl,rw',_,rfl,.inl (SqL.of zr3),_,_,rfl,rfl,_,rfl,mX (λh2=>?x2) (λh2=>?z)⟩)
  case z =>
   have e1:lws=[]:=by
    by_cases c:lws=[]
    ·exact c
    ·exact absurd (by rw[decide_eq_false (λz=>c (lL.mp z))];rfl) h
   have hp2:row.length≤p:=by
    by_cases c:p<row.length
    ·exact absurd (decide_eq_true (by rw[JS];omega)) h2
    ·omega
   exact⟨_,rfl,k rw' row _ sx3 Ij zr3 (fin e1 hp2) hB⟩
  case' x =>
   have hp:lws≠[]∨(lws=[]∧p<row.length):=.inl λe=>by rw[e]at h;exact absurd h (by decide)
  case' x2 =>
   have hp:lws≠[]∨(lws=[]∧p<row.length):=by
    by_cases c:lws=[]
    ·refine .inr ⟨c,?_⟩
     have:=of_decide_eq_true h2
     rw[JS]at this;omega
    ·exact .inl c
  all_goals
   refine⟨λσ' H'=>∃ m',m'<n∧∃(v3 v4 v5 v9:Option V) (ll:Addr) (lv:List V) (lws:List Mw) (row:List Int) (p:Nat),σ'=[some (.ref lt),some (.ref lr),some (.ref d),v3,v4,v5,some (.ref rw'),some (.ref ll),some (.int p),v9]∧ar H H'∧H' d=some (.dK kvs)∧H' rw'=some (.lst (row.map V.int))∧H' ll=some (.lst lv)∧MR H' lv lws∧ll≠rw'∧(∀ a∈row,Rch rs (fOf ts) a)∧row.Nodup∧((lws=rs∧row=[]∧p=0∧m'=200)∨(lws=[]∧Lw rs (fOf ts) row p∧m'=100-p)),λ_ _ h=>h,?_⟩;refine dO λN hN=>?_;have rest:∀(H5:Hp) (ll5:Addr) (lv5:List V) (ws5:List Mw) (p5:Nat),ar H H5→H5 d=some (.dK kvs)→H5 rw'=some (.lst (row.map V.int))→H5 ll5=some (.lst lv5)→MR H5 lv5 ws5→ll5≠rw'→ws5.length≤9→(∀ w∈ws5,Okw w∧∀ a,w=.ad a→Rch rs (fOf ts) a)→Lw rs (fOf ts) (addW row ws5) p5→100-p5<n→N [some (.ref lt),some (.ref lr),some (.ref d),v3,v4,v5,some (.ref rw'),some (.ref ll5),some (.int p5),v9] H5:=by
    intro H5 ll5 lv5 ws5 p5 s5 zd5 zr5 zl5 r5 n5 l9 hw5 lw5 lt5;have e5:=r5.1;refine hN _ _ ?_;refine⟨_,rfl,ll5,rfl,⟨_,SqL.of zl5⟩,ip (K:=K) (a:=ll5) (xs:=lv5) (λi σ Hy=>∃(v9:Option V),σ=[some (.ref lt),some (.ref lr),some (.ref d),v3,v4,v5,some (.ref rw'),some (.ref ll5),some (.int p5),v9]∧ar H Hy∧Hy d=some (.dK kvs)∧Hy rw'=some (.lst ((addW row (ws5.take i)).map V.int))∧Hy ll5=some (.lst lv5)∧MR Hy lv5 ws5) ⟨v9,rfl,s5,zd5,zr5,zl5,r5⟩ (λi σ Hy _ ⟨_,_,_,_,_,y,_⟩=>SqL.of y) ?_ ?_⟩
    ·rintro i v σ Hy hi ⟨v9',rfl,sy,zdy,zry,zly,ry⟩
     have il:i<ws5.length:=(by rw[←e5];exact(JN.mp hi).1);have hw:ws5[i]?=some ws5[i]:=JM il;obtain⟨w,ew⟩:∃ w,ws5[i]=w:=⟨_,rfl⟩;rw[ew]at hw;have mv:=ry.2 i v w hi hw;obtain⟨okw,_⟩:=hw5 w (J0 hw);have no:w.adr=none→Hy rw'=some (.lst ((addW row (ws5.take (i+1))).map V.int)):=λh=>by rw[bF hw,fY,jd,vN h];exact zry
     refine⟨_,rfl,rfl,_,rfl,?_⟩;rcases okw with rfl|⟨z,rfl⟩|⟨a,rfl,_⟩
     ·have ev:v=.non:=by
       rcases mv with⟨_,e⟩|⟨n,_⟩
       ·exact e
       ·exact absurd rfl n
      exact bK (by rw[ev];rfl) (kU ⟨_,rfl,sy,zdy,no rfl,zly,ry⟩)
     ·obtain⟨_,q,rfl,hq⟩:=mv.resolve_left (λz=>by cases z.1)
      exact bQ rfl ⟨_,rfl,q,_,0,.str "number",rfl,rfl,SqT.of hq,rfl,rfl,_,rfl,bK (by kernel_rfl) (kU ⟨_,rfl,sy,zdy,no rfl,zly,ry⟩)⟩
     ·obtain⟨_,q,rfl,hq⟩:=mv.resolve_left (λz=>by cases z.1)
      refine bQ rfl ⟨_,rfl,q,_,0,.str "at",rfl,rfl,SqT.of hq,rfl,rfl,_,rfl,bQ (by kernel_rfl) ⟨_,rfl,q,_,1,.int a,rfl,rfl,SqT.of hq,rfl,_,rfl,rw',_,rfl,.inl (SqL.of zry),rfl,ie _,_,rfl,?_⟩⟩;rw[nB];by_cases ca:a∈addW row (ws5.take i)
      ·refine bK (by rw[decide_eq_true ca];rfl) ⟨_,rfl,sy,zdy,?_,zly,ry⟩
       rw[bF hw,fY,jd,nV ca];exact zry
      ·have la:(addW row (ws5.take i)).length≤19:=by
        have:=yo row (ws5.take i)
        rw[Kf]at this;omega
       refine bQ (by rw[decide_eq_false ca];rfl) ⟨_,rfl,.inl ⟨rfl,_,SqL.of zry⟩,_,rfl,q,_,1,.int a,rfl,rfl,SqT.of hq,rfl,rw',_,_,rfl,rfl,zry,by rw[JS];exact jv (by omega),?_⟩;refine⟨_,rfl,λb u y=>by rw[aj (ai y Ij)];exact sy b u y,by rw[aj (cG zdy zry (by intro z;cases z))];exact zdy,?_,by rw[aj n5];exact zly,ry.keep (bg.set zry)⟩;rw[ae,bF hw,fY,jd,nU ca,Km];rfl
    ·rintro σ Hy ⟨v9',rfl,sy,zdy,zry,zly,ry⟩
     rw[e5,J9 (JR _)]at zry;refine⟨by show 0≤sizeLine;exact Kh _,λe6 he6=>?_⟩;have s6:=ar.upd (o:=.lst []) he6;exact⟨100-p5,lt5,v3,v4,v5,v9',e6,[],[],addW row ws5,p5,rfl,sy.trans s6,s6 _ _ zdy,s6 _ _ zry,ae,⟨rfl,(λi v w h=>by cases h)⟩,(λz=>by rw[z,zry]at he6;cases he6),λa m=>(tP.mp m).elim (hB a) λm=>(hw5 _ m).2 a rfl,vO nd,.inr ⟨rfl,lw5,rfl⟩⟩
   refine⟨_,rfl,by show 0≤sizeLine;exact Kh _,λe2 he2=>?_⟩;have s7:=ar.upd (o:=.lst []) he2;have Q1:Rp (upd H4 e2 (.lst [])) 2 (V.ref ll) _:=jQ (k:=0) (s7 _ _ zl3) (rl3.keep (bg.of s7));have Q2:Rp (upd H4 e2 (.lst [])) 2 (V.ref e2) _:=lM ae;refine⟨_,_,Q1,Q2,_,rfl,?_⟩;rw[jB];have zd7:=s7 _ _ zd3;have zr7:=s7 _ _ zr3;have zl7:=s7 _ _ zl3;have rl7:=rl3.keep (bg.of s7);have sx7:=sx3.trans s7;generalize upd H4 e2 (.lst [])=H7 at *;by_cases cl:lws=[]
   ·have hp2:p<row.length:=hp.elim (λh=>absurd cl h) (·.2)
    have lw:Lw rs (fOf ts) row p∧(n=200∨n=100-p):=by
     rcases ph with⟨e1,e2,e3,e4⟩|⟨_,lw,e4⟩
     ·rw[e2]at hp2;cases hp2
     ·exact⟨lw,.inr e4⟩
    have ha:row[p]?=some row[p]:=JM hp2;obtain⟨a,ea⟩:∃ a,row[p]=a:=⟨_,rfl⟩;rw[ea]at ha;have aR:=hB a (J0 ha);have aB:=hR a aR;obtain⟨x,mx,ex⟩:=KY.mp aB;obtain⟨lf,zs,hv,hlf,rlf⟩:=da.v x mx;have ex':x.2.1=a:=ex;rw[ex']at hv;have ef:=b.f mx;rw[ex']at ef;refine bQ (decide_eq_true (lL.mpr cl)) ⟨_,rfl,_,rfl,_,rfl,rw',_,_,.int a,rfl,rfl,SqL.of zr7,eL (by omega) (by rw[Int.toNat_natCast,JZ,ha];rfl),d,_,rfl,.inl ⟨kvs,Sum.inl a,.inl zd7,rfl,hv.symm⟩,lf,zs,rfl,.inl (SqL.of (sx7 _ _ hlf)),λl8 hl8=>?_⟩;have s8:=ar.upd (o:=.lst zs) hl8;refine⟨_,rfl,_,1,rfl,rfl,?_⟩;have fl:=b.fl x mx;exact rest _ l8 zs (fOf ts a) (p+1) (sx7.trans s8) (s8 _ _ zd7) (s8 _ _ zr7) ae (by rw[ef];exact rlf.keep (bg.of (sx7.trans s8))) (λz=>by rw[z,zr7]at hl8;cases hl8) (by rw[ef];omega) (λw m=>⟨by rw[ef]at m;exact b.fw x mx w m,λc e=>.step aR (by rw[←e];exact m)⟩) (lw.1.step ha) (by omega)
   ·obtain⟨e1,e2,e3,e4⟩:lws=rs∧row=[]∧p=0∧n=200:=ph.resolve_right λz=>cl z.1
    refine bK (decide_eq_false (λz=>cl (lL.mp z))) ?_;refine rest H7 ll lv lws p sx7 zd7 zr7 zl7 rl7 nlr (by rw[e1];exact rl) (λw m=>by rw[e1]at m;exact⟨b.rw w m,λc e=>.root (by rw[←e];exact m)⟩) (by rw[e1,e2,e3];exact Lw.start) (by omega)
abbrev nfw(fw:Int)(x:Tg):Bool:=decide (x.2.1≠fw)
theorem AK{H:Hp}{lv:List V}{lws:List Mw}{w:Mw}{r:List Mw}(e:lws=r++[w])(h:MR H lv lws):∃ v,lv[lv.length-1]?=some v∧MV H v w∧MR H lv.dropLast r:=by
 have l1:=h.1;rw[e,JU,Kt]at l1;have hw:lws[lv.length-1]?=some w:=by rw[e,l1,show r.length+1-1=r.length by omega,Ke (JR _),K1];rfl
 obtain⟨v,hv,mv⟩:=h.get hw;refine⟨v,hv,mv,by rw[List.length_dropLast,l1];omega,λi u y a b=>?_⟩;have il:=(JN.mp b).1;rw[List.getElem?_dropLast,if_pos (by omega)]at a;exact h.2 i u y a (by rw[e,Kg il];exact b)
structure Lf(rs:List Mw)(f:Int→List Mw)(B:List Int)(lws:List Mw)(met:List Int):Prop where
 mb:∀ a∈met,a∈B
 nd:met.Nodup
 ok:∀ w∈lws,Okw w∧∀ a,w=.ad a→Rch rs f a
 cr:∀ a,Mw.ad a∈rs→Mw.ad a∈lws∨a∈met
 cf:∀ c∈met,∀ a,Mw.ad a∈f c→Mw.ad a∈lws∨a∈met
theorem Lf.drop{rs:List Mw}{f:Int→List Mw}{B:List Int}{r:List Mw}{w:Mw}{met:List Int}(h:Lf rs f B (r++[w]) met)(o:∀ a,w=.ad a→a∈met):Lf rs f B r met:=by
 have c:∀ {a},(Mw.ad a∈r++[w]∨a∈met)→Mw.ad a∈r∨a∈met:=λz=>z.elim (λm=>(Ka.mp m).elim .inl λy=>.inr (o _ (JO.mp y).symm)) .inr;exact⟨h.mb,h.nd,λw m=>h.ok w (Kw _ m),λa m=>c (h.cr a m),λx mx a m=>c (h.cf x mx a m)⟩
theorem Lf.new{rs:List Mw}{f:Int→List Mw}{B:List Int}{r:List Mw}{a:Int}{met:List Int}(h:Lf rs f B (r++[.ad a]) met)(n:a∉met)(hb:a∈B)(hf:∀ w∈f a,Okw w):Lf rs f B (r++f a) (met++[a]):=by
 have ra:Rch rs f a:=(h.ok (.ad a) (JP _ JW)).2 a rfl;have c:∀ {b},(Mw.ad b∈r++[.ad a]∨b∈met)→Mw.ad b∈r++f a∨b∈met++[a]:=λz=>z.elim (λm=>(Ka.mp m).elim (λy=>.inl (Kw _ y)) λy=>.inr (by cases JO.mp y;exact JP _ JW)) λy=>.inr (Kw _ y);refine⟨λb m=>(Ka.mp m).elim (h.mb b) λz=>by rw[JO.mp z];exact hb,?_,λw m=>?_,λb m=>c (h.cr b m),λx mx b m=>?_⟩
 ·rw[KQ]
  exact⟨h.nd,by simp,λx hx y hy=>by rw[JO.mp hy];exact λe=>n (by rw[←e];exact hx)⟩
 ·rcases Ka.mp m with m|m
  ·exact h.ok w (Kw _ m)
  ·exact⟨hf w m,λb e=>.step ra (by rw[←e];exact m)⟩
 ·rcases Ka.mp mx with mx|mx
  ·exact c (h.cf x mx b m)
  ·rw[JO.mp mx]at m
   exact .inl (JP _ m)
theorem Lf.end{rs:List Mw}{f:Int→List Mw}{B:List Int}{met:List Int}(h:Lf rs f B [] met){a:Int}(r:Rch rs f a):a∈B:=by
 have:a∈met:=by
  induction r with
  | root m=>exact(h.cr _ m).resolve_left λz=>nomatch z
  | step _ m ih=>exact(h.cf _ ih _ m).resolve_left λz=>nomatch z
 exact h.mb a this
def vV:Sp:=λvs H Q _=>∃(lt:Addr) (tv:List V) (ts:List Tg) (lr:Addr) (rv:List V) (rs:List Mw) (sz fw:Int),vs=[.ref lt,.ref lr,.int fw]∧H lt=some (.lst tv)∧ThL H tv ts∧H lr=some (.lst rv)∧MR H rv rs∧Bu ts rs sz∧(∀ a,Rch rs (fOf ts) a→a∉Bw ts fw→∀ H',ar H H'→Q (.bl true) H')∧((∀ a,Rch rs (fOf ts) a→a∈Bw ts fw)→∀ H',ar H H'→Q (.bl false) H')
abbrev uL:List Str:=["things", "roots", "forward", "at", "t", "a", "fields", "met", "left", "word"]
theorem di:aK uL ["things", "roots", "forward"] (aq jL):=⟨rfl,rfl,rfl,by decide +kernel,rfl,by decide +kernel,by decide +kernel⟩
theorem rX(F:Fun K "_law_bad" "_law_bad" jL D.dH D.gD)(T:Txt K mg D):Ok P w K mg base 1 D.dH D.gD ["things", "roots", "forward"] (vV):=by
 refine⟨?_,F.binds (ps:=["things", "roots", "forward"]) λ_ _ _ _ _ _ us hl=>match us,hl with|[_,_,_],_=>rfl⟩
 refine F.okE di (λvs H Q E h=>?_) (λcdv A' outer s' H vs Q E hr h=>?_)
 ·obtain⟨lt,tv,ts,lr,rv,rs,sz,fw,rfl,_⟩:=h
  rfl
 ·obtain⟨lt,tv,ts,lr,rv,rs,sz,fw,rfl,ht,tl,hlr,rr,b,kt,kf⟩:=h
  have hu:=j8 hr;have hu4:=KI (KN (by decide:2≤64) _) hr.units;refine⟨_,(PSs.nox (ag (ay (i:=3) di.nd rfl (Or.inl rfl) kc)
   (ag (fz Kx rfl (eP (pv 0)) (gY rfl (aN (aP (i:=4) di.nd rfl (Or.inl rfl)) (aN (aP (i:=5) di.nd rfl (Or.inl rfl)) (aN (aP (i:=6) di.nd rfl (Or.inl rfl)) fj))))
    (ao (dw (aA xq (pv 5) (pv 2) (aT _))
     (ao (mY hu (pv 3) (pv 5) (pv 6) rfl))
     aY)))
   (ag (ay (i:=7) di.nd rfl (Or.inl rfl) (dk ah))
   (ag (ay (i:=8) di.nd rfl (Or.inl rfl) (dP cV rfl T.iu PyProof.Rows.Boot.«list» (aa (pv 1) ah)))
   (ag (nF Kx (aA (lJ (n:=2) hu4) (pv 8) (dk ah) (aT _))
    (ag (ay (i:=9) di.nd rfl (Or.inl rfl) (Du PySem.F.plainAttrs_list PySem.F.slot_list_pop PySem.F.type_list_pop Dw (pv 8)))
    (ao (dw (PW.pt (pw_and (aA qO (pv 9) jo (aT _)) (pw_and1 (aA jf (bI dm (pv 9) ak (λ_ _=>rfl)) cA (aT _)))))
     (ag (dw (yy (pW hu (bI dm (pv 9) ak (λ_ _=>rfl)) (pv 3)) (by with_unfolding_all rfl))
      (ao (a9 k8))
      aY)
     (ao (dw (aA iw (bI dm (pv 9) ak (λ_ _=>rfl)) (pv 7) (by with_unfolding_all rfl))
      (ag (cB (mW PySem.F.plainAttrs_list PySem.F.slot_list_append PySem.F.type_list_append gu (pv 7) (aa (bI dm (pv 9) ak (λ_ _=>rfl)) ah)))
      (ao (ay (i:=8) di.nd rfl (Or.inl rfl) (aw vL (pv 8) (fm hu (pv 3) (bI dm (pv 9) ak (λ_ _=>rfl)) (λ_ _=>rfl))))))
      aY)))
     aY))))
   (ao (a9 k8)))))))),?_⟩
  have lt1:=tl.1;have n10:=b.n;intro d hd;have s1:=ar.upd (o:=.dK []) hd;refine⟨_,rfl,lt,rfl,⟨_,SqL.of (s1 _ _ ht)⟩,ip (K:=K) (a:=lt) (xs:=tv) (λi σ Hx=>∃(v4 v5 v6:Option V) (kvs:List (Key×V)),σ=[some (.ref lt),some (.ref lr),some (.int fw),some (.ref d),v4,v5,v6,none,none,none]∧ar H Hx∧Hx d=some (.dK kvs)∧Dat H kvs ((ts.take i).filter (nfw fw))) ⟨none,none,none,[],rfl,s1,ae,rfl,(λx m=>nomatch m)⟩ (λi σ Hx _ ⟨_,_,_,_,_,sx,_⟩=>SqL.of (sx _ _ ht)) ?_ ?_⟩
  ·rintro i v σ Hx hi ⟨v4,v5,v6,kvs,rfl,sx,zd,da⟩
   have il:i<ts.length:=(by rw[←lt1];exact(JN.mp hi).1);have hx:ts[i]?=some ts[i]:=JM il;obtain⟨x,ex⟩:∃ x,ts[i]=x:=⟨_,rfl⟩;rw[ex]at hx;obtain⟨q,lf,zs,rfl,h1,h2,h3⟩:=tl.2 i v x hi hx;have nx:x.2.1∉((ts.take i).filter (nfw fw)).map (·.2.1):=λm=>by
    obtain⟨y,my,ey⟩:=KY.mp m;obtain⟨j,hj⟩:=KA (La.mp my).1;have jl:=(JN.mp hj).1;rw[Kf]at jl;rw[K2,if_pos (by omega)]at hj;rcases b.ap j i y x (by omega) hj hx with z|z<;>omega
   have lk:=da.k.len;have lf1:=Lq (nfw fw) (ts.take i);rw[JS]at lk;rw[Kf]at lf1;refine⟨q,_,rfl,SqT.of (sx _ _ h1),rfl,_,_,rfl,_,_,rfl,_,_,rfl,rfl,?_⟩;rw[bF hx,List.filter_append];refine⟨_,rfl,_,rfl,rfl,_,rfl,?_⟩;have ee:∀ y z:Int,decide (V.int y=V.int z)=decide (y=z):=(by intro y z;rw[decide_eq_decide];exact⟨λh=>by cases h;rfl,λh=>by rw[h]⟩);by_cases c:x.2.1=fw
   ·rw[show[x].filter (nfw fw)=[] by simp[nfw,c],Lu]
    exact bK (by rw[ee,decide_eq_true c];rfl) ⟨_,_,_,kvs,rfl,sx,zd,da⟩
   rw[show[x].filter (nfw fw)=[x] by simp[nfw,c]];refine bQ (by rw[ee,decide_eq_false c];rfl) ⟨_,rfl,_,rfl,_,rfl,d,_,rfl,vG.k (k:=Sum.inl x.2.1) zd (by rw[lk];exact jv (by omega)),?_⟩;refine⟨_,_,_,putK kvs (Sum.inl x.2.1) (.ref lf),rfl,λb u y=>by rw[aj (ai y hd)];exact sx b u y,ae,?_⟩;refine⟨?_,λy m=>?_⟩
   ·rw[j9 _ (da.k.non nx)]
    have:=da.k
    unfold Kys at this ⊢;rw[Km,Km,Km,this];rfl
   ·by_cases e:y.2.1=x.2.1
    ·have ey:y=x:=by
      rcases Ka.mp m with m|m
      ·exact absurd (KY.mpr ⟨y,m,e⟩) nx
      ·exact JO.mp m
     rw[ey];exact⟨lf,zs,by rw[fh,if_pos rfl],h2,h3⟩
    ·obtain⟨l',z',g1,g⟩:=da.v y ((Ka.mp m).resolve_right λz=>e (by rw[JO.mp z]))
     exact⟨l',z',by rw[fh,if_neg (λz=>e (Sum.inl.inj z))];exact g1,g⟩
  rintro σ H1 ⟨v4,v5,v6,kvs,rfl,s1',zd,da⟩;rw[lt1,J9 (JR _)]at da;refine⟨by show 0≤sizeLine;exact Kh _,λrm hrm=>?_⟩;have s2:=ar.upd (o:=.lst []) hrm;have sA:=s1'.trans s2;refine⟨_,rfl,lr,rv,rfl,.inl (SqL.of (sA _ _ hlr)),λl0 hl0=>?_⟩;have s3:=ar.upd (o:=.lst rv) hl0;have sB:=sA.trans s3;have zd2:=s3 _ _ (s2 _ _ zd);have zr2:upd (upd H1 rm (.lst [])) l0 (.lst rv) rm=some (.lst []):=s3 _ _ ae;have zl2:upd (upd H1 rm (.lst [])) l0 (.lst rv) l0=some (.lst rv):=ae;have Jv:H rm=none:=ar.none s1' hrm;have Jw:H l0=none:=ar.none sA hl0;have nl0:l0≠rm:=λe=>by rw[e,ae]at hl0;cases hl0
  generalize upd (upd H1 rm (.lst [])) l0 (.lst rv)=H3 at *;refine⟨λn σ Hx=>∃(v4 v5 v6 v9:Option V) (ll:Addr) (lv:List V) (lws:List Mw) (met:List Int),σ=[some (.ref lt),some (.ref lr),some (.int fw),some (.ref d),v4,v5,v6,some (.ref rm),some (.ref ll),v9]∧ar H Hx∧Hx d=some (.dK kvs)∧Hx rm=some (.lst (met.map V.int))∧Hx ll=some (.lst lv)∧MR Hx lv lws∧ll≠rm∧H ll=none∧Lf rs (fOf ts) (Bw ts fw) lws met∧n=lws.length+7*(10-met.length)∧lws.length+7*(10-met.length)≤79,⟨_,v4,v5,v6,none,l0,rv,rs,[],rfl,sB,zd2,zr2,zl2,rr.keep (bg.of sB),nl0,Jw,⟨(λa m=>nomatch m),Lg,λw m=>⟨b.rw w m,λa e=>.root (by rw[←e];exact m)⟩,λa m=>.inl m,(λa m=>nomatch m)⟩,rfl,by have:=b.rl;simp;omega⟩,?_⟩;rintro n σ Hx ⟨v4,v5,v6,v9,ll,lv,lws,met,rfl,sx,zdx,zrx,zlx,rl',nlr,C3,I,rfl,l79⟩;have lB:(Bw ts fw).length≤10:=Ko (Lq _ _) (by rw[JS];exact b.n);have JJ:met.length≤10:=Ko (jw I.nd I.mb) lB;refine⟨_,rfl,by show 0≤sizeLine;exact Kh _,λe he=>?_⟩;have se:=ar.upd (o:=.lst []) he;have R1:Rp (upd Hx e (.lst [])) 2 (V.ref ll) _:=jQ (k:=0) (se _ _ zlx) (rl'.keep (bg.of se));have R2:Rp (upd Hx e (.lst [])) 2 (V.ref e) _:=lM ae;refine⟨_,_,R1,R2,_,rfl,?_⟩;rw[jB];have zd3:=se _ _ zdx;have zr3:=se _ _ zrx;have zl3:=se _ _ zlx;have rl3:=rl'.keep (bg.of se);have sx3:=sx.trans se;generalize upd Hx e (.lst [])=H4 at *;by_cases c0:lws=[]
  ·subst c0
   exact bK rfl (kf (λa r=>I.end r) _ sx3)
  obtain⟨r,w,er⟩:∃ r w,lws=r++[w]:=⟨lws.dropLast,lws.getLast c0,(List.dropLast_concat_getLast c0).symm⟩;subst er;obtain⟨v,hv,mv,mr⟩:=AK rfl rl3;refine bQ (by rw[decide_eq_false (λz=>c0 (lL.mp z))];rfl) ?_;refine⟨λσ' H'=>∃ m',m'<(r++[w]).length+7*(10-met.length)∧∃(v4 v5 v6 v9:Option V) (ll:Addr) (lv:List V) (lws:List Mw) (met:List Int),σ'=[some (.ref lt),some (.ref lr),some (.int fw),some (.ref d),v4,v5,v6,some (.ref rm),some (.ref ll),v9]∧ar H H'∧H' d=some (.dK kvs)∧H' rm=some (.lst (met.map V.int))∧H' ll=some (.lst lv)∧MR H' lv lws∧ll≠rm∧H ll=none∧Lf rs (fOf ts) (Bw ts fw) lws met∧m'=lws.length+7*(10-met.length)∧lws.length+7*(10-met.length)≤79,λ_ _ h=>h,?_⟩;refine⟨_,rfl,.inl ⟨rfl,_,SqL.of zl3⟩,ll,lv,v,rfl,rfl,zl3,hv,?_⟩;have sx5:ar H (upd H4 ll (.lst lv.dropLast)):=λb u y=>by rw[aj (ai y C3)];exact sx3 b u y
  have zd5:upd H4 ll (.lst lv.dropLast) d=some (.dK kvs):=by rw[aj (cG zd3 zl3 (by intro z;cases z))];exact zd3
  have zr5:upd H4 ll (.lst lv.dropLast) rm=some (.lst (met.map V.int)):=by rw[aj (KG nlr)];exact zr3
  have zl5:upd H4 ll (.lst lv.dropLast) ll=some (.lst lv.dropLast):=ae;have tu:=bg.set (o:=.lst lv.dropLast) zl3;have mr5:=mr.keep tu;have mv5:=mv.keep tu;generalize upd H4 ll (.lst lv.dropLast)=H5 at *;have lr1:(r++[w]).length=r.length+1:=by rw[JU];rfl
  obtain⟨okw,rw'⟩:=I.ok w (JP _ JW);refine⟨_,rfl,rfl,_,rfl,?_⟩;rcases okw with rfl|⟨z,rfl⟩|⟨a,rfl,_⟩
  ·have ev:v=.non:=by
    rcases mv with⟨_,e⟩|⟨n,_⟩
    ·exact e
    ·exact absurd rfl n
   exact bK (by rw[ev];rfl) (kU ⟨r.length+7*(10-met.length),by omega,v4,v5,v6,some _,ll,lv.dropLast,r,met,rfl,sx5,zd5,zr5,zl5,mr5,nlr,C3,I.drop (λa e=>by cases e),rfl,by omega⟩)
  ·obtain⟨_,q,rfl,hq⟩:=mv5.resolve_left (λz=>by cases z.1)
   refine bQ rfl ⟨_,rfl,q,_,0,.str "number",rfl,rfl,SqT.of hq,rfl,rfl,_,rfl,bK (by kernel_rfl) ?_⟩;exact(⟨r.length+7*(10-met.length),by omega,v4,v5,v6,some _,ll,lv.dropLast,r,met,rfl,sx5,zd5,zr5,zl5,mr5,nlr,C3,I.drop (λa e=>by cases e),rfl,by omega⟩)
  ·obtain⟨_,q,rfl,hq⟩:=mv5.resolve_left (λz=>by cases z.1)
   refine bQ rfl ⟨_,rfl,q,_,0,.str "at",rfl,rfl,SqT.of hq,rfl,rfl,_,rfl,bQ (by kernel_rfl) ?_⟩;refine⟨_,rfl,q,_,1,.int a,rfl,rfl,SqT.of hq,rfl,_,rfl,d,_,rfl,.inl ⟨kvs,Sum.inl a,.inl zd5,rfl,rfl⟩,_,rfl,?_⟩;by_cases ab:a∈Bw ts fw
   case neg =>
    have nk:ia kvs (Sum.inl a)=none:=da.k.non λm=>ab (by obtain⟨y,my,ey⟩:=KY.mp m;obtain⟨m1,m2⟩:=La.mp my;exact jA.mpr ⟨⟨y,m1,ey⟩,λz=>of_decide_eq_true m2 (by rw[←z];exact ey)⟩);exact bQ (by rw[nk];rfl) (kt a (rw' a rfl) ab _ sx5)
   obtain⟨⟨x,mx,ex⟩,nf⟩:=jA.mp ab;obtain⟨lf,zs,hvx,hlf,rlf⟩:=da.v x (La.mpr ⟨mx,decide_eq_true (by rw[ex];exact nf)⟩);rw[ex]at hvx;have ef:=b.f mx;rw[ex]at ef;refine bK (by rw[hvx];rfl) ?_;refine⟨_,rfl,q,_,1,.int a,rfl,rfl,SqT.of hq,rfl,_,rfl,rm,_,rfl,.inl (SqL.of zr5),rfl,ie _,_,rfl,?_⟩;rw[nB];by_cases cm:a∈met
   ·exact bK (by rw[decide_eq_true cm];rfl) ⟨r.length+7*(10-met.length),by omega,v4,v5,v6,some _,ll,lv.dropLast,r,met,rfl,sx5,zd5,zr5,zl5,mr5,nlr,C3,I.drop (λc e=>by cases e;exact cm),rfl,by omega⟩
   have lm2:met.length+1≤10:=by
    have nn:(met++[a]).Nodup:=by
     rw[KQ];exact⟨I.nd,by simp,λx hx y hy=>by rw[JO.mp hy];exact λe=>cm (by rw[←e];exact hx)⟩
    have:=jw nn λc m=>(Ka.mp m).elim (I.mb c) λz=>by rw[JO.mp z];exact ab
    rw[JU,Kt]at this;omega
   refine bQ (by rw[decide_eq_false cm];rfl) ⟨_,rfl,.inl ⟨rfl,_,SqL.of zr5⟩,_,rfl,q,_,1,.int a,rfl,rfl,SqT.of hq,rfl,rm,_,_,rfl,rfl,zr5,by rw[JS];exact jv (by omega),?_⟩;have sx6:ar H (upd H5 rm (.lst (met.map V.int++[.int a]))):=λb u y=>by rw[aj (ai y Jv)];exact sx5 b u y
   have zd6:upd H5 rm (.lst (met.map V.int++[.int a])) d=some (.dK kvs):=(by rw[aj (cG zd5 zr5 (by intro z;cases z))];exact zd5);have zl6:upd H5 rm (.lst (met.map V.int++[.int a])) ll=some (.lst lv.dropLast):=(by rw[aj nlr];exact zl5);have zr6:upd H5 rm (.lst (met.map V.int++[.int a])) rm=some (.lst ((met++[a]).map V.int)):=(by rw[ae,Km];rfl);have tu6:=bg.set (o:=.lst (met.map V.int++[.int a])) zr5;have hq6:=tu6 _ _ hq;have mr6:=mr5.keep tu6;generalize upd H5 rm (.lst (met.map V.int++[.int a]))=H6 at *;have fl:=b.fl x mx;have e1:=rlf.1;have e2:=mr.1;refine⟨_,rfl,_,rfl,_,rfl,q,_,1,.int a,rfl,rfl,SqT.of hq6,rfl,d,_,rfl,.inl ⟨kvs,Sum.inl a,.inl zd6,rfl,hvx.symm⟩,ll,lf,_,zs,rfl,rfl,SqL.of zl6,SqL.of (sx6 _ _ hlf),?_,λl7 h7=>?_⟩
   ·rw[e2,e1];exact fH (by omega)
   have s7:=ar.upd (o:=.lst (lv.dropLast++zs)) h7;refine⟨_,?_,v4,v5,v6,some _,l7,_,r++fOf ts a,met++[a],rfl,sx6.trans s7,s7 _ _ zd6,s7 _ _ zr6,ae,(mr6.keep (bg.of s7)).app (by rw[ef];exact rlf.keep (bg.of (sx6.trans s7))),(λz=>by rw[z,zr6]at h7;cases h7),ar.none sx6 h7,I.new cm ab (λw m=>by rw[ef]at m;exact b.fw x mx w m),rfl,?_⟩
   ·rw[ef,JU,JU,JU,Kt,Kt];omega
   ·rw[ef,JU,JU,Kt];omega
end
end K42
end
section
namespace L2
open PySem PySem.Spec PyProof.Rows LX
section
variable{X:Cx}
def vv(K:W.Frag):V→List V→Hp→VK→Prop:=λx vs H Q=>∃ l xs y,∃ j:Nat,x=.ref l∧vs=[y]∧SqL K H l xs∧d3 y=true∧xs.all d3=true∧(xs[j]?.any λz=>eqV z y)=true∧(xs.take j).all (λz=>!eqV z y)=true∧j<1000∧Q (.int j) H
theorem yp:MtM X "list.index" (vv X.K):=by
 intro pins s σ H x vs v us Q I rx rv h;obtain⟨l,xs,y,j,rfl,rfl,hx,fy,fx,hj,hb,jl,q⟩:=h;cases rx;obtain⟨u,rfl,ru⟩:=rv.one;obtain⟨its,r1,⟨⟨c1,d1,da1,s1⟩,n1,e1,f1,_,g1⟩,_⟩:=I.list hx;simp only at f1 g1;subst f1 g1;obtain⟨z,hz,ez⟩:∃ z,xs[j]?=some z∧eqV z y=true:=by
  cases e:xs[j]? with
  | none=>rw[e]at hj;cases hj
  | some z=>rw[e]at hj;exact⟨z,rfl,hj⟩
 have jx:=(JN.mp hz).1;have ln:=r1.length;have at_:∀(m:Nat) (hm:m<its.length) (z:V),xs[m]?=some z→eqU y its[m]=eqV z y:=λm hm z hz=>by
  obtain⟨w,hw,rw'⟩:=r1.get hz;rw[JM hm]at hw;rw[Kq hw];exact rb rw' (K6.mp fx _ (J0 hz))
 refine call_meets PySem.F.slot_list_index ⟨_,e1,rfl⟩ PySem.F.entry_list_index (PySem.F.args_list_index_2 _ _) (SeqAt.list_indexAt l its.toArray n1 d1 s1 u (eqU y) j (by rw[JV,←ln];exact jx) (by omega) ?_ λm hm hlt=>?_) ⟨e1,λz hz=>gH ru fy r1 fx z (by simpa using hz),?_⟩
 ·rw[List.getElem_toArray,at_ j (by omega) z hz,ez]
 ·have mx:m<xs.length:=by rw[ln];simpa using hm
  rw[List.getElem_toArray,at_ m (by omega) xs[m] (JM mx)]
  have:=K6.mp hb xs[m] (List.mem_iff_getElem?.mpr ⟨m,by rw[K2,if_pos hlt];exact JM mx⟩)
  simpa using this
 ·exact⟨.int _,H,I.tok _,⟨_,rfl⟩,q⟩
end
end L2
end
section
namespace K42
open PySem L2 LX
section
variable{P:Program}{w:World}{K:W.Frag}{mg:Str→Option Value}{base:Heap}{D:Ad}
theorem gI{K:W.Frag}{t:Value}:∀ {as:List Addr},(∀ a∈as,PySem.W.kitOne K t (.ref a)=some false)→PySem.W.kitAny K t ((as.map V.ref).map yQ)=some false
 | [],_=>rfl
 | a::r,h=>by
  have e:=h a JW;show PySem.W.kitAny K t (Value.ref a::(r.map V.ref).map yQ)=_;unfold PySem.W.kitAny;rw[e];exact gI λb m=>h b (JT _ m)
theorem jC(as:List Addr):∀ c∈as.map V.ref,∃ a,c=V.ref a:=λc m=>by obtain⟨a,_,e⟩:=KY.mp m;exact⟨a,e.symm⟩
theorem eQ{H:Hp}{a:Addr}{o:HO}(_:ar H (upd H a o)):upd H a o a=some o:=ae
theorem all_nil{p:Addr→Prop}:∀ a∈([]:List Addr),p a:=λ_ m=>nomatch m
theorem all_cons{p:Addr→Prop}{a:Addr}{r:List Addr}(h:p a)(t:∀ b∈r,p b):∀ b∈a::r,p b:=λb m=>(Kc.mp m).elim (λe=>by rw[e];exact h) (t b)
def vW(D:Ad):Sp:=λvs H Q _=>∃(way:Int),∃ m mx c xs ws m2 mx2 c2 xs2 ws2,∃(fs:Int) (l:Addr) (ys:List V) (rs:List Mw) (f:Int→List Mw) (tt:Int→Int) (B:List Int),vs=[.int way,.ref m,.ref m2,.int fs,.ref l]∧Mm D H m mx c xs ws∧Mm D H m2 mx2 c2 xs2 ws2∧c≠c2∧l≠c∧l≠c2∧Gm ws∧H l=some (.lst ys)∧MR H ys rs∧Sr ws rs f tt B∧0≤fs∧fs≤1000∧(way=0∨way=1)∧(∀ a,Rch rs f a→a∉B→∀ H',ar H H'→Q (.str "address") H')∧(way=1→∀ R,Bfs rs f R→(∀ a∈R,a∈B)→(0<(tot f R:Int)∧(ws2.length:Int)<fs+tot f R)→∀ H',ar H H'→Q (.str "room") H')∧(way=0→∀ R,Bfs rs f R→(∀ a∈R,a∈B)→∀ H',ar H H'→Q (.str "told") H')∧(way=1→∀ R,Bfs rs f R→(∀ a∈R,a∈B)→¬(0<(tot f R:Int)∧(ws2.length:Int)<fs+tot f R)→∀ H',ic c c2 H H'→Q (.str "told") H')
abbrev rY:List Str:=["way", "source", "target", "first", "roots", "word", "e", "others", "marks"]
theorem cZ:aK rY ["way", "source", "target", "first", "roots"] (aq i7):=⟨rfl,rfl,rfl,by decide +kernel,rfl,by decide +kernel,by decide +kernel⟩
theorem qx(F:Fun K "_law_word" "_law_word" i7 D.df D.fS)(T:Txt K mg D)
  (fb:Ok P w K mg base 9 D.bC D.dY ["source", "roots"] (CW D))
  (kq:Ok P w K mg base 10 D.fi D.jc ["source", "target", "first", "roots"] (CY D)):Ok P w K mg base 11 D.df D.fS ["way", "source", "target", "first", "roots"] (vW D):=by
 refine⟨?_,F.binds (ps:=["way", "source", "target", "first", "roots"]) λ_ _ _ _ _ _ us hl=>match us,hl with|[_,_,_,_,_],_=>rfl⟩
 refine F.okE cZ (λvs H Q E h=>?_) (λcdv A' outer s' H vs Q E hr h=>?_)
 ·obtain⟨way,m,mx,c,xs,ws,m2,mx2,c2,xs2,ws2,fs,l,ys,rs,f,tt,B,rfl,_⟩:=h
  rfl
 ·obtain⟨way,m,mx,c,xs,ws,m2,mx2,c2,xs2,ws2,fs,l,ys,rs,f,tt,B,rfl,M,M2,ncc,nlc,Gk,gm,hl,ry,S,fs0,fs1,hw,ka,kr,k0,k1⟩:=h
  obtain⟨cdH,xH⟩:=T.h;refine⟨_,(ag (ay (i:=5) cZ.nd rfl (Or.inl rfl) cA)
   (ag (DF (i:=6) rfl rfl rfl rfl T.mH xH cZ.nd rfl rfl (λpins E' EK hp=>ao (dw (aA jf (pv 0) ak (aT _)) (ao (cB (aH fb.g (hr.mono (by decide)) rfl T.lU T.gr fb.b .nil hp (aa (pv 1) (aa (pv 4) ah))))) (ao (cB (aH kq.g (hr.mono (by decide)) rfl T.yd T.nN kq.b .nil hp (aa (pv 1) (aa (pv 2) (aa (pv 3) (aa (pv 4) ah))))))))) (λea=>(ag (ay (i:=7) cZ.nd rfl (Or.inl rfl) (aV (r:=qS K) kX rfl T.dD PyProof.Rows.Boot.«isinstance» (aa (pv 6) (aa (dz (aa (eh (v:=.ref D.bh) rfl T.rK rfl) (aa (eh (v:=.ref D.bj) rfl T.rL rfl) (aa (eh (v:=.ref D.bT) rfl T.ux rfl) (aa (eh (v:=.ref D.cQ) rfl T.w8 rfl) (aa (eh (v:=.ref D.bU) rfl T.uy rfl) (aa (eh (v:=.ref D.bo) rfl T.rM rfl) (aa (eh (v:=.ref D.bV) rfl T.uz rfl) (aa (eh (v:=.ref D.bW) rfl T.uB rfl) ah))))))))) ah)))) (ag (ay (i:=7) cZ.nd rfl (Or.inl rfl) (zx (pv 7) (zx (aV (r:=qS K) kX rfl T.dD PyProof.Rows.Boot.«isinstance» (aa (pv 6) (aa (dz (aa (eh (v:=.ref D.bX) rfl T.uC rfl) (aa (eh (v:=.ref D.bY) rfl T.uD rfl) (aa (eh (v:=.ref D.aF) rfl T.lh rfl) ah)))) ah))) (yz (Dm (aV (r:=zC K) wQ rfl T.dD PyProof.Rows.Boot.«isinstance» (aa (pv 6) (aa (GR rfl T.gb PyProof.Rows.Boot.«ValueError») ah)))))))) (ag (ay (i:=8) cZ.nd rfl (Or.inl rfl) (dk (aa (aV (r:=Gg K) tH rfl T.dD PyProof.Rows.Boot.«isinstance» (aa (pv 6) (aa (eh (v:=.ref D.af) rfl T.fE rfl) ah))) (aa (aV (r:=Gg K) tH rfl T.dD PyProof.Rows.Boot.«isinstance» (aa (pv 6) (aa (eh (v:=.ref D.au) rfl T.qa rfl) ah))) (aa (pv 7) ah))))) (ag (ay (i:=5) cZ.nd rfl (Or.inl rfl) cA) (ao (by exact(dw (PW.pt (pw_and (aA jf (show PE _ _ (tBM K "list" (vi K) (zT 8) (t8 (tC (.bl true)) zW)) from mW (r:=vi K) PySem.F.plainAttrs_list PySem.F.slot_list_count PySem.F.type_list_count x3 (pv 8) (aa k8 ah)) ak (aT _)) (pw_and1 (qX (qW (pv 7)))))) (ao (ay (i:=5) cZ.nd rfl (Or.inl rfl) (bI (r:=A0 K) cg (dk (aa cA (aa cA ah))) (show PE _ _ (tBM K "list" (vv K) (zT 8) (t8 (tC (.bl true)) zW)) from mW (r:=vv K) PySem.F.plainAttrs_list PySem.F.slot_list_index PySem.F.type_list_index yp (pv 8) (aa k8 ah)) (λ_ _=>rfl)))) aY)))))))))
   (ao (a9 (pv 5))))),?_⟩
  rcases hw with rfl|rfl
  ·refine⟨_,rfl,rfl,_,rfl,bQ (by rfl) ⟨_,rfl,_,rfl,m,mx,c,xs,ws,l,ys,rs,f,tt,B,rfl,M,gm,hl,ry,S,λa ra nb H1 s1=>?_,λR H1 bf hB s1=>⟨_,rfl,k0 rfl R bf hB H1 s1⟩⟩⟩
   have kx:=ka a ra nb;obtain⟨cd,xc,hm⟩:=T.iU;refine⟨D.af,cd,rfl,xc,hm,λea hea=>?_⟩;have se:=ar.upd (o:=exo false D.af ea none) hea;have he:upd H1 ea (exo false D.af ea none) ea=some (exo false D.af ea none):=ae;generalize upd H1 ea (exo false D.af ea none)=H2 at *;refine⟨_,rfl,by show 8≤sizeLine;decide,λt1 ht1=>?_⟩;have u1:=ar.upd (o:=.tup ([D.bh,D.bj,D.bT,D.cQ,D.bU,D.bo,D.bV,D.bW].map V.ref)) ht1;obtain⟨cx,xx⟩:=T.aE.cls;refine⟨false,ea,D.af,t1,none,cx,[D.bh,D.bj,D.bT,D.cQ,D.bU,D.bo,D.bV,D.bW].map V.ref,false,rfl,u1 _ _ he,.inl rfl,xx,T.aE.get,T.aE.own,SqT.of ae,jC _,gI (all_cons T.cq (all_cons T.cu (all_cons T.cH (all_cons T.cS (all_cons T.cI (all_cons T.cv (all_cons T.cJ (all_cons T.cK all_nil)))))))),?_⟩;refine⟨_,rfl,false,rfl,kU ⟨_,rfl,by show 3≤sizeLine;decide,λt2 ht2=>?_⟩⟩;have u2:=ar.upd (o:=.tup ([D.bX,D.bY,D.aF].map V.ref)) ht2;have e2:=u2 _ _ (u1 _ _ he);refine⟨false,ea,D.af,t2,none,cx,[D.bX,D.bY,D.aF].map V.ref,false,rfl,e2,.inl rfl,xx,T.aE.get,T.aE.own,SqT.of ae,jC _,gI (all_cons T.cL (all_cons T.cM (all_cons T.br all_nil))),false,rfl,kU ?_⟩;have ty:TyX K _ (.ref ea) (.ref D.af):=T.aE.ty e2;refine kJ (x:=.ref ea) (t:=.ref D.af) (b:=true) rfl ty T.jt ⟨true,rfl,?_⟩;refine⟨_,rfl,.ref ea,.ref D.af,.ref D.af,true,rfl,ty,⟨_,rfl⟩,T.bJ,_,rfl,.ref ea,.ref D.au,.ref D.af,false,rfl,ty,⟨_,rfl⟩,T.cT,_,rfl,by show 3≤sizeLine;decide,λp3 h3=>?_⟩;have u3:=ar.upd (o:=.lst [V.bl true,V.bl false,V.bl false]) h3;have uA:=((s1.trans se).trans u1).trans (u2.trans u3);refine⟨_,rfl,.inl ⟨rfl,_,SqL.of (eQ u3)⟩,p3,_,.bl true,rfl,rfl,SqL.of (eQ u3),rfl,(by rfl),rfl,_,rfl,bQ (by rfl) ⟨_,rfl,false,rfl,tw ?_⟩⟩;refine⟨by show 2≤sizeLine;decide,λp5 h5=>?_⟩;have u5:=ar.upd (o:=.lst [V.str "address",V.str "room"]) h5;refine⟨_,rfl,.inl ⟨rfl,_,SqL.of (u5 _ _ (eQ u3))⟩,p3,_,.bl true,0,rfl,rfl,SqL.of (u5 _ _ (eQ u3)),rfl,rfl,rfl,rfl,by decide,p5,_,_,.str "address",rfl,rfl,SqL.of ae,rfl,?_⟩;exact⟨_,rfl,kx _ (uA.trans u5)⟩
  ·refine⟨_,rfl,rfl,_,rfl,bK (by rfl) ⟨_,rfl,_,rfl,_,rfl,_,rfl,m,mx,c,xs,ws,m2,mx2,c2,xs2,ws2,fs,l,ys,rs,f,tt,B,rfl,M,M2,ncc,nlc,Gk,gm,hl,ry,S,fs0,fs1,λa ra nb H1 s1=>?_,λR bf hB rm H1 s1=>?_,λR p H1 bf hB rm b2=>⟨_,rfl,k1 rfl R bf hB rm H1 b2⟩⟩⟩
   ·have kx:=ka a ra nb
    obtain⟨cd,xc,hm⟩:=T.iU;refine⟨D.af,cd,rfl,xc,hm,λea hea=>?_⟩;have se:=ar.upd (o:=exo false D.af ea none) hea;have he:upd H1 ea (exo false D.af ea none) ea=some (exo false D.af ea none):=ae;generalize upd H1 ea (exo false D.af ea none)=H2 at *;refine⟨_,rfl,by show 8≤sizeLine;decide,λt1 ht1=>?_⟩;have u1:=ar.upd (o:=.tup ([D.bh,D.bj,D.bT,D.cQ,D.bU,D.bo,D.bV,D.bW].map V.ref)) ht1;obtain⟨cx,xx⟩:=T.aE.cls;refine⟨false,ea,D.af,t1,none,cx,[D.bh,D.bj,D.bT,D.cQ,D.bU,D.bo,D.bV,D.bW].map V.ref,false,rfl,u1 _ _ he,.inl rfl,xx,T.aE.get,T.aE.own,SqT.of ae,jC _,gI (all_cons T.cq (all_cons T.cu (all_cons T.cH (all_cons T.cS (all_cons T.cI (all_cons T.cv (all_cons T.cJ (all_cons T.cK all_nil)))))))),?_⟩;refine⟨_,rfl,false,rfl,kU ⟨_,rfl,by show 3≤sizeLine;decide,λt2 ht2=>?_⟩⟩;have u2:=ar.upd (o:=.tup ([D.bX,D.bY,D.aF].map V.ref)) ht2;have e2:=u2 _ _ (u1 _ _ he);refine⟨false,ea,D.af,t2,none,cx,[D.bX,D.bY,D.aF].map V.ref,false,rfl,e2,.inl rfl,xx,T.aE.get,T.aE.own,SqT.of ae,jC _,gI (all_cons T.cL (all_cons T.cM (all_cons T.br all_nil))),false,rfl,kU ?_⟩;have ty:TyX K _ (.ref ea) (.ref D.af):=T.aE.ty e2;refine kJ (x:=.ref ea) (t:=.ref D.af) (b:=true) rfl ty T.jt ⟨true,rfl,?_⟩;refine⟨_,rfl,.ref ea,.ref D.af,.ref D.af,true,rfl,ty,⟨_,rfl⟩,T.bJ,_,rfl,.ref ea,.ref D.au,.ref D.af,false,rfl,ty,⟨_,rfl⟩,T.cT,_,rfl,by show 3≤sizeLine;decide,λp3 h3=>?_⟩;have u3:=ar.upd (o:=.lst [V.bl true,V.bl false,V.bl false]) h3;have uA:=((s1.trans se).trans u1).trans (u2.trans u3);refine⟨_,rfl,.inl ⟨rfl,_,SqL.of (eQ u3)⟩,p3,_,.bl true,rfl,rfl,SqL.of (eQ u3),rfl,(by rfl),rfl,_,rfl,bQ (by rfl) ⟨_,rfl,false,rfl,tw ?_⟩⟩;refine⟨by show 2≤sizeLine;decide,λp5 h5=>?_⟩;have u5:=ar.upd (o:=.lst [V.str "address",V.str "room"]) h5;refine⟨_,rfl,.inl ⟨rfl,_,SqL.of (u5 _ _ (eQ u3))⟩,p3,_,.bl true,0,rfl,rfl,SqL.of (u5 _ _ (eQ u3)),rfl,rfl,rfl,rfl,by decide,p5,_,_,.str "address",rfl,rfl,SqL.of ae,rfl,?_⟩;exact⟨_,rfl,kx _ (uA.trans u5)⟩
   ·have kx:=kr rfl R bf hB rm
    obtain⟨cd,xc,hm⟩:=T.uw;refine⟨D.au,cd,rfl,xc,hm,λea hea=>?_⟩;have se:=ar.upd (o:=exo false D.au ea none) hea;have he:upd H1 ea (exo false D.au ea none) ea=some (exo false D.au ea none):=ae;generalize upd H1 ea (exo false D.au ea none)=H2 at *;refine⟨_,rfl,by show 8≤sizeLine;decide,λt1 ht1=>?_⟩;have u1:=ar.upd (o:=.tup ([D.bh,D.bj,D.bT,D.cQ,D.bU,D.bo,D.bV,D.bW].map V.ref)) ht1;obtain⟨cx,xx⟩:=T.fO.cls;refine⟨false,ea,D.au,t1,none,cx,[D.bh,D.bj,D.bT,D.cQ,D.bU,D.bo,D.bV,D.bW].map V.ref,false,rfl,u1 _ _ he,.inl rfl,xx,T.fO.get,T.fO.own,SqT.of ae,jC _,gI (all_cons T.eG (all_cons T.eI (all_cons T.eT (all_cons T.fu (all_cons T.eU (all_cons T.eJ (all_cons T.eV (all_cons T.eW all_nil)))))))),?_⟩;refine⟨_,rfl,false,rfl,kU ⟨_,rfl,by show 3≤sizeLine;decide,λt2 ht2=>?_⟩⟩;have u2:=ar.upd (o:=.tup ([D.bX,D.bY,D.aF].map V.ref)) ht2;have e2:=u2 _ _ (u1 _ _ he);refine⟨false,ea,D.au,t2,none,cx,[D.bX,D.bY,D.aF].map V.ref,false,rfl,e2,.inl rfl,xx,T.fO.get,T.fO.own,SqT.of ae,jC _,gI (all_cons T.eX (all_cons T.eY (all_cons T.dy all_nil))),false,rfl,kU ?_⟩;have ty:TyX K _ (.ref ea) (.ref D.au):=T.fO.ty e2;refine kJ (x:=.ref ea) (t:=.ref D.au) (b:=true) rfl ty T.w6 ⟨true,rfl,?_⟩;refine⟨_,rfl,.ref ea,.ref D.af,.ref D.au,false,rfl,ty,⟨_,rfl⟩,T.dX,_,rfl,.ref ea,.ref D.au,.ref D.au,true,rfl,ty,⟨_,rfl⟩,T.fv,_,rfl,by show 3≤sizeLine;decide,λp3 h3=>?_⟩;have u3:=ar.upd (o:=.lst [V.bl false,V.bl true,V.bl false]) h3;have uA:=((s1.trans se).trans u1).trans (u2.trans u3);refine⟨_,rfl,.inl ⟨rfl,_,SqL.of (eQ u3)⟩,p3,_,.bl true,rfl,rfl,SqL.of (eQ u3),rfl,(by rfl),rfl,_,rfl,bQ (by rfl) ⟨_,rfl,false,rfl,tw ?_⟩⟩;refine⟨by show 2≤sizeLine;decide,λp5 h5=>?_⟩;have u5:=ar.upd (o:=.lst [V.str "address",V.str "room"]) h5;refine⟨_,rfl,.inl ⟨rfl,_,SqL.of (u5 _ _ (eQ u3))⟩,p3,_,.bl true,1,rfl,rfl,SqL.of (u5 _ _ (eQ u3)),rfl,rfl,rfl,rfl,by decide,p5,_,_,.str "room",rfl,rfl,SqL.of ae,rfl,?_⟩;exact⟨_,rfl,kx _ (uA.trans u5)⟩
end
end K42
end
section
namespace L2
open PySem PySem.Spec PyProof.Rows LX
structure iO(X:Cx)(scope:Scope)(cl:List (Str×Addr))(xs:List Str)(idx:List Nat)(NC:List Str):Prop where
 xJ:closureFor scope X.env=pure cl
 sub:∀ y c,cl.lookup y=some c→X.env.cells.lookup y=some c
 has:∀ y,((relabel scope X.env).names.lookup y=some .cell∨(relabel scope X.env).names.lookup y=some .free)→∃ c,cl.lookup y=some c
 j5:∀ y∈scope.names,y.2≠.cell
 kind:scope.kind=.function
 loc:∀ y∈scope.names,y.2=.local→scope.names.lookup y.1=some .local
 xl:∀ x∈xs,scope.names.lookup x=some .local
 nc:NC=xs++idx.map λi=>X.N.getD i ""
 nd:NC.Nodup
 cap:∀ i∈idx,i<X.N.length∧((X.env.scope.names.lookup (X.N.getD i "")=some .cell∨X.env.scope.names.lookup (X.N.getD i "")=some .free)∧((relabel scope X.env).names.lookup (X.N.getD i "")=some .cell∨(relabel scope X.env).names.lookup (X.N.getD i "")=some .free))
section
variable{X:Cx}{scope:Scope}{cl:List (Str×Addr)}{xs:List Str}{idx:List Nat}{NC:List Str}{C:Addr}{fp:List Addr}{pins:List (Addr×Obj)}{σ:St}{H:Hp}{s:Shared}
theorem qf{h1:Heap}{t':Nat}(c:iO X scope cl xs idx NC)(I:Inv X pins σ H s)(hf:∀ b∈fp,jV X pins H b)(hlt:∀ b∈fp,b<s.heap.objs.size)(ns:h1.Ns s.heap.objs.size (λ_=>none))
  (k:∀ b o,s.heap.get? b=some o→h1.get? b=some o):Inv (cxC X scope cl NC s.heap.objs.size fp s H) [] (xs.map (λ_=>none)++gy σ idx) H {s with heap:=h1,toks:=t'}:=by
 have sub:∀ b,b∈frs X.stack→b∈X.env.locals::X.fs:=I.ik;refine⟨⟨I.ok.mod,c.kind,I.ok.glob,I.ok.blt,JR _,λy z a h1 h2=>I.ok.inj y z a (c.sub _ _ h1) (c.sub _ _ h2),c.has,λy a z=>(by cases z),I.ok.hd,I.ok.frames,.inl rfl,λb hb=>⟨Kb (hlt b hb),λy a q=>(hf b hb).2.2.2.2.1 y a (c.sub _ _ q)⟩,
  λb o q=>I.bs b o q,Ko I.ok.bsz I.sz,λb o q hb=>?_,λb hb z=>?_,I.stack,I.hZ⟩,rfl,I.bare,Un.kept k,⟨_,ns,λi y v e1 e2 e3=>?_⟩,λy a q=>?_,I.hok.fresh (JR _),λy a q=>I.fU _ _ (c.sub _ _ q),λp hp=>(by cases hp),I.hok.keeps λb u o _ q=>k b o q,?_⟩
 ·rcases(hf b hb).2.2.2.1 with z|z
  ·exact I.ok.tU b o q z
  ·exact absurd (J8 (JY (I.ok.bs b o q).1) z) (KO _)
 ·rcases Kc.mp (sub b z) with r|r
  ·exact(hf b hb).2.1 r
  ·exact(hf b hb).2.2.1 r
 ·rcases Nat.lt_or_ge i xs.length with ci|ci
  ·rw[Kg (by rw[JS];exact ci),JZ,JM ci]at e2
   cases e2
  ·obtain⟨j,rfl⟩:∃ j,i=xs.length+j:=⟨i-xs.length,by omega⟩
   have e1':(idx.map λi=>X.N.getD i "")[j]?=some y:=by
    have:(cxC X scope cl NC s.heap.objs.size fp s H).N=NC:=rfl
    rw[this,c.nc,Ke (Nat.le_add_right _ _),Nat.add_sub_cancel_left]at e1;exact e1
   have e2':(gy σ idx)[j]?=some (some v):=by
    rw[Ke (by rw[JS];exact Nat.le_add_right _ _),JS,Nat.add_sub_cancel_left]at e2;exact e2
   rw[JZ]at e1';unfold gy at e2';rw[JZ]at e2';cases ei:idx[j]? with
   | none=>rw[ei]at e1';cases e1'
   | some i =>
    rw[ei]at e1' e2';simp only[KZ,Option.some.injEq]at e1' e2';obtain⟨hi,h2,h3⟩:=c.cap i (J0 ei);rw[e1']at h2 h3;have hN:X.N[i]?=some y:=by
     rw[←e1'];simp[List.getD,JM hi]
    have hσ:σ[i]?=some (some v):=by
     cases q:σ[i]? with
     | none=>rw[q]at e2';cases e2'
     | some o=>rw[q]at e2';simp only[K7]at e2';rw[e2']
    obtain⟨m,hn,hl⟩:=I.loc;obtain⟨u,r,l⟩:=hl i y v hN hσ (h2.elim (λz=>.inr (.inl z)) λz=>.inr (.inr z));refine⟨u,r,.inr ⟨h3,?_⟩⟩;rcases l with⟨l,_⟩|⟨_,a,ha,hc⟩
    ·exfalso
     have l':X.env.scope.names.lookup y=some .local:=l;rcases h2 with z|z<;>(rw[l']at z;cases z)
    ·obtain⟨a',ha'⟩:=c.has y h3
     have:=c.sub _ _ ha'
     rw[ha]at this;cases this;exact⟨a,ha',hc.keeps k⟩
 ·obtain⟨v,z⟩:=I.cell _ _ (c.sub _ _ q)
  exact⟨v,z.keeps k⟩
 ·show _=NC.length
  rw[c.nc];simp[gy]
theorem lN(c:iO X scope cl xs idx NC){C:Addr}{fp:List Addr}{s₀:Shared}{H₀:Hp}{i:Nat}{x:Str}{p:Pos}(h:xs[i]?=some x):PG (cxC X scope cl NC C fp s₀ H₀) (.Name x p) (gO i):=by
 have hnl:(relabel scope X.env).names.lookup x=some .local:=lookup_relabel_local (c.xl x (J0 h));exact aP (X:=cxC X scope cl NC C fp s₀ H₀) (i:=i) (x:=x) (pos:=p) c.nd (by show NC[i]?=some x;rw[c.nc,Kg (JN.mp h).1];exact h) (.inl hnl) (.inr hnl)
def vX(J:It)(D:Addr)(k:Nat)(τ:St)(g:TG)(tc:TT)(te:TE)(Q:VK)(H:Hp):Prop:=∃ W:Nat→Nat→List V→Hp→Prop,(∃ m,W 0 m [] H)∧∀ i m ys H2,W i m ys H2→H2 D=some (.lst ys) ∧
 ((J.stop i H2∧Q (.ref D) H2)∨(J.go i H2∧ys.length<sizeLine∧∃ N:List V→Hp→Prop,(∀ zs H',N zs H'→∃ m',m'<m∧W (i+1) m' zs H')∧∀ y H3,J.yld i H2 y H3→∀ vs:St,vs.length=k→g y (vs++τ) H3 λσ2 H4=>∃ ws:St,ws.length=k∧σ2=ws++τ∧tc (ws++τ) H4 λb H5=>if b=true then te (ws++τ) H5 λv H6=>H6 D=some (.lst ys)∧N (ys++[v]) (upd H6 D (.lst (ys++[v])))
  else N ys H5))
def DR(k:Nat)(wi:TI)(idx:List Nat)(g:TG)(tc:TT)(te:TE):TE:=λσ H Q=>wi σ H λJ H1=>∀ D,H1 D=none→vX J D k (gy σ idx) g tc te Q (upd H1 D (.lst []))
end
def vw(sc scope:Scope)(xs:List Str)(ns N:List Str)(idx:List Nat):Prop :=
 (∀ y∈scope.names,y.2≠.cell)∧(∀ y∈scope.names,y.2=.local→scope.names.lookup y.1=some .local)∧(∀ x∈xs,scope.names.lookup x=some .local)∧(∀ p∈vM sc scope.names,p.2=.cell∨p.2=.free→p.1∈ns)∧(xs++idx.map λi=>N.getD i "").Nodup ∧
 ∀ i∈idx,i<N.length∧((sc.names.lookup (N.getD i "")=some .cell∨sc.names.lookup (N.getD i "")=some .free)∧((vM sc scope.names).lookup (N.getD i "")=some .cell∨(vM sc scope.names).lookup (N.getD i "")=some .free))
instance (sc scope:Scope) (xs:List Str) (ns N:List Str) (idx:List Nat):Decidable (vw sc scope xs ns N idx):=by unfold vw;infer_instance
theorem tT{X:Cx}{sc scope:Scope}{cl:List (Str×Addr)}{xs:List Str}{ns N:List Str}{idx:List Nat}(hsc:X.env.scope=sc)(hN:X.N=N)(hk:scope.kind=.function)(p:vw sc scope xs ns N idx)(hn:cl.map (·.1)=ns)
  (ug:closureFor scope X.env=pure cl) (Az:∀ q∈cl,X.env.cells.lookup q.1=some q.2):iO X scope cl xs idx (xs++idx.map λi=>N.getD i ""):=by
 obtain⟨p1,p2,p3,p4,p5,p6⟩:=p;have re:(relabel scope X.env).names=vM sc scope.names:=by subst hsc;rfl
 subst hsc hN hn;refine⟨ug,λy c q=>Az (y,c) (Ks q),λy h=>?_,p1,hk,p2,p3,rfl,p5,λi hi=>?_⟩
 ·rw[re]at h
  refine gP ?_;rcases h with h|h
  ·exact p4 (y,.cell) (Ks h) (.inl rfl)
  ·exact p4 (y,.free) (Ks h) (.inr rfl)
 ·rw[re]
  exact p6 i hi
theorem uM{K:W.Frag}{a:Addr}{xs:List V}{k:Nat}{g:TG}{tc:TT}{te:TE}{Q:VK}{D:Addr}{τ:St}{H:Hp}(Pv:Nat→List V→Hp→Prop)(h0:Pv 0 [] H)(hD:∀ i ys H,i≤xs.length→Pv i ys H→H D=some (.lst ys)∧ys.length≤i)(hl:∀ i ys H,i≤xs.length→Pv i ys H→SqL K H a xs)(hn:xs.length≤sizeLine)
  (hs:∀ i x ys H,xs[i]?=some x→Pv i ys H→∀ vs:St,vs.length=k→g x (vs++τ) H λσ2 H4=>∃ ws:St,ws.length=k∧σ2=ws++τ∧tc (ws++τ) H4 λb H5=>if b=true then te (ws++τ) H5 λv H6=>H6 D=some (.lst ys)∧Pv (i+1) (ys++[v]) (upd H6 D (.lst (ys++[v]))) else Pv (i+1) ys H5)
  (hd:∀ ys H,Pv xs.length ys H→Q (.ref D) H):vX (Itl K a) D k τ g tc te Q H:=by
 refine⟨λi m ys H=>m=xs.length-i∧i≤xs.length∧Pv i ys H,⟨xs.length,by simp,Kh _,h0⟩,?_⟩;rintro i m ys H2 ⟨rfl,hi,p⟩;obtain⟨d1,d2⟩:=hD i ys H2 hi p;refine⟨d1,?_⟩;have hS:=hl i ys H2 hi p;by_cases hlt:i<xs.length
 ·refine .inr ⟨⟨xs,xs[i],hS,JM hlt⟩,by omega,Pv (i+1),λzs H' p'=>⟨xs.length-(i+1),by omega,rfl,hlt,p'⟩,λy H3 q=>?_⟩
  obtain⟨e1,e2⟩:=q;subst e1;exact hs i y ys _ (e2 xs (hl i ys _ hi p)) p
 ·have e:i=xs.length:=by omega
  subst e;exact .inl ⟨⟨xs,hS,JR _⟩,hd ys H2 p⟩
section
variable{X:Cx}{scope:Scope}{cl:List (Str×Addr)}{xs:List Str}{idx:List Nat}{NC:List Str}{C:Addr}{fp:List Addr}{pins:List (Addr×Obj)}{σ:St}{H:Hp}{s:Shared}
def vY(J:It)(D:Addr)(k:Nat)(τ:St)(g:TG)(te:TE)(Q:VK)(H:Hp):Prop:=∃ W:Nat→Nat→List V→Hp→Prop,(∃ m,W 0 m [] H)∧∀ i m ys H2,W i m ys H2→H2 D=some (.lst ys) ∧
 ((J.stop i H2∧Q (.ref D) H2)∨(J.go i H2∧ys.length<sizeLine∧∃ N:List V→Hp→Prop,(∀ zs H',N zs H'→∃ m',m'<m∧W (i+1) m' zs H')∧∀ y H3,J.yld i H2 y H3→∀ vs:St,vs.length=k→g y (vs++τ) H3 λσ2 H4=>∃ ws:St,ws.length=k∧σ2=ws++τ∧te (ws++τ) H4 λv H6=>H6 D=some (.lst ys)∧N (ys++[v]) (upd H6 D (.lst (ys++[v])))))
def DS(k:Nat)(wi:TI)(idx:List Nat)(g:TG)(te:TE):TE:=λσ H Q=>wi σ H λJ H1=>∀ D,H1 D=none→vY J D k (gy σ idx) g te Q (upd H1 D (.lst []))
theorem yq{i:Nat}{y:Str}{elt iter tgt:Expr}{py pos AA:Pos}{g:TG}{wi:TI}{te:TE}(hN:X.N.Nodup)(hi':X.N[i]?=some y)(hx:X.env.scope.names.lookup y=some .local)(c:iO X scope cl xs idx NC)(hc:X.calm=true)(hi:PI X tgt iter wi)(hg:iO X scope cl xs idx NC→∀ C fp s₀ H₀,PG (cxC X scope cl NC C fp s₀ H₀) tgt g)
  (he:∀ C fp s₀ H₀,PE (cxC X scope cl NC C fp s₀ H₀) elt te) (hsw:swapsWith (.ListComp elt [⟨tgt,iter,[],0⟩] scope pos) (some (.Name y py)) AA.line X.env=pure true:=by rfl)
  (hs:∀ x,foldedSetIterable iter X.env x=pure x:=by intro _;rfl):PS X (.Assign [.Name y py] (.ListComp elt [⟨tgt,iter,[],0⟩] scope pos) AA) (AU (DS xs.length wi idx g te) (gO i)):=by
 intro pins s σ H D0 I h;rw[exec_Assign_Name_used _ _ _ _ hsw];refine wpAny_bind (wpAny_standAt (wpAny_bind ?_));show wpAny _ _ (do let _ ←comprehension (.ListComp elt [⟨tgt,iter,[],0⟩] scope pos) scope X.env _ (newList []) false (eval iter X.env) (some (assign (.Name y py) X.env))) _ _ s
 refine wpAny_bind (wpAny_mono (wpAny_comprehension_free (use:=some (assign (.Name y py) X.env)) (Q:=λ_ s'=>SP X pins D0 .next s') rfl hs c.xJ c.kind c.loc
  (thn (hi pins s σ H _ I h) λv s1 h1=>thn h1 λitv s2 h2=>?_)) (λ_ s' hq=>wpAny_pure (wpAny_pure hq)) λ_ _ e=>e)
 obtain⟨it,fp,tn,J,H2,rfl,I2,T,st2,f2,q⟩:=h2;refine wpAny_newObj_type (wpAny_newFunctionEnv c.j5 (by intro y hy;simp at hy) (λh₁ hns₁ hsb₁=>?_) c.kind);dsimp only at hns₁ hsb₁ ⊢;have I3:Inv X pins σ (upd H2 s2.heap.objs.size (.lst [])) {s2 with heap:=s2.heap.push {cls:=.type "list",data:=.seq ([]:List Value).toArray},toks:=s2.toks}:=I2.yK (ys:=[]) (its:=[]) .nil (Kh _);obtain⟨W,⟨m0,w0⟩,turn⟩:=q s2.heap.objs.size I2.fresh;generalize hD:s2.heap.objs.size=D at *;generalize hH:s2.heap.push {cls:=.type "list",data:=.seq ([]:List Value).toArray}=h3 at *;have qR:∀ b∈fp,b<D:=λb hb=>by
  obtain⟨o,e,_⟩:=T.obj _ _ st2 b hb;rw[←hD];exact JY e
 have hlt:∀ b∈fp,b<h3.objs.size:=λb hb=>by
  rw[←hH,K8,hD];exact Lp (qR b hb)
 have hf:∀ b∈fp,jV X pins (upd H2 D (.lst [])) b:=λb hb=>⟨by rw[aj (Kb (qR b hb))];exact(f2 b hb).1,(f2 b hb).2⟩;have kp:∀ b o,h3.get? b=some o→h₁.get? b=some o:=λb o e=>hsb₁.extBut b o (Kb (JY e)) (JQ _ e);have I4:Inv (cxC X scope cl NC h3.objs.size fp {s2 with heap:=h3,toks:=s2.toks} (upd H2 D (.lst []))) [] (xs.map (λ_=>none)++gy σ idx) (upd H2 D (.lst [])) {s2 with heap:=h₁,toks:=s2.toks+([]:List (Str×Value)).length} :=
  qf (s:={s2 with heap:=h3,toks:=s2.toks}) c I3 hf hlt hns₁ kp
 have jG:∀ {H':Hp},(∀ b∈fp,H' b=none)→∀ b∈fp,jV (cxC X scope cl NC h3.objs.size fp {s2 with heap:=h3,toks:=s2.toks} (upd H2 D (.lst []))) [] H' b:=λhn b hb =>
  ⟨hn b hb,Kb (hlt b hb),λz=>(Kc.mp (I3.ik b z)).elim (hf b hb).2.1 (hf b hb).2.2.1,.inl hb,λy a q=>(hf b hb).2.2.2.2.1 y a (c.sub _ _ q),λp hp=>(by cases hp)⟩
 have st1:tn 0 h₁:=T.keep 0 _ _ st2 λb hb o e=>kp b o (by rw[←hH];exact JQ _ e);have loop:∀ s4:Shared,s4={s2 with heap:=h₁,toks:=s2.toks+([]:List (Str×Value)).length} →
   codeAny (model X.prog X.w) X.A (.compLoop (.ListComp elt [⟨tgt,iter,[],0⟩] scope pos) 0 (.ref it) (.ref D) (compEnvC scope cl h3.objs.size X.env)) (compPost (model X.prog X.w) X.A X.xe (some (assign (.Name y py) X.env)) (λ_ s'=>SP X pins D0 .next s') (.ref D) h3.objs.size) s4:=by
  rintro s4 rfl;refine ix (λn s'=>∃ i ys H' vs,vs.length=xs.length∧Inv (cxC X scope cl NC h3.objs.size fp {s2 with heap:=h3,toks:=s2.toks} (upd H2 D (.lst []))) [] (vs++gy σ idx) H' s'∧tn i s'.heap∧(∀ b∈fp,H' b=none)∧W i n ys H')
   ?_ m0 ⟨0,[],_,xs.map (λ_=>none),JS _,I4,st1,λb hb=>(hf b hb).1,w0⟩
  rintro n s5 ⟨i5,ys,H5,vs,lvs,I5,st5,fr5,w5⟩;obtain⟨hDl,alt⟩:=turn i5 n ys H5 w5;rcases alt with⟨stop,qn⟩|⟨go,hz,N,hN',step⟩
  ·refine thn (T.done (cxC X scope cl NC h3.objs.size fp {s2 with heap:=h3,toks:=s2.toks} (upd H2 D (.lst []))) rfl rfl rfl hc i5 [] s5 _ H5 _ I5 (jG fr5) st5 stop) λr s6 ⟨hr,I6⟩=>?_
   subst hr;obtain⟨m,ns6,_⟩:=id I6.loc;have J6:Inv X pins σ H5 s6:=I3.mS (ch:=fp) I6.os I6.base I6.hok I6.bare λb hb=>⟨(hf b hb).2.2.2.1,(hf b hb).2.1,(hf b hb).2.2.2.2.1,(hf b hb).2.2.2.2.2⟩;have fC:jV X pins H5 h3.objs.size:=I3.yC (JR _) I6.free;obtain⟨o,es,ep,ho,rr⟩:=ns6;have od:∀ v,o.data≠.cell v:=λv z=>by
    rw[rr.1]at z;cases z
   show wpAny _ _ (assign (.Name y py) X.env (.ref D)) (λ_ s''=>∃ m,s''.heap.Ns h3.objs.size m∧∀ h',Heap.SameBut h3.objs.size s''.heap h'→SP X pins D0 .next {s'' with heap:=h'}) X.xe s6;have J7:=J6.pinned (fp:=[h3.objs.size]) (λb hb=>by rw[JO.mp hb];exact fC) (λb hb=>by rw[JO.mp hb];exact⟨o,ho,od⟩);refine wpAny_mono (aP (pos:=py) hN hi' (.inl hx) (.inr hx) _ s6 _ H5 (.ref D) (.ref D) D0.nx J7 rfl qn) (λ_ s7 ⟨σ7,H7,I7,q7⟩=>?_) (λ_ _ z=>z);have pC:=I7.pin (h3.objs.size,o) (JP _ (JP _ (cn (JO.mpr rfl) ho)));refine⟨m,⟨o,es,ep,pC.1,rr⟩,λh' hs'=>⟨σ7,H7,?_,q7⟩⟩;exact I7.fg.turned (t':=s7.toks) (it:=h3.objs.size) (λb o hb e=>hs'.extBut b o hb e) pC.2.1 fC.2.1 fC.2.2.2.1 fC.2.2.2.2.1 fC.2.2.2.2.2
  ·refine thn (T.item (cxC X scope cl NC h3.objs.size fp {s2 with heap:=h3,toks:=s2.toks} (upd H2 D (.lst []))) rfl rfl rfl hc i5 [] s5 _ H5 _ I5 (jG fr5) st5 go) λr s6 ⟨u,hr,h6⟩=>?_
   subst hr;refine thn h6 λ_ s7 ⟨y,H7,I7,r7,y7,st7,fr7⟩=>?_;have I7':=I7.pinned (jG fr7) (T.obj _ _ st7);refine wpAny_mono (hg c h3.objs.size fp {s2 with heap:=h3,toks:=s2.toks} (upd H2 D (.lst [])) _ s7 _ H7 y u _ I7' r7 (step y H7 y7 vs lvs)) (λ_ s8 ⟨σ8,H8,I8,ws,lws,e8,st8⟩=>?_) λ_ _ z=>z.elim;subst e8;refine wpAny_mono (he _ _ _ _ _ s8 _ H8 _ I8 st8) (λw s9 ⟨v,H9,I9,r9,hD9,n9⟩=>?_) λ_ _ z=>z.elim;obtain⟨m',hm,w9⟩:=hN' _ _ n9;refine wpAny_mono (ki (X:=(cxC X scope cl NC h3.objs.size fp {s2 with heap:=h3,toks:=s2.toks} (upd H2 D (.lst [])))) I9 hD9 hz r9) (λ_ s10 I10=>?_) λ_ _ z=>z.elim;refine⟨m',hm,i5+1,ys++[v],_,ws,lws,I10.fg,T.keep _ _ _ st7 λb hb o e=>(I10.pin (b,o) (JP _ (JP _ (cn hb e)))).1,λb hb=>?_,w9⟩;obtain⟨o,e,d⟩:=T.obj _ _ st7 b hb;exact(I10.pin (b,o) (JP _ (JP _ (cn hb e)))).2.1
 exact codeAny_compStart_list (loop _ rfl) (T.self _ 0 _ _ _ st1 (loop _ rfl))
end
theorem uN{K:W.Frag}{a:Addr}{xs:List V}{k:Nat}{g:TG}{te:TE}{Q:VK}{D:Addr}{τ:St}{H:Hp}(Pv:Nat→List V→Hp→Prop)(h0:Pv 0 [] H)(hD:∀ i ys H,i≤xs.length→Pv i ys H→H D=some (.lst ys)∧ys.length≤i)(hl:∀ i ys H,i≤xs.length→Pv i ys H→SqL K H a xs)(hn:xs.length≤sizeLine)
  (hs:∀ i x ys H,xs[i]?=some x→Pv i ys H→∀ vs:St,vs.length=k→g x (vs++τ) H λσ2 H4=>∃ ws:St,ws.length=k∧σ2=ws++τ∧te (ws++τ) H4 λv H6=>H6 D=some (.lst ys)∧Pv (i+1) (ys++[v]) (upd H6 D (.lst (ys++[v]))))
  (hd:∀ ys H,Pv xs.length ys H→Q (.ref D) H):vY (Itl K a) D k τ g te Q H:=by
 refine⟨λi m ys H=>m=xs.length-i∧i≤xs.length∧Pv i ys H,⟨xs.length,by simp,Kh _,h0⟩,?_⟩;rintro i m ys H2 ⟨rfl,hi,p⟩;obtain⟨d1,d2⟩:=hD i ys H2 hi p;refine⟨d1,?_⟩;have hS:=hl i ys H2 hi p;by_cases hlt:i<xs.length
 ·refine .inr ⟨⟨xs,xs[i],hS,JM hlt⟩,by omega,Pv (i+1),λzs H' p'=>⟨xs.length-(i+1),by omega,rfl,hlt,p'⟩,λy H3 q=>?_⟩
  obtain⟨e1,e2⟩:=q;subst e1;exact hs i y ys _ (e2 xs (hl i ys _ hi p)) p
 ·have e:i=xs.length:=by omega
  subst e;exact .inl ⟨⟨xs,hS,JR _⟩,hd ys H2 p⟩
end L2
end
section
namespace K42
open PySem L2 LX
section
variable{P:Program}{w:World}{K:W.Frag}{mg:Str→Option Value}{base:Heap}{D:Ad}
def tgV(x:Tg):Vl:=.t [.a (.int x.1),.a (.int x.2.1),.l (x.2.2.map Mw.vl)]
theorem C4{H:Hp}{l:Addr}{tv:List V}{ts:List Tg}{k:Nat}(hl:H l=some (.lst tv))(t:ThL H tv ts):Rp H (k+4) (.ref l) (.l (ts.map tgV)):=⟨l,tv,rfl,hl,by rw[JS];exact t.1,λi u x h1 h2=>by
 rw[JZ]at h2;obtain⟨y,hy,rfl⟩:=Kn.mp h2;obtain⟨q,lf,zs,rfl,e1,e2,e3⟩:=t.2 i u y h1 hy;refine⟨q,_,rfl,e1,rfl,λj u x g1 g2=>?_⟩
 match j with
 | 0=>cases g1;cases g2;exact⟨rfl,rfl⟩
 | 1=>cases g1;cases g2;exact⟨rfl,rfl⟩
 | 2=>cases g1;cases g2;exact jQ e2 e3
 | j+3=>cases g1⟩
theorem DT{sz x:Int}(a:0≤sz)(b:sz≤1000)(c:0≤x)(d:x<10 ^ (30:Int).toNat):Sm (sz+1+x):=by
 unfold Sm;rw[Nat.log2_lt (by omega)];have e:((10:Int) ^ (30:Int).toNat)=1000000000000000000000000000000:=by decide
 rw[e]at d;exact J8 (show(sz+1+x).natAbs<2 ^ 110 by omega) (Nat.pow_le_pow_right (by decide) (by decide))
theorem rq{ts:List Tg}:(ts.map tgV=[])↔ts=[]:=by simp
def ThF(H:Hp)(tv:List V)(ts:List Tg)(ls:List Addr):Prop:=tv.length=ts.length∧ls.length=ts.length∧ls.Nodup∧∀(i:Nat) (v:V) (x:Tg) (l:Addr),tv[i]?=some v→ts[i]?=some x→ls[i]?=some l→∃ q zs,v=.ref q∧H q=some (.tup [.int x.1,.int x.2.1,.ref l])∧H l=some (.lst zs)∧MR H zs x.2.2
theorem ThF.th{H:Hp}{tv:List V}{ts:List Tg}{ls:List Addr}(h:ThF H tv ts ls):ThL H tv ts:=⟨h.1,λi v x a b=>by
 have il:=(JN.mp b).1;obtain⟨q,zs,e⟩:=h.2.2.2 i v x _ a b (JM (by rw[h.2.1];exact il));exact⟨q,_,zs,e⟩⟩
theorem ThF.keep{H H':Hp}{tv:List V}{ts:List Tg}{ls:List Addr}(h:ThF H tv ts ls)(s1:∀ l∈ls,∀ zs,H l=some (.lst zs)→H' l=some (.lst zs))(s2:bg H H'):ThF H' tv ts ls:=⟨h.1,h.2.1,h.2.2.1,λi v x l a b c=>by
 obtain⟨q,zs,e,h1,h2,h3⟩:=h.2.2.2 i v x l a b c;exact⟨q,zs,e,s2 _ _ h1,s1 l (J0 c) _ h2,h3.keep s2⟩⟩
theorem ThF.mem{H:Hp}{tv:List V}{ts:List Tg}{ls:List Addr}(h:ThF H tv ts ls){l:Addr}(m:l∈ls):∃ zs,H l=some (.lst zs):=by
 obtain⟨i,hi⟩:=KA m;have il:=(JN.mp hi).1;obtain⟨q,zs,_,_,h2,_⟩:=h.2.2.2 i _ _ l (JM (by rw[h.1,←h.2.1];exact il)) (JM (by rw[←h.2.1];exact il)) hi;exact⟨zs,h2⟩
theorem ThF.snoc{H:Hp}{tv:List V}{ts:List Tg}{ls:List Addr}{q l:Addr}{zs:List V}{x:Tg}(h:ThF H tv ts ls)(n:l∉ls)(h1:H q=some (.tup [.int x.1,.int x.2.1,.ref l]))(h2:H l=some (.lst zs))(h3:MR H zs x.2.2):ThF H (tv++[.ref q]) (ts++[x]) (ls++[l]):=by
 obtain⟨a,b,nd,k⟩:=h;refine⟨by rw[JU,JU,a];rfl,by rw[JU,JU,b];rfl,?_,λi v y m e1 e2 e3=>?_⟩
 ·rw[KQ]
  exact⟨nd,by simp,λx hx y hy=>by rw[JO.mp hy];exact λe=>n (by rw[←e];exact hx)⟩
 ·by_cases c:i<ts.length
  ·rw[Kg (by omega)]at e1 e2 e3
   exact k i v y m e1 e2 e3
  ·have ei:i=ts.length:=by have:=(JN.mp e2).1;rw[JU,Kt]at this;omega
   subst ei;rw[←a,Ke (JR _),K1]at e1;rw[Ke (JR _),K1]at e2;rw[←b,Ke (JR _),K1]at e3;cases e1;cases e2;cases e3;exact⟨q,zs,rfl,h1,h2,h3⟩
theorem ThF.put{H:Hp}{tv:List V}{ts:List Tg}{ls:List Addr}{i j:Nat}{x:Tg}{l:Addr}{v:V}{w:Mw}(h:ThF H tv ts ls)(hx:ts[i]?=some x)(hl:ls[i]?=some l)(zs:List V)(hz:H l=some (.lst zs))(hv:MV H v w):ThF (upd H l (.lst (zs.set j v))) tv (ts.set i (x.1,x.2.1,x.2.2.set j w)) ls:=by
 have tu:bg H (upd H l (.lst (zs.set j v))):=bg.set hz;refine⟨by rw[Kr];exact h.1,by rw[Kr];exact h.2.1,h.2.2.1,λk u y m e1 e2 e3=>?_⟩;by_cases c:i=k
 ·subst c
  rw[hl]at e3;cases e3;rw[KJ (JN.mp hx).1]at e2;cases e2;obtain⟨q,zs',e,h1,h2,h3⟩:=h.2.2.2 i u x l e1 hx hl;rw[hz]at h2;cases h2;exact⟨q,_,e,tu _ _ h1,ae,(h3.set hv).keep tu⟩
 ·rw[KD c]at e2
  obtain⟨q,zs',e,h1,h2,h3⟩:=h.2.2.2 k u y m e1 e2 e3;have nm:m≠l:=λz=>c (by
   obtain⟨a1,a2⟩:=JN.mp hl;obtain⟨a3,a4⟩:=JN.mp e3;exact(List.getElem_inj (h₀:=a1) (h₁:=a3) h.2.2.1).mp (by rw[a2,a4,z]))
  exact⟨q,zs',e,tu _ _ h1,by rw[aj nm];exact h2,h3.keep tu⟩
theorem vZ{ws:List Mw}{i:Nat}{w:Mw}(h:∀ u∈ws,Okw u)(hw:Okw w):∀ u∈ws.set i w,Okw u:=λu m=>(KL m).elim (h u) λe=>by rw[e];exact hw
theorem Bu.roots{ts:List Tg}{rs rs':List Mw}{sz:Int}(b:Bu ts rs sz)(l:rs'.length=rs.length)(h:∀ w∈rs',Okw w):Bu ts rs' sz:=⟨b.n,by rw[l];exact b.rl,by rw[l];exact b.r1,b.fl,b.lo,b.hi,b.ap,h,b.fw,b.z0,b.z1⟩
theorem Bu.put{ts:List Tg}{rs:List Mw}{sz:Int}{i j:Nat}{x:Tg}{w:Mw}(b:Bu ts rs sz)(hx:ts[i]?=some x)(hw:Okw w):Bu (ts.set i (x.1,x.2.1,x.2.2.set j w)) rs sz:=by
 have mx:=J0 hx;have il:=(JN.mp hx).1;have el:(x.2.2.set j w).length=x.2.2.length:=Kr;have at_:∀(k:Nat) (y:Tg),(ts.set i (x.1,x.2.1,x.2.2.set j w))[k]?=some y→∃ z:Tg,ts[k]?=some z∧y.2.1=z.2.1∧y.2.2.length=z.2.2.length:=λk y h=>by
  by_cases c:i=k
  ·subst c
   rw[KJ il]at h;cases h;exact⟨x,hx,rfl,el⟩
  ·rw[KD c]at h
   exact⟨y,h,rfl,rfl⟩
 have all:∀ y∈ts.set i (x.1,x.2.1,x.2.2.set j w),y∈ts∨y=(x.1,x.2.1,x.2.2.set j w):=λy m=>KL m;refine⟨by rw[Kr];exact b.n,b.rl,b.r1,λy m=>?_,λy m=>?_,λy m=>?_,λk k2 y z n h1 h2=>?_,b.rw,λy m u mu=>?_,b.z0,b.z1⟩
 ·rcases all y m with m|rfl
  ·exact b.fl y m
  ·show(x.2.2.set j w).length≤6;rw[el];exact b.fl x mx
 ·rcases all y m with m|rfl
  ·exact b.lo y m
  ·exact b.lo x mx
 ·rcases all y m with m|rfl
  ·exact b.hi y m
  ·show x.2.1+((x.2.2.set j w).length:Int)<sz;rw[el];exact b.hi x mx
 ·obtain⟨y',g1,g2,g3⟩:=at_ k y h1
  obtain⟨z',f1,f2,f3⟩:=at_ k2 z h2;rw[g2,g3,f2,f3];exact b.ap k k2 y' z' n g1 f1
 ·rcases all y m with m|rfl
  ·exact b.fw y m u mu
  ·exact vZ (b.fw x mx) hw u mu
theorem fk{a c:Int}:decide (V.int a=V.int c)=decide (a=c):=by rw[decide_eq_decide];exact⟨λh=>by cases h;rfl,λh=>by rw[h]⟩
def zh:Sp:=λvs H Q _=>∃(lt:Addr) (tv:List V) (ts:List Tg) (lr:Addr) (rv:List V) (rs:List Mw) (sz cell:Int),vs=[.ref lt,.ref lr,.int sz,.int cell]∧H lt=some (.lst tv)∧ThL H tv ts∧H lr=some (.lst rv)∧MR H rv rs∧Bu ts rs sz∧∀ p lm mv lo ov ts' rs' H',ar H H'→H' p=some (.tup [.ref lm,.ref lo])→H' lm=some (.lst mv)→ThL H' mv ts'→H' lo=some (.lst ov)→MR H' ov rs'→Bu ts' rs' sz→H lm=none→H lo=none→Q (.ref p) H'
abbrev nC:List Str:=["things", "roots", "size", "cell", "made", "told", "far", "at", "fields"]
theorem eN:aK nC ["things", "roots", "size", "cell"] (aq iE):=⟨rfl,rfl,rfl,by decide +kernel,rfl,by decide +kernel,by decide +kernel⟩
theorem rZ(F:Fun K "_law_put" "_law_put" iE D.dG D.gC)(T:Txt K mg D):Ok P w K mg base 1 D.dG D.gC ["things", "roots", "size", "cell"] (zh):=by
 refine⟨?_,F.binds (ps:=["things", "roots", "size", "cell"]) λ_ _ _ _ _ _ us hl=>match us,hl with|[_,_,_,_],_=>rfl⟩
 refine F.okE eN (λvs H Q E h=>?_) (λcdv A' outer s' H vs Q E hr h=>?_)
 ·obtain⟨lt,tv,ts,lr,rv,rs,sz,cell,rfl,_⟩:=h
  rfl
 ·obtain⟨lt,tv,ts,lr,rv,rs,sz,cell,rfl,ht,tl,hlr,rr,b,k⟩:=h
  have hu:=j8 hr;have hu4:=KI (KN (by decide:4≤64) _) hr.units;have hu2:=KI (KN (by decide:2≤64) _) hr.units;refine⟨_,(PSs.nox (ag (yq (cl:=[]) (xs:=["t", "a", "fields"]) (idx:=[]) (NC:=["t", "a", "fields"]) (g:=D1 K 3 (pI (gO 0) (pI (gO 1) (pI (gO 2) DZ)))) (i:=4) eN.nd rfl rfl (by exact tT (sc:=aq iE) (N:=nC) (ns:=[]) rfl rfl rfl (by decide +kernel) rfl rfl (by intro q hq;cases hq)) rfl (eP (pv 0)) (λc C fp s₀ H₀=>gY rfl (aN (lN (i:=0) c rfl) (aN (lN (i:=1) c rfl) (aN (lN (i:=2) c rfl) fj)))) (λC fp s₀ H₀=>(dz (aa (pv 0) (aa (pv 1) (aa (dP (r:=λxs H Q=>∃ p ys,xs=[V.ref p]∧(SqL K H p ys∨SqT K H p ys)∧∀ l,H l=none→Q (V.ref l) (upd H l (HO.lst ys))) cV rfl T.iu PyProof.Rows.Boot.«list» (aa (pv 2) ah)) ah))))))
   (ag (ay (i:=5) eN.nd rfl (Or.inl rfl) (dP cV rfl T.iu PyProof.Rows.Boot.«list» (aa (pv 1) ah)))
   (ag (ay (i:=6) eN.nd rfl (Or.inl rfl) (bI cg (dk (aa (AW yE ak) (aa (pv 2) (aa (aw bc (aw cC (pv 3) ak) (aw aW (pv 2) ak)) (aa (aw aW (aw aW (pv 2) ak) (aw bc (aw cC (pv 3) ak) (aw Dp ak ak))) ah))))) (aw bc (aw cC (pv 3) ak) ak) (λ_ _=>rfl)))
   (ag (ay (i:=7) eN.nd rfl (Or.inl rfl) (aw bc (aw cC (pv 3) ak) (aV aL rfl T.fV PyProof.Rows.Boot.«len» (aa (pv 5) ah))))
   (ag (dw (aA jf (aw bc (pv 3) ak) ak (aT _))
    (ao (j3 (dz (aa cA (aa (pv 6) ah))) (n6 (pv 5) (pv 7) set_list)))
    aY)
   (ag (dw (PW.pt (pw_and (aA jf (aw bc (pv 3) ak) ak (aT _)) (pw_and1 (aA (lJ (n:=4) hu4) (pv 4) (dk ah) (aT _)))))
    (ag (ay (i:=8) eN.nd rfl (Or.inl rfl) (bI dm (bI cg (pv 4) (aw bc (aw cC (pv 3) ak) (aV aL rfl T.fV PyProof.Rows.Boot.«len» (aa (pv 4) ah))) (λ_ _=>rfl)) ak (λ_ _=>rfl)))
    (ao (dw (aA (lJ (n:=2) hu2) (pv 8) (dk ah) (aT _))
     (ao (j3 (dz (aa cA (aa (pv 6) ah))) (n6 (pv 8) (aw bc (aw cC (pv 3) ak) (aV aL rfl T.fV PyProof.Rows.Boot.«len» (aa (pv 8) ah))) set_list)))
     aY)))
    aY)
   (ao (a9 (dz (aa (pv 4) (aa (pv 5) ah)))))))))))),?_⟩
  have lt1:=tl.1;have n10:=b.n;have z0:=b.z0;have z1:=b.z1;refine⟨_,rfl,lt,rfl,⟨_,SqL.of ht⟩,λL hL=>?_⟩;refine uN (K:=K) (a:=lt) (xs:=tv) (λi ys Hc=>∃ ls:List Addr,ar H Hc∧Hc L=some (.lst ys)∧ThF Hc ys (ts.take i) ls∧L∉ls∧∀ l∈ls,H l=none) ⟨[],ar.upd hL,ae,⟨rfl,rfl,Lg,(λj v w l h=>by cases h)⟩,(λm=>nomatch m),(λl m=>nomatch m)⟩ (λi ys Hc hi ⟨ls,_,y,r,_⟩=>⟨y,by rw[r.1,Kf];omega⟩) (λi ys Hc _ ⟨_,sc,_⟩=>SqL.of (sc _ _ ht)) (fH (by omega)) (λi v ys Hc hi ⟨ls,sc,y,r,nL,fr⟩ vs lvs=>?_) (λys H1 ⟨ls,s1,y,r,nL,fr⟩=>?_)
  ·have il:i<ts.length:=by rw[←lt1];exact(JN.mp hi).1
   have hx:ts[i]?=some ts[i]:=JM il;obtain⟨x,ex⟩:∃ x,ts[i]=x:=⟨_,rfl⟩;rw[ex]at hx;obtain⟨q,lf,zs,rfl,h1,h2,h3⟩:=tl.2 i v x hi hx
   match vs,lvs with
   | [w0,w1,w2],_ =>
    refine⟨q,_,rfl,SqT.of (sc _ _ h1),rfl,_,_,rfl,_,_,rfl,_,_,rfl,rfl,[_,_,_],rfl,rfl,?_⟩;refine⟨_,rfl,_,rfl,_,rfl,lf,zs,rfl,.inl (SqL.of (sc _ _ h2)),λl5 h5=>?_⟩;have s5:=ar.upd (o:=.lst zs) h5;refine⟨by show 3≤sizeLine;decide,λt6 h6=>?_⟩;have s6:=ar.upd (o:=.tup [V.int x.1,V.int x.2.1,V.ref l5]) h6;have s56:=s5.trans s6;have y6:=s56 _ _ y;have n5:l5∉ls:=λm=>by obtain⟨z,e⟩:=r.mem m;rw[e]at h5;cases h5
    have n5L:l5≠L:=λe=>by rw[e,y]at h5;cases h5
    have l56:upd (upd Hc l5 (.lst zs)) t6 (.tup [V.int x.1,V.int x.2.1,V.ref l5]) l5=some (.lst zs):=s6 _ _ ae;have t56:upd (upd Hc l5 (.lst zs)) t6 (.tup [V.int x.1,V.int x.2.1,V.ref l5]) t6=some (.tup [V.int x.1,V.int x.2.1,V.ref l5]):=ae;have r6:=(r.keep (λl _ z e=>s56 _ _ e) (bg.of s56)).snoc n5 t56 l56 (h3.keep (bg.of (sc.trans s56)));refine⟨y6,ls++[l5],λb u z=>by rw[aj (ai z hL)];exact s56 _ _ (sc b u z),ae,?_,λm=>?_,λl m=>?_⟩
    ·rw[bF hx]
     have nm:∀ l∈ls++[l5],l≠L:=λl m e=>(Ka.mp m).elim (λz=>nL (by rw[←e];exact z)) λz=>n5L (by rw[←JO.mp z];exact e);exact r6.keep (λl m z e=>by rw[aj (nm l m)];exact e) (bg.set y6)
    ·exact(Ka.mp m).elim nL λz=>n5L (JO.mp z).symm
    ·exact(Ka.mp m).elim (fr l) λz=>by rw[JO.mp z];exact ar.none sc h5
  rw[lt1,J9 (JR _)]at r;refine⟨_,rfl,lr,rv,rfl,.inl (SqL.of (s1 _ _ hlr)),λlo hlo=>?_⟩;have s2:=ar.upd (o:=.lst rv) hlo;have zo:upd H1 lo (.lst rv) lo=some (.lst rv):=ae;have zm:=s2 _ _ y;have rm:=r.keep (λl _ z e=>s2 _ _ e) (bg.of s2);have sA:=s1.trans s2;have ro:=rr.keep (bg.of sA);have Ik:=ar.none s1 hlo;have nlo:lo∉ls:=λm=>by obtain⟨z,e⟩:=r.mem m;rw[e]at hlo;cases hlo
  have Jx:lo≠L:=λe=>by rw[e,y]at hlo;cases hlo
  generalize upd H1 lo (.lst rv)=H2 at *;have q0:=Kj (cell/8) (show(4:Int)≠0 by decide);have q1:=Kd (cell/8) (show(0:Int)<4 by decide);have p30:(0:Int)<10 ^ (30:Int).toNat:=by decide
  have f0:=Kj (cell/512) (show sz+3≠0 by omega);have f1:=Kd (cell/512) (show 0<sz+3 by omega);have g0:=Kj (cell/512) (show(10 ^ (30:Int).toNat:Int)≠0 by decide);have g1:=Kd (cell/512) p30;refine⟨1,rfl,_,rfl,_,rfl,cell,512,rfl,rfl,⟨by decide,by decide⟩,_,rfl,sz,3,rfl,rfl,_,sz+3,rfl,rfl,(by show(0:Int)<sz+3;omega),?_⟩;refine⟨_,rfl,sz,1,rfl,rfl,_,rfl,cell,512,rfl,rfl,⟨by decide,by decide⟩,10,30,rfl,rfl,⟨by decide,by decide,by decide⟩,_,_,rfl,rfl,p30,_,_,rfl,rfl,?_⟩;refine⟨by show 4≤sizeLine;decide,λl4 h4=>?_⟩;have s4:=ar.upd (o:=.lst [V.int (-1),V.int sz,V.int (cell/512%(sz+3)),V.int (sz+1+cell/512%10 ^ (30:Int).toNat)]) h4;obtain⟨far,sf,Jy⟩:∃ far:Int,Sm far∧([.int (-1),.int sz,.int (cell/512%(sz+3)),.int (sz+1+cell/512%10 ^ (30:Int).toNat)]:List V)[(cell/8%4).toNat]?=some (.int far):=by
   have big:Sm (sz+1+cell/512%10 ^ (30:Int).toNat):=DT z0 z1 g0 g1;rcases(show cell/8%4=0∨cell/8%4=1∨cell/8%4=2∨cell/8%4=3 by omega) with e|e|e|e<;>rw[e]
   ·exact⟨-1,Sm.of (by omega) (by omega),rfl⟩
   ·exact⟨sz,Sm.of (by omega) (by omega),rfl⟩
   ·exact⟨_,Sm.of (by generalize cell/512%(sz+3)=y at f0 f1;omega) (by generalize cell/512%(sz+3)=y at f0 f1;omega),rfl⟩
   ·exact⟨_,big,rfl⟩
  refine⟨_,rfl,cell,8,rfl,rfl,⟨by decide,by decide⟩,_,4,rfl,rfl,(by show(0:Int)<4;decide),l4,_,_,.int far,rfl,rfl,SqL.of ae,eL q0 Jy,?_⟩;have zo4:=s4 _ _ zo;have zm4:=s4 _ _ zm;have rm4:=rm.keep (λl _ z e=>s4 _ _ e) (bg.of s4);have sB:=sA.trans s4;have ro4:=ro.keep (bg.of s4);generalize upd H2 l4 (.lst _)=H4 at *;have e1:=rr.1;have r1:=b.r1;have lS:(0:Int)<(rv.length:Int):=by omega
  refine⟨_,rfl,cell,64,rfl,rfl,⟨by decide,by decide⟩,_,rfl,lo,rv,rfl,.inl (SqL.of zo4),_,(rv.length:Int),rfl,rfl,lS,?_⟩;have a0:=Kj (cell/64) (show(rv.length:Int)≠0 by omega);have a1:=Kd (cell/64) lS;obtain⟨at',eat⟩:∃ at':Int,cell/64%(rv.length:Int)=at':=⟨_,rfl⟩;rw[eat]at a0 a1;simp only[eat,gO];have okf:Okw (.ad far):=.inr (.inr ⟨far,rfl,sf⟩);have fin:∀(Hx:Hp) (ov:List V) (ts':List Tg) (rs':List Mw),ar H Hx→Hx L=some (.lst ys)→ThF Hx ys ts' ls→Hx lo=some (.lst ov)→MR Hx ov rs'→Bu ts' rs' sz→2≤sizeLine∧∀ p,Hx p=none→Q (.ref p) (upd Hx p (.tup [.ref L,.ref lo])):=λHx ov ts' rs' sx zl th zo mo bu=>⟨by decide,λp hp=>by
   have sp:=ar.upd (o:=.tup [V.ref L,V.ref lo]) hp;exact k p L ys lo ov ts' rs' _ (sx.trans sp) ae (sp _ _ zl) ((th.keep (λl _ z e=>sp _ _ e) (bg.of sp)).th) (sp _ _ zo) (mo.keep (bg.of sp)) bu hL Ik⟩
  refine dO λN hN=>?_;have rest:∀(Hx:Hp) (ov:List V) (rs':List Mw),ar H Hx→Hx L=some (.lst ys)→ThF Hx ys ts ls→Hx lo=some (.lst ov)→MR Hx ov rs'→Bu ts rs' sz→N [some (.ref lt),some (.ref lr),some (.int sz),some (.int cell),some (.ref L),some (.ref lo),some (.int far),some (.int at'),none] Hx:=λHx ov rs' sx zl th zo mo bu=>hN _ _ (by
   refine⟨_,rfl,cell,4,rfl,rfl,(by show(0:Int)<4;decide),rfl,_,rfl,?_⟩;by_cases c2:cell%4=2
   case neg=>exact bK (by rw[fk,decide_eq_false c2]) (kU ⟨_,rfl,_,rfl,fin Hx ov ts rs' sx zl th zo mo bu⟩)
   refine bQ (by rw[fk,decide_eq_true c2]) ⟨_,rfl,by show 0≤sizeLine;exact Kh _,λe he=>?_⟩;have se:=ar.upd (o:=.lst []) he;have the:=th.keep (λl _ z e=>se _ _ e) (bg.of se);have R1:Rp (upd Hx e (.lst [])) 4 (V.ref L) _:=C4 (k:=0) (se _ _ zl) the.th;have R2:Rp (upd Hx e (.lst [])) 4 (V.ref e) _:=lM ae;refine⟨_,_,R1,R2,_,rfl,?_⟩;rw[jB];have zl1:=se _ _ zl;have zo1:=se _ _ zo;have mo1:=mo.keep (bg.of se);have sx1:=sx.trans se;generalize upd Hx e (.lst [])=H5 at *;by_cases c0:ts=[]
   ·exact bK (by rw[decide_eq_true (rq.mpr c0)];rfl) ⟨_,rfl,_,rfl,fin H5 ov ts rs' sx1 zl1 the zo1 mo1 bu⟩
   refine bQ (by rw[decide_eq_false (λz=>c0 (rq.mp z))];rfl) ?_;have ly:=the.1;have lp:0<ts.length:=Li.mpr c0;have lp2:(0:Int)<(ys.length:Int):=(by omega);have i0:=Kj (cell/64) (show(ys.length:Int)≠0 by omega);have i1:=Kd (cell/64) lp2;obtain⟨i,ei⟩:∃ i:Int,cell/64%(ys.length:Int)=i:=⟨_,rfl⟩;have hx:ts[i.toNat]?=some (ts[i.toNat]'(by omega)):=JM _;obtain⟨x,ex⟩:∃ x,ts[i.toNat]'(by omega)=x:=⟨_,rfl⟩;rw[ex]at hx;have hv:ys[i.toNat]?=some (ys[i.toNat]'(by omega)):=JM _;have lls:=the.2.1;have hl:ls[i.toNat]?=some (ls[i.toNat]'(by omega)):=JM _;obtain⟨lf,elf⟩:∃ l,ls[i.toNat]'(by omega)=l:=⟨_,rfl⟩;rw[elf]at hl;obtain⟨q,zs,evq,h1,h2,h3⟩:=the.2.2.2 i.toNat _ x lf hv hx hl;refine⟨_,rfl,_,rfl,cell,64,rfl,rfl,⟨by decide,by decide⟩,_,rfl,L,ys,rfl,.inl (SqL.of zl1),_,(ys.length:Int),rfl,rfl,lp2,L,ys,i,.ref q,rfl,by show V.int (cell/64%(ys.length:Int))=_;rw[ei],SqL.of zl1,eL (by omega) (by rw[hv,evq]),q,_,2,.ref lf,rfl,rfl,SqT.of h1,rfl,?_⟩;have e3:=h3.1;refine⟨_,rfl,by show 0≤sizeLine;exact Kh _,λe6 he6=>?_⟩;have s6:=ar.upd (o:=.lst []) he6;have R3:Rp (upd H5 e6 (.lst [])) 2 (V.ref lf) _:=jQ (k:=0) (s6 _ _ h2) (h3.keep (bg.of s6));have R4:Rp (upd H5 e6 (.lst [])) 2 (V.ref e6) _:=lM ae;refine⟨_,_,R3,R4,_,rfl,?_⟩;rw[jB];have th6:=the.keep (λl _ z e=>s6 _ _ e) (bg.of s6);have zl6:=s6 _ _ zl1;have zo6:=s6 _ _ zo1;have mo6:=mo1.keep (bg.of s6);have sx6:=sx1.trans s6;have h26:=s6 _ _ h2;generalize upd H5 e6 (.lst [])=H6 at *;by_cases c6:x.2.2=[]
   ·exact bK (by rw[decide_eq_true (lL.mpr c6)];rfl) ⟨_,rfl,_,rfl,fin H6 ov ts rs' sx6 zl6 th6 zo6 mo6 bu⟩
   refine bQ (by rw[decide_eq_false (λz=>c6 (lL.mp z))];rfl) ?_;have lz:0<x.2.2.length:=Li.mpr c6;have lz2:(0:Int)<(zs.length:Int):=(by omega);have j0:=Kj (cell/4096) (show(zs.length:Int)≠0 by omega);have j1:=Kd (cell/4096) lz2;refine⟨_,rfl,by show 2≤sizeLine;decide,λt7 h7=>?_⟩;have s7:=ar.upd (o:=.tup [V.str "at",V.int far]) h7;have z7:upd H6 t7 (.tup [V.str "at",V.int far]) t7=some (.tup [V.str "at",V.int far]):=ae;have th7:=th6.keep (λl _ z e=>s7 _ _ e) (bg.of s7);have h27:=s7 _ _ h26;refine⟨_,rfl,_,rfl,cell,4096,rfl,rfl,⟨by decide,by decide⟩,_,rfl,lf,zs,rfl,.inl (SqL.of h27),_,(zs.length:Int),rfl,rfl,lz2,lf,zs,_,(cell/4096%(zs.length:Int)).toNat,rfl,rfl,h27,xA j0 j1,?_⟩;have th8:=th7.put (j:=(cell/4096%(zs.length:Int)).toNat) hx hl zs h27 (v:=.ref t7) (w:=.ad far) (.inr ⟨(by intro z;cases z),t7,rfl,z7⟩);have ml:lf∈ls:=J0 hl;have Jz:=fr lf ml;refine⟨_,rfl,_,rfl,fin _ ov _ rs' (λb u z=>by rw[aj (ai z Jz)];exact s7 _ _ (sx6 _ _ z)) (by rw[aj (λe=>nL (by rw[e];exact ml))];exact s7 _ _ zl6) th8 (by rw[aj (λe=>nlo (by rw[e];exact ml))];exact s7 _ _ zo6) ((mo6.keep (bg.of s7)).keep (bg.set h27)) (bu.put hx okf)⟩)
  refine⟨_,rfl,cell,4,rfl,rfl,(by show(0:Int)<4;decide),rfl,_,rfl,?_⟩;by_cases c1:cell%4=1
  case neg=>exact bK (by rw[fk,decide_eq_false c1]) (rest H4 rv rs sB zm4 rm4 zo4 ro4 b)
  refine bQ (by rw[fk,decide_eq_true c1]) ⟨_,rfl,by show 2≤sizeLine;decide,λt5 h5=>?_⟩;have s5:=ar.upd (o:=.tup [V.str "at",V.int far]) h5;have z5:upd H4 t5 (.tup [V.str "at",V.int far]) t5=some (.tup [V.str "at",V.int far]):=ae;refine⟨_,rfl,_,rfl,lo,rv,at',at'.toNat,rfl,rfl,s5 _ _ zo4,xA a0 a1,?_⟩;have tu:=bg.set (o:=.lst (rv.set at'.toNat (.ref t5))) (s5 _ _ zo4);refine rest _ _ (rs.set at'.toNat (.ad far)) (λb u z=>by rw[aj (ai z Ik)];exact s5 _ _ (sB _ _ z)) (by rw[aj (KG Jx)];exact s5 _ _ zm4) ((rm4.keep (λl _ z e=>s5 _ _ e) (bg.of s5)).keep (λl m z e=>by rw[aj (λe=>nlo (by rw[←e];exact m))];exact e) tu) ae (((ro4.keep (bg.of s5)).set (w:=.ad far) (.inr ⟨(by intro z;cases z),t5,rfl,z5⟩)).keep tu) (b.roots (by rw[Kr]) (vZ b.rw okf))
end
end K42
end
section
namespace L2
open PySem PySem.Spec PyProof.Rows LX PySem.Builtin.Str
section
variable{X:Cx}
end
end L2
end
section
namespace L2
open PySem PySem.Spec PyProof.Rows LX
section
variable{X:Cx}{scope:Scope}{cl:List (Str×Addr)}{x x2:Str}{idx:List Nat}{NC:List Str}{C:Addr}{fp:List Addr}{pins:List (Addr×Obj)}{σ:St}{H:Hp}{s:Shared}
end
end L2
end
section
namespace L2
open PySem PySem.Spec PyProof.Rows LX
section
variable{X:Cx}{scope:Scope}{cl:List (Str×Addr)}{xs:List Str}{idx:List Nat}{NC:List Str}{C:Addr}{fp:List Addr}{pins:List (Addr×Obj)}{σ:St}{H:Hp}{s:Shared}
theorem yr{elt iter ct tgt:Expr}{pos:Pos}{g:TG}{wi:TI}{tc:TT}{te:TE}(c:iO X scope cl xs idx NC)(hc:X.calm=true)(hi:PI X tgt iter wi)(hg:iO X scope cl xs idx NC→∀ C fp s₀ H₀,PG (cxC X scope cl NC C fp s₀ H₀) tgt g)
  (ht:∀ C fp s₀ H₀,PT (cxC X scope cl NC C fp s₀ H₀) ct tc) (he:∀ C fp s₀ H₀,PE (cxC X scope cl NC C fp s₀ H₀) elt te)
  (hs:∀ x,foldedSetIterable iter X.env x=pure x:=by intro _;rfl):PE X (.ListComp elt [⟨tgt,iter,[ct],0⟩] scope pos) (DR xs.length wi idx g tc te):=by
 intro pins s σ H Q I h;rw[eval_ListComp];refine wpAny_comprehension_free (use:=none) rfl hs c.xJ c.kind c.loc (thn (hi pins s σ H _ I h) λv s1 h1=>thn h1 λitv s2 h2=>?_);obtain⟨it,fp,tn,J,H2,rfl,I2,T,st2,f2,q⟩:=h2;refine wpAny_newObj_type (wpAny_newFunctionEnv c.j5 (by intro y hy;simp at hy) (λh₁ hns₁ hsb₁=>?_) c.kind);dsimp only at hns₁ hsb₁ ⊢;have I3:Inv X pins σ (upd H2 s2.heap.objs.size (.lst [])) {s2 with heap:=s2.heap.push {cls:=.type "list",data:=.seq ([]:List Value).toArray},toks:=s2.toks}:=I2.yK (ys:=[]) (its:=[]) .nil (Kh _);obtain⟨W,⟨m0,w0⟩,turn⟩:=q s2.heap.objs.size I2.fresh;generalize hD:s2.heap.objs.size=D at *;generalize hH:s2.heap.push {cls:=.type "list",data:=.seq ([]:List Value).toArray}=h3 at *;have qR:∀ b∈fp,b<D:=λb hb=>by
  obtain⟨o,e,_⟩:=T.obj _ _ st2 b hb;rw[←hD];exact JY e
 have hlt:∀ b∈fp,b<h3.objs.size:=λb hb=>by
  rw[←hH,K8,hD];exact Lp (qR b hb)
 have hf:∀ b∈fp,jV X pins (upd H2 D (.lst [])) b:=λb hb=>⟨by rw[aj (Kb (qR b hb))];exact(f2 b hb).1,(f2 b hb).2⟩;have kp:∀ b o,h3.get? b=some o→h₁.get? b=some o:=λb o e=>hsb₁.extBut b o (Kb (JY e)) (JQ _ e);have I4:Inv (cxC X scope cl NC h3.objs.size fp {s2 with heap:=h3,toks:=s2.toks} (upd H2 D (.lst []))) [] (xs.map (λ_=>none)++gy σ idx) (upd H2 D (.lst [])) {s2 with heap:=h₁,toks:=s2.toks+([]:List (Str×Value)).length} :=
  qf (s:={s2 with heap:=h3,toks:=s2.toks}) c I3 hf hlt hns₁ kp
 have jG:∀ {H':Hp},(∀ b∈fp,H' b=none)→∀ b∈fp,jV (cxC X scope cl NC h3.objs.size fp {s2 with heap:=h3,toks:=s2.toks} (upd H2 D (.lst []))) [] H' b:=λhn b hb =>
  ⟨hn b hb,Kb (hlt b hb),λz=>(Kc.mp (I3.ik b z)).elim (hf b hb).2.1 (hf b hb).2.2.1,.inl hb,λy a q=>(hf b hb).2.2.2.2.1 y a (c.sub _ _ q),λp hp=>(by cases hp)⟩
 have st1:tn 0 h₁:=T.keep 0 _ _ st2 λb hb o e=>kp b o (by rw[←hH];exact JQ _ e);have loop:∀ s4:Shared,s4={s2 with heap:=h₁,toks:=s2.toks+([]:List (Str×Value)).length} →
   codeAny (model X.prog X.w) X.A (.compLoop (.ListComp elt [⟨tgt,iter,[ct],0⟩] scope pos) 0 (.ref it) (.ref D) (compEnvC scope cl h3.objs.size X.env)) (compPost (model X.prog X.w) X.A X.xe none (EP X pins σ Q) (.ref D) h3.objs.size) s4:=by
  rintro s4 rfl;refine og (λn s'=>∃ i ys H' vs,vs.length=xs.length∧Inv (cxC X scope cl NC h3.objs.size fp {s2 with heap:=h3,toks:=s2.toks} (upd H2 D (.lst []))) [] (vs++gy σ idx) H' s'∧tn i s'.heap∧(∀ b∈fp,H' b=none)∧W i n ys H')
   ?_ m0 ⟨0,[],_,xs.map (λ_=>none),JS _,I4,st1,λb hb=>(hf b hb).1,w0⟩
  rintro n s5 ⟨i5,ys,H5,vs,lvs,I5,st5,fr5,w5⟩;obtain⟨hDl,alt⟩:=turn i5 n ys H5 w5;rcases alt with⟨stop,qn⟩|⟨go,hz,N,hN',step⟩
  ·refine thn (T.done (cxC X scope cl NC h3.objs.size fp {s2 with heap:=h3,toks:=s2.toks} (upd H2 D (.lst []))) rfl rfl rfl hc i5 [] s5 _ H5 _ I5 (jG fr5) st5 stop) λr s6 ⟨hr,I6⟩=>?_
   subst hr;obtain⟨m,ns6,_⟩:=id I6.loc;refine⟨m,ns6,λh' hs'=>⟨.ref D,H5,?_,rfl,qn⟩⟩;have J6:Inv X pins σ H5 s6:=I3.mS (ch:=fp) I6.os I6.base I6.hok I6.bare λb hb=>⟨(hf b hb).2.2.2.1,(hf b hb).2.1,(hf b hb).2.2.2.2.1,(hf b hb).2.2.2.2.2⟩;refine J6.turned (t':=s6.toks) (it:=h3.objs.size) (λb o hb e=>hs'.extBut b o hb e) I6.free (KR I3.lt) (.inr I3.sz) (λy a q z=>?_) (λp hp z=>?_)
   ·obtain⟨v,q'⟩:=I3.cell y a q
    exact absurd q'.lt (by rw[z];exact KO _)
   ·exact absurd (JY (I3.pin p hp).1) (by rw[z];exact KO _)
  ·refine thn (T.item (cxC X scope cl NC h3.objs.size fp {s2 with heap:=h3,toks:=s2.toks} (upd H2 D (.lst []))) rfl rfl rfl hc i5 [] s5 _ H5 _ I5 (jG fr5) st5 go) λr s6 ⟨u,hr,h6⟩=>?_
   subst hr;refine thn h6 λ_ s7 ⟨y,H7,I7,r7,y7,st7,fr7⟩=>?_;have I7':=I7.pinned (jG fr7) (T.obj _ _ st7);refine wpAny_mono (hg c h3.objs.size fp {s2 with heap:=h3,toks:=s2.toks} (upd H2 D (.lst [])) _ s7 _ H7 y u _ I7' r7 (step y H7 y7 vs lvs)) (λ_ s8 ⟨σ8,H8,I8,ws,lws,e8,st8⟩=>?_) λ_ _ z=>z.elim;subst e8;refine wpAny_mono (ht _ _ _ _ _ s8 _ H8 _ I8 st8) (λbb s11 ⟨H11,I11,q11⟩=>?_) λ_ _ z=>z.elim;have fin:∀ {H12:Hp} {s12:Shared} {zs:List V} {m':Nat},Inv (cxC X scope cl NC h3.objs.size fp {s2 with heap:=h3,toks:=s2.toks} (upd H2 D (.lst []))) ([]++n8 fp s7.heap) (ws++gy σ idx) H12 s12→m'<n→W (i5+1) m' zs H12 →
     ∃ m,m<n∧∃ i ys H' vs,vs.length=xs.length∧Inv (cxC X scope cl NC h3.objs.size fp {s2 with heap:=h3,toks:=s2.toks} (upd H2 D (.lst []))) [] (vs++gy σ idx) H' s12∧tn i s12.heap∧(∀ b∈fp,H' b=none)∧W i m ys H':=λ{H12 s12 zs m'} I12 hm w12=>by
    refine⟨m',hm,i5+1,zs,_,ws,lws,I12.fg,T.keep _ _ _ st7 λb hb o e=>(I12.pin (b,o) (JP _ (JP _ (cn hb e)))).1,λb hb=>?_,w12⟩;obtain⟨o,e,d⟩:=T.obj _ _ st7 b hb;exact(I12.pin (b,o) (JP _ (JP _ (cn hb e)))).2.1
   cases bb with
   | false =>
    obtain⟨m',hm,w9⟩:=hN' _ _ q11;exact fin I11 hm w9
   | true =>
    refine wpAny_mono (he _ _ _ _ _ s11 _ H11 _ I11 q11) (λw s9 ⟨v,H9,I9,r9,hD9,n9⟩=>?_) λ_ _ z=>z.elim;obtain⟨m',hm,w9⟩:=hN' _ _ n9;refine wpAny_mono (ki (X:=(cxC X scope cl NC h3.objs.size fp {s2 with heap:=h3,toks:=s2.toks} (upd H2 D (.lst [])))) I9 hD9 hz r9) (λ_ s10 I10=>?_) λ_ _ z=>z.elim;exact fin I10 hm w9
 exact codeAny_compStart_list (loop _ rfl) (T.self _ 0 _ _ _ st1 (loop _ rfl))
end
end L2
end
section
namespace K42
open PySem L2 LX
section
variable{P:Program}{w:World}{K:W.Frag}{mg:Str→Option Value}{base:Heap}{D:Ad}
def kG(R:List Int):List Tg→Int
 | []=>0
 | x::r=>(if x.2.1∈R then(x.2.2.length:Int)+1 else 0)+kG R r
theorem qg(R:List Int)(ts:List Tg)(x:Tg):kG R (ts++[x])=kG R ts+if x.2.1∈R then(x.2.2.length:Int)+1 else 0:=by
 induction ts with
 | nil=>show(_:Int)+0=0+_;omega
 | cons y r ih=>show _+kG R (r++[x])=_+kG R r+_;rw[ih];omega
theorem qh{R:List Int}{a:Int}(n:a∉R):∀(ts:List Tg),(ts.map (·.2.1)).Nodup→(∀ x∈ts,x.2.1=a→∃ k:Int,True)→∀(l:Int),(∀ x∈ts,x.2.1=a→(x.2.2.length:Int)+1=l)→a∈ts.map (·.2.1)→kG (a::R) ts=l+kG R ts
 | [],_,_,_,_,m=>by cases m
 | x::r,nd,hk,l,hl,m=>by
  rw[Kz,K3]at nd;have none:∀(r:List Tg),a∉r.map (·.2.1)→kG (a::R) r=kG R r:=λr=>by
   induction r with
   | nil=>intro _;rfl
   | cons y r ih =>
    intro h;rw[Kz]at h;have h1:¬y.2.1=a:=λe=>h (by rw[←e];exact JW);show(if y.2.1∈a::R then _ else _)+kG (a::R) r=(if y.2.1∈R then _ else _)+kG R r;rw[ih λm=>h (JT _ m)];congr 1
    by_cases c:y.2.1∈R
    ·rw[if_pos (JT _ c),if_pos c]
    ·rw[if_neg (λm=>(Kc.mp m).elim h1 c),if_neg c]
  show(if x.2.1∈a::R then _ else _)+kG (a::R) r=l+((if x.2.1∈R then _ else _)+kG R r);by_cases e:x.2.1=a
  ·rw[if_pos (by rw[e];exact JW),if_neg (by rw[e];exact n),none r (by rw[←e];exact nd.1),hl x JW e]
   omega
  ·have ih:=qh n r nd.2 (λy m=>hk y (JT _ m)) l (λy m=>hl y (JT _ m)) (by
    rw[Kz]at m;exact(Kc.mp m).resolve_left (λz=>e z.symm))
   rw[ih];by_cases c:x.2.1∈R
   ·rw[if_pos (JT _ c),if_pos c];omega
   ·rw[if_neg (λm=>(Kc.mp m).elim e c),if_neg c];omega
theorem wa{ts:List Tg}{rs:List Mw}{sz:Int}(bt:Bu ts rs sz):∀ {R:List Int},R.Nodup→(∀ a∈R,a∈ts.map (·.2.1))→kG R ts=(tot (fOf ts) R:Int)
 | [],_,_=>by
  have:∀ r:List Tg,kG [] r=0:=λr=>by
   induction r with
   | nil=>rfl
   | cons x r ih=>show(if x.2.1∈[] then _ else _)+kG [] r=0;rw[if_neg (by simp),ih];rfl
  exact this ts
 | a::R,nd,h=>by
  rw[K3]at nd;have ndt:(ts.map (·.2.1)).Nodup:=by
   rw[List.nodup_iff_pairwise_ne,List.pairwise_iff_getElem];intro i j hi hj hij e;rw[JS]at hi hj;rw[List.getElem_map,List.getElem_map]at e;rcases bt.ap i j _ _ (by omega) (JM hi) (JM hj) with z|z<;>omega
  rw[qh nd.1 ts ndt (λ_ _ _=>⟨0,trivial⟩) ((fOf ts a).length+1) (λx m e=>by rw[←e,bt.f m]) (h a JW),wa bt nd.2 λb m=>h b (JT _ m)];show _=(((fOf ts a).length+1+tot (fOf ts) R:Nat):Int)
  push_cast
  rfl
theorem AL{D:Ad}{Hx H6:Hp}{m2 mx2 c2:Addr}{o:HO}{o2:HO}(hm2:Hx m2=none)(C5:Hx mx2=none)(B6:But m2 (upd (upd Hx mx2 o) m2 o2) H6)(hc2:upd (upd Hx mx2 o) m2 o2 c2=none):ar Hx H6∧Hx c2=none:=by
 refine⟨λb u q=>B6 b u (ai q hm2) (by rw[aj (ai q hm2),aj (ai q C5)];exact q),?_⟩;by_cases e:c2=m2
 ·rw[e];exact hm2
 ·by_cases e2:c2=mx2
  ·rw[e2];exact C5
  ·rw[aj e,aj e2]at hc2;exact hc2
theorem wc{H:Hp}{l:Addr}{a c:V}{x y:Vl}{k:Nat}(hl:H l=some (.lst [a,c]))(h1:Rp H (k+1) a x)(h2:Rp H (k+1) c y):Rp H (k+2) (.ref l) (.l [x,y]):=⟨l,_,rfl,hl,rfl,λi u z e1 e2=>by
 match i with
 | 0=>cases e1;cases e2;exact h1
 | 1=>cases e1;cases e2;exact h2
 | i+2=>cases e1⟩
def we:Sp:=λvs H Q _=>∃(lt:Addr) (tv:List V) (ts:List Tg) (lr:Addr) (rv:List V) (rs:List Mw) (sz cell:Int),vs=[.ref lt,.ref lr,.int sz,.int cell]∧H lt=some (.lst tv)∧ThL H tv ts∧H lr=some (.lst rv)∧MR H rv rs∧Bu ts rs sz∧∀ H',ar H H'→Q (.bl true) H'
abbrev k7:List Str:=["things", "roots", "size", "cell", "made", "told", "forward", "source", "bad", "words", "met", "first", "room", "target", "kept", "due"]
theorem aG:aK k7 ["things", "roots", "size", "cell"] (aq gQ):=⟨rfl,rfl,rfl,by decide +kernel,rfl,by decide +kernel,by decide +kernel⟩
theorem qy(F:Fun K "_law_good" "_law_good" gQ D.dh D.fT)(T:Txt K mg D)
  (iH:Ok P w K mg base 1 D.dG D.gC ["things", "roots", "size", "cell"] (zh))
  (fL:Ok P w K mg base 5 D.bP D.eF ["things", "size"] (vT D))
  (aM:Ok P w K mg base 4 D.b9 D.dB ["self", "a"] (oy D))
  (aC:Ok P w K mg base 4 D.bE D.cX ["self", "a", "word"] (kD D))
  (iI:Ok P w K mg base 1 D.dH D.gD ["things", "roots", "forward"] (vV))
  (iJ:Ok P w K mg base 1 D.dF D.gB ["things", "roots"] (vU))
  (aZ:Ok P w K mg base 1 D.aU D.cb ["self", "size"] (nQ D))
  (ba:Ok P w K mg base 5 D.cz D.fc ["memory"] (C2 D))
  (eO:Ok P w K mg base 11 D.df D.fS ["way", "source", "target", "first", "roots"] (vW D)):Ok P w K mg base 12 D.dh D.fT ["things", "roots", "size", "cell"] (we):=by
 refine⟨?_,F.binds (ps:=["things", "roots", "size", "cell"]) λ_ _ _ _ _ _ us hl=>match us,hl with|[_,_,_,_],_=>rfl⟩
 refine F.okE aG (λvs H Q E h=>?_) (λcdv A' outer s' H vs Q E hr h=>?_)
 ·obtain⟨lt,tv,ts,lr,rv,rs,sz,cell,rfl,_⟩:=h
  rfl
 ·obtain⟨lt,tv,ts,lr,rv,rs,sz,cell,rfl,ht,tl,hlr,rr,b,k⟩:=h
  have hu:=j8 hr;have hu4:=KI (KN (by decide:4≤64) _) hr.units;have hu2:=KI (KN (by decide:2≤64) _) hr.units;have hu3:=KI (KN (by decide:3≤64) _) hr.units;refine⟨_,(PSs.nox (ag (j3 (aH iH.g (hr.mono (by decide)) rfl T.uG T.jO iH.b .nil dU (aa (pv 0) (aa (pv 1) (aa (pv 2) (aa (pv 3) ah))))) (gY rfl (aN (aP (i:=4) aG.nd rfl (Or.inl rfl)) (aN (aP (i:=5) aG.nd rfl (Or.inl rfl)) fj))))
   (ag (ay (i:=6) aG.nd rfl (Or.inl rfl) (AW yE ak))
   (ag (ay (i:=7) aG.nd rfl (Or.inl rfl) (aH fL.g (hr.mono (by decide)) rfl T.oq T.hX fL.b .nil dU (aa (pv 4) (aa (pv 2) ah))))
   (ag (dw (PW.pt (pw_and (aA jf (aw bc (pv 3) ak) ak (aT _)) (pw_and1 (aA (lJ (n:=4) hu4) (pv 4) (dk ah) (aT _)))))
    (ag (ay (i:=6) aG.nd rfl (Or.inl rfl) (bI dm (bI cg (pv 4) (aw bc (aw cC (pv 3) ak) (aV aL rfl T.fV PyProof.Rows.Boot.«len» (aa (pv 4) ah))) (λ_ _=>rfl)) ak (λ_ _=>rfl)))
    (ao (cB (eA (pv 7) T.aI T.dJ aC.g (hr.mono (by decide)) aC.b .nil dU (aa (pv 6) (aa (dz (aa cA (aa ak (aa (bI dm (eA (pv 7) T.aI T.fe aM.g (hr.mono (by decide)) aM.b .nil dU (aa (pv 6) ah)) ak (λ_ _=>rfl)) ah)))) ah))))))
    aY)
   (ag (ay (i:=8) aG.nd rfl (Or.inl rfl) (aH iI.g (hr.mono (by decide)) rfl T.uH T.jP iI.b .nil dU (aa (pv 4) (aa (pv 5) (aa (pv 6) ah)))))
   (ag (ay (i:=9) aG.nd rfl (Or.inl rfl) ak)
   (ag (dw (qX (qW (pv 8)))
    (ag (ay (i:=10) aG.nd rfl (Or.inr rfl) (aH iJ.g (hr.mono (by decide)) rfl T.uF T.jN iJ.b .nil dU (aa (pv 4) (aa (pv 5) ah))))
    (ao (ay (i:=9) aG.nd rfl (Or.inl rfl) (aV (pZ rfl) rfl T.xy PyProof.Rows.Boot.«sum» (aa (yr (cl:=[("met",s'.heap.objs.size+1)]) (xs:=["t", "a", "fields"]) (idx:=[10]) (NC:=["t", "a", "fields", "met"]) (g:=D1 K 3 (pI (gO 0) (pI (gO 1) (pI (gO 2) DZ)))) (by exact tT (sc:=aq gQ) (N:=k7) (ns:=["met"]) rfl rfl rfl (by decide +kernel) rfl rfl (by intro q hq;rw[JO.mp hq];rfl)) rfl (eP (pv 4)) (λc C fp s₀ H₀=>gY rfl (aN (lN (i:=0) c rfl) (aN (lN (i:=1) c rfl) (aN (lN (i:=2) c rfl) fj)))) (λC fp s₀ H₀=>(aA (r:=rIn K false) pS (pv 1) (pv 3) (by with_unfolding_all rfl))) (λC fp s₀ H₀=>(aw aW (aV (p8 rfl) rfl T.fV PyProof.Rows.Boot.«len» (aa (pv 2) ah)) ak))) ah)))))
    aY)
   (ag (ay (i:=11) aG.nd rfl (Or.inl rfl) (aw bc (aw cC (pv 3) ak) ak))
   (ag (dw (aA jf (aw bc (aw cC (pv 3) ak) ak) ak (aT _))
    (ao (ay (i:=11) aG.nd rfl (Or.inl rfl) (aw aW (pv 11) ak)))
    aY)
   (ag (ay (i:=12) aG.nd rfl (Or.inl rfl) (aV (wy rfl) rfl T.zL PyProof.Rows.Boot.«max» (aa ak (aa (bI cg (dk (aa (aw aW (pv 9) (pv 11)) (aa (aw yD (aw aW (pv 9) (pv 11)) ak) (aa (aw aW (aw aW (pv 9) (pv 11)) ak) (aa ak ah))))) (aw bc (aw cC (pv 3) ak) ak) (λ_ _=>rfl)) ah))))
   (ag (ay (i:=13) aG.nd rfl (Or.inl rfl) (vA T.jk aZ.g (hr.mono (by decide)) rfl T.qb aZ.b .nil yY (aa (pv 12) ah)))
   (ag (ay (i:=14) aG.nd rfl (Or.inl rfl) (dk (aa (aH ba.g (hr.mono (by decide)) rfl T.ff T.dC ba.b .nil dU (aa (pv 7) ah)) (aa (aH ba.g (hr.mono (by decide)) rfl T.ff T.dC ba.b .nil dU (aa (pv 13) ah)) ah))))
   (ag (ay (i:=15) aG.nd rfl (Or.inl rfl) cA)
   (ag (dw (PW.pt (pw_and (aA tW (pv 9) ak (aT _)) (pw_and1 (aA tW (aw aW (pv 11) (pv 9)) (pv 12) (aT _)))))
    (ao (ay (i:=15) aG.nd rfl (Or.inl rfl) cA))
    aY)
   (ag (dw (qW (pv 8))
    (ao (ay (i:=15) aG.nd rfl (Or.inl rfl) cA))
    aY)
   (ag (dw (aA xq (aH eO.g (hr.mono (by decide)) rfl T.k4 T.gS eO.b .nil dU (aa ak (aa (pv 7) (aa (pv 13) (aa (pv 11) (aa (dP cV rfl T.iu PyProof.Rows.Boot.«list» (aa (pv 5) ah)) ah)))))) (bI cg (dk (aa cA (aa cA ah))) (dP ur rfl T.zM PyProof.Rows.Boot.«int» (aa (pv 8) ah)) (λ_ _=>rfl)) (aT _))
    (ao (a9 k8))
    aY)
   (ag (dw (aA (lJ (n:=2) hu2) (aH ba.g (hr.mono (by decide)) rfl T.ff T.dC ba.b .nil dU (aa (pv 7) ah)) (bI cg (pv 14) ak (λ_ _=>rfl)) (aT _))
    (ao (a9 k8))
    aY)
   (ag (dw (aA xq (aH eO.g (hr.mono (by decide)) rfl T.k4 T.gS eO.b .nil dU (aa ak (aa (pv 7) (aa (pv 13) (aa (pv 11) (aa (dP cV rfl T.iu PyProof.Rows.Boot.«list» (aa (pv 5) ah)) ah)))))) (pv 15) (aT _))
    (ao (a9 k8))
    aY)
   (ao (a9 (zx (vz jf (pv 15) cA (aT _)) (yz (vz (yX (n:=3) hu3) (dk (aa (aH ba.g (hr.mono (by decide)) rfl T.ff T.dC ba.b .nil dU (aa (pv 7) ah)) (aa (aH ba.g (hr.mono (by decide)) rfl T.ff T.dC ba.b .nil dU (aa (pv 13) ah)) ah))) (pv 14) (aT _))))))))))))))))))))))))),?_⟩
  refine⟨_,rfl,_,rfl,_,rfl,_,rfl,lt,tv,ts,lr,rv,rs,sz,cell,rfl,ht,tl,hlr,rr,b,λp lm mv lo ov ts rs H1 s1 hp zm tm zo mo b hlm hlo=>⟨p,_,rfl,SqT.of hp,rfl,_,_,rfl,_,_,rfl,rfl,?_⟩⟩;have n10:=b.n;have z0:=b.z0;have z1:=b.z1;refine⟨5,rfl,_,rfl,_,rfl,lm,mv,ts,sz,rfl,zm,tm,z0,z1,n10,λx m=>⟨b.lo x m,b.hi x m,b.fl x m⟩,λm mx c xs H2 s2 hm hc M2=>?_⟩;have s12:=s1.trans s2;have hcH:H c=none:=ar.none s1 hc;have nlm:lm≠c:=ai zm hc;have nlo:lo≠c:=ai zo hc;have lw:(zf ts sz).length=sz.toNat:=by rw[nY,Ku]
  simp only[gO];refine dO λN hN=>?_;suffices rest:∀(Hx:Hp) (fw:Int) (xs:List V) (ws:List Mw),But c H2 Hx→Mm D Hx m mx c xs ws→Gm ws→Sr ws rs (fOf ts) (tOf ts) (Bw ts fw)→N [some (.ref lt),some (.ref lr),some (.int sz),some (.int cell),some (.ref lm),some (.ref lo),some (.int fw),some (.ref m),none,none,none,none,none,none,none,none] Hx by
   have S0:=b.sr (-5) (zf ts sz) lw (.inl (by decide)) (λ_ _=>rfl) (λ_ _ h=>absurd h (by decide));have r0:=rest H2 (-5) xs _ (But.same (ar.refl _)) M2 b.gm S0;refine⟨_,rfl,cell,4,rfl,rfl,(by show(0:Int)<4;decide),rfl,_,rfl,?_⟩;by_cases c3:cell%4=3
   case neg=>exact bK (by rw[fk,decide_eq_false c3]) (kU r0)
   refine bQ (by rw[fk,decide_eq_true c3]) ⟨_,rfl,by show 0≤sizeLine;exact Kh _,λe he=>?_⟩;have se:=ar.upd (o:=.lst []) he;have tm2:=tm.same s2;have zm2:=s2 _ _ zm;have R1:Rp (upd H2 e (.lst [])) 4 (V.ref lm) _:=C4 (k:=0) (se _ _ zm2) (tm2.same se);have R2:Rp (upd H2 e (.lst [])) 4 (V.ref e) _:=lM ae;refine⟨_,_,R1,R2,_,rfl,?_⟩;rw[jB];by_cases c0:ts=[]
   ·exact bK (by rw[decide_eq_true (rq.mpr c0)];rfl) (rest _ (-5) xs _ (But.same se) (M2.same se) b.gm S0)
   refine bQ (by rw[decide_eq_false (λz=>c0 (rq.mp z))];rfl) ?_;have M3:=M2.same se;have zm3:=se _ _ zm2;have tm3:=tm2.same se;generalize upd H2 e (.lst [])=H3 at *;have ly:=tm.1;have lp:0<ts.length:=Li.mpr c0;have lp2:(0:Int)<(mv.length:Int):=(by omega);have i0:=Kj (cell/8) (show(mv.length:Int)≠0 by omega);have i1:=Kd (cell/8) lp2;obtain⟨i,ei⟩:∃ i:Int,cell/8%(mv.length:Int)=i:=⟨_,rfl⟩;have hx:ts[i.toNat]?=some (ts[i.toNat]'(by omega)):=JM _;obtain⟨x,ex⟩:∃ x,ts[i.toNat]'(by omega)=x:=⟨_,rfl⟩;rw[ex]at hx;have mx':=J0 hx;have hv:mv[i.toNat]?=some (mv[i.toNat]'(by omega)):=JM _;obtain⟨q,lf,zs,evq,h1,h2,h3⟩:=tm3.2 i.toNat _ x hv hx;refine⟨_,rfl,_,rfl,cell,8,rfl,rfl,⟨by decide,by decide⟩,_,rfl,lm,mv,rfl,.inl (SqL.of zm3),_,(mv.length:Int),rfl,rfl,lp2,lm,mv,i,.ref q,rfl,by show V.int (cell/8%(mv.length:Int))=_;rw[ei],SqL.of zm3,eL (by omega) (by rw[hv,evq]),q,_,1,.int x.2.1,rfl,rfl,SqT.of h1,rfl,?_⟩;have lo0:=b.lo x mx';have hi0:=b.hi x mx';have l:=b.lies ts.length (JR _);rw[J9 (JR _)]at l;have hhd:=(l x mx').1;have inr:0≤x.2.1∧x.2.1<((zf ts sz).length:Int):=⟨lo0,by rw[lw];omega⟩;have smx:Sm x.2.1:=Sm.of (by omega) (by omega);refine⟨_,rfl,m,_,_,rfl,M3.i,(by kernel_rfl),_,rfl,_,rfl,m,_,_,rfl,M3.i,(by kernel_rfl),_,rfl,m,mx,c,xs,_,x.2.1,rfl,M3,smx,?_⟩;rw[if_pos inr];intro v w hv2 hw mv2;rw[hhd]at hw;cases hw;obtain⟨_,t5,rfl,ht5⟩:=mv2.resolve_left (λz=>by cases z.1);refine⟨t5,_,2,.int x.2.2.length,rfl,rfl,SqT.of ht5,rfl,by show 3≤sizeLine;decide,λt6 h6=>?_⟩;have s6:=ar.upd (o:=.tup [V.str "moved",V.int 0,V.int x.2.2.length]) h6;refine⟨m,mx,c,xs,_,x.2.1,.ref t6,.mv 0 x.2.2.length,rfl,M3.same s6,smx,.inr ⟨(by intro z;cases z),t6,rfl,by rw[ae];rfl⟩,?_⟩;rw[if_pos inr];intro M7;refine rest _ x.2.1 _ _ ((But.same se).trans ((But.same s6).trans But.self)) M7 ?_ (b.sr x.2.1 _ (by rw[Kr];exact lw) (.inr ⟨x,mx',rfl⟩) (λj nj=>by rw[KD (λe=>nj (by omega))]) (λt n _=>by rw[KJ (by omega)];intro z;cases z));have g:=b.gm;refine⟨λt n m=>?_,λa n m=>?_⟩
   ·rcases KL m with m|m
    ·exact g.hd t n m
    ·cases m
   ·rcases KL m with m|m
    ·exact g.mv a n m
    ·cases m;exact Sm.of (by decide) (by decide)
  intro Hx fw xs ws bx M gm S;refine hN _ _ ?_;clear hN;have sx:ar H Hx:=λb u z=>bx _ _ (ai z hcH) (s12 _ _ z);have zmx:Hx lm=some (.lst mv):=bx _ _ nlm (s2 _ _ zm);have zox:Hx lo=some (.lst ov):=bx _ _ nlo (s2 _ _ zo);have tux:bg H1 Hx:=λt us z=>bx _ _ (cG (s2 _ _ z) M2.l (by intro z;cases z)) (s2 _ _ z);have mox:MR Hx ov rs:=mo.keep tux;have tmx:ThL Hx mv ts:=⟨tm.1,λi v x a b=>by obtain⟨q,lf,zs,e,g1,g2,g3⟩:=tm.2 i v x a b;exact⟨q,lf,zs,e,tux _ _ g1,bx _ _ (ai g2 hc) (s2 _ _ g2),g3.keep tux⟩⟩;have ly:=tm.1;refine dO λN hN=>?_;suffices rest:∀(H5:Hp) (bad:Bool),ar Hx H5→(bad=true→∃ a,Rch rs (fOf ts) a∧a∉Bw ts fw)→(bad=false→∀ a,Rch rs (fOf ts) a→a∈Bw ts fw)→N [some (.ref lt),some (.ref lr),some (.int sz),some (.int cell),some (.ref lm),some (.ref lo),some (.int fw),some (.ref m),some (.bl bad),none,none,none,none,none,none,none] H5 by
   exact⟨_,rfl,_,rfl,_,rfl,lm,mv,ts,lo,ov,rs,sz,fw,rfl,zmx,tmx,zox,mox,b,λa ra na H5 s5=>rest H5 true s5 (λ_=>⟨a,ra,na⟩) (λh=>by cases h),λyL H5 s5=>rest H5 false s5 (λh=>by cases h) λ_=>yL⟩
  intro H5 bad s5 hbt hbf;refine hN _ _ ?_;clear hN;refine dO λN hN=>hN _ _ ?_;refine dO λN hN=>?_;suffices rest:∀(H6:Hp) (wd:Nat) (v10:Option V),ar H5 H6→wd≤70→(bad=false→∃ R,Bfs rs (fOf ts) R∧(∀ a∈R,a∈Bw ts fw)∧wd=tot (fOf ts) R)→N [some (.ref lt),some (.ref lr),some (.int sz),some (.int cell),some (.ref lm),some (.ref lo),some (.int fw),some (.ref m),some (.bl bad),some (.int wd),v10,none,none,none,none,none] H6 by
   cases bad with
   | true=>exact⟨_,rfl,true,rfl,kU (rest H5 0 none (ar.refl _) (by omega) (λh=>by cases h))⟩
   | false =>
    have yL:=hbf rfl;refine⟨_,rfl,false,rfl,tw ⟨_,rfl,_,rfl,lm,mv,ts,lo,ov,rs,sz,rfl,s5 _ _ zmx,tmx.same s5,s5 _ _ zox,mox.keep (bg.of s5),b,(λa r=>KY.mpr (jA.mp (yL a r)).1),λpm R H6 s6 hpm zpm bf hR=>?_⟩⟩;have hBR:∀ a∈R,a∈Bw ts fw:=λa m=>yL a (hR a m);have hB:∀ a∈R,a∈ts.map (·.2.1):=λa m=>KY.mpr (jA.mp (hBR a m)).1;have s56:=s5.trans s6;have lR:R.length≤10:=Ko (jw bf.nd hB) (by rw[JS];exact n10);have l7:=vR (f:=fOf ts) λa m=>S.fl a (hBR a m);refine⟨_,rfl,lm,rfl,⟨_,SqL.of (s56 _ _ zmx)⟩,λL hL=>?_⟩;refine uM (K:=K) (a:=lm) (xs:=mv) (λi ys Hc=>∃ zs:List Int,ys=zs.map V.int∧zs.length≤i∧zs.sum=kG R (ts.take i)∧ar H6 Hc∧Hc L=some (.lst ys)) ⟨[],rfl,JR _,rfl,ar.upd hL,ae⟩ (λi ys Hc _ ⟨zs,e,l,_,_,y⟩=>⟨y,by rw[e,JS];exact l⟩) (λi ys Hc _ ⟨_,_,_,_,sc,_⟩=>SqL.of (sc _ _ (s56 _ _ zmx))) (fH (by omega)) (λi v ys Hc hi ⟨zs,e,l,es,sc,y⟩=>?_) (λys H7 ⟨zs,e,l,es,s7,y⟩=>?_)
    ·have il:i<ts.length:=by rw[←ly];exact(JN.mp hi).1
     have hx:ts[i]?=some ts[i]:=JM il;obtain⟨x,ex⟩:∃ x,ts[i]=x:=⟨_,rfl⟩;rw[ex]at hx;obtain⟨q,lf,us,rfl,h1,h2,h3⟩:=tmx.2 i v x hi hx;have sy:=s56.trans sc;intro vs lvs
     match vs,lvs with
     | [w0,w1,w2],_ =>
      refine⟨q,_,rfl,SqT.of (sy _ _ h1),rfl,_,_,rfl,_,_,rfl,_,_,rfl,rfl,[_,_,_],rfl,rfl,?_⟩;refine⟨_,rfl,_,rfl,pm,_,rfl,.inl (SqL.of (sc _ _ zpm)),rfl,ie _,_,rfl,?_⟩;by_cases cR:x.2.1∈R
      ·refine bQ (by show inV _ _=true;rw[nB,decide_eq_true cR]) ⟨_,rfl,lf,_,rfl,.inl (SqL.of (sy _ _ h2)),_,_,rfl,rfl,y,zs++[(us.length:Int)+1],by rw[e,Km];rfl,by rw[JU];exact Nat.succ_le_succ l,?_,λb u z=>by rw[aj (ai z hL)];exact sc b u z,ae⟩
       rw[bF hx,qg,if_pos cR,List.sum_append,es,h3.1];simp
      ·refine bK (by show inV _ _=false;rw[nB,decide_eq_false cR]) ⟨zs,e,Nat.le_succ_of_le l,?_,sc,y⟩
       rw[bF hx,qg,if_neg cR,es];omega
    rw[ly,J9 (JR _),wa b bf.nd hB]at es;refine⟨L,zs,rfl,SqL.of (by rw[y,e]),?_⟩;rw[es];exact rest H7 (tot (fOf ts) R) (some (.ref pm)) (s6.trans s7) (by omega) λ_=>⟨R,bf,hBR,rfl⟩
  intro H6 wd v10 s6 w70 hR;refine hN _ _ ?_;clear hN;have f0:=Kj (cell/16) (show(4:Int)≠0 by decide);have f1:=Kd (cell/16) (show(0:Int)<4 by decide);refine⟨_,rfl,cell,16,rfl,rfl,⟨by decide,by decide⟩,_,4,rfl,rfl,(by show(0:Int)<4;decide),?_⟩;obtain⟨f2,ef2⟩:∃ f2:Int,cell/16%4=f2:=⟨_,rfl⟩;rw[ef2]at f0 f1;simp only[ef2,gO];refine dO λN hN=>?_;suffices rest:∀(fs:Int),0≤fs→fs≤400→N [some (.ref lt),some (.ref lr),some (.int sz),some (.int cell),some (.ref lm),some (.ref lo),some (.int fw),some (.ref m),some (.bl bad),some (.int wd),v10,  some (.int fs),none,none,none,none] H6 by
   refine⟨_,rfl,cell,128,rfl,rfl,⟨by decide,by decide⟩,_,8,rfl,rfl,(by show(0:Int)<8;decide),rfl,_,rfl,?_⟩;by_cases c3:cell/128%8=3
   ·exact bQ (by rw[fk,decide_eq_true c3]) ⟨_,rfl,f2,300,rfl,rfl,rest (f2+300) (by omega) (by omega)⟩
   ·exact bK (by rw[fk,decide_eq_false c3]) (rest f2 (by omega) (by omega))
  intro fs fs0 fs1;refine hN _ _ ?_;clear hN;have q0:=Kj (cell/32) (show(4:Int)≠0 by decide);have q1:=Kd (cell/32) (show(0:Int)<4 by decide);refine⟨_,rfl,_,rfl,wd,fs,rfl,rfl,_,rfl,_,rfl,wd,fs,rfl,rfl,_,1,rfl,rfl,_,rfl,_,rfl,wd,fs,rfl,rfl,_,2,rfl,rfl,by show 4≤sizeLine;decide,λl4 h4=>?_⟩;have s4:=ar.upd (o:=.lst [V.int ((wd:Int)+fs),V.int ((wd:Int)+fs-1),V.int ((wd:Int)+fs+2),V.int 0]) h4;obtain⟨rm0,r5,erm⟩:∃ rm0:Int,rm0≤500∧([.int ((wd:Int)+fs),.int ((wd:Int)+fs-1),.int ((wd:Int)+fs+2),.int 0]:List V)[(cell/32%4).toNat]?=some (.int rm0):=by
   rcases(show cell/32%4=0∨cell/32%4=1∨cell/32%4=2∨cell/32%4=3 by omega) with e|e|e|e<;>rw[e]
   ·exact⟨_,by omega,rfl⟩
   ·exact⟨_,by omega,rfl⟩
   ·exact⟨_,by omega,rfl⟩
   ·exact⟨_,by omega,rfl⟩
  refine⟨_,rfl,cell,32,rfl,rfl,⟨by decide,by decide⟩,_,4,rfl,rfl,(by show(0:Int)<4;decide),l4,_,_,.int rm0,rfl,rfl,SqL.of ae,eL q0 erm,0,rm0,rfl,?_⟩;obtain⟨rm,JA,JK,JL⟩:∃ rm:Nat,(if rm0>0 then rm0 else 0)=(rm:Int)∧0≤rm∧rm≤500:=by
   by_cases h:rm0>0
   ·exact⟨rm0.toNat,by rw[if_pos h];omega,by omega,by omega⟩
   ·exact⟨0,by rw[if_neg h];rfl,by omega,by omega⟩
  rw[JA];have s46:=s6.trans s4;generalize upd H6 l4 (.lst _)=H7 at *;have s7:ar Hx H7:=s5.trans s46;refine⟨_,rfl,?_⟩;intro m2 mx2 hm2 C5 nd2;refine⟨m2,mx2,(rm:Int),rfl,ae,by omega,by omega,λc2 H8 B8 hc2 M8=>⟨rfl,?_⟩⟩;obtain⟨s8,Il⟩:=AL (D:=D) hm2 C5 B8 hc2;rw[Int.toNat_natCast]at M8;have M7:=M.same s7;have ncc:c≠c2:=ai M7.l Il;have Ms8:=M7.same s8;have s78:=s7.trans s8;have JB:H c2=none:=ar.none sx (ar.none s7 Il);refine⟨_,rfl,m,mx,c,_,_,rfl,Ms8,λk1 H9 s9 hk1 zk1=>⟨_,rfl,m2,mx2,c2,_,_,rfl,M8.same s9,λk2 H10 s10 hk2 zk2=>⟨by show 2≤sizeLine;decide,λkp hkp=>?_⟩⟩⟩;have s11:=ar.upd (o:=.lst [V.ref k1,V.ref k2]) hkp;have zkp:upd H10 kp (.lst [V.ref k1,V.ref k2]) kp=some (.lst [V.ref k1,V.ref k2]):=ae;have sB:=(s9.trans s10).trans s11;have Im:=(s10.trans s11) _ _ zk1;have JC:=s11 _ _ zk2;have MA:=Ms8.same sB;have MB:=M8.same sB;have sA:=s78.trans sB;generalize upd H10 kp (.lst [V.ref k1,V.ref k2])=Hk at *;refine dO λN hN=>hN _ _ ?_;have zoK:=sA _ _ zox;have moK:=mox.keep (bg.of sA);refine dO λN hN=>hN _ _ ?_;refine dO λN hN=>?_;suffices r1:∀ d1:Str,((0<(wd:Int)∧(rm:Int)<fs+wd)→d1 = "room")→(¬(0<(wd:Int)∧(rm:Int)<fs+wd)→d1 = "told")→N [some (.ref lt),some (.ref lr),some (.int sz),some (.int cell),some (.ref lm),some (.ref lo),some (.int fw),some (.ref m),some (.bl bad),some (.int wd),v10,some (.int fs),some (.int rm),some (.ref m2),some (.ref kp),some (.str d1)] Hk by
   by_cases h1:0<(wd:Int)
   ·refine⟨_,rfl,_,0,rfl,rfl,_,rfl,bQ (decide_eq_true h1) ⟨_,rfl,_,rfl,fs,wd,rfl,rfl,_,rfl,_,rm,rfl,rfl,_,rfl,?_⟩⟩
    by_cases h2:(rm:Int)<fs+wd
    ·exact bQ (decide_eq_true h2) (r1 "room" (λ_=>rfl) (λh=>absurd ⟨h1,h2⟩ h))
    ·exact bK (decide_eq_false h2) (r1 "told" (λh=>absurd h.2 h2) (λ_=>rfl))
   ·exact⟨_,rfl,_,0,rfl,rfl,_,rfl,bK (decide_eq_false h1) (kU (r1 "told" (λh=>absurd h.1 h1) (λ_=>rfl)))⟩
  intro d1 hd1 hd2;refine hN _ _ ?_;clear hN;refine dO λN hN=>?_;suffices r2:∀ due:Str,(bad=true→due = "address")→(bad=false→(0<(wd:Int)∧(rm:Int)<fs+wd)→due = "room")→(bad=false→¬(0<(wd:Int)∧(rm:Int)<fs+wd)→due = "told")→N [some (.ref lt),some (.ref lr),some (.int sz),some (.int cell),some (.ref lm),some (.ref lo),some (.int fw),some (.ref m),some (.bl bad),some (.int wd),v10,some (.int fs),some (.int rm),some (.ref m2),some (.ref kp),some (.str due)] Hk by
   cases bad with
   | true=>exact⟨_,rfl,true,rfl,tw (r2 "address" (λ_=>rfl) (λh=>by cases h) (λh=>by cases h))⟩
   | false=>exact⟨_,rfl,false,rfl,kU (r2 d1 (λh=>by cases h) (λ_=>hd1) (λ_=>hd2))⟩
  intro due hda hdr hdt;refine hN _ _ ?_;clear hN;refine dO λN hN=>?_;suffices r3:∀ Hy:Hp,ar Hk Hy→N [some (.ref lt),some (.ref lr),some (.int sz),some (.int cell),some (.ref lm),some (.ref lo),some (.int fw),some (.ref m),some (.bl bad),some (.int wd),v10,some (.int fs),some (.int rm),some (.ref m2),some (.ref kp),some (.str due)] Hy by
   refine⟨_,rfl,_,rfl,_,rfl,_,rfl,lo,ov,rfl,.inl (SqL.of (ar.refl Hk _ _ zoK)),λl9 hl9=>?_⟩;have t9:=ar.upd (o:=.lst ov) hl9;have u9:=(ar.refl Hk).trans t9;refine⟨0,m,mx,c,xs,ws,m2,mx2,c2,_,_,fs,l9,ov,rs,fOf ts,tOf ts,Bw ts fw,rfl,MA.same u9,MB.same u9,ncc,(λe=>by rw[e,(MA.same (ar.refl Hk)).l]at hl9;cases hl9),(λe=>by rw[e,(MB.same (ar.refl Hk)).l]at hl9;cases hl9),gm,ae,moK.keep (bg.of u9),S,fs0,by omega,(.inl rfl),(λa ra na H12 t12=>?_),(λh=>absurd h (by decide)),(λ_ R bf hBR H12 t12=>?_),(λh=>absurd h (by decide))⟩
   ·have hb:bad=true:=by
     cases bad with
     | true=>rfl
     | false=>exact absurd (hbf rfl a ra) na
    subst hb;refine⟨by show 2≤sizeLine;decide,λp hp=>?_⟩;have tp:=ar.upd (o:=.lst [V.str "told",V.str "address"]) hp;exact⟨_,rfl,true,rfl,p,_,_,.str "address",rfl,rfl,SqL.of ae,rfl,rfl,_,rfl,bK (by decide +kernel) (r3 _ ((t9.trans t12).trans tp))⟩
   ·have hb:bad=false:=by
     cases bad with
     | false=>rfl
     | true =>
      obtain⟨a,ra,na⟩:=hbt rfl;exact absurd (hBR a (bf.rch ra)) na
    subst hb;refine⟨by show 2≤sizeLine;decide,λp hp=>?_⟩;have tp:=ar.upd (o:=.lst [V.str "told",V.str "address"]) hp;exact⟨_,rfl,false,rfl,p,_,_,.str "told",rfl,rfl,SqL.of ae,rfl,rfl,_,rfl,bK (by decide +kernel) (r3 _ ((t9.trans t12).trans tp))⟩
  intro Hy sy;refine hN _ _ ?_;clear hN;refine dO λN hN=>?_;suffices r4:∀ Hy:Hp,ar Hk Hy→N [some (.ref lt),some (.ref lr),some (.int sz),some (.int cell),some (.ref lm),some (.ref lo),some (.int fw),some (.ref m),some (.bl bad),some (.int wd),v10,some (.int fs),some (.int rm),some (.ref m2),some (.ref kp),some (.str due)] Hy by
   refine⟨_,rfl,m,mx,c,_,_,rfl,MA.same sy,λp H12 t12 hp zp=>⟨_,rfl,kp,_,0,.ref k1,rfl,rfl,SqL.of ((sy.trans t12) _ _ zkp),rfl,?_⟩⟩;have st:=sy.trans t12;have R1:Rp H12 2 (V.ref p) _:=jQ (k:=0) zp ((MA.same st).r);have R2:Rp H12 2 (V.ref k1) _:=jQ (k:=0) (st _ _ Im) ((MA.same st).r);refine⟨_,_,R1,R2,_,rfl,bK (by rw[kl R1 R1];rfl) (r4 _ st)⟩
  clear sy Hy;intro Hy sy;refine hN _ _ ?_;clear hN;refine dO λN hN=>?_;have mB:((List.replicate rm Mw.no).length:Int)=rm:=by rw[Ku]
  suffices r5:∀ Hz:Hp,(ar Hy Hz∧due ≠ "told" ∨ ic c c2 Hy Hz∧due = "told")→N [some (.ref lt),some (.ref lr),some (.int sz),some (.int cell),some (.ref lm),some (.ref lo),some (.int fw),some (.ref m),some (.bl bad),some (.int wd),v10,some (.int fs),some (.int rm),some (.ref m2),some (.ref kp),some (.str due)] Hz by
   refine⟨_,rfl,_,rfl,_,rfl,_,rfl,lo,ov,rfl,.inl (SqL.of (sy _ _ zoK)),λl9 hl9=>?_⟩;have t9:=ar.upd (o:=.lst ov) hl9;have u9:=(sy).trans t9;refine⟨1,m,mx,c,xs,ws,m2,mx2,c2,_,_,fs,l9,ov,rs,fOf ts,tOf ts,Bw ts fw,rfl,MA.same u9,MB.same u9,ncc,(λe=>by rw[e,(MA.same (sy)).l]at hl9;cases hl9),(λe=>by rw[e,(MB.same (sy)).l]at hl9;cases hl9),gm,ae,moK.keep (bg.of u9),S,fs0,by omega,(.inr rfl),(λa ra na H12 t12=>?_),(λ_ R bf hBR hc3 H12 t12=>?_),(λh=>absurd h (by decide)),(λ_ R bf hBR hc3 H12 t12=>?_)⟩
   ·have hb:bad=true:=by
     cases bad with
     | true=>rfl
     | false=>exact absurd (hbf rfl a ra) na
    subst hb;obtain rfl:=hda rfl;exact⟨_,rfl,rfl,_,rfl,bK (by decide +kernel) (r5 _ (.inl ⟨t9.trans t12,by decide⟩))⟩
   ·have hb:bad=false:=by
     cases bad with
     | false=>rfl
     | true =>
      obtain⟨a,ra,na⟩:=hbt rfl;exact absurd (hBR a (bf.rch ra)) na
    subst hb;obtain⟨R',bf',JD,ew⟩:=hR rfl;obtain rfl:=bf'.uniq bf;rw[mB,←ew]at hc3;obtain rfl:=hdr rfl hc3;exact⟨_,rfl,rfl,_,rfl,bK (by decide +kernel) (r5 _ (.inl ⟨t9.trans t12,by decide⟩))⟩
   ·have hb:bad=false:=by
     cases bad with
     | false=>rfl
     | true =>
      obtain⟨a,ra,na⟩:=hbt rfl;exact absurd (hBR a (bf.rch ra)) na
    subst hb;obtain⟨R',bf',JD,ew⟩:=hR rfl;obtain rfl:=bf'.uniq bf;rw[mB,←ew]at hc3;obtain rfl:=hdt rfl hc3;exact⟨_,rfl,rfl,_,rfl,bK (by decide +kernel) (r5 _ (.inr ⟨(ic.same t9).trans t12,rfl⟩))⟩
  intro Hz hz;refine hN _ _ ?_;clear hN;rcases hz with⟨sz2,nt⟩|⟨b2,rfl⟩
  ·have sy:=sy.trans sz2
   refine⟨_,rfl,rfl,_,rfl,bK (decide_eq_false (λe=>nt (by cases e;rfl))) ⟨_,rfl,m,mx,c,_,_,rfl,MA.same sy,λp3 H13 u13 hp3 zp3=>⟨_,rfl,m2,mx2,c2,_,_,rfl,MB.same (sy.trans u13),λp4 H14 u14 hp4 zp4=>⟨by show 2≤sizeLine;decide,λp5 hp5=>?_⟩⟩⟩⟩;have u15:=ar.upd (o:=.lst [V.ref p3,V.ref p4]) hp5;have sz':=(sy.trans u13).trans (u14.trans u15);have R1:=wc (k:=1) (show upd H14 p5 (.lst [V.ref p3,V.ref p4]) p5=_ from ae) (jQ (k:=0) ((u14.trans u15) _ _ zp3) ((MA.same sz').r)) (jQ (k:=0) (u15 _ _ zp4) ((MB.same sz').r));have R2:=wc (k:=1) (sz' _ _ zkp) (jQ (k:=0) (sz' _ _ Im) ((MA.same sz').r)) (jQ (k:=0) (sz' _ _ JC) ((MB.same sz').r));refine⟨_,rfl,_,_,R1,R2,?_⟩;rw[kl R1 R1];exact k _ ((sx.trans sA).trans sz')
  ·exact⟨_,rfl,rfl,_,rfl,bQ (by decide +kernel) (k _ (λb u z=>b2 _ _ (ai z hcH) (ai z JB) (sy _ _ (sA _ _ (sx _ _ z)))))⟩
theorem sqB{H H':Hp}{Pt a:Addr}{xs:List V}{ps:Array Value}(h:SqL K H a xs)(b:But Pt H H')(hP:H Pt=some (.tbl ps)):SqL K H' a xs:=by
 rcases h with(e|⟨o,e⟩)|e
 ·exact .inl (.inl (b _ _ (cG e hP (by intro z;cases z)) e))
 ·exact .inl (.inr ⟨o,b _ _ (cG e hP (by intro z;cases z)) e⟩)
 ·exact .inr e
def xD(K:W.Frag)(Pt:Addr):Sp:=λvs H Q _=>∃(a:Addr) (ns:List Int),vs=[.ref a]∧SqL K H a (ns.map V.int)∧ns.length≤63∧H Pt=some (.tbl #[])∧∀ H',Q (.bl true) H'
theorem yt{H:Hp}{a:Addr}{o:HO}(_:ar H (upd H a o)):upd H a o a=some o:=ae
abbrev G4:List Str:=["script", "things", "roots", "size", "cell"]
theorem oP:aK G4 ["script"] (aq zJ):=⟨rfl,rfl,rfl,by decide +kernel,rfl,by decide +kernel,by decide +kernel⟩
theorem DU(F:Fun K "law" "law" zJ D.pK D.uv)(T:Txt K mg D)
  (gh:Ok P w K mg base 6 D.cy D.d6 ["script"] (tR K Pt))
  (gW:Ok P w K mg base 12 D.dh D.fT ["things", "roots", "size", "cell"] (we)):Ok P w K mg base 13 D.pK D.uv ["script"] (xD K Pt):=by
 refine⟨?_,F.binds (ps:=["script"]) λ_ _ _ _ _ _ us hl=>match us,hl with|[_],_=>rfl⟩
 refine F.okE oP (λvs H Q E h=>?_) (λcdv A' outer s' H vs Q E hr h=>?_)
 ·obtain⟨a,ns,rfl,_⟩:=h
  rfl
 ·obtain⟨a,ns,rfl,hS,hl,hPt,k⟩:=h
  refine⟨_,(PSs.nox (ag (j3 (aH gh.g (hr.mono (by decide)) rfl T.qk T.iA gh.b .nil dU (aa (pv 0) ah)) (gY rfl (aN (aP (i:=1) oP.nd rfl (Or.inl rfl)) (aN (aP (i:=2) oP.nd rfl (Or.inl rfl)) (aN (aP (i:=3) oP.nd rfl (Or.inl rfl)) fj)))))
   (ag (fz Kx rfl (eP (aw vL (dk (aa ak (aa ak (aa ak ah)))) (j7 mV (pv 0) vC (jq ak)))) (aP (i:=4) oP.nd rfl (Or.inl rfl))
    (ao (dw (qX (qW (aH gW.g (hr.mono (by decide)) rfl T.rP T.ja gW.b .nil dU (aa (pv 1) (aa (pv 2) (aa (pv 3) (aa (pv 4) ah)))))))
     (ao (a9 k8))
     aY)))
   (ao (a9 k8))))),?_⟩
  refine⟨_,rfl,a,ns,rfl,hS,hl,hPt,λp lt tv lr rv sz ts rs H1 b1 zp zlt zlr tl rr bt nlt nlr=>⟨p,_,rfl,SqT.of zp,rfl,_,_,rfl,_,_,rfl,_,_,rfl,rfl,?_⟩⟩;have hS1:=sqB hS b1 hPt;refine⟨by show 3≤sizeLine;decide,λl1 h1=>?_⟩;have s1:=ar.upd (o:=.lst [V.int 32,V.int 1,V.int 3]) h1;refine⟨_,rfl,6,rfl,a,_,rfl,qU hS1 s1,λp2 h2=>?_⟩;rw[Gn];obtain⟨cs,ecs⟩:∃ cs,(ns.drop (HT.sIx ns.length 0 none)).take (HT.sIx ns.length ns.length (some 6)-HT.sIx ns.length 0 none)=cs:=⟨_,rfl⟩;have lcs:cs.length≤63:=by rw[←ecs,Kf,K0];omega
  rw[ecs];have s2:=ar.upd (o:=.lst (cs.map V.int)) h2;refine⟨l1,p2,_,_,rfl,rfl,SqL.of (s2 _ _ (yt s1)),SqL.of ae,by rw[JS];exact fH (by show 3+cs.length≤_;omega),λp3 h3=>?_⟩;have s3:=ar.upd (o:=.lst ([V.int 32,V.int 1,V.int 3]++cs.map V.int)) h3;have sA:=(s1.trans s2).trans s3;refine⟨p3,rfl,⟨_,SqL.of ae⟩,ip (K:=K) (a:=p3) (xs:=([32,1,3]++cs).map V.int) (λi σ Hx=>∃ v4:Option V,σ=[some (.ref a),some (.ref lt),some (.ref lr),some (.int sz),v4]∧ar (upd _ p3 (.lst ([V.int 32,V.int 1,V.int 3]++cs.map V.int))) Hx) ⟨none,rfl,ar.refl _⟩ (λi σ Hx _ ⟨_,_,sx⟩=>SqL.of (sx _ _ ae)) ?_ ?_⟩
  ·rintro i v σ Hx hi ⟨v4,rfl,sx⟩
   rw[JZ]at hi;obtain⟨cell,hc,rfl⟩:=Kn.mp hi;have sy:=sA.trans sx;exact⟨_,rfl,_,rfl,_,rfl,_,rfl,lt,tv,ts,lr,rv,rs,sz,cell,rfl,sy _ _ zlt,tl.same sy,sy _ _ zlr,rr.keep (bg.of sy),bt.bu,λH' s'=>⟨true,rfl,kU ⟨_,rfl,sx.trans s'⟩⟩⟩
  ·rintro σ Hx ⟨v4,rfl,sx⟩
   exact k _
end
open PySem.W
section
variable{K:Frag}
def LK(K:Frag)(n q:Str)(s:Stmt)(f:Addr):Prop:=(∃ d,Fun K n q s f d)∧keepIn K (.ref f)=true∧isFn K (.ref f)=true
theorem LK.mk{n q:Str}{s:Stmt}{f:Addr}{od an:Option Addr}{sl:Array (Option Value)}{oc kV dc pm cd ct:Value}(h1:K.lookup f=some ⟨oc,od,.func (fnOf n q (h8 s) (fW s) (aq s) .none kV dc pm an cd ct),sl⟩)(h2:codeIn K cd q=true)(h3:keepIn K (.ref f)=true)(h4:isFn K (.ref f)=true):LK K n q s f:=⟨⟨_,yM (st:=s) h1 h2 h3⟩,h3,h4⟩
def LC(K:Frag)(n q:Str)(s:Stmt)(f cc:Addr):Prop:=(∃ d,Fun K n q s f d∧d.code=.ref cc)∧keepIn K (.ref f)=true∧isFn K (.ref f)=true
theorem LC.mk{n q:Str}{s:Stmt}{f cc:Addr}{od an:Option Addr}{sl:Array (Option Value)}{oc kV dc pm ct:Value}(h1:K.lookup f=some ⟨oc,od,.func (fnOf n q (h8 s) (fW s) (aq s) .none kV dc pm an (.ref cc) ct),sl⟩)(h2:codeIn K (.ref cc) q=true)(h3:keepIn K (.ref f)=true)(h4:isFn K (.ref f)=true):LC K n q s f cc:=⟨⟨_,yM (st:=s) h1 h2 h3,rfl⟩,h3,h4⟩
def FI(K:Frag)(c:Addr)(n:Str)(f:Addr):Prop:=findIn K (.ref c) n=some (some (.ref f))
def NF(K:Frag)(c:Addr)(n:Str):Prop:=findIn K (.ref c) n=some none
structure PK(K:Frag)(c:Addr):Prop where
 g:plainGet K c Str.empty=true
 d:hasDictIn K c=true
 o:plainOver K c=true
 s:findIn K (.ref c) "__setattr__" = some (some (.builtin "object.__setattr__"))
 k:keepIn K (.ref c)=true
structure EK(K:Frag)(b e i:Addr):Prop where
 x:rf K e=true
 a:findIn K (.ref e) "__getattribute__" = some (some (.builtin "BaseException.__getattribute__"))
 t:findIn K (.ref e) "__getattr__" = some none
 c:findIn K (.ref e) "__class__" = some (some (.builtin "object.__class__"))
 i:findIn K (.ref e) "__init__" = some (some (.ref i))
 k:keepIn K (.ref e)=true
 v:kitOne K (.ref e) (.type "ValueError")=some true
 s:mroIn K e (.ref b)=some true
end
theorem all_mk{l:OpenLaw}{w:World}{K:Frag}{h:Heap}{mg:Str→Option Value}{cc Pt fa bG af au bh bj bT cQ bU bo bV bW bX bY aF aO ax dR lg dE c7 bL a7 fi bC bS a8 bA bM c9 aU bB b9 bE az de bN bO bD cy bP cz dF df dG dH dh pK:Addr}(X:K.In h)(G:h.Ns mainGlobals mg)(hfa:mg "law" = some (.ref fa))
  (nH:nsIn K mainGlobals "HeapError" = some (some (.ref bG)))
  (xH:rf K bG=true)
  (xh:nsIn K mainGlobals "kind_of" = some (some (.ref dR)))
  (G5:nsIn K mainGlobals "lay" = some (some (.ref lg)))
  (uO:nsIn K mainGlobals "thing_at" = some (some (.ref dE)))
  (r8:nsIn K mainGlobals "fields_at" = some (some (.ref c7)))
  (oQ:nsIn K mainGlobals "fields_told" = some (some (.ref bL)))
  (mE:nsIn K mainGlobals "look_at_room" = some (some (.ref a7)))
  (yu:nsIn K mainGlobals "copied" = some (some (.ref fi)))
  (mF:nsIn K mainGlobals "copied_words" = some (some (.ref bC)))
  (qz:nsIn K mainGlobals "things_met" = some (some (.ref bS)))
  (mG:nsIn K mainGlobals "address_told" = some (some (.ref a8)))
  (oR:nsIn K mainGlobals "words_among" = some (some (.ref bA)))
  (oS:nsIn K mainGlobals "places_from" = some (some (.ref bM)))
  (sg:nsIn K mainGlobals "told_anew" = some (some (.ref c9)))
  (sh:nsIn K mainGlobals "_law_cell" = some (some (.ref de)))
  (oU:nsIn K mainGlobals "_law_digits" = some (some (.ref bN)))
  (oV:nsIn K mainGlobals "_law_stream" = some (some (.ref bO)))
  (mI:nsIn K mainGlobals "_law_word_by" = some (some (.ref bD)))
  (qA:nsIn K mainGlobals "_law_built" = some (some (.ref cy)))
  (oW:nsIn K mainGlobals "_law_memory" = some (some (.ref bP)))
  (qB:nsIn K mainGlobals "_law_words" = some (some (.ref cz)))
  (uP:nsIn K mainGlobals "_law_met" = some (some (.ref dF)))
  (sj:nsIn K mainGlobals "_law_word" = some (some (.ref df)))
  (uQ:nsIn K mainGlobals "_law_put" = some (some (.ref dG)))
  (uR:nsIn K mainGlobals "_law_bad" = some (some (.ref dH)))
  (sk:nsIn K mainGlobals "_law_good" = some (some (.ref dh)))
  (C6:nsIn K mainGlobals "law" = some (some (.ref pK)))
  (xi:nsIn K mainGlobals "Memory" = some (some (.ref aO)))
  (ij:PK K aO)
  (xj:FI K aO "__init__" aU)
  (jk:makesIn K aO=true)
  (lG:NF K aO "cells")
  (mJ:FI K aO "size" bB)
  (qC:FI K aO "at" b9)
  (oX:FI K aO "put" bE)
  (gG:FI K aO "look_at_address" az)
  (qD:nsIn K mainGlobals "BadAddress" = some (some (.ref af)))
  (fi0:FI K af "__init__" ax)
  (cE:EK K bG af ax)
  (yv:nsIn K mainGlobals "NoRoom" = some (some (.ref au)))
  (eR:EK K bG au ax)
  (so:nsIn K mainGlobals "BadField" = some (some (.ref bh)))
  (sv:nsIn K mainGlobals "BadCount" = some (some (.ref bj)))
  (uS:nsIn K mainGlobals "BadHand" = some (some (.ref bT)))
  (xk:nsIn K mainGlobals "BadLog" = some (some (.ref cQ)))
  (uT:nsIn K mainGlobals "BadName" = some (some (.ref bU)))
  (sE:nsIn K mainGlobals "BadPaper" = some (some (.ref bo)))
  (uU:nsIn K mainGlobals "BadText" = some (some (.ref bV)))
  (uV:nsIn K mainGlobals "BadView" = some (some (.ref bW)))
  (uW:nsIn K mainGlobals "NoRound" = some (some (.ref bX)))
  (uX:nsIn K mainGlobals "RoundOn" = some (some (.ref bY)))
  (lH:nsIn K mainGlobals "TooManyWords" = some (some (.ref aF)))
  (cq:kitOne K (.ref af) (.ref bh)=some false)
  (cu:kitOne K (.ref af) (.ref bj)=some false)
  (cH:kitOne K (.ref af) (.ref bT)=some false)
  (cS:kitOne K (.ref af) (.ref cQ)=some false)
  (cI:kitOne K (.ref af) (.ref bU)=some false)
  (cv:kitOne K (.ref af) (.ref bo)=some false)
  (cJ:kitOne K (.ref af) (.ref bV)=some false)
  (cK:kitOne K (.ref af) (.ref bW)=some false)
  (cL:kitOne K (.ref af) (.ref bX)=some false)
  (cM:kitOne K (.ref af) (.ref bY)=some false)
  (br:kitOne K (.ref af) (.ref aF)=some false)
  (bJ:kitOne K (.ref af) (.ref af)=some true)
  (cT:kitOne K (.ref af) (.ref au)=some false)
  (eG:kitOne K (.ref au) (.ref bh)=some false)
  (eI:kitOne K (.ref au) (.ref bj)=some false)
  (eT:kitOne K (.ref au) (.ref bT)=some false)
  (fu:kitOne K (.ref au) (.ref cQ)=some false)
  (eU:kitOne K (.ref au) (.ref bU)=some false)
  (eJ:kitOne K (.ref au) (.ref bo)=some false)
  (eV:kitOne K (.ref au) (.ref bV)=some false)
  (eW:kitOne K (.ref au) (.ref bW)=some false)
  (eX:kitOne K (.ref au) (.ref bX)=some false)
  (eY:kitOne K (.ref au) (.ref bY)=some false)
  (dy:kitOne K (.ref au) (.ref aF)=some false)
  (dX:kitOne K (.ref au) (.ref af)=some false)
  (fv:kitOne K (.ref au) (.ref au)=some true)
  (iR:LK K "__init__" "HeapError.__init__" dW ax)
  (xm:LK K "kind_of" "kind_of" kK dR)
  (G6:LK K "lay" "lay" zI lg)
  (uY:LK K "thing_at" "thing_at" iD dE)
  (sG:LK K "fields_at" "fields_at" iZ c7)
  (oY:LK K "fields_told" "fields_told" g4 bL)
  (mK:LK K "look_at_room" "look_at_room" gi a7)
  (yw:LK K "copied" "copied" ir fi)
  (mL:LK K "copied_words" "copied_words" gj bC)
  (qE:LK K "things_met" "things_met" iy bS)
  (mM:LK K "address_told" "address_told" gn a8)
  (oZ:LK K "words_among" "words_among" fB bA)
  (pb:LK K "places_from" "places_from" g5 bM)
  (sH:LK K "told_anew" "told_anew" i3 c9)
  (jS:LK K "__init__" "Memory.__init__" eS aU)
  (pd:LK K "size" "Memory.size" g6 bB)
  (sI:LK K "at" "Memory.at" i4 b9)
  (qF:LK K "put" "Memory.put" iz bE)
  (gK:LK K "look_at_address" "Memory.look_at_address" cU az)
  (sJ:LK K "_law_cell" "_law_cell" i6 de)
  (pe:LK K "_law_digits" "_law_digits" g7 bN)
  (pf:LK K "_law_stream" "_law_stream" fD bO)
  (mN:LK K "_law_word_by" "_law_word_by" gp bD)
  (qG:LC K "_law_built" "_law_built" cW cy cc)
  (pj:LK K "_law_memory" "_law_memory" g8 bP)
  (qH:LK K "_law_words" "_law_words" f7 cz)
  (uZ:LK K "_law_met" "_law_met" jK dF)
  (sL:LK K "_law_word" "_law_word" i7 df)
  (u0:LK K "_law_put" "_law_put" iE dG)
  (u6:LK K "_law_bad" "_law_bad" jL dH)
  (sM:LK K "_law_good" "_law_good" gQ dh)
  (G7:LK K "law" "law" zJ pK)
  (fV:nsIn K mainGlobals "len" = some none)
  (fX:nsIn K mainGlobals "range" = some none)
  (iu:nsIn K mainGlobals "list" = some none)
  (nO:nsIn K mainGlobals "sorted" = some none)
  (xy:nsIn K mainGlobals "sum" = some none)
  (zL:nsIn K mainGlobals "max" = some none)
  (dD:nsIn K mainGlobals "isinstance" = some none)
  (zM:nsIn K mainGlobals "int" = some none)
  (eK:nsIn K mainGlobals "enumerate" = some none)
  (gb:nsIn K mainGlobals "ValueError" = some none) :
  ∃ fd:FuncData,(∀(s:Shared) (v:Value),BindsTo s fd ⟨[v],[]⟩ [("script",v)])∧∀ base:Heap,K.In base→base.Ns mainGlobals mg→nr K mg base cc Pt→kT l.prog w K mg base (CXE l.prog w) 13 fa fd ["script"] (xD K Pt):=by
 have e:=(mg_of X G C6).symm.trans hfa;cases e;obtain⟨cdH,_,yH⟩:=qP xH;obtain⟨jD,pk,iB⟩:=qP cE.x;obtain⟨qi,xn,nZ⟩:=qP eR.x;have su:∀ {D:Addr} {cd:ClassData},clsIn K D=some cd→ed K D cd→mroIn K D (.ref bG)=some true→∃ cd,ed K D cd∧cd.mro.contains (.ref bG)=true:=λ{D cd} hc y sb=>⟨cd,y,by
  unfold mroIn at sb;rw[hc,K5,if_neg (by rw[y.ke];decide)]at sb;exact Kq sb⟩
 have m:=λ{n:Str} {v:Value} (q:nsIn K mainGlobals n=some (some v))=>mg_of X G q;obtain⟨⟨aQ,iS⟩,rA,fM⟩:=iR;obtain⟨⟨gv,xo⟩,ig,DV⟩:=xm;obtain⟨⟨uu,G8⟩,zK,JG⟩:=G6;obtain⟨⟨gA,u7⟩,jM,C7⟩:=uY;obtain⟨⟨fP,sN⟩,i8,AM⟩:=sG;obtain⟨⟨eB,pq⟩,hJ,zk⟩:=oY;obtain⟨⟨dq,mO⟩,eZ,xK⟩:=mK;obtain⟨⟨jc,yx⟩,nN,Gp⟩:=yw;obtain⟨⟨dY,mP⟩,gr,xM⟩:=mL;obtain⟨⟨d5,qI⟩,f9,zO⟩:=qE;obtain⟨⟨dr,mQ⟩,e7,xN⟩:=mM;obtain⟨⟨dI,pw⟩,fF,zq⟩:=oZ;obtain⟨⟨eC,pz⟩,hU,zr⟩:=pb;obtain⟨⟨fQ,sO⟩,gR,AN⟩:=sH;obtain⟨⟨cb,jT⟩,vd,jU⟩:=jS;obtain⟨⟨dj,pA⟩,pB,pD⟩:=pd;obtain⟨⟨dB,sP⟩,sQ,sR⟩:=sI;obtain⟨⟨cX,qJ⟩,qK,qL⟩:=qF;obtain⟨⟨aS,gL⟩,gM,gN⟩:=gK;obtain⟨⟨fR,sS⟩,i9,AO⟩:=sJ;obtain⟨⟨eD,pE⟩,hV,zt⟩:=pe;obtain⟨⟨eE,pF⟩,hW,zu⟩:=pf;obtain⟨⟨dZ,mR⟩,e9,xO⟩:=mN;obtain⟨⟨d6,qM,hcd⟩,iA,zP⟩:=qG;obtain⟨⟨eF,pG⟩,hX,zw⟩:=pj;obtain⟨⟨fc,qN⟩,dC,zQ⟩:=qH;obtain⟨⟨gB,va⟩,jN,C8⟩:=uZ;obtain⟨⟨fS,sT⟩,gS,AQ⟩:=sL;obtain⟨⟨gC,vb⟩,jO,C9⟩:=u0;obtain⟨⟨gD,vc⟩,jP,De⟩:=u6;obtain⟨⟨fT,sU⟩,ja,AR⟩:=sM;obtain⟨⟨uv,Df⟩,CT,JH⟩:=G7
 let D:Ad:=⟨bG,af,au,bh,bj,bT,cQ,bU,bo,bV,bW,bX,bY,aF,aO,ax,aQ,dR,gv,lg,uu,dE,gA,c7,fP,bL,eB,a7,dq,fi,jc,bC,dY,bS,d5,a8,dr,bA,dI,bM,eC,c9,fQ,aU,cb,bB,dj,b9,dB,bE,cX,az,aS,de,fR,bN,eD,bO,eE,bD,dZ,cy,d6,bP,eF,cz,fc,dF,gB,df,fS,dG,gC,dH,gD,dh,fT,fa,uv⟩
 have T:Txt K mg D:=⟨⟨cdH,yH⟩,m nH,m qD,⟨⟨jD,iB⟩,⟨cE.a,cE.t⟩,cE.c⟩,⟨⟨jD,iB⟩,cE.i,fM,cE.k⟩,cE.v,su pk iB cE.s,m yv,⟨⟨qi,nZ⟩,⟨eR.a,eR.t⟩,eR.c⟩,⟨⟨qi,nZ⟩,eR.i,fM,eR.k⟩,eR.v,su xn nZ eR.s,m so,m sv,m uS,m xk,m uT,m sE,m uU,m uV,m uW,m uX,m lH,cq,cu,cH,cS,cI,cv,cJ,cK,cL,cM,br,bJ,cT,eG,eI,eT,fu,eU,eJ,eV,eW,eX,eY,dy,dX,fv,m xi,⟨ij.g,ij.d,ij.o,ij.s⟩,⟨jk,xj,jU,ij.k⟩,lG,⟨mJ,pD,pB⟩,⟨qC,sR,sQ⟩,⟨oX,qL,qK⟩,⟨gG,gN,gM⟩,m xh,ig,m G5,zK,m uO,jM,m r8,i8,m oQ,hJ,m mE,eZ,m yu,nN,m mF,gr,m qz,f9,m mG,e7,m oR,fF,m oS,hU,m sg,gR,m sh,i9,m oU,hV,m oV,hW,m mI,e9,m qA,iA,m oW,hX,m qB,dC,m uP,jN,m sj,gS,m uQ,jO,m uR,jP,m sk,ja,m C6,CT,mg_none_of X G fV,mg_none_of X G fX,mg_none_of X G iu,mg_none_of X G nO,mg_none_of X G xy,mg_none_of X G zL,mg_none_of X G dD,mg_none_of X G zM,mg_none_of X G eK,mg_none_of X G gb⟩;refine⟨uv,λs v=>?_,λbase _ _ TB=>?_⟩
 ·obtain⟨_,_,_,_,_,_,_,_,_,e,_⟩:=Df.ex
  rw[e];exact .of_eq rfl
 have av:=iL (P:=l.prog) (w:=w) (mg:=mg) (base:=base) iS T;have aZ:=jF (P:=l.prog) (w:=w) (mg:=mg) (base:=base) jT T;have aX:=lX (P:=l.prog) (w:=w) (mg:=mg) (base:=base) pA T;have aD:=gF (P:=l.prog) (w:=w) (mg:=mg) (base:=base) gL T av;have aM:=qm (P:=l.prog) (w:=w) (mg:=mg) (base:=base) sP T aD;have aC:=oA (P:=l.prog) (w:=w) (mg:=mg) (base:=base) qJ T aD;have dS:=uJ (P:=l.prog) (w:=w) (mg:=mg) (base:=base) xo T;have bZ:=lq (P:=l.prog) (w:=w) (mg:=mg) (base:=base) mO T aX av;have fG:=lZ (P:=l.prog) (w:=w) (mg:=mg) (base:=base) pq T aM dS bZ av;have gT:=qr (P:=l.prog) (w:=w) (mg:=mg) (base:=base) sN T fG;have iG:=rS (P:=l.prog) (w:=w) (mg:=mg) (base:=base) u7 T gT aM;have b8:=lA (P:=l.prog) (w:=w) (mg:=mg) (base:=base) mQ T dS;have cY:=oE (P:=l.prog) (w:=w) (mg:=mg) (base:=base) qI T b8 iG;have xB:=DP (P:=l.prog) (w:=w) (mg:=mg) (base:=base) G8 T bZ aC;have cD:=mh (P:=l.prog) (w:=w) (mg:=mg) (base:=base) pw T;have fI:=mm (P:=l.prog) (w:=w) (mg:=mg) (base:=base) pz T;have eM:=qu (P:=l.prog) (w:=w) (mg:=mg) (base:=base) sO T b8;have fb:=lD (P:=l.prog) (w:=w) (mg:=mg) (base:=base) mP T cY cD;have kq:=xg (P:=l.prog) (w:=w) (mg:=mg) (base:=base) yx T cY cD aX fI xB eM aC av;have gU:=qw (P:=l.prog) (w:=w) (mg:=mg) (base:=base) sS T;have fJ:=mq (P:=l.prog) (w:=w) (mg:=mg) (base:=base) pE T;have fK:=mz (P:=l.prog) (w:=w) (mg:=mg) (base:=base) pF T fJ;have dv:=lF (P:=l.prog) (w:=w) (mg:=mg) (base:=base) mR T;have gh:=oJ (P:=l.prog) (w:=w) (mg:=mg) (base:=base) qM T hcd TB gU fK dv;have fL:=mD (P:=l.prog) (w:=w) (mg:=mg) (base:=base) pG T aZ aC;have ba:=oO (P:=l.prog) (w:=w) (mg:=mg) (base:=base) qN T aX aM;have iJ:=rW (P:=l.prog) (w:=w) (mg:=mg) (base:=base) va T;have iI:=rX (P:=l.prog) (w:=w) (mg:=mg) (base:=base) vc T;have eO:=qx (P:=l.prog) (w:=w) (mg:=mg) (base:=base) sT T fb kq;have iH:=rZ (P:=l.prog) (w:=w) (mg:=mg) (base:=base) vb T;have gW:=qy (P:=l.prog) (w:=w) (mg:=mg) (base:=base) sU T iH fL aM aC iI iJ aZ ba eO;exact(DU (P:=l.prog) (w:=w) (mg:=mg) (base:=base) Df T gh gW).g
theorem walk{l:OpenLaw}{q:Program}{loose:List Str}{XP:(Str→Option Value)→Heap→Prop}{YP:World→Heap→Prop}{d:DefRec}{K:Params→Frag}{cc Pt:Addr}(hn:l.most=some 63)(hdf:d.params.defaults=[])
  (hY:∀(w:World) (h:Heap),YP w h→(K w.params).In h∧h.get? Pt=some (tabObj #[])∧CodeHd h cc Pt) (kP:∀ w:World,(K w.params).lookup Pt=none) (F:∀(w:World) (mg:Str→Option Value) (fa:Addr) (h:Heap),(K w.params).In h→h.Ns mainGlobals mg→mg d.name=some (.ref fa) →
   ∃ fd:FuncData,(∀(s:Shared) (u:Value),BindsTo s fd ⟨[u],[]⟩ [("script",u)])∧∀ base:Heap,(K w.params).In base→base.Ns mainGlobals mg→nr (K w.params) mg base cc Pt→kT l.prog w (K w.params) mg base (CXE l.prog w) 13 fa fd ["script"] (xD (K w.params) Pt)) :
  WalkO q loose XP YP l.row.toRowW d [] (λf vs=>PySem.call f vs) :=
 L2.yc (n:=63) (k:=13) (x := "script") (CX:=λw=>CXE l.prog w) (sp:=λw=>xD (K w.params) Pt) hn (by decide) hdf ⟨rfl,by decide,by decide⟩ hY kP F (λ_ _ a ns hl hP hS=>⟨a,ns,rfl,hS,hl,hP,λ_=>rfl⟩) λ_ _ _ _ _ z=>GS z
end K42
end
section
open PySem PySem.W PyProof.Rows
set_option maxRecDepth 100000 in
set_option maxHeartbeats 0 in
theorem PySem.Challenge.cw_stillheap_k42_copies_refused_holds : PySem.Challenge.rw_stillheap_k42_copies_refused.Holds := by
 w_on;o_law
 refine holds_open (q:=K42.hQ) (loose:=K42.hLo) (Xt:=λs=>xlAt K42.hQ [] s&&recOk (RowW.records (OpenRow.toRowW (OpenLaw.row PySem.Challenge.rw_stillheap_k42_copies_refused))) s)
  (XP:=XL K42.hQ []) (Yf:=Hook.obs (kHook K42.hK K42.hAs K42.gZ)) (Ya:=Hook.val (kHook K42.hK K42.hAs K42.gZ)) (YP:=Hook.says (kHook K42.hK K42.hAs K42.gZ)) (N:=9728)
  ?hl (Hook.of (kHook K42.hK K42.hAs K42.gZ)) (Hook.keeps (kHook K42.hK K42.hAs K42.gZ))
  (λs e=>xl_of s (Bool.and_eq_true_iff.mp e).1) XL.keeps (by rfl) (by rfl) (by rfl)
  (λs e=>recFacts_of (Bool.and_eq_true_iff.mp e).2) (by rfl) (by first|assumption|decide +kernel)
  (by decide +kernel) ⟨rfl,rfl,rfl,rfl,rfl,by decide +kernel⟩ ?hw ?hc
 (case hl=>exact K42.GG)
 (case hw=>w_witness2)
 refine K42.walk (l:=PySem.Challenge.rw_stillheap_k42_copies_refused) (K:=K42.hK0) (cc:=480) (Pt:=478) rfl rfl (λw h Y=>K42.hY (PySem.W.kIn_of Y)) K42.hP0 ?F
 case F =>
  k_fill
  intro w mg fa h KX G hmg;refine' K42.all_mk (cc:=480) (Pt:=478) KX G hmg ?_ ?_ ?_ ?_ ?_ ?_ ?_ ?_ ?_ ?_ ?_ ?_ ?_ ?_ ?_ ?_ ?_ ?_ ?_ ?_ ?_ ?_ ?_ ?_ ?_ ?_ ?_ ?_ ?_ ?_ ?_ ?_ ?_ ?_ ?_ ?_ ?_ ?_ ?_ ?_ ?_ ?_ ?_ ?_ ?_ ?_ ?_ ?_ ?_ ?_ ?_ ?_ ?_ ?_ ?_ ?_ ?_ ?_ ?_ ?_ ?_ ?_ ?_ ?_ ?_ ?_ ?_ ?_ ?_ ?_ ?_ ?_ ?_ ?_ ?_ ?_ ?_ ?_ ?_ ?_ ?_ ?_ ?_ ?_ ?_ ?_ ?_ ?_ ?_ ?_ ?_ ?_ ?_ ?_ ?_ ?_ ?_ ?_ ?_ ?_ ?_ ?_ ?_ ?_ ?_ ?_ ?_ ?_ ?_ ?_ ?_ ?_ ?_ ?_ ?_ ?_ ?_ ?_ ?_ ?_ ?_
  all_goals first
   | k_is
   | (unfold K42.FI;k_is)
   | (unfold K42.NF;k_is)
   | (refine' K42.LK.mk ?la ?lb ?lc ?ld;(case la=>k_is);(case lb=>k_is);(case lc=>k_is);(case ld=>k_is))
   | (refine' K42.LC.mk ?la ?lb ?lc ?ld;(case la=>k_is);(case lb=>k_is);(case lc=>k_is);(case ld=>k_is))
   | kernel_rfl
   | (refine' K42.PK.mk ?_ ?_ ?_ ?_ ?_<;>k_is)
   | (refine' K42.EK.mk ?_ ?_ ?_ ?_ ?_ ?_ ?_ ?_<;>first|k_is|kernel_rfl)
   | skip
end
