import PyProof.Rows.All
import Wide.All
import OpenK.AllK
import Wide.FinOn
import PyProof.EqAt
import PyProof.EqKinds
import PyProof.TupleCall
import OpenK.KCls
import PyProof.ExcClass2
import PyProof.ExcBaseAll.ValueError
import PyProof.ExcArgs
import PyProof.Rows.Exc
import KE.KIsAll
import PyProof.StationsW
import PyProof.EnumFor
import PyProof.EnumStmt
import PyProof.EnumMake
import PyProof.NeKinds
import PyProof.Rows.SumAny
import KE.KDictSum
import PyProof.Rows.SortWalk
import PyProof.Rows.Range3
import PyProof.Rows.SetFrom
import KE.KEqDict
import PyProof.Rows.DictUnroll
import KE.KRevSl
import PyProof.AutoListH
import PyProof.AttrMiss
import KE.KRevIter
import PyProof.ZipIter
import PyProof.TupleIter
import PyProof.SliceStr2
import PyProof.StrWalks
import PyProof.Conv_int_bool
import PyProof.CallStr
import PyProof.TupleOfSeq
import OpenK.KTop
import PyProof.SeqI3
import Wide.Seal
import KE.KIntText
import PyProof.StrLawsTight
import PyProof.StrLawsChain
import PyProof.Rows.ReprOcc
import KE.IntBitsLaws
import PyProof.StrLawsIn
import PyProof.Draws
import PySem.Challenge.RW_stillheap_k27_whole_lists_added_up
set_option Elab.async false
set_option linter.all false
set_option maxRecDepth 100000
set_option maxHeartbeats 4000000
set_option exponentiation.threshold 4000
local macro_rules|`(#[$x,*])=>`(⟨$x,*⟩)
local macro_rules|`(#[])=>`(List.toArray [])
section
open PySem PySem.W PySem.Spec PyProof.Rows
noncomputable def NI:=@List.length_map
noncomputable def NJ:=@List.getElem?_eq_getElem
noncomputable def NK:=@List.getElem?_eq_some_iff
noncomputable def NL:=@Heap.get?_push_of_some
noncomputable def NN:=@List.mem_singleton
noncomputable def NO:=@Nat.le_refl
noncomputable def NQ:=@Bool.false_ne_true
noncomputable def NS:=@List.mem_append_right
noncomputable def NT:=@Heap.lt_size
noncomputable def NU:=@List.size_toArray
noncomputable def NV:=@List.mem_cons_self
noncomputable def NW:=@Nat.le_trans
noncomputable def NX:=@List.length_append
noncomputable def NY:=@List.mem_cons
noncomputable def NZ:=@List.take_of_length_le
noncomputable def N0:=@List.getElem?_map
noncomputable def N9:=@List.map_append
noncomputable def Oa:=@List.mem_cons_of_mem
noncomputable def Ob:=@List.take_succ_eq_append_getElem
noncomputable def Oc:=@Heap.get?_push_size
noncomputable def Od:=@Nat.lt_of_lt_of_le
noncomputable def Oe:=@Nat.ne_of_lt
noncomputable def Of:=@List.mem_of_getElem?
noncomputable def Og:=@List.mem_map
noncomputable def Oh:=@Option.some.inj
noncomputable def Oi:=@List.length_cons
noncomputable def Oj:=@Ne.symm
noncomputable def Ol:=@Option.map_eq_some_iff
noncomputable def Om:=@List.mem_append
noncomputable def Oo:=@List.map_cons
noncomputable def Oq:=@List.length_take
noncomputable def Ot:=@List.mem_append_left
noncomputable def Ou:=@Array.getElem?_eq_some_iff
noncomputable def Ov:=@Array.length_toList
noncomputable def Ow:=@Nat.lt_of_le_of_lt
noncomputable def Ox:=@List.getElem?_append_right
noncomputable def Oy:=@Nat.zero_le
noncomputable def Oz:=@PySem.mem_of_lookup
noncomputable def OA:=@PassesOwn.never
noncomputable def OB:=@List.getElem_mem
noncomputable def OC:=@List.getElem?_append_left
noncomputable def OD:=@List.map_map
noncomputable def OE:=@Heap.get?_update_other
noncomputable def OF:=@Int.le_refl
noncomputable def OG:=@Bool.false_eq_true
noncomputable def OH:=@List.mem_filter
noncomputable def OI:=@Heap.size_push
noncomputable def OJ:=@List.mem_filterMap
noncomputable def OK:=@Bool.eq_iff_iff
noncomputable def OL:=@Option.map_some
noncomputable def OM:=@List.not_mem_nil
noncomputable def ON:=@List.map_congr_left
noncomputable def OP:=@List.eq_of_mem_replicate
noncomputable def OQ:=@Nat.lt_irrefl
noncomputable def OR:=@List.append_nil
noncomputable def OS:=@Bool.and_eq_true
noncomputable def OT:=@List.replicate_succ
noncomputable def OU:=@Bool.eq_false_iff
noncomputable def OV:=@List.length_singleton
noncomputable def OW:=@Nat.le_succ
noncomputable def OX:=@Nat.ne_of_gt
noncomputable def OY:=@List.filter_congr
noncomputable def OZ:=@List.nodup_append
noncomputable def O0:=@List.getD_eq_getElem?_getD
noncomputable def O1:=@List.all_eq_true
noncomputable def O2:=@List.lookup_cons
noncomputable def O3:=@List.take_length
noncomputable def O4:=@List.take_zero
noncomputable def O5:=@List.length_set
noncomputable def O6:=@List.append_assoc
noncomputable def O7:=@Option.isSome_map
noncomputable def O8:=@List.range_succ
noncomputable def O9:=@List.filter_sublist
noncomputable def Pa:=@List.nodup_cons
noncomputable def Pb:=@List.find?_cons
noncomputable def Pc:=@List.length_filter_le
noncomputable def Pd:=@List.filterMap_append
noncomputable def Pe:=@Nat.lt_or_ge
noncomputable def Pf:=@List.Pairwise.sublist
noncomputable def Ph:=@StrLaws.glued_eq_join
noncomputable def Pj:=@List.flatten_cons
noncomputable def Pk:=@List.drop_eq_getElem_cons
noncomputable def Pl:=@Classical.byContradiction
noncomputable def Pn:=@List.mem_or_eq_of_mem_set
noncomputable def Po:=@List.mem_flatMap
noncomputable def Pp:=@Option.isSome_iff_exists
noncomputable def Pq:=@List.map_nil
noncomputable def Pr:=@List.any_cons
noncomputable def Pu:=@List.pairwise_singleton
noncomputable def Pw:=@Nat.lt_succ_of_lt
noncomputable def Px:=@List.mem_range
noncomputable def Py:=@Bool.and_false
noncomputable def Pz:=@Heap.get?_update_self
noncomputable def PB:=@List.mem_iff_getElem?
noncomputable def PD:=@List.take_append_drop
noncomputable def PH:=@List.length_drop
noncomputable def PJ:=@Option.getD_none
noncomputable def PK:=@List.zipIdx_cons
noncomputable def PL:=@List.getElem?_set_ne
noncomputable def PM:=@List.pairwise_append
noncomputable def PN:=@List.of_mem_zip
noncomputable def PQ:=@Nat.add_le_add_left
noncomputable def PR:=@List.forIn_cons
noncomputable def PU:=@Heap.SameBut.update
noncomputable def PV:=@Nat.not_lt_zero
noncomputable def PX:=@Array.toList_append
noncomputable def PY:=@Calls.Name_function_global
noncomputable def PZ:=@Nat.le_of_lt
noncomputable def P0:=@List.take_sublist
noncomputable def P1:=@List.flatMap_cons
noncomputable def P8:=@Nat.lt_succ_self
noncomputable def P9:=@List.cons_append
noncomputable def Qa:=@Option.getD_some
noncomputable def Qb:=@List.foldl_cons
noncomputable def Qc:=@List.filter_map
noncomputable def Qd:=@Nat.sub_self
noncomputable def Qe:=@List.length_zip
end
section
namespace L2
open PySem PySem.Spec PyProof.Rows
noncomputable abbrev Key:=Sum Int Str
noncomputable def gU:Key→Value→Bool
  | .inl k,v=>Value.isInt k v
  | .inr x,v=>Value.isStrOf x v
noncomputable def Kl(w:World):Key→Int
  | .inl k=>hashInt k
  | .inr x=>hashStr w x
theorem aW:∀ {k:Key} {v:Value},gU k v=true→(∃ i t,k=Sum.inl i∧v=Value.int i t)∨(∃ x t,k=Sum.inr x∧v=Value.str x t)
  | .inl i,v,h=>by
    obtain⟨t,e⟩:=Value.isInt_shape (k:=i) (v:=v) h;exact .inl #[i,t,rfl,e]
  | .inr x,v,h=>by
    obtain⟨t,e⟩:=Value.isStrOf_shape (x:=x) (v:=v) h;exact .inr #[x,t,rfl,e]
theorem yh(i:Int)(t:Tok):gU (.inl i) (.int i t)=true:=by simp[gU,Value.isInt]
theorem yi(x:Str)(t:Tok):gU (.inr x) (.str x t)=true:=by simp[gU,Value.isStrOf]
theorem ET(a b:Int):decide ((Sum.inl a:Key)=Sum.inl b)=(a == b):=by
  by_cases e:a=b
  . subst e;simp
  . have h:¬(Sum.inl a:Key)=Sum.inl b:=λq=>e (Sum.inl.inj q)
    rw[decide_eq_false h];exact(beq_eq_false_iff_ne.mpr e).symm
theorem EU(a b:Str):decide ((Sum.inr a:Key)=Sum.inr b)=decide (a=b):=by
  by_cases e:a=b
  . subst e;simp
  . have h:¬(Sum.inr a:Key)=Sum.inr b:=λq=>e (Sum.inr.inj q)
    rw[decide_eq_false h,decide_eq_false e]
theorem EV(a:Int)(b:Str):decide ((Sum.inl a:Key)=Sum.inr b)=false:=decide_eq_false (λq=>nomatch q)
theorem EW(a:Str)(b:Int):decide ((Sum.inr a:Key)=Sum.inl b)=false:=decide_eq_false (λq=>nomatch q)
noncomputable def a7(prog:Program)(w:World):PySem.KeyKind prog w Key where
  is:=gU
  hash:=Kl w
  inj:=λv a b ha hb=>by
    rcases aW ha with⟨i,t,rfl,rfl⟩|⟨x,t,rfl,rfl⟩
    . rcases aW hb with⟨j,u,rfl,e⟩|⟨y,u,rfl,e⟩
      . injection e with e1 _;rw[e1]
      . exact nomatch e
    . rcases aW hb with⟨j,u,rfl,e⟩|⟨y,u,rfl,e⟩
      . exact nomatch e
      . injection e with e1 _;rw[e1]
  byValue:=λk v h=>by
    rcases aW h with⟨i,t,rfl,rfl⟩|⟨x,t,rfl,rfl⟩<;>rfl
  pyHash:=λhv h=>by
    rcases aW hv with⟨i,t,rfl,rfl⟩|⟨x,t,rfl,rfl⟩
    . exact wpAny_pyHash_int h
    . exact wpAny_pyHash_str h
  eqBool:=λhu hv h=>by
    rcases aW hu with⟨i,t,rfl,rfl⟩|⟨x,t,rfl,rfl⟩
    . rcases aW hv with⟨j,u,rfl,rfl⟩|⟨y,u,rfl,rfl⟩
      . rw[ET]at h;exact wpAny_eqBool_int h
      . rw[EV]at h;exact SeqAt.EqAt.int_str i t y u _ _ _ _ h
    . rcases aW hv with⟨j,u,rfl,rfl⟩|⟨y,u,rfl,rfl⟩
      . rw[EW]at h;exact SeqAt.EqAt.str_int x t j u _ _ _ _ h
      . rw[EU]at h;exact wpAny_eqBool_str h
  «strs» := λk x t v h=>by
    rcases aW h with⟨i,u,rfl,e⟩|⟨y,u,rfl,e⟩
    . exact nomatch e
    . injection e with e1 _
      subst e1;cases v<;>rfl
theorem tX(prog:Program)(w:World)(i:Int)(t:Tok):(a7 prog w).is (.inl i) (.int i t)=true:=yh i t
theorem tY(prog:Program)(w:World)(x:Str)(t:Tok):(a7 prog w).is (.inr x) (.str x t)=true:=yi x t
end L2
namespace L2
open PySem PySem.Spec PyProof.Rows
inductive V where
  | non|bl (b:Bool)|int (i:Int)|str (x:Str)|byt (b:Array UInt8)|flt (b:UInt64)|ref (a:Addr)|ty (n:String)
  deriving DecidableEq
noncomputable def RelV:V→Value→Prop
  | .non,u=>u=Value.none
  | .bl b,u=>u=Value.bool b
  | .int i,u=>∃ t,u=Value.int i t
  | .str x,u=>∃ t,u=Value.str x t
  | .byt b,u=>∃ t,u=Value.bytes b t
  | .flt b,u=>∃ t,u=Value.float b t
  | .ref a,u=>u=Value.ref a
  | .ty n,u=>u=Value.type n
noncomputable abbrev Vals:List V→List Value→Prop:=Paired RelV
theorem Vals.length{xs:List V}{us:List Value}(r:Vals xs us):xs.length=us.length:=Paired.length r
theorem Vals.get:∀ {xs:List V} {us:List Value} {i:Nat} {x:V},Vals xs us→xs[i]?=some x→∃ u,us[i]?=some u∧RelV x u
  | _,_,_,_,.nil,e=>by simp at e
  | _,_,0,_,.cons r _,e=>by simp at e;subst e;exact#[_,rfl,r]
  | _,_,i+1,x,.cons _ t,e=>by
    obtain⟨u,h1,h2⟩:=Vals.get (i:=i) (x:=x) t (by simpa using e);exact#[u,by simpa using h1,h2]
theorem Vals.set{x:V}{u:Value}(r:RelV x u):∀ {xs:List V} {us:List Value} (i:Nat),Vals xs us→Vals (xs.set i x) (us.set i u)
  | _,_,_,.nil=>.nil
  | _,_,0,.cons _ t=>.cons r t
  | _,_,i+1,.cons q t=>.cons q (Vals.set r i t)
theorem Vals.append:∀ {xs ys:List V} {us ws:List Value},Vals xs us→Vals ys ws→Vals (xs++ys) (us++ws)
  | _,_,_,_,.nil,s=>s
  | _,_,_,_,.cons r t,s=>.cons r (Vals.append t s)
theorem Vals.take:∀ {xs:List V} {us:List Value} (n:Nat),Vals xs us→Vals (xs.take n) (us.take n)
  | _,_,0,_=>.nil
  | _,_,_+1,.nil=>.nil
  | _,_,n+1,.cons r t=>.cons r (Vals.take n t)
theorem Vals.drop:∀ {xs:List V} {us:List Value} (n:Nat),Vals xs us→Vals (xs.drop n) (us.drop n)
  | _,_,0,r=>r
  | _,_,_+1,.nil=>.nil
  | _,_,n+1,.cons _ t=>Vals.drop n t
noncomputable def lC:Option V→Option Value→Prop
  | some v,some u=>RelV v u
  | none,none=>True
  | _,_=>False
noncomputable def KV{κ:Type}:List (κ×V)→List (κ×Value)→Prop:=Paired λ(p:κ×V) (q:κ×Value)=>p.1=q.1∧RelV p.2 q.2
noncomputable def kV:Key→V
  | .inl i=>.int i
  | .inr x=>.str x
inductive HO where
  | lst (xs:List V)
  | tup (xs:List V)
  | dK (kvs:List (Key×V))|dT (kvs:List (List Key×V))
  | set (S:Int→Bool) (n:Nat)
  | ins (C dx:Addr) (fs:List (Str×V))
  | own (x:Addr)
  | xd (fs:List (Str×V))
  | met (f x:Addr)
  | rng (lo hi:Int)
  | frz (o:Obj) (u:HO)
  | tbl (ps:Array Value)
  | ext (φ:Heap→Prop)
noncomputable abbrev Hp:=Addr→Option HO
noncomputable def upd(H:Hp)(a:Addr)(o:HO):Hp:=λb=>if b=a then some o else H b
theorem ae{H:Hp}{a:Addr}{o:HO}:upd H a o a=some o:=by unfold upd;rw[if_pos rfl]
theorem ab{H:Hp}{a b:Addr}{o:HO}(h:b≠a):upd H a o b=H b:=by unfold upd;rw[if_neg h]
theorem av{H:Hp}{a b:Addr}{o u:HO}(h:H a=some o)(h':H b=some u)(d:o≠u):a≠b:=by
  intro e;subst e;rw[h]at h';exact d (Oh h')
theorem aj{H:Hp}{a b:Addr}{o:HO}(h:H a=some o)(h':H b=none):a≠b:=by
  intro e;subst e;rw[h]at h';cases h'
section
variable(P:Program)(w:World)
noncomputable def bT(H:Hp)(h:Heap)(a:Addr):HO→Prop
  | .lst xs=>xs.length≤sizeLine∧∃(its:List Value) (n:Nat),Vals xs its∧h.get? a=some {cls:=.type "list",data:=.seq its.toArray n}
  | .tup xs=>xs.length≤sizeLine∧∃ its:List Value,Vals xs its∧IsTup h a its.toArray
  | .dK kvs=>kvs.length≤sizeLine∧(a == sysModules)=false∧∃ vs,KV kvs vs∧h.DictOf (a7 P w) a vs
  | .dT kvs=>kvs.length≤sizeLine∧(a == sysModules)=false∧∃ xs:List (List Key×Addr×Value),
      Paired (λ(p:List Key×V) (q:List Key×Addr×Value)=>p.1=q.1∧H q.2.1=some (.tup (p.1.map kV))∧RelV p.2 q.2.2) kvs xs ∧
      ∃ o es ep,h.get? a=some o∧o.ExactDict∧o.data=.dict es ep∧es.toList=xs.map (entryOfKey (tupleKind (a7 P w)))∧(xs.map (·.1)).Nodup
  | .set S n=>h.SetOf (intKind P w) a S n
  | .ins C dx fs=>H dx=some (.own a)∧fs.length≤1000∧dx≠a∧h.get? a=some (PySem.W.instObj C dx) ∧
      ∃ mA,h.Ns1 dx mA∧(∀ f,lC (fs.lookup f) (mA f))∧PySem.Within mA (fs.map (·.1))
  | .own _=>∃ o,h.get? a=some o
  | .xd fs=>∃ mA,h.Ns1 a mA∧∀ f,lC (fs.lookup f) (mA f)
  | .rng lo hi=>∃ t u v,h.get? a=some {cls:=.type "range",data:=.fields (List.toArray [.int lo t,.int hi u,.int 1 v])}
  | .frz o u=>h.get? a=some o∧bT H h a u
  | .tbl ps=>h.get? a=some {cls:=.none,data:=.fields ps}
  | .met f x=>h.get? a=some (PySem.W.methodObj (.ref f) (.ref x))
  | .ext φ=>φ h∧(∃ o,h.get? a=some o)∧∀ h1 h2:Heap,φ h1→(∀ o,h1.get? a=some o→h2.get? a=some o)→φ h2
noncomputable def HOk(H:Hp)(h:Heap):Prop:=∀ a o,H a=some o→bT P w H h a o
end
section
variable{P:Program}{w:World}{H H':Hp}{h h':Heap}{a:Addr}{o:HO}
theorem bT.lt(x:bT P w H h a o):a<h.objs.size:=by
  cases o with
  | lst xs=>obtain⟨_,_,_,_,e⟩:=x;exact NT e
  | tup xs=>obtain⟨_,_,_,p⟩:=x;exact p.lt
  | dK kvs=>obtain⟨_,_,_,_,o,_,_,e,_⟩:=x;exact NT e
  | dT kvs=>obtain⟨_,_,_,_,o,_,_,e,_⟩:=x;exact NT e
  | set S n=>obtain⟨o,_,_,_,e,_⟩:=x;exact NT e
  | ins C dx fs=>obtain⟨_,_,_,e,_⟩:=x;exact NT e
  | own y=>obtain⟨_,e⟩:=x;exact NT e
  | xd fs=>obtain⟨_,⟨_,_,_,e,_⟩,_⟩:=x;exact NT e
  | rng lo hi=>obtain⟨_,_,_,e⟩:=x;exact NT e
  | frz ob u=>obtain⟨e,_⟩:=x;exact NT e
  | tbl ps=>exact NT (show h.get? a=some _ from x)
  | met f y=>exact NT (show h.get? a=some _ from x)
  | ext φ=>obtain⟨_,⟨_,e⟩,_⟩:=x;exact NT e
theorem Paired.Gp{α β:Type}{F G:α→β→Prop}:∀ {l₁:List α} {l₂:List β},Paired F l₁ l₂→(∀ a b,F a b→G a b)→Paired G l₁ l₂
  | _,_,.nil,_=>.nil
  | _,_,.cons r t,f=>.cons (f _ _ r) (Paired.Gp t f)
theorem bT.oJ(x:bT P w H h a o)(k:∀ b u,(b=a∨H b=some (.own a))→h.get? b=some u→h'.get? b=some u)
    (ho:∀ b,H b=some (.own a)→H' b=some (.own a)) (ht:∀ b xs,H b=some (.tup xs)→H' b=some (.tup xs)):bT P w H' h' a o:=by
  induction o with
  | lst xs=>obtain⟨z,its,n,r,e⟩:=x;exact#[z,its,n,r,k _ _ (.inl rfl) e]
  | tup xs=>obtain⟨z,its,r,ob,e,c⟩:=x;exact#[z,its,r,ob,k _ _ (.inl rfl) e,c]
  | dK kvs=>obtain⟨z,y,vs,r,ob,es,ep,e,c⟩:=x;exact#[z,y,vs,r,ob,es,ep,k _ _ (.inl rfl) e,c]
  | dT kvs =>
    obtain⟨z,y,xs,r,ob,es,ep,e,c⟩:=x;exact#[z,y,xs,Paired.Gp r λp q z=>#[z.1,ht _ _ z.2.1,z.2.2],ob,es,ep,k _ _ (.inl rfl) e,c]
  | set S n=>obtain⟨ob,es,ep,t,e,c⟩:=x;exact#[ob,es,ep,t,k _ _ (.inl rfl) e,c]
  | ins C dx fs =>
    obtain⟨d,z,ne,e,mA,⟨od,es,ep,e2,c⟩,r⟩:=x;exact#[ho _ d,z,ne,k _ _ (.inl rfl) e,mA,#[od,es,ep,k _ _ (.inr d) e2,c],r]
  | own y=>obtain⟨ob,e⟩:=x;exact#[ob,k _ _ (.inl rfl) e]
  | xd fs=>obtain⟨mA,⟨od,es,ep,e,c⟩,r⟩:=x;exact#[mA,#[od,es,ep,k _ _ (.inl rfl) e,c],r]
  | rng lo hi=>obtain⟨t,u,v,e⟩:=x;exact#[t,u,v,k _ _ (.inl rfl) e]
  | frz ob u ih=>obtain⟨e,q⟩:=x;exact#[k _ _ (.inl rfl) e,ih q]
  | tbl ps =>
    have e:h.get? a=some {cls:=.none,data:=.fields ps}:=x;show h'.get? a=some {cls:=.none,data:=.fields ps};exact k a _ (.inl rfl) e
  | met f y =>
    have e:h.get? a=some (PySem.W.methodObj (.ref f) (.ref y)):=x;show h'.get? a=some (PySem.W.methodObj (.ref f) (.ref y));exact k a _ (.inl rfl) e
  | ext φ=>obtain⟨p,⟨o,e⟩,st⟩:=x;exact#[st _ _ p λo q=>k _ _ (.inl rfl) q,#[o,k _ _ (.inl rfl) e],st]
theorem HOk.lt(x:HOk P w H h)(e:H a=some o):a<h.objs.size:=(x a o e).lt
theorem HOk.fresh(x:HOk P w H h)(e:h.objs.size≤a):H a=none:=by
  cases q:H a with
  | none=>rfl
  | some u=>exact absurd (Od (x.lt q) e) (OQ _)
theorem HOk.kept(x:HOk P w H h)(k:∀ b u,h.get? b=some u→h'.get? b=some u):HOk P w H h':=λa o e =>
  (x a o e).oJ (λb u _ q=>k b u q) (λ_ q=>q) λ_ _ q=>q
theorem HOk.laid(x:HOk P w H h)(k:∀ b u,h.get? b=some u→h'.get? b=some u)(hp:h.objs.size≤a)(new:bT P w (upd H a o) h' a o):HOk P w (upd H a o) h':=λb u e=>by
  have hn:=x.fresh hp;by_cases hb:b=a
  . subst hb;rw[ae]at e;cases e;exact new
  . rw[ab hb]at e
    exact(x b u e).oJ (λc v _ q=>k c v q) (λc q=>by rw[ab (aj q hn)];exact q) λc xs q=>by rw[ab (aj q hn)];exact q
end
noncomputable def Rd(H:Hp)(a:Addr)(u:HO):Prop:=H a=some u∨∃ o,H a=some (.frz o u)
theorem Rd.ok{P:Program}{w:World}{H:Hp}{h:Heap}{a:Addr}{u:HO}(r:Rd H a u)(x:HOk P w H h):bT P w H h a u:=by
  rcases r with r|⟨o,r⟩
  . exact x a u r
  . obtain⟨_,q⟩:=x a _ r
    exact q
noncomputable def Mut:Option HO→Prop
  | some (.lst _)=>True
  | some (.dK _)=>True
  | some (.dT _)=>True
  | some (.set _ _)=>True
  | some (.ins _ _ _)=>True
  | some (.ext _)=>True
  | _=>False
section
variable{P:Program}{w:World}{H:Hp}{h h':Heap}{x e:Addr}{o':HO}
theorem HOk.write(ok:HOk P w H h)(mu:Mut (H x))(he:e=x∨H e=some (.own x))(k:∀ b u,b≠e→h.get? b=some u→h'.get? b=some u)(heo:∃ u,h'.get? e=some u)
    (new:bT P w (upd H x o') h' x o'):HOk P w (upd H x o') h':=λb u q=>by
  have Km:∀ c y,H c=some (.own y)→c≠x:=λc y r z=>by subst z;rw[r]at mu;exact mu
  have K6:∀ c xs,H c=some (.tup xs)→c≠x:=λc xs r z=>by subst z;rw[r]at mu;exact mu
  by_cases hb:b=x
  . subst hb;rw[ae]at q;cases q;exact new
  . rw[ab hb]at q
    by_cases hbe:b=e
    . have q':H b=some (.own x):=by
        rcases he with z|z
        . exact absurd (hbe.trans z) hb
        . rw[hbe];exact z
      rw[q]at q';cases q';obtain⟨v,hv⟩:=heo;exact#[v,by rw[hbe];exact hv]
    . refine(ok b u q).oJ (λc v hc r=>k c v ?_ r) (λc r=>by rw[ab (Km c b r)];exact r) λc xs r=>by rw[ab (K6 c xs r)];exact r
      rcases hc with rfl|hc
      . exact hbe
      . rintro rfl
        rcases he with z|z
        . exact Km c b hc z
        . rw[hc]at z;cases z;exact hb rfl
end
structure Un(fs ex:List Addr)(H H':Hp)(h h':Heap):Prop where
  keep:∀ b o,h.get? b=some o→H b=none→b∉fs→b∉ex→h'.get? b=some o
  slot:∀ b o,h.get? b=some o→H b=none→b∈fs→b∉ex→∃ sl,h'.get? b=some {o with slots:=sl}
  free:∀ b o,h.get? b=some o→H b=none→b∉ex→H' b=none
  there:∀ b o,h.get? b=some o→b∉ex→∃ o',h'.get? b=some o'
  oK:∀ b xs,H b=some (.tup xs)→H' b=some (.tup xs)
  nV:∀ b o u,H b=some (.frz o u)→H' b=some (.frz o u)
  oO:∀ b ps,H b=some (.tbl ps)→∃ more,H' b=some (.tbl (ps++more))
section
variable{fs fs' ex ex':List Addr}{H H1 H2:Hp}{h h1 h2 h':Heap}{a x e:Addr}{o:HO}
theorem Un.any(u:Un fs ex H H1 h h1){b:Addr}{ob:Obj}(q:h.get? b=some ob)(n:H b=none)(hx:b∉ex):∃ sl,h1.get? b=some {ob with slots:=sl}:=by
  by_cases hb:b∈fs
  . exact u.slot b ob q n hb hx
  . exact#[ob.slots,u.keep b ob q n hb hx]
theorem Un.kept(k:∀ b u,h.get? b=some u→h'.get? b=some u):Un fs ex H H h h' :=
  #[λb ob q _ _ _=>k b ob q,λb ob q _ _ _=>#[ob.slots,k b ob q],λ_ _ _ n _=>n,λb ob q _=>#[ob,k b ob q],λ_ _ q=>q,λ_ _ _ q=>q,λ_ ps q=>#[#[],by rw[q];simp]]
theorem Un.refl:Un fs ex H H h h:=Un.kept λ_ _ q=>q
theorem Un.laid(k:∀ b u,h.get? b=some u→h'.get? b=some u)(hp:h.objs.size≤a)(hn:H a=none):Un fs ex H (upd H a o) h h' where
  keep:=λb u q _ _ _=>k b u q
  slot:=λb u q _ _ _=>#[u.slots,k b u q]
  free:=λb u q n _=>by rw[ab (Oe (Od (NT q) hp))];exact n
  there:=λb u q _=>#[u,k b u q]
  oK:=λb xs q=>by rw[ab (aj q hn)];exact q
  nV:=λb u xs q=>by rw[ab (aj q hn)];exact q
  oO:=λb ps q=>#[#[],by rw[ab (aj q hn),q];simp]
theorem Un.write(mu:Mut (H x))(he:e=x∨H e=some (.own x))(k:∀ b u,b≠e→h.get? b=some u→h'.get? b=some u)(heo:∃ u,h'.get? e=some u):Un fs ex H (upd H x o) h h':=by
  have hx:∀ b,H b=none→b≠x:=λb n z=>by subst z;rw[n]at mu;exact mu
  have hb:∀ b,H b=none→b≠e:=λb n z=>by
    subst z;rcases he with r|r
    . exact hx b n r
    . rw[n]at r;cases r
  have hm:∀ b u,H b=some u→¬Mut (some u)→b≠x:=λb u q nm z=>by subst z;rw[q]at mu;exact nm mu
  refine#[λb u q n _ _=>k b u (hb b n) q,λb u q n _ _=>#[u.slots,k b u (hb b n) q],λb u q n _=>by rw[ab (hx b n)];exact n,λb u q _=>?_,
    λb xs q=>by rw[ab (hm b _ q λz=>z)];exact q,λb u xs q=>by rw[ab (hm b _ q λz=>z)];exact q,λb ps q=>#[#[],by rw[ab (hm b _ q λz=>z),q];simp]]
  by_cases hbe:b=e
  . subst hbe;exact heo
  . exact#[u,k b u hbe q]
end
noncomputable def trk(h:Heap)(H:Hp):List Addr:=(List.range h.objs.size).filter λa=>(H a).isSome
noncomputable def vp(h:Heap)(H:Hp):Heap:=PySem.W.hideAll h (trk h H)
theorem yj(h:Heap)(H:Hp):(vp h H).objs.size=h.objs.size:=PySem.W.hideAll_size _ _
theorem Ab{h:Heap}{H:Hp}{b:Addr}{o:Obj}(e:h.get? b=some o)(n:H b=none):(vp h H).get? b=some o :=
  PySem.W.hideAll_get _ e λhm=>by
    have q:(H b).isSome=true:=(OH.mp hm).2;rw[n]at q;simp at q
theorem CY{h:Heap}{H:Hp}{b:Addr}{o:Obj}(e:(vp h H).get? b=some o):h.get? b=some o∧H b=none:=by
  have e':h.get? b=some o:=PySem.W.of_hideAll (trk h H) e;refine#[e',?_];cases q:H b with
  | none=>rfl
  | some x =>
    have hm:b∈trk h H:=OH.mpr #[Px.mpr (NT e'),by simp[q]];have z:(vp h H).get? b=none:=PySem.W.hideAll_none (trk h H) hm;rw[z]at e;cases e
end L2
namespace L2
open PySem PySem.Spec PyProof.Rows
structure Mod(K:W.Frag)(mg:Str→Option Value)(base:Heap):Prop where
  kin:K.In base
  glob:base.Ns mainGlobals mg
  blt:∃ mb,base.Ns builtinsNs mb∧∀ x:Str,x ≠ "__name__" → mb x=bootBuiltins x
  nolimit:base.NoLimit
structure Cx where
  prog:Program
  w:World
  K:W.Frag
  mg:Str→Option Value
  base:Heap
  A:Around
  N:List Str
  s₀:Shared
  H₀:Hp
  env:Env
  outer:List Env
  stack:List Env
  ex:List Addr
  fn:Str→Bool
  calm:Bool
  pn:List (Addr×Obj)
  xe:Value→Shared→Prop
noncomputable def frs(l:List Env):List Addr:=l.filterMap (·.frame)
noncomputable abbrev Cx.fs(X:Cx):List Addr:=frs X.outer
noncomputable def Vis(sc:Scope)(x:Str):Prop:=sc.names.lookup x=some .local∨sc.names.lookup x=some .cell∨sc.names.lookup x=some .free
noncomputable def Loc(sc:Scope)(x:Str):Prop:=sc.names.lookup x=some .local∨sc.names.lookup x=some .cell
noncomputable def Look(env:Env)(h:Heap)(m:Str→Option Value)(x:Str)(u:Value):Prop :=
  (env.kindOf x=some .local∧m x=some u)∨((env.kindOf x=some .cell∨env.kindOf x=some .free)∧∃ c,env.cells.lookup x=some c∧h.IsCell c (some u))
structure Cx.Ok(X:Cx):Prop where
  mod:Mod X.K X.mg X.base
  kind:X.env.scope.kind=.function
  glob:X.env.globals=mainGlobals
  blt:X.env.builtins=builtinsNs
  above:X.s₀.heap.objs.size≤X.env.locals
  inj:∀ x y c,X.env.cells.lookup x=some c→X.env.cells.lookup y=some c→x=y
  has:∀ x,(X.env.kindOf x=some .cell∨X.env.kindOf x=some .free)→∃ c,X.env.cells.lookup x=some c
  cab:∀ x c,X.fn x=true→X.env.cells.lookup x=some c→X.s₀.heap.objs.size≤c
  hd:X.calm=true→X.A.handled=none
  frames:X.A.frames=some X.stack
  stk:X.stack=X.outer∨(X.stack=X.env::X.outer∧X.env.frame=some X.env.locals)
  exf:∀ b∈X.ex,b≠X.env.locals∧∀ x c,X.env.cells.lookup x=some c→c≠b
  bs:∀ b o,X.base.get? b=some o→X.s₀.heap.get? b=some o∧X.H₀ b=none
  bsz:X.base.objs.size≤X.s₀.heap.objs.size
  uz:∀ b o,X.base.get? b=some o→b∉X.ex
  xh:∀ b∈X.ex,b∉X.fs
  lD:X.s₀.heap.FunFrames X.base X.outer
  frf:∀ b∈X.fs,X.H₀ b=none
structure Inv(X:Cx)(pins:List (Addr×Obj))(σ:List (Option V))(H:Hp)(s:Shared):Prop where
  ok:X.Ok
  os:s.os=X.s₀.os
  bare:AllBare s.gens
  base:Un X.fs X.ex X.H₀ H X.s₀.heap s.heap
  loc:∃ m,s.heap.Ns X.env.locals m∧∀(i:Nat) (x:Str) (v:V),X.N[i]?=some x→σ[i]?=some (some v)→Vis X.env.scope x→∃ u,RelV v u∧Look X.env s.heap m x u
  cell:∀ x c,X.env.cells.lookup x=some c→∃ v,s.heap.IsCell c v
  free:H X.env.locals=none
  dc:∀ x c,X.env.cells.lookup x=some c→H c=none
  pin:∀ p∈X.pn++pins,s.heap.get? p.1=some p.2∧H p.1=none∧p.1≠X.env.locals∧p.1∉X.fs∧∀ v,p.2.data≠.cell v
  hok:HOk X.prog X.w H s.heap
  len:σ.length=X.N.length
section
variable{X:Cx}{pins:List (Addr×Obj)}{σ:List (Option V)}{H H':Hp}{s:Shared}{h':Heap}
theorem Cx.Ok.K7(ok:X.Ok){b:Addr}{o:Obj}(e:X.base.get? b=some o):b∉X.fs:=λhb=>by
  have:=(ok.lD.mem hb).1
  rw[e]at this;cases this
theorem Inv.bs(I:Inv X pins σ H s):∀ b o,X.base.get? b=some o→s.heap.get? b=some o∧H b=none:=λb o e =>
  #[I.base.keep b o (I.ok.bs b o e).1 (I.ok.bs b o e).2 (I.ok.K7 e) (I.ok.uz b o e),I.base.free b o (I.ok.bs b o e).1 (I.ok.bs b o e).2 (I.ok.uz b o e)]
theorem Inv.bk(I:Inv X pins σ H s):∀ b o,X.base.get? b=some o→s.heap.get? b=some o:=λb o e=>(I.bs b o e).1
theorem Inv.mod(I:Inv X pins σ H s):Mod X.K X.mg X.base:=I.ok.mod
theorem Inv.kIn(I:Inv X pins σ H s):X.K.In s.heap:=I.ok.mod.kin.keeps I.bk
theorem Inv.lt(I:Inv X pins σ H s):X.env.locals<s.heap.objs.size:=let ⟨_,hn,_⟩:=I.loc;hn.lt
theorem Inv.sz(I:Inv X pins σ H s):X.s₀.heap.objs.size≤s.heap.objs.size:=NW I.ok.above (PZ I.lt)
theorem Inv.K8(I:Inv X pins σ H s){a:Addr}(h:s.heap.objs.size≤a):a∉X.fs:=λhb=>by
  obtain⟨_,o,ho,_⟩:=I.ok.lD.mem hb;exact absurd (Od (NT ho) (NW I.sz h)) (OQ _)
theorem Inv.cne(I:Inv X pins σ H s):∀ x c,X.env.cells.lookup x=some c→c≠X.env.locals:=λx c e z=>by
  obtain⟨v,o,ho,hd⟩:=I.cell x c e;obtain⟨m,⟨o',es,ep,ho',hd',_⟩,_⟩:=I.loc;rw[z,ho']at ho;cases ho;rw[hd']at hd;cases hd
theorem Inv.lD(I:Inv X pins σ H s):s.heap.FunFrames X.base X.outer:=by
  have all:∀(l:List Env),(∀ b∈frs l,b∈X.fs)→X.s₀.heap.FunFrames X.base l→s.heap.FunFrames X.base l:=by
    intro l;induction l with
    | nil=>intro _ _;trivial
    | cons env r ih =>
      intro hs hl;obtain⟨hk,⟨L,o,hf,hn,ho,hd⟩,hr⟩:=hl;have hL:L∈X.fs:=hs L (by unfold frs;rw[List.filterMap_cons,hf];exact NV);obtain⟨sl,e⟩:=I.base.slot L o ho (I.ok.frf L hL) hL λz=>I.ok.xh L z hL;exact#[hk,#[L,_,hf,hn,e,hd],ih (λb hb=>hs b (by unfold frs;rw[List.filterMap_cons,hf];exact Oa _ hb)) hr]
  exact all X.outer (λ_ hb=>hb) I.ok.lD
theorem Inv.stack(I:Inv X pins σ H s):s.heap.FunFrames X.base X.stack:=by
  rcases I.ok.stk with e|⟨e,hf⟩
  . rw[e];exact I.lD
  . rw[e]
    obtain⟨m,hn,_⟩:=I.loc;refine .cons (by rw[I.ok.kind];decide) hf hn ?_ I.lD;exact Heap.get?_none_of_le (NW I.ok.bsz I.ok.above)
theorem Inv.ib(I:Inv X pins σ H s):∀ b∈frs X.stack,b∈X.env.locals::X.fs:=λb hb=>by
  rcases I.ok.stk with e|⟨e,hf⟩
  . rw[e]at hb;exact Oa _ hb
  . rw[e]at hb
    unfold frs at hb;rw[List.filterMap_cons,hf]at hb;exact hb
theorem Inv.je(I:Inv X pins σ H s):∀ b∈frs X.stack,H b=none:=λb hb=>by
  rcases NY.mp (I.ib b hb) with e|hb
  . rw[e];exact I.free
  . obtain⟨_,o,ho,_⟩:=I.ok.lD.mem hb
    exact I.base.free b o ho (I.ok.frf b hb) λz=>I.ok.xh b z hb
theorem Inv.step{g':Array GenState}{t':Nat}{d':Drawn}{ch:List Addr}(I:Inv X pins σ H s)
    (hch:∀ b∈ch,(b∈X.ex∨X.s₀.heap.objs.size≤b)∧b≠X.env.locals∧(∀ x c,X.env.cells.lookup x=some c→c≠b)∧∀ p∈X.pn++pins,p.1≠b)
    (keep:∀ b o,b≠X.env.locals→b∉X.fs→b∉ch→s.heap.get? b=some o→H b=none→h'.get? b=some o)
    (slot:∀ b o,b≠X.env.locals→b∈X.fs→b∉ch→s.heap.get? b=some o→H b=none→∃ sl,h'.get? b=some {o with slots:=sl}) (free:∀ b o,b∉ch→s.heap.get? b=some o→H b=none→H' b=none)
    (there:∀ b o,b∉ch→s.heap.get? b=some o→∃ o',h'.get? b=some o')
    (oK:∀ b xs,H b=some (.tup xs)→H' b=some (.tup xs)) (nV:∀ b o u,H b=some (.frz o u)→H' b=some (.frz o u)) (oO:∀ b ps,H b=some (.tbl ps)→∃ more,H' b=some (.tbl (ps++more)))
    (ns:∀ m,s.heap.Ns X.env.locals m→h'.Ns X.env.locals m) (hok:HOk X.prog X.w H' h') (hg:AllBare g') :
    Inv X pins σ H' {s with heap:=h',gens:=g',drawn:=d',toks:=t'}:=by
  have neL:∀ b o,X.s₀.heap.get? b=some o→b≠X.env.locals:=λb o e=>Oe (Od (NT e) I.ok.above);have neC:∀ b o,X.s₀.heap.get? b=some o→b∉X.ex→b∉ch:=λb o e hx hb=>by
    rcases(hch b hb).1 with z|z
    . exact hx z
    . exact absurd (Od (NT e) z) (OQ _)
  have cellK:∀ x c,X.env.cells.lookup x=some c→∀ v,s.heap.IsCell c v→h'.IsCell c v:=λx c e v ⟨o,ho,hd⟩=>by
    have nch:c∉ch:=λz=>(hch c z).2.2.1 x c e rfl;by_cases hc:c∈X.fs
    . obtain⟨sl,q⟩:=slot c o (I.cne x c e) hc nch ho (I.dc x c e)
      exact#[_,q,hd]
    . exact#[o,keep c o (I.cne x c e) hc nch ho (I.dc x c e),hd]
  refine#[I.ok,I.os,hg,#[λb o e n hb hx=>?_,λb o e n hb hx=>?_,λb o e n hx=>?_,λb o e hx=>?_,λb xs e=>oK b xs (I.base.oK b xs e),λb o xs e=>nV b o xs (I.base.nV b o xs e),λb ps e=>?_],?_,λx c e=>?_,?_,λx c e=>?_,λp hp=>?_,hok,I.len]
  . exact keep b o (neL b o e) hb (neC b o e hx) (I.base.keep b o e n hb hx) (I.base.free b o e n hx)
  . obtain⟨sl,e1⟩:=I.base.slot b o e n hb hx
    obtain⟨sl',e2⟩:=slot b _ (neL b o e) hb (neC b o e hx) e1 (I.base.free b o e n hx);exact#[sl',e2]
  . obtain⟨o',e1⟩:=I.base.there b o e hx
    exact free b o' (neC b o e hx) e1 (I.base.free b o e n hx)
  . obtain⟨o',e1⟩:=I.base.there b o e hx
    exact there b o' (neC b o e hx) e1
  . obtain⟨m1,e1⟩:=I.base.oO b ps e
    obtain⟨m2,e2⟩:=oO b _ e1;exact#[m1++m2,by rw[e2,Array.append_assoc]]
  . obtain⟨m,hn,hl⟩:=I.loc
    refine#[m,ns m hn,λi x v e1 e2 e3=>?_];obtain⟨u,r,l⟩:=hl i x v e1 e2 e3;refine#[u,r,?_];rcases l with l|⟨k,c,e,z⟩
    . exact .inl l
    . exact .inr #[k,c,e,cellK x c e _ z]
  . obtain⟨v,z⟩:=I.cell x c e
    exact#[v,cellK x c e v z]
  . obtain⟨m,⟨o,_,_,ho,_⟩,_⟩:=I.loc
    exact free _ o (λz=>(hch _ z).2.1 rfl) ho I.free
  . obtain⟨v,o,ho,hd⟩:=I.cell x c e
    exact free c o (λz=>(hch c z).2.2.1 x c e rfl) ho (I.dc x c e)
  . obtain⟨e,n,ne,nf,d⟩:=I.pin p hp
    have nch:p.1∉ch:=λz=>(hch p.1 z).2.2.2 p hp rfl;exact#[keep p.1 p.2 ne nf nch e n,free p.1 p.2 nch e n,ne,nf,d]
theorem Inv.un{t':Nat}(I:Inv X pins σ H s)(u:Un X.fs [] H H' s.heap h')(hok:HOk X.prog X.w H' h'):Inv X pins σ H' {s with heap:=h',toks:=t'}:=by
  obtain⟨m,⟨o,es,ep,ho,r⟩,_⟩:=id I.loc;obtain⟨sl,hL⟩:=u.any ho I.free (by simp);exact I.step (g':=s.gens) (d':=s.drawn) (ch:=[]) (λ_ z=>nomatch z) (λb o _ hb _ e n=>u.keep b o e n hb (by simp)) (λb o _ hb _ e n=>u.slot b o e n hb (by simp)) (λb o _ e n=>u.free b o e n (by simp)) (λb o _ e=>u.there b o e (by simp)) u.oK u.nV u.oO (λm' hm=>by
    obtain⟨o',es',ep',ho',r'⟩:=hm;rw[ho]at ho';cases ho';exact#[_,es',ep',hL,r']) hok I.bare
theorem Inv.call{g':Array GenState}{t':Nat}{d':Drawn}{ch:List Addr}(I:Inv X pins σ H s)(u:Un (frs X.stack) ch H H' s.heap h')(hok:HOk X.prog X.w H' h')(hg:AllBare g')
    (hch:∀ b∈ch,(b∈X.ex∨X.s₀.heap.objs.size≤b)∧b≠X.env.locals∧(∀ x c,X.env.cells.lookup x=some c→c≠b)∧∀ p∈X.pn++pins,p.1≠b) :
    Inv X pins σ H' {s with heap:=h',gens:=g',drawn:=d',toks:=t'}:=by
  obtain⟨m,⟨o,es,ep,ho,r⟩,_⟩:=id I.loc;obtain⟨sl,hL⟩:=u.any ho I.free λz=>(hch _ z).2.1 rfl;exact I.step (ch:=ch) hch (λb o hL hb hc e n=>u.keep b o e n (λz=>(NY.mp (I.ib b z)).elim hL hb) hc) (λb o _ _ hc e n=>u.any e n hc) (λb o hc e n=>u.free b o e n hc) (λb o hc e=>u.there b o e hc) u.oK u.nV u.oO (λm' hm=>by
    obtain⟨o',es',ep',ho',r'⟩:=hm;rw[ho]at ho';cases ho';exact#[_,es',ep',hL,r']) hok hg
theorem Inv.turned{t':Nat}{it:Addr}(I:Inv X pins σ H s)(k:∀ b o,b≠it→s.heap.get? b=some o→h'.get? b=some o)(hn:H it=none)(hL:it≠X.env.locals)
    (h1:it∈X.ex∨X.s₀.heap.objs.size≤it) (h2:∀ x c,X.env.cells.lookup x=some c→c≠it) (h3:∀ p∈X.pn++pins,p.1≠it):Inv X pins σ H {s with heap:=h',toks:=t'}:=by
  have nit:∀ b u,H b=some u→b≠it:=λb u e z=>by rw[z,hn]at e;cases e
  refine I.step (g':=s.gens) (d':=s.drawn) (ch:=[it]) (λb hb=>?_) (λb o _ _ hc e _=>k b o (λz=>hc (by simp[z])) e) (λb o _ _ hc e _=>#[o.slots,k b o (λz=>hc (by simp[z])) e]) (λ_ _ _ _ n=>n)
    (λb o hc e=>#[o,k b o (λz=>hc (by simp[z])) e]) (λ_ _ e=>e) (λ_ _ _ e=>e) (λb ps e=>#[#[],by rw[e];simp]) (λm hm=>?_) (λb u e=>?_) I.bare
  . have e:b=it:=by simpa using hb
    subst e;exact#[h1,hL,h2,h3]
  . obtain⟨o,es,ep,ho,r⟩:=hm
    exact#[o,es,ep,k _ o (Oj hL) ho,r]
  . refine(I.hok b u e).oJ (λc v hc q=>k c v ?_ q) (λ_ q=>q) λ_ _ q=>q
    rcases hc with z|z
    . rw[z];exact nit b u e
    . exact nit c _ z
theorem Inv.tok(I:Inv X pins σ H s)(t:Nat):Inv X pins σ H {s with toks:=t}:=I.un (h':=s.heap) (t':=t) Un.refl I.hok
theorem Inv.kept{t':Nat}(I:Inv X pins σ H s)(k:∀ b u,s.heap.get? b=some u→h'.get? b=some u):Inv X pins σ H {s with heap:=h',toks:=t'}:=I.un (Un.kept k) (I.hok.kept k)
theorem Inv.laid{a:Addr}{o:HO}{t':Nat}(I:Inv X pins σ H s)(k:∀ b u,s.heap.get? b=some u→h'.get? b=some u)(hp:s.heap.objs.size≤a)(new:bT X.prog X.w (upd H a o) h' a o) :
    Inv X pins σ (upd H a o) {s with heap:=h',toks:=t'}:=I.un (Un.laid k hp (I.hok.fresh hp)) (I.hok.laid k hp new)
theorem Inv.write{x e:Addr}{o:HO}{t':Nat}(I:Inv X pins σ H s)(mu:Mut (H x))(he:e=x∨H e=some (.own x))(k:∀ b u,b≠e→s.heap.get? b=some u→h'.get? b=some u)(heo:∃ u,h'.get? e=some u)
    (new:bT X.prog X.w (upd H x o) h' x o):Inv X pins σ (upd H x o) {s with heap:=h',toks:=t'}:=I.un (Un.write mu he k heo) (I.hok.write mu he k heo new)
theorem Inv.xi{vq:List (Addr×Obj)}(I:Inv X pins σ H s)(h:∀ p∈vq,s.heap.get? p.1=some p.2∧H p.1=none∧p.1≠X.env.locals∧p.1∉X.fs∧∀ v,p.2.data≠.cell v):Inv X vq σ H s :=
  #[I.ok,I.os,I.bare,I.base,I.loc,I.cell,I.free,I.dc,λp hp=>(Om.mp hp).elim (λz=>I.pin p (Ot _ z)) (h p),I.hok,I.len]
theorem pS{N:List Str}(hN:N.Nodup){i j:Nat}{x:Str}(a:N[i]?=some x)(b:N[j]?=some x):i=j:=by
  obtain⟨h1,e1⟩:=NK.mp a;obtain⟨h2,e2⟩:=NK.mp b;exact(List.getElem_inj hN).mp (e1.trans e2.symm)
theorem yl{M:Model}{A:Around}{E:Value→Shared→Prop}{i:Nat}{x:Str}{v:V}{u:Value}{Q:Unit→Shared→Prop}(I:Inv X pins σ H s)(hN:X.N.Nodup)(hi:X.N[i]?=some x)(hx:Loc X.env.scope x)(r:RelV v u)
    (h:∀ s',Inv X pins (σ.set i (some v)) H s'→(∃ a,Heap.SameBut a s.heap s'.heap∧(a=X.env.locals∨X.env.cells.lookup x=some a))→Q () s') (hf:X.fn x=true∨X.env.scope.names.lookup x=some .local:=by first|exact .inl rfl|exact .inr rfl|assumption):wpAny M A (storeName X.env x u) Q E s:=by
  obtain⟨m,hn,hl⟩:=id I.loc;have Gq:(X.env.scope.kind == .class||(X.env.scope.kind == .module&&X.env.locals != X.env.globals))=false:=by rw[I.ok.kind];rfl
  have hiσ:i<σ.length:=by rw[I.len];exact(NK.mp hi).1
  have cne:=I.cne;have tracked:∀ {a:Addr} {h':Heap},(∃ o,s.heap.get? a=some o∧H a=none)→Heap.SameBut a s.heap h'→HOk X.prog X.w H h':=λ{a h'} ha hs b ob e=>by
    obtain⟨_,_,Eg⟩:=ha;refine(I.hok b ob e).oJ (λc w' hc q=>(hs.2 c ?_).trans q) (λ_ q=>q) λ_ _ q=>q;rintro rfl;rcases hc with rfl|hc
    . rw[Eg]at e;cases e
    . rw[Eg]at hc;cases hc
  rcases hx with hk|hk
  . refine wpAny_storeName_local hk hn (λh' hn' hs=>?_) Gq
    obtain⟨oL,_,_,hoL,_⟩:=id hn;refine h _ #[I.ok,I.os,I.bare,#[λb o e n hb hx=>?_,λb o e n hb hx=>?_,I.base.free,λb o e hx=>?_,I.base.oK,I.base.nV,I.base.oO],#[_,hn',λj y v' e1 e2 e3=>?_],λy c e=>?_,I.free,I.dc,λp hp=>?_,tracked #[oL,hoL,I.free] hs,by simpa using I.len] #[_,hs,.inl rfl]
    . exact(hs.2 b (Oe (Od (NT e) I.ok.above))).trans (I.base.keep b o e n hb hx)
    . obtain⟨sl,e1⟩:=I.base.slot b o e n hb hx
      exact#[sl,(hs.2 b (Oe (Od (NT e) I.ok.above))).trans e1]
    . obtain⟨o',e1⟩:=I.base.there b o e hx
      exact#[o',(hs.2 b (Oe (Od (NT e) I.ok.above))).trans e1]
    . by_cases hj:j=i
      . subst hj
        rw[hi]at e1;cases e1;rw[List.getElem?_set_self hiσ]at e2;cases e2;exact#[u,r,.inl #[hk,by simp]]
      . rw[PL (Oj hj)]at e2
        obtain⟨u',r',q⟩:=hl j y v' e1 e2 e3;refine#[u',r',?_];rcases q with⟨k,e⟩|⟨k,c,e,z⟩
        . refine .inl #[k,?_]
          have:y≠x:=λe=>hj (pS hN e1 (e ▸ hi))
          simp[this,e]
        . exact .inr #[k,c,e,z.sameBut hs (cne y c e)]
    . obtain⟨w',z⟩:=I.cell y c e
      exact#[w',z.sameBut hs (cne y c e)]
    . obtain⟨e,n,ne,nf,d⟩:=I.pin p hp
      exact#[(hs.2 p.1 ne).trans e,n,ne,nf,d]
  . have hfn:X.fn x=true:=by
      rcases hf with z|z
      . exact z
      . rw[z]at hk;cases hk
    obtain⟨c,hc⟩:=I.ok.has x (.inl hk);obtain⟨w',z⟩:=I.cell x c hc;refine wpAny_storeName_cell I.ok.kind hk hc z (λh' hc' hs=>?_);obtain⟨oc,hoc,K9⟩:=id z;refine h {s with heap:=h'} #[I.ok,I.os,I.bare,#[λb o e n hb hx=>?_,λb o e n hb hx=>?_,I.base.free,λb o e hx=>?_,I.base.oK,I.base.nV,I.base.oO],#[m,hn.sameBut hs (Oj (cne x c hc)),λj y v' e1 e2 e3=>?_],λy c' e=>?_,I.free,I.dc,λp hp=>?_,tracked #[oc,hoc,I.dc x c hc] hs,by simpa using I.len] #[c,hs,.inr hc]
    . exact(hs.2 b (Oe (Od (NT e) (I.ok.cab x c hfn hc)))).trans (I.base.keep b o e n hb hx)
    . obtain⟨sl,e1⟩:=I.base.slot b o e n hb hx
      exact#[sl,(hs.2 b (Oe (Od (NT e) (I.ok.cab x c hfn hc)))).trans e1]
    . obtain⟨o',e1⟩:=I.base.there b o e hx
      exact#[o',(hs.2 b (Oe (Od (NT e) (I.ok.cab x c hfn hc)))).trans e1]
    . by_cases hj:j=i
      . subst hj
        rw[hi]at e1;cases e1;rw[List.getElem?_set_self hiσ]at e2;cases e2;exact#[u,r,.inr #[.inl hk,c,hc,hc']]
      . rw[PL (Oj hj)]at e2
        obtain⟨u',r',q⟩:=hl j y v' e1 e2 e3;refine#[u',r',?_];rcases q with q|⟨k,c',e,z'⟩
        . exact .inl q
        . refine .inr #[k,c',e,z'.sameBut hs ?_]
          rintro rfl;exact hj (pS hN e1 (I.ok.inj _ _ _ e hc ▸ hi))
    . by_cases hcc:c'=c
      . subst hcc;exact#[_,hc']
      . obtain⟨w2,z2⟩:=I.cell y c' e
        exact#[w2,z2.sameBut hs hcc]
    . obtain⟨e,n,ne,nf,d⟩:=I.pin p hp
      refine#[(hs.2 p.1 ?_).trans e,n,ne,nf,d];intro q;rw[q,hoc]at e;have q':oc=p.2:=Oh e;exact d w' (by rw[←q'];exact K9)
theorem k8{M:Model}{A:Around}{E:Value→Shared→Prop}{i:Nat}{x:Str}{v:V}{u:Value}{Q:Unit→Shared→Prop}(I:Inv X pins σ H s)(hN:X.N.Nodup)(hi:X.N[i]?=some x)(hx:Loc X.env.scope x)(r:RelV v u)
    (h:∀ s',Inv X pins (σ.set i (some v)) H s'→Q () s') (hf:X.fn x=true∨X.env.scope.names.lookup x=some .local:=by first|exact .inl rfl|exact .inr rfl|assumption):wpAny M A (storeName X.env x u) Q E s :=
  yl I hN hi hx r (λs' I' _=>h s' I') hf
theorem Inv.tH{s':Shared}{ch:List Addr}(I:Inv X pins σ H s)(ho:s'.os=s.os)(u:Un (frs X.stack) ch H H' s.heap s'.heap)(hok:HOk X.prog X.w H' s'.heap)(hg:AllBare s'.gens)
    (hch:∀ b∈ch,(b∈X.ex∨X.s₀.heap.objs.size≤b)∧b≠X.env.locals∧(∀ x c,X.env.cells.lookup x=some c→c≠b)∧∀ p∈X.pn++pins,p.1≠b):Inv X pins σ H' s':=by
  obtain⟨h',g',d',t',o'⟩:=s';have e:o'=s.os:=ho;subst e;exact I.call (g':=g') (t':=t') (d':=d') u hok hg hch
end
noncomputable abbrev XK:=Value→Option Addr→Hp→Prop
noncomputable abbrev St:=List (Option V)
noncomputable abbrev VK:=V→Hp→Prop
noncomputable abbrev TE:=St→Hp→VK→Prop
noncomputable abbrev TT:=St→Hp→(Bool→Hp→Prop)→Prop
noncomputable abbrev TA:=St→Hp→(List V→Hp→Prop)→Prop
structure Ends where
  nx:St→Hp→Prop
  rt:VK
  bk:St→Hp→Prop:=λ_ _=>False
  ct:St→Hp→Prop:=λ_ _=>False
noncomputable abbrev TS:=Ends→St→Hp→Prop
noncomputable def EP(X:Cx)(pins:List (Addr×Obj))(σ:St)(Q:VK)(u:Value)(s':Shared):Prop:=∃ v H',Inv X pins σ H' s'∧RelV v u∧Q v H'
noncomputable def TP(X:Cx)(pins:List (Addr×Obj))(σ:St)(Q:Bool→Hp→Prop)(b:Bool)(s':Shared):Prop:=∃ H',Inv X pins σ H' s'∧Q b H'
noncomputable def AP(X:Cx)(pins:List (Addr×Obj))(σ:St)(Q:List V→Hp→Prop)(us:List Value)(s':Shared):Prop:=∃ vs H',Inv X pins σ H' s'∧Vals vs us∧Q vs H'
noncomputable def SP(X:Cx)(pins:List (Addr×Obj))(D:Ends)(f:Flow)(s':Shared):Prop :=
  match f with
  | .next=>∃ σ' H',Inv X pins σ' H' s'∧D.nx σ' H'
  | .brk=>∃ σ' H',Inv X pins σ' H' s'∧D.bk σ' H'
  | .cont=>∃ σ' H',Inv X pins σ' H' s'∧D.ct σ' H'
  | .ret u=>∃ v σ' H',Inv X pins σ' H' s'∧RelV v u∧D.rt v H'
noncomputable def PE(X:Cx)(e:Expr)(t:TE):Prop :=
  ∀(pins:List (Addr×Obj)) (s:Shared) (σ:St) (H:Hp) (Q:VK),Inv X pins σ H s→t σ H Q→wpAny (model X.prog X.w) X.A (eval e X.env) (EP X pins σ Q) X.xe s
noncomputable def PT(X:Cx)(e:Expr)(t:TT):Prop :=
  ∀(pins:List (Addr×Obj)) (s:Shared) (σ:St) (H:Hp) (Q:Bool→Hp→Prop),Inv X pins σ H s→t σ H Q→wpAny (model X.prog X.w) X.A (isTrue e X.env (eval e X.env)) (TP X pins σ Q) X.xe s
noncomputable def PW(X:Cx)(e:Expr)(t:TT):Prop :=
  ∀(whole:Sem Value) (pins:List (Addr×Obj)) (s:Shared) (σ:St) (H:Hp) (Q:Bool→Hp→Prop),Inv X pins σ H s→t σ H Q→wpAny (model X.prog X.w) X.A (isTrue e X.env whole) (TP X pins σ Q) X.xe s
theorem PW.pt{X:Cx}{e:Expr}{t:TT}(h:PW X e t):PT X e t:=h _
noncomputable def PA(X:Cx)(es:List Expr)(t:TA):Prop :=
  ∀(pos:Pos) (pins:List (Addr×Obj)) (s:Shared) (σ:St) (H:Hp) (Q:List V→Hp→Prop),Inv X pins σ H s→t σ H Q→wpAny (model X.prog X.w) X.A (spliced (backTo pos (starEach es X.env))) (AP X pins σ Q) X.xe s
noncomputable def PS(X:Cx)(st:Stmt)(t:TS):Prop :=
  ∀(pins:List (Addr×Obj)) (s:Shared) (σ:St) (H:Hp) (D:Ends),Inv X pins σ H s→t D σ H→wpAny (model X.prog X.w) X.A (exec st X.env) (SP X pins D) X.xe s
noncomputable def PSs(X:Cx)(st:List Stmt)(t:TS):Prop :=
  ∀(pins:List (Addr×Obj)) (s:Shared) (σ:St) (H:Hp) (D:Ends),Inv X pins σ H s→t D σ H→wpAny (model X.prog X.w) X.A (execs st X.env) (SP X pins D) X.xe s
theorem thn{α:Type}{t:Sem α}{Q Q':α→Shared→Prop}{M:Model}{A:Around}{E:Value→Shared→Prop}{s:Shared}(h:wpAny M A t Q E s)(hQ:∀ a s,Q a s→Q' a s):wpAny M A t Q' E s:=wpAny_mono h hQ λ_ _ x=>x
end L2
namespace L2
open PySem PySem.Spec PyProof.Rows
section
variable{X:Cx}
inductive Kn(o:Option (Option V))(H:Hp)(Q:VK):Prop where
  | mk (v:V):o=some (some v)→Q v H→Kn o H Q
noncomputable def uA(i:Nat):TE:=λσ H Q=>Kn σ[i]? H Q
noncomputable def tC(v:V):TE:=λ_ H Q=>Q v H
theorem EX{i:Nat}{x:Str}{pos:Pos}(hN:X.N[i]?=some x)(hv:Vis X.env.scope x)(hd:(x == ("__debug__" : Str))=false:=by decide)(hcd:(x == ("__classdict__" : Str))=false:=by decide):PE X (.Name x pos) (uA i):=by
  intro pins s σ H Q I h;obtain⟨v,e,h⟩:=h;obtain⟨m,hn,hl⟩:=I.loc;obtain⟨u,r,l⟩:=hl i x v hN e hv;have fin:EP X pins σ Q u s:=#[v,H,I,r,h];rcases l with⟨hk,hm⟩|⟨hk,c,hc,zR⟩
  . exact wpAny_Name (wpAny_loadName_local I.ok.kind hk hn hm fin) hd
  . rcases hk with hk|hk
    . exact wpAny_Name (wpAny_loadName_cell I.ok.kind hk hc zR fin) hd
    . exact wpAny_Name (wpAny_loadName_free I.ok.kind hk hc zR fin hcd) hd
theorem aq{i j pos}:PE X (.Constant (.int i) j pos) (tC (.int i)):=λ_ _ _ H _ I h=>wpAny_Constant_int #[.int i,H,I.tok _,#[_,rfl],h]
theorem k9{b j pos}:PE X (.Constant (.bool b) j pos) (tC (.bl b)):=λ_ _ _ H _ I h=>Constant_bool #[.bl b,H,I,rfl,h]
theorem bu{j pos}:PE X (.Constant .none j pos) (tC .non):=λ_ _ _ H _ I h=>Constant_none #[.non,H,I,rfl,h]
theorem aw{x j pos}:PE X (.Constant (.str x) j pos) (tC (.str x)):=λ_ _ _ H _ I h=>Calls.Constant_str #[.str x,H,I.tok _,#[_,rfl],h]
noncomputable def Gl(X:Cx)(x:Str):Prop:=X.env.kindOf x=some .globalImplicit
theorem h9{E:Value→Shared→Prop}{pins:List (Addr×Obj)}{s:Shared}{σ:St}{H:Hp}{x:Str}{u:Value}{pos:Pos}{Q:Value→Shared→Prop}(I:Inv X pins σ H s)(hg:Gl X x)(hm:X.mg x=some u)(h:Q u s)
    (hd:(x == ("__debug__" : Str))=false:=by decide):wpAny (model X.prog X.w) X.A (eval (.Name x pos) X.env) Q E s :=
  PY I.ok.kind hg (Calls.loadGlobal_global (by rw[I.ok.glob];exact I.mod.glob.keeps I.bk) hm h) hd
theorem nQ{E:Value→Shared→Prop}{pins:List (Addr×Obj)}{s:Shared}{σ:St}{H:Hp}{x:Str}{u:Value}{pos:Pos}{Q:Value→Shared→Prop}(I:Inv X pins σ H s)(hg:Gl X x)(hm:X.mg x=none)(hv:bootBuiltins x=some u)(h:Q u s)
    (hn:x ≠ "__name__" := by decide) (hd:(x == ("__debug__" : Str))=false:=by decide):wpAny (model X.prog X.w) X.A (eval (.Name x pos) X.env) Q E s:=by
  obtain⟨mb,h1,h2⟩:=I.mod.blt;exact PY I.ok.kind hg (Calls.loadGlobal_builtin (by rw[I.ok.glob];exact I.mod.glob.keeps I.bk) hm (by rw[I.ok.blt];exact h1.keeps I.bk) ((h2 x hn).trans hv) h) hd
theorem ba{x:Str}{v:V}{u:Value}{pos:Pos}(hg:Gl X x)(hm:X.mg x=some u)(r:RelV v u)(hd:(x == ("__debug__" : Str))=false:=by decide):PE X (.Name x pos) (tC v) :=
  λ_ _ _ H _ I h=>h9 I hg hm #[v,H,I,r,h] hd
variable{a b:Expr}{ta tb:TE}{pos:Pos}
noncomputable def PC(X:Cx)(op:CmpOp)(a b:Expr)(t:TE):Prop :=
  ∀(pins:List (Addr×Obj)) (s:Shared) (σ:St) (H:Hp) (Q:VK),Inv X pins σ H s→t σ H Q →
    wpAny (model X.prog X.w) X.A (eval a X.env) (λv s₁=>wpAny (model X.prog X.w) X.A (eval b X.env) (λu s₂=>wpAny (model X.prog X.w) X.A (compareOp op v u) (EP X pins σ Q) X.xe s₂) X.xe s₁) X.xe s
inductive Gu(x:V)(H:Hp)(Q:Bool→Hp→Prop):Prop where
  | mk (k:Bool):x=.bl k→Q k H→Gu x H Q
noncomputable def tB(t:TE):TT:=λσ H Q=>t σ H λx H1=>Gu x H1 Q
theorem Bs{op:CmpOp}{t:TE}(h:PC X op a b t)(h1:behindInMarks op b=false:=by first|exact nobehind _ (by decide) (by decide)|rfl):PE X (.Compare a [op] [b] pos) t:=λpins s σ H Q I hw=>wpAny_Compare1 (h pins s σ H Q I hw) h1
theorem jf{op:CmpOp}{t:TE}(h:PC X op a b t)(h1:behindInMarks op b=false:=by first|exact nobehind _ (by decide) (by decide)|rfl):PT X (.Compare a [op] [b] pos) (tB t):=by
  intro pins s σ H Q I hw;refine wpAny_isTrue_Compare1 (thn (h pins s σ H _ I hw) λv s1 h1=>thn h1 λu s2 h2=>thn h2 λc s3 ⟨x,H1,I1,r1,q1⟩=>?_) h1;obtain⟨d,rfl,q⟩:=q1;cases r1;exact wpAny_truthy_bool #[H1,I1,q]
theorem jg{e:Expr}{t:TE}(h:PE X e t)(he:∀ whole,isTrue e X.env whole=(do let v ←whole;standAt e.pos;holding [v] (truthy v)):=by intro _;rfl):PT X e (tB t):=by
  intro pins s σ H Q I hw;refine isTrue_plain (thn (h pins s σ H _ I hw) λv s1 ⟨x,H1,I1,r1,q1⟩=>?_) (he _);obtain⟨d,rfl,q⟩:=q1;cases r1;exact wpAny_truthy_bool #[H1,I1,q]
variable{tA tB':TT}{rest:List Expr}
noncomputable def La(t u:TT):TT:=λσ H Q=>t σ H λc H1=>if c=true then u σ H1 Q else Q false H1
noncomputable def tOr(t u:TT):TT:=λσ H Q=>t σ H λc H1=>if c=true then Q true H1 else u σ H1 Q
noncomputable def Lb(t:TT):TT:=λσ H Q=>t σ H λc H1=>Q (!c) H1
theorem pw_and1(ha:PT X a tA):PW X (.BoolOp .And [a] pos) tA:=by
  intro wh pins s σ H Q I h;refine isTrue_and (thn (ha pins s σ H Q I h) λc s1 e=>?_);cases c with
  | true=>exact isTrue_and_nil e
  | false=>exact e
theorem pw_or1(ha:PT X a tA):PW X (.BoolOp .Or [a] pos) tA:=by
  intro wh pins s σ H Q I h;refine isTrue_or (thn (ha pins s σ H Q I h) λc s1 e=>?_);cases c with
  | false=>exact isTrue_or_nil e
  | true=>exact e
theorem pw_and(ha:PT X a tA)(hb:PW X (.BoolOp .And (b::rest) pos) tB'):PW X (.BoolOp .And (a::b::rest) pos) (La tA tB'):=by
  intro wh pins s σ H Q I h;refine isTrue_and (thn (ha pins s σ H _ I h) λc s1 ⟨H1,I1,q1⟩=>?_);cases c with
  | true=>exact hb wh pins s1 σ H1 Q I1 q1
  | false=>exact#[H1,I1,q1]
theorem pw_or(ha:PT X a tA)(hb:PW X (.BoolOp .Or (b::rest) pos) tB'):PW X (.BoolOp .Or (a::b::rest) pos) (tOr tA tB'):=by
  intro wh pins s σ H Q I h;refine isTrue_or (thn (ha pins s σ H _ I h) λc s1 ⟨H1,I1,q1⟩=>?_);cases c with
  | true=>exact#[H1,I1,q1]
  | false=>exact hb wh pins s1 σ H1 Q I1 q1
theorem ic(ha:PT X a tA):PT X (.UnaryOp .Not a pos) (Lb tA):=by
  intro pins s σ H Q I h;exact isTrue_not (ha pins s σ H (λc H1=>Q (!c) H1) I h)
noncomputable def IV(ta tb:TE):TE:=λσ H Q=>ta σ H λx H1=>∃ c,x=.bl c∧if c=true then tb σ H1 Q else Q (.bl false) H1
noncomputable def Lc(ta tb:TE):TE:=λσ H Q=>ta σ H λx H1=>∃ c,x=.bl c∧if c=true then Q (.bl true) H1 else tb σ H1 Q
theorem qh{op}{t:TE}(h:PE X a t):PE X (.BoolOp op [a] pos) t:=λpins s σ H Q I hw=>BoolOp_one (h pins s σ H Q I hw)
theorem wI(ha:PE X a ta)(hb:PE X (.BoolOp .And (b::rest) pos) tb):PE X (.BoolOp .And (a::b::rest) pos) (IV ta tb):=by
  intro pins s σ H Q I h;refine BoolOp_and (thn (ha pins s σ H _ I h) λv s1 ⟨x,H1,I1,r1,q1⟩=>?_);obtain⟨c,rfl,q1⟩:=q1;cases r1;refine wpAny_truthy_bool ?_;cases c with
  | true=>exact hb pins s1 σ H1 Q I1 q1
  | false=>exact#[.bl false,H1,I1,rfl,q1]
theorem Eh(ha:PE X a ta)(hb:PE X (.BoolOp .Or (b::rest) pos) tb):PE X (.BoolOp .Or (a::b::rest) pos) (Lc ta tb):=by
  intro pins s σ H Q I h;refine BoolOp_or (thn (ha pins s σ H _ I h) λv s1 ⟨x,H1,I1,r1,q1⟩=>?_);obtain⟨c,rfl,q1⟩:=q1;cases r1;refine wpAny_truthy_bool ?_;cases c with
  | false=>exact hb pins s1 σ H1 Q I1 q1
  | true=>exact#[.bl true,H1,I1,rfl,q1]
noncomputable def tIf(t:TT)(ta tb:TE):TE:=λσ H Q=>t σ H λc H1=>if c=true then ta σ H1 Q else tb σ H1 Q
theorem eS{c:Expr}(hc:PT X c tA)(ha:PE X a ta)(hb:PE X b tb):PE X (.IfExp c a b pos) (tIf tA ta tb):=by
  intro pins s σ H Q I h;refine wpAny_IfExp (thn (hc pins s σ H _ I h) λd s1 ⟨H1,I1,q1⟩=>?_);cases d with
  | true=>exact ha pins s1 σ H1 Q I1 q1
  | false=>exact hb pins s1 σ H1 Q I1 q1
end
end L2
namespace L2
open PySem PySem.Spec PyProof.Rows
noncomputable def SqL(K:W.Frag)(H:Hp)(a:Addr)(xs:List V):Prop :=
  Rd H a (.lst xs) ∨
    ∃(o:Obj) (its:Array Value) (n:Nat),K.lookup a=some o∧o.cls=.type "list" ∧ o.dict=none∧o.data=.seq its n∧its.size≤sizeLine∧Vals xs its.toList
noncomputable def SqT(K:W.Frag)(H:Hp)(a:Addr)(xs:List V):Prop :=
  Rd H a (.tup xs) ∨
    ∃(o:Obj) (its:Array Value) (n:Nat),K.lookup a=some o∧o.cls=.type "tuple" ∧ o.data=.seq its n∧its.size≤sizeLine∧Vals xs its.toList
noncomputable def Ld:Value→Option V
  | .none=>some .non
  | .bool b=>some (.bl b)
  | .int i _=>some (.int i)
  | .str x _=>some (.str x)
  | .bytes b _=>some (.byt b)
  | .float b _=>some (.flt b)
  | .ref a=>some (.ref a)
  | .type n=>some (.ty n)
  | _=>none
theorem RelV.abs{x:V}{u:Value}(r:RelV x u):Ld u=some x:=by
  cases x with
  | non=>cases r;rfl
  | bl _=>cases r;rfl
  | int _=>obtain⟨t,rfl⟩:=r;rfl
  | str _=>obtain⟨t,rfl⟩:=r;rfl
  | byt _=>obtain⟨t,rfl⟩:=r;rfl
  | flt _=>obtain⟨t,rfl⟩:=r;rfl
  | ref _=>cases r;rfl
  | ty _=>cases r;rfl
theorem RelV.inj{x y:V}{u:Value}(r:RelV x u)(q:RelV y u):x=y:=Oh (r.abs.symm.trans q.abs)
theorem Vals.inj:∀ {xs ys:List V} {us:List Value},Vals xs us→Vals ys us→xs=ys
  | _,_,_,.nil,.nil=>rfl
  | _,_,_,.cons r t,.cons r' t'=>by rw[r.inj r',Vals.inj t t']
section
variable{X:Cx}{pins:List (Addr×Obj)}{σ:St}{H:Hp}{s:Shared}{a:Addr}{xs ys:List V}
theorem SqL.of{K:W.Frag}(h:H a=some (.lst xs)):SqL K H a xs:=.inl (.inl h)
theorem SqT.of{K:W.Frag}(h:H a=some (.tup xs)):SqT K H a xs:=.inl (.inl h)
theorem Inv.list(I:Inv X pins σ H s)(h:SqL X.K H a xs):∃ its:List Value,Vals xs its∧PlainL s.heap a its.toArray∧xs.length≤sizeLine:=by
  rcases h with h|⟨o,its,n,hk,hc,hd,hs,hz,r⟩
  . obtain⟨z,its,n,r,e⟩:=h.ok I.hok
    exact#[its,r,#[_,n,e,rfl,rfl,rfl],z]
  . refine#[its.toList,r,#[o,n,I.kIn a o hk,hc,hd,by simpa using hs],?_]
    have e:=r.length;simp only[Ov]at e;omega
theorem Inv.tuple(I:Inv X pins σ H s)(h:SqT X.K H a xs):∃ its:List Value,Vals xs its∧IsTup s.heap a its.toArray∧xs.length≤sizeLine:=by
  rcases h with h|⟨o,its,n,hk,hc,hs,hz,r⟩
  . obtain⟨z,its,r,p⟩:=h.ok I.hok
    exact#[its,r,p,z]
  . refine#[its.toList,r,#[o,I.kIn a o hk,hc,n,by simpa using hs],?_]
    have e:=r.length;simp only[Ov]at e;omega
theorem Inv.pU(I:Inv X pins σ H s)(h:SqL X.K H a xs)(h':SqL X.K H a ys):xs=ys:=by
  obtain⟨its,r,⟨o,n,e,_,_,d⟩,_⟩:=I.list h;obtain⟨nW,r',⟨o',n',e',_,_,d'⟩,_⟩:=I.list h';rw[e]at e';cases e';rw[d]at d';injection d' with d1 _
  have:its=nW:=by simpa using congrArg Array.toList d1
  subst this;exact r.inj r'
theorem Inv.qY(I:Inv X pins σ H s)(h:SqT X.K H a xs)(h':SqT X.K H a ys):xs=ys:=by
  obtain⟨its,r,⟨o,e,_,n,d⟩,_⟩:=I.tuple h;obtain⟨nW,r',⟨o',e',_,n',d'⟩,_⟩:=I.tuple h';rw[e]at e';cases e';rw[d]at d';injection d' with d1 _
  have:its=nW:=by simpa using congrArg Array.toList d1
  subst this;exact r.inj r'
end
noncomputable abbrev Cx.uB(X:Cx)(E:Value→Shared→Prop):Cx:={X with xe:=E}
noncomputable abbrev Cx.nox(X:Cx):Cx:=X.uB λ_ _=>False
theorem Cx.Ok.uB{X:Cx}(ok:X.Ok)(E:Value→Shared→Prop):(X.uB E).Ok :=
  #[ok.mod,ok.kind,ok.glob,ok.blt,ok.above,ok.inj,ok.has,ok.cab,ok.hd,ok.frames,ok.stk,ok.exf,ok.bs,ok.bsz,ok.uz,ok.xh,ok.lD,ok.frf]
theorem Cx.Ok.jh{X:Cx}{E:Value→Shared→Prop}(ok:(X.uB E).Ok):X.Ok :=
  #[ok.mod,ok.kind,ok.glob,ok.blt,ok.above,ok.inj,ok.has,ok.cab,ok.hd,ok.frames,ok.stk,ok.exf,ok.bs,ok.bsz,ok.uz,ok.xh,ok.lD,ok.frf]
section
variable{X:Cx}{pins:List (Addr×Obj)}{σ:St}{H:Hp}{s:Shared}{E:Value→Shared→Prop}
theorem Inv.uB(I:Inv X pins σ H s)(E:Value→Shared→Prop):Inv (X.uB E) pins σ H s:=#[I.ok.uB E,I.os,I.bare,I.base,I.loc,I.cell,I.free,I.dc,I.pin,I.hok,I.len]
theorem Inv.jh(I:Inv (X.uB E) pins σ H s):Inv X pins σ H s:=#[I.ok.jh,I.os,I.bare,I.base,I.loc,I.cell,I.free,I.dc,I.pin,I.hok,I.len]
theorem SP.jh{D:Ends}{f:Flow}{s':Shared}(h:SP (X.uB E) pins D f s'):SP X pins D f s':=by
  cases f with
  | next=>obtain⟨σ',H',I,q⟩:=h;exact#[σ',H',I.jh,q]
  | brk=>obtain⟨σ',H',I,q⟩:=h;exact#[σ',H',I.jh,q]
  | cont=>obtain⟨σ',H',I,q⟩:=h;exact#[σ',H',I.jh,q]
  | ret u=>obtain⟨v,σ',H',I,r,q⟩:=h;exact#[v,σ',H',I.jh,r,q]
theorem PSs.nox{st:List Stmt}{t:TS}(h:PSs X.nox st t):PSs X st t:=λpins s σ H D I hw =>
  wpAny_mono (h pins s σ H D (I.uB _) hw) (λ_ _ q=>q.jh) λ_ _ z=>False.elim z
end
section
variable{X:Cx}{st:Stmt}{rest:List Stmt}{t u:TS}{e:Expr}{te:TE}{pos:Pos}
noncomputable def IW:TS:=λD σ H=>D.nx σ H
noncomputable def uC(t u:TS):TS:=λD σ H=>t {D with nx:=u D} σ H
theorem aK:PSs X [] IW:=λ_ _ σ H _ I h=>wpAny_execs_nil #[σ,H,I,h]
theorem ak(h1:PS X st t)(h2:PSs X rest u):PSs X (st::rest) (uC t u):=by
  intro pins s σ H D I h;refine wpAny_execs_cons (thn (h1 pins s σ H {D with nx:=u D} I h) λf s1 q=>?_);cases f with
  | next =>
    obtain⟨σ',H',I',q⟩:=q;exact h2 pins s1 σ' H' D I' q
  | ret v=>exact q
  | brk=>exact q
  | cont=>exact q
theorem ai(h1:PS X st t):PSs X [st] t:=by
  intro pins s σ H D I h;refine wpAny_execs_cons (thn (h1 pins s σ H D I h) λf s1 q=>?_);cases f with
  | next=>exact wpAny_execs_nil q
  | ret v=>exact q
  | brk=>exact q
  | cont=>exact q
theorem Inv.quiet{pins:List (Addr×Obj)}{σ:St}{H:Hp}{s:Shared}(I:Inv X pins σ H s):interactive X.env=false:=by simp[interactive,I.ok.kind]
noncomputable def IX(te:TE):TS:=λD σ H=>te σ H λ_ H1=>D.nx σ H1
theorem aC(he:PE X e te)(hs:swapsWith e none pos.line X.env=pure false:=by rfl):PS X (.Expr e pos) (IX te):=by
  intro pins s σ H D I h;exact wpAny_Expr_any (thn (he pins s σ H _ I h) λv s1 ⟨x,H1,I1,r1,q1⟩=>#[σ,H1,I1,q1]) I.quiet hs
noncomputable def Le(te:TE):TS:=λD σ H=>te σ H D.rt
theorem aB(he:PE X e te):PS X (.Return (some e) pos) (Le te):=by
  intro pins s σ H D I h;exact wpAny_Return_some (thn (he pins s σ H _ I h) λv s1 ⟨x,H1,I1,r1,q1⟩=>#[x,σ,H1,I1,r1,q1])
noncomputable def Lf(c:TT)(t u:TS):TS:=λD σ H=>c σ H λb H1=>if b=true then t D σ H1 else u D σ H1
theorem a6{c:Expr}{a b:List Stmt}{tc:TT}(hc:PT X c tc)(ha:PSs X a t)(hb:PSs X b u):PS X (.If c a b pos) (Lf tc t u):=by
  intro pins s σ H D I h;refine wpAny_If (thn (hc pins s σ H _ I h) λd s1 ⟨H1,I1,q1⟩=>?_);cases d with
  | true=>exact ha pins s1 σ H1 D I1 q1
  | false=>exact hb pins s1 σ H1 D I1 q1
end
noncomputable abbrev TG:=V→St→Hp→(St→Hp→Prop)→Prop
noncomputable abbrev TGs:=List V→St→Hp→(St→Hp→Prop)→Prop
noncomputable def PG(X:Cx)(target:Expr)(t:TG):Prop :=
  ∀(pins:List (Addr×Obj)) (s:Shared) (σ:St) (H:Hp) (v:V) (u:Value) (Q:St→Hp→Prop),Inv X pins σ H s→RelV v u→t v σ H Q →
    wpAny (model X.prog X.w) X.A (assign target X.env u) (λ_ s'=>∃ σ' H',Inv X pins σ' H' s'∧Q σ' H') X.xe s
noncomputable def PGs(X:Cx)(ts:List Expr)(t:TGs):Prop :=
  ∀(pins:List (Addr×Obj)) (s:Shared) (σ:St) (H:Hp) (vs:List V) (us:List Value) (Q:St→Hp→Prop),Inv X pins σ H s→Vals vs us→t vs σ H Q →
    wpAny (model X.prog X.w) X.A (assignInOrder ((assignEach ts X.env).map (·.2)) us) (λ_ s'=>∃ σ' H',Inv X pins σ' H' s'∧Q σ' H') X.xe s
noncomputable abbrev Gv:=V→V→V→Hp→(Hp→Prop)→Prop
noncomputable def Ko(X:Cx)(t:Gv):Prop :=
  ∀(pins:List (Addr×Obj)) (s:Shared) (σ:St) (H:Hp) (o i v:V) (ov iv u:Value) (Q:Hp→Prop),Inv X pins σ H s→RelV o ov→RelV i iv→RelV v u→t o i v H Q →
    wpAny (model X.prog X.w) X.A (setItem ov iv u) (λ_ s'=>∃ H',Inv X pins σ H' s'∧Q H') X.xe s
noncomputable abbrev TIp:=V→V→Hp→VK→Prop
noncomputable def PIp(X:Cx)(op:Operator)(t:TIp):Prop :=
  ∀(pins:List (Addr×Obj)) (s:Shared) (σ:St) (H:Hp) (x y:V) (v u:Value) (Q:VK),Inv X pins σ H s→RelV x v→RelV y u→t x y H Q →
    wpAny (model X.prog X.w) X.A (inplaceOp op v u) (EP X pins σ Q) X.xe s
section
variable{X:Cx}{pos:Pos}
noncomputable def gw(i:Nat):TG:=λv σ H Q=>Q (σ.set i (some v)) H
theorem bc{i:Nat}{x:Str}(hN:X.N.Nodup)(hi:X.N[i]?=some x)(hx:Loc X.env.scope x)(hf:X.fn x=true∨X.env.scope.names.lookup x=some .local:=by first|exact .inl rfl|exact .inr rfl|assumption):PG X (.Name x pos) (gw i):=by
  intro pins s σ H v u Q I r h;exact wpAny_assign_Name (k8 I hN hi hx r (λs' I'=>#[_,H,I',h]) hf)
noncomputable def Lh:TGs:=λvs σ H Q=>vs=[]∧Q σ H
noncomputable def IY(t:TG)(u:TGs):TGs:=λvs σ H Q=>∃ v r,vs=v::r∧t v σ H λσ' H'=>u r σ' H' Q
theorem lE:PGs X [] Lh:=by
  intro pins s σ H vs us Q I r h;obtain⟨e,h⟩:=h;subst e;cases r;exact assignInOrder_nil #[σ,H,I,h]
theorem cz{e:Expr}{es:List Expr}{t:TG}{u:TGs}(h1:PG X e t)(h2:PGs X es u)
    (hs:(assignEach (e::es) X.env).map (·.2)=assign e X.env::(assignEach es X.env).map (·.2):=by rfl):PGs X (e::es) (IY t u):=by
  intro pins s σ H vs us Q I r h;obtain⟨v,vr,e1,h⟩:=h;subst e1;cases r with
  | cons r rr =>
    rw[hs];refine assignInOrder_cons (thn (h1 pins s σ H _ _ _ I r h) λ_ s1 ⟨σ1,H1,I1,q1⟩=>?_);exact h2 pins s1 σ1 H1 _ _ Q I1 rr q1
noncomputable def Lj(K:W.Frag)(n:Nat)(t:TGs):TG:=λv σ H Q=>∃ a xs,v=.ref a∧SqT K H a xs∧xs.length=n∧t xs σ H Q
theorem qi{es:List Expr}{k:Nat}{t:TGs}{n:Nat}(hc:X.calm=true)(h:PGs X es t)
    (hn:(assignEach es X.env).length=n:=by rfl) (hst:(assignEach es X.env).findIdx? (·.1)=none:=by rfl):PG X (.Tuple es k pos) (Lj X.K n t):=by
  intro pins s σ H v u Q I r hw;obtain⟨a,xs,e1,hq,hl,hw⟩:=hw;subst e1;cases r;obtain⟨its,rv,ht,hz⟩:=I.tuple hq;refine assign_Tuple_tuple (I.ok.hd hc) ht (by simp[hn,←hl,rv.length]) hst λh' hx=>?_;have I1:Inv X pins σ H {s with heap:=h'}:=I.kept (t':=s.toks) λb o e=>hx b o (Oe (NT e)) e;exact h pins _ σ H xs _ Q I1 (by simpa using rv) hw
noncomputable def Lk(to ti:TE)(t:Gv):TG:=λv σ H Q=>to σ H λo H1=>ti σ H1 λi H2=>t o i v H2 λH3=>Q σ H3
theorem qj{o i:Expr}{to ti:TE}{t:Gv}(ho:PE X o to)(hi:PE X i ti)(hs:Ko X t)
    (ha:∀ v,assign (.Subscript o i pos) X.env v=(do
      let ov ←holding [v] (eval o X.env)
      let iv ←holding [v,ov] (eval i X.env)
      standAt pos
      holding [v,ov,iv] (setItem ov iv v)
      release [v,ov,iv] []):=by intro _;rfl):PG X (.Subscript o i pos) (Lk to ti t):=by
  intro pins s σ H v u Q I r h;rw[ha];refine wpAny_bind (wpAny_holding (thn (ho pins s σ H _ I h) λov s1 ⟨x,H1,I1,r1,q1⟩=>?_));refine wpAny_bind (wpAny_holding (thn (hi pins s1 σ H1 _ I1 q1) λiv s2 ⟨y,H2,I2,r2,q2⟩=>?_));refine wpAny_bind (wpAny_standAt (wpAny_bind (wpAny_holding (thn (hs pins s2 σ H2 x y v ov iv u _ I2 r1 r2 r q2) λ_ s3 ⟨H3,I3,q3⟩=>?_))));exact wpAny_release #[σ,H3,I3,q3]
noncomputable def zX(te:TE)(g:TG):TS:=λD σ H=>te σ H λx H1=>g x σ H1 D.nx
theorem qk{tg e:Expr}{te:TE}{g:TG}(he:PE X e te)(hg:PG X tg g)(hs:swapsWithSole [tg] e pos.line X.env=pure false:=by rfl)(hw:swappedStores [tg] e X.env=pure none:=by rfl)
    (h1:(assignEach [tg] X.env).map (·.2)=[assign tg X.env]:=by rfl):PS X (.Assign [tg] e pos) (zX te g):=by
  intro pins s σ H D I h;refine wpAny_Assign_stores (thn (he pins s σ H _ I h) λv s1 ⟨x,H1,I1,r1,q1⟩=>?_) hs hw;rw[h1];exact thn (hg pins s1 σ H1 x v _ I1 r1 q1) λ_ s2 q=>q
theorem aY{i:Nat}{x:Str}{e:Expr}{te:TE}{pos':Pos}(hN:X.N.Nodup)(hi:X.N[i]?=some x)(hx:Loc X.env.scope x)(he:PE X e te)(hs:swapsWith e (some (.Name x pos')) pos.line X.env=pure false:=by rfl)(hf:X.fn x=true∨X.env.scope.names.lookup x=some .local:=by first|exact .inl rfl|exact .inr rfl|assumption) :
    PS X (.Assign [.Name x pos'] e pos) (zX te (gw i)):=by
  intro pins s σ H D I h;refine wpAny_Assign_Name (thn (he pins s σ H _ I h) λv s1 ⟨y,H1,I1,r1,q1⟩=>?_) hs;exact k8 I1 hN hi hx r1 (λs2 I2=>#[_,H1,I2,q1]) hf
noncomputable def Ll(i:Nat)(te:TE)(ti:TIp):TS:=λD σ H=>∃ x,σ[i]?=some (some x)∧te σ H λy H1=>ti x y H1 λz H2=>D.nx (σ.set i (some z)) H2
theorem EY{i:Nat}{x:Str}{e:Expr}{te:TE}{op:Operator}{ti:TIp}{pos':Pos}(hN:X.N.Nodup)(hi:X.N[i]?=some x)(hx:Loc X.env.scope x)(he:PE X e te)(ho:PIp X op ti)(hf:X.fn x=true∨X.env.scope.names.lookup x=some .local:=by first|exact .inl rfl|exact .inr rfl|assumption) :
    PS X (.AugAssign (.Name x pos') op e pos) (Ll i te ti):=by
  intro pins s σ H D I h;obtain⟨v,e1,h⟩:=h;obtain⟨m,hn,hl⟩:=I.loc;have vis:Vis X.env.scope x:=by rcases hx with k|k;exact .inl k;exact .inr (.inl k)
  obtain⟨u,r,l⟩:=hl i x v hi e1 vis;refine wpAny_AugAssign_Name ?_;have go:wpAny (model X.prog X.w) X.A (eval e X.env) (λw s₂=>wpAny (model X.prog X.w) X.A (inplaceOp op u w) (λr s₃=>wpAny (model X.prog X.w) X.A (storeName X.env x r) (λ_=>SP X pins D .next) X.xe s₃) X.xe s₂) X.xe s:=by
    refine thn (he pins s σ H _ I h) λw s1 ⟨y,H1,I1,r1,q1⟩=>?_;refine thn (ho pins s1 σ H1 v y u w _ I1 r r1 q1) λz s2 ⟨zv,H2,I2,r2,q2⟩=>?_;exact k8 I2 hN hi hx r2 (λs3 I3=>#[_,H2,I3,q2]) hf
  rcases l with⟨hk,hm⟩|⟨hk,c,hc,zR⟩
  . exact wpAny_loadName_local I.ok.kind hk hn hm go
  . rcases hk with hk|hk
    . exact wpAny_loadName_cell I.ok.kind hk hc zR go
    . rcases hx with k|k
      . have:X.env.scope.names.lookup x=some .free:=hk
        rw[k]at this;cases this
      . have:X.env.scope.names.lookup x=some .free:=hk
        rw[k]at this;cases this
noncomputable def ipI(f:Int→Int→Int):TIp:=λx y H Q=>∃ i j,x=.int i∧y=.int j∧Q (.int (f i j)) H
theorem EZ:PIp X .Add (ipI λi j=>i+j):=by
  intro pins s σ H x y v u Q I r1 r2 h;obtain⟨i,j,e1,e2,q⟩:=h;subst e1;subst e2;obtain⟨t,rfl⟩:=r1;obtain⟨t',rfl⟩:=r2;exact iadd_int #[.int _,H,I.tok _,#[_,rfl],q]
end
section
variable{X:Cx}{pos:Pos}
noncomputable def E0(c:TT)(tb:TS):TS:=λD σ H=>∃ W:Nat→St→Hp→Prop,(∃ m,W m σ H)∧∀ m σ H,W m σ H →
  c σ H λb H1=>if b=true then ∃ N:St→Hp→Prop,(∀ σ' H',N σ' H'→∃ m',m'<m∧W m' σ' H')∧tb {D with nx:=N,ct:=N,bk:=D.nx} σ H1 else D.nx σ H1
theorem uD{c:Expr}{body:List Stmt}{tc:TT}{tb:TS}(hp:PassesOwn (model X.prog X.w) X.A X.env X.xe)(hc:PT X c tc)(hb:PSs X body tb):PS X (.While c body [] pos) (E0 tc tb):=by
  intro pins s σ H D I h;obtain⟨W,⟨m0,w0⟩,turn⟩:=h;refine wpAny_While (codeAny_whileLoop (λn s'=>∃ σ' H',Inv X pins σ' H' s'∧W n σ' H') ?_ m0 #[σ,H,I,w0]);rintro n s1 ⟨σ1,H1,I1,w1⟩;refine wpAny_passesOwn hp (thn (hc pins s1 σ1 H1 _ I1 (turn n σ1 H1 w1)) λb s2 ⟨H2,I2,q2⟩=>?_);cases b with
  | true =>
    obtain⟨N,hN,q2⟩:=q2;rw[if_pos rfl];refine wpAny_passesOwn hp (thn (hb pins s2 σ1 H2 _ I2 q2) λf s3 q3=>?_);cases f with
    | next =>
      obtain⟨σ3,H3,I3,n3⟩:=q3;obtain⟨m',hm,w3⟩:=hN σ3 H3 n3;exact#[m',hm,σ3,H3,I3,w3]
    | cont =>
      obtain⟨σ3,H3,I3,n3⟩:=q3;obtain⟨m',hm,w3⟩:=hN σ3 H3 n3;exact#[m',hm,σ3,H3,I3,w3]
    | brk=>exact q3
    | ret v=>exact q3
  | false =>
    rw[if_neg NQ];exact wpAny_execs_nil #[σ1,H2,I2,q2]
end
structure It where
  go:Nat→Hp→Prop
  yld:Nat→Hp→V→Hp→Prop
  stop:Nat→Hp→Prop
noncomputable def kF(X:Cx)(pins:List (Addr×Obj))(H:Hp)(b:Addr):Prop :=
  H b=none∧b≠X.env.locals∧b∉X.fs∧(b∈X.ex∨X.s₀.heap.objs.size≤b)∧(∀ x c,X.env.cells.lookup x=some c→c≠b)∧∀ p∈X.pn++pins,p.1≠b
theorem Inv.xj{X:Cx}{pins:List (Addr×Obj)}{σ:St}{H H':Hp}{s:Shared}{b:Addr}(I:Inv X pins σ H s)(hb:s.heap.objs.size≤b)(hn:H' b=none):kF X pins H' b:=by
  refine#[hn,OX (Od I.lt hb),I.K8 hb,.inr (NW I.sz hb),λx c e z=>?_,λp hp z=>?_]
  . obtain⟨v,q⟩:=I.cell x c e
    exact absurd (Od q.lt (by rw[z];exact hb)) (OQ _)
  . exact absurd (Od (NT (I.pin p hp).1) (by rw[z];exact hb)) (OQ _)
structure Turn(P:Program)(w:World)(K:W.Frag)(tg:Expr)(J:It)(fp:List Addr)(it:Addr)(tn:Nat→Heap→Prop):Prop where
  mem:it∈fp
  obj:∀ i h,tn i h→∀ b∈fp,∃ o,h.get? b=some o∧∀ v,o.data≠.cell v
  keep:∀ i h h',tn i h→(∀ b∈fp,∀ o,h.get? b=some o→h'.get? b=some o)→tn i h'
  item:∀(X:Cx),X.prog=P→X.w=w→X.K=K→X.calm=true→∀(i:Nat) (pins:List (Addr×Obj)) (s:Shared) (σ:St) (H:Hp) (E:Value→Shared→Prop),Inv X pins σ H s→(∀ b∈fp,kF X pins H b)→tn i s.heap→J.go i H →
    wpAny (model P w) X.A (pyNext (.ref it)) (λr s1=>∃ u,r=some u ∧
      wpAny (model P w) X.A (letOwnedTupleGo tg (.ref it) u) (λ_ s2=>∃ x H',Inv X pins σ H' s2∧RelV x u∧J.yld i H x H'∧tn (i+1) s2.heap∧∀ b∈fp,H' b=none) E s1) E s
  done:∀(X:Cx),X.prog=P→X.w=w→X.K=K→X.calm=true→∀(i:Nat) (pins:List (Addr×Obj)) (s:Shared) (σ:St) (H:Hp) (E:Value→Shared→Prop),Inv X pins σ H s→(∀ b∈fp,kF X pins H b)→tn i s.heap→J.stop i H →
    wpAny (model P w) X.A (pyNext (.ref it)) (λr s1=>r=none∧Inv X pins σ H s1) E s
  self:∀(A:Around) (i:Nat) (s:Shared) (Q:Value→Shared→Prop) (E:Value→Shared→Prop),tn i s.heap→Q (.ref it) s→wpAny (model P w) A (pyIter (.ref it)) Q E s
noncomputable abbrev TI:=St→Hp→(It→Hp→Prop)→Prop
noncomputable def PIE(X:Cx)(pins:List (Addr×Obj))(σ:St)(tg:Expr)(R:It→Hp→Prop)(itv:Value)(s2:Shared):Prop :=
  ∃(it:Addr) (fp:List Addr) (tn:Nat→Heap→Prop) (J:It) (H':Hp),itv=.ref it∧Inv X pins σ H' s2∧Turn X.prog X.w X.K tg J fp it tn∧tn 0 s2.heap∧(∀ b∈fp,kF X pins H' b)∧R J H'
noncomputable def PI(X:Cx)(tg iter:Expr)(wi:TI):Prop :=
  ∀(pins:List (Addr×Obj)) (s:Shared) (σ:St) (H:Hp) (R:It→Hp→Prop),Inv X pins σ H s→wi σ H R →
    wpAny (model X.prog X.w) X.A (eval iter X.env) (λv s1=>wpAny (model X.prog X.w) X.A (pyIter v) (PIE X pins σ tg R) X.xe s1) X.xe s
theorem B8{M:Model}{A:Around}{E:Value→Shared→Prop}{s:Shared}{tg:Expr}{it:Addr}{u:Value}{o:Obj}{n:String}{vs:Array Value}{Q:Unit→Shared→Prop}(ho:s.heap.get? it=some o)(hc:o.cls=.type n)(hd:o.data=.fields vs)
    (hn:["enumerate", "zip", "dict_itemiterator", "dict_reverseitemiterator", "odict_iterator", "itertools.zip_longest", "itertools.pairwise"].contains n=false) (hQ:Q () s):wpAny M A (letOwnedTupleGo tg (.ref it) u) Q E s:=by
  unfold letOwnedTupleGo;cases tg<;>first
    | exact wpAny_pure hQ
    | (cases u<;>first
        | exact wpAny_pure hQ
        | (refine wpAny_bind (wpAny_load ho ?_)
           rw[hc,hd];show wpAny M A (if(["enumerate", "zip", "dict_itemiterator", "dict_reverseitemiterator", "odict_iterator", "itertools.zip_longest", "itertools.pairwise"].contains n&&vs[0]? == some (rawInt _))=true then _ else _) Q E s;rw[if_neg (by intro h;rw[hn,Bool.false_and]at h;cases h)];exact wpAny_pure hQ))
noncomputable def Itl(K:W.Frag)(a:Addr):It :=
  #[λi H=>∃ xs x,SqL K H a xs∧xs[i]?=some x,λi H x H'=>H'=H∧∀ xs,SqL K H a xs→xs[i]?=some x,λi H=>∃ xs,SqL K H a xs∧xs.length≤i]
theorem ym{P:Program}{w:World}{K:W.Frag}{tg:Expr}(a it:Addr):Turn P w K tg (Itl K a) [it] it (λi h=>h.IsListIter it a i) where
  mem:=by simp
  obj:=λi h st b hb=>by
    have e:b=it:=(by simpa using hb);subst e;obtain⟨o,e,c,d⟩:=st;exact#[o,e,λv z=>by rw[d]at z;cases z]
  keep:=λi h h' st k=>st.at λo e=>k it (by simp) o e
  item:=by
    intro X hP hw hK hc i pins s σ H E I hf st hg;subst hP hw hK;obtain⟨xs,x,hq,hx⟩:=hg;obtain⟨its,rv,p,hz⟩:=I.list hq;obtain⟨u,hu,ru⟩:=rv.get hx;obtain⟨f0,f1,f2,f3,f4,f5⟩:=hf it (by simp);refine wpAny_pyNext_list_item st p.isList (x:=u) (by simpa using hu) λh' st' sb=>?_;have I1:Inv X pins σ H {s with heap:=h'}:=I.turned (t':=s.toks) (λb o hb e=>(sb.2 b hb).trans e) f0 f1 f3 f4 f5;obtain⟨o,e,c,d⟩:=id st';exact#[u,rfl,B8 (s:={s with heap:=h'}) e c d (by decide) #[x,H,I1,ru,#[rfl,λys hy=>by rw[I.pU hy hq];exact hx],st',λb hb=>(hf b hb).1]]
  done:=by
    intro X hP hw hK hc i pins s σ H E I hf st hg;subst hP hw hK;obtain⟨xs,hq,hx⟩:=hg;obtain⟨its,rv,p,hz⟩:=I.list hq;obtain⟨f0,f1,f2,f3,f4,f5⟩:=hf it (by simp);have hl:=rv.length;exact wpAny_pyNext_list_end (I.ok.hd hc) st p.isList (by simp;omega) λh' eb=>#[rfl,I.turned (t':=s.toks) (λb o hb e=>eb b o hb e) f0 f1 f3 f4 f5]
  self:=λ_ _ _ _ _ st h=>wpAny_pyIter_listiter st h
end L2
namespace L2
open PySem PySem.Spec PyProof.Rows
section
variable{X:Cx}{tg:Expr}
inductive Kp(K:W.Frag)(x:V)(H:Hp)(R:It→Hp→Prop):Prop where
  | mk (a:Addr):x=.ref a→(∃ xs,SqL K H a xs)→R (Itl K a) H→Kp K x H R
noncomputable def IZ(K:W.Frag)(tl:TE):TI:=λσ H R=>tl σ H λx H1=>Kp K x H1 R
theorem dD{l:Expr}{tl:TE}(hl:PE X l tl):PI X tg l (IZ X.K tl):=by
  intro pins s σ H R I h;refine thn (hl pins s σ H _ I h) λv s1 ⟨x,H1,I1,r1,q1⟩=>?_;obtain⟨a,e,⟨xs,hq⟩,q⟩:=q1;subst e;cases r1;obtain⟨its,rv,p,hz⟩:=I1.list hq;refine wpAny_pyIter_list p.isList ?_;refine#[s1.heap.objs.size,[s1.heap.objs.size],_,_,H1,rfl,I1.kept (t':=s1.toks) λb o e=>NL _ e,ym a _,#[_,Oc _ rfl,rfl,rfl],λb hb=>?_,q];have e:b=s1.heap.objs.size:=by simpa using hb
  subst e;exact I1.xj (NO _) (I1.hok.fresh (NO _))
noncomputable def Lm(wi:TI)(g:TG)(tb:TS):TS:=λD σ H=>wi σ H λJ H1=>∃ W:Nat→Nat→St→Hp→Prop,(∃ m,W 0 m σ H1)∧∀ i m σ H,W i m σ H →
  (J.stop i H∧D.nx σ H)∨(J.go i H∧∃ N:St→Hp→Prop,(∀ σ' H',N σ' H'→∃ m',m'<m∧W (i+1) m' σ' H')∧∀ x H',J.yld i H x H'→g x σ H' λσ2 H2=>tb {D with nx:=N,ct:=N,bk:=D.nx} σ2 H2)
noncomputable def ql(fp:List Addr)(h:Heap):List (Addr×Obj):=fp.filterMap λb=>(h.get? b).map λo=>(b,o)
theorem bt{fp:List Addr}{h:Heap}{b:Addr}{o:Obj}(hb:b∈fp)(e:h.get? b=some o):(b,o)∈ql fp h:=OJ.mpr #[b,hb,by rw[e];rfl]
theorem yp{fp:List Addr}{h:Heap}{p:Addr×Obj}(hp:p∈ql fp h):p.1∈fp∧h.get? p.1=some p.2:=by
  obtain⟨b,hb,e⟩:=OJ.mp hp;cases q:h.get? b with
  | none=>rw[q]at e;cases e
  | some o =>
    rw[q]at e;have e':(b,o)=p:=Oh e;subst e';exact#[hb,q]
theorem Inv.pinned{pins:List (Addr×Obj)}{σ:St}{H:Hp}{s:Shared}{fp:List Addr}(I:Inv X pins σ H s)(hf:∀ b∈fp,kF X pins H b)(ho:∀ b∈fp,∃ o,s.heap.get? b=some o∧∀ v,o.data≠.cell v):Inv X (pins++ql fp s.heap) σ H s :=
  I.xi λp hp=>(Om.mp hp).elim (λz=>I.pin p (NS _ z)) λz=>by
    obtain⟨hb,e⟩:=yp z;obtain⟨f0,f1,f2,_⟩:=hf p.1 hb;obtain⟨o,e',d⟩:=ho p.1 hb;rw[e]at e';cases e';exact#[e,f0,f1,f2,d]
theorem Inv.cX{pins pl:List (Addr×Obj)}{σ:St}{H:Hp}{s:Shared}(I:Inv X (pins++pl) σ H s):Inv X pins σ H s:=I.xi λp hp=>I.pin p (NS _ (Ot _ hp))
theorem eu{iter:Expr}{body:List Stmt}{wi:TI}{g:TG}{tb:TS}{pos:Pos}(hp:PassesOwn (model X.prog X.w) X.A X.env X.xe)(hc:X.calm=true)(hi:PI X tg iter wi)(hg:PG X tg g)(hb:PSs X body tb)
    (hs:∀ x,foldedSetIterable iter X.env x=pure x:=by intro _;rfl):PS X (.For tg iter body [] pos) (Lm wi g tb):=by
  intro pins s σ H D I h;refine wpAny_For (thn (hi pins s σ H _ I h) λv s1 h1=>thn h1 λitv s2 h2=>?_) hs;obtain⟨it,fp,tn,J,H2,e,I2,T,st2,f2,W,⟨m0,w0⟩,turn⟩:=h2;subst e;have jP:∀ {H':Hp},(∀ b∈fp,H' b=none)→∀ b∈fp,kF X pins H' b:=λhn b hb=>#[hn b hb,(f2 b hb).2];refine codeAny_forLoop_any (λn s'=>∃ i σ' H',Inv X pins σ' H' s'∧tn i s'.heap∧(∀ b∈fp,H' b=none)∧W i n σ' H') ?_ m0 #[0,σ,H2,I2,st2,λb hb=>(f2 b hb).1,w0];rintro n s3 ⟨i,σ3,H3,I3,st3,fr3,w3⟩;rcases turn i n σ3 H3 w3 with⟨stop,qn⟩|⟨go,N,hN,step⟩
  . refine wpAny_passesOwn hp (thn (T.done X rfl rfl rfl hc i pins s3 σ3 H3 X.xe I3 (jP fr3) st3 stop) λr s4 ⟨hr,I4⟩=>?_)
    subst hr;exact wpAny_execs_nil #[σ3,H3,I4,qn]
  . refine wpAny_passesOwn hp (thn (T.item X rfl rfl rfl hc i pins s3 σ3 H3 X.xe I3 (jP fr3) st3 go) λr s4 ⟨u,hr,h4⟩=>?_)
    subst hr;refine wpAny_passesOwn hp (thn h4 λ_ s5 ⟨x,H5,I5,r5,y5,st5,fr5⟩=>?_);have I5':=I5.pinned (jP fr5) (T.obj _ _ st5);refine wpAny_passesOwn hp (thn (hg _ s5 σ3 H5 x u _ I5' r5 (step x H5 y5)) λ_ s6 ⟨σ6,H6,I6,q6⟩=>?_);refine wpAny_passesOwn hp (thn (hb _ s6 σ6 H6 _ I6 q6) λf s7 q7=>?_);have again:∀ {σ7:St} {H7:Hp},Inv X (pins++ql fp s5.heap) σ7 H7 s7→N σ7 H7→∃ m,m<n∧∃ i σ' H',Inv X pins σ' H' s7∧tn i s7.heap∧(∀ b∈fp,H' b=none)∧W i m σ' H':=λ{σ7 H7} I7 n7=>by
      obtain⟨m',hm,w7⟩:=hN σ7 H7 n7;refine#[m',hm,i+1,σ7,H7,I7.cX,T.keep _ _ _ st5 λb hb o e=>(I7.pin (b,o) (NS _ (NS _ (bt hb e)))).1,λb hb=>?_,w7];obtain⟨o,e,d⟩:=T.obj _ _ st5 b hb;exact(I7.pin (b,o) (NS _ (NS _ (bt hb e)))).2.1
    cases f with
    | next=>obtain⟨σ7,H7,I7,n7⟩:=q7;exact again I7 n7
    | cont=>obtain⟨σ7,H7,I7,n7⟩:=q7;exact again I7 n7
    | brk=>obtain⟨σ7,H7,I7,q7⟩:=q7;exact#[σ7,H7,I7.cX,q7]
    | ret v=>obtain⟨x7,σ7,H7,I7,r7,q7⟩:=q7;exact#[x7,σ7,H7,I7.cX,r7,q7]
end
theorem iT{K:W.Frag}{a:Addr}{xs:List V}{g:TG}{tb:TS}{D:Ends}{σ:St}{H:Hp}(Pv:Nat→St→Hp→Prop)(h0:Pv 0 σ H)(hl:∀ i σ H,i≤xs.length→Pv i σ H→SqL K H a xs)
    (hs:∀ i x σ H,xs[i]?=some x→Pv i σ H→g x σ H λσ2 H2=>tb {D with nx:=Pv (i+1),ct:=Pv (i+1),bk:=D.nx} σ2 H2) (hd:∀ σ H,Pv xs.length σ H→D.nx σ H) :
    ∃ W:Nat→Nat→St→Hp→Prop,(∃ m,W 0 m σ H)∧∀ i m σ H,W i m σ H →
      ((Itl K a).stop i H∧D.nx σ H)∨((Itl K a).go i H∧∃ N:St→Hp→Prop,(∀ σ' H',N σ' H'→∃ m',m'<m∧W (i+1) m' σ' H')∧∀ x H',(Itl K a).yld i H x H'→g x σ H' λσ2 H2=>tb {D with nx:=N,ct:=N,bk:=D.nx} σ2 H2):=by
  refine#[λi m σ H=>m=xs.length-i∧i≤xs.length∧Pv i σ H,#[xs.length,by simp,Oy _,h0],?_];rintro i m σ H ⟨rfl,hi,p⟩;have q:=hl i σ H hi p;by_cases hlt:i<xs.length
  . refine .inr #[#[xs,xs[i],q,by simp[hlt]],Pv (i+1),λσ' H' p'=>#[xs.length-(i+1),by omega,rfl,hlt,p'],λx H' y=>?_]
    obtain⟨e,y⟩:=y;subst e;exact hs i x σ _ (y xs q) p
  . have e:i=xs.length:=by omega
    subst e;exact .inl #[#[xs,q,NO _],hd σ H p]
end L2
namespace L2
open PySem PySem.Spec PyProof.Rows
noncomputable abbrev R2:=V→V→Hp→VK→Prop
noncomputable def OpR(X:Cx)(f:Value→Value→Sem Value)(r:R2):Prop :=
  ∀(pins:List (Addr×Obj)) (s:Shared) (σ:St) (H:Hp) (x y:V) (v u:Value) (Q:VK),Inv X pins σ H s→RelV x v→RelV y u→r x y H Q →
    wpAny (model X.prog X.w) X.A (f v u) (EP X pins σ Q) X.xe s
noncomputable def UnR(X:Cx)(f:Value→Sem Value)(r:V→Hp→VK→Prop):Prop :=
  ∀(pins:List (Addr×Obj)) (s:Shared) (σ:St) (H:Hp) (x:V) (v:Value) (Q:VK),Inv X pins σ H s→RelV x v→r x H Q →
    wpAny (model X.prog X.w) X.A (f v) (EP X pins σ Q) X.xe s
noncomputable def eM(X:Cx)(f:Value)(r:List V→Hp→VK→Prop):Prop :=
  ∀(pins:List (Addr×Obj)) (s:Shared) (σ:St) (H:Hp) (xs:List V) (us:List Value) (Q:VK),Inv X pins σ H s→Vals xs us→r xs H Q →
    wpAny (model X.prog X.w) X.A (call f us) (EP X pins σ Q) X.xe s
noncomputable def tOp(r:R2)(ta tb:TE):TE:=λσ H Q=>ta σ H λx H1=>tb σ H1 λy H2=>r x y H2 Q
noncomputable def tUn(r:V→Hp→VK→Prop)(ta:TE):TE:=λσ H Q=>ta σ H λx H1=>r x H1 Q
inductive IrI(C:Int→Int→Prop)(g:Int→Int→V)(x y:V)(H:Hp)(Q:VK):Prop where
  | mk (i j:Int):x=.int i→y=.int j→C i j→Q (g i j) H→IrI C g x y H Q
noncomputable def rI(C:Int→Int→Prop)(g:Int→Int→V):R2:=λx y H Q=>IrI C g x y H Q
inductive Kq(g:Int→Int→V)(x y:V)(H:Hp)(Q:VK):Prop where
  | mk (i j:Int):x=.int i→y=.int j→Q (g i j) H→Kq g x y H Q
noncomputable def rI0(g:Int→Int→V):R2:=λx y H Q=>Kq g x y H Q
noncomputable def rU(g:Int→V):V→Hp→VK→Prop:=λx H Q=>∃ i,x=.int i∧Q (g i) H
section
variable{X:Cx}{a b c:Expr}{ta tb tc:TE}{pos:Pos}
theorem Gw(ha:PE X a ta)(hb:PE X b tb){pins:List (Addr×Obj)}{s:Shared}{σ:St}{H:Hp}{R:V→V→Hp→Prop}(I:Inv X pins σ H s)
    (h:ta σ H λx H1=>tb σ H1 λy H2=>R x y H2) {Q:Value→Shared→Prop} {f:Value→Value→Sem Value}
    (hf:∀ v u s2 x y H2,Inv X pins σ H2 s2→RelV x v→RelV y u→R x y H2→wpAny (model X.prog X.w) X.A (f v u) Q X.xe s2) :
    wpAny (model X.prog X.w) X.A (eval a X.env) (λv s₁=>wpAny (model X.prog X.w) X.A (eval b X.env) (λu s₂=>wpAny (model X.prog X.w) X.A (f v u) Q X.xe s₂) X.xe s₁) X.xe s:=by
  refine thn (ha pins s σ H _ I h) λv s1 ⟨x,H1,I1,r1,q1⟩=>?_;refine thn (hb pins s1 σ H1 _ I1 q1) λu s2 ⟨y,H2,I2,r2,q2⟩=>?_;exact hf v u s2 x y H2 I2 r1 r2 q2
theorem cb{op:Operator}{r:R2}(ho:OpR X (binaryOp op) r)(ha:PE X a ta)(hb:PE X b tb):PE X (.BinOp a op b pos) (tOp r ta tb):=by
  intro pins s σ H Q I h;exact wpAny_BinOp (Gw ha hb I h λv u s2 x y H2 I2 rx ry q=>ho pins s2 σ H2 x y v u Q I2 rx ry q)
theorem Ei{op:UnaryOp}{r:V→Hp→VK→Prop}(ho:UnR X (unaryOp op) r)(ha:PE X a ta):PE X (.UnaryOp op a pos) (tUn r ta):=by
  intro pins s σ H Q I h;exact UnaryOp_ (thn (ha pins s σ H _ I h) λv s1 ⟨x,H1,I1,r1,q1⟩=>ho pins s1 σ H1 x v Q I1 r1 q1)
theorem opI{f:Value→Value→Sem Value}{C:Int→Int→Prop}{g:Int→Int→Int}
    (rule:∀(i j:Int) (t u:Tok) (s:Shared) (Q:Value→Shared→Prop) (E:Value→Shared→Prop),C i j→Q (.int (g i j) s.toks) {s with toks:=s.toks+1}→wpAny (model X.prog X.w) X.A (f (.int i t) (.int j u)) Q E s) :
    OpR X f (rI C λi j=>.int (g i j)):=by
  intro pins s σ H x y v u Q I rx ry h;obtain⟨i,j,rfl,rfl,hc,q⟩:=h;obtain⟨t,rfl⟩:=rx;obtain⟨t',rfl⟩:=ry;exact rule i j t t' s _ _ hc #[.int (g i j),H,I.tok _,#[_,rfl],q]
theorem Kr{f:Value→Value→Sem Value}{g:Int→Int→Int}
    (rule:∀(i j:Int) (t u:Tok) (s:Shared) (Q:Value→Shared→Prop) (E:Value→Shared→Prop),Q (.int (g i j) s.toks) {s with toks:=s.toks+1}→wpAny (model X.prog X.w) X.A (f (.int i t) (.int j u)) Q E s) :
    OpR X f (rI0 λi j=>.int (g i j)):=by
  intro pins s σ H x y v u Q I rx ry h;obtain⟨i,j,rfl,rfl,q⟩:=h;obtain⟨t,rfl⟩:=rx;obtain⟨t',rfl⟩:=ry;exact rule i j t t' s _ _ #[.int (g i j),H,I.tok _,#[_,rfl],q]
theorem Ej{f:Value→Value→Sem Value}{g:Int→Int→Bool}
    (rule:∀(i j:Int) (t u:Tok) (s:Shared) (Q:Value→Shared→Prop) (E:Value→Shared→Prop),Q (.bool (g i j)) s→wpAny (model X.prog X.w) X.A (f (.int i t) (.int j u)) Q E s) :
    OpR X f (rI0 λi j=>.bl (g i j)):=by
  intro pins s σ H x y v u Q I rx ry h;obtain⟨i,j,rfl,rfl,q⟩:=h;obtain⟨t,rfl⟩:=rx;obtain⟨t',rfl⟩:=ry;exact rule i j t t' s _ _ #[.bl (g i j),H,I,rfl,q]
noncomputable def Ln(i j:Int):Prop:=0≤j∧j≤1000000∧i.natAbs<2 ^ 64
noncomputable def Gx(i j:Int):Prop:=(-(2 ^ 64)<i∧i<2 ^ 64)∨(-(2 ^ 64)<j∧j<2 ^ 64)
theorem Gx.ok{i j:Int}(h:Gx i j):IntMulOk i j:=by
  rcases h with⟨h1,h2⟩|⟨h1,h2⟩
  . exact .of_left (intBits_le_64 h1 h2)
  . exact .of_right (intBits_le_64 h1 h2)
theorem nR:OpR X (binaryOp .Add) (rI0 λi j=>.int (i+j)):=Kr λ_ _ _ _ _ _ _ q=>add_int q
theorem tI:OpR X (binaryOp .Sub) (rI0 λi j=>.int (i-j)):=Kr λ_ _ _ _ _ _ _ q=>sub_int q
theorem wJ:OpR X (binaryOp .Mult) (rI Gx λi j=>.int (i*j)):=opI λ_ _ _ _ _ _ _ hc q=>mul_int q hc.ok
theorem E3:OpR X (binaryOp .Mod) (rI (λ_ j=>0<j) λi j=>.int (i%j)):=opI λi j _ _ _ _ _ hc q=>by
  have h1:(0:Int)<j:=hc;exact mod_int' (by omega) (by rw[Int.fmod_eq_emod_of_nonneg i (by omega)];exact q)
theorem wK:OpR X (binaryOp .Pow) (rI Ln λi j=>.int (i ^ j.toNat)):=opI λ_ _ _ _ _ _ _ hc q=>pow_int_small hc.1 hc.2.1 hc.2.2 q
theorem unI{f:Value→Sem Value}{g:Int→Int}
    (rule:∀(i:Int) (t:Tok) (s:Shared) (Q:Value→Shared→Prop) (E:Value→Shared→Prop),Q (.int (g i) s.toks) {s with toks:=s.toks+1}→wpAny (model X.prog X.w) X.A (f (.int i t)) Q E s) :
    UnR X f (rU λi=>.int (g i)):=by
  intro pins s σ H x v Q I rx h;obtain⟨i,rfl,q⟩:=h;obtain⟨t,rfl⟩:=rx;exact rule i t s _ _ #[.int (g i),H,I.tok _,#[_,rfl],q]
theorem Bt:UnR X (unaryOp .USub) (rU λi=>.int (-i)):=unI λ_ _ _ _ _ q=>neg_int q
end
noncomputable def Ks:V→V→Bool
  | .non,.non=>true|.non,.int _=>true|.int _,.non=>true|.non,.bl _=>true|.bl _,.non=>true|.non,.str _=>true|.str _,.non=>true
  | .int _,.int _=>true|.bl _,.bl _=>true|.str _,.str _=>true|.byt _,.byt _=>true
  | .int _,.str _=>true|.str _,.int _=>true|.bl _,.str _=>true|.str _,.bl _=>true
  | _,_=>false
noncomputable def rEq:R2:=λx y H Q=>Ks x y=true∧Q (.bl (decide (x=y))) H
noncomputable def rNe:R2:=λx y H Q=>Ks x y=true∧Q (.bl (!decide (x=y))) H
theorem xk{i j:Int}:decide (V.int i=V.int j)=(i == j):=by
  rw[OK];simp
theorem Bu{i j:Bool}:decide (V.bl i=V.bl j)=(i == j):=by
  rw[OK];simp
theorem ji{i j:Str}:decide (V.str i=V.str j)=(i == j):=by
  rw[OK];simp
theorem xm{i j:Array UInt8}:decide (V.byt i=V.byt j)=(i.toList == j.toList):=by
  rw[OK];cases i;cases j;simp
section
variable{X:Cx}{a b c:Expr}{ta tb tc:TE}{pos:Pos}
theorem a5{pins:List (Addr×Obj)}{σ:St}{H:Hp}{s:Shared}{Q:VK}{k k':Bool}(I:Inv X pins σ H s)(q:Q (.bl k) H)(e:k=k'):EP X pins σ Q (.bool k') s:=by
  subst e;exact#[.bl k,H,I,rfl,q]
theorem dB:OpR X (compareOp .Eq) rEq:=by
  intro pins s σ H x y v u Q I rx ry h;obtain⟨hs,q⟩:=h;cases x with
  | non =>
    cases rx;cases y with
    | non=>cases ry;exact PySem.EqNone.eq_none_none (a5 I q (by simp))
    | bl j=>cases ry;exact PySem.EqNone.eq_none_bool (a5 I q (by simp))
    | int j=>obtain⟨t',rfl⟩:=ry;exact PySem.EqNone.eq_none_int (a5 I q (by simp))
    | str j=>obtain⟨t',rfl⟩:=ry;exact PySem.EqNone.eq_none_str (a5 I q (by simp))
    | _=>exact absurd (show false=true from hs) NQ
  | bl i =>
    cases rx;cases y with
    | non=>cases ry;exact PySem.EqNone.eq_bool_none (a5 I q (by simp))
    | bl j=>cases ry;exact eq_bool (a5 I q Bu)
    | str j=>obtain⟨t',rfl⟩:=ry;exact PySem.EqMixed.eq_bool_str (a5 I q (by simp))
    | _=>exact absurd (show false=true from hs) NQ
  | int i =>
    obtain⟨t,rfl⟩:=rx;cases y with
    | non=>cases ry;exact PySem.EqNone.eq_int_none (a5 I q (by simp))
    | int j=>obtain⟨t',rfl⟩:=ry;exact eq_int (a5 I q xk)
    | str j=>obtain⟨t',rfl⟩:=ry;exact PySem.EqMixed.eq_int_str (a5 I q (by simp))
    | _=>exact absurd (show false=true from hs) NQ
  | str i =>
    obtain⟨t,rfl⟩:=rx;cases y with
    | non=>cases ry;exact PySem.EqNone.eq_str_none (a5 I q (by simp))
    | bl j=>cases ry;exact PySem.EqMixed.eq_str_bool (a5 I q (by simp))
    | int j=>obtain⟨t',rfl⟩:=ry;exact PySem.EqMixed.eq_str_int (a5 I q (by simp))
    | str j=>obtain⟨t',rfl⟩:=ry;exact eq_str (a5 I q ji)
    | _=>exact absurd (show false=true from hs) NQ
  | byt i =>
    obtain⟨t,rfl⟩:=rx;cases y with
    | byt j=>obtain⟨t',rfl⟩:=ry;exact PySem.W.eq_bytes (a5 I q xm)
    | _=>exact absurd (show false=true from hs) NQ
  | _=>cases y<;>exact absurd (show false=true from hs) NQ
theorem qV:OpR X (compareOp .NotEq) rNe:=by
  intro pins s σ H x y v u Q I rx ry h;obtain⟨hs,q⟩:=h;cases x with
  | non =>
    cases rx;cases y with
    | non=>cases ry;exact PySem.EqNone.ne_none_none (a5 I q (by simp))
    | bl j=>cases ry;exact PySem.EqNone.ne_none_bool (a5 I q (by simp))
    | int j=>obtain⟨t',rfl⟩:=ry;exact PySem.EqNone.ne_none_int (a5 I q (by simp))
    | str j=>obtain⟨t',rfl⟩:=ry;exact PySem.EqNone.ne_none_str (a5 I q (by simp))
    | _=>exact absurd (show false=true from hs) NQ
  | bl i =>
    cases rx;cases y with
    | non=>cases ry;exact PySem.EqNone.ne_bool_none (a5 I q (by simp))
    | bl j=>cases ry;exact ne_bool (a5 I q (congrArg not Bu))
    | str j=>obtain⟨t',rfl⟩:=ry;exact PySem.EqMixed.ne_bool_str (a5 I q (by simp))
    | _=>exact absurd (show false=true from hs) NQ
  | int i =>
    obtain⟨t,rfl⟩:=rx;cases y with
    | non=>cases ry;exact PySem.EqNone.ne_int_none (a5 I q (by simp))
    | int j=>obtain⟨t',rfl⟩:=ry;exact ne_int (a5 I q (congrArg not xk))
    | str j=>obtain⟨t',rfl⟩:=ry;exact PySem.EqMixed.ne_int_str (a5 I q (by simp))
    | _=>exact absurd (show false=true from hs) NQ
  | str i =>
    obtain⟨t,rfl⟩:=rx;cases y with
    | non=>cases ry;exact PySem.EqNone.ne_str_none (a5 I q (by simp))
    | bl j=>cases ry;exact PySem.EqMixed.ne_str_bool (a5 I q (by simp))
    | int j=>obtain⟨t',rfl⟩:=ry;exact PySem.EqMixed.ne_str_int (a5 I q (by simp))
    | str j=>obtain⟨t',rfl⟩:=ry;exact ne_str (a5 I q (congrArg not ji))
    | _=>exact absurd (show false=true from hs) NQ
  | byt i =>
    obtain⟨t,rfl⟩:=rx;cases y with
    | byt j=>obtain⟨t',rfl⟩:=ry;exact PySem.W.ne_bytes (a5 I q (congrArg not xm))
    | _=>exact absurd (show false=true from hs) NQ
  | _=>cases y<;>exact absurd (show false=true from hs) NQ
theorem oQ:OpR X (compareOp .Lt) (rI0 λi j=>.bl (decide (i<j))):=Ej λ_ _ _ _ _ _ _ q=>lt_int q
theorem lb:OpR X (compareOp .LtE) (rI0 λi j=>.bl (decide (i≤j))):=Ej λ_ _ _ _ _ _ _ q=>le_int q
theorem tK:OpR X (compareOp .Gt) (rI0 λi j=>.bl (decide (j<i))):=Ej λ_ _ _ _ _ _ _ q=>gt_int q
theorem Ek:OpR X (compareOp .GtE) (rI0 λi j=>.bl (decide (j≤i))):=Ej λ_ _ _ _ _ _ _ q=>ge_int q
theorem yq:OpR X (compareOp .In) (λx y H Q=>∃ i j,x=.str i∧y=.str j∧Q (.bl (!(Builtin.Str.occurrences j i 0 j.length 1).isEmpty)) H):=by
  intro pins s σ H x y v u Q I rx ry h;obtain⟨i,j,rfl,rfl,q⟩:=h;obtain⟨t,rfl⟩:=rx;obtain⟨t',rfl⟩:=ry;exact in_str (a5 I q rfl)
theorem qm:OpR X (compareOp .Is) (λx y H Q=>y=.non∧Q (.bl (decide (x=.non))) H):=by
  intro pins s σ H x y v u Q I rx ry h;obtain⟨rfl,q⟩:=h;cases ry;refine is_none_gen (a5 I q ?_);cases x<;>first
    | (cases rx;rfl)
    | (obtain⟨t,rfl⟩:=rx;rfl)
theorem lF:OpR X (compareOp .IsNot) (λx y H Q=>y=.non∧Q (.bl (!decide (x=.non))) H):=by
  intro pins s σ H x y v u Q I rx ry h;obtain⟨rfl,q⟩:=h;cases ry;refine isnot_none_gen (a5 I q ?_);cases x<;>first
    | (cases rx;rfl)
    | (obtain⟨t,rfl⟩:=rx;rfl)
theorem aN(b:Expr){op:CmpOp}(h:op≠.In:=by decide)(h2:op≠.NotIn:=by decide):behindInMarks op b=false:=by
  have e1:(op == CmpOp.In)=false:=by cases op<;>first|rfl|exact absurd rfl h
  have e2:(op == CmpOp.NotIn)=false:=by cases op<;>first|rfl|exact absurd rfl h2
  cases b<;>simp[behindInMarks,e1,e2]
theorem cc{op:CmpOp}{r:R2}(ho:OpR X (compareOp op) r)(ha:PE X a ta)(hb:PE X b tb)(hm:behindInMarks op b=false):PE X (.Compare a [op] [b] pos) (tOp r ta tb):=by
  intro pins s σ H Q I h;exact wpAny_Compare1 (Gw ha hb I h λv u s2 x y H2 I2 rx ry q=>ho pins s2 σ H2 x y v u Q I2 rx ry q) hm
noncomputable def El(t:TE):TT:=λσ H Q=>t σ H λx H'=>Gu x H' Q
theorem aH{op:CmpOp}{r:R2}(ho:OpR X (compareOp op) r)(ha:PE X a ta)(hb:PE X b tb)(hm:behindInMarks op b=false):PT X (.Compare a [op] [b] pos) (El (tOp r ta tb)):=by
  intro pins s σ H Q I h;refine wpAny_isTrue_Compare1 (thn (ha pins s σ H _ I h) λv s1 ⟨x,H1,I1,r1,q1⟩=>thn (hb pins s1 σ H1 _ I1 q1) λu s2 ⟨y,H2,I2,r2,q2⟩ =>
    thn (ho pins s2 σ H2 x y v u _ I2 r1 r2 q2) λc s3 ⟨z,H3,I3,r3,k,e,q3⟩=>?_) hm
  subst e;cases r3;exact wpAny_truthy_bool #[H3,I3,q3]
noncomputable def E4(r r':R2)(ta tb tc:TE):TE:=λσ H Q=>ta σ H λx H1=>tb σ H1 λy H2=>r x y H2 λz H3=>∃ k,z=.bl k ∧
  (if k=true then tc σ H3 λw' H4=>r' y w' H4 Q else Q (.bl false) H3)
theorem gH{op op':CmpOp}{r r':R2}(ho:OpR X (compareOp op) r)(ho':OpR X (compareOp op') r')(ha:PE X a ta)(hb:PE X b tb)(hc:PE X c tc)
    (hm:lastMarks [op,op'] [b,c]=false:=by with_unfolding_all rfl):PT X (.Compare a [op,op'] [b,c] pos) (El (E4 r r' ta tb tc)):=by
  intro pins s σ H Q I h;refine isTrue_chain (thn (ha pins s σ H _ I h) λv s1 ⟨x,H1,I1,r1,q1⟩=>test_link (thn (hb pins s1 σ H1 _ I1 q1) λu s2 ⟨y,H2,I2,r2,q2⟩ =>
    thn (ho pins s2 σ H2 x y v u _ I2 r1 r2 q2) λd s3 ⟨z,H3,I3,r3,k,e,q3⟩=>?_)) hm
  subst e;cases r3;refine wpAny_truthy_bool ?_;cases k with
  | false =>
    obtain⟨k',e',q'⟩:=q3;cases e';exact ite_ff #[H3,I3,q']
  | true =>
    refine ite_tt (test_last (thn (hc pins s3 σ H3 _ I3 q3) λw' s4 ⟨z',H4,I4,r4,q4⟩=>thn (ho' pins s4 σ H4 y z' u w' _ I4 r2 r4 q4) λd' s5 ⟨z2,H5,I5,r5,k2,e2,q5⟩=>?_));subst e2;cases r5;exact wpAny_truthy_bool #[H5,I5,q5]
theorem nS:(sizeLine:Nat)<2 ^ 63:=by rw[sizeLine_eq];decide
theorem vt:OpR X (binaryOp .Add) (λx y H Q=>∃ i j,x=.str i∧y=.str j∧i.length+j.length≤sizeLine∧Q (.str (i++j)) H):=by
  intro pins s σ H x y v u Q I rx ry h;obtain⟨i,j,rfl,rfl,hz,q⟩:=h;obtain⟨t,rfl⟩:=rx;obtain⟨t',rfl⟩:=ry;exact add_str (λt' tk=>#[.str (i++j),H,I.tok _,#[_,rfl],q]) hz
theorem vals1{x:V}{us:List Value}(r:Vals [x] us):∃ u,us=[u]∧RelV x u:=by
  cases r with
  | cons r1 r2=>cases r2;exact#[_,rfl,r1]
theorem vals2{x y:V}{us:List Value}(r:Vals [x,y] us):∃ u w',us=[u,w']∧RelV x u∧RelV y w':=by
  cases r with
  | cons r1 r2 =>
    cases r2 with
    | cons r3 r4=>cases r4;exact#[_,_,rfl,r1,r3]
theorem Ac:eM X (.builtin "abs") (λxs H Q=>∃ i,xs=[.int i]∧Q (.int (if i<0 then -i else i)) H):=by
  intro pins s σ H xs us Q I r h;obtain⟨i,rfl,q⟩:=h;obtain⟨u,rfl,t,rfl⟩:=vals1 r;exact call_abs_int λu tk=>#[.int (if i<0 then -i else i),H,I.tok _,#[_,rfl],q]
theorem yr(hc:X.calm=true):eM X (.builtin "max") (λxs H Q=>∃ i j,xs=[.int i,.int j]∧Q (.int (if j>i then j else i)) H):=by
  intro pins s σ H xs us Q I r h;obtain⟨i,j,rfl,q⟩:=h;obtain⟨u,w',rfl,⟨t,rfl⟩,⟨t',rfl⟩⟩:=vals2 r;refine max_two_ints (I.ok.hd hc) λh' tk k=>#[_,H,I.kept k,?_,q];by_cases hj:j>i
  . rw[if_pos hj,if_pos hj];exact#[_,rfl]
  . rw[if_neg hj,if_neg hj];exact#[_,rfl]
theorem r8:eM X (.type "str") (λxs H Q=>∃ i,xs=[.int i]∧i.natAbs.log2<1920∧Q (.str (toString i)) H):=by
  intro pins s σ H xs us Q I r h;obtain⟨i,rfl,hz,q⟩:=h;obtain⟨u,rfl,t,rfl⟩:=vals1 r;exact PySem.P.str_of_int hz #[.str _,H,I.tok _,#[_,rfl],q]
end
end L2
namespace L2
open PySem PySem.Spec PyProof.Rows
structure zY(h:Heap)(x dx C:Addr)(mA:Str→Option Value):Prop where
  obj:h.get? x=some (PySem.W.instObj C dx)
  ns:h.Ns1 dx mA
  ne:dx≠x
theorem yt{h:Heap}{dx:Addr}{mA:Str→Option Value}(n:h.Ns1 dx mA):∃ od,h.get? dx=some od∧∀ name,PySem.W.lookIn name od=some (mA name):=by
  obtain⟨o,es,ep,ho,hd,hk,_,hm⟩:=n;refine#[o,ho,λname=>?_];have e:=hm name;unfold nsFind findBy at e;rw[←Array.find?_toList]at e;unfold PySem.W.lookIn;rw[hd];dsimp only;split
  . rename_i y q
    rw[q]at e;exact congrArg some e
  . rename_i q
    rw[q]at e;have a:es.toList.any (·.refKey)=false:=by
      rw[List.any_eq_false];intro y hy;obtain⟨z,t,Lo⟩:=hk y (Array.mem_toList_iff.mp hy);simp[DictEntry.refKey,Lo]
    have a':¬es.toList.any (·.refKey)=true:=(by rw[a];exact NQ);rw[if_neg a'];exact congrArg some e
theorem zY.look{h:Heap}{x dx C:Addr}{mA:Str→Option Value}(I:zY h x dx C mA):∃ od,PySem.W.InstAt h x (PySem.W.instObj C dx) C (some od)∧∀ name,PySem.W.lookIn name od=some (mA name) :=
  let ⟨od,ho,hl⟩:=yt I.ns
  #[od,#[I.obj,rfl,rfl,ho],hl]
section
variable{prog:Program}{w:World}{A:Around}{E:Value→Shared→Prop}{s:Shared}{K:W.Frag}{x dx C f:Addr}{mA:Str→Option Value}{name:Str}{v:Value}
theorem get_map{expr:Bool}{Q:Value→Shared→Prop}(X:K.In s.heap)(I:zY s.heap x dx C mA)(hg:PySem.W.plainGet K C name=true)(hh:PySem.W.hasDictIn K C=true)
    (ha:PySem.W.findIn K (.ref C) name=some none) (hv:mA name=some v) (hv':PySem.W.handedIn v=true) (h:Q v {s with toks:=s.toks+1}) :
    wpAny (model prog w) A (getAttr (.ref x) name expr) Q E s:=by
  obtain⟨od,J,hl⟩:=I.look;exact PySem.W.get_value X J (PySem.W.plainGet_of hg).1 (PySem.W.findObj_own hh ha rfl (by rw[hl,hv])) hv' h
theorem Ad{pl:Sem Bool}{Q:Value×List Value→Shared→Prop}(X:K.In s.heap)(I:zY s.heap x dx C mA)(hg:PySem.W.plainGet K C name=true)
    (hf:PySem.W.findIn K (.ref C) name=some (some (.ref f))) (ht:PySem.W.isFn K (.ref f)=true) (hv:mA name=none) (h:Q (.ref f,[.ref x]) s) :
    wpAny (model prog w) A (getMethod (.ref x) name pl) Q E s:=by
  obtain⟨od,J,hl⟩:=I.look;exact PySem.W.method_fn X J (PySem.W.plainGet_of hg).1 (PySem.W.plainGet_of hg).2 hf (beq_iff_eq.mp ht) (by show(PySem.W.lookIn name od).map (·.isSome)=some false;rw[hl,hv];rfl) h
theorem CZ{ns:List Str}{Q:Unit→Shared→Prop}(X:K.In s.heap)(I:zY s.heap x dx C mA)
    (hs:PySem.W.findIn K (.ref C) "__setattr__" = some (some (.builtin "object.__setattr__"))) (hp:PySem.W.plainOver K C=true) (ht:PySem.W.takerIn K C name=some none) (hh:PySem.W.hasDictIn K C=true)
    (hw:PySem.Within mA ns) (hsz:ns.length≤sizeLine)
    (h:∀ h',zY h' x dx C (λy=>if y=name then some v else mA y)→Heap.SameBut dx s.heap h'→Q () {s with heap:=h',toks:=s.toks+2}) :
    wpAny (model prog w) A (setAttr (.ref x) name v) Q E s:=by
  obtain⟨od,J,hl⟩:=I.look;refine PySem.W.set_plain X J hs (PySem.W.osa_open (s:={s with toks:=s.toks+1}) (r:=none) X J hp ht λb=>?_);obtain⟨cd,hc,hd'⟩:=PySem.W.any_some hh;have hx:s.heap.get? x=some #[.ref C,some dx,.plain,#[]]:=I.obj;refine wpAny_bind (wpAny_pure (wpAny_bind (wpAny_bind (wpAny_loadPart hx (wpAny_bind (PySem.W.Looks.here (s:={s with toks:=s.toks+1}) (PySem.W.looks_clsIn X hc) ?_))))));rw[hd'];refine wpAny_pure (a:=some dx) (wpAny_bind (wpAny_pure (wpAny_bind ?_)));refine wpAny_nsSet1 (s:={s with toks:=s.toks+1}) I.ns λh' hn2 hs2=>?_;obtain⟨oD,esD,epD,hoD,hdD,hcD⟩:=hn2.count (PySem.Within.cons name v hw);refine wpAny_bind (wpAny_lookBehind hoD (by rw[hdD];exact pastItsLine_dict (NW hcD (by rw[Oi];omega))) ?_);exact wpAny_pure (h _ #[(hs2.2 _ (Oj I.ne)).trans I.obj,hn2,I.ne] hs2)
theorem Ae{R:Result→Shared→Prop}{vs:List Value}{kw:List (Str×Value)}(X:K.In s.heap)(hm:PySem.W.makesIn K C=true)
    (hi:PySem.W.findIn K (.ref C) "__init__" = some (some (.ref f))) (hf:PySem.W.typeIn K (.ref f)=some (.type "function"))
    (h:codeAny (model prog w) (A.under (.builtin "type.__call__" #[.ref C::vs,kw])) (.call (.ref f) #[.ref (s.heap.objs.size+1)::vs,kw]) (PySem.W.InitBack (s.heap.objs.size+1) R)
      {s with heap:=(s.heap.push PySem.W.emptyDict).push (PySem.W.instObj C s.heap.objs.size)}) :
    codeAny (model prog w) A (.call (.ref C) #[vs,kw]) R s:=by
  obtain⟨hh,g,d,t,os⟩:=s;exact PySem.W.make_core (PySem.W.makes_of X hm) (PySem.W.looks_findIn X hi) (λself=>PySem.W.bind_fn X self hf) (.inl rfl) h
end
noncomputable def b8(f:Str)(v:V):List (Str×V)→List (Str×V)
  | []=>[(f,v)]
  | (g,x)::r=>if g=f then(g,v)::r else(g,x)::b8 f v r
theorem mK(f g:Str)(v:V):∀ fs:List (Str×V),(b8 f v fs).lookup g=if g=f then some v else fs.lookup g
  | []=>by
    show List.lookup g [(f,v)]=_;by_cases h:g=f
    . have hb:(g == f)=true:=beq_iff_eq.mpr h
      simp only[List.lookup,hb,if_pos h]
    . have hb:(g == f)=false:=beq_eq_false_iff_ne.mpr h
      simp only[List.lookup,hb,if_neg h]
  | (k,x)::r=>by
    have ih:=mK f g v r;rw[show b8 f v ((k,x)::r)=(if k=f then(k,v)::r else(k,x)::b8 f v r) from rfl];by_cases hk:k=f
    . rw[if_pos hk]
      by_cases h:g=k
      . have hb:(g == k)=true:=beq_iff_eq.mpr h
        simp only[List.lookup,hb,if_pos (h.trans hk)]
      . have hb:(g == k)=false:=beq_eq_false_iff_ne.mpr h
        simp only[List.lookup,hb,if_neg (λe:g=f=>h (e.trans hk.symm))]
    . rw[if_neg hk]
      by_cases h:g=k
      . have hb:(g == k)=true:=beq_iff_eq.mpr h
        simp only[List.lookup,hb,if_neg (λe:g=f=>hk (h.symm.trans e))]
      . have hb:(g == k)=false:=beq_eq_false_iff_ne.mpr h
        simp only[List.lookup,hb];exact ih
theorem mG(f:Str)(v:V):∀ fs:List (Str×V),f∈(b8 f v fs).map (·.1)∧∀ g,g∈fs.map (·.1)→g∈(b8 f v fs).map (·.1)
  | []=>#[by simp[b8],λg h=>by simp at h]
  | (k,x)::r=>by
    obtain⟨i1,i2⟩:=mG f v r;rw[show b8 f v ((k,x)::r)=(if k=f then(k,v)::r else(k,x)::b8 f v r) from rfl];by_cases hk:k=f
    . rw[if_pos hk]
      subst hk;exact#[by simp,λg h=>by simpa using h]
    . rw[if_neg hk]
      refine#[?_,λg h=>?_]
      . rw[Oo]
        exact Oa _ i1
      . rw[Oo]at h ⊢
        rcases NY.mp h with e|e
        . exact NY.mpr (.inl e)
        . exact Oa _ (i2 g e)
theorem mL(f:Str)(v:V):∀ fs:List (Str×V),(b8 f v fs).length≤fs.length+1
  | []=>by simp[b8]
  | (k,x)::r=>by
    have ih:=mL f v r;rw[show b8 f v ((k,x)::r)=(if k=f then(k,v)::r else(k,x)::b8 f v r) from rfl];by_cases hk:k=f
    . rw[if_pos hk,Oi,Oi];omega
    . rw[if_neg hk,Oi,Oi];omega
theorem lC.some_of{v:V}{o:Option Value}(r:lC (some v) o):∃ u,o=some u∧RelV v u:=by
  cases o with
  | none=>exact(show False from r).elim
  | some u=>exact#[u,rfl,r]
theorem lC.none_of{o:Option Value}(r:lC none o):o=none:=by
  cases o with
  | none=>rfl
  | some u=>exact(show False from r).elim
theorem yu{v:V}{u:Value}(r:RelV v u):PySem.W.handedIn u=true:=by
  cases v with
  | non=>cases (show u=Value.none from r);rfl
  | bl b=>cases (show u=Value.bool b from r);rfl
  | int i=>obtain⟨t,e⟩:=(show ∃ t,u=Value.int i t from r);cases e;rfl
  | str x=>obtain⟨t,e⟩:=(show ∃ t,u=Value.str x t from r);cases e;rfl
  | byt b=>obtain⟨t,e⟩:=(show ∃ t,u=Value.bytes b t from r);cases e;rfl
  | flt b=>obtain⟨t,e⟩:=(show ∃ t,u=Value.float b t from r);cases e;rfl
  | ref a=>cases (show u=Value.ref a from r);rfl
  | ty n=>cases (show u=Value.type n from r);rfl
section
variable{P:Program}{w:World}{H H':Hp}{h h':Heap}{a C dx:Addr}{fs fs':List (Str×V)}
theorem sQ(hok:HOk P w H h)(e:H a=some (.ins C dx fs)):∃ mA,zY h a dx C mA∧(∀ f,lC (fs.lookup f) (mA f))∧PySem.Within mA (fs.map (·.1))∧fs.length≤1000∧H dx=some (.own a):=by
  obtain⟨d,z,ne,ob,mA,n,r,q⟩:=(show bT P w H h a (.ins C dx fs) from hok a _ e);exact#[mA,#[ob,n,ne],r,q,z,d]
end
structure Cls(K:W.Frag)(C:Addr):Prop where
  pg:PySem.W.plainGet K C Str.empty=true
  hd:PySem.W.hasDictIn K C=true
  po:PySem.W.plainOver K C=true
  sa:PySem.W.findIn K (.ref C) "__setattr__" = some (some (.builtin "object.__setattr__"))
theorem Cls.get{K:W.Frag}{C:Addr}(c:Cls K C)(f:Str):PySem.W.plainGet K C f=true:=c.pg
noncomputable def jj(K:W.Frag)(C:Addr)(f:Str):Prop:=PySem.W.findIn K (.ref C) f=some none
theorem jj.I0{K:W.Frag}{C:Addr}{f:Str}(n:jj K C f):PySem.W.takerIn K C f=some none:=by
  unfold PySem.W.takerIn;rw[show PySem.W.findIn K (.ref C) f=some none from n];rfl
structure Meth(K:W.Frag)(C:Addr)(m:Str)(f:Addr):Prop where
  at_:PySem.W.findIn K (.ref C) m=some (some (.ref f))
  fn:PySem.W.isFn K (.ref f)=true
  kp:PySem.W.keepIn K (.ref f)=true
section
variable{X:Cx}{pins:List (Addr×Obj)}{σ:St}{H:Hp}{s:Shared}{a C dx:Addr}{fs:List (Str×V)}{f:Str}{v:V}{A:Around}{E:Value→Shared→Prop}
theorem oV{b:Bool}{Q:Value→Shared→Prop}(I:Inv X pins σ H s)(e:H a=some (.ins C dx fs))(c:Cls X.K C)(n:jj X.K C f)(l:fs.lookup f=some v)
    (h:∀ u s',Inv X pins σ H s'→RelV v u→Q u s'):wpAny (model X.prog X.w) A (getAttr (.ref a) f b) Q E s:=by
  obtain⟨mA,O,r,_,_,_⟩:=sQ I.hok e;obtain⟨u,hu,ru⟩:=lC.some_of (v:=v) (o:=mA f) (by rw[←l];exact r f);exact get_map I.kIn O (c.get f) c.hd n hu (yu ru) (h u _ (I.tok _) ru)
theorem oW{m:Str}{g:Addr}{pl:Sem Bool}{Q:Value×List Value→Shared→Prop}(I:Inv X pins σ H s)(e:H a=some (.ins C dx fs))(c:Cls X.K C)(k:Meth X.K C m g)(l:fs.lookup m=none)
    (h:Q (.ref g,[.ref a]) s):wpAny (model X.prog X.w) A (getMethod (.ref a) m pl) Q E s:=by
  obtain⟨mA,O,r,_,_,_⟩:=sQ I.hok e;have hn:mA m=none:=lC.none_of (by rw[←l];exact r m);exact Ad I.kIn O (c.get m) k.at_ k.fn hn h
theorem oZ{y:V}{u:Value}{Q:Unit→Shared→Prop}(I:Inv X pins σ H s)(e:H a=some (.ins C dx fs))(c:Cls X.K C)(n:jj X.K C f)(hl:fs.length<1000)(ry:RelV y u)
    (h:∀ s',Inv X pins σ (upd H a (.ins C dx (b8 f y fs))) s'→Q () s'):wpAny (model X.prog X.w) A (setAttr (.ref a) f u) Q E s:=by
  obtain⟨mA,O,r,wi,_,ho⟩:=sQ I.hok e;have hz:(fs.map (·.1)).length≤sizeLine:=by rw[NI,sizeLine_eq];omega
  refine CZ I.kIn O c.sa c.po n.I0 c.hd wi hz λh' O' sb=>h _ ?_;have hd:∃ o,h'.get? dx=some o:=let ⟨o,_,_,e',_⟩:=O'.ns;#[o,e'];refine I.write (x:=a) (e:=dx) (by rw[e];exact True.intro) (.inr ho) (λb q hb z=>(sb.2 b hb).trans z) hd ?_;refine#[by rw[ab O.ne];exact ho,?_,O.ne,O'.obj,_,O'.ns,λg=>?_,λg hg=>?_]
  . have:=mL f y fs;omega
  . show lC ((b8 f y fs).lookup g) (if g=f then some u else mA g)
    rw[mK];by_cases q:g=f
    . rw[if_pos q,if_pos q];exact ry
    . rw[if_neg q,if_neg q];exact r g
  . by_cases q:g=f
    . rw[q];exact(mG f y fs).1
    . refine(mG f y fs).2 g (wi g λz=>hg ?_)
      show(if g=f then some u else mA g)=none;rw[if_neg q];exact z
theorem Inv.made(I:Inv X pins σ H s):Inv X pins σ (upd (upd H s.heap.objs.size (.own (s.heap.objs.size+1))) (s.heap.objs.size+1) (.ins C s.heap.objs.size []))
    {s with heap:=(s.heap.push PySem.W.emptyDict).push (PySem.W.instObj C s.heap.objs.size)}:=by
  have e1:(s.heap.push PySem.W.emptyDict).get? s.heap.objs.size=some PySem.W.emptyDict:=Oc s.heap rfl;have e2:((s.heap.push PySem.W.emptyDict).push (PySem.W.instObj C s.heap.objs.size)).get? (s.heap.objs.size+1)=some (PySem.W.instObj C s.heap.objs.size):=by
    have:=Oc (s.heap.push PySem.W.emptyDict) (o:=PySem.W.instObj C s.heap.objs.size) rfl
    rwa[OI]at this
  have e3:(s.heap.push PySem.W.emptyDict).Ns s.heap.objs.size (λ_=>none):=#[PySem.W.emptyDict,#[],_,e1,rfl,(λe he=>absurd he (by simp)),λ_=>rfl];have I1:=I.laid (a:=s.heap.objs.size) (o:=.own (s.heap.objs.size+1)) (h':=s.heap.push PySem.W.emptyDict) (t':=s.toks) (λb u q=>NL _ q) (NO _) #[_,e1];refine I1.laid (a:=s.heap.objs.size+1) (o:=.ins C s.heap.objs.size []) (t':=s.toks) (λb u q=>NL _ q) (Nat.le_of_eq (OI _ _)) ?_;have ne:s.heap.objs.size≠s.heap.objs.size+1:=Oe (P8 _);refine#[by rw[ab ne,ae],Oy _,ne,e2,λ_=>none,(Heap.Ns1.of_empty e3).at λo q=>NL _ q,λ_=>True.intro,λy hy=>absurd rfl hy]
theorem C0{prog:Program}{w:World}{env:Env}{e:Expr}{f:Str}{pos:Pos}{s:Shared}{Q:Value→Shared→Prop}(hb:attributeBase e f env (eval e env)=eval e env)
    (h:wpAny (model prog w) A (eval e env) (λo s₁=>wpAny (model prog w) A (getAttr o f true) Q E s₁) E s):wpAny (model prog w) A (eval (.Attribute e f pos) env) Q E s :=
  Attribute_any_ h (by rw[arm_eval_Attribute,hb])
end
inductive Kt(K:W.Frag)(f:Str)(x:V)(H:Hp)(Q:VK):Prop where
  | mk (a C dx:Addr) (fs:List (Str×V)) (v:V):x=.ref a→H a=some (.ins C dx fs)→Cls K C→jj K C f→fs.lookup f=some v→Q v H→Kt K f x H Q
noncomputable def Em(K:W.Frag)(ta:TE)(f:Str):TE:=λσ H Q=>ta σ H λx H1=>Kt K f x H1 Q
noncomputable def En(K:W.Frag)(ta tv:TE)(f:Str):TS:=λD σ H=>tv σ H λy H1=>ta σ H1 λx H2=>∃ a C dx fs,x=.ref a∧H2 a=some (.ins C dx fs)∧Cls K C∧jj K C f∧fs.length<1000 ∧
  D.nx σ (upd H2 a (.ins C dx (b8 f y fs)))
noncomputable def Ku(X:Cx)(op:Operator)(rd:V→V→Hp→VK→Prop):Prop :=
  ∀(pins:List (Addr×Obj)) (s:Shared) (σ:St) (H:Hp) (x y:V) (u v:Value) (Q:VK),Inv X pins σ H s→RelV x u→RelV y v→rd x y H Q→wpAny (model X.prog X.w) X.A (inplaceOp op u v) (EP X pins σ Q) X.xe s
noncomputable def C1(K:W.Frag)(ta tv:TE)(rd:V→V→Hp→VK→Prop)(f:Str):TS:=λD σ H=>ta σ H λx H1=>∃ a C dx fs v,x=.ref a∧H1 a=some (.ins C dx fs)∧Cls K C∧jj K C f∧fs.lookup f=some v ∧
  tv σ H1 λy H2=>rd v y H2 λz H3=>∃ dx' fs',H3 a=some (.ins C dx' fs')∧fs'.length<1000∧D.nx σ (upd H3 a (.ins C dx' (b8 f z fs')))
section
variable{X:Cx}{o e value:Expr}{f:Str}{pos pos' Kv:Pos}{ta tv:TE}
theorem az(he:PE X e ta)(hb:attributeBase e f X.env (eval e X.env)=eval e X.env):PE X (.Attribute e f pos) (Em X.K ta f):=by
  intro pins s σ H Q I h;refine C0 hb (thn (he pins s σ H _ I h) λu s1 ⟨x,H1,I1,rx,a,C,dx,fs,v,ex,ea,c,n,l,q⟩=>?_);subst ex;obtain rfl:u=Value.ref a:=rx;exact oV I1 ea c n l λu' s2 I2 ru=>#[v,H1,I2,ru,q]
theorem bo(ha:PE X o ta)(hv:PE X value tv)(hs:swapsWith value (some (.Attribute o f pos')) pos.line X.env=pure false):PS X (.Assign [.Attribute o f pos'] value pos) (En X.K ta tv f):=by
  intro pins s σ H D I h;refine plainObj_wpAny_Assign_Attribute (thn (hv pins s σ H _ I h) λu s1 ⟨y,H1,I1,ry,q⟩=>thn (ha pins s1 σ H1 _ I1 q) λov s2 ⟨x,H2,I2,rx,a,C,dx,fs,ex,ea,c,n,l,q2⟩=>?_) hs;subst ex;obtain rfl:ov=Value.ref a:=rx;exact oZ I2 ea c n l ry λs3 I3=>#[σ,_,I3,q2]
theorem yw{op:Operator}{rd:V→V→Hp→VK→Prop}(ha:PE X o ta)(hv:PE X value tv)(hop:Ku X op rd):PS X (.AugAssign (.Attribute o f Kv) op value pos) (C1 X.K ta tv rd f):=by
  intro pins s σ H D I h;refine wpAny_AugAssign_AttributeAny (thn (ha pins s σ H _ I h) λov s1 ⟨x,H1,I1,rx,a,C,dx,fs,v,ex,ea,c,n,l,q⟩=>?_);subst ex;obtain rfl:ov=Value.ref a:=rx;refine oV I1 ea c n l λu s2 I2 ru=>thn (hv pins s2 σ H1 _ I2 q) λw3 s3 ⟨y,H2,I3,ry,q3⟩=>thn (hop pins s3 σ H2 v y u w3 _ I3 ru ry q3) λw4 s4 ⟨z,H3,I4,rz,dx',fs',ea',l',q4⟩=>?_;exact oZ I4 ea' c n l' rz λs5 I5=>#[σ,_,I5,q4]
noncomputable def Lp:V→V→Hp→VK→Prop:=λx y H Q=>∃ i j,x=.int i∧y=.int j∧Q (.int (i+j)) H
theorem E5:Ku X .Add Lp:=by
  rintro pins s σ H x y u v Q I rx ry ⟨i,j,rfl,rfl,q⟩;obtain⟨t,rfl⟩:=(show ∃ t,u=Value.int i t from rx);obtain⟨t',rfl⟩:=(show ∃ t',v=Value.int j t' from ry);exact PyProof.Rows.iadd_int #[.int (i+j),H,I.tok _,#[_,rfl],q]
end
section
variable{X:Cx}{pins:List (Addr×Obj)}{σ:St}{H:Hp}{s:Shared}{A:Around}{E:Value→Shared→Prop}{Q:Value→Shared→Prop}{c:Value}{b:Bool}
end
end L2
namespace L2
open PySem PySem.Spec PyProof.Rows
structure cT(k:Nat)(A:Around):Prop where
  hd:A.handled=none
  dp:A.depth+3*k+5<recursionLimit
  un:A.units+16*k+200<cLine
theorem cT.mono{j k:Nat}{A:Around}(r:cT k A)(h:j≤k):cT j A:=#[r.hd,by have:=r.dp;omega,by have:=r.un;omega]
theorem cT.deeper{k:Nat}{A:Around}(r:cT (k+1) A)(env:Env):cT k (A.deeper env) :=
  #[r.hd,by have:=r.dp;show A.depth+1+3*k+5<_;omega,by have:=r.un;show A.units+3+16*k+200<_;omega]
theorem vv{A:Around}{C:Addr}{us:List Value}{kw:List (Str×Value)}:(A.under (.builtin "type.__call__" #[.ref C::us,kw])).depth=A.depth+1:=by
  first|rfl|simp[Around.under,Code.weight,Code.isCreation,Code.isGuard,Code.isCaller,Code.frames,Code.isFrame,guardIds]
theorem vw{A:Around}{C:Addr}{us:List Value}{kw:List (Str×Value)}:(A.under (.builtin "type.__call__" #[.ref C::us,kw])).units=A.units+1:=by
  first|rfl|simp[Around.under,Code.cUnits,Code.frames,Code.isFrame]
theorem cT.make{k:Nat}{A:Around}(r:cT (k+1) A)(C:Addr)(us:List Value)(kw:List (Str×Value)):cT k (A.under (.builtin "type.__call__" #[.ref C::us,kw])) :=
  #[r.hd,by have:=r.dp;rw[vv];omega,by have:=r.un;rw[vw];omega]
theorem cT.depth{k:Nat}{A:Around}(r:cT k A):A.depth<recursionLimit:=by have:=r.dp;omega
theorem cT.units{k:Nat}{A:Around}(r:cT k A):A.units+64<cLine:=by have:=r.un;omega
noncomputable def uE:TA:=λ_ H Q=>Q [] H
noncomputable def gW(ta:TE)(tr:TA):TA:=λσ H Q=>ta σ H λx H1=>tr σ H1 λxs H2=>Q (x::xs) H2
section
variable{X:Cx}{e:Expr}{es:List Expr}{te:TE}{t:TA}{pos:Pos}
theorem ah:PA X [] uE:=λ_ _ _ _ H Q I h=>Calls.spliced_nil #[[],H,I,.nil,h]
theorem aa(ha:PE X e te)(hr:PA X es t)(hs:starEach (e::es) X.env=(false,eval e X.env)::starEach es X.env:=by rfl):PA X (e::es) (gW te t):=by
  intro pos pins s σ H Q I h;rw[hs];show wpAny _ _ (spliced ((false,eval e X.env)::backTo pos (starEach es X.env))) _ _ s;refine Calls.spliced_cons (thn (ha pins s σ H _ I h) λu s1 ⟨x,H1,I1,r1,q1⟩=>?_);exact thn (hr pos pins s1 σ H1 _ I1 q1) λus s2 ⟨xs,H2,I2,r2,q2⟩=>#[x::xs,H2,I2,.cons r1 r2,q2]
noncomputable def C2(t:TA):TE:=λσ H Q=>t σ H λxs H1=>xs.length≤sizeLine∧∀ p,H1 p=none→Q (.ref p) (upd H1 p (.tup xs))
noncomputable def Kw(t:TA):TE:=λσ H Q=>t σ H λxs H1=>xs.length≤sizeLine∧∀ p,H1 p=none→Q (.ref p) (upd H1 p (.lst xs))
theorem bY{x1}(h:PA X es t):PE X (.Tuple es x1 pos) (C2 t):=by
  intro pins s σ H Q I hq;refine wpAny_Tuple_spliced (thn (h pos pins s σ H _ I hq) λus s1 ⟨xs,H1,I1,r,z,q⟩=>#[by rw[←r.length];exact z,?_]);have hf:H1 s1.heap.objs.size=none:=I1.hok.fresh (NO _);refine#[.ref s1.heap.objs.size,upd H1 s1.heap.objs.size (.tup xs),I1.laid (t':=s1.toks) (λb u e=>NL _ e) (NO _) ?_,rfl,q _ hf];exact#[z,us,r,#[_,Oc _ rfl,rfl,_,rfl]]
theorem cC(h:PA X es t):PE X (.List es pos) (Kw t):=by
  intro pins s σ H Q I hq;refine wpAny_List_spliced (thn (h pos pins s σ H _ I hq) λus s1 ⟨xs,H1,I1,r,z,q⟩=>#[by rw[←r.length];exact z,?_]);have hf:H1 s1.heap.objs.size=none:=I1.hok.fresh (NO _);refine#[.ref s1.heap.objs.size,upd H1 s1.heap.objs.size (.lst xs),I1.laid (t':=s1.toks) (λb u e=>NL _ e) (NO _) ?_,rfl,q _ hf];exact#[z,us,0,r,Oc _ rfl]
end
noncomputable abbrev Sp:=List V→Hp→VK→XK→Prop
noncomputable abbrev CXT:=List Env→Hp→Shared→XK→Value→Shared→Prop
structure vx(P:Program)(w:World)(K:W.Frag)(mg:Str→Option Value)(base:Heap)(A:Around)(outer:List Env)(s:Shared)(H:Hp):Prop where
  frames:A.frames=some outer
  mod:Mod K mg base
  bs:∀ b o,base.get? b=some o→s.heap.get? b=some o∧H b=none
  bsz:base.objs.size≤s.heap.objs.size
  lD:s.heap.FunFrames base outer
  frf:∀ b∈frs outer,H b=none
  hok:HOk P w H s.heap
  bare:AllBare s.gens
noncomputable def CE(outer:List Env)(P:Program)(w:World)(H:Hp)(s:Shared)(Q:VK)(u:Value)(s':Shared):Prop :=
  ∃ v H',s'.os=s.os∧AllBare s'.gens∧Un (frs outer) [] H H' s.heap s'.heap∧HOk P w H' s'.heap∧RelV v u∧Q v H'
noncomputable def CR(CX:CXT)(outer:List Env)(P:Program)(w:World)(H:Hp)(s:Shared)(Q:VK)(E:XK)(r:Result)(s':Shared):Prop :=
  match r with
  | .ok (.ret u)=>CE outer P w H s Q u s'
  | .ok _=>False
  | .error e=>CX outer H s E e s'
structure cx(P:Program)(w:World)(K:W.Frag)(mg:Str→Option Value)(base:Heap)(CX:CXT)(k:Nat)(f:Addr)(fd:FuncData)(ps:List Str)(sp:Sp):Prop where
  len:∀ vs H Q E,sp vs H Q E→vs.length=ps.length
  run:∀(A:Around) (outer:List Env) (s:Shared) (H:Hp) (args:Args) (us:List Value) (vs:List V) (Q:VK) (E:XK),cT k A→vx P w K mg base A outer s H→BindsTo s fd args (ps.zip us)→Vals vs us→sp vs H Q E →
    codeAny (model P w) A (.call (.ref f) args) (CR CX outer P w H s Q E) s
theorem vx.make{P:Program}{w:World}{K:W.Frag}{mg:Str→Option Value}{base:Heap}{A:Around}{outer:List Env}{s:Shared}{H:Hp}(e:vx P w K mg base A outer s H)(C:Addr)(us:List Value)(kw:List (Str×Value)) :
    vx P w K mg base (A.under (.builtin "type.__call__" #[.ref C::us,kw])) outer s H:=#[by first|exact e.frames|(simpa[Around.under,Code.envs,Code.isFrame,pushEnvs] using e.frames),e.mod,e.bs,e.bsz,e.lD,e.frf,e.hok,e.bare]
section
variable{X:Cx}{pins:List (Addr×Obj)}{σ:St}{H:Hp}{s s':Shared}
theorem Inv.Eo(I:Inv X pins σ H s):vx X.prog X.w X.K X.mg X.base X.A X.stack s H :=
  #[I.ok.frames,I.ok.mod,I.bs,NW I.ok.bsz I.sz,I.stack,I.je,I.hok,I.bare]
theorem Inv.after{Q:VK}{u:Value}(I:Inv X pins σ H s)(h:CE X.stack X.prog X.w H s Q u s'):EP X pins σ Q u s':=by
  obtain⟨v,H',os,bare,un,hok,r,q⟩:=h;obtain⟨hh,g,d,t,os'⟩:=s';obtain rfl:os'=s.os:=os;exact#[v,H',I.call (h':=hh) (g':=g) (d':=d) (t':=t) (ch:=[]) un hok bare (λb z=>absurd z (by simp)),r,q]
end
noncomputable def Ep(C:Addr)(sp:Sp)(dvs:List V)(E:XK)(t:TA):TE:=λσ H Q=>t σ H λvs H1=>∀ x dx,H1 x=none→H1 dx=none→dx≠x →
  sp (.ref x::(vs++dvs)) (upd (upd H1 dx (.own x)) x (.ins C dx [])) (λv H2=>v=.non∧Q (.ref x) H2) E
noncomputable def Binds(K:W.Frag)(fd:FuncData)(ps:List Str)(ds:List Value):Prop :=
  ∀(s:Shared) (us:List Value),K.In s.heap→(us++ds).length=ps.length→BindsTo s fd #[us,[]] (ps.zip (us++ds))
theorem Binds.all{K:W.Frag}{fd:FuncData}{ps:List Str}(h:∀ us:List Value,us.length=ps.length→bindArgs fd #[us,[]]=pure (ps.zip us)):Binds K fd ps []:=λs us _ hl=>by
  rw[OR]at hl ⊢;exact .of_eq (h us hl)
noncomputable def Passes(CX:CXT)(X:Cx)(E:XK):Prop:=∀(pins:List (Addr×Obj)) (σ:St) (H:Hp) (s:Shared) (e:Value) (s':Shared),Inv X pins σ H s→CX X.stack H s E e s'→X.xe e s'
section
variable{X:Cx}{CX:CXT}{k:Nat}{f C:Addr}{fd:FuncData}{ps:List Str}{sp:Sp}{dvs:List V}{ds:List Value}{E:XK}{x m:Str}{p pos apos:Pos}{e o:Expr}{es:List Expr}{ta:TE}{t:TA}
structure Mk(K:W.Frag)(C f:Addr):Prop where
  makes:PySem.W.makesIn K C=true
  init:PySem.W.findIn K (.ref C) "__init__" = some (some (.ref f))
  fn:PySem.W.isFn K (.ref f)=true
  kp:PySem.W.keepIn K (.ref C)=true
theorem uF{pins:List (Addr×Obj)}{σ:St}{H:Hp}{s:Shared}{Q:VK}{us:List Value}{vs:List V}(M:Mk X.K C f)(F:cx X.prog X.w X.K X.mg X.base CX k f fd ps sp)(hr:cT (k+1) X.A)(hb:Binds X.K fd ps ds)(hd:Vals dvs ds)
    (hx:Passes CX X E) (I:Inv X pins σ H s) (r:Vals vs us)
    (h:∀ x dx,H x=none→H dx=none→dx≠x→sp (.ref x::(vs++dvs)) (upd (upd H dx (.own x)) x (.ins C dx [])) (λv H2=>v=.non∧Q (.ref x) H2) E) :
    wpAny (model X.prog X.w) X.A (call (.ref C) us) (EP X pins σ Q) X.xe s:=by
  have hq:=h (s.heap.objs.size+1) s.heap.objs.size (I.hok.fresh (OW _)) (I.hok.fresh (NO _)) (Oe (P8 _));have I2:=Inv.made (C:=C) I;have r2:Vals (V.ref (s.heap.objs.size+1)::(vs++dvs)) (Value.ref (s.heap.objs.size+1)::(us++ds)):=.cons rfl (r.append hd);have hl:(Value.ref (s.heap.objs.size+1)::us++ds).length=ps.length:=by
    have e:=r2.length;rw[F.len _ _ _ _ hq]at e;exact e.symm
  refine wpAny_call (Ae (f:=f) I.kIn M.makes M.init (beq_iff_eq.mp M.fn) (codeAny_mono (F.run _ X.stack _ _ #[Value.ref (s.heap.objs.size+1)::us,[]] (Value.ref (s.heap.objs.size+1)::(us++ds)) _ _ E (hr.make C us [])
    (I2.Eo.make C us []) (hb _ (Value.ref (s.heap.objs.size+1)::us) I2.kIn hl) r2 hq) λr s' hq'=>?_))
  cases r with
  | error e=>exact hx pins σ _ _ e s' I2 hq'
  | ok fl =>
    cases fl with
    | ret u =>
      obtain⟨v,H',I3,rv,ev,q3⟩:=I2.after hq';subst ev;exact#[rv,#[V.ref (s.heap.objs.size+1),H',I3,rfl,q3]]
    | next=>exact False.elim hq'
    | brk=>exact False.elim hq'
    | cont=>exact False.elim hq'
theorem sS(M:Mk X.K C f)(F:cx X.prog X.w X.K X.mg X.base CX k f fd ps sp)(hr:cT (k+1) X.A)(hg:Gl X x)(hm:X.mg x=some (.ref C))(hb:Binds X.K fd ps ds)(hd:Vals dvs ds)(hx:Passes CX X E)
    (ha:PA X (e::es) t) (hdb:(x == ("__debug__" : Str))=false:=by decide) (he:starEach (e::es) X.env=(false,eval e X.env)::starEach es X.env:=by rfl) (hpl:(backTo pos (starEach es X.env)).any (·.1)=false:=by rfl) :
    PE X (.Call (.Name x p) (e::es) [] pos) (Ep C sp dvs E t):=by
  intro pins s σ H Q I h;refine wpAny_Call_Name_kw (h9 I hg hm ?_ hdb);refine PySem.W.callWith_K (h₀:=X.base) I.ok.mod.kin M.kp (thn (ha pos pins s σ H _ I h) λus s1 ⟨vs,H1,I1,r,q⟩=>#[I1.kIn,?_]) he hpl;exact uF M F hr hb hd hx I1 r q
theorem pV(M:Mk X.K C f)(F:cx X.prog X.w X.K X.mg X.base CX k f fd ps sp)(hr:cT (k+1) X.A)(hg:Gl X x)(hm:X.mg x=some (.ref C))(hb:Binds X.K fd ps ds)(hd:Vals dvs ds)(hx:Passes CX X E)
    (hdb:(x == ("__debug__" : Str))=false:=by decide):PE X (.Call (.Name x p) [] [] pos) (Ep C sp dvs E uE):=by
  intro pins s σ H Q I h;refine wpAny_Call_Name_kw (h9 I hg hm ?_ hdb);exact PySem.W.callWith_K0 I.kIn M.kp (uF (us:=[]) M F hr hb hd hx I .nil h)
end
section
variable{X:Cx}{CX:CXT}{k:Nat}{f C:Addr}{fd:FuncData}{ps ks:List Str}{sp:Sp}{E:XK}{x m:Str}{p pos apos NF:Pos}{e o:Expr}{es:List Expr}{kws:List Keyword}{te ta:TE}{t tk:TA}{nm:Option Str}
variable{g:List Value→List Value→List Value}{gV:List V→List V→List V}
end
structure ao(N P:List Str)(sc:Scope):Prop where
  kind:sc.kind=.function
  co:sc.isCoroutine=false
  gen:sc.isGenerator=false
  nd:N.Nodup
  pre:N.take P.length=P
  par:∀ x∈P,sc.names.lookup x=some .local∨sc.names.lookup x=some .cell
  E6:∀ y∈sc.names,y.2≠.free
theorem qZ{kindOf:Str→Option NameKind}{x:Str}:∀ {binds:List (Str×Value)} {m:Str→Option Value},(∀ v,(x,v)∉binds)→bindL kindOf binds m x=m x
  | [],_,_=>rfl
  | (n,v)::r,m,h=>by
    unfold bindL;rw[qZ λw hw=>h w (Oa _ hw)];split
    . have:x≠n:=by rintro rfl;exact h v NV
      simp[this]
    . rfl
theorem q8{kindOf:Str→Option NameKind}{x:Str}:∀ {binds:List (Str×Value)} {m:Str→Option Value},(∀ v,(x,v)∉binds)→bindC kindOf binds m x=m x
  | [],_,_=>rfl
  | (n,v)::r,m,h=>by
    unfold bindC;rw[q8 λw hw=>h w (Oa _ hw)];split
    . rfl
    . have:x≠n:=by rintro rfl;exact h v NV
      simp[this]
theorem q9{kindOf:Str→Option NameKind}{x:Str}{v:Value}:∀ {P:List Str} {vs:List Value} {i:Nat} {m:Str→Option Value},P.Nodup→P[i]?=some x→vs[i]?=some v→kindOf x=some .local →
    bindL kindOf (P.zip vs) m x=some v
  | [],_,_,_,_,h,_,_=>by simp at h
  | _::_,[],_,_,_,_,h,_=>by simp at h
  | p::P,w::vs,0,m,nd,h1,h2,hk=>by
    simp at h1 h2;subst h1;subst h2;show bindL kindOf ((p,w)::P.zip vs) m p=_;unfold bindL;rw[qZ λv hv=>(Pa.mp nd).1 (PN hv).1,if_pos hk];simp
  | p::P,w::vs,i+1,m,nd,h1,h2,hk=>by
    show bindL kindOf ((p,w)::P.zip vs) m x=_;unfold bindL;exact q9 (i:=i) (Pa.mp nd).2 (by simpa using h1) (by simpa using h2) hk
theorem ra{kindOf:Str→Option NameKind}{x:Str}{v:Value}:∀ {P:List Str} {vs:List Value} {i:Nat} {m:Str→Option Value},P.Nodup→P[i]?=some x→vs[i]?=some v→kindOf x≠some .local →
    bindC kindOf (P.zip vs) m x=some v
  | [],_,_,_,_,h,_,_=>by simp at h
  | _::_,[],_,_,_,_,h,_=>by simp at h
  | p::P,w::vs,0,m,nd,h1,h2,hk=>by
    simp at h1 h2;subst h1;subst h2;show bindC kindOf ((p,w)::P.zip vs) m p=_;unfold bindC;rw[q8 λv hv=>(Pa.mp nd).1 (PN hv).1,if_neg hk];simp
  | p::P,w::vs,i+1,m,nd,h1,h2,hk=>by
    show bindC kindOf ((p,w)::P.zip vs) m x=_;unfold bindC;exact ra (i:=i) (Pa.mp nd).2 (by simpa using h1) (by simpa using h2) hk
noncomputable def start(N:List Str)(vs:List V):St:=vs.map some++List.replicate (N.length-vs.length) none
noncomputable def zZ(CX:CXT)(P:Program)(w:World)(K:W.Frag)(mg:Str→Option Value)(base:Heap)(N:List Str)(qual:Str)(scope:Scope)(f:Addr)(cd:Value)(A:Around)(outer:List Env)(s:Shared)(H:Hp)(E:XK):Cx where
  prog:=P
  w:=w
  K:=K
  mg:=mg
  base:=base
  A:=A.deeper (envOfC qual scope s.heap.objs.size f cd)
  N:=N
  s₀:=s
  H₀:=H
  env:=envOfC qual scope s.heap.objs.size f cd
  outer:=outer
  stack:=envOfC qual scope s.heap.objs.size f cd::outer
  ex:=[]
  calm:=true
  fn:=λ_=>true
  pn:=[]
  xe:=λe s'=>wpAny (model P w) (A.deeper (envOfC qual scope s.heap.objs.size f cd)) (leaving (envOfC qual scope s.heap.objs.size f cd) e) (λ_ s''=>CX outer H s E e s'') (λe' s''=>CX outer H s E e' s'') s'
theorem uG{sc:Scope}{n:Nat}{x:Str}(h:sc.names.lookup x=some .cell):∃ c,(cellsFrom n sc.names []).lookup x=some c:=by
  have q:=PySem.W.cellsFrom_some sc.names n [] (.inl h);exact Pp.mp q
theorem rb{CX:CXT}{P:Program}{w:World}{K:W.Frag}{mg:Str→Option Value}{base:Heap}{N ps:List Str}{qual:Str}{scope:Scope}{f:Addr}{cd:Value}{A:Around}{outer:List Env}{s s1:Shared}{H:Hp}{E:XK}{us:List Value}{vs:List V}
    (S:ao N ps scope) (hd:A.handled=none) (e0:vx P w K mg base A outer s H) (hl:vs.length=ps.length) (r:Vals vs us)
    (x:InCallC s s.heap.objs.size (bindL (envOfC qual scope s.heap.objs.size f cd).kindOf (ps.zip us) λ_=>none) (cellsFrom (s.heap.objs.size+1) scope.names []) (bindC (envOfC qual scope s.heap.objs.size f cd).kindOf (ps.zip us) λ_=>none) s1) :
    Inv (zZ CX P w K mg base N qual scope f cd A outer s H E) [] (start N vs) H s1:=by
  have hpl:ps.length≤N.length:=by have:=congrArg List.length S.pre;rw[Oq]at this;omega
  obtain⟨h1,tk,rfl,hk⟩:=x.done;have noA:∀ b:Addr,b∉(zZ CX P w K mg base N qual scope f cd A outer s H E).ex:=λb z=>absurd (show b∈([]:List Addr) from z) (by simp);refine#[#[e0.mod,S.kind,rfl,rfl,NO _,λy z c h1 h2=>?_,λy hy=>?_,λy c _ h=>?_,λ_=>hd,Around.frames_deeper e0.frames,.inr #[rfl,rfl],λb z=>absurd z (noA b),e0.bs,e0.bsz,λb _ _=>noA b,λb z=>absurd z (noA b),e0.lD,e0.frf],
    rfl,e0.bare,Un.kept hk,#[_,x.toInCall.ns,λi y v h1 h2 h3=>?_],λy c h=>#[_,x.cell y c h],e0.hok.fresh (NO _),λy c h=>?_,λp hp=>absurd (show p∈([]:List (Addr×Obj)) from hp) (by simp),e0.hok.kept hk,?_]
  . exact name_of_addr x.apart (Oz h1) (Oz h2)
  . have hy:scope.names.lookup y=some .cell∨scope.names.lookup y=some .free:=hy
    rcases hy with hy|hy
    . exact uG hy
    . exact absurd rfl (S.E6 _ (Oz hy))
  . exact PZ (x.above y c (Oz h))
  . have hi:i<vs.length:=by
      unfold start at h2;by_cases hi:i<vs.length
      . exact hi
      . rw[Ox (by simpa using hi)]at h2
        rw[List.getElem?_replicate]at h2;split at h2<;>cases h2
    have ha:vs[i]?=some v:=by
      unfold start at h2;rw[OC (by simpa using hi),N0]at h2;cases e:vs[i]? with
      | none=>rw[e]at h2;cases h2
      | some a=>rw[e]at h2;cases h2;rfl
    obtain⟨u,hu,rv⟩:=r.get ha;have hp:ps[i]?=some y:=by
      rw[←S.pre,List.getElem?_take_of_lt (by omega)];exact h1
    have ndP:ps.Nodup:=(by rw[←S.pre];exact S.nd.sublist (P0 _ _));refine#[u,rv,?_];rcases S.par y (Of hp) with k|k
    . exact .inl #[k,q9 ndP hp hu k]
    . obtain⟨c,e⟩:=uG (n:=s.heap.objs.size+1) k
      refine .inr #[.inl k,c,e,?_];have q:=x.cell y c e;rw[ra ndP hp hu (by show scope.names.lookup y≠_;rw[k];decide)]at q;exact q
  . exact e0.hok.fresh (PZ (x.above y c (Oz h)))
  . unfold start
    show _=N.length;rw[NX,NI,List.length_replicate];omega
theorem Ja{CX:CXT}{P:Program}{w:World}{K:W.Frag}{mg:Str→Option Value}{base:Heap}{k:Nat}{f:Addr}{name qual:Str}{params:Arguments}{body:List Stmt}{scope:Scope}{dV kV doc pm cdv ct oc:Value}{an od:Option Addr}
    {osl:Array (Option Value)} {N ps:List Str} {sp:Sp} (lk:K.lookup f=some #[oc,od,.func (PySem.W.fnOf name qual params body scope dV kV doc pm an cdv ct),osl]) (hcd:PySem.W.codeIn K cdv qual=true) (S:ao N ps scope)
    (len:∀ vs H Q E,sp vs H Q E→vs.length=ps.length)
    (gy:∀(A:Around) (outer:List Env) (s:Shared) (H:Hp) (vs:List V) (Q:VK) (E:XK),cT k (A.deeper (envOfC qual scope s.heap.objs.size f cdv))→sp vs H Q E →
      ∃ t,PSs (zZ CX P w K mg base N qual scope f cdv A outer s H E) body t∧t {nx:=λ_ H'=>Q .non H',rt:=Q} (start N vs) H) :
    cx P w K mg base CX (k+1) f (PySem.W.fnOf name qual params body scope dV kV doc pm an cdv ct) ps sp:=by
  refine#[len,λA outer s H args us vs Q E hr e0 hb r hsp=>?_];have hl:=len _ _ _ _ hsp;have KX:K.In s.heap:=e0.mod.kin.keeps λb o e=>(e0.bs b o e).1;have lim:s.heap.NoLimit:=e0.mod.nolimit.keeps λb o e=>(e0.bs b o e).1;have B9:∀ y∈ps.zip us,scope.names.lookup y.1=some .local∨(scope.names.lookup y.1=some .cell∧((cellsFrom (s.heap.objs.size+1) scope.names []).lookup y.1).isSome=true):=λ⟨n,v⟩ hy=>by
    rcases S.par n (PN hy).1 with q|q
    . exact .inl q
    . exact .inr #[q,PySem.W.cellsFrom_some _ _ _ (.inl q)]
  refine codeAny_call_function hr.depth (KX _ _ lk) rfl S.co S.gen rfl (PySem.W.codeRec_of KX hcd) (hb _ _ _ _ ?_);refine wpAny_newFunctionEnv_cells S.kind B9 λenv he s1 x=>?_;subst he;refine#[lim.keeps x.toInCall.keep,codeAny_func ?_];obtain⟨t,ht,hq⟩:=gy A outer s H vs Q E (hr.deeper _) hsp;have I:Inv (zZ CX P w K mg base N qual scope f cdv A outer s H E) [] (start N vs) H s1:=rb S hr.hd e0 hl r x;refine wpAny_mono (ht [] s1 (start N vs) H _ I hq) (λfl s' hs=>?_) λe s' hs=>hs;have fin:∀ {σ':St} {H':Hp} {v:V} {u:Value},Inv (zZ CX P w K mg base N qual scope f cdv A outer s H E) [] σ' H' s'→RelV v u→Q v H'→CE outer P w H s Q u s' :=
    λ{σ' H' v u} J rv q=>#[v,H',J.os,J.bare,J.base,J.hok,rv,q]
  cases fl with
  | ret u =>
    obtain⟨v,σ',H',J,rv,q⟩:=hs;exact fin J rv q
  | next =>
    obtain⟨σ',H',J,q⟩:=hs;exact fin (v:=V.non) (u:=Value.none) J rfl q
  | brk =>
    obtain⟨_,_,_,q⟩:=hs;exact False.elim q
  | cont =>
    obtain⟨_,_,_,q⟩:=hs;exact False.elim q
end L2
namespace L2
open PySem PySem.Spec PyProof.Rows
section
variable{X:Cx}{x:Str}{p pos:Pos}{e:Expr}{es:List Expr}{t:TA}{id T:String}{r:List V→Hp→VK→Prop}
noncomputable def tCB(r:List V→Hp→VK→Prop)(t:TA):TE:=λσ H Q=>t σ H λvs H1=>r vs H1 Q
theorem aX(hc:eM X (.builtin id) r)(hg:Gl X x)(hm:X.mg x=none)(hv:bootBuiltins x=some (.builtin id))(ha:PA X (e::es) t)(hn:x ≠ "__name__" := by decide)(hdb:(x == ("__debug__" : Str))=false:=by decide)
    (he:starEach (e::es) X.env=(false,eval e X.env)::starEach es X.env:=by rfl) (hpl:(backTo pos (starEach es X.env)).any (·.1)=false:=by rfl):PE X (.Call (.Name x p) (e::es) [] pos) (tCB r t):=by
  intro pins s σ H Q I h;refine wpAny_Call_Name_kw (nQ I hg hm hv ?_ hn hdb);exact PyProof.Rows.callWith_builtin1 (thn (ha pos pins s σ H _ I h) λus s1 ⟨vs,H1,I1,r1,q1⟩=>hc pins s1 σ H1 vs us Q I1 r1 q1) he hpl
theorem cj(hc:eM X (.type T) r)(hg:Gl X x)(hm:X.mg x=none)(hv:bootBuiltins x=some (.type T))(ha:PA X (e::es) t)(hn:x ≠ "__name__" := by decide)(hdb:(x == ("__debug__" : Str))=false:=by decide)
    (he:starEach (e::es) X.env=(false,eval e X.env)::starEach es X.env:=by rfl) (hpl:(backTo pos (starEach es X.env)).any (·.1)=false:=by rfl):PE X (.Call (.Name x p) (e::es) [] pos) (tCB r t):=by
  intro pins s σ H Q I h;refine wpAny_Call_Name_kw (nQ I hg hm hv ?_ hn hdb);exact PyProof.Rows.callWith_type1 (thn (ha pos pins s σ H _ I h) λus s1 ⟨vs,H1,I1,r1,q1⟩=>hc pins s1 σ H1 vs us Q I1 r1 q1) he hpl
end
end L2
namespace HT
open PySem PyProof.Rows
section
open PySem.SeqAt
open PySem.AutoSeq1 (wpAny_loadPart')
open PySem.MeetsSeq PySem.MeetsSeq2 PySem.MeetsSeq3
end
section
variable{prog:Program}{w:World}{A:Around}{E:Value→Shared→Prop}{s:Shared}
noncomputable def sIx(n d:Nat):Option Int→Nat
  | none=>d
  | some v=>if v<0 then(v+(n:Int)).toNat else min v.toNat n
theorem uH(n d:Nat):sIx n d none=d:=rfl
theorem xn(n d k:Nat):sIx n d (some (k:Int))=min k n:=by
  show(if(k:Int)<0 then((k:Int)+(n:Int)).toNat else min (k:Int).toNat n)=min k n;rw[if_neg (by omega),Int.toNat_natCast]
end
end HT
namespace L2
open PySem PySem.Spec PyProof.Rows
noncomputable abbrev TO:=St→Hp→(Option Int→Hp→Prop)→Prop
noncomputable def PO(X:Cx)(e:Option Expr)(t:TO):Prop :=
  ∀(pins:List (Addr×Obj)) (s:Shared) (σ:St) (H:Hp) (Q:Option Int→Hp→Prop),Inv X pins σ H s→t σ H Q →
    wpAny (model X.prog X.w) X.A (evalPart e X.env) (λu s'=>∃ o H',Inv X pins σ H' s'∧IsPart u o∧Q o H') X.xe s
noncomputable def C3:TO:=λ_ H Q=>Q none H
noncomputable def Jb(t:TE):TO:=λσ H Q=>t σ H λx H1=>∃ i,x=.int i∧Q (some i) H1
theorem intsAre_of{ns:List Int}:∀ {us:List Value},Vals (ns.map V.int) us→IntsAre us ns:=by
  induction ns with
  | nil=>intro us r;rw[Pq]at r;cases r;exact .nil
  | cons n ns ih =>
    intro us r;rw[Oo]at r;cases r with
    | cons r1 r2 =>
      obtain⟨t,e⟩:=r1;subst e;exact .cons n t (ih r2)
section
variable{X:Cx}{e:Expr}{te:TE}{lo hi:Option Expr}{tl th:TO}{pos p2:Pos}
theorem sT:PO X none C3:=by
  intro pins s σ H Q I h;rw[evalPart_none];exact wpAny_pure #[none,H,I,.none,h]
theorem sU(h:PE X e te):PO X (some e) (Jb te):=by
  intro pins s σ H Q I hw;rw[evalPart_some];refine thn (h pins s σ H _ I hw) λu s1 ⟨x,H1,I1,r1,q1⟩=>?_;obtain⟨i,rfl,q⟩:=q1;obtain⟨t,rfl⟩:=r1;exact#[some i,H1,I1,.int i t,q]
noncomputable def SlR(X:Cx)(r:V→Option Int→Option Int→Hp→VK→Prop):Prop :=
  ∀(pins:List (Addr×Obj)) (s:Shared) (σ:St) (H:Hp) (x:V) (v vl vu:Value) (lo hi:Option Int) (sl:Addr) (Q:VK),Inv X pins σ H s→RelV x v→s.heap.IsSliceOf sl vl vu .none→IsPart vl lo→IsPart vu hi→r x lo hi H Q →
    ∃ T id,typeLookup (.type T) "__getitem__" = pure (some (.builtin id))∧s.TypeIs v T∧wpAny (model X.prog X.w) X.A (getItem v (.ref sl)) (EP X pins σ Q) X.xe s
noncomputable def tSl(r:V→Option Int→Option Int→Hp→VK→Prop)(te:TE)(tl th:TO):TE:=λσ H Q=>te σ H λx H1=>tl σ H1 λl H2=>th σ H2 λu H3=>r x l u H3 Q
theorem pW{r:V→Option Int→Option Int→Hp→VK→Prop}(hr:SlR X r)(he:PE X e te)(hl:PO X lo tl)(hu:PO X hi th):PE X (.Subscript e (.Slice lo hi none p2) pos) (tSl r te tl th):=by
  intro pins s σ H Q I h;refine Subscript_ (thn (he pins s σ H _ I h) λv s1 ⟨x,H1,I1,r1,q1⟩=>?_);refine wpAny_Slice (thn (hl pins s1 σ H1 _ I1 q1) λvl s2 ⟨l,H2,I2,pl,q2⟩=>thn (hu pins s2 σ H2 _ I2 q2) λvu s3 ⟨u,H3,I3,pu,q3⟩=>?_);rw[evalPart_none];refine wpAny_pure ?_;have I4:Inv X pins σ H3 {s3 with heap:=s3.heap.push {cls:=.type "slice",data:=.fields (List.toArray [vl,vu,.none])}}:=I3.kept (t':=s3.toks) λb ob q=>NL _ q;obtain⟨T,id,hT,ht,hg⟩:=hr pins {s3 with heap:=s3.heap.push {cls:=.type "slice",data:=.fields (List.toArray [vl,vu,.none])}} σ H3 x v vl vu l u s3.heap.objs.size Q I4 r1 (Heap.IsSliceOf.new ..) pl pu q3;show wpAny (model X.prog X.w) X.A (subscriptTail e (.Slice lo hi none p2) v (.ref s3.heap.objs.size)) (EP X pins σ Q) X.xe {s3 with heap:=s3.heap.push {cls:=.type "slice",data:=.fields (List.toArray [vl,vu,.none])}};exact tail_any (ops:=[.ref s3.heap.objs.size,v]) ht hT hg (by with_unfolding_all rfl)
noncomputable def rf(xs:List V)(lo hi:Option Int):List V:=(xs.drop (HT.sIx xs.length 0 lo)).take (HT.sIx xs.length xs.length hi-HT.sIx xs.length 0 lo)
theorem tZ(xs:List V)(lo hi:Option Int):(rf xs lo hi).length≤xs.length:=by
  unfold rf;rw[Oq,PH];omega
end
end L2
namespace L2
open PySem PySem.Spec PyProof.Rows
noncomputable def ixN(n:Nat)(i:Int):Option Nat:=if 0≤i then(if i<n then some i.toNat else none) else if -(n:Int)≤i then some (i+n).toNat else none
noncomputable def atI{α:Type}(xs:List α)(i:Int):Option α:=(ixN xs.length i).bind λj=>xs[j]?
theorem xo{n:Nat}{i:Int}{j:Nat}(h:ixN n i=some j):seqIndex? i n=some j∧j<n∧-(n:Int)≤i∧i<n:=by
  unfold ixN at h;by_cases h0:0≤i
  . rw[if_pos h0]at h
    by_cases h1:i<n
    . rw[if_pos h1]at h
      have e:i.toNat=j:=Oh h;exact#[by rw[seqIndex_of h0 h1,e],by omega,by omega,h1]
    . rw[if_neg h1]at h;cases h
  . rw[if_neg h0]at h
    by_cases h1:-(n:Int)≤i
    . rw[if_pos h1]at h
      have e:(i+n).toNat=j:=Oh h;exact#[by rw[seqIndex_neg (by omega) h1,e],by omega,h1,by omega]
    . rw[if_neg h1]at h;cases h
theorem sV{α:Type}{xs:List α}{i:Int}{v:α}(h:atI xs i=some v):∃ j,seqIndex? i xs.length=some j∧xs[j]?=some v∧j<xs.length∧-(xs.length:Int)≤i∧i<xs.length:=by
  unfold atI at h;cases e:ixN xs.length i with
  | none=>rw[e]at h;cases h
  | some j =>
    rw[e]at h;obtain⟨h1,h2,h3,h4⟩:=xo e;exact#[j,h1,h,h2,h3,h4]
theorem cE{α:Type}{xs:List α}{j:Nat}{v:α}(h:xs[j]?=some v):atI xs (j:Int)=some v:=by
  have hj:j<xs.length:=(NK.mp h).1;have e:ixN xs.length (j:Int)=some j:=by
    unfold ixN;rw[if_pos (by omega),if_pos (by omega)];simp
  unfold atI;rw[e];exact h
noncomputable def C4(b:Expr):Prop:=∀ o i,subscripted b false o i=operate [o,i] (getItem o i)
noncomputable def IxR(X:Cx)(r:R2):Prop :=
  ∀(value slice:Expr) (pins:List (Addr×Obj)) (s:Shared) (σ:St) (H:Hp) (x y:V) (v u:Value) (Q:VK),Inv X pins σ H s→RelV x v→RelV y u→r x y H Q →
    subscripted slice false v u=operate [v,u] (getItem v u)→wpAny (model X.prog X.w) X.A (subscriptTail value slice v u) (EP X pins σ Q) X.xe s
noncomputable def MtR(X:Cx)(id:String)(r:V→List V→Hp→VK→Prop):Prop :=
  ∀(pins:List (Addr×Obj)) (s:Shared) (σ:St) (H:Hp) (x:V) (xs:List V) (v:Value) (us:List Value) (Q:VK),Inv X pins σ H s→RelV x v→Vals xs us→r x xs H Q →
    wpAny (model X.prog X.w) X.A (call (.builtin id) (v::us)) (EP X pins σ Q) X.xe s
section
variable{X:Cx}{a b:Expr}{ta tb:TE}{pos:Pos}
theorem aP{r:R2}(hr:IxR X r)(ha:PE X a ta)(hb:PE X b tb)(hs:C4 b):PE X (.Subscript a b pos) (tOp r ta tb):=by
  intro pins s σ H Q I h;exact Subscript_ (Gw ha hb I h λv u s2 x y H2 I2 rx ry q=>hr a b pins s2 σ H2 x y v u Q I2 rx ry q (hs _ _))
inductive Kx(K:W.Frag)(x y:V)(H:Hp)(Q:VK):Prop where
  | mk (p:Addr) (xs:List V) (i:Int) (v:V):x=.ref p→y=.int i→SqL K H p xs→atI xs i=some v→Q v H→Kx K x y H Q
noncomputable def Lq(K:W.Frag):R2:=λx y H Q=>Kx K x y H Q
inductive Ky(K:W.Frag)(x y:V)(H:Hp)(Q:VK):Prop where
  | mk (p:Addr) (xs:List V) (i:Int) (v:V):x=.ref p→y=.int i→SqT K H p xs→atI xs i=some v→Q v H→Ky K x y H Q
noncomputable def Gy(K:W.Frag):R2:=λx y H Q=>Ky K x y H Q
noncomputable def Lr:R2:=λx y H Q=>∃ z i c,x=.str z∧y=.int i∧z.length≤sizeLine∧atI z.cps.toList i=some c∧Q (.str #[(List.toArray [c])]) H
theorem dE:IxR X (Lq X.K):=by
  intro value slice pins s σ H x y v u Q I rx ry h hs;obtain⟨p,xs,i,z,rfl,rfl,hq,he,q⟩:=h;cases rx;obtain⟨t,rfl⟩:=ry;obtain⟨its,r,pl,hz⟩:=I.list hq;obtain⟨j,h1,h2,h3,h4,h5⟩:=sV he;obtain⟨w,ew,rw'⟩:=r.get h2;have hl:=r.length;have hn:=nS;have fin:EP X pins σ Q w s:=#[z,H,I,rw',q];by_cases h0:0≤i
  . have hj:i.toNat=j:=by
      rw[seqIndex_of h0 h5]at h1;exact Oh h1
    exact item_listR pl.isList h0 (by omega) (by rw[hj];simpa using ew) fin hs
  . have hj:(i+(its.toArray.size:Int)).toNat=j:=by
      rw[seqIndex_neg (by omega) h4]at h1;rw[NU,←hl];exact Oh h1
    exact subscriptTail_builtinR (x:=w) pl.isList.typeIs slot_list_getitem.lookup
      (wpAny_getItem_list_neg (Q:=λr s'=>r=w∧EP X pins σ Q r s') pl.isList (by omega) (by rw[NU]<;>omega) (by omega) (by rw[hj];simpa using ew) #[rfl,fin]) hs
theorem aL:IxR X (Gy X.K):=by
  intro value slice pins s σ H x y v u Q I rx ry h hs;obtain⟨p,xs,i,z,rfl,rfl,hq,he,q⟩:=h;cases rx;obtain⟨t,rfl⟩:=ry;obtain⟨its,r,pl,hz⟩:=I.tuple hq;obtain⟨j,h1,h2,h3,h4,h5⟩:=sV he;obtain⟨w,ew,rw'⟩:=r.get h2;have hl:=r.length;have hn:=nS;have fin:EP X pins σ Q w s:=#[z,H,I,rw',q];exact subscriptTail_builtinR (x:=w) pl.typeIs slot_tuple_getitem.lookup
    (getItem_tuple (j:=j) (Q:=λr s'=>r=w∧EP X pins σ Q r s') pl (by omega) (by omega) (by rw[NU,←hl];exact h1) (by simpa using ew) #[rfl,fin]) hs
theorem E7:IxR X Lr:=by
  intro value slice pins s σ H x y v u Q I rx ry h hs;obtain⟨z,i,c,rfl,rfl,hz,he,q⟩:=h;obtain⟨t,rfl⟩:=rx;obtain⟨t',rfl⟩:=ry;obtain⟨j,h1,h2,h3,h4,h5⟩:=sV he;have hl:z.cps.toList.length=z.length:=by simp[Str.length]
  rw[hl]at h1 h4 h5;have hn:=nS;exact tail_any (typeIs_str s z t) slot_str_getitem.lookup (getItem_str (c:=c) (by
    have e1:decide (i < -(2 ^ 63:Int))=false:=decide_eq_false (by omega);have e2:decide (i≥2 ^ 63)=false:=decide_eq_false (by omega);rw[e1,e2,Bool.or_false]) (by rw[h1];simpa using h2) #[.str #[(List.toArray [c])],H,I.tok _,#[_,rfl],q]) hs
theorem vz(its:List Value)(n j:Nat)(u:Value):Obj.mapSeq (·.setIfInBounds j u) {cls:=.type "list",data:=.seq its.toArray n}={cls:=.type "list",data:=.seq (its.set j u).toArray n}:=by
  simp[Obj.mapSeq]
theorem Inv.lst{pins:List (Addr×Obj)}{σ:St}{H:Hp}{s:Shared}{p:Addr}{xs:List V}(I:Inv X pins σ H s)(h:H p=some (.lst xs)) :
    ∃(its:List Value) (n:Nat),Vals xs its∧s.heap.get? p=some {cls:=.type "list",data:=.seq its.toArray n}∧xs.length≤sizeLine:=by
  obtain⟨z,its,n,r,e⟩:=I.hok p _ h;exact#[its,n,r,e,z]
theorem Inv.E8{pins:List (Addr×Obj)}{σ:St}{H:Hp}{s:Shared}{p:Addr}{xs ys:List V}{its nW:List Value}{n n':Nat}{f:Obj→Obj}(I:Inv X pins σ H s)(h:H p=some (.lst xs))
    (ho:s.heap.get? p=some {cls:=.type "list",data:=.seq its.toArray n}) (hf:f {cls:=.type "list",data:=.seq its.toArray n}={cls:=.type "list",data:=.seq nW.toArray n'}) (r:Vals ys nW) (hz:ys.length≤sizeLine) (t:Nat) :
    Inv X pins σ (upd H p (.lst ys)) {s with heap:=s.heap.update p f,toks:=t}:=by
  have e:(s.heap.update p f).get? p=some {cls:=.type "list",data:=.seq nW.toArray n'}:=by
    rw[Pz f ho (by rw[hf]<;>rfl),hf]
  refine I.write (x:=p) (e:=p) (by rw[h];trivial) (.inl rfl) (λb u hb q=>(OE _ _ (Oj hb)).trans q) #[_,e] ?_;exact#[hz,nW,n',r,e]
noncomputable def Jd:V→V→V→Hp→(Hp→Prop)→Prop:=λo i v H Q=>∃ p xs k j,o=.ref p∧i=.int k∧H p=some (.lst xs)∧ixN xs.length k=some j∧Q (upd H p (.lst (xs.set j v)))
theorem set_list:Ko X Jd:=by
  intro pins s σ H o i v ov iv u Q I ro ri rv h;obtain⟨p,xs,k,j,rfl,rfl,hp,hj,q⟩:=h;cases ro;obtain⟨t,rfl⟩:=ri;obtain⟨its,n,r,ho,hz⟩:=I.lst hp;obtain⟨h1,h2,h3,h4⟩:=xo hj;have hl:=r.length;have hn:=nS;have I':Inv X pins σ (upd H p (.lst (xs.set j v))) {s with heap:=s.heap.update p (Obj.mapSeq (·.setIfInBounds j u))} :=
    I.E8 hp ho (vz its n j u) (r.set rv j) (by rw[O5];exact hz) s.toks
  by_cases h0:0≤k
  . have hk:k.toNat=j:=by
      rw[seqIndex_of h0 h4]at h1;exact Oh h1
    exact PySem.W.ki_setAt ho h0 (by omega) (by rw[NU,←hl];exact h4) (by rw[hk];exact#[_,I',q])
  . have hk:(k+(its.toArray.size:Int)).toNat=j:=by
      rw[seqIndex_neg (by omega) h3]at h1;rw[NU,←hl];exact Oh h1
    exact PySem.W.ki_setBack ho (by omega) (by rw[NU,←hl];exact h3) (by omega) (by rw[hk];exact#[_,I',q])
theorem se(lo hi:Option Int)(n:Nat):(sliceBounds lo hi none n).1=((HT.sIx n 0 lo:Nat):Int)∧(sliceBounds lo hi none n).2.1=((HT.sIx n n hi:Nat):Int)∧(sliceBounds lo hi none n).2.2=1:=by
  refine#[?_,?_,rfl]
  . cases lo with
    | none=>simp[sliceBounds,HT.sIx]
    | some i =>
      simp only[sliceBounds,HT.sIx,PJ,show(1:Int)>0 by decide,if_true];by_cases h:i<0
      . simp only[h,if_true]<;>omega
      . simp only[h,if_false]<;>omega
  . cases hi with
    | none=>simp[sliceBounds,HT.sIx]
    | some i =>
      simp only[sliceBounds,HT.sIx,PJ,show(1:Int)>0 by decide,if_true];by_cases h:i<0
      . simp only[h,if_true]<;>omega
      . simp only[h,if_false]<;>omega
theorem qo(its:List Value)(lo hi:Option Int):slicePick its.toArray lo hi none=((its.drop (HT.sIx its.length 0 lo)).take (HT.sIx its.length its.length hi-HT.sIx its.length 0 lo)).toArray:=by
  obtain⟨h1,h2,h3⟩:=se lo hi its.toArray.size;unfold slicePick;rw[h1,h2,h3];simp only[sliceRange_one,pick_run,NU]<;>rfl
noncomputable def Ls(K:W.Frag):V→Option Int→Option Int→Hp→VK→Prop:=λx lo hi H Q=>∃ a xs,x=.ref a∧SqL K H a xs∧∀ p,H p=none→Q (.ref p) (upd H p (.lst (rf xs lo hi)))
theorem xq:SlR X (Ls X.K):=by
  intro pins s σ H x v vl vu lo hi sl Q I rx hs pl pu h;obtain⟨a,xs,rfl,hx,q⟩:=h;cases rx;obtain⟨its,r,ht,hz⟩:=I.list hx;have hlen:=r.length;refine#["list",_,slot_list_getitem.lookup,ht.isList.typeIs,?_];refine wpAny_getItem_list_slice ht.isList hs pl pu .none (by simp) ?_ (by rw[NU]<;>omega);rw[qo,←hlen];refine#[.ref s.heap.objs.size,_,I.laid (t':=s.toks) (o:=.lst (rf xs lo hi)) (λb ob q=>NL _ q) (NO _) ?_,rfl,q _ (I.hok.fresh (NO _))];exact#[NW (tZ xs lo hi) hz,_,0,(r.drop (HT.sIx xs.length 0 lo)).take (HT.sIx xs.length xs.length hi-HT.sIx xs.length 0 lo),Oc _ rfl]
noncomputable def cQ:V→Bool
  | .non=>true
  | .bl _=>true
  | .int _=>true
  | .str _=>true
  | _=>false
noncomputable def eqV:V→V→Bool
  | .non,.non=>true
  | .bl a,.bl b=>a == b
  | .bl a,.int b=>(if a then 1 else 0) == b
  | .int a,.bl b=>a == (if b then 1 else 0)
  | .int a,.int b=>a == b
  | .str a,.str b=>a == b
  | _,_=>false
theorem wL{A:Around}{s:Shared}{y x:V}{u v:Value}(ry:RelV y u)(rx:RelV x v)(fy:cQ y=true)(fx:cQ x=true):SeqAt.EqAt A s u v (eqV y x):=by
  cases y with
  | non =>
    cases ry;cases x with
    | non=>cases rx;exact SeqAt.EqAt.same _
    | bl b=>cases rx;exact SeqAt.EqAt.none_bool b
    | int b=>obtain⟨t,rfl⟩:=rx;exact SeqAt.EqAt.none_int b t
    | str b=>obtain⟨t,rfl⟩:=rx;exact SeqAt.EqAt.none_str b t
    | _=>exact absurd (show false=true from fx) NQ
  | bl a =>
    cases ry;cases x with
    | non=>cases rx;exact SeqAt.EqAt.bool_none a
    | bl b=>cases rx;exact SeqAt.EqAt.bool_bool a b
    | int b=>obtain⟨t,rfl⟩:=rx;exact SeqAt.EqAt.bool_int a b t
    | str b=>obtain⟨t,rfl⟩:=rx;exact SeqAt.EqAt.bool_str a b t
    | _=>exact absurd (show false=true from fx) NQ
  | int a =>
    obtain⟨t',rfl⟩:=ry;cases x with
    | non=>cases rx;exact SeqAt.EqAt.int_none a t'
    | bl b=>cases rx;exact SeqAt.EqAt.int_bool a t' b
    | int b=>obtain⟨t,rfl⟩:=rx;exact SeqAt.EqAt.int_int a t' b t
    | str b=>obtain⟨t,rfl⟩:=rx;exact SeqAt.EqAt.int_str a t' b t
    | _=>exact absurd (show false=true from fx) NQ
  | str a =>
    obtain⟨t',rfl⟩:=ry;cases x with
    | non=>cases rx;exact SeqAt.EqAt.str_none a t'
    | bl b=>cases rx;exact SeqAt.EqAt.str_bool a t' b
    | int b=>obtain⟨t,rfl⟩:=rx;exact SeqAt.EqAt.str_int a t' b t
    | str b=>obtain⟨t,rfl⟩:=rx;exact SeqAt.EqAt.str_str a t' b t
    | _=>exact absurd (show false=true from fx) NQ
  | _=>exact absurd (show false=true from fy) NQ
noncomputable def eqU(x:V)(u:Value):Bool:=match u with
  | .none=>eqV .non x
  | .bool b=>eqV (.bl b) x
  | .int i _=>eqV (.int i) x
  | .str z _=>eqV (.str z) x
  | _=>false
theorem Bv{x y:V}{u:Value}(r:RelV y u)(f:cQ y=true):eqU x u=eqV y x:=by
  cases y with
  | non=>cases r;rfl
  | bl b=>cases r;rfl
  | int i=>obtain⟨t,rfl⟩:=r;rfl
  | str z=>obtain⟨t,rfl⟩:=r;rfl
  | _=>exact absurd (show false=true from f) NQ
theorem lG{x:V}:∀ {xs:List V} {us:List Value},Vals xs us→xs.all cQ=true→us.any (eqU x)=xs.any λy=>eqV y x
  | _,_,.nil,_=>rfl
  | y::xs,u::us,.cons r t,f=>by
    rw[List.all_cons,OS]at f;rw[Pr,Pr,Bv r f.1,lG t f.2]
theorem iU{A:Around}{s:Shared}{x:V}{v:Value}(rx:RelV x v)(fx:cQ x=true):∀ {xs:List V} {us:List Value},Vals xs us→xs.all cQ=true→∀ u∈us,SeqAt.EqAt A s u v (eqU x u)
  | _,_,.nil,_=>λu hu=>by cases hu
  | y::xs,u::us,.cons r t,f=>λu' hu=>by
    rw[List.all_cons,OS]at f;rcases NY.mp hu with rfl|hu
    . rw[Bv r f.1];exact wL r rx f.1 fx
    . exact iU rx fx t f.2 u' hu
noncomputable def inV(x:V)(xs:List V):Bool:=xs.any λy=>eqV y x
noncomputable def rIn(K:W.Frag)(neg:Bool):R2:=λx y H Q=>∃ p xs,y=.ref p∧(SqL K H p xs∨SqT K H p xs)∧cQ x=true∧xs.all cQ=true∧Q (.bl (if neg then !inV x xs else inV x xs)) H
theorem mI:OpR X (compareOp .In) (rIn X.K false):=by
  intro pins s σ H x y v u Q I rx ry h;obtain⟨p,xs,rfl,hq,fx,fs,q⟩:=h;cases ry;rcases hq with hq|hq
  . obtain⟨its,r,pl,hz⟩:=I.list hq
    refine SeqAt.in_listAt (eqU x) pl.isList (λw hw=>iU rx fx r fs w (by simpa using hw)) #[.bl _,H,I,rfl,?_];rw[show its.toArray.any (eqU x)=its.any (eqU x) by simp,lG r fs];exact q
  . obtain⟨its,r,pl,hz⟩:=I.tuple hq
    refine SeqAt.in_tupleAt (eqU x) pl (λw hw=>iU rx fx r fs w (by simpa using hw)) #[.bl _,H,I,rfl,?_];rw[show its.toArray.any (eqU x)=its.any (eqU x) by simp,lG r fs];exact q
theorem sf:OpR X (compareOp .NotIn) (rIn X.K true):=by
  intro pins s σ H x y v u Q I rx ry h;obtain⟨p,xs,rfl,hq,fx,fs,q⟩:=h;cases ry;rcases hq with hq|hq
  . obtain⟨its,r,pl,hz⟩:=I.list hq
    refine SeqAt.notIn_listAt (eqU x) pl.isList (λw hw=>iU rx fx r fs w (by simpa using hw)) #[.bl _,H,I,rfl,?_];rw[show its.toArray.any (eqU x)=its.any (eqU x) by simp,lG r fs];exact q
  . obtain⟨its,r,pl,hz⟩:=I.tuple hq
    refine SeqAt.notIn_tupleAt (eqU x) pl (λw hw=>iU rx fx r fs w (by simpa using hw)) #[.bl _,H,I,rfl,?_];rw[show its.toArray.any (eqU x)=its.any (eqU x) by simp,lG r fs];exact q
theorem aT:eM X (.builtin "len") (λxs H Q=>∃ p ys,xs=[.ref p]∧(SqL X.K H p ys∨SqT X.K H p ys)∧Q (.int ys.length) H):=by
  intro pins s σ H xs us Q I r h;obtain⟨p,ys,rfl,hq,q⟩:=h;obtain⟨u,rfl,rx⟩:=vals1 r;cases rx;have hn:=nS;rcases hq with hq|hq
  . obtain⟨its,r',pl,hz⟩:=I.list hq
    have hlen:=r'.length;exact Calls.call_len_list pl.isList (by simp only[NU]<;>omega) #[.int ys.length,H,I.tok _,#[s.toks+1,by rw[NU,hlen]],q]
  . obtain⟨its,r',pl,hz⟩:=I.tuple hq
    have hlen:=r'.length;exact len_tuple pl (by simp only[NU]<;>omega) #[.int ys.length,H,I.tok _,#[s.toks+1,by rw[NU,hlen]],q]
theorem kG:eM X (.builtin "len") (λxs H Q=>∃ z,xs=[.str z]∧z.length≤sizeLine∧Q (.int z.length) H):=by
  intro pins s σ H xs us Q I r h;obtain⟨z,rfl,hz,q⟩:=h;obtain⟨u,rfl,t,rfl⟩:=vals1 r;have hn:=nS;exact len_str (by omega) #[.int z.length,H,I.tok _,#[_,rfl],q]
theorem gQ:eM X (.type "list") (λxs H Q=>∃ p ys,xs=[.ref p]∧(SqL X.K H p ys∨SqT X.K H p ys)∧∀ l,H l=none→Q (.ref l) (upd H l (.lst ys))):=by
  intro pins s σ H xs us Q I r h;obtain⟨p,ys,rfl,hq,q⟩:=h;obtain⟨u,rfl,rx⟩:=vals1 r;cases rx;have fin:∀(its:List Value),Vals ys its→ys.length≤sizeLine→∀(h':Heap) (c':Nat),(∀ b o',s.heap.get? b=some o'→h'.get? b=some o') →
      h'.get? s.heap.objs.size=some {cls:=.type "list",dict:=none,data:=.seq its.toArray c',slots:=#[]}→EP X pins σ Q (.ref s.heap.objs.size) {s with heap:=h'}:=λits r' hz h' c' kp e =>
    #[.ref s.heap.objs.size,_,I.laid (t':=s.toks) kp (NO _) (show bT X.prog X.w _ h' _ (.lst ys) from#[hz,its,c',r',e]),rfl,q _ (I.hok.fresh (NO _))]
  rcases hq with hq|hq
  . obtain⟨its,r',pl,hz⟩:=I.list hq
    have hlen:=r'.length;obtain⟨o,ho,hc,n,hd⟩:=pl.isList;exact call_list_seq p (.inl rfl) ho hc hd (λh' c' kp e=>fin its r' hz h' c' kp e) (by simp only[NU]<;>omega)
  . obtain⟨its,r',pl,hz⟩:=I.tuple hq
    have hlen:=r'.length;obtain⟨o,ho,hc,n,hd⟩:=pl;exact call_list_seq p (.inr rfl) ho hc hd (λh' c' kp e=>fin its r' hz h' c' kp e) (by simp only[NU]<;>omega)
noncomputable def tyV(K:W.Frag)(T:String)(x:V)(H:Hp):Prop:=match x with
  | .str _=>T = "str"
  | .int _=>T = "int"
  | .ref p=>(T = "list" ∧ ∃ xs,SqL K H p xs)∨(T = "tuple" ∧ ∃ o,K.lookup p=some o∧o.cls=.type "tuple" ∧ o.dict=none) ∨
      (T = "dict" ∧ ((∃ kvs,H p=some (.dK kvs))∨∃ kvs,H p=some (.dT kvs)))∨(T = "set" ∧ ∃ S n,H p=some (.set S n))
  | _=>False
theorem E9{pins:List (Addr×Obj)}{σ:St}{H:Hp}{s:Shared}{T:String}{x:V}{v:Value}(I:Inv X pins σ H s)(r:RelV x v)(ty:tyV X.K T x H) :
    s.TypeIs v T∧∀ a,v=.ref a→∃ ob,s.heap.get? a=some ob∧ob.dict=none:=by
  cases x with
  | str z =>
    obtain⟨t,rfl⟩:=r;cases (show T = "str" from ty);exact#[typeIs_str s z t,λ_ e=>nomatch e]
  | int i =>
    obtain⟨t,rfl⟩:=r;cases (show T = "int" from ty);exact#[typeIs_int s i t,λ_ e=>nomatch e]
  | ref p =>
    cases r;rcases ty with⟨rfl,xs,hq⟩|⟨rfl,o,hk,hc,hd⟩|⟨rfl,hk⟩|⟨rfl,S,n,hk⟩
    . obtain⟨its,_,pl,_⟩:=I.list hq
      refine#[pl.isList.typeIs,λa e=>?_];cases e;obtain⟨o,n,e,c,hd,_⟩:=pl;exact#[o,e,hd]
    . refine#[#[o,I.kIn p o hk,hc],λa e=>?_]
      cases e;exact#[o,I.kIn _ o hk,hd]
    . have z:∃ o,s.heap.get? p=some o∧o.ExactDict:=by
        rcases hk with⟨kvs,hk⟩|⟨kvs,hk⟩
        . obtain⟨_,_,_,_,o,_,_,e,ex,_⟩:=I.hok p _ hk
          exact#[o,e,ex]
        . obtain⟨_,_,_,_,o,_,_,e,ex,_⟩:=I.hok p _ hk
          exact#[o,e,ex]
      obtain⟨o,e,ex⟩:=z;refine#[#[o,e,ex.1],λa e2=>?_];cases e2;exact#[o,e,ex.2.1]
    . obtain⟨o,_,_,_,e,ex,_⟩:=I.hok p _ hk
      refine#[#[o,e,ex.1],λa e2=>?_];cases e2;exact#[o,e,ex.2.1]
  | _=>exact False.elim ty
noncomputable def tBM(K:W.Frag)(T:String)(r:V→List V→Hp→VK→Prop)(to:TE)(t:TA):TE:=λσ H Q=>to σ H λx H1=>tyV K T x H1∧t σ H1 λxs H2=>r x xs H2 Q
variable{o e:Expr}{es:List Expr}{to:TE}{t:TA}{name:Str}{apos nX:Pos}{T id:String}{r:V→List V→Hp→VK→Prop}
theorem m8(pa:PlainAttrs T)(slot:Slot T name id)(hty:typeOf (.builtin id)=pure (.type "method_descriptor"))(hm:MtR X id r)(ho:PE X o to)(ha:PA X (e::es) t)
    (Je:attributeBase o name X.env (eval o X.env)=eval o X.env:=by rfl)
    (C5:((backTo nX (starEach (e::es) X.env)).all (λx=>!x.1)&&(backToKw nX (keywordEach [] X.env)).all (λx=>x.1.isSome)
      && decide ((e::es).length+([]:List Keyword).length+(if([]:List Keyword).isEmpty then 0 else 1)<30))=true:=by rfl)
    (Jf:(apos.endLine == nX.line)=true:=by rfl) (hs:starEach (e::es) X.env=(false,eval e X.env)::starEach es X.env:=by rfl) (Fb:(backTo nX (starEach es X.env)).any (·.1)=false:=by rfl) :
    PE X (.Call (.Attribute o name apos) (e::es) [] nX) (tBM X.K T r to t):=by
  intro pins s σ H Q I h;refine wpAny_Call_method_late Je C5 Jf rfl (thn (ho pins s σ H _ I h) λv s1 ⟨x,H1,I1,r1,ty,q1⟩=>?_);obtain⟨h1,h2⟩:=E9 I1 r1 ty;refine#[T,id,pa,slot,hty,h1,h2,?_];have hA:=ha nX pins s1 σ H1 _ I1 q1;rw[hs]at hA ⊢;refine Calls.callWith_builtin (by show(false||(backTo nX (starEach es X.env)).any (·.1))=false;rw[Fb]<;>rfl) (Calls.evalArgs_plain ?_);exact thn hA λus s2 ⟨vs,H2,I2,r2,q2⟩=>hm pins s2 σ H2 x vs v us Q I2 r1 r2 q2
end
end L2
namespace L2
open PySem PySem.Spec PyProof.Rows
noncomputable def MtM(X:Cx)(id:String)(r:V→List V→Hp→VK→Prop):Prop :=
  ∀(pins:List (Addr×Obj)) (s:Shared) (σ:St) (H:Hp) (x:V) (xs:List V) (v:Value) (us:List Value) (Q:VK),Inv X pins σ H s→RelV x v→Vals xs us→r x xs H Q →
    wpAny (model X.prog X.w) X.A (call (.builtin id) (v::us)) (EP X pins σ Q) X.xe s
theorem Vals.one:∀ {x:V} {us:List Value},Vals [x] us→∃ u,us=[u]∧RelV x u
  | _,_,.cons r .nil=>#[_,rfl,r]
theorem Vals.eraseIdx:∀ {xs:List V} {us:List Value} (i:Nat),Vals xs us→Vals (xs.eraseIdx i) (us.eraseIdx i)
  | _,_,_,.nil=>.nil
  | _,_,0,.cons _ t=>t
  | _,_,i+1,.cons r t=>.cons r (Vals.eraseIdx i t)
theorem Vals.rep{xs:List V}{us:List Value}(h:Vals xs us):∀ k:Nat,Vals (List.replicate k xs).flatten (List.replicate k us).flatten
  | 0=>.nil
  | k+1=>by
    rw[OT,OT,Pj,Pj];exact Vals.append h (Vals.rep h k)
theorem rg{α:Type}:∀(l:List α) (i:Nat),(l.eraseIdx i).length≤l.length
  | [],_=>NO _
  | _::_,0=>OW _
  | _::r,i+1=>Nat.succ_le_succ (rg r i)
theorem foldl_rep(its:List Value):∀(k:Nat) (acc:List Value),
    List.foldl (λx1 x2=>x1++x2) acc.toArray (List.replicate k its.toArray)=(acc++(List.replicate k its).flatten).toArray
  | 0,acc=>by simp
  | k+1,acc=>by
    have e:acc.toArray++its.toArray=(acc++its).toArray:=(by simp);have e2:(acc++its)++(List.replicate k its).flatten=acc++(List.replicate (k+1) its).flatten:=by
      rw[OT,Pj,O6]
    rw[←e2,←foldl_rep its k (acc++its),←e,OT,Qb]
section
variable{X:Cx}{pins:List (Addr×Obj)}{σ:St}{H:Hp}{s:Shared}{l b:Addr}{xs ys zs:List V}
theorem Inv.Gz{its nW:List Value}{n:Nat}{f:Array Value→Array Value}{t':Nat}(I:Inv X pins σ H s)(hH:H l=some (.lst xs))
    (e:s.heap.get? l=some {cls:=.type "list",data:=.seq its.toArray n}) (hf:f its.toArray=nW.toArray) (hv:Vals ys nW) (hz:ys.length≤sizeLine) :
    Inv X pins σ (upd H l (.lst ys)) {s with heap:=s.heap.update l (Obj.mapSeq f),toks:=t'}:=by
  have q:=PySem.IsL.update e f;rw[hf]at q;refine I.write (x:=l) (e:=l) (by rw[hH];exact trivial) (.inl rfl) (λb' u hb hu=>(OE s.heap (Obj.mapSeq f) (Oj hb)).trans hu) #[_,q] ?_;exact#[hz,nW,_,hv,q]
theorem Inv.z6{its:List Value}{t':Nat}(I:Inv X pins σ H s)(hv:Vals ys its)(hz:ys.length≤sizeLine) :
    Inv X pins σ (upd H s.heap.objs.size (.lst ys)) {s with heap:=s.heap.push {cls:=.type "list",data:=.seq its.toArray},toks:=t'} :=
  I.laid (λ_ _ q=>NL _ q) (NO _) #[hz,its,0,hv,Oc _ rfl]
theorem Inv.fresh(I:Inv X pins σ H s):H s.heap.objs.size=none:=I.hok.fresh (NO _)
theorem Inv.z7(I:Inv X pins σ H s)(hH:H l=some (.lst xs)):xs.length≤sizeLine∧∃(its:List Value) (n:Nat),Vals xs its∧xs.length=its.length∧s.heap.get? l=some {cls:=.type "list",data:=.seq its.toArray n}:=by
  obtain⟨z,its,n,r,e⟩:=I.hok l _ hH;exact#[z,its,n,r,r.length,e]
theorem uI{n:Nat}(h:n≤sizeLine):Builtin.List.listTooLong n=false:=by
  unfold Builtin.List.listTooLong;exact decide_eq_false (by omega)
end
section
variable{X:Cx}
noncomputable def C6:V→List V→Hp→VK→Prop:=λx vs H Q=>∃ l xs y,x=.ref l∧vs=[y]∧H l=some (.lst xs)∧xs.length<sizeLine∧Q .non (upd H l (.lst (xs++[y])))
theorem ja:MtM X "list.append" C6:=by
  intro pins s σ H x vs v us Q I rx rv h;obtain⟨l,xs,y,rfl,rfl,hH,hz,q⟩:=h;cases rx;obtain⟨u,rfl,ru⟩:=rv.one;obtain⟨z,its,n,r,hl,e⟩:=I.z7 hH;refine call_meets F.slot_list_append #[_,e,rfl] F.entry_list_append (F.args_list_append_2 _ _) (PySem.list_append l its.toArray n u (by rw[NU];omega)) #[e,?_];refine#[.non,_,I.Gz (nW:=its++[u]) hH e (by simp) (r.append (.cons ru .nil)) ?_,rfl,q];rw[NX,OV];omega
noncomputable def C7:V→List V→Hp→VK→Prop:=λx vs H Q=>∃ l b xs zs,x=.ref l∧vs=[.ref b]∧H l=some (.lst xs)∧H b=some (.lst zs)∧xs.length+zs.length≤sizeLine∧Q .non (upd H l (.lst (xs++zs)))
theorem yx:MtM X "list.extend" C7:=by
  intro pins s σ H x vs v us Q I rx rv h;obtain⟨l,b,xs,zs,rfl,rfl,hH,hB,hz,q⟩:=h;cases rx;obtain⟨u,rfl,ru⟩:=rv.one;cases ru;obtain⟨z,its,n,r,hl,e⟩:=I.z7 hH;obtain⟨z2,xr,n2,r2,hl2,e2⟩:=I.z7 hB;have hsz:its.toArray.size+xr.toArray.size≤sizeLine:=by rw[NU,NU];omega
  have Ca:¬(!its.toArray.isEmpty&&Builtin.List.listTooLong (its.toArray.size+xr.toArray.size))=true:=by
    rw[uI hsz,Py];exact NQ
  refine call_meets F.slot_list_extend #[_,e,rfl] F.entry_list_extend (F.args_list_extend_2 _ _)
    (AutoSeq1.list_extend_list_list_0 l its.toArray n b xr.toArray n2 Ca (by rw[NU];omega) (by omega)) #[e,e2,?_]
  refine#[.non,_,I.Gz (nW:=its++xr) hH e (by simp) (r.append r2) ?_,rfl,q];rw[NX];omega
noncomputable def Fc:V→List V→Hp→VK→Prop:=λx vs H Q=>∃ l xs i k y,x=.ref l∧vs=[.int i]∧H l=some (.lst xs)∧-(2 ^ 63)≤i∧i<2 ^ 63∧seqIndex? i xs.length=some k∧xs[k]?=some y∧Q y (upd H l (.lst (xs.eraseIdx k)))
theorem Af:MtM X "list.pop" Fc:=by
  intro pins s σ H x vs v us Q I rx rv h;obtain⟨l,xs,i,k,y,rfl,rfl,hH,h1,h2,hk,hy,q⟩:=h;cases rx;obtain⟨u,rfl,ru⟩:=rv.one;obtain⟨t,rfl⟩:=ru;obtain⟨z,its,n,r,hl,e⟩:=I.z7 hH;obtain⟨w,hw,rw'⟩:=r.get hy;refine call_meets F.slot_list_pop #[_,e,rfl] F.entry_list_pop (F.args_list_pop_2 _ _)
    (MeetsSeq.list_pop_at l its.toArray n i t k w (fitsIndex_both h1 h2) (by rw[NU,←hl];exact hk) (by rw[←Array.getElem?_toList];exact hw) (by rw[NU];omega)) #[e,?_]
  refine#[y,_,I.Gz (nW:=its.eraseIdx k) hH e ?_ (r.eraseIdx k) ?_,rw',q]
  . show its.toArray.eraseIdxIfInBounds k=(its.eraseIdx k).toArray
    rw[List.eraseIdxIfInBounds_toArray]
  . have:=rg xs k
    omega
noncomputable def Lu:R2:=λx y H Q=>∃ l b xs zs,x=.ref l∧y=.ref b∧H l=some (.lst xs)∧H b=some (.lst zs)∧xs.length+zs.length≤sizeLine∧∀ p,H p=none→Q (.ref p) (upd H p (.lst (xs++zs)))
theorem Fd:OpR X (binaryOp .Add) Lu:=by
  intro pins s σ H x y v u Q I rx ry h;obtain⟨l,b,xs,zs,rfl,rfl,hH,hB,hz,q⟩:=h;cases rx;cases ry;obtain⟨z,its,n,r,hl,e⟩:=I.z7 hH;obtain⟨z2,xr,n2,r2,hl2,e2⟩:=I.z7 hB;refine PySem.P.add_list e e2 ?_ (by rw[NU,NU];omega);have ea:its.toArray++xr.toArray=(its++xr).toArray:=by simp
  rw[ea];exact#[.ref _,_,I.z6 (t':=s.toks) (r.append r2) (by rw[NX];omega),rfl,q _ I.fresh]
noncomputable def Lv:R2:=λx y H Q=>∃ l k xs,x=.ref l∧y=.int k∧H l=some (.lst xs)∧-(2 ^ 63)≤k∧k<2 ^ 63∧xs.length*k.toNat≤sizeLine ∧
  ∀ p,H p=none→Q (.ref p) (upd H p (.lst (List.replicate k.toNat xs).flatten))
theorem len_rep{α:Type}(xs:List α)(k:Nat):(List.replicate k xs).flatten.length=k*xs.length:=by
  induction k with
  | zero=>simp
  | succ k ih=>rw[OT,Pj,NX,ih,Nat.succ_mul,Nat.add_comm]
theorem wM:OpR X (binaryOp .Mult) Lv:=by
  intro pins s σ H x y v u Q I rx ry h;obtain⟨l,k,xs,rfl,rfl,hH,h1,h2,hz,q⟩:=h;cases rx;obtain⟨t,rfl⟩:=ry;obtain⟨z,its,n,r,hl,e⟩:=I.z7 hH;have hlen:its.toArray.size*k.toNat≤sizeLine:=by rw[NU,←hl];exact hz
  have Lw:¬its.toArray.size*k.toNat>(2 ^ 63-1)/8:=by
    have:(sizeLine:Nat)≤(2 ^ 63-1)/8:=by decide
    omega
  have Lx:¬(!Builtin.List.listFitsIndex k)=true:=by
    rw[fitsIndex_both h1 h2];exact NQ
  have Ca:¬Builtin.List.listTooLong (its.toArray.size*k.toNat)=true:=by
    rw[uI hlen];exact NQ
  have Ly:List.foldl (λx1 x2=>x1++x2) #[] (List.replicate (if its.toArray.isEmpty=true then 0 else k.toNat) its.toArray)=(List.replicate k.toNat its).flatten.toArray:=by
    have f0:∀ m:Nat,List.foldl (λx1 x2=>x1++x2) #[] (List.replicate m its.toArray)=(List.replicate m its).flatten.toArray:=λm=>by
      have:=foldl_rep its m []
      rw[List.nil_append]at this;exact this
    rw[f0];cases its with
    | nil=>simp
    | cons a r'=>rw[if_neg (by simp)]
  refine wpAny_binaryOp_repeat_ref (T := "list") (U := "int") (by decide) #[_,e,rfl] (λs'=>typeIs_int s' k t) noFill_list_mul F.fills_int_mul F.slot_int_rmul repeat_list F.slot_int_index.lookup
    (call_meets F.slot_int_rmul (typeIs_int s k t) F.entry_int_rmul (F.args_int_rmul_2 _ _) (int___rmul___int_list k t l its.toArray n)
      #[e,rfl,#[_,e,rfl],call_meets F.slot_list_mul #[_,e,rfl] F.entry_list_mul (F.args_list_mul_2 _ _) (AutoListH.list___mul___list_int_3 l its.toArray n k t Lx Lw Ca) #[e,?_]])
  rw[Ly];exact#[.ref _,_,I.z6 (t':=s.toks) (r.rep k.toNat) (by rw[len_rep,Nat.mul_comm];exact hz),rfl,q _ I.fresh]
end
section
variable{prog:Program}{w:World}{A:Around}{E:Value→Shared→Prop}{s:Shared}
end
section
variable{X:Cx}
end
end L2
namespace Att
open PySem PySem.W PySem.Calls PyProof.Rows
theorem m9{P:Params}{h:Heap}:∀(ns:List Int) (vs:List Value),WellAll P h vs (ns.map WData.int)→IntsAre vs ns:=by
  intro ns;induction ns with
  | nil =>
    intro vs w;rw[Pq]at w;cases w;exact .nil
  | cons n ns ih =>
    intro vs w;rw[Oo]at w;cases w with
    | cons a b =>
      cases a;exact .cons _ _ (ih _ b)
theorem yy{l:OpenLaw}{n:Nat}(hn:l.most=some n){P:Params}{h:Heap}{args:List WData}{vals:List Value}
    (Es:l.row.toRowW.claim.pre args=true) (hwl:WellAll P h vals args) :
    ∃ a vs ns,vals=[Value.ref a]∧args=[WData.list (ns.map WData.int)]∧h.get? a=some {cls:=.type "list",data:=.seq vs.toArray}∧IntsAre vs ns∧ns.length≤n:=by
  have hsh:WShape.hasAll [] args [.list .int]=true:=(pre_splitW Es).1;have hc:l.pre.holds [] {args:=args}=true:=(pre_splitW Es).2;obtain⟨d,r,rfl,h1,h2⟩:=hasAllW_cons hsh;obtain rfl:=hasAllW_nil h2;obtain⟨xs,rfl,h3⟩:=hasW_list h1;obtain⟨ns,rfl⟩:=items_int h3;have hlen:ns.length≤n:=by
    unfold OpenLaw.pre at hc;have h4:(WTm.not (.lt (.lit (.int (n:Int))) (.len (.arg 0)))).holds [] {args:=[.list (ns.map .int)]}=true:=by
      have h4:=(holds_andW hc).1;rw[hn]at h4;exact h4
    have h5:=condW_of h4 (w_not (w_lt w_lit (w_len_list (w_arg rfl))));rw[NI]at h5;refine Nat.le_of_not_lt λq=>?_;have q':(n:Int)<((ns.length:Nat):Int):=by omega
    first
      | (rw[decide_eq_true q']at h5;exact absurd h5 (by decide))
      | (simp at h5;omega)
  cases hwl with
  | cons w1 w2 =>
    cases w2;cases w1 with
    | list ho nY=>exact#[_,_,ns,rfl,rfl,ho,m9 ns _ nY,hlen]
theorem yz(l:OpenLaw)(args:List WData):l.row.toRowW.claim.post args (.bool true) args=true :=
  postW_of (r:=l.row.toRowW) (X:=(true == true))
    (show WShape.has [] (.bool true) .bool=true by first|rfl|decide|simp[WShape.has,WShape.arms,WShape.armsAll])
    (show(WTm.eq .res (.lit (.bool true))).value [] {args:=args,res:=some (.bool true),after:=args}=some (.bool (true == true)) from w_eq_bool (w_res rfl) w_lit) rfl
theorem t6{l:OpenLaw}{n:Nat}{q:Program}{loose:List Str}{XP:(Str→Option Value)→Heap→Prop}{YP:World→Heap→Prop}{d:DefRec}
    (hn:l.most=some n) (hdf:d.params.defaults=[])
    (call:∀(w:World) (s₀ s₁:Shared) (mg mb:Str→Option Value) (fa:Addr) (o:Obj) (pm cd doc:Value) (a:Addr) (vs:List Value) (ns:List Int),
      Ground q loose [] XP w s₀ mg mb s₁.heap→YP w s₁.heap →
      s₁.heap.get? fa=some o→o.data=.func (docDef d.name d.params d.body d.scope pm cd doc)→s₁.heap.CodeRec cd d.name→mg d.name=some (.ref fa) →
      s₁.heap.get? a=some {cls:=.type "list",data:=.seq vs.toArray}→IntsAre vs ns→ns.length≤n→s₁.gens=#[] →
      codeAny (model l.prog w) callerA (.call (.ref fa) #[[.ref a],[]]) (λr s'=>r=.ok (.ret (.bool true))∧OldK s₁.heap s'.heap∧s'.os=s₁.os∧AllBare s'.gens) s₁) :
    WalkO q loose XP YP l.row.toRowW d [] (λf vs=>PySem.call f vs):=by
  intro w s₀ s₁ mg mb G Y fa o pm cd doc dV kV ho hd hcd hD hmg hg args vals as Es hlay hrd hwl hlo;obtain rfl:dV=.none:=Dflts.none hD hdf;obtain rfl:kV=.none:=Dflts.noKw hD;obtain⟨a,vs,ns,rfl,rfl,GA,hints,hlen⟩:=yy hn Es hwl;refine enter_call (codeAny_mono (call w s₀ s₁ mg mb fa o pm cd doc a vs ns G Y ho (fd_plain hd) hcd hmg GA hints hlen hg) λr s' hq=>?_);obtain⟨rfl,h2,h3,h4⟩:=hq;exact#[.inl #[.bool true,.bool true,[],rfl,λ_=>rfl,.bool true,yz l _,λ_=>#[List.Pairwise.nil,λ_ hm=>(nomatch hm)]],h2,h3,h4]
section
variable{prog:Program}{w:World}{A:Around}{E:Value→Shared→Prop}{s:Shared}{K:Frag}
end
end Att
namespace L2
open PySem PySem.Spec PyProof.Rows
theorem jb:∀ {vs:List Value} {ns:List Int},IntsAre vs ns→Vals (ns.map V.int) vs
  | _,_,.nil=>.nil
  | _,_,.cons n t h=>.cons #[t,rfl] (jb h)
noncomputable def GB(H:Hp):Prop:=∀ b,H b=none∨∃ o xs,H b=some (.frz o (.lst xs))
theorem Ag{P:Program}{w:World}{K:W.Frag}{mg mb:Str→Option Value}{CX:CXT}{k:Nat}{fa a:Addr}{fd:FuncData}{x:Str}{sp:Sp}{s₁:Shared}{vs:List Value}{ns:List Int}
    (KX:K.In s₁.heap) (hns:s₁.heap.Ns mainGlobals mg) (hb:s₁.heap.Ns builtinsNs mb) (hbb:∀ x:Str,x ≠ "__name__" → mb x=bootBuiltins x) (Lz:s₁.heap.NoLimit) (hg:s₁.gens=#[])
    (ha:s₁.heap.get? a=some {cls:=.type "list",data:=.seq vs.toArray}) (hi:IntsAre vs ns) (hl:ns.length≤sizeLine) (hr:cT k callerA)
    (F:∀ base:Heap,K.In base→base.Ns mainGlobals mg→cx P w K mg base CX k fa fd [x] sp) (Jg:∀(s:Shared) (u:Value),BindsTo s fd #[[u],[]] [(x,u)])
    (hsp:∀ H:Hp,GB H→SqL K H a (ns.map V.int)→sp [.ref a] H (λv _=>v=.bl true) λ_ _ _=>False)
    (hCX:∀ H e s',CX [] H s₁ (λ_ _ _=>False) e s'→False) :
    codeAny (model P w) callerA (.call (.ref fa) #[[.ref a],[]]) (λr s'=>r=.ok (.ret (.bool true))∧OldK s₁.heap s'.heap∧s'.os=s₁.os∧AllBare s'.gens) s₁:=by
  have rv:=jb hi;have LA:=hi.length;have core:∀ H:Hp,GB H→SqL K H a (ns.map V.int)→HOk P w H s₁.heap→(∀ b,H b≠none→b=a)→(H a≠none→K.lookup a=none) →
      codeAny (model P w) callerA (.call (.ref fa) #[[.ref a],[]]) (λr s'=>r=.ok (.ret (.bool true))∧OldK s₁.heap s'.heap∧s'.os=s₁.os∧AllBare s'.gens) s₁:=by
    intro H hO hS hok hA hK;have xt:∀ {b:Addr} {o:Obj},s₁.heap.get? b=some o→H b=none→(vp s₁.heap H).get? b=some o:=λe n=>Ab e n;have noA:∀ {b:Addr} {o:Obj} {es:Array DictEntry} {ep:Nat},s₁.heap.get? b=some o→o.data=.dict es ep→H b=none:=λ{b o es ep} e d=>by
      cases q:H b with
      | none=>rfl
      | some u =>
        have e':b=a:=hA b (by rw[q];simp);subst e';rw[ha]at e;cases e;have d':Data.seq vs.toArray _=Data.dict es ep:=d;cases d'
    have nsK:∀ {b:Addr} {m:Str→Option Value},s₁.heap.Ns b m→(vp s₁.heap H).Ns b m:=λ{b m} ⟨o,es,ep,e,d,r⟩=>#[o,es,ep,xt e (noA e d),d,r];have hKb:K.In (vp s₁.heap H):=λb o e=>xt (KX b o e) (by
      cases q:H b with
      | none=>rfl
      | some u =>
        have e':b=a:=hA b (by rw[q];simp);subst e';rw[hK (by rw[q];simp)]at e;cases e)
    have hM:Mod K mg (vp s₁.heap H):=#[hKb,nsK hns,#[mb,nsK hb,hbb],let ⟨mc,h1,h2⟩:=Lz;#[mc,nsK h1,h2]];have e0:vx P w K mg (vp s₁.heap H) callerA [] s₁ H:=#[rfl,hM,λb o e=>CY e,Nat.le_of_eq (yj _ _),trivial,λb hb=>absurd (show b∈([]:List Addr) from hb) (by simp),hok,.of_eq hg];refine codeAny_mono ((F _ hKb (nsK hns)).run callerA [] s₁ H #[[.ref a],[]] [.ref a] [.ref a] _ _ hr e0 (Jg s₁ (.ref a)) (.cons rfl .nil) (hsp H hO hS)) λr s' h=>?_;cases r with
    | error e=>exact(hCX H e s' h).elim
    | ok fl =>
      cases fl with
      | next=>exact False.elim h
      | brk=>exact False.elim h
      | cont=>exact False.elim h
      | ret u =>
        obtain⟨v,H',os,bare,un,LB,r',q⟩:=h;have q':v=.bl true:=q;subst q';obtain rfl:u=Value.bool true:=r';refine#[rfl,OldK.of_keep λb o e=>?_,os,bare];cases q:H b with
        | none=>exact un.keep b o e q (by intro z;exact absurd (show b∈([]:List Addr) from z) (by simp)) (by simp)
        | some u =>
          rcases hO b with z|⟨ob,xs,z⟩
          . rw[q]at z;cases z
          . have z2:=un.nV b ob _ z
            obtain⟨e1,_⟩:=hok b _ z;obtain⟨e2,_⟩:=LB b _ z2;rw[e]at e1;cases e1;exact e2
  cases hk:K.lookup a with
  | some o =>
    have e:=KX a o hk;rw[ha]at e;cases e;refine core (λ_=>none) (λ_=>.inl rfl) (.inr #[_,vs.toArray,_,hk,rfl,rfl,rfl,by rw[NU,LA];exact hl,by simpa using rv]) (λb u z=>by have z':(none:Option HO)=some u:=z;cases z') (λb z=>absurd rfl z) λz=>absurd rfl z
  | none =>
    refine core (λb=>if b=a then some (.frz {cls:=.type "list",data:=.seq vs.toArray} (.lst (ns.map V.int))) else none) (λb=>?_) (.inl (.inr #[{cls:=.type "list",data:=.seq vs.toArray},if_pos rfl])) (λb u z=>?_) (λb z=>?_) λ_=>hk
    . by_cases hb:b=a
      . exact .inr #[_,_,if_pos hb]
      . exact .inl (if_neg hb)
    . by_cases hb:b=a
      . have z':=(if_pos hb).symm.trans z
        cases z';subst hb;exact#[ha,by rw[NI];exact hl,vs,_,rv,ha]
      . have z':=(if_neg hb).symm.trans z
        cases z'
    . by_cases hb:b=a
      . exact hb
      . exact absurd (if_neg hb) z
end L2
namespace L2
open PySem PySem.Spec PyProof.Rows
theorem C8{l:PySem.W.OpenLaw}{n k:Nat}{q:Program}{loose:List Str}{XP:(Str→Option Value)→Heap→Prop}{YP:World→Heap→Prop}{d:DefRec}{K:Params→W.Frag}{CX:World→CXT}{sp:World→Sp}{x:Str}
    (hn:l.most=some n) (hn2:n≤sizeLine) (hdf:d.params.defaults=[]) (hr:cT k callerA)
    (hY:∀(w:World) (h:Heap),YP w h→(K w.params).In h)
    (F:∀(w:World) (mg:Str→Option Value) (fa:Addr) (h:Heap),(K w.params).In h→h.Ns mainGlobals mg→mg d.name=some (.ref fa) →
      ∃ fd:FuncData,(∀(s:Shared) (u:Value),BindsTo s fd #[[u],[]] [(x,u)]) ∧
        ∀ base:Heap,(K w.params).In base→base.Ns mainGlobals mg→cx l.prog w (K w.params) mg base (CX w) k fa fd [x] (sp w))
    (hsp:∀(w:World) (H:Hp) (a:Addr) (ns:List Int),ns.length≤n→GB H→SqL (K w.params) H a (ns.map V.int)→sp w [.ref a] H (λv _=>v=.bl true) λ_ _ _=>False)
    (hCX:∀(w:World) (H:Hp) (s:Shared) (e:Value) (s':Shared),CX w [] H s (λ_ _ _=>False) e s'→False) :
    PySem.W.WalkO q loose XP YP l.row.toRowW d [] (λf vs=>PySem.call f vs):=by
  refine Att.t6 hn hdf λw s₀ s₁ mg mb fa o pm cd doc a vs ns G Y ho hd hcd hmg GA hints hlen hg=>?_;have KX:=hY w _ Y;obtain⟨fd,hb,hF⟩:=F w mg fa _ KX G.T.g hmg;exact Ag KX G.T.g G.T.b G.T.builtins G.T.nolimit hg GA hints (NW hlen hn2) hr hF hb (λH hO hS=>hsp w H a ns hlen hO hS) λH e s'=>hCX w H s₁ e s'
end L2
namespace L2
open PySem PySem.Spec PyProof.Rows
noncomputable def inClass(s:Stmt)(j:Nat):Stmt:=match s with
  | .ClassDef _ _ _ body _ _ _ _ _ _ _=>body.getD j (.Pass #[0,0,0,0])
  | _=>.Pass #[0,0,0,0]
noncomputable def ck(s:Stmt):Arguments:=match s with
  | .FunctionDef _ a _ _ _ _ _ _ _ _=>a
  | _=>{posonlyargs:=[],args:=[],vararg:=none,kwonlyargs:=[],kw_defaults:=[],kwarg:=none,defaults:=[]}
noncomputable def aA(s:Stmt):List Stmt:=match s with
  | .FunctionDef _ _ b _ _ _ _ _ _ _=>b
  | _=>[]
noncomputable def ag(s:Stmt):Scope:=match s with
  | .FunctionDef _ _ _ _ _ _ sc _ _ _=>sc
  | _=>{kind:=.function,names:=[],isGenerator:=false,isCoroutine:=false}
structure Fun(K:W.Frag)(x qual:Str)(st:Stmt)(f:Addr)(fd:FuncData):Prop where
  ex:∃(oc:Value) (od:Option Addr) (kV doc pm:Value) (an:Option Addr) (cdv ct:Value) (osl:Array (Option Value)),
    fd=PySem.W.fnOf x qual (ck st) (aA st) (ag st) .none kV doc pm an cdv ct∧K.lookup f=some #[oc,od,.func fd,osl]∧PySem.W.codeIn K cdv qual=true
  kp:PySem.W.keepIn K (.ref f)=true
section
variable{P:Program}{w:World}{K:W.Frag}{mg:Str→Option Value}{base:Heap}
theorem Fun.binds{x qual:Str}{st:Stmt}{f:Addr}{fd:FuncData}{ps:List Str}(F:Fun K x qual st f fd)
    (h:∀(kV doc pm:Value) (an:Option Addr) (cdv ct:Value) (us:List Value),us.length=ps.length→bindArgs (PySem.W.fnOf x qual (ck st) (aA st) (ag st) .none kV doc pm an cdv ct) #[us,[]]=pure (ps.zip us)):Binds K fd ps []:=by
  obtain⟨oc,od,kV,doc,pm,an,cdv,ct,osl,rfl,lk,hcd⟩:=F.ex;exact .all (h kV doc pm an cdv ct)
end
theorem cY{A:Around}{k:Nat}(hr:cT k A):A.units+1<cLine:=Ow (PQ (by decide:1≤64) _) hr.units
section
variable{X:Cx}
theorem pv(i:Nat){x:Str}{pos:Pos}(hN:X.N[i]?=some x:=by rfl)(hv:Vis X.env.scope x:=by first|exact Or.inl rfl|exact Or.inr (Or.inl rfl)|exact Or.inr (Or.inr rfl))(hd:(x == ("__debug__" : Str))=false:=by decide)
    (hcd:(x == ("__classdict__" : Str))=false:=by decide):PE X (.Name x pos) (uA i):=EX hN hv hd hcd
end
theorem b7{A B:Prop}(h:B):if false=true then A else B:=by
  rw[if_neg NQ];exact h
theorem cZ{A B:Prop}(h:A):if true=true then A else B:=by
  rw[if_pos rfl];exact h
theorem bw{c A B:Prop}[Decidable c](h1:c→A)(h2:¬c→B):if c then A else B:=by
  by_cases h:c
  . rw[if_pos h]
    exact h1 h
  . rw[if_neg h]
    exact h2 h
noncomputable def au(H H':Hp):Prop:=∀ b o,H b=some o→H' b=some o
theorem au.refl(H:Hp):au H H:=λ_ _ h=>h
theorem au.trans{H H1 H2:Hp}(a:au H H1)(b:au H1 H2):au H H2:=λc o h=>b c o (a c o h)
theorem au.free{H H':Hp}(e:au H H'){l:Addr}(h:H' l=Option.none):H l=Option.none:=by
  cases q:H l with
  | none=>rfl
  | some o =>
    rw[e l o q]at h;cases h
theorem au.seq{K:W.Frag}{H H':Hp}{a:Addr}{xs:List V}(e:au H H')(h:SqL K H a xs):SqL K H' a xs:=by
  rcases h with(h|⟨o,h⟩)|h
  . exact .inl (.inl (e _ _ h))
  . exact .inl (.inr #[o,e _ _ h])
  . exact .inr h
end L2
end
section
namespace K27
open PySem PySem.W L2 PySem.PyData
noncomputable def top(i:Nat):Stmt:=PySem.Challenge.pw_stillheap_k27_whole_lists_added_up.main.body.getD i (.Pass #[0,0,0,0])
noncomputable abbrev de:Stmt:=inClass (top 2) 0
noncomputable abbrev c5:Stmt:=inClass (top 3) 0
noncomputable abbrev c6:Stmt:=inClass (top 4) 0
noncomputable abbrev cL:Stmt:=inClass (top 5) 0
noncomputable abbrev cN:Stmt:=inClass (top 6) 0
noncomputable abbrev dC:Stmt:=inClass (top 7) 0
noncomputable abbrev bX:Stmt:=inClass (top 8) 0
noncomputable abbrev rh:Stmt:=top 11
noncomputable abbrev rj:Stmt:=top 12
noncomputable abbrev o5:Stmt:=top 13
noncomputable abbrev rk:Stmt:=top 14
noncomputable abbrev rq:Stmt:=top 15
noncomputable abbrev mN:Stmt:=top 16
noncomputable abbrev rA:Stmt:=top 17
noncomputable abbrev rB:Stmt:=top 18
noncomputable abbrev rC:Stmt:=top 19
noncomputable abbrev rD:Stmt:=top 20
noncomputable abbrev rE:Stmt:=top 21
noncomputable abbrev uJ:Stmt:=top 22
noncomputable abbrev rF:Stmt:=top 23
noncomputable abbrev rG:Stmt:=top 24
noncomputable abbrev o6:Stmt:=top 25
noncomputable abbrev o9:Stmt:=top 26
noncomputable abbrev uK:Stmt:=top 27
noncomputable abbrev dQ:Stmt:=inClass (top 30) 0
noncomputable abbrev iB:Stmt:=inClass (top 30) 1
noncomputable abbrev si:Stmt:=inClass (top 30) 2
noncomputable abbrev iC:Stmt:=inClass (top 30) 3
noncomputable abbrev gX:Stmt:=inClass (top 30) 4
noncomputable abbrev gY:Stmt:=inClass (top 30) 5
noncomputable abbrev cF:Stmt:=inClass (top 30) 6
noncomputable abbrev rH:Stmt:=top 31
noncomputable abbrev jk:Stmt:=top 32
noncomputable abbrev iD:Stmt:=top 33
noncomputable abbrev uL:Stmt:=top 34
noncomputable abbrev iE:Stmt:=top 42
noncomputable abbrev jl:Stmt:=top 43
noncomputable abbrev rJ:Stmt:=top 44
noncomputable abbrev pb:Stmt:=top 45
noncomputable abbrev fT:Stmt:=top 46
noncomputable abbrev iF:Stmt:=top 47
noncomputable abbrev iG:Stmt:=top 48
noncomputable abbrev gZ:Stmt:=top 49
noncomputable abbrev fU:Stmt:=top 50
noncomputable abbrev fV:Stmt:=inClass (top 52) 0
noncomputable abbrev g9:Stmt:=inClass (top 52) 1
noncomputable abbrev eW:Stmt:=inClass (top 52) 2
noncomputable abbrev mO:Stmt:=inClass (top 52) 3
noncomputable abbrev kI:Stmt:=inClass (top 52) 4
noncomputable abbrev iH:Stmt:=inClass (top 52) 5
noncomputable abbrev kK:Stmt:=inClass (top 52) 6
noncomputable abbrev jn:Stmt:=inClass (top 52) 7
noncomputable abbrev kL:Stmt:=inClass (top 52) 8
noncomputable abbrev eX:Stmt:=inClass (top 52) 9
noncomputable abbrev di:Stmt:=inClass (top 55) 0
noncomputable abbrev fX:Stmt:=inClass (top 55) 1
noncomputable abbrev dS:Stmt:=inClass (top 55) 4
noncomputable abbrev fY:Stmt:=inClass (top 55) 5
noncomputable abbrev lH:Stmt:=inClass (top 55) 6
noncomputable abbrev kN:Stmt:=top 57
noncomputable abbrev dj:Stmt:=inClass (top 59) 0
noncomputable abbrev fZ:Stmt:=inClass (top 59) 1
noncomputable abbrev eY:Stmt:=inClass (top 59) 2
noncomputable abbrev cp:Stmt:=inClass (top 59) 4
noncomputable abbrev hG:Stmt:=inClass (top 61) 0
noncomputable abbrev gb:Stmt:=inClass (top 61) 1
noncomputable abbrev mP:Stmt:=inClass (top 61) 2
noncomputable abbrev kO:Stmt:=inClass (top 61) 3
noncomputable abbrev mQ:Stmt:=inClass (top 61) 4
noncomputable abbrev mS:Stmt:=inClass (top 61) 5
noncomputable abbrev jo:Stmt:=inClass (top 61) 6
noncomputable abbrev mT:Stmt:=inClass (top 61) 7
noncomputable abbrev eZ:Stmt:=inClass (top 61) 8
noncomputable abbrev mU:Stmt:=inClass (top 61) 9
noncomputable abbrev cu:Stmt:=inClass (top 61) 10
noncomputable abbrev jq:Stmt:=inClass (top 61) 11
noncomputable abbrev cv:Stmt:=inClass (top 61) 15
noncomputable abbrev cg:Stmt:=inClass (top 61) 16
noncomputable abbrev jr:Stmt:=top 62
noncomputable abbrev dq:Stmt:=inClass (top 64) 0
noncomputable abbrev gc:Stmt:=inClass (top 64) 1
noncomputable abbrev gf:Stmt:=inClass (top 64) 2
noncomputable abbrev gg:Stmt:=inClass (top 64) 3
noncomputable abbrev gh:Stmt:=inClass (top 64) 4
noncomputable abbrev e9:Stmt:=inClass (top 64) 5
noncomputable abbrev dU:Stmt:=inClass (top 64) 6
noncomputable abbrev gi:Stmt:=inClass (top 64) 7
noncomputable abbrev gj:Stmt:=inClass (top 64) 8
noncomputable abbrev fg:Stmt:=inClass (top 64) 9
noncomputable abbrev jA:Stmt:=inClass (top 64) 15
noncomputable abbrev lI:Stmt:=inClass (top 64) 20
noncomputable abbrev fi:Stmt:=inClass (top 64) 22
noncomputable abbrev jQ:Stmt:=top 70
noncomputable abbrev gR:Stmt:=top 71
noncomputable abbrev jS:Stmt:=top 72
noncomputable abbrev gS:Stmt:=top 73
noncomputable abbrev iP:Stmt:=top 74
noncomputable abbrev d9:Stmt:=top 78
noncomputable abbrev fI:Stmt:=top 79
noncomputable abbrev iQ:Stmt:=top 80
noncomputable abbrev c7:Stmt:=top 81
noncomputable abbrev ar:Stmt:=top 83
noncomputable abbrev bL:Stmt:=top 84
noncomputable section
abbrev OO:=Params→Obj
abbrev FN:=Str×Str×Stmt
noncomputable def oF(f:FN)(m:Value)(r:Addr):OO:=λ_=>#[.type "function",none,.func (fnOf f.1 f.2.1 (ck f.2.2) (aA f.2.2) (ag f.2.2) .none .none .none m none (.ref r) .none),#[]]
noncomputable def oG(f:FN):OO:=λ_=>#[.none,none,.func #[f.1,f.2.1,ck f.2.2,.stmts (aA f.2.2),ag f.2.2,0,[],.none,.none,.none,.none,none,.none,.none,0],#[]]
noncomputable def oT(l:List Value):OO:=λ_=>#[.type "tuple",none,.seq (List.toArray l) 0,#[]]
def oS:List Str→Tok→List Value
 | [],_=>[]
 | x::r,k=>.str x k::oS r (k+1)
noncomputable def oD(l:List (Str×Tok×Value))(n:Nat):OO:=λP=>#[.type "dict",none,.dict (List.toArray (l.map λe=>#[keyHash P e.1,.str e.1 e.2.1,e.2.2])) n,#[]]
def zB:List String→Tok→List (Str×Tok×Value)
 | [],_=>[]
 | x::r,k=>(Str.ofString x,k,.builtin x)::zB r (k+1)
def zT:List String→Tok→List (Str×Tok×Value)
 | [],_=>[]
 | x::r,k=>(Str.ofString x,k,.type x)::zT r (k+1)
def ap(a b:List (Str×Tok×Value)):List (Str×Tok×Value):=a++b
noncomputable def oC(f:FN)(t:Tok)(l a b c d:Int)(r:Addr)(e:Int)(g h i j:Addr)(z:Int)(u:Tok):OO:=λ_=>#[.type "code",none,.fields (List.toArray [.str f.1 t,.str f.2.1 (t+1),.str "/claim/cut.py" (t+2),.int l 0,.int a 0,.int b 0,.int c 0,.int d 0,.ref r,.bool true,.int e 0,.ref g,.none,.ref h,.ref i,.ref j,.int z 0,.int l 0,.str "/claim/cut.py" u]),#[]]
noncomputable def oN(f:FN)(t:Tok)(l a b c d:Int)(r:Addr)(e:Int)(g j:Addr)(z:Int)(u:Tok):OO:=λ_=>#[.type "code",none,.fields (List.toArray [.str f.1 t,.str f.2.1 (t+1),.str "/claim/cut.py" (t+2),.int l 0,.int a 0,.int b 0,.int c 0,.int d 0,.ref r,.bool true,.int e 0,.ref g,.none,.none,.none,.ref j,.int z 0,.int l 0,.str "/claim/cut.py" u]),#[]]
noncomputable def oM(n:Str)(t:Tok)(l:Int)(r:Addr)(e:Int)(f:Addr)(z:Int)(u:Tok):OO:=λ_=>#[.type "code",none,.fields (List.toArray [.str n t,.str n (t+1),.str "/claim/cut.py" (t+2),.int l 0,.int 0 0,.int 0 0,.int 0 0,.int 0 0,.ref r,.bool false,.int e 0,.ref f,.none,.none,.none,.none,.int z 0,.int l 0,.str "/claim/cut.py" u]),#[]]
def oI:List Nat→List Value
 | a::b::c::r=>.int a 0::.int b 0::.ref c::oI r
 | _=>[]
noncomputable def oX(l:List Nat):OO:=λ_=>#[.none,none,.fields (List.toArray (oI l)),#[]]
noncomputable def oR(a b c:Addr)(m:Value):OO:=λ_=>#[.type "frame",none,.plain,List.toArray [some (.ref a),some (.ref b),some (.ref c),none,some m,none,some (.ref 0)]]
noncomputable def oP(a b:Value):OO:=λ_=>#[.type "builtin_function_or_method",none,.fields (List.toArray [a,b]),#[]]
noncomputable def oY(n:Str)(b m:List Value)(d:Addr)(u:List Value)(k:Option Value)(t1 t2:Tok)(w:Value):OO:=λ_=>#[.type "type",none,.cls #[n,b,m,d,n,true,[],u,false,none,false],List.toArray [k,none,some (.str n t1),some (.str n t2),some w,some (.bool true)]]
noncomputable def oU(a:Addr):OO:=λ_=>#[.type "super",none,.fields (List.toArray [.ref a,.ref a,.ref a]),#[]]
def spl:List OO→List OO×List OO
 | []=>([],[])
 | [a]=>([a],[])
 | a::b::r=>(a::(spl r).1,b::(spl r).2)
noncomputable def mkT(P:Params):Nat→List OO→BT
 | 0,_=>.nil
 | _+1,[]=>.nil
 | n+1,x::r=>.node (x P) (mkT P n (spl r).1) (mkT P n (spl r).2)
def stT(l:List OO)(c:List (Nat×OO)):List OO:=c.foldl (λl p=>l.set p.1 p.2) l
def fn0:FN:=("_wall","_wall",top 0)
def fn1:FN:=("__init__","HeapError.__init__",de)
def fn2:FN:=("called","HeapError.called",inClass (top 2) 1)
def fn3:FN:=("called","BadHand.called",c5)
def fn4:FN:=("called","BadName.called",c6)
def fn5:FN:=("called","BadField.called",cL)
def fn6:FN:=("called","BadCount.called",cN)
def fn7:FN:=("called","NoRoom.called",dC)
def fn8:FN:=("called","TooManyWords.called",bX)
def fn9:FN:=("__init__","BadText.__init__",inClass (top 9) 0)
def GD:FN:=("called","BadText.called",inClass (top 9) 1)
def GF:FN:=("do_make","do_make",rh)
def GG:FN:=("do_load","do_load",rj)
def GI:FN:=("do_store","do_store",o5)
def GJ:FN:=("do_copy","do_copy",rk)
def GK:FN:=("do_drop","do_drop",rq)
def GL:FN:=("do_number","do_number",mN)
def GN:FN:=("do_name","do_name",rA)
def GO:FN:=("do_read","do_read",rB)
def GP:FN:=("do_word","do_word",rC)
def GQ:FN:=("do_take","do_take",rD)
def GS:FN:=("do_held","do_held",rE)
def GU:FN:=("do_add","do_add",uJ)
def GV:FN:=("do_less","do_less",rF)
def GX:FN:=("is_same","is_same",rG)
def GY:FN:=("is_below","is_below",o6)
def GZ:FN:=("is_thing","is_thing",o9)
def G0:FN:=("always","always",uK)
def G4:FN:=("__init__","Running.__init__",dQ)
def G5:FN:=("step","Running.step",iB)
def G6:FN:=("at","Running.at",si)
def G8:FN:=("told","Running.told",iC)
def Ha:FN:=("fault","Running.fault",gX)
def Hb:FN:=("steps","Running.steps",gY)
def Hd:FN:=("place_behind","Running.place_behind",cF)
def He:FN:=("run_all","run_all",rH)
def Hg:FN:=("mark_places","mark_places",jk)
def Hh:FN:=("place_within","place_within",iD)
def Hi:FN:=("spoken","spoken",uL)
def Hj:FN:=("number_value","number_value",iE)
def Hk:FN:=("thing_value","thing_value",jl)
def Hl:FN:=("kind_of","kind_of",rJ)
def Hm:FN:=("words_of","words_of",pb)
def Ho:FN:=("look_at_number","look_at_number",fT)
def Hq:FN:=("look_at_hand","look_at_hand",iF)
def Hr:FN:=("look_at_name","look_at_name",iG)
def Hs:FN:=("look_at_field","look_at_field",gZ)
def Ht:FN:=("look_at_limits","look_at_limits",fU)
def Hu:FN:=("__init__","Hands.__init__",fV)
def Hv:FN:=("word_in","Hands.word_in",g9)
def Hw:FN:=("all_words","Hands.all_words",eW)
def Hy:FN:=("put","Hands.put",mO)
def Hz:FN:=("copy","Hands.copy",kI)
def HB:FN:=("number","Hands.number",iH)
def HC:FN:=("kind","Hands.kind",kK)
def HD:FN:=("value","Hands.value",jn)
def HE:FN:=("same","Hands.same",kL)
def HF:FN:=("thing_due","Hands.thing_due",eX)
def HG:FN:=("__init__","WordTable.__init__",di)
def HH:FN:=("bear","WordTable.bear",fX)
def HI:FN:=("word_of","WordTable.word_of",inClass (top 55) 2)
def HJ:FN:=("bearers","WordTable.bearers",inClass (top 55) 3)
def HK:FN:=("settle","WordTable.settle",dS)
def HL:FN:=("take","WordTable.take",fY)
def HM:FN:=("said","WordTable.said",lH)
def HN:FN:=("last_steps","last_steps",kN)
def HP:FN:=("__init__","NameTable.__init__",dj)
def HQ:FN:=("name","NameTable.name",fZ)
def HR:FN:=("named","NameTable.named",eY)
def HU:FN:=("all_named","NameTable.all_named",inClass (top 59) 3)
def HV:FN:=("settle","NameTable.settle",cp)
def HW:FN:=("__init__","Heap.__init__",hG)
def HX:FN:=("add_thing","Heap.add_thing",gb)
def HY:FN:=("load","Heap.load",mP)
def HZ:FN:=("store","Heap.store",kO)
def Ia:FN:=("copy","Heap.copy",mQ)
def Ib:FN:=("drop","Heap.drop",mS)
def Ic:FN:=("number","Heap.number",jo)
def Ie:FN:=("name","Heap.name",mT)
def Ig:FN:=("read_thing","Heap.read_thing",eZ)
def Ih:FN:=("word","Heap.word",mU)
def Ii:FN:=("small_round","Heap.small_round",cu)
def Ij:FN:=("let_go","Heap.let_go",jq)
def Ik:FN:=("look_at_held","Heap.look_at_held",inClass (top 61) 12)
def Il:FN:=("field_value","Heap.field_value",inClass (top 61) 13)
def Im:FN:=("counts_held","Heap.counts_held",inClass (top 61) 14)
def Io:FN:=("words_among","Heap.words_among",cv)
def Ip:FN:=("led_among","Heap.led_among",cg)
def Iq:FN:=("thing_among","thing_among",jr)
def Ir:FN:=("__init__","IdealHeap.__init__",dq)
def Iu:FN:=("make","IdealHeap.make",gc)
def Iv:FN:=("read","IdealHeap.read",gf)
def Iw:FN:=("take","IdealHeap.take",gg)
def Iy:FN:=("kind","IdealHeap.kind",gh)
def Iz:FN:=("value","IdealHeap.value",e9)
def IA:FN:=("fields","IdealHeap.fields",dU)
def IB:FN:=("same","IdealHeap.same",gi)
def IC:FN:=("held","IdealHeap.held",gj)
def ID:FN:=("small","IdealHeap.small",fg)
def IE:FN:=("begin","IdealHeap.begin",inClass (top 64) 10)
def Cb:FN:=("end","IdealHeap.end",inClass (top 64) 11)
def Cc:FN:=("round_on","IdealHeap.round_on",inClass (top 64) 12)
def Cd:FN:=("hands","IdealHeap.hands",inClass (top 64) 13)
def Ce:FN:=("names","IdealHeap.names",inClass (top 64) 14)
def Cf:FN:=("things","IdealHeap.things",jA)
def Cg:FN:=("fields_of","IdealHeap.fields_of",inClass (top 64) 16)
def Ci:FN:=("is_old","IdealHeap.is_old",inClass (top 64) 17)
def Cj:FN:=("word_of","IdealHeap.word_of",inClass (top 64) 18)
def Ck:FN:=("doomed","IdealHeap.doomed",inClass (top 64) 19)
def Cm:FN:=("said","IdealHeap.said",lI)
def Cn:FN:=("made","IdealHeap.made",inClass (top 64) 21)
def Co:FN:=("spare","IdealHeap.spare",fi)
def Cp:FN:=("row_read","row_read",jQ)
def Cq:FN:=("is_written","is_written",gR)
def Cr:FN:=("is_count","is_count",jS)
def Cs:FN:=("is_made_of","is_made_of",gS)
def Ct:FN:=("part_read","part_read",iP)
def Cu:FN:=("read_program","read_program",d9)
def Cw:FN:=("program_row","program_row",fI)
def Cy:FN:=("marks_put","marks_put",iQ)
def Cz:FN:=("has_right_mark","has_right_mark",c7)
def CA:FN:=("_law_list_rows","_law_list_rows",ar)
def CB:FN:=("law","law",bL)
def xs0:List Nat:=[1,0,20,5,0,27,12,0,54,16,0,73,20,0,92,24,0,111,28,0,130,32,0,149,36,0,168,45,0,194,47,0,201,49,0,208,51,0,215,53,0,222,55,0,229,57,0,236,59,0,243,61,0,250,63,0,257,70,0,264,72,0,271,75,0,278,78,0,285,80,0,292,83,0,299,85,0,306,89,0,315,134,0,378,139,0,385,145,0,392,147,0,399,161,0,406,164,0,413,168,0,420,170,0,427,174,0,434,177,0,441,180,0,448,183,0,455,186,0,462,192,0,469,234,0,553,264,0,616,279,0,623,298,0,670,387,0,797,392,0,804,482,0,975,489,0,982,497,0,989,501,0,994,503,0,1001,510,0,1028,521,0,1035,524,0,1042,530,0,1049,535,0,1056,542,0,1061]
def v0:Value:=.str "stillheap.running" 400
def v1:Value:=.str "stillheap.ideal" 1220
def v2:Value:=.type "object"
def v3:Value:=.str "stillheap.heaps" 1035
def v4:Value:=.str "stillheap.errors" 194
def v5:Value:=.builtin "object.__init_subclass__"
def v6:Value:=.type "ValueError"
def v7:Value:=.type "getset_descriptor"
def v8:Value:=.str "stillheap.hands" 775
def v9:Value:=.type "Exception"
def v10:Value:=.type "BaseException"
def v11:Value:=.builtin "ValueError.__new__"
def v12:Value:=.str "stillheap.values" 696
def v13:Value:=.str "stillheap.lastwords" 881
def v14:Value:=.builtin "ExceptionGroup.__weakref__"
def v15:Value:=.builtin "object.__new__"
def v16:Value:=.str "stillheap.weaknames" 975
def v17:Value:=.builtin "function.__dict__"
def v18:Value:=.builtin "function.__dict__#set"
def v19:Value:=.str "stillheap.rows" 1422
def v20:Value:=.str "stillheap.programs" 1467
def v21:Value:=.str "__main__" 164
def v22:Value:=.str "law_stillheap_k27_whole_lists_added_up" 1580
def o3:OO:=oD [("__name__",165,.str "__main__" 164),("__doc__",166,.none),("__package__",167,.none),("__loader__",168,.builtin "__main__.__loader__#opaque"),("__spec__",169,.none),("__annotations__",170,.ref 6),("__builtins__",171,.ref 4),("__file__",173,.str "/claim/cut.py" 172),("__cached__",174,.none)] 9
def o7:OO:=λ_=>#[(.type "tuple"),none,(.seq #[] 0),#[]]
def o8:OO:=λ_=>#[.none,none,(.fields #[]),#[]]
def o13:OO:=oD [("__name__",165,.str "stillheap.errors" 194),("__doc__",166,.none),("__package__",167,.none),("__loader__",168,.builtin "__main__.__loader__#opaque"),("__spec__",169,.none),("__annotations__",170,.ref 6),("__builtins__",171,.ref 4),("__file__",173,.str "/claim/cut.py" 172),("__cached__",174,.none),("_wall",193,.ref 21),("HeapError",228,.ref 45),("BadHand",251,.ref 65),("BadName",274,.ref 84),("BadField",297,.ref 103),("BadCount",320,.ref 122),("NoRoom",343,.ref 141),("TooManyWords",366,.ref 160)] 17
def o14:OO:=oX (xs0.take 24)
def o20:OO:=oP (.builtin "type.__prepare__") (.type "type")
def o34:OO:=oY "HeapError" [v6] [(.ref 45),v6,v9,v10,v2] 44 [(.ref 65),(.ref 84),(.ref 103),(.ref 122),(.ref 141),(.ref 160)] (.some (.ref 22)) 196 204 v11
def o38:OO:=oT [(.ref 45)]
def LC:OO:=oD (ap [("__name__",165,.str "stillheap.values" 696),("__doc__",166,.none),("__package__",167,.none),("__loader__",168,.builtin "__main__.__loader__#opaque"),("__spec__",169,.none),("__annotations__",170,.ref 6),("__builtins__",171,.ref 4),("__file__",173,.str "/claim/cut.py" 172),("__cached__",174,.none),("_wall",193,.ref 21),("HeapError",228,.ref 45),("BadHand",251,.ref 65),("BadName",274,.ref 84),("BadField",297,.ref 103),("BadCount",320,.ref 122),("NoRoom",343,.ref 141),("TooManyWords",366,.ref 160),("BadText",399,.ref 186),("do_make",409,.ref 195),("do_load",417,.ref 202),("do_store",425,.ref 209),("do_copy",433,.ref 216),("do_drop",441,.ref 223),("do_number",449,.ref 230),("do_name",457,.ref 237),("do_read",465,.ref 244),("do_word",473,.ref 251),("do_take",482,.ref 258)] [("do_held",490,.ref 265),("do_add",499,.ref 272),("do_less",508,.ref 279),("is_same",516,.ref 286),("is_below",525,.ref 293),("is_thing",533,.ref 300),("always",541,.ref 307),("DEEDS",568,.ref 308),("JUMPS",577,.ref 309),("Running",658,.ref 368),("run_all",668,.ref 379),("mark_places",678,.ref 386),("place_within",686,.ref 393),("spoken",695,.ref 400),("HANDS",699,.int 8 698),("WEAK_NAMES",701,.int 8 700),("MOST_FIELDS",703,.int 6 702),("LEAST_ROOM",705,.int 7 704),("MOST_YOUNG",707,.int 64 706),("MOST_LIMIT",709,.int 400 708),("number_value",716,.ref 407),("thing_value",723,.ref 414),("kind_of",730,.ref 421)]) 51
def LD:OO:=oX (xs0.take 102)
def LG:OO:=oD (ap [("__name__",165,.str "stillheap.heaps" 1035),("__doc__",166,.none),("__package__",167,.none),("__loader__",168,.builtin "__main__.__loader__#opaque"),("__spec__",169,.none),("__annotations__",170,.ref 6),("__builtins__",171,.ref 4),("__file__",173,.str "/claim/cut.py" 172),("__cached__",174,.none),("_wall",193,.ref 21),("HeapError",228,.ref 45),("BadHand",251,.ref 65),("BadName",274,.ref 84),("BadField",297,.ref 103),("BadCount",320,.ref 122),("NoRoom",343,.ref 141),("TooManyWords",366,.ref 160),("BadText",399,.ref 186),("do_make",409,.ref 195),("do_load",417,.ref 202),("do_store",425,.ref 209),("do_copy",433,.ref 216),("do_drop",441,.ref 223),("do_number",449,.ref 230),("do_name",457,.ref 237),("do_read",465,.ref 244),("do_word",473,.ref 251),("do_take",482,.ref 258)] (ap [("do_held",490,.ref 265),("do_add",499,.ref 272),("do_less",508,.ref 279),("is_same",516,.ref 286),("is_below",525,.ref 293),("is_thing",533,.ref 300),("always",541,.ref 307),("DEEDS",568,.ref 308),("JUMPS",577,.ref 309),("Running",658,.ref 368),("run_all",668,.ref 379),("mark_places",678,.ref 386),("place_within",686,.ref 393),("spoken",695,.ref 400),("HANDS",699,.int 8 698),("WEAK_NAMES",701,.int 8 700),("MOST_FIELDS",703,.int 6 702),("LEAST_ROOM",705,.int 7 704),("MOST_YOUNG",707,.int 64 706),("MOST_LIMIT",709,.int 400 708),("number_value",716,.ref 407),("thing_value",723,.ref 414),("kind_of",730,.ref 421),("words_of",737,.ref 428),("look_at_number",744,.ref 435),("look_at_hand",751,.ref 442),("look_at_name",758,.ref 449),("look_at_field",766,.ref 456)] [("look_at_limits",774,.ref 463),("Hands",880,.ref 543),("MOST_BEARERS",884,.int 12 883),("WordTable",960,.ref 606),("last_steps",974,.ref 617),("NameTable",1034,.ref 660)])) 62
def LH:OO:=oX (xs0.take 132)
def LI:OO:=oD (ap [("__name__",165,.str "stillheap.rows" 1422),("__doc__",166,.none),("__package__",167,.none),("__loader__",168,.builtin "__main__.__loader__#opaque"),("__spec__",169,.none),("__annotations__",170,.ref 6),("__builtins__",171,.ref 4),("__file__",173,.str "/claim/cut.py" 172),("__cached__",174,.none),("_wall",193,.ref 21),("HeapError",228,.ref 45),("BadHand",251,.ref 65),("BadName",274,.ref 84),("BadField",297,.ref 103),("BadCount",320,.ref 122),("NoRoom",343,.ref 141),("TooManyWords",366,.ref 160),("BadText",399,.ref 186),("do_make",409,.ref 195),("do_load",417,.ref 202),("do_store",425,.ref 209),("do_copy",433,.ref 216),("do_drop",441,.ref 223),("do_number",449,.ref 230),("do_name",457,.ref 237),("do_read",465,.ref 244),("do_word",473,.ref 251),("do_take",482,.ref 258)] (ap [("do_held",490,.ref 265),("do_add",499,.ref 272),("do_less",508,.ref 279),("is_same",516,.ref 286),("is_below",525,.ref 293),("is_thing",533,.ref 300),("always",541,.ref 307),("DEEDS",568,.ref 308),("JUMPS",577,.ref 309),("Running",658,.ref 368),("run_all",668,.ref 379),("mark_places",678,.ref 386),("place_within",686,.ref 393),("spoken",695,.ref 400),("HANDS",699,.int 8 698),("WEAK_NAMES",701,.int 8 700),("MOST_FIELDS",703,.int 6 702),("LEAST_ROOM",705,.int 7 704),("MOST_YOUNG",707,.int 64 706),("MOST_LIMIT",709,.int 400 708),("number_value",716,.ref 407),("thing_value",723,.ref 414),("kind_of",730,.ref 421),("words_of",737,.ref 428),("look_at_number",744,.ref 435),("look_at_hand",751,.ref 442),("look_at_name",758,.ref 449),("look_at_field",766,.ref 456)] [("look_at_limits",774,.ref 463),("Hands",880,.ref 543),("MOST_BEARERS",884,.int 12 883),("WordTable",960,.ref 606),("last_steps",974,.ref 617),("NameTable",1034,.ref 660),("Heap",1211,.ref 787),("thing_among",1219,.ref 798),("IdealHeap",1421,.ref 969),("MOST_FIGURES",1425,.int 61 1424),("MOST_LETTERS",1427,.int 8 1426),("FIGURES",1429,.str "0123456789" 1428),("LETTERS",1431,.str "abcdefghijklmnopqrstuvwxyz" 1430)])) 69
def LJ:OO:=oX (xs0.take 141)
def Et:List (Str×Tok×Value):=[("make",542,.ref 195),("load",543,.ref 202),("store",544,.ref 209),("copy",545,.ref 216),("drop",546,.ref 223),("number",547,.ref 230),("name",548,.ref 237),("read",549,.ref 244),("word",550,.ref 251),("take",551,.ref 258),("held",552,.ref 265),("add",553,.ref 272),("less",554,.ref 279)]
def Eu:List (Str×Tok×Value):=[("go",569,.ref 307),("same",570,.ref 286),("below",571,.ref 293),("thing",572,.ref 300)]
def wN:List (Str×Tok×Value):=[("make",1471,.ref 1004),("load",1475,.ref 1005),("store",1480,.ref 1006),("copy",1485,.ref 1007),("drop",1489,.ref 1008),("number",1492,.ref 1009),("name",1496,.ref 1010),("read",1500,.ref 1011),("word",1504,.ref 1012),("take",1508,.ref 1013),("held",1511,.ref 1014),("add",1514,.ref 1015),("less",1518,.ref 1016),("mark",1522,.ref 1017),("go",1525,.ref 1018),("same",1528,.ref 1019),("below",1533,.ref 1020),("thing",1538,.ref 1022),("say",1541,.ref 1023),("stop",1543,.ref 1024)]
def hl0:List OO:=[oD (ap [("__name__",1,.str "builtins" 160),("__doc__",2,.builtin "builtins.__doc__:str#opaque"),("__package__",3,.builtin "builtins.__package__:str#opaque"),("__loader__",4,.builtin "builtins.__loader__:shared#opaque"),("__spec__",5,.builtin "builtins.__spec__#opaque")] (ap (zB ["__build_class__","__import__","abs","all","any","ascii","bin","breakpoint","callable","chr","compile","delattr","dir","divmod","eval","exec","format","getattr","globals","hasattr","hash","hex","id","input","isinstance","issubclass","iter","aiter","len","locals","max","min","next","anext","oct","ord","pow","print","repr","round","setattr","sorted","sum","vars"] 6) (ap [("None",50,.none),("Ellipsis",51,.ellipsis),("NotImplemented",52,.notImplemented),("False",53,.bool false),("True",54,.bool true)] (ap (zT ["bool","memoryview","bytearray","bytes","classmethod","complex","dict","enumerate","filter","float","frozenset","property","int","list","map","object","range","reversed","set","slice","staticmethod","str","super","tuple","type","zip"] 55) (ap [("__debug__",81,.bool true)] (ap (zT ["BaseException","BaseExceptionGroup","Exception","GeneratorExit","KeyboardInterrupt","SystemExit","ArithmeticError","AssertionError","AttributeError","BufferError","EOFError","ImportError","LookupError","MemoryError","NameError","OSError","ReferenceError","RuntimeError","StopAsyncIteration","StopIteration","SyntaxError","SystemError","TypeError","ValueError","Warning","FloatingPointError","OverflowError","ZeroDivisionError","BytesWarning","DeprecationWarning","EncodingWarning","FutureWarning","ImportWarning","PendingDeprecationWarning","ResourceWarning","RuntimeWarning","SyntaxWarning","UnicodeWarning","UserWarning","BlockingIOError","ChildProcessError","ConnectionError","FileExistsError","FileNotFoundError","InterruptedError","IsADirectoryError","NotADirectoryError","PermissionError","ProcessLookupError","TimeoutError","IndentationError","_IncompleteInputError","IndexError","KeyError","ModuleNotFoundError","NotImplementedError","PythonFinalizationError","RecursionError","UnboundLocalError","UnicodeError"] 82) (ap (zT ["BrokenPipeError","ConnectionAbortedError","ConnectionRefusedError","ConnectionResetError","TabError","UnicodeDecodeError","UnicodeEncodeError","UnicodeTranslateError","ExceptionGroup"] 142) [("EnvironmentError",151,.type "OSError"),("IOError",152,.type "OSError"),("open",153,.builtin "open"),("quit",154,.builtin "builtins.quit#opaque"),("exit",155,.builtin "builtins.exit#opaque"),("copyright",156,.builtin "builtins.copyright#opaque"),("credits",157,.builtin "builtins.credits#opaque"),("license",158,.builtin "builtins.license#opaque"),("help",159,.builtin "builtins.help#opaque")]))))))) 159,oD [("builtins",162,.ref 4),("__main__",163,.ref 5)] 2,λ_=>#[.none,none,(.dict #[] 0),#[]],oD (ap [("__name__",165,.str "law_stillheap_k27_whole_lists_added_up" 1580),("__doc__",166,.none),("__package__",167,.none),("__loader__",168,.builtin "__main__.__loader__#opaque"),("__spec__",169,.none),("__annotations__",170,.ref 6),("__builtins__",171,.ref 4),("__file__",173,.str "/claim/cut.py" 172),("__cached__",174,.none),("_wall",193,.ref 21),("HeapError",228,.ref 45),("BadHand",251,.ref 65),("BadName",274,.ref 84),("BadField",297,.ref 103),("BadCount",320,.ref 122),("NoRoom",343,.ref 141),("TooManyWords",366,.ref 160),("BadText",399,.ref 186),("do_make",409,.ref 195),("do_load",417,.ref 202),("do_store",425,.ref 209),("do_copy",433,.ref 216),("do_drop",441,.ref 223),("do_number",449,.ref 230),("do_name",457,.ref 237),("do_read",465,.ref 244),("do_word",473,.ref 251),("do_take",482,.ref 258)] (ap [("do_held",490,.ref 265),("do_add",499,.ref 272),("do_less",508,.ref 279),("is_same",516,.ref 286),("is_below",525,.ref 293),("is_thing",533,.ref 300),("always",541,.ref 307),("DEEDS",568,.ref 308),("JUMPS",577,.ref 309),("Running",658,.ref 368),("run_all",668,.ref 379),("mark_places",678,.ref 386),("place_within",686,.ref 393),("spoken",695,.ref 400),("HANDS",699,.int 8 698),("WEAK_NAMES",701,.int 8 700),("MOST_FIELDS",703,.int 6 702),("LEAST_ROOM",705,.int 7 704),("MOST_YOUNG",707,.int 64 706),("MOST_LIMIT",709,.int 400 708),("number_value",716,.ref 407),("thing_value",723,.ref 414),("kind_of",730,.ref 421),("words_of",737,.ref 428),("look_at_number",744,.ref 435),("look_at_hand",751,.ref 442),("look_at_name",758,.ref 449),("look_at_field",766,.ref 456)] [("look_at_limits",774,.ref 463),("Hands",880,.ref 543),("MOST_BEARERS",884,.int 12 883),("WordTable",960,.ref 606),("last_steps",974,.ref 617),("NameTable",1034,.ref 660),("Heap",1211,.ref 787),("thing_among",1219,.ref 798),("IdealHeap",1421,.ref 969),("MOST_FIGURES",1425,.int 61 1424),("MOST_LETTERS",1427,.int 8 1426),("FIGURES",1429,.str "0123456789" 1428),("LETTERS",1431,.str "abcdefghijklmnopqrstuvwxyz" 1430),("row_read",1437,.ref 976),("is_written",1445,.ref 983),("is_count",1452,.ref 990),("is_made_of",1458,.ref 995),("part_read",1466,.ref 1002),("MOST_ROWS",1470,.int 200 1469),("FORMS",1547,.ref 1003),("read_program",1553,.ref 1029),("program_row",1561,.ref 1036),("marks_put",1570,.ref 1043),("has_right_mark",1579,.ref 1050),("_law_list_rows",1590,.ref 1057),("law",1596,.ref 1062)])) 82,λ_=>#[(.type "module"),(.some 0),.plain,#[]],λ_=>#[(.type "module"),(.some 3),.plain,#[]],λ_=>#[(.type "dict"),none,(.dict #[] 0),#[]],o7,o8,oM "<module>" 176 1 7 175 8 179 180,oR 9 3 3 v21,o7,oX (xs0.take 174),oM "<module>" 182 1 11 181 12 185 186,oR 13 3 3 v21,o7,o8,oT (oS ["k"] 190),o7,oG fn0,oC fn0 187 1 1 0 0 3 15 181 16 17 18 19 191 192,oF fn0 v21 20,oT [v6],o20]
def hl1:List OO:=[oD [("__module__",203,.str "stillheap.errors" 194),("__qualname__",205,.str "HeapError" 204),("__firstlineno__",207,.int 5 206),("__init__",215,.ref 35),("called",222,.ref 42),("__static_attributes__",223,.ref 43)] 6,o7,oX [7,4,34,10,4,41],oM "HeapError" 198 5 25 181 26 201 202,oR 27 3 24 v4,o7,o8,oT (oS ["self","text"] 211),o7,oG fn1,oC fn1 208 7 2 0 0 3 29 181 30 31 32 33 213 214,oF fn1 v4 34,o7,o8,oT (oS ["self"] 219),o7,oG fn2,oC fn2 216 10 1 0 0 3 36 181 37 38 39 40 220 221,oF fn2 v4 41,o7,oD [("__module__",203,.str "stillheap.errors" 194),("__firstlineno__",207,.int 5 206),("__init__",215,.ref 35),("called",222,.ref 42),("__static_attributes__",223,.ref 43),("__weakref__",225,.ref 46),("__doc__",226,.none)] 3,oY "HeapError" [v6] [(.ref 45),v6,v9,v10,v2] 44 [(.ref 65),(.ref 84),(.ref 103),(.ref 122),(.ref 141),(.ref 160),(.ref 186)] (.some (.ref 22)) 196 204 v11,λ_=>#[v7,none,(.fields (List.toArray [(.str "__weakref__" 224),(.ref 45),v14,.none])),#[]],oU 45]
def hl2:List OO:=[oP v5 (.ref 45),o38,o20,oD [("__module__",236,.str "stillheap.errors" 194),("__qualname__",238,.str "BadHand" 237),("__firstlineno__",240,.int 12 239),("called",247,.ref 62),("__static_attributes__",248,.ref 63)] 5,o7,oX [14,4,61],oM "BadHand" 231 12 52 181 53 234 235,oR 54 3 51 v4,o7,o8,oT (oS ["self"] 244),o7,oG fn3,oC fn3 241 14 1 0 0 3 56 181 57 58 59 60 245 246,oF fn3 v4 61,o7,oD [("__module__",236,.str "stillheap.errors" 194),("__firstlineno__",240,.int 12 239),("called",247,.ref 62),("__static_attributes__",248,.ref 63),("__doc__",249,.none)] 2,oY "BadHand" [(.ref 45)] [(.ref 65),(.ref 45),v6,v9,v10,v2] 64 [] (.some (.ref 49)) 229 237 v11,oU 65,oP v5 (.ref 65),o38,o20,oD [("__module__",259,.str "stillheap.errors" 194),("__qualname__",261,.str "BadName" 260),("__firstlineno__",263,.int 16 262),("called",270,.ref 81),("__static_attributes__",271,.ref 82)] 5,o7]
def hl3:List OO:=[oX [18,4,80],oM "BadName" 254 16 71 181 72 257 258,oR 73 3 70 v4,o7,o8,oT (oS ["self"] 267),o7,oG fn4,oC fn4 264 18 1 0 0 3 75 181 76 77 78 79 268 269,oF fn4 v4 80,o7,oD [("__module__",259,.str "stillheap.errors" 194),("__firstlineno__",263,.int 16 262),("called",270,.ref 81),("__static_attributes__",271,.ref 82),("__doc__",272,.none)] 2,oY "BadName" [(.ref 45)] [(.ref 84),(.ref 45),v6,v9,v10,v2] 83 [] (.some (.ref 68)) 252 260 v11,oU 84,oP v5 (.ref 84),o38,o20,oD [("__module__",282,.str "stillheap.errors" 194),("__qualname__",284,.str "BadField" 283),("__firstlineno__",286,.int 20 285),("called",293,.ref 100),("__static_attributes__",294,.ref 101)] 5,o7,oX [22,4,99],oM "BadField" 277 20 90 181 91 280 281,oR 92 3 89 v4,o7,o8]
def hl4:List OO:=[oT (oS ["self"] 290),o7,oG fn5,oC fn5 287 22 1 0 0 3 94 181 95 96 97 98 291 292,oF fn5 v4 99,o7,oD [("__module__",282,.str "stillheap.errors" 194),("__firstlineno__",286,.int 20 285),("called",293,.ref 100),("__static_attributes__",294,.ref 101),("__doc__",295,.none)] 2,oY "BadField" [(.ref 45)] [(.ref 103),(.ref 45),v6,v9,v10,v2] 102 [] (.some (.ref 87)) 275 283 v11,oU 103,oP v5 (.ref 103),o38,o20,oD [("__module__",305,.str "stillheap.errors" 194),("__qualname__",307,.str "BadCount" 306),("__firstlineno__",309,.int 24 308),("called",316,.ref 119),("__static_attributes__",317,.ref 120)] 5,o7,oX [26,4,118],oM "BadCount" 300 24 109 181 110 303 304,oR 111 3 108 v4,o7,o8,oT (oS ["self"] 313),o7,oG fn6,oC fn6 310 26 1 0 0 3 113 181 114 115 116 117 314 315,oF fn6 v4 118]
def hl5:List OO:=[o7,oD [("__module__",305,.str "stillheap.errors" 194),("__firstlineno__",309,.int 24 308),("called",316,.ref 119),("__static_attributes__",317,.ref 120),("__doc__",318,.none)] 2,oY "BadCount" [(.ref 45)] [(.ref 122),(.ref 45),v6,v9,v10,v2] 121 [] (.some (.ref 106)) 298 306 v11,oU 122,oP v5 (.ref 122),o38,o20,oD [("__module__",328,.str "stillheap.errors" 194),("__qualname__",330,.str "NoRoom" 329),("__firstlineno__",332,.int 28 331),("called",339,.ref 138),("__static_attributes__",340,.ref 139)] 5,o7,oX [30,4,137],oM "NoRoom" 323 28 128 181 129 326 327,oR 130 3 127 v4,o7,o8,oT (oS ["self"] 336),o7,oG fn7,oC fn7 333 30 1 0 0 3 132 181 133 134 135 136 337 338,oF fn7 v4 137,o7,oD [("__module__",328,.str "stillheap.errors" 194),("__firstlineno__",332,.int 28 331),("called",339,.ref 138),("__static_attributes__",340,.ref 139),("__doc__",341,.none)] 2,oY "NoRoom" [(.ref 45)] [(.ref 141),(.ref 45),v6,v9,v10,v2] 140 [] (.some (.ref 125)) 321 329 v11,oU 141,oP v5 (.ref 141)]
def hl6:List OO:=[o38,o20,oD [("__module__",351,.str "stillheap.errors" 194),("__qualname__",353,.str "TooManyWords" 352),("__firstlineno__",355,.int 32 354),("called",362,.ref 157),("__static_attributes__",363,.ref 158)] 5,o7,oX [34,4,156],oM "TooManyWords" 346 32 147 181 148 349 350,oR 149 3 146 v4,o7,o8,oT (oS ["self"] 359),o7,oG fn8,oC fn8 356 34 1 0 0 3 151 181 152 153 154 155 360 361,oF fn8 v4 156,o7,oD [("__module__",351,.str "stillheap.errors" 194),("__firstlineno__",355,.int 32 354),("called",362,.ref 157),("__static_attributes__",363,.ref 158),("__doc__",364,.none)] 2,oY "TooManyWords" [(.ref 45)] [(.ref 160),(.ref 45),v6,v9,v10,v2] 159 [] (.some (.ref 144)) 344 352 v11,oU 160,oP v5 (.ref 160),o38,o20,oD [("__module__",374,.str "stillheap.errors" 194),("__qualname__",376,.str "BadText" 375),("__firstlineno__",378,.int 36 377),("__init__",387,.ref 176),("called",394,.ref 183),("__static_attributes__",396,.ref 184)] 6,o7,oX [38,4,175,42,4,182]]
def hl7:List OO:=[oM "BadText" 369 36 166 181 167 372 373,oR 168 3 165 v4,o7,o8,oT (oS ["self","text","row"] 382),o7,oG fn9,oC fn9 379 38 3 0 0 3 170 181 171 172 173 174 385 386,oF fn9 v4 175,o7,o8,oT (oS ["self"] 391),o7,oG GD,oC GD 388 42 1 0 0 3 177 181 178 179 180 181 392 393,oF GD v4 182,oT (oS ["row"] 395),oD [("__module__",374,.str "stillheap.errors" 194),("__firstlineno__",378,.int 36 377),("__init__",387,.ref 176),("called",394,.ref 183),("__static_attributes__",396,.ref 184),("__doc__",397,.none)] 2,oY "BadText" [(.ref 45)] [(.ref 186),(.ref 45),v6,v9,v10,v2] 185 [] (.some (.ref 163)) 367 375 v11,oU 186,oP v5 (.ref 186),o7,o8,oT (oS ["hall","row"] 405)]
def hl8:List OO:=[o7,oG GF,oC GF 402 45 2 0 0 3 189 181 190 191 192 193 407 408,oF GF v0 194,o7,o8,oT (oS ["hall","row"] 413),o7,oG GG,oC GG 410 47 2 0 0 3 196 181 197 198 199 200 415 416,oF GG v0 201,o7,o8,oT (oS ["hall","row"] 421),o7,oG GI,oC GI 418 49 2 0 0 3 203 181 204 205 206 207 423 424,oF GI v0 208,o7,o8,oT (oS ["hall","row"] 429),o7,oG GJ,oC GJ 426 51 2 0 0 3 210 181 211 212 213 214 431 432]
def hl9:List OO:=[oF GJ v0 215,o7,o8,oT (oS ["hall","row"] 437),o7,oG GK,oC GK 434 53 2 0 0 3 217 181 218 219 220 221 439 440,oF GK v0 222,o7,o8,oT (oS ["hall","row"] 445),o7,oG GL,oC GL 442 55 2 0 0 3 224 181 225 226 227 228 447 448,oF GL v0 229,o7,o8,oT (oS ["hall","row"] 453),o7,oG GN,oC GN 450 57 2 0 0 3 231 181 232 233 234 235 455 456,oF GN v0 236,o7,o8]
def LK:List OO:=[oT (oS ["hall","row"] 461),o7,oG GO,oC GO 458 59 2 0 0 3 238 181 239 240 241 242 463 464,oF GO v0 243,o7,o8,oT (oS ["hall","row"] 469),o7,oG GP,oC GP 466 61 2 0 0 3 245 181 246 247 248 249 471 472,oF GP v0 250,o7,o8,oT (oS ["hall","row","word"] 477),o7,oG GQ,oC GQ 474 63 2 0 0 3 252 181 253 254 255 256 480 481,oF GQ v0 257,o7,o8,oT (oS ["hall","row"] 486),o7,oG GS]
def LL:List OO:=[oC GS 483 70 2 0 0 3 259 181 260 261 262 263 488 489,oF GS v0 264,o7,o8,oT (oS ["hall","row","first"] 494),o7,oG GU,oC GU 491 72 2 0 0 3 266 181 267 268 269 270 497 498,oF GU v0 271,o7,o8,oT (oS ["hall","row","first"] 503),o7,oG GV,oC GV 500 75 2 0 0 3 273 181 274 275 276 277 506 507,oF GV v0 278,o7,o8,oT (oS ["hall","row"] 512),o7,oG GX,oC GX 509 78 2 0 0 3 280 181 281 282 283 284 514 515,oF GX v0 285,o7]
def LM:List OO:=[o8,oT (oS ["hall","row","first"] 520),o7,oG GY,oC GY 517 80 2 0 0 3 287 181 288 289 290 291 523 524,oF GY v0 292,o7,o8,oT (oS ["hall","row"] 529),o7,oG GZ,oC GZ 526 83 2 0 0 3 294 181 295 296 297 298 531 532,oF GZ v0 299,o7,o8,oT (oS ["hall","row"] 537),o7,oG G0,oC G0 534 85 2 0 0 3 301 181 302 303 304 305 539 540,oF G0 v0 306,oD Et 13,oD Eu 4,o7,o20]
def LN:List OO:=[oD [("__module__",585,.str "stillheap.running" 400),("__qualname__",587,.str "Running" 586),("__firstlineno__",589,.int 89 588),("__init__",598,.ref 323),("step",606,.ref 330),("at",613,.ref 337),("told",620,.ref 344),("fault",627,.ref 351),("steps",634,.ref 358),("place_behind",643,.ref 365),("__static_attributes__",651,.ref 366)] 11,o7,oX [91,4,322,100,4,329,111,4,336,114,4,343,117,4,350,120,4,357,123,4,364],oM "Running" 580 89 313 181 314 583 584,oR 315 3 312 v0,o7,o8,oT (oS ["self","program","hall"] 593),o7,oG G4,oC G4 590 91 3 0 0 3 317 181 318 319 320 321 596 597,oF G4 v0 322,o7,o8,oT (oS ["self","e"] 602),o7,oG G5,oC G5 599 100 1 0 0 3 324 181 325 326 327 328 604 605,oF G5 v0 329,o7,o8,oT (oS ["self"] 610),o7,oG G6]
def LO:List OO:=[oC G6 607 111 1 0 0 3 331 181 332 333 334 335 611 612,oF G6 v0 336,o7,o8,oT (oS ["self"] 617),o7,oG G8,oC G8 614 114 1 0 0 3 338 181 339 340 341 342 618 619,oF G8 v0 343,o7,o8,oT (oS ["self"] 624),o7,oG Ha,oC Ha 621 117 1 0 0 3 345 181 346 347 348 349 625 626,oF Ha v0 350,o7,o8,oT (oS ["self"] 631),o7,oG Hb,oC Hb 628 120 1 0 0 3 352 181 353 354 355 356 632 633,oF Hb v0 357,o7]
def LP:List OO:=[o8,oT (oS ["self","row","word"] 638),o7,oG Hd,oC Hd 635 123 2 0 0 3 359 181 360 361 362 363 641 642,oF Hd v0 364,oT (oS ["fault_name","hall","marks","place","rows","rows_done","said_rows"] 644),oD [("__module__",585,.str "stillheap.running" 400),("__firstlineno__",589,.int 89 588),("__init__",598,.ref 323),("step",606,.ref 330),("at",613,.ref 337),("told",620,.ref 344),("fault",627,.ref 351),("steps",634,.ref 358),("place_behind",643,.ref 365),("__static_attributes__",651,.ref 366),("__dict__",653,.ref 369),("__weakref__",655,.ref 370),("__doc__",656,.none)] 4,oY "Running" [v2] [(.ref 368),v2] 367 [] none 578 586 v15,λ_=>#[v7,none,(.fields (List.toArray [(.str "__dict__" 652),(.ref 368),v17,v18])),#[]],λ_=>#[v7,none,(.fields (List.toArray [(.str "__weakref__" 654),(.ref 368),v14,.none])),#[]],oU 368,oP v5 (.ref 368),o7,o8,oT (oS ["program","hall","most","running"] 662),o7,oG He,oC He 659 134 3 0 0 3 373 181 374 375 376 377 666 667,oF He v0 378,o7,o8,oT (oS ["program","places","at","row"] 672),o7]
def LQ:List OO:=[oG Hg,oC Hg 669 139 1 0 0 3 380 181 381 382 383 384 676 677,oF Hg v0 385,o7,o8,oT (oS ["rows","place"] 682),o7,oG Hh,oC Hh 679 145 2 0 0 3 387 181 388 389 390 391 684 685,oF Hh v0 392,o7,o8,oT (oS ["hall","h","kind"] 690),o7,oG Hi,oC Hi 687 147 2 0 0 3 394 181 395 396 397 398 693 694,oF Hi v0 399,o7,o8,oT (oS ["x"] 713),o7,oG Hj,oC Hj 710 161 1 0 0 3 401 181 402 403 404 405 714 715,oF Hj v12 406]
def LR:List OO:=[o7,o8,oT (oS ["t"] 720),o7,oG Hk,oC Hk 717 164 1 0 0 3 408 181 409 410 411 412 721 722,oF Hk v12 413,o7,o8,oT (oS ["value"] 727),o7,oG Hl,oC Hl 724 168 1 0 0 3 415 181 416 417 418 419 728 729,oF Hl v12 420,o7,o8,oT (oS ["fields"] 734),o7,oG Hm,oC Hm 731 170 1 0 0 3 422 181 423 424 425 426 735 736,oF Hm v12 427,o7,o8,oT (oS ["x"] 741)]
def LS:List OO:=[o7,oG Ho,oC Ho 738 174 1 0 0 3 429 181 430 431 432 433 742 743,oF Ho v12 434,o7,o8,oT (oS ["h"] 748),o7,oG Hq,oC Hq 745 177 1 0 0 3 436 181 437 438 439 440 749 750,oF Hq v12 441,o7,o8,oT (oS ["w"] 755),o7,oG Hr,oC Hr 752 180 1 0 0 3 443 181 444 445 446 447 756 757,oF Hr v12 448,o7,o8,oT (oS ["k","fields"] 762),o7,oG Hs,oC Hs 759 183 2 0 0 3 450 181 451 452 453 454 764 765]
def LU:List OO:=[oF Hs v12 455,o7,o8,oT (oS ["young","limit"] 770),o7,oG Ht,oC Ht 767 186 2 0 0 3 457 181 458 459 460 461 772 773,oF Ht v12 462,o7,o20,oD [("__module__",784,.str "stillheap.hands" 775),("__qualname__",786,.str "Hands" 785),("__firstlineno__",788,.int 192 787),("__init__",795,.ref 477),("word_in",803,.ref 484),("all_words",810,.ref 491),("put",819,.ref 498),("copy",828,.ref 505),("number",837,.ref 512),("kind",846,.ref 519),("value",854,.ref 526),("same",863,.ref 533),("thing_due",871,.ref 540),("__static_attributes__",873,.ref 541)] 14,o7,oX [194,4,476,197,4,483,201,4,490,204,4,497,208,4,504,212,4,511,216,4,518,220,4,525,225,4,532,228,4,539],oM "Hands" 779 192 467 181 468 782 783,oR 469 3 466 v8,o7,o8,oT (oS ["self"] 792),o7,oG Hu,oC Hu 789 194 1 0 0 3 471 181 472 473 474 475 793 794,oF Hu v8 476,o7,o8]
def LV:List OO:=[oT (oS ["self","h"] 799),o7,oG Hv,oC Hv 796 197 2 0 0 3 478 181 479 480 481 482 801 802,oF Hv v8 483,o7,o8,oT (oS ["self"] 807),o7,oG Hw,oC Hw 804 201 1 0 0 3 485 181 486 487 488 489 808 809,oF Hw v8 490,o7,o8,oT (oS ["self","h","word"] 814),o7,oG Hy,oC Hy 811 204 3 0 0 3 492 181 493 494 495 496 817 818,oF Hy v8 497,o7,o8,oT (oS ["self","h","g"] 823),o7,oG Hz]
def LW:List OO:=[oC Hz 820 208 3 0 0 3 499 181 500 501 502 503 826 827,oF Hz v8 504,o7,o8,oT (oS ["self","h","x"] 832),o7,oG HB,oC HB 829 212 3 0 0 3 506 181 507 508 509 510 835 836,oF HB v8 511,o7,o8,oT (oS ["self","h","kind"] 841),o7,oG HC,oC HC 838 216 2 0 0 3 513 181 514 515 516 517 844 845,oF HC v8 518,o7,o8,oT (oS ["self","h"] 850),o7,oG HD,oC HD 847 220 2 0 0 3 520 181 521 522 523 524 852 853,oF HD v8 525,o7]
def LY:List OO:=[o8,oT (oS ["self","h","g"] 858),o7,oG HE,oC HE 855 225 3 0 0 3 527 181 528 529 530 531 861 862,oF HE v8 532,o7,o8,oT (oS ["self","h"] 867),o7,oG HF,oC HF 864 228 2 0 0 3 534 181 535 536 537 538 869 870,oF HF v8 539,oT (oS ["words_held"] 872),oD [("__module__",784,.str "stillheap.hands" 775),("__firstlineno__",788,.int 192 787),("__init__",795,.ref 477),("word_in",803,.ref 484),("all_words",810,.ref 491),("put",819,.ref 498),("copy",828,.ref 505),("number",837,.ref 512),("kind",846,.ref 519),("value",854,.ref 526),("same",863,.ref 533),("thing_due",871,.ref 540),("__static_attributes__",873,.ref 541),("__dict__",875,.ref 544),("__weakref__",877,.ref 545),("__doc__",878,.none)] 4,oY "Hands" [v2] [(.ref 543),v2] 542 [] none 777 785 v15,λ_=>#[v7,none,(.fields (List.toArray [(.str "__dict__" 874),(.ref 543),v17,v18])),#[]],λ_=>#[v7,none,(.fields (List.toArray [(.str "__weakref__" 876),(.ref 543),v14,.none])),#[]],oU 543,oP v5 (.ref 543),o7,o20,oD [("__module__",892,.str "stillheap.lastwords" 881),("__qualname__",894,.str "WordTable" 893),("__firstlineno__",896,.int 234 895),("__init__",903,.ref 561),("bear",912,.ref 568),("word_of",920,.ref 575),("bearers",927,.ref 582),("settle",936,.ref 589),("take",943,.ref 596),("said",950,.ref 603),("__static_attributes__",953,.ref 604)] 11,o7]
def LZ:List OO:=[oX [236,4,560,240,4,567,245,4,574,248,4,581,251,4,588,256,4,595,261,4,602],oM "WordTable" 887 234 551 181 552 890 891,oR 553 3 550 v13,o7,o8,oT (oS ["self"] 900),o7,oG HG,oC HG 897 236 1 0 0 3 555 181 556 557 558 559 901 902,oF HG v13 560,o7,o8,oT (oS ["self","t","x"] 907),o7,oG HH,oC HH 904 240 3 0 0 3 562 181 563 564 565 566 910 911,oF HH v13 567,o7,o8,oT (oS ["self","t"] 916),o7,oG HI,oC HI 913 245 2 0 0 3 569 181 570 571 572 573 918 919,oF HI v13 574]
def L0:List OO:=[o7,o8,oT (oS ["self"] 924),o7,oG HJ,oC HJ 921 248 1 0 0 3 576 181 577 578 579 580 925 926,oF HJ v13 581,o7,o8,oT (oS ["self","things","t"] 931),o7,oG HK,oC HK 928 251 2 0 0 3 583 181 584 585 586 587 934 935,oF HK v13 588,o7,o8,oT (oS ["self"] 940),o7,oG HL,oC HL 937 256 1 0 0 3 590 181 591 592 593 594 941 942,oF HL v13 595,o7,o8,oT (oS ["self"] 947)]
def L3:List OO:=[o7,oG HM,oC HM 944 261 1 0 0 3 597 181 598 599 600 601 948 949,oF HM v13 602,oT (oS ["words_borne","words_said"] 951),oD [("__module__",892,.str "stillheap.lastwords" 881),("__firstlineno__",896,.int 234 895),("__init__",903,.ref 561),("bear",912,.ref 568),("word_of",920,.ref 575),("bearers",927,.ref 582),("settle",936,.ref 589),("take",943,.ref 596),("said",950,.ref 603),("__static_attributes__",953,.ref 604),("__dict__",955,.ref 607),("__weakref__",957,.ref 608),("__doc__",958,.none)] 4,oY "WordTable" [v2] [(.ref 606),v2] 605 [] none 885 893 v15,λ_=>#[v7,none,(.fields (List.toArray [(.str "__dict__" 954),(.ref 606),v17,v18])),#[]],λ_=>#[v7,none,(.fields (List.toArray [(.str "__weakref__" 956),(.ref 606),v14,.none])),#[]],oU 606,oP v5 (.ref 606),o7,o8,oT (oS ["view","steps","place","thing","met","done"] 966),o7,oG HN,oC HN 963 264 1 0 0 3 611 181 612 613 614 615 972 973,oF HN (.str "stillheap.reach" 961) 616,o7,o20,oD [("__module__",984,.str "stillheap.weaknames" 975),("__qualname__",986,.str "NameTable" 985),("__firstlineno__",988,.int 279 987),("__init__",995,.ref 631),("name",1004,.ref 638),("named",1012,.ref 645),("all_named",1019,.ref 652),("settle",1025,.ref 657),("__static_attributes__",1027,.ref 658)] 9,o7,oX [281,4,630,284,4,637,288,4,644,292,4,651,295,4,656],oM "NameTable" 979 279 621 181 622 982 983]
def L4:List OO:=[oR 623 3 620 v16,o7,o8,oT (oS ["self"] 992),o7,oG HP,oC HP 989 281 1 0 0 3 625 181 626 627 628 629 993 994,oF HP v16 630,o7,o8,oT (oS ["self","w","t"] 999),o7,oG HQ,oC HQ 996 284 3 0 0 3 632 181 633 634 635 636 1002 1003,oF HQ v16 637,o7,o8,oT (oS ["self","w"] 1008),o7,oG HR,oC HR 1005 288 2 0 0 3 639 181 640 641 642 643 1010 1011,oF HR v16 644,o7,o8]
def L5:List OO:=[oT (oS ["self"] 1016),o7,oG HU,oC HU 1013 292 1 0 0 3 646 181 647 648 649 650 1017 1018,oF HU v16 651,o7,o8,oG HV,oN HV 1020 295 2 0 0 3 653 181 654 655 1023 1024,oF HV v16 656,oT (oS ["things_named"] 1026),oD [("__module__",984,.str "stillheap.weaknames" 975),("__firstlineno__",988,.int 279 987),("__init__",995,.ref 631),("name",1004,.ref 638),("named",1012,.ref 645),("all_named",1019,.ref 652),("settle",1025,.ref 657),("__static_attributes__",1027,.ref 658),("__dict__",1029,.ref 661),("__weakref__",1031,.ref 662),("__doc__",1032,.none)] 4,oY "NameTable" [v2] [(.ref 660),v2] 659 [] none 977 985 v15,λ_=>#[v7,none,(.fields (List.toArray [(.str "__dict__" 1028),(.ref 660),v17,v18])),#[]],λ_=>#[v7,none,(.fields (List.toArray [(.str "__weakref__" 1030),(.ref 660),v14,.none])),#[]],oU 660,oP v5 (.ref 660),o7,o20,oD [("__module__",1044,.str "stillheap.heaps" 1035),("__qualname__",1046,.str "Heap" 1045),("__firstlineno__",1048,.int 298 1047),("__init__",1056,.ref 678),("add_thing",1066,.ref 685),("load",1077,.ref 692),("store",1089,.ref 699),("copy",1098,.ref 706),("drop",1106,.ref 713),("number",1115,.ref 720),("name",1125,.ref 727),("read_thing",1135,.ref 734),("word",1145,.ref 741),("small_round",1151,.ref 746),("let_go",1160,.ref 753),("look_at_held",1168,.ref 760),("field_value",1177,.ref 767),("counts_held",1184,.ref 774),("words_among",1190,.ref 779),("led_among",1196,.ref 784),("__static_attributes__",1204,.ref 785)] 21,o7,oX [300,4,677,309,4,684,317,4,691,323,4,698,329,4,705,332,4,712,335,4,719,338,4,726,342,4,733,348,4,740,353,4,745,364,4,752,370,4,759,373,4,766,376,4,773,379,4,778,382,4,783],oM "Heap" 1039 298 668 181 669 1042 1043,oR 670 3 667 v3]
def L6:List OO:=[o7,o8,oT (oS ["self","makes_young"] 1052),o7,oG HW,oC HW 1049 300 2 0 0 3 672 181 673 674 675 676 1054 1055,oF HW v3 677,o7,o8,oT (oS ["self","h","n","t"] 1060),o7,oG HX,oC HX 1057 309 3 0 0 3 679 181 680 681 682 683 1064 1065,oF HX v3 684,o7,o8,oT (oS ["self","h","g","k","fields"] 1070),o7,oG HY,oC HY 1067 317 4 0 0 3 686 181 687 688 689 690 1075 1076,oF HY v3 691,o7,o8,oT (oS ["self","g","k","h","fields","value"] 1081)]
def L7:List OO:=[o7,oG HZ,oC HZ 1078 323 4 0 0 3 693 181 694 695 696 697 1087 1088,oF HZ v3 698,o7,o8,oT (oS ["self","h","g"] 1093),o7,oG Ia,oC Ia 1090 329 3 0 0 3 700 181 701 702 703 704 1096 1097,oF Ia v3 705,o7,o8,oT (oS ["self","h"] 1102),o7,oG Ib,oC Ib 1099 332 2 0 0 3 707 181 708 709 710 711 1104 1105,oF Ib v3 712,o7,o8,oT (oS ["self","h","x"] 1110),o7,oG Ic,oC Ic 1107 335 3 0 0 3 714 181 715 716 717 718 1113 1114]
def L8:List OO:=[oF Ic v3 719,o7,o8,oT (oS ["self","w","h","t"] 1119),o7,oG Ie,oC Ie 1116 338 3 0 0 3 721 181 722 723 724 725 1123 1124,oF Ie v3 726,o7,o8,oT (oS ["self","h","w","t"] 1129),o7,oG Ig,oC Ig 1126 342 3 0 0 3 728 181 729 730 731 732 1133 1134,oF Ig v3 733,o7,o8,oT (oS ["self","h","x","t"] 1139),o7,oG Ih,oC Ih 1136 348 3 0 0 3 735 181 736 737 738 739 1143 1144,oF Ih v3 740,o7,o8]
def L9:List OO:=[oG Ii,oN Ii 1146 353 1 0 0 3 742 181 743 744 1149 1150,oF Ii v3 745,o7,o8,oT (oS ["self","gone","t"] 1155),o7,oG Ij,oC Ij 1152 364 2 0 0 3 747 181 748 749 750 751 1158 1159,oF Ij v3 752,o7,o8,oT (oS ["self","t"] 1164),o7,oG Ik,oC Ik 1161 370 2 0 0 3 754 181 755 756 757 758 1166 1167,oF Ik v3 759,o7,o8,oT (oS ["self","t","k"] 1172),o7,oG Il,oC Il 1169 373 3 0 0 3 761 181 762 763 764 765 1175 1176,oF Il v3 766]
def Ma:List OO:=[o7,o8,oT (oS ["self"] 1181),o7,oG Im,oC Im 1178 376 1 0 0 3 768 181 769 770 771 772 1182 1183,oF Im v3 773,o7,o8,oG Io,oN Io 1185 379 2 0 0 3 775 181 776 777 1188 1189,oF Io v3 778,o7,o8,oG Ip,oN Ip 1191 382 3 0 0 3 780 181 781 782 1194 1195,oF Ip v3 783,oT (oS ["fields_held","in_hands","last_words","makes_young","next_thing","weak_names","young_things"] 1197),oD [("__module__",1044,.str "stillheap.heaps" 1035),("__firstlineno__",1048,.int 298 1047),("__init__",1056,.ref 678),("add_thing",1066,.ref 685),("load",1077,.ref 692),("store",1089,.ref 699),("copy",1098,.ref 706),("drop",1106,.ref 713),("number",1115,.ref 720),("name",1125,.ref 727),("read_thing",1135,.ref 734),("word",1145,.ref 741),("small_round",1151,.ref 746),("let_go",1160,.ref 753),("look_at_held",1168,.ref 760),("field_value",1177,.ref 767),("counts_held",1184,.ref 774),("words_among",1190,.ref 779),("led_among",1196,.ref 784),("__static_attributes__",1204,.ref 785),("__dict__",1206,.ref 788),("__weakref__",1208,.ref 789),("__doc__",1209,.none)] 4,oY "Heap" [v2] [(.ref 787),v2] 786 [(.ref 969)] none 1037 1045 v15,λ_=>#[v7,none,(.fields (List.toArray [(.str "__dict__" 1205),(.ref 787),v17,v18])),#[]],λ_=>#[v7,none,(.fields (List.toArray [(.str "__weakref__" 1207),(.ref 787),v14,.none])),#[]],oU 787,oP v5 (.ref 787)]
def Mb:List OO:=[o7,o8,oT (oS ["value","things"] 1215),o7,oG Iq,oC Iq 1212 387 2 0 0 3 792 181 793 794 795 796 1217 1218,oF Iq v3 797,oT [(.ref 787)],o20,oD [("__module__",1229,.str "stillheap.ideal" 1220),("__qualname__",1231,.str "IdealHeap" 1230),("__firstlineno__",1233,.int 392 1232),("__init__",1242,.ref 812),("make",1252,.ref 819),("read",1262,.ref 826),("take",1269,.ref 833),("kind",1277,.ref 840),("value",1285,.ref 847),("fields",1293,.ref 854),("same",1302,.ref 861),("held",1309,.ref 868),("small",1316,.ref 875),("begin",1323,.ref 882),("end",1330,.ref 889),("round_on",1337,.ref 896),("hands",1344,.ref 903),("names",1351,.ref 910),("things",1358,.ref 917),("fields_of",1366,.ref 924),("is_old",1374,.ref 931),("word_of",1382,.ref 938),("doomed",1389,.ref 945),("said",1396,.ref 952),("made",1403,.ref 959),("spare",1413,.ref 966),("__static_attributes__",1418,.ref 967)] 27,o7,oX [394,4,811,402,4,818,411,4,825,416,4,832,419,4,839,422,4,846,425,4,853,428,4,860,431,4,867,434,4,874,437,4,881,440,4,888,443,4,895,446,4,902,449,4,909,452,4,916,455,4,923,458,4,930,461,4,937,464,4,944,467,4,951,470,4,958,473,4,965],oM "IdealHeap" 1224 392 802 181 803 1227 1228,oR 804 3 801 v1,o7,o8,oT (oS ["self","young","limit"] 1237),o7,oG Ir,oC Ir 1234 394 3 0 0 3 806 181 807 808 809 810 1240 1241,oF Ir v1 811,o7,o8,oT (oS ["self","h","n","size"] 1246)]
def Mc:List OO:=[o7,oG Iu,oC Iu 1243 402 3 0 0 3 813 181 814 815 816 817 1250 1251,oF Iu v1 818,o7,o8,oT (oS ["self","h","w","t"] 1256),o7,oG Iv,oC Iv 1253 411 3 0 0 3 820 181 821 822 823 824 1260 1261,oF Iv v1 825,o7,o8,oT (oS ["self"] 1266),o7,oG Iw,oC Iw 1263 416 1 0 0 3 827 181 828 829 830 831 1267 1268,oF Iw v1 832,o7,o8,oT (oS ["self","h"] 1273),o7,oG Iy,oC Iy 1270 419 2 0 0 3 834 181 835 836 837 838 1275 1276]
def Md:List OO:=[oF Iy v1 839,o7,o8,oT (oS ["self","h"] 1281),o7,oG Iz,oC Iz 1278 422 2 0 0 3 841 181 842 843 844 845 1283 1284,oF Iz v1 846,o7,o8,oT (oS ["self","h"] 1289),o7,oG IA,oC IA 1286 425 2 0 0 3 848 181 849 850 851 852 1291 1292,oF IA v1 853,o7,o8,oT (oS ["self","h","g"] 1297),o7,oG IB,oC IB 1294 428 3 0 0 3 855 181 856 857 858 859 1300 1301,oF IB v1 860,o7,o8]
def Me:List OO:=[oT (oS ["self"] 1306),o7,oG IC,oC IC 1303 431 1 0 0 3 862 181 863 864 865 866 1307 1308,oF IC v1 867,o7,o8,oT (oS ["self"] 1313),o7,oG ID,oC ID 1310 434 1 0 0 3 869 181 870 871 872 873 1314 1315,oF ID v1 874,o7,o8,oT (oS ["self"] 1320),o7,oG IE,oC IE 1317 437 1 0 0 3 876 181 877 878 879 880 1321 1322,oF IE v1 881,o7,o8,oT (oS ["self"] 1327),o7,oG Cb]
def Mf:List OO:=[oC Cb 1324 440 1 0 0 3 883 181 884 885 886 887 1328 1329,oF Cb v1 888,o7,o8,oT (oS ["self"] 1334),o7,oG Cc,oC Cc 1331 443 1 0 0 3 890 181 891 892 893 894 1335 1336,oF Cc v1 895,o7,o8,oT (oS ["self"] 1341),o7,oG Cd,oC Cd 1338 446 1 0 0 3 897 181 898 899 900 901 1342 1343,oF Cd v1 902,o7,o8,oT (oS ["self"] 1348),o7,oG Ce,oC Ce 1345 449 1 0 0 3 904 181 905 906 907 908 1349 1350,oF Ce v1 909,o7]
def Mg:List OO:=[o8,oT (oS ["self"] 1355),o7,oG Cf,oC Cf 1352 452 1 0 0 3 911 181 912 913 914 915 1356 1357,oF Cf v1 916,o7,o8,oT (oS ["self","t"] 1362),o7,oG Cg,oC Cg 1359 455 2 0 0 3 918 181 919 920 921 922 1364 1365,oF Cg v1 923,o7,o8,oT (oS ["self","t"] 1370),o7,oG Ci,oC Ci 1367 458 2 0 0 3 925 181 926 927 928 929 1372 1373,oF Ci v1 930,o7,o8,oT (oS ["self","t"] 1378),o7]
def Mh:List OO:=[oG Cj,oC Cj 1375 461 2 0 0 3 932 181 933 934 935 936 1380 1381,oF Cj v1 937,o7,o8,oT (oS ["self"] 1386),o7,oG Ck,oC Ck 1383 464 1 0 0 3 939 181 940 941 942 943 1387 1388,oF Ck v1 944,o7,o8,oT (oS ["self"] 1393),o7,oG Cm,oC Cm 1390 467 1 0 0 3 946 181 947 948 949 950 1394 1395,oF Cm v1 951,o7,o8,oT (oS ["self"] 1400),o7,oG Cn,oC Cn 1397 470 1 0 0 3 953 181 954 955 956 957 1401 1402,oF Cn v1 958]
def Mi:List OO:=[o7,o8,oT (oS ["self","t","spared","other"] 1407),o7,oG Co,oC Co 1404 473 2 0 0 3 960 181 961 962 963 964 1411 1412,oF Co v1 965,oT (oS ["doomed_things","in_round","limit","young_room"] 1414),oD [("__module__",1229,.str "stillheap.ideal" 1220),("__firstlineno__",1233,.int 392 1232),("__init__",1242,.ref 812),("make",1252,.ref 819),("read",1262,.ref 826),("take",1269,.ref 833),("kind",1277,.ref 840),("value",1285,.ref 847),("fields",1293,.ref 854),("same",1302,.ref 861),("held",1309,.ref 868),("small",1316,.ref 875),("begin",1323,.ref 882),("end",1330,.ref 889),("round_on",1337,.ref 896),("hands",1344,.ref 903),("names",1351,.ref 910),("things",1358,.ref 917),("fields_of",1366,.ref 924),("is_old",1374,.ref 931),("word_of",1382,.ref 938),("doomed",1389,.ref 945),("said",1396,.ref 952),("made",1403,.ref 959),("spare",1413,.ref 966),("__static_attributes__",1418,.ref 967),("__doc__",1419,.none)] 2,oY "IdealHeap" [(.ref 787)] [(.ref 969),(.ref 787),v2] 968 [] (.some (.ref 799)) 1222 1230 v15,oU 969,oP v5 (.ref 969),o7,o8,oG Cp,oN Cp 1432 482 2 0 0 3 972 181 973 974 1435 1436,oF Cp v19 975,o7,o8,oT (oS ["part","kind"] 1441),o7,oG Cq,oC Cq 1438 489 2 0 0 3 977 181 978 979 980 981 1443 1444,oF Cq v19 982]
def Mj:List OO:=[o7,o8,oT (oS ["part"] 1449),o7,oG Cr,oC Cr 1446 497 1 0 0 3 984 181 985 986 987 988 1450 1451,oF Cr v19 989,o7,o8,oG Cs,oN Cs 1453 501 2 0 0 3 991 181 992 993 1456 1457,oF Cs v19 994,o7,o8,oT (oS ["part","kind"] 1462),o7,oG Ct,oC Ct 1459 503 2 0 0 3 996 181 997 998 999 1000 1464 1465,oF Ct v19 1001,oD wN 20,oT (oS ["count","count"] 1472),oT (oS ["count","count","count"] 1476),oT (oS ["count","count","count"] 1481),oT (oS ["count","count"] 1486)]
def Ml:List OO:=[oT (oS ["count"] 1490),oT (oS ["count","number"] 1493),oT (oS ["count","count"] 1497),oT (oS ["count","count"] 1501),oT (oS ["count","count"] 1505),oT (oS ["count"] 1509),oT (oS ["count"] 1512),oT (oS ["count","count"] 1515),oT (oS ["count","count"] 1519),oT (oS ["mark"] 1523),oT (oS ["mark"] 1526),oT (oS ["count","count","mark"] 1529),oT (oS ["count","count","mark"] 1534),oD [("thing",1538,.ref 1022),("say",1541,.ref 1023),("stop",1543,.ref 1024)] 3,oT (oS ["count","mark"] 1539),oT (oS ["count"] 1542),o7,o7,o8,oG Cu,oN Cu 1548 510 1 0 0 3 1025 181 1026 1027 1551 1552,oF Cu v20 1028,o7,o8]
def Mm:List OO:=[oT (oS ["line","words"] 1557),o7,oG Cw,oC Cw 1554 521 1 0 0 3 1030 181 1031 1032 1033 1034 1559 1560,oF Cw v20 1035,o7,o8,oT (oS ["rows","marks","row"] 1565),o7,oG Cy,oC Cy 1562 524 1 0 0 3 1037 181 1038 1039 1040 1041 1568 1569,oF Cy v20 1042,o7,o8,oT (oS ["row","marks","ahead"] 1574),o7,oG Cz,oC Cz 1571 530 3 0 0 3 1044 181 1045 1046 1047 1048 1577 1578,oF Cz v20 1049,o7,o8,oT (oS ["numbers","rows","number"] 1585),o7,oG CA]
def Mn:List OO:=[oC CA 1582 535 1 0 0 3 1051 181 1052 1053 1054 1055 1588 1589,oF CA v22 1056,o7,o8,oG CB,oN CB 1591 542 1 0 0 3 1058 181 1059 1060 1594 1595,oF CB v22 1061]
def hL:List OO:=hl0++(hl1++(hl2++(hl3++(hl4++(hl5++(hl6++(hl7++(hl8++(hl9++(LK++(LL++(LM++(LN++(LO++(LP++(LQ++(LR++(LS++(LU++(LV++(LW++(LY++(LZ++(L0++(L3++(L4++(L5++(L6++(L7++(L8++(L9++(Ma++(Mb++(Mc++(Md++(Me++(Mf++(Mg++(Mh++(Mi++(Mj++(Ml++(Mm++(Mn++([])))))))))))))))))))))))))))))))))))))))))))))
def hAs:List Addr:=[2,3,15,17,18,20,21,22,29,31,32,34,35,36,38,39,41,42,43,44,45,46,49,56,58,59,61,62,63,64,65,68,75,77,78,80,81,82,83,84,87,94,96,97,99,100,101,102,103,106,113,115,116,118,119,120,121,122,125,132,134,135,137,138,139,140,141,144,151,153,154,156,157,158,159,160,163,170,172,173,175,176,177,179,180,182,183,184,185,186,189,191,192,194,195,196,198,199,201,202,203,205,206,208,209,210,212,213,215,216,217,219,220,222,223,224,226,227,229,230,231,233,234,236,237,238,240,241,243,244,245,247,248,250,251,252,254,255,257,258,259,261,262,264,265,266,268,269,271,272,273,275,276,278,279,280,282,283,285,286,287,289,290,292,293,294,296,297,299,300,301,303,304,306,307,308,309,317,319,320,322,323,324,326,327,329,330,331,333,334,336,337,338,340,341,343,344,345,347,348,350,351,352,354,355,357,358,359,361,362,364,365,366,367,368,369,370,373,375,376,378,379,380,382,383,385,386,387,389,390,392,393,394,396,397,399,400,401,403,404,406,407,408,410,411,413,414,415,417,418,420,421,422,424,425,427,428,429,431,432,434,435,436,438,439,441,442,443,445,446,448,449,450,452,453,455,456,457,459,460,462,463,471,473,474,476,477,478,480,481,483,484,485,487,488,490,491,492,494,495,497,498,499,501,502,504,505,506,508,509,511,512,513,515,516,518,519,520,522,523,525,526,527,529,530,532,533,534,536,537,539,540,541,542,543,544,545,555,557,558,560,561,562,564,565,567,568,569,571,572,574,575,576,578,579,581,582,583,585,586,588,589,590,592,593,595,596,597,599,600,602,603,604,605,606,607,608,611,613,614,616,617,625,627,628,630,631,632,634,635,637,638,639,641,642,644,645,646,648,649,651,652,653,656,657,658,659,660,661,662,672,674,675,677,678,679,681,682,684,685,686,688,689,691,692,693,695,696,698,699,700,702,703,705,706,707,709,710,712,713,714,716,717,719,720,721,723,724,726,727,728,730,731,733,734,735,737,738,740,741,742,745,746,747,749,750,752,753,754,756,757,759,760,761,763,764,766,767,768,770,771,773,774,775,778,779,780,783,784,785,786,787,788,789,792,794,795,797,798,799,806,808,809,811,812,813,815,816,818,819,820,822,823,825,826,827,829,830,832,833,834,836,837,839,840,841,843,844,846,847,848,850,851,853,854,855,857,858,860,861,862,864,865,867,868,869,871,872,874,875,876,878,879,881,882,883,885,886,888,889,890,892,893,895,896,897,899,900,902,903,904,906,907,909,910,911,913,914,916,917,918,920,921,923,924,925,927,928,930,931,932,934,935,937,938,939,941,942,944,945,946,948,949,951,952,953,955,956,958,959,960,962,963,965,966,967,968,969,972,975,976,977,979,980,982,983,984,986,987,989,990,991,994,995,996,998,999,1001,1002,1003,1004,1005,1006,1007,1008,1009,1010,1011,1012,1013,1014,1015,1016,1017,1018,1019,1020,1022,1023,1024,1025,1028,1029,1030,1032,1033,1035,1036,1037,1039,1040,1042,1043,1044,1046,1047,1049,1050,1051,1053,1054,1056,1057,1058,1061,1062]
def pk(P:Params):List OO→Nat→List Addr→Frag
 | [],_,_=>[]
 | _::_,_,[]=>[]
 | x::l,i,a::r=>bif i == a then(a,x P)::pk P l (i+1) r else pk P l (i+1) (a::r)
def hK(P:Params):Frag:=pk P hL 0 hAs
theorem fJ(P:Params):hAs=(hK P).map (·.1):=by kernel_rfl
end
theorem wsd:PySem.Challenge.rw_stillheap_k27_whole_lists_added_up.wellSaid=true:=by kernel_rfl
noncomputable section
noncomputable def hTa(P:Params):BT:=mkT P 12 (stT (hL.take 15) [(3,o3),(12,o8)])
noncomputable def hSa(w:World)(os:OsState):SharedT:=#[hTa w.params,15,#[[],[],[],0,[],[],false,(List.toArray []),[],0,false,false,false,0,[2000,10,10],false,0,true,[],[],0,false],#[],#[0,0,0,0],187,os]
noncomputable def hTb(P:Params):BT:=mkT P 12 (stT (hL.take 15) [(3,o3),(12,o8)])
noncomputable def hSb(w:World)(os:OsState):SharedT:=#[hTb w.params,15,#[[],[],[],0,[],[],false,(List.toArray []),[],0,false,false,false,0,[2000,10,10],false,0,true,[],[],0,false],#[],#[0,0,0,0],187,os]
noncomputable def hT0(P:Params):BT:=mkT P 12 (stT (hL.take 163) [(3,o13),(12,o14),(45,o34)])
noncomputable def hS0(w:World)(os:OsState):SharedT:=#[hT0 w.params,163,#[[],[],[],0,[],[],false,(List.toArray []),[],0,false,false,false,0,[2000,10,10],false,0,true,[],[],0,false],#[],#[0,0,0,0],367,os]
noncomputable def hT1(P:Params):BT:=mkT P 12 (stT (hL.take 422) [(3,LC),(12,LD)])
noncomputable def hS1(w:World)(os:OsState):SharedT:=#[hT1 w.params,422,#[[],[],[],0,[],[],false,(List.toArray []),[],0,false,false,false,0,[2000,10,10],false,0,true,[],[],0,false],#[],#[0,0,0,0],731,os]
noncomputable def hT2(P:Params):BT:=mkT P 12 (stT (hL.take 665) [(3,LG),(12,LH)])
noncomputable def hS2(w:World)(os:OsState):SharedT:=#[hT2 w.params,665,#[[],[],[],0,[],[],false,(List.toArray []),[],0,false,false,false,0,[2000,10,10],false,0,true,[],[],0,false],#[],#[0,0,0,0],1037,os]
noncomputable def hT3(P:Params):BT:=mkT P 12 (stT (hL.take 972) [(3,LI),(12,LJ)])
noncomputable def hS3(w:World)(os:OsState):SharedT:=#[hT3 w.params,972,#[[],[],[],0,[],[],false,(List.toArray []),[],0,false,false,false,0,[2000,10,10],false,0,true,[],[],0,false],#[],#[0,0,0,0],1432,os]
noncomputable def hT4(P:Params):BT:=mkT P 12 hL
noncomputable def hS4(w:World)(os:OsState):SharedT:=#[hT4 w.params,1063,#[[],[],[],0,[],[],false,(List.toArray []),[],0,false,false,false,0,[2000,10,10],false,0,true,[],[],0,false],#[],#[0,0,0,0],1597,os]
noncomputable def hTf(P:Params):BT:=mkT P 12 hL
noncomputable def hSf(w:World)(os:OsState):SharedT:=#[hTf w.params,1063,#[[],[],[],0,[],[],false,(List.toArray []),[],0,false,false,false,0,[2000,10,10],false,0,true,[],[],0,false],#[],#[0,0,0,0],1597,os]
noncomputable def vA:Env:={scope:=(PySem.Challenge.pw_stillheap_k27_whole_lists_added_up).main.scope,locals:=mainNs,globals:=mainNs,cells:=[],code:=(.ref 13),frame:=some 14}
noncomputable def hG0:List Stmt:=[top 0,top 1,top 2,top 3,top 4,top 5,top 6,top 7,top 8]
noncomputable def hG1:List Stmt:=[top 9,top 10,top 11,top 12,top 13,top 14,top 15,top 16,top 17,top 18,top 19,top 20,top 21,top 22,top 23,top 24,top 25,top 26,top 27,top 28,top 29,top 30,top 31,top 32,top 33,top 34,top 35,top 36,top 37,top 38,top 39,top 40,top 41,top 42,top 43,top 44]
noncomputable def hG2:List Stmt:=[top 45,top 46,top 47,top 48,top 49,top 50,top 51,top 52,top 53,top 54,top 55,top 56,top 57,top 58,top 59,top 60]
noncomputable def hG3:List Stmt:=[top 61,top 62,top 63,top 64,top 65,top 66,top 67,top 68,top 69]
noncomputable def hG4:List Stmt:=[top 70,top 71,top 72,top 73,top 74,top 75,top 76,top 77,top 78,top 79,top 80,top 81,top 82,top 83,top 84]
noncomputable def hB:List Stmt:=hG0++(hG1++(hG2++(hG3++(hG4++[]))))
noncomputable def hC:Code:=.body hB vA
noncomputable abbrev hF:List Frame:=[topFrame #[0,0,0,0]]
theorem Mo(w:World)(os:OsState):topGo treeTable PySem.Challenge.pw_stillheap_k27_whole_lists_added_up w 11 (.some (.ref 6)) 12 #[boot_heap w.params,#[],boot_drawn,boot_toks,os] (topStub PySem.Challenge.pw_stillheap_k27_whole_lists_added_up)=some ((hSa w os).abs,#[denote treeTable hC,hC,#[0,0,0,0],hF]):=by kernel_rfl
theorem Mp(w:World)(os:OsState):segRun treeTable PySem.Challenge.pw_stillheap_k27_whole_lists_added_up w 11 (.some (.ref 6)) 1 1 (hSa w os).abs (blockOf hB vA hC #[0,0,0,0] hF)=some (.next,(hSb w os).abs,hC,#[0,0,0,0]):=by kernel_rfl
theorem hR0(w:World)(os:OsState):segRunT treeTable PySem.Challenge.pw_stillheap_k27_whole_lists_added_up w 11 (.some (.ref 6)) 1 1745 (hSb w os) (piecesOf hG0 vA hC #[0,0,0,0] hF)=some (.next,hS0 w os,hC,#[32,0,35,29]):=by kernel_rfl
theorem hR1(w:World)(os:OsState):segRunT treeTable PySem.Challenge.pw_stillheap_k27_whole_lists_added_up w 11 (.some (.ref 6)) 1 1786 (hS0 w os) (piecesOf hG1 vA hC #[32,0,35,29] hF)=some (.next,hS1 w os,hC,#[168,0,169,48]):=byRow2 "special-get-raises" (P:=λw=>segRunT treeTable PySem.Challenge.pw_stillheap_k27_whole_lists_added_up w 11 (.some (.ref 6)) 1 1786 (hS0 w os) (piecesOf hG1 vA hC #[32,0,35,29] hF)=some (.next,hS1 w os,hC,#[168,0,169,48])) (λw=>by kernel_rfl) (λw=>by kernel_rfl) w
theorem hR2(w:World)(os:OsState):segRunT treeTable PySem.Challenge.pw_stillheap_k27_whole_lists_added_up w 11 (.some (.ref 6)) 1 1536 (hS1 w os) (piecesOf hG2 vA hC #[168,0,169,48] hF)=some (.next,hS2 w os,hC,#[297,0,297,8]):=by kernel_rfl
theorem hR3(w:World)(os:OsState):segRunT treeTable PySem.Challenge.pw_stillheap_k27_whole_lists_added_up w 11 (.some (.ref 6)) 1 1779 (hS2 w os) (piecesOf hG3 vA hC #[297,0,297,8] hF)=some (.next,hS3 w os,hC,#[481,0,481,7]):=by kernel_rfl
theorem hR4(w:World)(os:OsState):segRunT treeTable PySem.Challenge.pw_stillheap_k27_whole_lists_added_up w 11 (.some (.ref 6)) 1 735 (hS3 w os) (piecesOf hG4 vA hC #[481,0,481,7] hF)=some (.next,hS4 w os,hC,#[542,0,556,15]):=byRow2 "special-get-raises" (P:=λw=>segRunT treeTable PySem.Challenge.pw_stillheap_k27_whole_lists_added_up w 11 (.some (.ref 6)) 1 735 (hS3 w os) (piecesOf hG4 vA hC #[481,0,481,7] hF)=some (.next,hS4 w os,hC,#[542,0,556,15])) (λw=>by kernel_rfl) (λw=>by kernel_rfl) w
theorem Mq(w:World)(os:OsState):topRun treeTable PySem.Challenge.pw_stillheap_k27_whole_lists_added_up w 11 (.some (.ref 6)) 2 (hS4 w os).abs #[doneF .next,hC,#[542,0,556,15],hF]=some (hSf w os).abs:=by kernel_rfl
theorem Mr(w:World)(os:OsState):topRun treeTable PySem.Challenge.pw_stillheap_k27_whole_lists_added_up w 11 (.some (.ref 6)) (12+(1+(1745+(1786+(1536+(1779+(735+2))))))) #[boot_heap w.params,#[],boot_drawn,boot_toks,os] (topStub PySem.Challenge.pw_stillheap_k27_whole_lists_added_up)=some (hSf w os).abs:=go_top (Mo w os) (piece_block (Mp w os) (piece_app (segRun_of (hR0 w os)) (piece_app (segRun_of (hR1 w os)) (piece_app (segRun_of (hR2 w os)) (piece_app (segRun_of (hR3 w os)) (piece_app (segRun_of (hR4 w os)) (Mq w os)))))))
noncomputable def hQ:Program:={PySem.Challenge.pw_stillheap_k27_whole_lists_added_up with main:={(PySem.Challenge.pw_stillheap_k27_whole_lists_added_up).main with body:=[top 0,top 2,top 3,top 4,top 5,top 6,top 7,top 8,top 9,top 11,top 12,top 13,top 14,top 15,top 16,top 17,top 18,top 19,top 20,top 21,top 22,top 23,top 24,top 25,top 26,top 27,top 28,top 29,top 30,top 31,top 32,top 33,top 34,top 36,top 37,top 38,top 39,top 40,top 41,top 42,top 43,top 44,top 45,top 46,top 47,top 48,top 49,top 50,top 52,top 54,top 55,top 57,top 59,top 61,top 62,top 64,top 66,top 67,top 68,top 69,top 70,top 71,top 72,top 73,top 74,top 76,top 77,top 78,top 79,top 80,top 81,top 83,top 84]}}
noncomputable def hLo:List Str:=["DEEDS", "JUMPS", "FORMS"]
theorem Jh(w:World):(fencedOpening treeTable PySem.Challenge.pw_stillheap_k27_whole_lists_added_up w 15278).map (λs=>(s.heap,s.gens,s.drawn,s.toks))=some (boot_heap w.params,#[],boot_drawn,boot_toks):=by kernel_rfl
theorem Ji(w:World):((boot_heap w.params).isNs mainGlobals&&(#[]:Array GenState).size == 0,(boot_heap w.params).objs.size,(boot_heap w.params).nsMap mainGlobals "__annotations__")=(true,11,((.some (.ref 6)):Option Value)):=by kernel_rfl
noncomputable abbrev hXt(s:Shared):Bool:=xlAt hQ [] s&&recOk (RowW.records (OpenRow.toRowW (OpenLaw.row PySem.Challenge.rw_stillheap_k27_whole_lists_added_up))) s
noncomputable abbrev hFH(w:World):Heap:=(absHeap (hTf w.params) 1063 #[[],[],[],0,[],[],false,(List.toArray []),[],0,false,false,false,0,[2000,10,10],false,0,true,[],[],0,false])
noncomputable abbrev hFS(w:World)(os:OsState):Shared:=#[hFH w,#[],#[0,0,0,0],1597,os]
theorem hK1(w:World)(os:OsState):staticsOk (importedModules (PySem.Challenge.pw_stillheap_k27_whole_lists_added_up).main.body) (boot_heap w.params) (hFH w)=true:=by kernel_rfl
theorem hK2(w:World)(os:OsState):namesBound PySem.Challenge.pw_stillheap_k27_whole_lists_added_up (hFH w)=true:=by kernel_rfl
theorem hK3(w:World)(os:OsState):gensDone (hFS w os)=true:=by kernel_rfl
theorem hK4(w:World)(os:OsState):laidKept (boot_heap w.params) (hFH w)=true:=by kernel_rfl
theorem hK5(w:World)(os:OsState):openSeen hQ hLo (importedModules (PySem.Challenge.pw_stillheap_k27_whole_lists_added_up).main.body) hXt true (hFS w os)=openGood hQ hLo:=by kernel_rfl
theorem hK6(w:World)(os:OsState):Hook.obs (kHook hK hAs fJ) (hFS w os)=Hook.val (kHook hK hAs fJ) w:=by kernel_rfl
theorem Fe(w:World):(λos:OsState=>((staticsOk (importedModules (PySem.Challenge.pw_stillheap_k27_whole_lists_added_up).main.body) (boot_heap w.params) (hFH w)&&namesBound PySem.Challenge.pw_stillheap_k27_whole_lists_added_up (hFH w)&&gensDone (hFS w os)&&laidKept (boot_heap w.params) (hFH w)),
  openSeen hQ hLo (importedModules (PySem.Challenge.pw_stillheap_k27_whole_lists_added_up).main.body) hXt true (hFS w os),Hook.obs (kHook hK hAs fJ) (hFS w os)))=λ_=>(true,openGood hQ hLo,Hook.val (kHook hK hAs fJ) w):=by
 funext os
 rw[hK1 w os,hK2 w os,hK3 w os,hK4 w os,hK5 w os,hK6 w os];rfl
theorem Jj:LeftO PySem.Challenge.pw_stillheap_k27_whole_lists_added_up hQ hLo hXt (Hook.obs (kHook hK hAs fJ)) (Hook.val (kHook hK hAs fJ)) 15278 :=
 LeftO.of_pieces (H₁:=λP=>absHeap (hTf P) 1063 #[[],[],[],0,[],[],false,(List.toArray []),[],0,false,false,false,0,[2000,10,10],false,0,true,[],[],0,false]) Jh Ji Mr (by rfl) Fe
end
end K27
end
section
namespace L2
open PySem PySem.Spec PyProof.Rows
section
variable{κ:Type}[DecidableEq κ]
noncomputable def bU(kvs:List (κ×V))(k:κ):Option V:=(kvs.find? λkv=>decide (kv.1=k)).map (·.2)
noncomputable def putK(kvs:List (κ×V))(k:κ)(v:V):List (κ×V) :=
  if(kvs.any λkv=>decide (kv.1=k))=true then kvs.map (λkv=>if kv.1=k then(kv.1,v) else kv) else kvs++[(k,v)]
noncomputable def ie(kvs:List (κ×V))(k:κ):List (κ×V):=kvs.filter λkv=>decide (kv.1≠k)
theorem bE{p:κ×V}{r:List (κ×V)}{k:κ}(e:p.1=k):bU (p::r) k=some p.2:=by simp[bU,Pb,e]
theorem bF{p:κ×V}{r:List (κ×V)}{k:κ}(e:¬p.1=k):bU (p::r) k=bU r k:=by simp[bU,Pb,e]
theorem eT(k:κ):∀ kvs:List (κ×V),(kvs.any λkv=>decide (kv.1=k))=(bU kvs k).isSome
  | []=>rfl
  | p::r=>by
    rw[Pr];by_cases e:p.1=k
    . simp only[bE e,decide_eq_true e,Bool.true_or,Option.isSome_some]
    . rw[bF e,decide_eq_false e,Bool.false_or];exact eT k r
theorem uM(k j:κ)(y:V):∀ kvs:List (κ×V),bU (kvs.map λkv=>if kv.1=k then(kv.1,y) else kv) j=(bU kvs j).map λx=>if j=k then y else x
  | []=>rfl
  | p::r=>by
    have ih:=uM k j y r;rw[Oo];by_cases h:p.1=k
    . rw[if_pos h]
      by_cases e:p.1=j
      . rw[bE (p:=(p.1,y)) e,bE e,OL,if_pos (e.symm.trans h)]
      . rw[bF (p:=(p.1,y)) e,bF e,ih]
    . rw[if_neg h]
      by_cases e:p.1=j
      . rw[bE (p:=p) e,bE e,OL,if_neg (λz=>h (e.trans z))]
      . rw[bF (p:=p) e,bF e,ih]
theorem rK(k j:κ)(y:V):∀ kvs:List (κ×V),bU kvs k=none→bU (kvs++[(k,y)]) j=if j=k then some y else bU kvs j
  | [],_=>by
    by_cases e:k=j
    . rw[if_pos e.symm];exact bE (p:=(k,y)) e
    . rw[if_neg (λz=>e z.symm)];exact bF (p:=(k,y)) e
  | p::r,hn=>by
    rw[P9];have hk:¬p.1=k:=λz=>by rw[bE z]at hn;cases hn
    rw[bF hk]at hn;have ih:=rK k j y r hn;by_cases e:p.1=j
    . rw[bE e,bE e,if_neg (λz=>hk (e.trans z))]
    . rw[bF e,bF e,ih]
theorem Ah(kvs:List (κ×V))(k j:κ)(y:V):bU (putK kvs k y) j=if j=k then some y else bU kvs j:=by
  unfold putK;by_cases a:(kvs.any λkv=>decide (kv.1=k))=true
  . rw[if_pos a,uM]
    rw[eT]at a;by_cases e:j=k
    . obtain⟨x,hx⟩:=Pp.mp a
      rw[if_pos e,e,hx,OL,if_pos rfl]
    . rw[if_neg e]
      cases bU kvs j with
      | none=>rfl
      | some x=>rw[OL,if_neg e]
  . rw[if_neg a]
    refine rK k j y kvs ?_;rw[eT]at a;cases q:bU kvs k with
    | none=>rfl
    | some x=>rw[q]at a;exact(a rfl).elim
theorem mV(kvs:List (κ×V))(k:κ)(v:V):(putK kvs k v).length≤kvs.length+1:=by
  unfold putK;split
  . rw[NI];omega
  . rw[NX,Oi,List.length_nil];omega
theorem iV{kvs:List (κ×V)}{k:κ}(v:V)(h:bU kvs k=none):putK kvs k v=kvs++[(k,v)]:=by
  unfold putK;rw[eT,h];exact if_neg (by decide)
theorem lC.eC{o:Option V}{u:Option Value}(r:lC o u):o.isSome=u.isSome:=by
  cases o with
  | none=>cases u with
    | none=>rfl
    | some _=>exact(show False from r).elim
  | some _=>cases u with
    | none=>exact(show False from r).elim
    | some _=>rfl
theorem KV.val{kvs:List (κ×V)}{vs:List (κ×Value)}(r:KV kvs vs)(k:κ):lC (bU kvs k) (valueAt vs k):=by
  unfold KV at r;induction r with
  | nil=>exact True.intro
  | @cons p q ps qs h t ih =>
    obtain⟨h1,h2⟩:=h;by_cases e:p.1=k
    . have e':q.1=k:=h1.symm.trans e
      have b:valueAt (q::qs) k=some q.2:=(by simp[valueAt,Pb,e']);rw[bE e,b];exact h2
    . have e':¬q.1=k:=λz=>e (h1.trans z)
      have b:valueAt (q::qs) k=valueAt qs k:=(by simp[valueAt,Pb,e']);rw[bF e,b];exact ih
theorem KV.any{kvs:List (κ×V)}{vs:List (κ×Value)}(r:KV kvs vs)(k:κ):(kvs.any λkv=>decide (kv.1=k))=vs.any λkv=>decide (kv.1=k):=by
  unfold KV at r;induction r with
  | nil=>rfl
  | cons h t ih=>rw[Pr,Pr,ih,h.1]
theorem KV.IF{kvs:List (κ×V)}{vs:List (κ×Value)}(r:KV kvs vs)(k:κ){y:V}{u:Value}(ry:RelV y u) :
    KV (kvs.map λkv=>if kv.1=k then(kv.1,y) else kv) (vs.map λkv=>if kv.1=k then(kv.1,u) else kv):=by
  unfold KV at r ⊢;induction r with
  | nil=>exact .nil
  | @cons p q ps qs h t ih =>
    rw[Oo,Oo];refine .cons ?_ ih;obtain⟨h1,h2⟩:=h;by_cases e:p.1=k
    . rw[if_pos e,if_pos (h1.symm.trans e)];exact#[h1,ry]
    . rw[if_neg e,if_neg (λz=>e (h1.trans z))];exact#[h1,h2]
theorem KV.put{kvs:List (κ×V)}{vs:List (κ×Value)}(r:KV kvs vs)(k:κ){y:V}{u:Value}(ry:RelV y u):KV (putK kvs k y) (stored vs k u):=by
  unfold putK stored;rw[r.any k];by_cases e:(vs.any λkv=>decide (kv.1=k))=true
  . rw[if_pos e,if_pos e];exact r.IF k ry
  . rw[if_neg e,if_neg e];exact Paired.snoc r #[rfl,ry]
theorem KV.drop{kvs:List (κ×V)}{vs:List (κ×Value)}(r:KV kvs vs)(k:κ):KV (ie kvs k) (without vs k):=by
  unfold KV at r ⊢;unfold ie without;induction r with
  | nil=>exact .nil
  | @cons p q ps qs h t ih =>
    obtain⟨h1,h2⟩:=h;rw[List.filter_cons,List.filter_cons];by_cases e:p.1=k
    . have a:¬decide (p.1≠k)=true:=by simp[e]
      have b:¬decide (q.1≠k)=true:=(by simp[h1.symm.trans e]);rw[if_neg a,if_neg b];exact ih
    . have e':¬q.1=k:=λz=>e (h1.trans z)
      have a:decide (p.1≠k)=true:=(by simp[e]);have b:decide (q.1≠k)=true:=(by simp[e']);rw[if_pos a,if_pos b];exact .cons #[h1,h2] ih
theorem KV.keys{kvs:List (κ×V)}{vs:List (κ×Value)}(r:KV kvs vs):kvs.map (·.1)=vs.map (·.1):=by
  unfold KV at r;induction r with
  | nil=>rfl
  | cons h t ih=>rw[Oo,Oo,ih,h.1]
theorem KV.length{kvs:List (κ×V)}{vs:List (κ×Value)}(r:KV kvs vs):kvs.length=vs.length:=Paired.length r
theorem Ai(kvs:List (κ×V))(k:κ):(ie kvs k).length≤kvs.length:=Pc _ _
end
theorem qW{P:Program}{w:World}{k:Key}{u:Value}(r:RelV (kV k) u):(a7 P w).is k u=true:=by
  cases k with
  | inl i=>obtain⟨t,e⟩:=(show ∃ t,u=Value.int i t from r);subst e;exact tX P w i t
  | inr x=>obtain⟨t,e⟩:=(show ∃ t,u=Value.str x t from r);subst e;exact tY P w x t
theorem rL{P:Program}{w:World}:∀ {ks:List Key} {us:List Value},Vals (ks.map kV) us→ItemsAre (a7 P w) ks us
  | [],_,r=>by rw[Pq]at r;cases r;exact .nil
  | k::ks,_,r=>by
    rw[Oo]at r;cases r with
    | cons h t=>exact .cons (qW h) (rL t)
noncomputable abbrev KT(H:Hp):List (List Key×V)→List (List Key×Addr×Value)→Prop:=Paired λp q=>p.1=q.1∧H q.2.1=some (.tup (p.1.map kV))∧RelV p.2 q.2.2
theorem KT.val{H:Hp}{kvs:List (List Key×V)}{xs:List (List Key×Addr×Value)}(r:KT H kvs xs)(k:List Key):lC (bU kvs k) ((atKey xs k).map (·.2)):=by
  induction r with
  | nil=>exact True.intro
  | @cons p q ps qs h t ih =>
    obtain⟨h1,_,h2⟩:=h;by_cases e:p.1=k
    . have e':q.1=k:=h1.symm.trans e
      have b:atKey (q::qs) k=some q.2:=(by simp[atKey,Pb,e']);rw[bE e,b];exact h2
    . have e':¬q.1=k:=λz=>e (h1.trans z)
      have b:atKey (q::qs) k=atKey qs k:=(by simp[atKey,Pb,e']);rw[bF e,b];exact ih
theorem KT.IF{H:Hp}{kvs:List (List Key×V)}{xs:List (List Key×Addr×Value)}(r:KT H kvs xs)(k:List Key){y:V}{u:Value}(ry:RelV y u) :
    KT H (kvs.map λkv=>if kv.1=k then(kv.1,y) else kv) (xs.map (putAt k u)):=by
  induction r with
  | nil=>exact .nil
  | @cons p q ps qs h t ih =>
    rw[Oo,Oo];refine .cons ?_ ih;obtain⟨h1,h2,h3⟩:=h;unfold putAt;by_cases e:p.1=k
    . rw[if_pos e,if_pos (h1.symm.trans e)];exact#[h1,h2,ry]
    . rw[if_neg e,if_neg (λz=>e (h1.trans z))];exact#[h1,h2,h3]
theorem KT.put{H:Hp}{kvs:List (List Key×V)}{xs:List (List Key×Addr×Value)}(r:KT H kvs xs)(k:List Key){b:Addr}{y:V}{u:Value}(hb:H b=some (.tup (k.map kV)))(ry:RelV y u) :
    KT H (putK kvs k y) (storedH xs k b u):=by
  have e:(kvs.any λkv=>decide (kv.1=k))=(atKey xs k).isSome:=by
    rw[eT,(r.val k).eC,O7]
  unfold putK storedH;rw[e];by_cases q:(atKey xs k).isSome=true
  . rw[if_pos q,if_pos q];exact r.IF k ry
  . rw[if_neg q,if_neg q];exact Paired.snoc r #[rfl,hb,ry]
theorem KT.keeps{H H':Hp}{kvs:List (List Key×V)}{xs:List (List Key×Addr×Value)}(r:KT H kvs xs)(ht:∀ b ys,H b=some (.tup ys)→H' b=some (.tup ys)):KT H' kvs xs :=
  Paired.Gp r λ_ _ z=>#[z.1,ht _ _ z.2.1,z.2.2]
section
variable{P:Program}{w:World}{H:Hp}{h:Heap}{a:Addr}
theorem Ew{u:HO}(ok:HOk P w H h)(e:Rd H a u):bT P w H h a u:=e.ok ok
theorem ng{kvs:List (Key×V)}(ok:HOk P w H h)(e:Rd H a (.dK kvs)):kvs.length≤sizeLine∧(a == sysModules)=false∧∃ vs,KV kvs vs∧h.DictOf (a7 P w) a vs :=
  show bT P w H h a (.dK kvs) from Ew ok e
theorem CC{kvs:List (Key×V)}(ok:HOk P w H h)(e:H a=some (.dK kvs)):kvs.length≤sizeLine∧(a == sysModules)=false∧∃ vs,KV kvs vs∧h.DictOf (a7 P w) a vs:=ng ok (.inl e)
theorem qq{ks:List Key}(ok:HOk P w H h)(e:H a=some (.tup (ks.map kV))):(tupleKind (a7 P w)).is h ks a:=by
  obtain⟨_,its,r,o,h1,h2,n,h3⟩:=(show bT P w H h a (.tup (ks.map kV)) from ok a _ e);exact#[o,its.toArray,n,h1,h2,h3,by simpa using rL r]
theorem tL{kvs:List (List Key×V)}(ok:HOk P w H h)(e:Rd H a (.dT kvs)):kvs.length≤sizeLine∧(a == sysModules)=false ∧
    ∃ xs,KT H kvs xs∧h.DictOfH (tupleKind (a7 P w)) a xs:=by
  obtain⟨z,y,xs,r,o,es,ep,h1,h2,h3,h4,h5⟩:=(show bT P w H h a (.dT kvs) from Ew ok e);refine#[z,y,xs,r,o,es,ep,h1,h2,h3,h4,λx hx=>?_,h5];have all:∀ {l:List (List Key×V)} {m:List (List Key×Addr×Value)},KT H l m→∀ x∈m,(tupleKind (a7 P w)).is h x.1 x.2.1:=by
    intro l m q;induction q with
    | nil=>intro x hx;exact nomatch hx
    | @cons p q ps qs hq t ih =>
      intro x hx;rcases NY.mp hx with e|hx
      . subst e
        exact qq ok (by rw[←hq.1];exact hq.2.1)
      . exact ih x hx
  exact all r x hx
theorem Jk{kvs:List (List Key×V)}(ok:HOk P w H h)(e:H a=some (.dT kvs)):kvs.length≤sizeLine∧(a == sysModules)=false ∧
    ∃ xs,KT H kvs xs∧h.DictOfH (tupleKind (a7 P w)) a xs:=tL ok (.inl e)
end
noncomputable def iI(H:Hp)(a:Addr)(y:V)(r:Option V):Prop :=
  (∃ kvs k,Rd H a (.dK kvs)∧y=kV k∧r=bU kvs k)∨∃ kvs k b,Rd H a (.dT kvs)∧y=.ref b∧H b=some (.tup (k.map kV))∧r=bU kvs k
noncomputable def pd(H:Hp)(a:Addr)(y v:V)(H':Hp):Prop :=
  (∃ kvs k,H a=some (.dK kvs)∧y=kV k∧kvs.length<sizeLine∧H'=upd H a (.dK (putK kvs k v))) ∨
  ∃ kvs k b,H a=some (.dT kvs)∧y=.ref b∧H b=some (.tup (k.map kV))∧kvs.length<sizeLine∧H'=upd H a (.dT (putK kvs k v))
theorem iI.k{H:Hp}{a:Addr}{kvs:List (Key×V)}{k:Key}(e:H a=some (.dK kvs)):iI H a (kV k) (bU kvs k):=.inl #[kvs,k,.inl e,rfl,rfl]
theorem pd.k{H:Hp}{a:Addr}{kvs:List (Key×V)}{k:Key}{v:V}(e:H a=some (.dK kvs))(hl:kvs.length<sizeLine):pd H a (kV k) v (upd H a (.dK (putK kvs k v))):=.inl #[kvs,k,e,rfl,hl,rfl]
section
variable{X:Cx}{pins:List (Addr×Obj)}{σ:St}{H:Hp}{s:Shared}{a:Addr}{y v:V}{u r:Value}{o:Option V}{A:Around}{E:Value→Shared→Prop}
theorem Inv.big(I:Inv X pins σ H s):sysModules<s.heap.objs.size:=by
  have h:mainGlobals<s.heap.objs.size:=(I.mod.glob.keeps I.bk).lt;exact Nat.lt_trans (by decide) h
theorem yA{Q:Value→Shared→Prop}(hu:A.units+1<cLine)(I:Inv X pins σ H s)(g:iI H a y (some v))(ry:RelV y u)(h:∀ w' s',Inv X pins σ H s'→RelV v w'→Q w' s') :
    wpAny (model X.prog X.w) A (getItem (.ref a) u) Q E s:=by
  rcases g with⟨kvs,k,e,ey,l⟩|⟨kvs,k,b,e,ey,eb,l⟩
  . subst ey
    obtain⟨z,hd,vs,rel,dd⟩:=ng I.hok e;obtain⟨w',hw,rw'⟩:=lC.some_of (v:=v) (o:=valueAt vs k) (by rw[l];exact rel.val k);exact wpAny_getItem_of (qW ry) dd.mapOf hw (h w' _ (I.tok _) rw')
  . subst ey
    cases (show u=Value.ref b from ry);obtain⟨z,hd,xs,rel,dd⟩:=tL I.hok e;obtain⟨w',hw,rw'⟩:=lC.some_of (v:=v) (o:=(atKey xs k).map (·.2)) (by rw[l];exact rel.val k);obtain⟨p,hp,hp2⟩:=Ol.mp hw;refine wpAny_getItem_heap (tupleKind_room_in1 hu) (qq I.hok eb) dd hp ?_;rw[hp2];exact h w' _ (I.tok _) rw'
theorem Ms{Q:Value→Shared→Prop}(hu:A.units+1<cLine)(I:Inv X pins σ H s)(g:iI H a y o)(ry:RelV y u)(h:∀ s',Inv X pins σ H s'→Q (.bool o.isSome) s') :
    wpAny (model X.prog X.w) A (compareOp .In u (.ref a)) Q E s:=by
  rcases g with⟨kvs,k,e,ey,l⟩|⟨kvs,k,b,e,ey,eb,l⟩
  . subst ey
    obtain⟨z,hd,vs,rel,dd⟩:=ng I.hok e;refine wpAny_in_of (qW ry) hd dd.mapOf ?_;rw[←(rel.val k).eC,←l];exact h _ (I.tok _)
  . subst ey
    cases (show u=Value.ref b from ry);obtain⟨z,hd,xs,rel,dd⟩:=tL I.hok e;refine wpAny_in_heap (tupleKind_room_in1 hu) (qq I.hok eb) hd dd ?_;have q:=(rel.val k).eC;rw[O7]at q;rw[←q,←l];exact h _ (I.tok _)
theorem C9{Q:Value→Shared→Prop}(hu:A.units+1<cLine)(I:Inv X pins σ H s)(g:iI H a y o)(ry:RelV y u)(h:∀ s',Inv X pins σ H s'→Q (.bool (!o.isSome)) s') :
    wpAny (model X.prog X.w) A (compareOp .NotIn u (.ref a)) Q E s:=by
  rcases g with⟨kvs,k,e,ey,l⟩|⟨kvs,k,b,e,ey,eb,l⟩
  . subst ey
    obtain⟨z,hd,vs,rel,dd⟩:=ng I.hok e;refine wpAny_notIn_of (qW ry) hd dd.mapOf ?_;rw[←(rel.val k).eC,←l];exact h _ (I.tok _)
  . subst ey
    cases (show u=Value.ref b from ry);obtain⟨z,hd,xs,rel,dd⟩:=tL I.hok e;refine wpAny_notIn_heap (tupleKind_room_in1 hu) (qq I.hok eb) hd dd ?_;have q:=(rel.val k).eC;rw[O7]at q;rw[←q,←l];exact h _ (I.tok _)
theorem sW{h':Heap}{t':Nat}{ob:HO}(I:Inv X pins σ H s)(mu:Mut (H a))(hs:Heap.SameBut a s.heap h')(he:∃ q,h'.get? a=some q)(new:bT X.prog X.w (upd H a ob) h' a ob) :
    Inv X pins σ (upd H a ob) {s with heap:=h',toks:=t'} :=
  I.write (x:=a) (e:=a) mu (.inl rfl) (λb q hb z=>(hs.2 b hb).trans z) he new
theorem Bw{P:Program}{w:World}{H':Hp}{h':Heap}{kvs:List (Key×V)}{vs:List (Key×Value)}(z:kvs.length≤sizeLine)(hd:(a == sysModules)=false)(rel:KV kvs vs)(dd:h'.DictOf (a7 P w) a vs) :
    bT P w H' h' a (.dK kvs):=#[z,hd,vs,rel,dd]
theorem yB{H':Hp}{Q:Unit→Shared→Prop}(hu:A.units+1<cLine)(I:Inv X pins σ H s)(g:pd H a y v H')(ry:RelV y u)(rv:RelV v r)(h:∀ s',Inv X pins σ H' s'→Q () s') :
    wpAny (model X.prog X.w) A (setItem (.ref a) u r) Q E s:=by
  rcases g with⟨kvs,k,e,ey,l,eH⟩|⟨kvs,k,b,e,ey,eb,l,eH⟩
  . subst ey eH
    obtain⟨z,hd,vs,rel,dd⟩:=CC I.hok e;have hz:vs.length≤sizeLine:=(by rw[←rel.length];exact z);have hl:(putK kvs k v).length≤sizeLine:=(by have:=mV kvs k v;omega);refine wpAny_setItem_pairs (hsz:=hz) (qW ry) dd λh' dd' hs=>h _ ?_;have he:∃ q,h'.get? a=some q:=let ⟨q,_,_,hq,_⟩:=dd';#[q,hq];exact sW I (by rw[e];exact True.intro) hs he (Bw hl hd (rel.put k rv) dd')
  . subst ey eH
    cases (show u=Value.ref b from ry);obtain⟨z,hd,xs,rel,dd⟩:=Jk I.hok e;have hz:xs.length≤sizeLine:=(by rw[←Paired.length rel];exact z);have hl:(putK kvs k v).length≤sizeLine:=(by have:=mV kvs k v;omega);refine wpAny_setItem_heap (hsz:=hz) (tupleKind_room_in1 hu) (qq I.hok eb) dd λh' dd' hs=>h _ ?_;obtain⟨q,es,ep,hq,h2,h3,h4,_,h5⟩:=dd';refine sW I (by rw[e];exact True.intro) hs #[q,hq] #[hl,hd,_,(rel.put k eb rv).keeps λc ys ec=>?_,q,es,ep,hq,h2,h3,h4,h5];rw[ab (av ec e (λz=>nomatch z))];exact ec
end
section
variable{X:Cx}{pins:List (Addr×Obj)}{σ:St}{H:Hp}{s:Shared}{a:Addr}{kvs:List (Key×V)}{k:Key}{u:Value}{A:Around}{E:Value→Shared→Prop}
theorem Jl{v:V}{more:List Value}{Q:Value→Shared→Prop}(I:Inv X pins σ H s)(e:H a=some (.dK kvs))(ry:RelV (kV k) u)(l:bU kvs k=some v)(hm:more=[]∨∃ x,more=[x])
    (h:∀ w' s',Inv X pins σ (upd H a (.dK (ie kvs k))) s'→RelV v w'→Q w' s'):wpAny (model X.prog X.w) A (call (.builtin "dict.pop") (.ref a::u::more)) Q E s:=by
  obtain⟨z,hd,vs,rel,dd⟩:=CC I.hok e;obtain⟨w',hw,rw'⟩:=lC.some_of (v:=v) (o:=valueAt vs k) (by rw[←l];exact rel.val k);have hp:(keyPart u).isSome=true:=by
    cases k with
    | inl i=>obtain⟨t,q⟩:=(show ∃ t,u=Value.int i t from ry);subst q;rfl
    | inr x=>obtain⟨t,q⟩:=(show ∃ t,u=Value.str x t from ry);subst q;rfl
  have ha:argsOk "dict.pop" #[.ref a::u::more,[]]:=by
    rcases hm with q|⟨x,q⟩
    . subst q;exact PySem.F.args_dict_pop_2 _ _
    . subst q;exact PySem.F.args_dict_pop_3 _ _ _
  refine call_meetsIn PySem.F.slot_dict_pop dd.typeIs PySem.F.entry_dict_pop ha (meets_dict_pop_there (a7 X.prog X.w) a (qW ry) more hm hp)
    #[vs,w',dd,by rw[←rel.length];exact z,hw,λh' dd' hs=>h w' _ ?_ rw']
  have he:∃ q,h'.get? a=some q:=let ⟨q,_,_,hq,_⟩:=dd';#[q,hq];exact sW I (by rw[e];exact True.intro) hs he (Bw (NW (Ai kvs k) z) hd (rel.drop k) dd')
theorem Jm{Q:Value→Shared→Prop}(I:Inv X pins σ H s)(e:Rd H a (.dK kvs))(h:∀ t s',Inv X pins σ H s'→Q (.int kvs.length t) s'):wpAny (model X.prog X.w) A (call (.builtin "len") [.ref a]) Q E s:=by
  obtain⟨z,hd,vs,rel,dd⟩:=ng I.hok e;refine call_len_dict hd dd (by rw[←rel.length];rw[sizeLine_eq]at z;omega) ?_;rw[←rel.length];exact h _ _ (I.tok _)
end
noncomputable def IG(i:Expr):Prop:=∀ ov iv,subscripted i false ov iv=operate [ov,iv] (getItem ov iv)
theorem xu{prog:Program}{w:World}{A:Around}{E:Value→Shared→Prop}{s:Shared}{env:Env}{value slice:Expr}{pos:Pos}{T id:String}{Q:Value→Shared→Prop}
    (hl:typeLookup (.type T) "__getitem__" = pure (some (.builtin id))) (hs:IG slice)
    (h:wpAny (model prog w) A (eval value env) (λo s₁=>wpAny (model prog w) A (eval slice env) (λi s₂=>s₂.TypeIs o T∧wpAny (model prog w) A (getItem o i) Q E s₂) E s₁) E s) :
    wpAny (model prog w) A (eval (.Subscript value slice pos) env) Q E s:=by
  refine Subscript_ (wpAny_mono h (λo s₁ h₁=>wpAny_mono h₁ (λi s₂ h₂=>?_) λ_ _ x=>x) λ_ _ x=>x);obtain⟨hT,h₂⟩:=h₂;unfold subscriptTail;refine wpAny_bind ?_;rw[getitemInPython_of_ne hT.not_modules];refine wpAny_bind (wpAny_specialOf hT hl ?_);have fin:wpAny (model prog w) A (subscripted slice false o i) (λr s₃=>wpAny (model prog w) A (letTemporaryGo value o r >>= λ_=>pure r) Q E s₃) E s₂:=by
    rw[hs o i];exact wpAny_operating (wpAny_mono h₂ (λr s₃ h₃=>wpAny_bind (wpAny_letTemporaryGo (wpAny_pure h₃))) λ_ _ x=>x)
  first
    | exact wpAny_pure (wpAny_bind fin)
    | exact wpAny_bind (wpAny_pure (wpAny_bind fin))
    | exact wpAny_bind fin
theorem t7{X:Cx}{pins:List (Addr×Obj)}{σ:St}{H:Hp}{s:Shared}{a:Addr}{y:V}{o:Option V}(I:Inv X pins σ H s)(g:iI H a y o):s.TypeIs (.ref a) "dict" := by
  rcases g with⟨kvs,k,e,_,_⟩|⟨kvs,k,b,e,_,_,_⟩
  . obtain⟨_,_,vs,_,dd⟩:=ng I.hok e
    exact dd.typeIs
  . obtain⟨_,_,xs,_,dd⟩:=tL I.hok e
    exact dd.typeIs
noncomputable def Jn(td ty:TE):TE:=λσ H Q=>td σ H λx H1=>ty σ H1 λy H2=>∃ a v,x=.ref a∧iI H2 a y (some v)∧Q v H2
noncomputable def Mt(ty td:TE):TE:=λσ H Q=>ty σ H λy H1=>td σ H1 λx H2=>∃ a o,x=.ref a∧iI H2 a y o∧Q (.bl o.isSome) H2
noncomputable def De(ty td:TE):TE:=λσ H Q=>ty σ H λy H1=>td σ H1 λx H2=>∃ a o,x=.ref a∧iI H2 a y o∧Q (.bl (!o.isSome)) H2
noncomputable def Jo(td ty tv:TE):TS:=λD σ H=>tv σ H λv H1=>td σ H1 λx H2=>ty σ H2 λy H3=>∃ a H4,x=.ref a∧pd H3 a y v H4∧D.nx σ H4
section
variable{X:Cx}{o i e value:Expr}{pos pos' Kv:Pos}{td ty tv:TE}
theorem gk(hu:X.A.units+1<cLine)(ho:PE X o td)(hi:PE X i ty)(hs:IG i):PE X (.Subscript o i pos) (Jn td ty):=by
  intro pins s σ H Q I h;refine xu PySem.F.slot_dict_getitem.lookup hs (thn (ho pins s σ H _ I h) λu s1 ⟨x,H1,I1,rx,q1⟩=>thn (hi pins s1 σ H1 _ I1 q1) λiv s2 ⟨y,H2,I2,ry,a,v,ex,g,q2⟩=>?_);subst ex;obtain rfl:u=Value.ref a:=rx;exact#[t7 I2 g,yA hu I2 g ry λw' s3 I3 rw'=>#[v,H2,I3,rw',q2]]
theorem wO(hu:X.A.units+1<cLine)(hi:PE X i ty)(ho:PE X o td):PC X .In i o (Mt ty td):=by
  intro pins s σ H Q I h;refine thn (hi pins s σ H _ I h) λiv s1 ⟨y,H1,I1,ry,q1⟩=>thn (ho pins s1 σ H1 _ I1 q1) λu s2 ⟨x,H2,I2,rx,a,ov,ex,g,q2⟩=>?_;subst ex;obtain rfl:u=Value.ref a:=rx;exact Ms hu I2 g ry λs3 I3=>#[.bl ov.isSome,H2,I3,rfl,q2]
theorem eD(hu:X.A.units+1<cLine)(hi:PE X i ty)(ho:PE X o td):PC X .NotIn i o (De ty td):=by
  intro pins s σ H Q I h;refine thn (hi pins s σ H _ I h) λiv s1 ⟨y,H1,I1,ry,q1⟩=>thn (ho pins s1 σ H1 _ I1 q1) λu s2 ⟨x,H2,I2,rx,a,ov,ex,g,q2⟩=>?_;subst ex;obtain rfl:u=Value.ref a:=rx;exact C9 hu I2 g ry λs3 I3=>#[.bl (!ov.isSome),H2,I3,rfl,q2]
theorem eN(hu:X.A.units+1<cLine)(ho:PE X o td)(hi:PE X i ty)(hv:PE X value tv)(hs:swapsWith value (some (.Subscript o i pos')) pos.line X.env=pure false) :
    PS X (.Assign [.Subscript o i pos'] value pos) (Jo td ty tv):=by
  intro pins s σ H D I h;refine wpAny_Assign_Subscript (thn (hv pins s σ H _ I h) λr s1 ⟨v,H1,I1,rv,q1⟩=>thn (ho pins s1 σ H1 _ I1 q1) λu s2 ⟨x,H2,I2,rx,q2⟩=>thn (hi pins s2 σ H2 _ I2 q2) λiv s3 ⟨y,H3,I3,ry,a,H4,ex,g,q3⟩=>?_) hs;subst ex;obtain rfl:u=Value.ref a:=rx;exact yB hu I3 g ry rv λs4 I4=>#[σ,H4,I4,q3]
end
theorem Aj{P:Program}{w:World}{H:Hp}(h:Heap)(hb:sysModules<h.objs.size):bT P w H (h.push {cls:=.type "dict",data:=.dict #[]}) h.objs.size (.dK []) :=
  #[Oy _,beq_eq_false_iff_ne.mpr (Oj (Oe hb)),[],.nil,Heap.DictOf.new h]
noncomputable def Ff:TE:=λ_ H Q=>∀ p,H p=none→Q (.ref p) (upd H p (.dK []))
section
variable{X:Cx}{pos:Pos}
theorem cA:PE X (.Dict [] [] pos) Ff:=λpins s σ H Q I h =>
  wpAny_Dict_empty #[.ref s.heap.objs.size,_,I.laid (a:=s.heap.objs.size) (o:=.dK []) (t':=s.toks) (λ_ _ q=>NL _ q) (NO _) (Aj s.heap I.big),rfl,h _ (I.hok.fresh (NO _))]
end
structure M1(X:Cx)(o:Expr)(m:Str)(apos:Pos)(e:Expr)(nX:Pos):Prop where
  base:attributeBase o m X.env (eval o X.env)=eval o X.env
  few:((backTo nX (starEach [e] X.env)).all (λx=>!x.1)&&(backToKw nX (keywordEach [] X.env)).all (λx=>x.1.isSome)
    && decide (([e]:List Expr).length+([]:List Keyword).length+(if([]:List Keyword).isEmpty then 0 else 1)<30))=true
  line:(apos.endLine == nX.line)=true
  trees:backTo nX (starEach [e] X.env)=[(false,eval e X.env)]
noncomputable def IsD(H:Hp)(a:Addr):Prop:=(∃ kvs,Rd H a (.dK kvs))∨∃ kvs,Rd H a (.dT kvs)
theorem Fg{X:Cx}{pins:List (Addr×Obj)}{σ:St}{H:Hp}{s:Shared}{a:Addr}(I:Inv X pins σ H s)(d:IsD H a) :
    s.TypeIs (.ref a) "dict" ∧ (∀ b,Value.ref a=.ref b→∃ ob,s.heap.get? b=some ob∧ob.dict=none)∧(a == sysModules)=false:=by
  rcases d with⟨kvs,e⟩|⟨kvs,e⟩
  . obtain⟨_,hd,vs,_,dd⟩:=ng I.hok e
    refine#[dd.typeIs,λb q=>?_,hd];cases q;obtain⟨ob,_,_,h1,h2,_⟩:=dd;exact#[ob,h1,h2.2.1]
  . obtain⟨_,hd,xs,_,dd⟩:=tL I.hok e
    refine#[dd.typeIs,λb q=>?_,hd];cases q;obtain⟨ob,_,_,h1,h2,_⟩:=dd;exact#[ob,h1,h2.2.1]
section
variable{X:Cx}{pins:List (Addr×Obj)}{σ:St}{H:Hp}{s:Shared}{a:Addr}{y d:V}{u r:Value}{o:Option V}{A:Around}{E:Value→Shared→Prop}
end
noncomputable def Fh(td ty:TE):TE:=λσ H Q=>td σ H λx H1=>∃ a,x=.ref a∧IsD H1 a∧ty σ H1 λy H2=>∃ kvs k v,H2 a=some (.dK kvs)∧y=kV k∧bU kvs k=some v∧Q v (upd H2 a (.dK (ie kvs k)))
section
variable{X:Cx}{o e f:Expr}{apos nX:Pos}{td ty tx:TE}
theorem pX(ho:PE X o td)(he:PE X e ty)(m:M1 X o "pop" apos e nX):PE X (.Call (.Attribute o "pop" apos) [e] [] nX) (Fh td ty):=by
  intro pins s σ H Q I h;refine wpAny_Call_method m.base m.few m.line PySem.F.plainAttrs_dict PySem.F.slot_dict_pop PySem.F.type_dict_pop (thn (ho pins s σ H _ I h) λu s1 ⟨x,H1,I1,rx,a,ex,d,q1⟩=>?_);subst ex;obtain rfl:u=Value.ref a:=rx;obtain⟨t1,t2,_⟩:=Fg I1 d;refine#[t1,t2,?_];rw[m.trees];refine Calls.callWith_builtin rfl (Calls.evalArgs_plain (Calls.spliced_cons (thn (he pins s1 σ H1 _ I1 q1) λiv s2 ⟨y,H2,I2,ry,kvs,k,v,ea,ey,l,q2⟩=>Calls.spliced_nil ?_)));subst ey;exact Jl I2 ea ry l (.inl rfl) λw' s3 I3 rw'=>#[v,_,I3,rw',q2]
end
section
variable{X:Cx}{pins:List (Addr×Obj)}{σ:St}{H:Hp}{s:Shared}{a:Addr}{kvs:List (Key×V)}{A:Around}{E:Value→Shared→Prop}
end
section
variable{X:Cx}{pins:List (Addr×Obj)}{σ:St}{H:Hp}{s:Shared}{a:Addr}{y:V}{u:Value}{A:Around}{E:Value→Shared→Prop}
end
end L2
namespace L2
open PySem PySem.Spec PyProof.Rows
section
variable{X:Cx}
theorem yC:eM X (.builtin "len") (λxs H Q=>∃ a kvs,xs=[V.ref a]∧H a=some (.dK kvs)∧Q (.int kvs.length) H):=by
  intro pins s σ H xs us Q I r h;obtain⟨a,kvs,rfl,ha,q⟩:=h;obtain⟨u,rfl,ru⟩:=vals1 r;cases ru;exact Jm I (.inl ha) λt s' I'=>#[.int kvs.length,H,I',#[t,rfl],q]
end
end L2
end
section
namespace LX
open PySem PySem.W
noncomputable def bz(c:Value)(od:Option Addr)(fs:Array Value)(sl:Array (Option Value)):Obj:={cls:=c,dict:=od,data:=.fields fs,slots:=sl}
noncomputable def Fi(dd:Option Addr)(cd:ClassData)(k0 k1 k2 k3 k5:Option Value):Obj:={cls:=.type "type",dict:=dd,data:=.cls cd,slots:=(List.toArray [k0,k1,k2,k3,some (.builtin "ValueError.__new__"),k5])}
structure cG(K:Frag)(C:Addr)(cd:ClassData):Prop where
 ob:∃ dd k0 k1 k2 k3 k5,K.lookup C=some (Fi dd cd k0 k1 k2 k3 k5)
 del:cd.hasDel=false
 line:∃ r,cd.mro=.ref C::r
 val:cd.mro.contains (.type "ValueError")=true
 bas:cd.mro.contains (.type "BaseException")=true
 obj:cd.mro.contains (.type "object")=true
 atr:cd.mro.contains (.type "AttributeError")=false
 nam:cd.mro.contains (.type "NameError")=false
noncomputable def ig(K:Frag)(C:Addr):Bool:=match K.lookup C with
 | some ⟨.type "type",_,.cls cd,sl⟩=>(match cd.mro,sl.toList with
  | .ref D::_,[_,_,_,_,some (.builtin n),_]=>D == C&&n == "ValueError.__new__" && !cd.hasDel&&cd.mro.contains (.type "ValueError")&&cd.mro.contains (.type "BaseException") &&
    cd.mro.contains (.type "object")&&!cd.mro.contains (.type "AttributeError")&&!cd.mro.contains (.type "NameError")
  | _,_=>false)
 | _=>false
theorem xv{K:Frag}{C:Addr}(e:ig K C=true):∃ cd,clsIn K C=some cd∧cG K C cd:=by
 unfold ig at e;split at e
 ·rename_i dd cd sl ho
  split at e
  ·rename_i D r k0 k1 k2 k3 n k5 hm hs
   simp only[OS,beq_iff_eq,Bool.not_eq_true']at e;obtain⟨⟨⟨⟨⟨⟨⟨rfl,rfl⟩,e1⟩,e2⟩,e3⟩,e4⟩,e5⟩,e6⟩:=e;obtain⟨sl⟩:=sl;simp only at hs;subst hs;exact#[cd,by unfold clsIn;rw[ho],#[dd,k0,k1,k2,k3,k5,ho],e1,#[r,hm],e2,e3,e4,e5,e6]
  ·cases e
 ·cases e
section
variable{K:Frag}{C:Addr}{cd:ClassData}{M:Model}{h:Heap}
theorem cG.cls(x:cG K C cd):clsIn K C=some cd:=by
 obtain⟨dd,k0,k1,k2,k3,k5,e⟩:=x.ob;unfold clsIn;rw[e];rfl
theorem cG.pY(x:cG K C cd):cd.mro.isEmpty=false:=by
 obtain⟨r,e⟩:=x.line;rw[e];rfl
theorem cG.sub(x:cG K C cd)(X:K.In h)(v:Value):Looks M h (isSubtype (.ref C) v) (cd.mro.contains v) :=
 looks_mroIn X (by unfold mroIn;rw[x.cls,Option.bind_some,if_neg (by rw[x.pY];decide)])
theorem cG.mro(x:cG K C cd)(X:K.In h):Looks M h (mroOf (.ref C)) cd.mro:=(looks_clsIn X x.cls).andThen .now
theorem cG.typ(x:cG K C cd)(X:K.In h):Looks M h (typeOf (.ref C)) (.type "type"):=by
 obtain⟨dd,k0,k1,k2,k3,k5,e⟩:=x.ob;exact(Looks.ld (X _ _ e)).andThen .now
theorem cG.Kz(x:cG K C cd)(X:K.In h):Looks M h (isType (.ref C)) true:=by
 obtain⟨dd,k0,k1,k2,k3,k5,e⟩:=x.ob;intro A Q E s k q;unfold isType loadHead;exact wpAny_bind (wpAny_loadPart (k _ _ (X _ _ e)) (wpAny_pure q))
theorem cG.madeBy(x:cG K C cd)(X:K.In h):Looks M h (Bind.madeBy (.ref C)) (some "ValueError.__new__"):=by
 obtain⟨dd,k0,k1,k2,k3,k5,e⟩:=x.ob;obtain⟨r,hr⟩:=x.line;intro A Q E s k q;unfold Bind.madeBy;refine wpAny_bind (x.mro X A _ E s k ?_);rw[hr,PR];refine wpAny_bind (wpAny_bind (wpAny_bind (wpAny_bind (wpAny_loadPart (k _ _ (X _ _ e)) (wpAny_pure ?_)))));exact wpAny_pure (wpAny_pure (wpAny_pure q))
theorem cG.static(x:cG K C cd)(X:K.In h):Looks M h (Bind.staticBase (.ref C)) (.ref C):=by
 obtain⟨r,hr⟩:=x.line;intro A Q E s k q;unfold Bind.staticBase;refine wpAny_bind (x.mro X A _ E s k ?_);rw[hr,PR];exact wpAny_bind (wpAny_bind (wpAny_bind (x.madeBy X A _ E s k (wpAny_pure (wpAny_pure (wpAny_pure q))))))
theorem Df:Manifest.canonical "ValueError.__new__" = Manifest.canonical "BaseException.__new__" := PySem.F.excBase_ValueError.canon
theorem cG.here(x:cG K C cd)(X:K.In h):Looks M h (Bind.madeHere "BaseException.__new__" (.ref C)) () :=
 (x.static X).andThen ((x.madeBy X).andThen (Looks.of_pure (by simp only[OL,Df,bne_self_eq_false,OG,if_false])))
end
noncomputable def Back(x:Addr)(R:Result→Shared→Prop)(r:Result)(s':Shared):Prop:=match r with
 | .ok (.ret v)=>v=.none∧R (.ok (.ret (.ref x))) s'
 | .ok _=>False
 | .error e=>R (.error e) s'
noncomputable abbrev wQ(C t:Addr):Obj:=bz (.ref C) none (List.toArray [.ref t,.none,.none,.none,.bool false,.none]) #[]
noncomputable abbrev js(vs:List Value):Obj:={cls:=.type "tuple",data:=.seq vs.toArray}
noncomputable abbrev gm(h:Heap)(C:Addr)(vs:List Value):Heap:=(h.push (js vs)).push (wQ C h.objs.size)
section
variable{prog:Program}{w:World}{A:Around}{R:Result→Shared→Prop}{h:Heap}{g:Array GenState}{d:Drawn}{t:Nat}{os:OsState}{K:Frag}{C:Addr}{cd:ClassData}{vs:List Value}
theorem Ak(x:cG K C cd)(X:K.In h)(hv:vs.length≤sizeLine)(k:R (.ok (.ret (.ref (h.objs.size+1)))) #[gm h C vs,g,d,t,os]) :
  codeAny (model prog w) A (.call (.builtin "ValueError.__new__") #[.ref C::vs,[]]) R #[h,g,d,t,os]:=by
 have F:=PySem.F.excBase_ValueError;have st:=x.static (M:=model prog w) X;have ty:=x.Kz (M:=model prog w) X;have mb:=x.madeBy (M:=model prog w) X;have hh:=x.here (M:=model prog w) X;have s1:=x.sub (M:=model prog w) X (.type "ValueError");rw[x.val]at s1;have s2:=x.sub (M:=model prog w) X (.type "AttributeError");rw[x.atr]at s2;have s3:=x.sub (M:=model prog w) X (.type "NameError");rw[x.nam]at s3;refine codeAny_call_builtin_code (Code.quiet_builtin _ F.quiet) ?_;have star:=F.noStar;simp only[checkBuiltinCall,F.newKind,F.newSplit,F.newRow]
 repeat (first|simp only[bne_self_eq_false,OG,if_false,Bool.not_true]|lk)
 refine codeAny_builtinAt F.entry ?_;unfold Builtin.«BaseException.__new__»;refine wpAt_bind ?_;show wpAt _ _ _ (stack >>= _) _ _ _;refine wpAt_bind (wpAt_stack λp below=>wpAt_of_wpAny ?_);have ND:=F.ends;wp_walk
 refine wpAt_of_wpAny ?_;rw[F.owner]
 repeat (first|simp only[bne_self_eq_false,OG,if_false,Bool.not_true]|lk)
 rw[if_neg (by rw[NU];omega)];obtain⟨dd,k0,k1,k2,k3,k5,ho⟩:=x.ob
 repeat lk
 refine nd_load (NL _ (NL _ (X _ _ ho))) (wpAny_pure (wpAny_pure ?_));rw[x.del,if_neg NQ];refine wpAny_pure (wpAny_pure ?_);show R _ _;rw[OI];exact k
theorem Al{f:Addr}(x:cG K C cd)(X:K.In h)(hi:findIn K (.ref C) "__init__" = some (some (.ref f)))(hf:typeIn K (.ref f)=some (.type "function"))(hv:vs.length≤sizeLine)
  (k:codeAny (model prog w) (A.under (.builtin "type.__call__" #[.ref C::vs,[]])) (.call (.ref f) #[.ref (h.objs.size+1)::vs,[]]) (Back (h.objs.size+1) R) #[gm h C vs,g,d,t,os]) :
  codeAny (model prog w) A (.call (.ref C) #[vs,[]]) R #[h,g,d,t,os]:=by
 obtain⟨dd,k0,k1,k2,k3,k5,ho⟩:=x.ob;have hC:=X _ _ ho;have ht:=x.typ (M:=model prog w) X;refine codeAny_of_tree ?_;show wpAny _ _ (callAny (.ref C) _) _ _ _;refine nd_load hC ?_;show wpAny _ _ (callAny.viaDunder (.ref C) _) _ _ _;unfold callAny.viaDunder;have sp:Looks (model prog w) h (specialOf (.ref C) "__call__") (some (.builtin "type.__call__")):=ht.andThen (Looks.of_pure tc_lookup);refine wpAny_bind (sp.at ?_);dsimp only;rw[tc_bind];refine wpAny_bind (wpAny_pure (wpAny_bind (wpAny_pure ?_)));refine wpAny_pure (a:=Fin.again (.call (.builtin "type.__call__") #[.ref C::vs,[]])) (And.intro rfl ?_);refine codeAny_call_builtin_at (Code.quiet_builtin _ (by decide +kernel)) entry_typeCall (check_slot tc_kind tc_split (ht.andThen (Looks.of_pure tc_sub)) (tc_args _ _ _) ?_);unfold Builtin.«type.__call__»;have hm:=x.mro (M:=model prog w) X;have em:=x.pY;have mb:=x.madeBy (M:=model prog w) X
 repeat (first|simp only[em,OG,if_false]|with_reducible refine wpAny_call ?_|lk)
 refine Ak x X hv ?_;have kp:∀ b o,h.get? b=some o→(gm h C vs).get? b=some o:=λb o e=>NL _ (NL _ e);have X1:K.In (gm h C vs):=X.keeps kp;have hx:(gm h C vs).get? (h.objs.size+1)=some (wQ C h.objs.size):=by heap_get
 have t1:Looks (model prog w) (gm h C vs) (typeOf (.ref (h.objs.size+1))) (.ref C):=(Looks.ld hx).andThen .now;have s1:=x.sub (M:=model prog w) X1 (.ref C);obtain⟨r,hr⟩:=x.line;rw[show cd.mro.contains (.ref C)=true by rw[hr];simp]at s1;have i1:=looks_findIn (M:=model prog w) X1 hi;have b1:=bind_fn (M:=model prog w) X1 (.ref (h.objs.size+1)) hf;unfold isInstance callSpecial? specialOf
 repeat (first|with_reducible refine wpAny_call ?_|lk)
 refine codeAny_mono k λr s' z=>?_;rcases r with e|(v|_|_|_)<;>first|exact z|exact z.elim|skip;obtain⟨rfl,z⟩:=z;exact wpAny_pure (wpAny_pure z)
end
section
variable{prog:Program}{w:World}{A:Around}{E:Value→Shared→Prop}{h:Heap}{g:Array GenState}{d:Drawn}{t:Nat}{os:OsState}{K:Frag}{C e t0:Addr}{cd:ClassData}{vs:List Value}{od:Option Addr}{fs:Array Value}{sl:Array (Option Value)}
theorem pZ{M:Model}(he:h.get? e=some (bz (.ref C) od fs sl)):Looks M h (typeOf (.ref e)) (.ref C):=(Looks.ld he).andThen .now
theorem t8{Q:Value→Shared→Prop}(x:cG K C cd)(X:K.In h)(he:h.get? e=some (bz (.ref C) od fs sl))(h0:fs[0]?=some (.ref t0))(hv:vs.length≤sizeLine)
  (k:Q .none #[(h.push (js vs)).update e (Obj.mapFields (·.setIfInBounds 0 (.ref h.objs.size))),g,d,t,os]) :
  wpAny (model prog w) A (call (.builtin "ValueError.__init__") (.ref e::vs)) Q E #[h,g,d,t,os]:=by
 have F:=PySem.F.excBase_ValueError;have ty:=pZ (M:=model prog w) he;have s1:=x.sub (M:=model prog w) X (.type "ValueError");rw[x.val]at s1;obtain⟨dd,k0,k1,k2,k3,k5,ho⟩:=x.ob;have hC:h.get? C=some #[.type "type",dd,.cls cd,(List.toArray [k0,k1,k2,k3,some (.builtin "ValueError.__new__"),k5])]:=X _ _ ho;have star:=F.noStar;refine wpAny_call (codeAny_call_builtin F.init.plain F.initEntry ?_);simp only[checkBuiltinCall,F.initKind,F.initSplit,F.initRow];unfold isInstance Bind.checkArgs;refine wpAny_bind (wpAny_bind (ty.at (s1.at ?_)));simp only[OG,if_false,Bool.not_true];refine wpAny_bind (m:=Bind.printed "*" true _ _) ?_;unfold Bind.printed Bind.receiverType typeNameWhole;rw[if_neg (by decide)];dsimp only;rw[if_neg (by decide)];refine wpAny_bind (ty.at ?_);refine wpAny_bind (wpAny_bind ((looks_clsIn X x.cls).at (wpAny_pure (wpAny_pure ?_))));refine wpAny_bind (m:=if("ValueError" != "*")=true then pure "ValueError" else _) ?_;rw[if_pos star];refine wpAny_pure (wpAny_onRaise ?_);show wpAny _ _ (Bind.check _ _ _ _ []) _ _ _;rw[PyProof.Rows.check_varPos];refine wpAny_pure ?_;unfold Builtin.«BaseException.__init__»;dsimp only;rw[if_neg (by simp)];unfold newTuple Builtin.BaseException.bexcPut;have hsz:0<fs.size:=(Ou.mp h0).1;have e1:=NL (h:=h) (js vs) he;refine wpAny_bind (wpAny_newObj_type ?_ (by show vs.toArray.size≤sizeLine;rw[NU];exact hv));refine wpAny_bind (wpAny_bind (wpAny_field (s:=#[h.push (js vs),g,d,t,os]) e1 rfl h0 ?_));refine wpAny_bind (wpAny_setField (s:=#[h.push (js vs),g,d,t,os]) e1 rfl hsz ?_);exact wpAny_letGo (wpAny_pure k)
end
section
variable{prog:Program}{w:World}{A:Around}{E:Value→Shared→Prop}{s:Shared}{K:Frag}
theorem Dg:findCls K (.type "ValueError") (.type "type") "__init__" = some (.val (.builtin "ValueError.__init__")):=by kernel_rfl
theorem Ex:findIn K (.type "type") "__getattribute__" = some (some (.builtin "type.__getattribute__")):=by kernel_rfl
theorem Bx{M:Model}{h:Heap}:Looks M h (typeOf (.type "ValueError")) (.type "type"):=Looks.of_pure (by kernel_rfl)
theorem Fj:subIn K (.type "type") (.type "type")=some true:=by kernel_rfl
theorem Fl{M:Model}{h:Heap}:Looks M h (opaqueClassAbove (.type "ValueError")) none:=Looks.of_pure (by kernel_rfl)
theorem Dh{pl:Sem Bool}{Q:Value×List Value→Shared→Prop}(X:K.In s.heap)(k:Q (.builtin "ValueError.__init__",[]) {s with toks:=s.toks+1}) :
  wpAny (model prog w) A (getMethod (.type "ValueError") "__init__" pl) Q E s:=by
 have sp:Looks (model prog w) s.heap (specialOf (.type "ValueError") "__getattribute__") (some (.builtin "type.__getattribute__")):=Bx.andThen (looks_findIn X Ex);unfold getMethod;refine wpAny_bind (sp.here ?_);dsimp only;rw[if_pos canon_tga];refine wpAny_bind (cls_open (hook:=none) X Fl Bx Ex (Looks.of_pure (by kernel_rfl)) Fj Dg ?_);refine wpAny_pure ?_;show wpAny _ _ (handedOut _) _ _ _;rw[handedOut_of (by kernel_rfl)];exact wpAny_pure (wpAny_pure k)
end
section
variable{prog:Program}{w:World}{A:Around}{E:Value→Shared→Prop}{s:Shared}{K:Frag}{env:Env}
noncomputable def yE(K:Frag)(E:Value→Shared→Prop)(v:Value)(s1:Shared):Prop :=
 ∃(ea C:Addr) (cd:ClassData) (od:Option Addr) (fs:Array Value) (sl:Array (Option Value)),v=.ref ea∧s1.heap.get? ea=some (bz (.ref C) od fs sl)∧fs[1]?=some .none∧cG K C cd∧K.In s1.heap∧E (.ref ea) s1
theorem yF{e:Expr}{pos:Pos}{Q:Flow→Shared→Prop}(hh:A.handled=none)(k:wpAny (model prog w) A (eval e env) (yE K E) E s) :
  wpAny (model prog w) A (exec (.Raise (some e) none pos) env) Q E s:=by
 show wpAny (model prog w) A (do standAt pos;raiseStmt env (some (do let v ←eval e env;standAt pos;pure v)) none) Q E s
 refine wpAny_bind (wpAny_standAt ?_);unfold raiseStmt;dsimp only;refine wpAny_bind (wpAny_bind (wpAny_mono k (λv s1 q=>wpAny_bind (wpAny_standAt (wpAny_pure ?_))) λ_ _ z=>z));obtain⟨ea,C,cd,od,fs,sl,rfl,he,h1,x,X,hE⟩:=q;obtain⟨hp,g,d,tk,os⟩:=s1;have ty:=pZ (M:=model prog w) he;have nt:Looks (model prog w) hp (isType (.ref ea)) false:=by
  intro A' Q' E' s' kk q;unfold isType loadHead;exact wpAny_bind (wpAny_loadPart (kk _ _ he) (wpAny_pure q))
 have sb:=x.sub (M:=model prog w) X (.type "BaseException");rw[x.bas]at sb;have ct:=x.typ (M:=model prog w) X;have f1:Looks (model prog w) hp (field (.ref ea) 1) .none:=looks_field he 1 h1;refine wpAny_bind (wpAny_pure ?_);dsimp only;refine wpAny_bind (wpAny_holding ?_);unfold excFromValue isExcClass isInstance
 repeat (first|simp only[OG,if_false,if_true]|lk)
 show wpAny _ _ handled _ _ _;refine wpAny_handled ?_;rw[hh];exact wpAny_throw hE
theorem t9{ea C D:Addr}{cd cd':ClassData}{od:Option Addr}{fs:Array Value}{sl:Array (Option Value)}{h:Heap}{g:Array GenState}{d:Drawn}{t:Nat}{os:OsState}{Q:Bool→Shared→Prop}{M:Model}(x:cG K C cd)(y:cG K D cd')(X:K.In h)
  (he:h.get? ea=some (bz (.ref C) od fs sl)) (q:Q (cd.mro.contains (.ref D)) #[h,g,d,t,os]):wpAny M A (excMatches (.ref ea) (.ref D)) Q E #[h,g,d,t,os]:=by
 have ty:=pZ (M:=M) he;have td:=y.typ (M:=M) X;have ti:=y.Kz (M:=M) X;have tn:Looks M h (isSubtype (.type "type") (.type "tuple")) false:=Looks.of_pure tc_notTuple;have yb:=y.sub (M:=M) X (.type "BaseException");rw[y.bas]at yb;have xs:=x.sub (M:=M) X (.ref D);unfold excMatches isInstance isExcClass
 repeat (first|simp only[OG,if_false,if_true,Bool.not_true]|lk)
 cases hb:cd.mro.contains (.ref D) with
 | true =>
  rw[hb]at q;simp only[if_true]
  repeat lk
  exact q
 | false =>
  rw[hb]at q;simp only[OG,if_false]
  repeat lk
  exact q
theorem yG{ea C:Addr}{fs:Array Value}{sl:Array (Option Value)}{h:Heap}(he:h.get? ea=some (bz (.ref C) none fs sl)):InstAt h ea (bz (.ref C) none fs sl) C none:=#[he,rfl,rfl,True.intro]
theorem Di:(Manifest.canonical "BaseException.__getattribute__" != "object.__getattribute__")=false:=by decide +kernel
theorem Am{ea C f:Addr}{ox:Obj}{od:Option Obj}{name:Str}{pl:Sem Bool}{Q:Value×List Value→Shared→Prop}(X:K.In s.heap)(I:InstAt s.heap ea ox C od)
  (hg:findIn K (.ref C) "__getattribute__" = some (some (.builtin "BaseException.__getattribute__"))) (hk:findIn K (.ref C) "__getattr__" = some none)
  (hf:findIn K (.ref C) name=some (some (.ref f))) (ht:typeIn K (.ref f)=some (.type "function")) (hs:shadowIn od name=some false) (k:Q (.ref f,[.ref ea]) s) :
  wpAny (model prog w) A (getMethod (.ref ea) name pl) Q E s:=by
 unfold getMethod specialOf;refine wpAny_bind (wpAny_bind (I.type.here ((looks_findIn X hg).here ?_)));dsimp only;rw[Di,if_neg NQ];refine wpAny_bind (wpAny_bind (I.type.here ((looks_findIn X hk).here ?_)));refine wpAny_bind (wpAny_bind (I.type.here ((looks_findIn X hf).here (wpAny_bind ((looks_typeIn X ht).here ?_)))));rw[if_neg (by decide +kernel)];refine wpAny_bind (wpAny_loadPart I.at_ ?_);have hd:=I.dict;cases e:ox.dict with
 | none=>exact wpAny_bind (wpAny_rule (wpAny_pure k))
 | some dx =>
  cases od with
  | none=>rw[e]at hd;exact hd.elim
  | some o =>
   rw[e]at hd;obtain⟨r,a,b⟩:=Ol.mp hs;refine wpAny_bind (wpAny_bind (wpAny_loadPart hd ?_));rw[nsLook_of a];refine wpAny_pure ?_;rw[b];exact wpAny_bind (wpAny_rule (wpAny_pure k))
end
structure II(K:Frag)(C:Addr):Prop where
 ga:findIn K (.ref C) "__getattribute__" = some (some (.builtin "BaseException.__getattribute__"))
 gt:findIn K (.ref C) "__getattr__" = some none
section
variable{prog:Program}{w:World}{A:Around}{E:Value→Shared→Prop}{h:Heap}{g:Array GenState}{d:Drawn}{t:Nat}{os:OsState}{K:Frag}{C ea:Addr}{cd:ClassData}{ox:Obj}{od:Option Obj}{name:Str}
end
section
variable{prog:Program}{w:World}{A:Around}{E:Value→Shared→Prop}{h:Heap}{g:Array GenState}{d:Drawn}{t:Nat}{os:OsState}{K:Frag}{C CH ea:Addr}{cd:ClassData}{fs:Array Value}{sl:Array (Option Value)}{name:Str}{v:Value}
end
end LX
end
section
namespace LX
open PySem
structure Kept(fr xs:List Addr)(h k:Heap):Prop where
 plain:∀ b o,h.get? b=some o→b∉fr→b∉xs→k.get? b=some o
 frame:∀ b o,h.get? b=some o→b∈fr→b∉xs→∃ sl,k.get? b=some {o with slots:=sl}
theorem Kept.trans{fr xs ys:List Addr}{h k m:Heap}(x:Kept fr xs h k)(y:Kept fr ys k m):Kept fr (xs++ys) h m where
 plain:=λb o e hb hx=>y.plain b o (x.plain b o e hb λz=>hx (Ot _ z)) hb λz=>hx (NS _ z)
 frame:=λb o e hb hx=>by
  obtain⟨sl,e1⟩:=x.frame b o e hb λz=>hx (Ot _ z);obtain⟨sm,e2⟩:=y.frame b _ e1 hb λz=>hx (NS _ z);exact#[sm,e2]
theorem Kept.weak{fr xs ys:List Addr}{h k:Heap}(x:Kept fr xs h k)(s:∀ b o,h.get? b=some o→b∈xs→b∈ys):Kept fr ys h k :=
 #[λb o e hb hy=>x.plain b o e hb λz=>hy (s b o e z),λb o e hb hy=>x.frame b o e hb λz=>hy (s b o e z)]
noncomputable abbrev bO(l:List Env):List Addr:=l.filterMap (·.frame)
section
variable{M:Model}{A:Around}{E:Value→Shared→Prop}{s:Shared}{base:Heap}{env:Env}{outer:List Env}{L e:Addr}{c:Value}{od:Option Addr}{fs:Array Value}{sl:Array (Option Value)}
theorem uN{l:List Env}(F:s.heap.FunFrames base l)(he:s.heap.get? e=some (bz c od fs sl)):e∉bO l:=λz=>by
 obtain⟨_,o,ho,hn⟩:=F.mem z;rw[he]at ho;cases ho;exact hn fs rfl
theorem pe{h:Heap}{a:Addr}{i:Nat}{x:Value}(ha:h.get? a=some (bz c od fs sl)) :
  (h.update a (Obj.mapFields (·.setIfInBounds i x))).get? a=some (bz c od (fs.setIfInBounds i x) sl):=Pz _ ha rfl
theorem ph{head:Value}{had:Bool}{Q:Unit→Shared→Prop}(hA:A.frames=some (env::outer))(F:s.heap.FunFrames base (env::outer))(hL:env.frame=some L)
  (he:s.heap.get? e=some (bz c od fs sl)) (h1:1<fs.size)
  (k:∀ m T oc ts,s.heap.objs.size≤T→Kept (bO (env::outer)) [e] s.heap m→m.get? e=some (bz c od (fs.setIfInBounds 1 (.ref T)) sl)→m.get? T=some (bz oc none ts #[])→ts[3]?=some (rawInt L)→Q () {s with heap:=m}) :
  wpAny M A (do let a ←frameOf env;let pl ←entryPlaceOf L had;let b ←EntryCells.newEntry head a .none (rawInt L) .none pl;setField (.ref e) 1 b) Q E s:=by
 have ne:=uN F he;refine wpAny_bind (wpAny_frameOf_fun hA F hL λg hg=>?_);obtain⟨g0,g1,g2⟩:=hg;refine wpAny_bind (wpAny_entryPlaceOf λpl hp=>?_);unfold EntryCells.newEntry newFields;refine wpAny_bind (wpAny_newObj_type ?_ (hp.sizeOk5 _ _ _ _ _));have e1:g.get? e=some (bz c od fs sl):=(g1 e ne).trans he;have e2:=NL (h:=g) {cls:=.type "traceback",dict:=none,data:=.fields ([head,.ref L,.none,rawInt L,.none]++(if pl.isEmpty then List.replicate 6 Value.none else pl)).toArray} e1;refine wpAny_setField e2 rfl h1 ?_;have Te:g.objs.size≠e:=OX (NT e1);refine k _ g.objs.size (.type "traceback") ([head,.ref L,.none,rawInt L,.none]++(if pl.isEmpty then List.replicate 6 Value.none else pl)).toArray (Nat.le_of_eq g0.symm) #[λb o q hb hx=>?_,λb o q hb hx=>?_] (pe e2) ?_ ?_
 ·have be:b≠e:=λz=>hx (by rw[z];exact NN.mpr rfl)
  rw[OE _ _ (Oj be)];exact NL _ ((g1 b hb).trans q)
 ·have be:b≠e:=λz=>hx (by rw[z];exact NN.mpr rfl)
  obtain⟨sm,q2⟩:=g2 b o q;refine#[sm,?_];rw[OE _ _ (Oj be)];exact NL _ q2
 ·rw[OE _ _ (Oj Te)]
  exact Oc g rfl
 ·first|(simp;done)|(rcases hp with rfl|⟨_,_,_,_,_,_,_,rfl⟩<;>simp)
inductive nj(h:Heap)(e:Addr)(fs:Array Value):Option Addr→Prop where
 | none (h1:fs[1]?=some .none):nj h e fs none
 | some {T:Addr} {oc:Value} {ts:Array Value} {d:Option Addr} {sl:Array (Option Value)} (h1:fs[1]?=some (.ref T)) (ne:T≠e) (hT:h.get? T=some (bz oc d ts sl)) (h3:ts[3]?=some .none):nj h e fs (some T)
theorem nj.size{h:Heap}{fs:Array Value}{T:Option Addr}(t:nj h e fs T):1<fs.size:=by
 cases t with
 | none h1=>exact(Ou.mp h1).1
 | some h1=>exact(Ou.mp h1).1
theorem xw{T0:Option Addr}{Q:Unit→Shared→Prop}(hA:A.frames=some (env::outer))(F:s.heap.FunFrames base (env::outer))(hL:env.frame=some L)(he:s.heap.get? e=some (bz c od fs sl))(t:nj s.heap e fs T0)
  (k:∀ m T oc ts,s.heap.objs.size≤T→Kept (bO (env::outer)) (e::T0.toList) s.heap m→m.get? e=some (bz c od (fs.setIfInBounds 1 (.ref T)) sl)→m.get? T=some (bz oc none ts #[])→ts[3]?=some (rawInt L)→Q () {s with heap:=m}) :
  wpAny M A (noteFrame (.ref e) env) Q E s:=by
 unfold noteFrame;simp only[hL];have h1s:=t.size;cases t with
 | none h1 =>
  refine wpAny_bind (wpAny_field he rfl h1 ?_);rw[if_neg (by decide)];exact ph hA F hL he h1s k
 | @some T oc ts d sm h1 ne hT h3 =>
  refine wpAny_bind (wpAny_field he rfl h1 ?_);rw[if_pos (show(Value.ref T != Value.none)=true by simp)];refine wpAny_bind (wpAny_field hT rfl h3 ?_);rw[if_neg (show ¬((Value.none == rawInt L)=true) by simp[rawInt])];have h3s:3<ts.size:=(Ou.mp h3).1;refine wpAny_bind (wpAny_setField hT rfl h3s ?_);have oth:∀ b,b≠T→(s.heap.update T (Obj.mapFields (·.setIfInBounds 3 Value.none))).get? b=s.heap.get? b:=λb hb=>OE _ _ (Oj hb);have nT:=uN F hT;have F1:(s.heap.update T (Obj.mapFields (·.setIfInBounds 3 Value.none))).FunFrames base (env::outer):=F.of_keeps λb o hb hn=>#[o,(oth b λz=>by rw[z,hT]at hb;cases hb;exact hn ts rfl).trans hb,rfl];refine ph (s:={s with heap:=s.heap.update T (Obj.mapFields (·.setIfInBounds 3 Value.none))}) hA F1 hL ((oth e (Oj ne)).trans he) h1s λm T' oc' ts' z1 z2 z3 z4 z5=>k m T' oc' ts' ?_ ?_ z3 z4 z5
  ·have zz:(s.heap.update T (Obj.mapFields (·.setIfInBounds 3 Value.none))).objs.size=s.heap.objs.size:=(PU (h:=s.heap) (a:=T) (f:=Obj.mapFields (·.setIfInBounds 3 Value.none))).1
   rw[←zz];exact z1
  ·have kk:Kept (bO (env::outer)) [T] s.heap (s.heap.update T (Obj.mapFields (·.setIfInBounds 3 Value.none))) :=
    #[λb o q _ hx=>(oth b λz=>hx (by rw[z];exact NN.mpr rfl)).trans q,λb o q _ hx=>#[o.slots,(oth b λz=>hx (by rw[z];exact NN.mpr rfl)).trans q]]
   refine(kk.trans z2).weak λb o _ q=>?_;simp only[Om,NN]at q;simp only[Option.toList_some,NY,OM,or_false];exact q.symm
theorem jT{T:Addr}{oc:Value}{ts:Array Value}{d:Option Addr}{sm:Array (Option Value)}{Q:Unit→Shared→Prop}(he:s.heap.get? e=some (bz c od fs sl))(h1:fs[1]?=some (.ref T))(ne:T≠e)
  (hT:s.heap.get? T=some (bz oc d ts sm)) (h3:3<ts.size)
  (k:∀ m,(∀ b o,b≠T→s.heap.get? b=some o→m.get? b=some o)→nj m e fs (some T)→m.get? e=some (bz c od fs sl)→Q () {s with heap:=m}):wpAny M A (setFlight (.ref e) none) Q E s:=by
 unfold setFlight;refine wpAny_bind (wpAny_field he rfl h1 ?_);rw[if_pos (show(Value.ref T != Value.none)=true by simp)];have oth:∀ b o,b≠T→s.heap.get? b=some o→(s.heap.update T (Obj.mapFields (·.setIfInBounds 3 Value.none))).get? b=some o:=λb o hb q=>(OE _ _ (Oj hb)).trans q;exact wpAny_setField hT rfl h3 (k _ oth (.some h1 ne (pe hT) (by simp[h3])) (oth e _ (Oj ne) he))
theorem By{T0:Option Addr}{Q:Unit→Shared→Prop}(hA:A.frames=some (env::outer))(F:s.heap.FunFrames base (env::outer))(hL:env.frame=some L)(he:s.heap.get? e=some (bz c od fs sl))(t:nj s.heap e fs T0)
  (k:∀ m T fs',s.heap.objs.size≤T→Kept (bO (env::outer)) (e::T0.toList) s.heap m→m.get? e=some (bz c od fs' sl)→fs'[0]?=fs[0]?→nj m e fs' (some T)→Q () {s with heap:=m}) :
  wpAny M A (leaving env (.ref e)) Q E s:=by
 unfold leaving;refine wpAny_bind (xw hA F hL he t λm T oc ts z1 z2 z3 z4 z5=>?_);have Te:T≠e:=OX (Od (NT he) z1);have f1:(fs.setIfInBounds 1 (Value.ref T))[1]?=some (.ref T):=by
  have:=t.size
  simp[this]
 refine jT (s:={s with heap:=m}) z3 f1 Te z4 (Ou.mp z5).1 λm' q1 q2 q3=>k m' T _ z1 #[λb o q hb hx=>?_,λb o q hb hx=>?_] q3 (by simp) q2
 ·exact q1 b o (Oe (Od (NT q) z1)) (z2.plain b o q hb hx)
 ·obtain⟨sm,r⟩:=z2.frame b o q hb hx
  exact#[sm,q1 b _ (Oe (Od (NT q) z1)) r]
end
end LX
end
section
namespace L2
open PySem PySem.Spec PyProof.Rows LX
noncomputable def ExP(fresh:Bool)(C e:Addr)(od:Option Addr)(h:Heap):Prop:=∃ fs sl t0,h.get? e=some (bz (.ref C) od fs sl)∧fs[0]?=some (.ref t0)∧(fresh=true→fs[1]?=some .none)
noncomputable def exo(fresh:Bool)(C e:Addr)(od:Option Addr):HO:=.ext (ExP fresh C e od)
section
variable{P:Program}{w:World}{H:Hp}{h:Heap}{b:Bool}{C e:Addr}{od:Option Addr}
theorem wR(x:ExP b C e od h):bT P w H h e (exo b C e od):=by
 refine#[x,?_,λh1 h2 p k=>?_]
 ·obtain⟨fs,sl,t0,z,_⟩:=x
  exact#[_,z]
 ·obtain⟨fs,sl,t0,z,r⟩:=p
  exact#[fs,sl,t0,k _ z,r]
theorem pj(ok:HOk P w H h)(z:H e=some (exo b C e od)):ExP b C e od h:=(show bT P w H h e (exo b C e od) from ok e _ z).1
end
noncomputable def del(H:Hp)(a:Addr):Hp:=λb=>if b=a then none else H b
theorem uO{H:Hp}{a:Addr}:del H a a=none:=by unfold del;rw[if_pos rfl]
theorem jt{H:Hp}{a b:Addr}(h:b≠a):del H a b=H b:=by unfold del;rw[if_neg h]
theorem uP{H:Hp}{a b:Addr}{o:HO}(h:del H a b=some o):H b=some o∧b≠a:=by
 unfold del at h;by_cases q:b=a
 ·rw[if_pos q]at h;cases h
 ·rw[if_neg q]at h;exact#[h,q]
section
variable{P:Program}{w:World}{H H':Hp}{h h':Heap}{a:Addr}
theorem HOk.keeps(ok:HOk P w H h)(k:∀ b u o,H b=some u→h.get? b=some o→h'.get? b=some o):HOk P w H h':=λb u q =>
 (ok b u q).oJ (λc v hc r=>by
  rcases hc with rfl|hc
  ·exact k c u v q r
  ·exact k c _ v hc r) (λ_ z=>z) λ_ _ z=>z
theorem HOk.del(ok:HOk P w H h)(ha:∀ y,H a≠some (.own y))(hb:∀ xs,H a≠some (.tup xs)):HOk P w (del H a) h:=λb u q=>by
 obtain⟨q1,q2⟩:=uP q;refine(ok b u q1).oJ (λ_ _ _ r=>r) (λc z=>?_) λc xs z=>?_
 ·rw[jt λe=>ha b (by rw[←e];exact z)];exact z
 ·rw[jt λe=>hb xs (by rw[←e];exact z)];exact z
theorem HOk.add(ok:HOk P w H h){o:HO}(ha:H a=none)(new:bT P w (upd H a o) h a o):HOk P w (upd H a o) h:=λb u q=>by
 by_cases e:b=a
 ·subst e
  rw[ae]at q;cases q;exact new
 ·rw[ab e]at q
  refine(ok b u q).oJ (λ_ _ _ r=>r) (λc z=>?_) λc xs z=>?_
  ·rw[ab λe=>by rw[e,ha]at z;cases z];exact z
  ·rw[ab λe=>by rw[e,ha]at z;cases z];exact z
end
theorem iJ{h k base:Heap}:∀ {l:List Env},h.FunFrames base l→(∀ b∈frs l,∀ o,h.get? b=some o→∃ sl,k.get? b=some {o with slots:=sl})→k.FunFrames base l
 | [],_,_=>True.intro
 | env::r,⟨h1,⟨L,o,e1,e2,e3,e4⟩,h2⟩,q=>by
  have hm:L∈frs (env::r):=OJ.mpr #[env,NV,e1];obtain⟨sl,z⟩:=q L hm o e3;refine#[h1,#[L,_,e1,e2,z,e4],iJ h2 λb hb o' z'=>q b ?_ o' z'];obtain⟨x,hx,hy⟩:=OJ.mp hb;exact OJ.mpr #[x,Oa _ hx,hy]
structure Lies(P:Program)(w:World)(outer:List Env)(H H':Hp)(s:Shared)(ea C T:Addr)(od:Option Addr)(fs:Array Value)(sl:Array (Option Value))(s':Shared):Prop where
 os:s'.os=s.os
 bare:AllBare s'.gens
 un:Un (frs outer) [] H H' s.heap s'.heap
 hok:HOk P w H' s'.heap
 Ey:s.heap.get? ea=none
 Mu:s.heap.get? T=none
 zS:H' ea=none
 Jp:H' T=none
 at_:s'.heap.get? ea=some (bz (.ref C) od fs sl)
 args:∃ t0,fs[0]?=some (.ref t0)
 trail:nj s'.heap ea fs (some T)
noncomputable def CXE(P:Program)(w:World):CXT:=λouter H s E e s'=>∃ ea C T od fs sl H',e=.ref ea∧Lies P w outer H H' s ea C T od fs sl s'∧E (.ref C) od H'
section
variable{X:Cx}{pins:List (Addr×Obj)}{σ:St}{H H':Hp}{s s':Shared}{ea C T:Addr}{od:Option Addr}{fs:Array Value}{sl:Array (Option Value)}
theorem Lies.frames(I:Inv X pins σ H s)(l:Lies X.prog X.w X.stack H H' s ea C T od fs sl s'):s'.heap.FunFrames X.base X.stack :=
 iJ I.stack λb hb o z=>l.un.any z (I.je b hb) (by simp)
theorem Lies.on{m:Heap}{t':Nat}(I:Inv X pins σ H s)(l:Lies X.prog X.w X.stack H H' s ea C T od fs sl s')(k:Kept (bO X.stack) [ea,T] s'.heap m) :
  Un (frs X.stack) [] H H' s.heap m∧HOk X.prog X.w H' m:=by
 have fr:∀ b,b∈frs X.stack→H' b=none:=λb hb=>by
  obtain⟨_,o,z,_⟩:=I.stack.mem hb;exact l.un.free b o z (I.je b hb) (by simp)
 have ne:∀ b o,s.heap.get? b=some o→b∉[ea,T]:=λb o z q=>by
  rcases NY.mp q with e|q
  ·rw[e,l.Ey]at z;cases z
  ·rw[NN.mp q,l.Mu]at z;cases z
 refine#[#[λb o z n hb hx=>?_,λb o z n hb hx=>?_,l.un.free,λb o z hx=>?_,l.un.oK,l.un.nV,l.un.oO],?_]
 ·exact k.plain b o (l.un.keep b o z n hb hx) hb (ne b o z)
 ·obtain⟨s1,z1⟩:=l.un.slot b o z n hb hx
  obtain⟨s2,z2⟩:=k.frame b _ z1 hb (ne b o z);exact#[s2,z2]
 ·obtain⟨o1,z1⟩:=l.un.there b o z hx
  by_cases hb:b∈bO X.stack
  ·obtain⟨s2,z2⟩:=k.frame b _ z1 hb (ne b o z)
   exact#[_,z2]
  ·exact#[_,k.plain b _ z1 hb (ne b o z)]
 ·refine l.hok.keeps λb u o z q=>k.plain b o q (λhb=>?_) λhx=>?_
  ·rw[fr b hb]at z;cases z
  ·rcases NY.mp hx with e|hx
   ·rw[e,l.zS]at z;cases z
   ·rw[NN.mp hx,l.Jp]at z;cases z
end
section
variable{P:Program}{w:World}{K:W.Frag}{mg:Str→Option Value}{base:Heap}{N:List Str}{qual:Str}{scope:Scope}{f:Addr}{cdv:Value}{A:Around}{outer:List Env}{s₀:Shared}{H₀:Hp}{E₀:XK}
noncomputable abbrev cxE(P:Program)(w:World)(K:W.Frag)(mg:Str→Option Value)(base:Heap)(N:List Str)(qual:Str)(scope:Scope)(f:Addr)(cdv:Value)(A:Around)(outer:List Env)(s₀:Shared)(H₀:Hp)(E₀:XK):Cx :=
 zZ (CXE P w) P w K mg base N qual scope f cdv A outer s₀ H₀ E₀
theorem vB{pins:List (Addr×Obj)}{σ:St}{H H':Hp}{s s':Shared}{ea C T:Addr}{od:Option Addr}{fs:Array Value}{sl:Array (Option Value)}(I:Inv (cxE P w K mg base N qual scope f cdv A outer s₀ H₀ E₀) pins σ H s)
  (l:Lies P w (cxE P w K mg base N qual scope f cdv A outer s₀ H₀ E₀).stack H H' s ea C T od fs sl s') (hE:E₀ (.ref C) od H'):(cxE P w K mg base N qual scope f cdv A outer s₀ H₀ E₀).xe (.ref ea) s':=by
 refine By I.ok.frames (Lies.frames I l) rfl l.at_ l.trail λm T' fs' z1 z2 z3 z4 z5=>?_;obtain⟨un,hok⟩:=l.on (t':=s'.toks) I z2;have J:Inv (cxE P w K mg base N qual scope f cdv A outer s₀ H₀ E₀) pins σ H' {s' with heap:=m}:=I.tH l.os un hok l.bare (λb z=>absurd z (by simp));have old:∀ b o,s₀.heap.get? b=some o→∃ o',s.heap.get? b=some o':=λb o z=>I.base.there b o z (OM);have e0:s₀.heap.get? ea=none:=by
  cases q:s₀.heap.get? ea with
  | none=>rfl
  | some o =>
   obtain⟨o',z⟩:=old ea o q;rw[l.Ey]at z;cases z
 have t0:s₀.heap.get? T'=none:=by
  cases q:s₀.heap.get? T' with
  | none=>rfl
  | some o =>
   obtain⟨o1,y1⟩:=old T' o q;obtain⟨o2,y2⟩:=l.un.there T' o1 y1 (by simp);exact absurd (NT y2) (Nat.not_lt.mpr z1)
 obtain⟨a0,ha⟩:=l.args;exact#[ea,C,T',od,fs',sl,H',rfl,#[J.os,J.bare,J.base,J.hok,e0,t0,l.zS,l.hok.fresh z1,z3,#[a0,by rw[z4];exact ha],z5],hE]
theorem zU{E:XK}(hE:∀ c od H',E c od H'→E₀ c od H'):Passes (CXE P w) (cxE P w K mg base N qual scope f cdv A outer s₀ H₀ E₀) E:=λpins σ H s e s' I h=>by
 obtain⟨ea,C,T,od,fs,sl,H',rfl,l,q⟩:=h;exact vB I l (hE _ _ _ q)
theorem leave_new{pins:List (Addr×Obj)}{σ:St}{H:Hp}{s:Shared}{ea C:Addr}{od:Option Addr}(I:Inv (cxE P w K mg base N qual scope f cdv A outer s₀ H₀ E₀) pins σ H s)(h1:H ea=some (exo true C ea od))(h0:H₀ ea=none)
  (hE:E₀ (.ref C) od (del H ea)):(cxE P w K mg base N qual scope f cdv A outer s₀ H₀ E₀).xe (.ref ea) s:=by
 obtain⟨fs,sl,a0,z,ha,hf⟩:=pj I.hok h1;have frz:∀ b,b∈frs (cxE P w K mg base N qual scope f cdv A outer s₀ H₀ E₀).stack→H b=none:=I.je;have e0:s₀.heap.get? ea=none:=by
  cases q:s₀.heap.get? ea with
  | none=>rfl
  | some o =>
   have:=I.base.free ea o q h0 OM
   rw[h1]at this;cases this
 refine By I.ok.frames I.stack rfl z (.none (hf rfl)) λm T' fs' z1 z2 z3 z4 z5=>?_;have hd:HOk P w (del H ea) s.heap:=I.hok.del (λy q=>by rw[h1]at q;cases q) λxs q=>by rw[h1]at q;cases q
 have hm:HOk P w (del H ea) m:=hd.keeps λb u o q r=>by
  obtain⟨q1,q2⟩:=uP q;exact z2.plain b o r (λhb=>by rw[frz b hb]at q1;cases q1) (by simpa using q2)
 have neE:∀ b o,s₀.heap.get? b=some o→b≠ea:=λb o q r=>by rw[r,e0]at q;cases q
 have t0:s₀.heap.get? T'=none:=by
  cases q:s₀.heap.get? T' with
  | none=>rfl
  | some o =>
   obtain⟨o2,y2⟩:=I.base.there T' o q OM;exact absurd (NT y2) (Nat.not_lt.mpr z1)
 have neL:∀ b o,s₀.heap.get? b=some o→b∈bO (cxE P w K mg base N qual scope f cdv A outer s₀ H₀ E₀).stack→b∈frs outer:=λb o q hb=>by
  rcases NY.mp (I.ib b hb) with r|r
  ·exact absurd (NT q) (by rw[r];exact Nat.not_lt.mpr I.ok.above)
  ·exact r
 have sub:∀ b,b∈frs outer→b∈bO (cxE P w K mg base N qual scope f cdv A outer s₀ H₀ E₀).stack:=λb hb=>by
  obtain⟨x,hx,hy⟩:=OJ.mp hb;exact OJ.mpr #[x,Oa _ hx,hy]
 refine#[ea,C,T',od,fs',sl,del H ea,rfl,#[I.os,I.bare,#[λb o q n hb hx=>?_,λb o q n hb hx=>?_,λb o q n hx=>?_,λb o q hx=>?_,λb xs q=>?_,λb o u q=>?_,λb ps q=>?_],hm,e0,t0,uO,?_,z3,#[a0,by rw[z4];exact ha],z5],hE]
 ·exact z2.plain b o (I.base.keep b o q n hb hx) (λz=>hb (neL b o q z)) (by simpa using neE b o q)
 ·obtain⟨s1,y1⟩:=I.base.slot b o q n hb hx
  obtain⟨s2,y2⟩:=z2.frame b _ y1 (sub b hb) (by simpa using neE b o q);exact#[s2,y2]
 ·rw[jt (neE b o q)]
  exact I.base.free b o q n hx
 ·obtain⟨o1,y1⟩:=I.base.there b o q hx
  by_cases hb:b∈bO (cxE P w K mg base N qual scope f cdv A outer s₀ H₀ E₀).stack
  ·obtain⟨s2,y2⟩:=z2.frame b _ y1 hb (by simpa using neE b o q)
   exact#[_,y2]
  ·exact#[_,z2.plain b _ y1 hb (by simpa using neE b o q)]
 ·have r:=I.base.oK b xs q
  rw[jt λe=>by rw[e,h1]at r;cases r];exact r
 ·have r:=I.base.nV b o u q
  rw[jt λe=>by rw[e,h1]at r;cases r];exact r
 ·obtain⟨more,r⟩:=I.base.oO b ps q
  exact#[more,by rw[jt λe=>by rw[e,h1]at r;cases r];exact r]
 ·by_cases q:T'=ea
  ·rw[q];exact uO
  ·rw[jt q];exact I.hok.fresh z1
end
theorem Fun.okE{P:Program}{w:World}{K:W.Frag}{mg:Str→Option Value}{base:Heap}{x qual:Str}{st:Stmt}{f:Addr}{fd:FuncData}{N ps:List Str}{k:Nat}{sp:Sp}(F:Fun K x qual st f fd)(S:ao N ps (ag st))(len:∀ vs H Q E,sp vs H Q E→vs.length=ps.length)
  (gy:∀(cdv:Value) (A:Around) (outer:List Env) (s:Shared) (H:Hp) (vs:List V) (Q:VK) (E:XK),cT k (A.deeper (envOfC qual (ag st) s.heap.objs.size f cdv))→sp vs H Q E →
   ∃ t,PSs (cxE P w K mg base N qual (ag st) f cdv A outer s H E) (aA st) t∧t {nx:=λ_ H'=>Q .non H',rt:=Q} (start N vs) H):cx P w K mg base (CXE P w) (k+1) f fd ps sp:=by
 obtain⟨oc,od,kV,doc,pm,an,cdv,ct,osl,rfl,lk,hcd⟩:=F.ex;exact Ja lk hcd S len λA outer s H vs Q E hr hsp=>gy cdv A outer s H vs Q E hr hsp
noncomputable def uQ(X:Cx)(E:XK):Prop:=∀(pins:List (Addr×Obj)) (σ:St) (H:Hp) (s:Shared) (ea C:Addr) (od:Option Addr),Inv X pins σ H s→H ea=some (exo true C ea od)→X.H₀ ea=none→E (.ref C) od (del H ea)→X.xe (.ref ea) s
theorem eE{P:Program}{w:World}{K:W.Frag}{mg:Str→Option Value}{base:Heap}{N:List Str}{qual:Str}{scope:Scope}{f:Addr}{cdv:Value}{A:Around}{outer:List Env}{s₀:Shared}{H₀:Hp}{E₀:XK} :
  uQ (cxE P w K mg base N qual scope f cdv A outer s₀ H₀ E₀) E₀:=λ_ _ _ _ _ _ _ I h1 h0 q=>leave_new I h1 h0 q
noncomputable def Fm(H₀:Hp)(K:W.Frag)(E:XK)(te:TE):TS:=λ_ σ H=>te σ H λv H1=>∃ ea C od,v=.ref ea∧H1 ea=some (exo true C ea od)∧(∃ cd,cG K C cd)∧H₀ ea=none∧E (.ref C) od (del H1 ea)
section
variable{X:Cx}
theorem b6{e:Expr}{te:TE}{pos:Pos}{E:XK}(hc:X.calm=true)(hx:uQ X E)(he:PE X e te):PS X (.Raise (some e) none pos) (Fm X.H₀ X.K E te):=by
 intro pins s σ H D I h;refine yF (K:=X.K) (I.ok.hd hc) (thn (he pins s σ H _ I h) λu s1 ⟨v,H1,I1,r,ea,C,od,ev,h1,⟨cd,xc⟩,h0,q⟩=>?_);subst ev;obtain rfl:u=Value.ref ea:=r;obtain⟨fs,sl,a0,z,ha,hf⟩:=pj I1.hok h1;exact#[ea,C,cd,od,fs,sl,rfl,z,hf rfl,xc,I1.kIn,hx pins σ H1 s1 ea C od I1 h1 h0 q]
noncomputable def bK(CX:CXT)(X:Cx)(EK:St→XK):Prop:=∀(pins:List (Addr×Obj)) (σ:St) (H:Hp) (s:Shared) (e:Value) (s':Shared),Inv X pins σ H s→CX X.stack H s (EK σ) e s'→X.xe e s'
theorem Passes.x{CX:CXT}{E:XK}(h:Passes CX X E):bK CX X (λ_=>E):=λpins σ H s e s' I q=>h pins σ H s e s' I q
noncomputable def CD(sp:Sp)(dvs:List V)(EK:St→XK)(t:TA):TE:=λσ H Q=>t σ H λvs H1=>sp (vs++dvs) H1 Q (EK σ)
inductive Ez(C:Addr)(m:Str)(x:V)(H:Hp)(k:Prop):Prop where
 | mk (a dx:Addr) (fs:List (Str×V)):x=.ref a→H a=some (.ins C dx fs)→fs.lookup m=none→k→Ez C m x H k
noncomputable def vC(C:Addr)(m:Str)(sp:Sp)(dvs:List V)(EK:St→XK)(ta:TE)(t:TA):TE:=λσ H Q=>ta σ H λx H1=>Ez C m x H1
 (t σ H1 λvs H2=>sp (x::(vs++dvs)) H2 Q (EK σ))
noncomputable def KA(C:Addr)(sp:Sp)(EK:St→XK)(t:TA):TE:=λσ H Q=>t σ H λvs H1=>∀ ea,H1 ea=none→sp (.ref ea::vs) (upd H1 ea (exo true C ea none)) (λv H2=>v=.non∧Q (.ref ea) H2) (EK σ)
variable{CX:CXT}{k:Nat}{f C:Addr}{fd:FuncData}{ps:List Str}{sp:Sp}{dvs:List V}{ds:List Value}{EK:St→XK}{x m:Str}{p pos apos:Pos}{e o:Expr}{es:List Expr}{ta:TE}{t:TA}
theorem Dj{pins:List (Addr×Obj)}{σ:St}{H:Hp}{s:Shared}{Q:VK}{us:List Value}{vs:List V}(F:cx X.prog X.w X.K X.mg X.base CX k f fd ps sp)(hr:cT k X.A)(hb:Binds X.K fd ps ds)(hd:Vals dvs ds)(hx:bK CX X EK)
  (I:Inv X pins σ H s) (r:Vals vs us) (h:sp (vs++dvs) H Q (EK σ)):wpAny (model X.prog X.w) X.A (call (.ref f) us) (EP X pins σ Q) X.xe s:=by
 have r2:Vals (vs++dvs) (us++ds):=r.append hd;have hl:(us++ds).length=ps.length:=by rw[←r2.length];exact F.len _ _ _ _ h
 refine wpAny_call (codeAny_mono (F.run X.A X.stack s H #[us,[]] (us++ds) (vs++dvs) Q (EK σ) hr I.Eo (hb s us I.kIn hl) r2 h) λr s' hq=>?_);cases r with
 | error e=>exact hx pins σ H s e s' I hq
 | ok fl =>
  cases fl with
  | ret u=>exact I.after hq
  | _=>exact False.elim hq
theorem c8(F:cx X.prog X.w X.K X.mg X.base CX k f fd ps sp)(hr:cT k X.A)(hg:Gl X x)(hm:X.mg x=some (.ref f))(hk:PySem.W.keepIn X.K (.ref f)=true)(hb:Binds X.K fd ps ds)(hd:Vals dvs ds)(hx:bK CX X EK)
  (ha:PA X (e::es) t) (hdb:(x == ("__debug__" : Str))=false:=by decide) (he:starEach (e::es) X.env=(false,eval e X.env)::starEach es X.env:=by rfl) (hpl:(backTo pos (starEach es X.env)).any (·.1)=false:=by rfl) :
  PE X (.Call (.Name x p) (e::es) [] pos) (CD sp dvs EK t):=by
 intro pins s σ H Q I h;refine wpAny_Call_Name_kw (h9 I hg hm ?_ hdb);exact PySem.W.callWith_K (h₀:=X.base) I.ok.mod.kin hk (thn (ha pos pins s σ H _ I h) λus s1 ⟨vs,H1,I1,r,q⟩=>#[I1.kIn,Dj F hr hb hd hx I1 r q]) he hpl
theorem Dk{pl:Sem Bool}(he:PE X o ta)(c:Cls X.K C)(hm:Meth X.K C m f)(F:cx X.prog X.w X.K X.mg X.base CX k f fd ps sp)(hr:cT k X.A)(hb:Binds X.K fd ps ds)(hd:Vals dvs ds)(hx:bK CX X EK)(ha:PA X (e::es) t)
  (hst:starEach (e::es) X.env=(false,eval e X.env)::starEach es X.env:=by rfl) (hpl:(backTo pos (starEach es X.env)).any (·.1)=false:=by rfl)
  (ht:eval (.Call (.Attribute o m apos) (e::es) [] pos) X.env=(do
   let ov ←eval o X.env
   standAt apos.atName
   let (f,first) ←holding [ov] (getMethod ov m pl)
   callWith pos f first (backTo pos (starEach (e::es) X.env)) (backToKw pos (keywordEach [] X.env))):=by rfl) :
  PE X (.Call (.Attribute o m apos) (e::es) [] pos) (vC C m sp dvs EK ta t):=by
 intro pins s σ H Q I h;refine PySem.W.methodCall_KW (pl:=pl) (thn (he pins s σ H _ I h) λu s1 ⟨x,H1,I1,rx,a,dx,fs,ex,ea,l,q⟩=>?_) ht;subst ex;obtain rfl:u=Value.ref a:=rx;refine oW I1 ea c hm l ?_;exact PySem.W.callWith_K (first:=[.ref a]) (h₀:=X.base) I.ok.mod.kin hm.kp (thn (ha pos pins s1 σ H1 _ I1 q) λus s2 ⟨vs,H2,I2,r,q2⟩=>#[I2.kIn,Dj (us:=.ref a::us) (vs:=.ref a::vs) F hr hb hd hx I2 (.cons rfl r) q2]) hst hpl
theorem An{pl:Sem Bool}(he:PE X o ta)(c:Cls X.K C)(hm:Meth X.K C m f)(F:cx X.prog X.w X.K X.mg X.base CX k f fd ps sp)(hr:cT k X.A)(hb:Binds X.K fd ps ds)(hd:Vals dvs ds)(hx:bK CX X EK)
  (ht:eval (.Call (.Attribute o m apos) [] [] pos) X.env=(do
   let ov ←eval o X.env
   standAt apos.atName
   let (f,first) ←holding [ov] (getMethod ov m pl)
   callWith pos f first (backTo pos (starEach [] X.env)) (backToKw pos (keywordEach [] X.env))):=by rfl) :
  PE X (.Call (.Attribute o m apos) [] [] pos) (vC C m sp dvs EK ta uE):=by
 intro pins s σ H Q I h;refine PySem.W.methodCall_KW (pl:=pl) (thn (he pins s σ H _ I h) λu s1 ⟨x,H1,I1,rx,a,dx,fs,ex,ea,l,q⟩=>?_) ht;subst ex;obtain rfl:u=Value.ref a:=rx;refine oW I1 ea c hm l ?_;exact PySem.W.callWith_K0 (first:=[.ref a]) I1.kIn hm.kp (Dj (us:=[.ref a]) (vs:=[.ref a]) F hr hb hd hx I1 (.cons rfl .nil) q)
structure MkX(K:W.Frag)(C f:Addr):Prop where
 cls:∃ cd,cG K C cd
 init:PySem.W.findIn K (.ref C) "__init__" = some (some (.ref f))
 fn:PySem.W.isFn K (.ref f)=true
 kp:PySem.W.keepIn K (.ref C)=true
theorem Dl{pins:List (Addr×Obj)}{σ:St}{H:Hp}{s:Shared}{Q:VK}{us:List Value}{vs:List V}(M:MkX X.K C f)(F:cx X.prog X.w X.K X.mg X.base CX k f fd ps sp)(hr:cT (k+1) X.A)(hb:Binds X.K fd ps [])(hx:bK CX X EK)(hps:ps.length≤1000)
  (I:Inv X pins σ H s) (r:Vals vs us) (h:∀ ea,H ea=none→sp (.ref ea::vs) (upd H ea (exo true C ea none)) (λv H2=>v=.non∧Q (.ref ea) H2) (EK σ)) :
  wpAny (model X.prog X.w) X.A (call (.ref C) us) (EP X pins σ Q) X.xe s:=by
 have hq:=h (s.heap.objs.size+1) (I.hok.fresh (OW _));obtain⟨cd,xc⟩:=M.cls;have r2:Vals (V.ref (s.heap.objs.size+1)::vs) (Value.ref (s.heap.objs.size+1)::us):=.cons rfl r;have hl:(Value.ref (s.heap.objs.size+1)::us).length=ps.length:=by rw[←r2.length];exact F.len _ _ _ _ hq
 have hz:us.length≤sizeLine:=by rw[Oi]at hl;rw[sizeLine_eq];omega
 have I2:Inv X pins σ (upd H (s.heap.objs.size+1) (exo true C (s.heap.objs.size+1) none)) {s with heap:=gm s.heap C us}:=by
  refine I.laid (t':=s.toks) (λb u q=>NL _ (NL _ q)) (OW _) (wR #[(List.toArray [.ref s.heap.objs.size,.none,.none,.none,.bool false,.none]),#[],s.heap.objs.size,?_,rfl,λ_=>rfl]);show(gm s.heap C us).get? (s.heap.objs.size+1)=some (wQ C s.heap.objs.size);heap_get
 obtain⟨hh,g,d,tk,os⟩:=s;refine wpAny_call (Al xc I.kIn M.init (beq_iff_eq.mp M.fn) hz (codeAny_mono (F.run _ X.stack _ _ #[Value.ref (hh.objs.size+1)::us,[]] (Value.ref (hh.objs.size+1)::us) _ _ (EK σ) (hr.make C us []) (I2.Eo.make C us [])
  (by have:=hb _ (Value.ref (hh.objs.size+1)::us) I2.kIn (by rw[OR];exact hl);rw[OR]at this;exact this) r2 hq) λr s' hq'=>?_))
 cases r with
 | error e=>exact hx pins σ _ _ e s' I2 hq'
 | ok fl =>
  cases fl with
  | ret u =>
   obtain⟨v,H',I3,rv,ev,q3⟩:=I2.after hq';subst ev;exact#[rv,#[V.ref (hh.objs.size+1),H',I3,rfl,q3]]
  | _=>exact False.elim hq'
theorem Fn(M:MkX X.K C f)(F:cx X.prog X.w X.K X.mg X.base CX k f fd ps sp)(hr:cT (k+1) X.A)(hg:Gl X x)(hm:X.mg x=some (.ref C))(hb:Binds X.K fd ps [])(hx:bK CX X EK)
  (ha:PA X (e::es) t) (hps:ps.length≤1000:=by decide) (hdb:(x == ("__debug__" : Str))=false:=by decide) (he:starEach (e::es) X.env=(false,eval e X.env)::starEach es X.env:=by rfl) (hpl:(backTo pos (starEach es X.env)).any (·.1)=false:=by rfl) :
  PE X (.Call (.Name x p) (e::es) [] pos) (KA C sp EK t):=by
 intro pins s σ H Q I h;refine wpAny_Call_Name_kw (h9 I hg hm ?_ hdb);exact PySem.W.callWith_K (h₀:=X.base) I.ok.mod.kin M.kp (thn (ha pos pins s σ H _ I h) λus s1 ⟨vs,H1,I1,r,q⟩=>#[I1.kIn,Dl M F hr hb hx hps I1 r q]) he hpl
end
theorem Ao{H:Hp}{a:Addr}{o:HO}(h:H a=some o):upd H a o=H:=by
 funext b
 by_cases e:b=a
 ·rw[e,ae,h]
 ·rw[ab e]
section
variable{X:Cx}
noncomputable def tVe(K:W.Frag)(t:TA):TE:=λσ H Q=>t σ H λvs H1=>∃ ea C od r,vs=.ref ea::r∧r.length≤1000∧H1 ea=some (exo true C ea od)∧(∃ cd,cG K C cd)∧Q .non H1
theorem Jq{p apos pos:Pos}{e:Expr}{es:List Expr}{t:TA}{pl:Sem Bool}(hg:Gl X "ValueError")(hm:X.mg "ValueError" = none)(ha:PA X (e::es) t)
  (hst:starEach (e::es) X.env=(false,eval e X.env)::starEach es X.env:=by rfl) (hpl:(backTo pos (starEach es X.env)).any (·.1)=false:=by rfl)
  (ht:eval (.Call (.Attribute (.Name "ValueError" p) "__init__" apos) (e::es) [] pos) X.env=(do
   let ov ←eval (.Name "ValueError" p) X.env
   standAt apos.atName
   let (f,first) ←holding [ov] (getMethod ov "__init__" pl)
   callWith pos f first (backTo pos (starEach (e::es) X.env)) (backToKw pos (keywordEach [] X.env))):=by rfl) :
  PE X (.Call (.Attribute (.Name "ValueError" p) "__init__" apos) (e::es) [] pos) (tVe X.K t):=by
 intro pins s σ H Q I h;refine PySem.W.methodCall_KW (pl:=pl) (nQ I hg hm PyProof.Rows.Boot.«ValueError» ?_) ht;refine Dh I.kIn ?_;refine PyProof.Rows.callWith_builtin1 (thn (ha pos pins _ σ H _ (I.tok _) h) λus s1 ⟨vs,H1,I1,r,ea,C,od,rr,ev,hl,h1,⟨cd,xc⟩,q⟩=>?_) hst hpl;subst ev;cases r with
 | @cons _ u _ us' r1 r2 =>
 obtain rfl:u=Value.ref ea:=r1;obtain⟨fs,sl,a0,z,ha,hf⟩:=pj I1.hok h1;have hz:us'.length≤sizeLine:=by rw[←r2.length,sizeLine_eq];omega
 have I2:Inv X pins σ H1 {s1 with heap:=s1.heap.push (js us')}:=I1.kept (t':=s1.toks) λb u q=>NL _ q;have z2:=NL (h:=s1.heap) (js us') z;have hs0:0<fs.size:=(Ou.mp ha).1;have I3:Inv X pins σ (upd H1 ea (exo true C ea od)) {s1 with heap:=(s1.heap.push (js us')).update ea (Obj.mapFields (·.setIfInBounds 0 (.ref s1.heap.objs.size)))}:=by
  refine I2.write (x:=ea) (e:=ea) (t':=s1.toks) (by rw[h1];exact True.intro) (.inl rfl) (λb u hb q=>(OE _ _ (Oj hb)).trans q) #[_,pe z2] (wR #[_,_,s1.heap.objs.size,pe z2,by simp[hs0],λ_=>?_])
  have:=hf rfl
  simpa using this
 rw[Ao h1]at I3;obtain⟨hh,g,d,tk,os⟩:=s1;exact t8 xc I1.kIn z ha hz #[.non,H1,I3,rfl,q]
noncomputable abbrev TF:=St→Hp→(Hp→Prop)→Prop
noncomputable def PF(X:Cx)(e:Expr)(t:TF):Prop :=
 ∀(pins:List (Addr×Obj)) (s:Shared) (σ:St) (H:Hp) (Q:Hp→Prop),Inv X pins σ H s→t σ H Q→wpAny (model X.prog X.w) X.A (eval e X.env) (λv s1=>∃ y tk H1,v=.str y tk∧y.length≤2000∧Inv X pins σ H1 s1∧Q H1) X.xe s
noncomputable def PFs(X:Cx)(es:List Expr)(t:TF):Prop :=
 ∀(out:Str) (pins:List (Addr×Obj)) (s:Shared) (σ:St) (H:Hp) (Q:V→Hp→Prop),out.length+2000*es.length≤100000→Inv X pins σ H s→t σ H (λH1=>∀ y,y.length≤100000→Q (.str y) H1) →
  wpAny (model X.prog X.w) X.A (joinParts out (evalEach es X.env)) (EP X pins σ Q) X.xe s
noncomputable def EA:TF:=λ_ H Q=>Q H
noncomputable def Mv(te:TE):TF:=λσ H Q=>te σ H λv H1=>∃ i,v=.int i∧i.natAbs.log2<1920∧Q H1
noncomputable def Fo(t u:TF):TF:=λσ H Q=>t σ H λH1=>u σ H1 Q
theorem uR:(100000:Nat)≤sizeLine:=by rw[sizeLine_eq];omega
theorem b5{x j pos}(hl:x.length≤2000:=by decide +kernel):PF X (.Constant (.str x) j pos) EA:=λ_ _ _ H _ I h=>Calls.Constant_str #[_,_,H,rfl,hl,I.tok _,h]
theorem dM{e:Expr}{te:TE}{pos:Pos}(he:PE X e te):PF X (.FormattedValue e (-1) none pos) (Mv te):=by
 intro pins s σ H Q I h;refine FormattedValue_plain (thn (he pins s σ H _ I h) λu s1 ⟨v,H1,I1,r,i,ev,hi,q⟩=>?_);subst ev;obtain⟨t,rfl⟩:=(show ∃ t,u=Value.int i t from r);exact formatField_int_small hi #[_,_,H1,rfl,NW (int_text_len_1921 hi) (by decide),I1.tok _,q]
theorem cH:PFs X [] EA:=λout pins s σ H Q hl I h =>
 joinParts_nil #[.str out,H,I.tok _,#[_,rfl],h out (by simpa using hl)] (NW (by simpa using hl) uR)
theorem aQ{e:Expr}{es:List Expr}{t u:TF}(h1:PF X e t)(h2:PFs X es u):PFs X (e::es) (Fo t u):=by
 intro out pins s σ H Q hl I h;rw[Oi]at hl;refine joinParts_consE (joinParts_cons (thn (h1 pins s σ H _ I h) λv s1 ⟨y,tk,H1,ev,hy,I1,q⟩=>?_));subst ev;have hz:(out++y).length+2000*es.length≤100000:=by rw[strLen_append];omega
 exact#[NW (by omega) uR,h2 (out++y) pins s1 σ H1 Q hz I1 q]
noncomputable def Jr(t:TF):TE:=λσ H Q=>t σ H λH1=>∀ y,y.length≤100000→Q (.str y) H1
theorem cI{e e':Expr}{es:List Expr}{t:TF}{pos:Pos}(h:PFs X (e::e'::es) t)(hl:2000*(e::e'::es).length≤100000:=by decide):PE X (.JoinedStr (e::e'::es) pos) (Jr t) :=
 λpins s σ H Q I q=>JoinedStr_many (h Str.empty pins s σ H Q (by have z:Str.empty.length=0:=rfl;rw[z];omega) I q)
end
noncomputable abbrev Cx.tM(X:Cx)(pins:List (Addr×Obj))(E:Value→Shared→Prop):Cx:={X with xe:=E,pn:=X.pn++pins}
noncomputable abbrev Cx.il(X:Cx)(ea:Addr):Cx:={X with A:=X.A.mark (some (.ref ea)),calm:=false,xe:=λ_ _=>False}
section
variable{X:Cx}{pins:List (Addr×Obj)}{σ:St}{H:Hp}{s:Shared}{E:Value→Shared→Prop}{ea:Addr}
theorem Inv.tM(I:Inv X pins σ H s)(E:Value→Shared→Prop):Inv (X.tM pins E) [] σ H s :=
 #[#[I.ok.mod,I.ok.kind,I.ok.glob,I.ok.blt,I.ok.above,I.ok.inj,I.ok.has,I.ok.cab,I.ok.hd,I.ok.frames,I.ok.stk,I.ok.exf,I.ok.bs,I.ok.bsz,I.ok.uz,I.ok.xh,I.ok.lD,I.ok.frf],
  I.os,I.bare,I.base,I.loc,I.cell,I.free,I.dc,λp hp=>I.pin p (by simpa using hp),I.hok,I.len]
theorem Inv.lJ{vq:List (Addr×Obj)}(I:Inv (X.tM pins E) vq σ H s):Inv X pins σ H s :=
 #[#[I.ok.mod,I.ok.kind,I.ok.glob,I.ok.blt,I.ok.above,I.ok.inj,I.ok.has,I.ok.cab,I.ok.hd,I.ok.frames,I.ok.stk,I.ok.exf,I.ok.bs,I.ok.bsz,I.ok.uz,I.ok.xh,I.ok.lD,I.ok.frf],
  I.os,I.bare,I.base,I.loc,I.cell,I.free,I.dc,λp hp=>I.pin p (Ot _ hp),I.hok,I.len]
theorem Inv.il(I:Inv X pins σ H s)(ea:Addr):Inv (X.il ea) pins σ H s :=
 #[#[I.ok.mod,I.ok.kind,I.ok.glob,I.ok.blt,I.ok.above,I.ok.inj,I.ok.has,I.ok.cab,(λz=>nomatch z),I.ok.frames,I.ok.stk,I.ok.exf,I.ok.bs,I.ok.bsz,I.ok.uz,I.ok.xh,I.ok.lD,I.ok.frf],
  I.os,I.bare,I.base,I.loc,I.cell,I.free,I.dc,I.pin,I.hok,I.len]
theorem Inv.uncaught{Y:Cx}(I:Inv (Y.il ea) pins σ H s)(ok:Y.Ok):Inv Y pins σ H s:=#[ok,I.os,I.bare,I.base,I.loc,I.cell,I.free,I.dc,I.pin,I.hok,I.len]
theorem Inv.Js{o:HO}{c:Value}{od:Option Addr}{fs:Array Value}{sl:Array (Option Value)}(I:Inv X pins σ H s)(hn:H ea=none)(h0:X.s₀.heap.get? ea=none)(hr:s.heap.get? ea=some (bz c od fs sl))
  (hp:∀ p∈X.pn++pins,p.1≠ea) (new:bT X.prog X.w (upd H ea o) s.heap ea o):Inv X pins σ (upd H ea o) s:=by
 have ne:∀ b u,H b=some u→b≠ea:=λb u q e=>by rw[e,hn]at q;cases q
 refine#[I.ok,I.os,I.bare,#[I.base.keep,I.base.slot,λb u q n hx=>?_,I.base.there,λb xs q=>?_,λb u v q=>?_,λb ps q=>?_],I.loc,I.cell,?_,λx c' q=>?_,λp hq=>?_,I.hok.add hn new,I.len]
 ·rw[ab λe=>by rw[e,h0]at q;cases q]
  exact I.base.free b u q n hx
 ·have r:=I.base.oK b xs q
  rw[ab (ne b _ r)];exact r
 ·have r:=I.base.nV b u v q
  rw[ab (ne b _ r)];exact r
 ·obtain⟨more,r⟩:=I.base.oO b ps q
  exact#[more,by rw[ab (ne b _ r)];exact r]
 ·rw[ab λe=>?_]
  ·exact I.free
  ·obtain⟨m,⟨oL,es,ep,ho,hd,_⟩,_⟩:=I.loc
   rw[e,hr]at ho;cases ho;cases hd
 ·rw[ab λe=>?_]
  ·exact I.dc x c' q
  ·obtain⟨v,oc,ho,hd⟩:=I.cell x c' q
   rw[e,hr]at ho;cases ho;cases hd
 ·obtain⟨e,n,z⟩:=I.pin p hq
  exact#[e,by rw[ab (hp p hq)];exact n,z]
end
noncomputable def xx(i:Nat)(D:Ends):Ends:={nx:=λσ H=>D.nx (σ.set i none) H,rt:=D.rt,bk:=λσ H=>D.bk (σ.set i none) H,ct:=λσ H=>D.ct (σ.set i none) H}
noncomputable def CF(K:W.Frag)(Dc:Addr)(i:Nat)(ts:TS)(D:Ends):St→XK:=λσ c od H=>∃ C cd,c=.ref C∧cG K C cd∧cd.mro.contains (.ref Dc)=true∧∀ ea,H ea=none→ts (xx i D) (σ.set i (some (.ref ea))) (upd H ea (exo false C ea od))
noncomputable def Mw(K:W.Frag)(Dc:Addr)(i:Nat)(tb:(St→XK)→TS)(ts:TS):TS:=λD σ H=>tb (CF K Dc i ts D) D σ H
section
variable{X:Cx}
theorem Ap{pins:List (Addr×Obj)}{σ:St}{H:Hp}{s:Shared}{E:Value→Shared→Prop}{n:Str}{i:Nat}{pos:Pos}{Q:Unit→Shared→Prop}(I:Inv X pins σ H s)(hN:X.N.Nodup)(hi:X.N[i]?=some n)(hx:X.env.scope.names.lookup n=some .local)
  (k:∀ s',Inv X pins (σ.set i none) H s'→Q () s'):wpAny (model X.prog X.w) X.A (do bindName X.env n .none;unbindBehindTheSuite X.env n pos) Q E s:=by
 obtain⟨m,hn,hl⟩:=id I.loc;have Gq:(X.env.scope.kind == .class||(X.env.scope.kind == .module&&X.env.locals != X.env.globals))=false:=by rw[I.ok.kind];rfl
 refine wpAny_nameGoes_keeps hx hn Gq λh' v hn' hs=>k _ ?_;obtain⟨oL,_,_,hoL,_⟩:=id hn;have tr:HOk X.prog X.w H h':=I.hok.keeps λb u o q r=>(hs.2 b λe=>by rw[e,I.free]at q;cases q).trans r;refine#[I.ok,I.os,I.bare,#[λb o e n hb hx=>?_,λb o e n hb hx=>?_,I.base.free,λb o e hx=>?_,I.base.oK,I.base.nV,I.base.oO],#[_,hn',λj y v' e1 e2 e3=>?_],λy c e=>?_,I.free,I.dc,λp hp=>?_,tr,by simpa using I.len]
 ·exact(hs.2 b (Oe (Od (NT e) I.ok.above))).trans (I.base.keep b o e n hb hx)
 ·obtain⟨sl,e1⟩:=I.base.slot b o e n hb hx
  exact#[sl,(hs.2 b (Oe (Od (NT e) I.ok.above))).trans e1]
 ·obtain⟨o',e1⟩:=I.base.there b o e hx
  exact#[o',(hs.2 b (Oe (Od (NT e) I.ok.above))).trans e1]
 ·by_cases hj:j=i
  ·subst hj
   rw[List.getElem?_set]at e2;simp only[if_true]at e2;split at e2<;>cases e2
  ·rw[PL (Oj hj)]at e2
   obtain⟨u',r',q⟩:=hl j y v' e1 e2 e3;refine#[u',r',?_];rcases q with⟨kk,e⟩|⟨kk,c,e,z⟩
   ·refine .inl #[kk,?_]
    have:y≠n:=λe=>hj (pS hN e1 (e ▸ hi))
    simp[this,e]
   ·exact .inr #[kk,c,e,z.sameBut hs (I.cne y c e)]
 ·obtain⟨w',z⟩:=I.cell y c e
  exact#[w',z.sameBut hs (I.cne y c e)]
 ·obtain⟨e,n,ne,nf,d⟩:=I.pin p hp
  exact#[(hs.2 p.1 ne).trans e,n,ne,nf,d]
theorem Fp{body EB:List Stmt}{b₀:Stmt}{x n:Str}{np hpos pos:Pos}{i:Nat}{Dc:Addr}{cdD:ClassData}{tb:(St→XK)→TS}{ts:TS}(hex:X.ex=[])(hst:X.stack=X.env::X.outer)(hfr:X.env.frame=some X.env.locals)(hg:Gl X x)(hm:X.mg x=some (.ref Dc))
  (hD:cG X.K Dc cdD) (hN:X.N.Nodup) (hi:X.N[i]?=some n) (hx:X.env.scope.names.lookup n=some .local)
  (hb:∀(pins:List (Addr×Obj)) (E:Value→Shared→Prop) (EK:St→XK),bK (CXE X.prog X.w) (X.tM pins E) EK→PSs (X.tM pins E) body (tb EK))
  (hs:∀ ea,PSs (X.il ea) (b₀::EB) ts) (hdb:(x == ("__debug__" : Str))=false:=by decide) :
  PS X (.Try body [.ExceptHandler (some (.Name x np)) (some n) (b₀::EB) hpos] [] [] pos) (Mw X.K Dc i tb ts):=by
 intro pins s σ H D I h;refine wpAny_Try_except ?_;refine wpAny_mono (hb pins (λe s₁=>∃ σ' H1 sc,Inv X pins σ' H1 sc∧CXE X.prog X.w X.stack H1 sc (CF X.K Dc i ts D σ') e s₁) (CF X.K Dc i ts D)
  (λvq σ' H1 sc e s' J q=>#[σ',H1,sc,J.lJ,q]) [] s σ H D (I.tM _) h) (λfl s1 q=>?_) λe s1 q=>?_
 ·cases fl with
  | next =>
   obtain⟨σ',H',J,q⟩:=q;exact wpAny_execs_nil #[σ',H',J.lJ,q]
  | brk=>obtain⟨σ',H',J,q⟩:=q;exact#[σ',H',J.lJ,q]
  | cont=>obtain⟨σ',H',J,q⟩:=q;exact#[σ',H',J.lJ,q]
  | ret u=>obtain⟨v,σ',H',J,r,q⟩:=q;exact#[v,σ',H',J.lJ,r,q]
 ·obtain⟨σ',H1,sc,J,ea,Cv,T,od,fs,sl,H',rfl,l,C,cd,ec,xc,hmr,q⟩:=q
  cases ec;have hA:X.A.frames=some (X.env::X.outer):=by rw[J.ok.frames,hst]
  have hF:s1.heap.FunFrames X.base (X.env::X.outer):=by rw[←hst];exact l.frames J
  have e0:X.s₀.heap.get? ea=none:=by
   cases z:X.s₀.heap.get? ea with
   | none=>rfl
   | some o =>
    obtain⟨o',z'⟩:=J.base.there ea o z (by rw[hex];exact OM);rw[l.Ey]at z';cases z'
  have st:∀(m:Heap) (tk:Nat),Kept (bO X.stack) [ea,T] s1.heap m→Inv X pins σ' H' {s1 with heap:=m,toks:=tk}:=λm tk k=>by
   obtain⟨un,hok⟩:=l.on (t':=s1.toks) J k;exact J.tH l.os un hok l.bare λb z=>absurd z (by simp)
  have pn:∀ p∈X.pn++pins,p.1≠ea:=λp hp e=>by
   obtain⟨z,_⟩:=J.pin p hp;rw[e,l.Ey]at z;cases z
  refine xw hA hF hfr l.at_ l.trail λm T' oc tsx z1 z2 z3 z4 z5=>?_;have Te:T'≠ea:=OX (Od (NT l.at_) z1);have f1:(fs.setIfInBounds 1 (Value.ref T'))[1]?=some (.ref T'):=by
   have:=l.trail.size
   simp[this]
  have k1:Kept (bO X.stack) [ea,T] s1.heap m:=by rw[hst];exact z2
  refine jT (s:={s1 with heap:=m}) z3 f1 Te z4 (Ou.mp z5).1 λm' q1 q2 q3=>?_;have nT:∀ b o,s1.heap.get? b=some o→b≠T':=λb o q=>Oe (Od (NT q) z1);have k2:Kept (bO X.stack) [ea,T] s1.heap m':=#[λb o q hb hx=>q1 b o (nT b o q) (k1.plain b o q hb hx),λb o q hb hx=>by
   obtain⟨sm,r⟩:=k1.frame b o q hb hx;exact#[sm,q1 b _ (nT b o q) r]]
  have J2:=st m' s1.toks k2;refine wpAny_handleBy_cons (codeAny_handlers_test ?_) (by intro z;cases z);refine h9 (X:=X.il ea) (J2.il ea) hg hm ?_ hdb;refine t9 xc hD J2.kIn q3 ?_;rw[hmr];refine codeAny_handlers_suite_as ?_;cases q2 with
  | @some _ oc2 ts2 d2 sm2 y1 y2 y3 y4 =>
  refine jT (s:={s1 with heap:=m'}) q3 y1 y2 y3 (Ou.mp y4).1 λm3 r1 r2 r3=>?_;have k3:Kept (bO X.stack) [ea,T] s1.heap m3:=#[λb o q hb hx=>r1 b o (nT b o q) (k2.plain b o q hb hx),λb o q hb hx=>by
   obtain⟨sm,r⟩:=k2.frame b o q hb hx;exact#[sm,r1 b _ (nT b o q) r]]
  have J3:=st m3 s1.toks k3;obtain⟨a0,ha⟩:=l.args;have J4:Inv X pins σ' (upd H' ea (exo false Cv ea od)) {s1 with heap:=m3}:=J3.Js l.zS e0 r3 pn (wR #[_,_,a0,r3,by simpa using ha,λz=>nomatch z]);refine k8 (X:=X.il ea) (J4.il ea) hN hi (.inl hx) (v:=.ref ea) rfl (λs5 J5=>?_) (.inr hx);refine wpAny_mono (hs ea pins s5 _ _ (xx i D) J5 (q ea l.zS)) (λfl s6 w=>?_) λ_ _ z=>False.elim z;have off:∀ {σ6:St} {H6:Hp} {Q6:Unit→Shared→Prop},Inv (X.il ea) pins σ6 H6 s6→(∀ s7,Inv X pins (σ6.set i none) H6 s7→Q6 () s7)→wpAny (model X.prog X.w) X.A (do bindName X.env n .none;unbindBehindTheSuite X.env n hpos) Q6 X.xe s6 :=
   λJ6 k=>Ap (J6.uncaught J.ok) hN hi hx k
  cases fl with
  | next=>obtain⟨σ6,H6,J6,w⟩:=w;exact off J6 λs7 J7=>#[_,_,J7,w]
  | brk=>obtain⟨σ6,H6,J6,w⟩:=w;exact off J6 λs7 J7=>#[_,_,J7,w]
  | cont=>obtain⟨σ6,H6,J6,w⟩:=w;exact off J6 λs7 J7=>#[_,_,J7,w]
  | ret u=>obtain⟨v,σ6,H6,J6,r,w⟩:=w;exact off J6 λs7 J7=>#[v,_,_,J7,r,w]
end
section
variable{X:Cx}
noncomputable def Jt(K:W.Frag):R2:=λx y H Q=>∃ l b xs zs,x=.ref l∧y=.ref b∧SqL K H l xs∧SqL K H b zs∧xs.length+zs.length≤sizeLine∧∀ p,H p=none→Q (.ref p) (upd H p (.lst (xs++zs)))
theorem pw:OpR X (binaryOp .Add) (Jt X.K):=by
 intro pins s σ H x y v u Q I rx ry h;obtain⟨l,b,xs,zs,rfl,rfl,hx,hy,hz,q⟩:=h;cases rx;cases ry;obtain⟨vs,r1,⟨⟨c1,d1,da1,s1⟩,n1,e1,f1,_,g1⟩,_⟩:=I.list hx;obtain⟨ws,r2,⟨⟨c2,d2,da2,s2⟩,n2,e2,f2,_,g2⟩,_⟩:=I.list hy;simp only at f1 g1 f2 g2;subst f1 g1 f2 g2;have hl:vs.length+ws.length≤sizeLine:=by rw[←r1.length,←r2.length];exact hz
 have ea:vs.toArray++ws.toArray=(vs++ws).toArray:=by simp
 refine concat_meets #[_,e1,rfl] #[_,e2,rfl] noFill_list_add seq_list_add PySem.F.slot_list_add PySem.F.entry_list_add (PySem.F.args_list_add_2 _ _) (list_addW l b vs.toArray ws.toArray n1 n2 d1 d2 s1 s2 (by simpa using hl)) #[e1,e2,?_];rw[ea];exact#[.ref _,_,I.z6 (t':=s.toks) (r1.append r2) (by rw[NX];exact hz),rfl,q _ I.fresh]
end
theorem au.upd{H:Hp}{a:Addr}{o:HO}(h:H a=none):au H (L2.upd H a o):=λb u q=>by rw[ab λe=>by rw[e,h]at q;cases q];exact q
structure KC(K:W.Frag)(C:Addr):Prop where
 cls:∃ cd,cG K C cd
 get:II K C
 own:PySem.W.findIn K (.ref C) "__class__" = some (some (.builtin "object.__class__"))
noncomputable def KD(K:W.Frag):Sp:=λvs H Q _=>∃ ea C od x,vs=[.ref ea,x]∧H ea=some (exo true C ea od)∧(∃ cd,cG K C cd)∧Q .non H
theorem b4{P:Program}{w:World}{X:Cx}:bK (CXE P w) X.nox (λ_ _ _ _=>False):=λ_ _ _ _ _ _ _ ⟨_,_,_,_,_,_,_,_,_,q⟩=>q.elim
theorem yH{n:Int}(h:n.natAbs<2 ^ 1920):n.natAbs.log2<1920:=by
 by_cases z:n.natAbs=0
 ·rw[z];decide
 ·exact(Nat.log2_lt z).mpr h
theorem Ju{P:Program}{w:World}{outer:List Env}{H:Hp}{s:Shared}{e:Value}{s':Shared}(h:CXE P w outer H s (λ_ _ _=>False) e s'):False:=by
 obtain⟨_,_,_,_,_,_,_,_,_,q⟩:=h;exact q
end L2
end
section
namespace L2
open PySem PySem.Spec PyProof.Rows LX
section
variable{X:Cx}
variable{o e value:Expr}{f:Str}{pos pos':Pos}{ta tv:TE}
structure EC(K:W.Frag)(C:Addr)(m:Str)(f:Addr):Prop where
 rd:PySem.W.readsIn K C (.type "type")=true
 fc:PySem.W.findCls K (.ref C) (.type "type") m=some (.val (.ref f))
 ga:PySem.W.specialIn K (.ref C) "__getattribute__" = some (some (.builtin "type.__getattribute__"))
 kp:PySem.W.keepIn K (.ref f)=true
theorem Fq{CX:CXT}{k:Nat}{f C:Addr}{fd:FuncData}{ps:List Str}{sp:Sp}{EK:St→XK}{x m:Str}{p apos pos:Pos}{e:Expr}{es:List Expr}{t:TA}{pl:Sem Bool}(hg:Gl X x)(hm:X.mg x=some (.ref C))(c:EC X.K C m f)(F:cx X.prog X.w X.K X.mg X.base CX k f fd ps sp)(hr:cT k X.A)(hb:Binds X.K fd ps [])
  (hx:bK CX X EK) (ha:PA X (e::es) t) (hdb:(x == ("__debug__" : Str))=false:=by decide) (hst:starEach (e::es) X.env=(false,eval e X.env)::starEach es X.env:=by rfl) (hpl:(backTo pos (starEach es X.env)).any (·.1)=false:=by rfl)
  (ht:eval (.Call (.Attribute (.Name x p) m apos) (e::es) [] pos) X.env=(do
   let ov ←eval (.Name x p) X.env
   standAt apos.atName
   let (f,first) ←holding [ov] (getMethod ov m pl)
   callWith pos f first (backTo pos (starEach (e::es) X.env)) (backToKw pos (keywordEach [] X.env))):=by rfl) :
  PE X (.Call (.Attribute (.Name x p) m apos) (e::es) [] pos) (CD sp [] EK t):=by
 intro pins s σ H Q I h;refine PySem.W.methodCall_KW (pl:=pl) (h9 I hg hm ?_ hdb) ht;refine PySem.W.method_cls I.kIn c.ga (PySem.W.cls_value I.kIn c.rd c.fc rfl ?_);exact PySem.W.callWith_K (first:=[]) (h₀:=X.base) I.ok.mod.kin c.kp (thn (ha pos pins _ σ H _ (I.tok _) h) λus s1 ⟨vs,H1,I1,r,q⟩=>#[I1.kIn,Dj F hr hb .nil hx I1 r q]) hst hpl
end
end L2
end
section
namespace L2
open PySem PySem.Spec PyProof.Rows LX
theorem gT{prog:Program}{w:World}{A:Around}{R:Result→Shared→Prop}{s:Shared}{elt target iter:Expr}{scope:Scope}{pos:Pos}{it acc:Value}{env:Env}(I:Nat→Shared→Prop)
  (turn:∀ n s,I n s→wpAny (model prog w) A (pyNext it) (λr s₁=>match r with
   | none=>R (.ok .next) s₁
   | some v=>wpAny (model prog w) A (letOwnedTupleGo target it v) (λ_ s5=>wpAny (model prog w) A (assign target env v) (λ_ s₂=>wpAny (model prog w) A (eval elt env) (λx s₃ =>
     wpAny (model prog w) A (call (.builtin "list.append") [acc,x]) (λ_ s₄=>∃ m,m<n∧I m s₄) (notedBy (model prog w) A env λe s'=>R (.error e) s') s₃)
     (notedBy (model prog w) A env λe s'=>R (.error e) s') s₂) (notedBy (model prog w) A env λe s'=>R (.error e) s') s5) (notedBy (model prog w) A env λe s'=>R (.error e) s') s₁) (notedBy (model prog w) A env λe s'=>R (.error e) s') s)
  (n:Nat) (h:I n s):codeAny (model prog w) A (.compLoop (.ListComp elt [#[target,iter,[],0]] scope pos) 0 it acc env) R s:=by
 refine codeAny_loop rfl I (λn s hI=>?_) n h;show wpAny _ _ ((compTurn (.ListComp elt [#[target,iter,[],0]] scope pos) 0 it acc env).onRaise (λx=>do noteFrame x env;theTreesLotGoes x)) _ _ s
 refine wpAny_noted ?_;rw[compTurn_list1];refine wpAny_bind (wpAny_standAt (wpAny_bind (wpAny_mono (turn n s hI) (λr s₁ h₁=>?_) λ_ _ h'=>h')));cases r with
 | none=>exact wpAny_pure h₁
 | some v =>
  refine wpAny_bind (wpAny_mono h₁ (λ_ s5 h5=>?_) λ_ _ h'=>h');exact wpAny_bind (wpAny_mono h5 (λ_ s₂ h₂=>wpAny_bind (wpAny_bind (wpAny_mono h₂ (λx s₃ h₃=>wpAny_bind (wpAny_mono h₃
   (λ_ s₄ h₄=>wpAny_pure (wpAny_pure #[rfl,h₄])) λ_ _ h'=>h')) λ_ _ h'=>h'))) λ_ _ h'=>h')
noncomputable abbrev cxC(X:Cx)(scope:Scope)(cl:List (Str×Addr))(NC:List Str)(C:Addr)(fp:List Addr)(s₀:Shared)(H₀:Hp):Cx :=
 {X with N:=NC,s₀:=s₀,H₀:=H₀,env:=compEnvC scope cl C X.env,outer:=X.stack,ex:=fp,fn:=λ_=>false,pn:=[],xe:=λ_ _=>False}
noncomputable def fK(σ:St)(idx:List Nat):St:=idx.map λi=>(σ[i]?).getD none
structure ju(X:Cx)(scope:Scope)(cl:List (Str×Addr))(x:Str)(idx:List Nat)(NC:List Str):Prop where
 Dm:closureFor scope X.env=pure cl
 sub:∀ y c,cl.lookup y=some c→X.env.cells.lookup y=some c
 has:∀ y,((relabel scope X.env).names.lookup y=some .cell∨(relabel scope X.env).names.lookup y=some .free)→∃ c,cl.lookup y=some c
 qr:∀ y∈scope.names,y.2≠.cell
 kind:scope.kind=.function
 loc:∀ y∈scope.names,y.2=.local→scope.names.lookup y.1=some .local
 xl:scope.names.lookup x=some .local
 nc:NC=x::idx.map λi=>X.N.getD i x
 nd:NC.Nodup
 cap:∀ i∈idx,i<X.N.length∧((X.env.scope.names.lookup (X.N.getD i x)=some .cell∨X.env.scope.names.lookup (X.N.getD i x)=some .free)∧((relabel scope X.env).names.lookup (X.N.getD i x)=some .cell∨(relabel scope X.env).names.lookup (X.N.getD i x)=some .free))
section
variable{X:Cx}{scope:Scope}{cl:List (Str×Addr)}{x:Str}{idx:List Nat}{NC:List Str}{C:Addr}{fp:List Addr}{pins:List (Addr×Obj)}{σ:St}{H:Hp}{s:Shared}
theorem p7{h1:Heap}{t':Nat}(c:ju X scope cl x idx NC)(I:Inv X pins σ H s)(hf:∀ b∈fp,kF X pins H b)(hlt:∀ b∈fp,b<s.heap.objs.size)(ns:h1.Ns s.heap.objs.size (λ_=>none))
  (k:∀ b o,s.heap.get? b=some o→h1.get? b=some o):Inv (cxC X scope cl NC s.heap.objs.size fp s H) [] (none::fK σ idx) H {s with heap:=h1,toks:=t'}:=by
 have sub:∀ b,b∈frs X.stack→b∈X.env.locals::X.fs:=I.ib;refine#[#[I.ok.mod,c.kind,I.ok.glob,I.ok.blt,NO _,λy z a h1 h2=>I.ok.inj y z a (c.sub _ _ h1) (c.sub _ _ h2),c.has,λy a z=>(by cases z),I.ok.hd,I.ok.frames,.inl rfl,λb hb=>#[Oe (hlt b hb),λy a q=>(hf b hb).2.2.2.2.1 y a (c.sub _ _ q)],
  λb o q=>I.bs b o q,NW I.ok.bsz I.sz,λb o q hb=>?_,λb hb z=>?_,I.stack,I.je],rfl,I.bare,Un.kept k,#[_,ns,λi y v e1 e2 e3=>?_],λy a q=>?_,I.hok.fresh (NO _),λy a q=>I.dc _ _ (c.sub _ _ q),λp hp=>(by cases hp),I.hok.keeps λb u o _ q=>k b o q,?_]
 ·rcases(hf b hb).2.2.2.1 with z|z
  ·exact I.ok.uz b o q z
  ·exact absurd (Od (NT (I.ok.bs b o q).1) z) (OQ _)
 ·rcases NY.mp (sub b z) with r|r
  ·exact(hf b hb).2.1 r
  ·exact(hf b hb).2.2.1 r
 ·cases i with
  | zero=>cases e2
  | succ j =>
   have e1':(idx.map λi=>X.N.getD i x)[j]?=some y:=by
    have:(cxC X scope cl NC s.heap.objs.size fp s H).N=NC:=rfl
    rw[this,c.nc]at e1;exact e1
   have e2':(fK σ idx)[j]?=some (some v):=e2;rw[N0]at e1';unfold fK at e2';rw[N0]at e2';cases ei:idx[j]? with
   | none=>rw[ei]at e1';cases e1'
   | some i =>
    rw[ei]at e1' e2';simp only[OL,Option.some.injEq]at e1' e2';obtain⟨hi,h2,h3⟩:=c.cap i (Of ei);rw[e1']at h2 h3;have hN:X.N[i]?=some y:=by
     rw[←e1'];simp[List.getD,NJ hi]
    have hσ:σ[i]?=some (some v):=by
     cases q:σ[i]? with
     | none=>rw[q]at e2';cases e2'
     | some o=>rw[q]at e2';simp only[Qa]at e2';rw[e2']
    obtain⟨m,hn,hl⟩:=I.loc;obtain⟨u,r,l⟩:=hl i y v hN hσ (h2.elim (λz=>.inr (.inl z)) λz=>.inr (.inr z));refine#[u,r,.inr #[h3,?_]];rcases l with⟨l,_⟩|⟨_,a,ha,hc⟩
    ·exfalso
     have l':X.env.scope.names.lookup y=some .local:=l;rcases h2 with z|z<;>(rw[l']at z;cases z)
    ·obtain⟨a',ha'⟩:=c.has y h3
     have:=c.sub _ _ ha'
     rw[ha]at this;cases this;exact#[a,ha',hc.keeps k]
 ·obtain⟨v,z⟩:=I.cell _ _ (c.sub _ _ q)
  exact#[v,z.keeps k]
 ·show _=NC.length
  rw[c.nc];simp[fK]
noncomputable def tN(J:It)(D:Addr)(τ:St)(te:TE)(Q:VK)(H:Hp):Prop:=∃ W:Nat→Nat→List V→Hp→Prop,(∃ m,W 0 m [] H)∧∀ i m ys H2,W i m ys H2→H2 D=some (.lst ys) ∧
 ((J.stop i H2∧Q (.ref D) H2)∨(J.go i H2∧ys.length<sizeLine∧∃ N:List V→Hp→Prop,(∀ zs H',N zs H'→∃ m',m'<m∧W (i+1) m' zs H')∧∀ y H3,J.yld i H2 y H3→te (some y::τ) H3 λv H4=>H4 D=some (.lst ys)∧N (ys++[v]) (upd H4 D (.lst (ys++[v])))))
noncomputable def ED(wi:TI)(idx:List Nat)(te:TE):TE:=λσ H Q=>wi σ H λJ H1=>∀ D,H1 D=none→tN J D (fK σ idx) te Q (upd H1 D (.lst []))
theorem lg{X:Cx}{pins:List (Addr×Obj)}{σ:St}{H:Hp}{s:Shared}{D:Addr}{ys:List V}{v:V}{u:Value}(I:Inv X pins σ H s)(h:H D=some (.lst ys))(hz:ys.length<sizeLine)(r:RelV v u) :
  wpAny (model X.prog X.w) X.A (call (.builtin "list.append") [.ref D,u]) (λ_ s'=>Inv X pins σ (upd H D (.lst (ys++[v]))) s') X.xe s:=by
 refine thn (ja pins s σ H (.ref D) [v] (.ref D) [u] (λ_ H'=>H'=upd H D (.lst (ys++[v]))) I rfl (.cons r .nil) #[D,ys,v,rfl,rfl,h,hz,rfl]) λw s' ⟨_,H',I',_,e⟩=>?_;rw[←e];exact I'
theorem lK{elt iter:Expr}{px pos:Pos}{wi:TI}{te:TE}(c:ju X scope cl x idx NC)(hc:X.calm=true)(hi:PI X (.Name x px) iter wi)(he:∀ C fp s₀ H₀,PE (cxC X scope cl NC C fp s₀ H₀) elt te)
  (hs:∀ x,foldedSetIterable iter X.env x=pure x:=by intro _;rfl):PE X (.ListComp elt [#[.Name x px,iter,[],0]] scope pos) (ED wi idx te):=by
 intro pins s σ H Q I h;rw[eval_ListComp];refine wpAny_comprehension_free (use:=none) rfl hs c.Dm c.kind c.loc (thn (hi pins s σ H _ I h) λv s1 h1=>thn h1 λitv s2 h2=>?_);obtain⟨it,fp,tn,J,H2,rfl,I2,T,st2,f2,q⟩:=h2;refine wpAny_newObj_type (wpAny_newFunctionEnv c.qr (by intro y hy;simp at hy) (λh₁ hns₁ hsb₁=>?_) c.kind);dsimp only at hns₁ hsb₁ ⊢;have I3:Inv X pins σ (upd H2 s2.heap.objs.size (.lst [])) {s2 with heap:=s2.heap.push {cls:=.type "list",data:=.seq ([]:List Value).toArray},toks:=s2.toks}:=I2.z6 (ys:=[]) (its:=[]) .nil (Oy _);obtain⟨W,⟨m0,w0⟩,turn⟩:=q s2.heap.objs.size I2.fresh;generalize hD:s2.heap.objs.size=D at *;generalize hH:s2.heap.push {cls:=.type "list",data:=.seq ([]:List Value).toArray}=h3 at *;have sX:∀ b∈fp,b<D:=λb hb=>by
  obtain⟨o,e,_⟩:=T.obj _ _ st2 b hb;rw[←hD];exact NT e
 have hlt:∀ b∈fp,b<h3.objs.size:=λb hb=>by
  rw[←hH,OI,hD];exact Pw (sX b hb)
 have hf:∀ b∈fp,kF X pins (upd H2 D (.lst [])) b:=λb hb=>#[by rw[ab (Oe (sX b hb))];exact(f2 b hb).1,(f2 b hb).2];have kp:∀ b o,h3.get? b=some o→h₁.get? b=some o:=λb o e=>hsb₁.extBut b o (Oe (NT e)) (NL _ e);have I4:Inv (cxC X scope cl NC h3.objs.size fp {s2 with heap:=h3,toks:=s2.toks} (upd H2 D (.lst []))) [] (none::fK σ idx) (upd H2 D (.lst [])) {s2 with heap:=h₁,toks:=s2.toks+([]:List (Str×Value)).length} :=
  p7 (s:={s2 with heap:=h3,toks:=s2.toks}) c I3 hf hlt hns₁ kp
 have jP:∀ {H':Hp},(∀ b∈fp,H' b=none)→∀ b∈fp,kF (cxC X scope cl NC h3.objs.size fp {s2 with heap:=h3,toks:=s2.toks} (upd H2 D (.lst []))) [] H' b:=λhn b hb =>
  #[hn b hb,Oe (hlt b hb),λz=>(NY.mp (I3.ib b z)).elim (hf b hb).2.1 (hf b hb).2.2.1,.inl hb,λy a q=>(hf b hb).2.2.2.2.1 y a (c.sub _ _ q),λp hp=>(by cases hp)]
 have st1:tn 0 h₁:=T.keep 0 _ _ st2 λb hb o e=>kp b o (by rw[←hH];exact NL _ e);have loop:∀ s4:Shared,s4={s2 with heap:=h₁,toks:=s2.toks+([]:List (Str×Value)).length} →
   codeAny (model X.prog X.w) X.A (.compLoop (.ListComp elt [#[.Name x px,iter,[],0]] scope pos) 0 (.ref it) (.ref D) (compEnvC scope cl h3.objs.size X.env)) (compPost (model X.prog X.w) X.A X.xe none (EP X pins σ Q) (.ref D) h3.objs.size) s4:=by
  rintro s4 rfl;refine gT (λn s'=>∃ i ys H' v0,Inv (cxC X scope cl NC h3.objs.size fp {s2 with heap:=h3,toks:=s2.toks} (upd H2 D (.lst []))) [] (v0::fK σ idx) H' s'∧tn i s'.heap∧(∀ b∈fp,H' b=none)∧W i n ys H')
   ?_ m0 #[0,[],_,none,I4,st1,λb hb=>(hf b hb).1,w0]
  rintro n s5 ⟨i,ys,H5,v0,I5,st5,fr5,w5⟩;obtain⟨hDl,alt⟩:=turn i n ys H5 w5;rcases alt with⟨stop,qn⟩|⟨go,hz,N,hN,step⟩
  ·refine thn (T.done (cxC X scope cl NC h3.objs.size fp {s2 with heap:=h3,toks:=s2.toks} (upd H2 D (.lst []))) rfl rfl rfl hc i [] s5 _ H5 _ I5 (jP fr5) st5 stop) λr s6 ⟨hr,I6⟩=>?_
   subst hr;obtain⟨m,ns6,_⟩:=id I6.loc;refine#[m,ns6,λh' hs'=>#[.ref D,H5,?_,rfl,qn]];have J6:Inv X pins σ H5 s6:=I3.tH (ch:=fp) I6.os I6.base I6.hok I6.bare λb hb=>#[(hf b hb).2.2.2.1,(hf b hb).2.1,(hf b hb).2.2.2.2.1,(hf b hb).2.2.2.2.2];refine J6.turned (t':=s6.toks) (it:=h3.objs.size) (λb o hb e=>hs'.extBut b o hb e) I6.free (OX I3.lt) (.inr I3.sz) (λy a q z=>?_) (λp hp z=>?_)
   ·obtain⟨v,q'⟩:=I3.cell y a q
    exact absurd q'.lt (by rw[z];exact OQ _)
   ·exact absurd (NT (I3.pin p hp).1) (by rw[z];exact OQ _)
  ·refine thn (T.item (cxC X scope cl NC h3.objs.size fp {s2 with heap:=h3,toks:=s2.toks} (upd H2 D (.lst []))) rfl rfl rfl hc i [] s5 _ H5 _ I5 (jP fr5) st5 go) λr s6 ⟨u,hr,h6⟩=>?_
   subst hr;refine thn h6 λ_ s7 ⟨y,H7,I7,r7,y7,st7,fr7⟩=>?_;have I7':=I7.pinned (jP fr7) (T.obj _ _ st7);have hnl:(relabel scope X.env).names.lookup x=some .local:=lookup_relabel_local c.xl;refine wpAny_mono (bc (X:=cxC X scope cl NC h3.objs.size fp {s2 with heap:=h3,toks:=s2.toks} (upd H2 D (.lst []))) (i:=0) (x:=x) (pos:=px) c.nd (by show NC[0]?=some x;rw[c.nc];rfl) (.inl hnl) (.inr hnl) _ s7 _ H7 y u
    (λσ' H'=>σ'=some y::fK σ idx∧H'=H7) I7' r7 #[rfl,rfl]) (λ_ s8 ⟨σ8,H8,I8,e8,e8'⟩=>?_) λ_ _ z=>z.elim
   subst e8 e8';refine wpAny_mono (he _ _ _ _ _ s8 _ H8 _ I8 (step y H8 y7)) (λw s9 ⟨v,H9,I9,r9,hD9,n9⟩=>?_) λ_ _ z=>z.elim;obtain⟨m',hm,w9⟩:=hN _ _ n9;refine wpAny_mono (lg (X:=(cxC X scope cl NC h3.objs.size fp {s2 with heap:=h3,toks:=s2.toks} (upd H2 D (.lst [])))) I9 hD9 hz r9) (λ_ s10 I10=>?_) λ_ _ z=>z.elim;refine#[m',hm,i+1,ys++[v],_,some y,I10.cX,T.keep _ _ _ st7 λb hb o e=>(I10.pin (b,o) (NS _ (NS _ (bt hb e)))).1,λb hb=>?_,w9];obtain⟨o,e,d⟩:=T.obj _ _ st7 b hb;exact(I10.pin (b,o) (NS _ (NS _ (bt hb e)))).2.1
 exact codeAny_compStart_list (loop _ rfl) (T.self _ 0 _ _ _ st1 (loop _ rfl))
end
section
variable{X:Cx}
theorem uS:∀ {bs:List Bool} {us:List Value},Vals (bs.map V.bl) us→us=bs.map Value.bool
 | [],_,.nil=>rfl
 | b::r,_,.cons h t=>by
  cases h;rw[uS t];rfl
noncomputable def Mx(K:W.Frag):List V→Hp→VK→Prop:=λvs H Q=>∃(p:Addr) (bs:List Bool),vs=[.ref p]∧SqL K H p (bs.map V.bl)∧Q (.bl (bs.all id)) H
theorem uT(hc:X.calm=true):eM X (.builtin "all") (Mx X.K):=by
 rintro pins s σ H xs us Q I r ⟨p,bs,rfl,hq,q⟩;obtain⟨u,rfl,ru⟩:=r.one;cases (show u=Value.ref p from ru);obtain⟨its,rv,⟨o,n,e1,e2,e3,e4⟩,hz⟩:=I.list hq;have e:=uS rv;have hl:s.heap.IsList p (bs.map Value.bool).toArray:=by
  rw[←e];exact#[o,e1,e2,n,e4]
 have hlt:p<s.heap.objs.size:=NT e1;refine call_all_walk (wpAny_pyIter_list hl ?_);refine#[s.heap.objs.size,[s.heap.objs.size,p],[s.heap.objs.size],(bs.map Value.bool).toArray.size,_,_,λi=>(bs[i]?).getD true,rfl,Walks.list (A:=X.A.in1) (I.ok.hd hc) _ p (Oe hlt) _,
  #[#[_,Oc _ rfl,rfl,rfl],hl.push _],λi v s' Q' E' hP hQ=>?_,λh' tk hk=>?_]
 ·simp only[List.getElem?_toArray,N0]at hP
  cases eb:bs[i]? with
  | none=>rw[eb]at hP;cases hP
  | some b =>
   rw[eb]at hP;cases hP;simp only[eb,Qa]at hQ;exact wpAny_truthy_bool hQ
 ·have e:((List.range (bs.map Value.bool).toArray.size).all λi=>(bs[i]?).getD true)=bs.all id:=by
   rw[NU,NI];exact LSm.range_all bs
  rw[e];refine#[.bl _,H,I.kept (t':=tk) λb x q=>hk b x (λhm=>?_) (NL _ q),rfl,q];rw[NN.mp hm]at q;exact OQ _ (NT q)
theorem qt{prog:Program}{w:World}{A:Around}{R:Result→Shared→Prop}{s:Shared}{elt target iter c:Expr}{scope:Scope}{pos:Pos}{it acc:Value}{env:Env}(I:Nat→Shared→Prop)
  (turn:∀ n s,I n s→wpAny (model prog w) A (pyNext it) (λr s₁=>match r with
   | none=>R (.ok .next) s₁
   | some v=>wpAny (model prog w) A (letOwnedTupleGo target it v) (λ_ s5=>wpAny (model prog w) A (assign target env v) (λ_ s₂=>wpAny (model prog w) A (isTrue c env (eval c env)) (λok s6=>if ok=true then wpAny (model prog w) A (eval elt env) (λx s₃ =>
     wpAny (model prog w) A (call (.builtin "list.append") [acc,x]) (λ_ s₄=>∃ m,m<n∧I m s₄) (notedBy (model prog w) A env λe s'=>R (.error e) s') s₃)
     (notedBy (model prog w) A env λe s'=>R (.error e) s') s6 else ∃ m,m<n∧I m s6) (notedBy (model prog w) A env λe s'=>R (.error e) s') s₂) (notedBy (model prog w) A env λe s'=>R (.error e) s') s5) (notedBy (model prog w) A env λe s'=>R (.error e) s') s₁) (notedBy (model prog w) A env λe s'=>R (.error e) s') s)
  (n:Nat) (h:I n s):codeAny (model prog w) A (.compLoop (.ListComp elt [#[target,iter,[c],0]] scope pos) 0 it acc env) R s:=by
 refine codeAny_loop rfl I (λn s hI=>?_) n h;show wpAny _ _ ((compTurn (.ListComp elt [#[target,iter,[c],0]] scope pos) 0 it acc env).onRaise (λx=>do noteFrame x env;theTreesLotGoes x)) _ _ s
 refine wpAny_noted ?_;rw[compTurn_list];refine wpAny_bind (wpAny_standAt (wpAny_bind (wpAny_mono (turn n s hI) (λr s₁ h₁=>?_) λ_ _ h'=>h')));cases r with
 | none=>exact wpAny_pure h₁
 | some v =>
  refine wpAny_bind (wpAny_mono h₁ (λ_ s5 h5=>?_) λ_ _ h'=>h');refine wpAny_bind (wpAny_mono h5 (λ_ s₂ h₂=>wpAny_bind (wpAny_mono (wpAny_tests_one h₂) (λok s₃ h₃=>?_) λ_ _ h'=>h')) λ_ _ h'=>h');cases ok with
  | false=>exact wpAny_pure #[rfl,h₃]
  | true =>
   exact wpAny_bind (wpAny_bind (wpAny_mono h₃ (λx s₄ h₄=>wpAny_bind (wpAny_mono h₄ (λ_ s₅ h₅=>wpAny_pure (wpAny_pure #[rfl,h₅])) λ_ _ h'=>h')) λ_ _ h'=>h'))
variable{scope:Scope}{cl:List (Str×Addr)}{x:Str}{idx:List Nat}{NC:List Str}{C:Addr}{fp:List Addr}{pins:List (Addr×Obj)}{σ:St}{H:Hp}{s:Shared}
noncomputable def Fs(wi:TI)(idx:List Nat)(tc:TT)(te:TE):TE:=λσ H Q=>wi σ H λJ H1=>∀ D,H1 D=none→∃ W:Nat→Nat→List V→Hp→Prop,(∃ m,W 0 m [] (upd H1 D (.lst [])))∧∀ i m ys H2,W i m ys H2→H2 D=some (.lst ys) ∧
 ((J.stop i H2∧Q (.ref D) H2)∨(J.go i H2∧ys.length<sizeLine∧∃ N:List V→Hp→Prop,(∀ zs H',N zs H'→∃ m',m'<m∧W (i+1) m' zs H')∧∀ y H3,J.yld i H2 y H3→tc (some y::fK σ idx) H3 λb H4=>if b=true then te (some y::fK σ idx) H4 λv H5=>H5 D=some (.lst ys)∧N (ys++[v]) (upd H5 D (.lst (ys++[v])))
  else N ys H4))
end
noncomputable def Ite(K:W.Frag)(a:Addr):It :=
 #[λi H=>∃ xs x,SqL K H a xs∧xs[i]?=some x,λi H y H'=>∃ t x,H t=none∧y=.ref t∧(∀ xs,SqL K H a xs→xs[i]?=some x)∧H'=upd H t (.tup [.int (i:Int),x]),λi H=>∃ xs,SqL K H a xs∧xs.length≤i]
theorem yI{P:Program}{w:World}{K:W.Frag}{es:List Expr}{x1:Nat}{pos:Pos}(a it e:Addr)(hne:e≠it) :
  Turn P w K (.Tuple es x1 pos) (Ite K a) [e,it] e (λi h=>∃ old,IsEnum h e it i old∧h.IsListIter it a i) where
 mem:=by simp
 obj:=λi h st b hb=>by
  obtain⟨old,h1,o,q,c,d⟩:=st;rcases NY.mp hb with z|z
  ·rw[z]
   exact#[_,h1,λv z=>by
    have z':Data.fields _=Data.cell v:=z;cases z']
  ·rw[NN.mp z]
   exact#[o,q,λv z=>by rw[d]at z;cases z]
 keep:=λi h h' st k=>by
  obtain⟨old,h1,h2⟩:=st;exact#[old,k e (by simp) _ h1,h2.at λo q=>k it (by simp) o q]
 item:=by
  intro X hP hw hK hc i pins s σ H E I hf st hg;subst hP hw hK;obtain⟨xs,x,hq,hx⟩:=hg;obtain⟨its,rv,p,hz⟩:=I.list hq;obtain⟨u,hu,ru⟩:=rv.get hx;obtain⟨old,he,hit⟩:=st;have fr:H s.heap.objs.size=none:=I.hok.fresh (NO _);refine wpAny_pyNext_enum_item he hit p.isList (x:=u) (by simpa using hu) hne λh1 heo IJ ht1 hz1 hk1=>#[_,rfl,wpAny_letOwnedTupleGo_enum heo λh2 he2 hs2=>?_];replace hs2:Heap.SameBut e h1 h2:=hs2;have hel:e<s.heap.objs.size:=NT he;have k2:∀ b o,b≠e→b≠it→s.heap.get? b=some o→h2.get? b=some o:=λb o z1 z2 q=>(hs2.2 b z1).trans (hk1 b o z1 z2 q);have ht2:h2.get? s.heap.objs.size=some {cls:=.type "tuple",data:=.seq (List.toArray [.int i s.toks,u])}:=(hs2.2 _ (OX hel)).trans ht1;have IK:h2.IsListIter it a (i+1):=IJ.extBut hs2.extBut (Oj hne);have nt:∀ b o,s.heap.get? b=some o→b≠s.heap.objs.size:=λb o q=>Oe (NT q);have nh:∀ b v,H b=some v→b≠s.heap.objs.size:=λb v q=>aj q fr;have ne':∀ b v,H b=some v→b≠e∧b≠it:=λb v q=>#[aj q (hf e (by simp)).1,aj q (hf it (by simp)).1];refine#[.ref s.heap.objs.size,upd H s.heap.objs.size (.tup [.int (i:Int),x]),?_,rfl,#[_,x,fr,rfl,λys hy=>by rw[I.pU hy hq];exact hx,rfl],#[_,he2,IK],λb hb=>?_]
  ·refine Inv.step (s:=s) (h':=h2) (t':=s.toks+1) (H:=H) (g':=s.gens) (d':=s.drawn) (ch:=[e,it]) I (λb hb=>#[(hf b hb).2.2.2.1,(hf b hb).2.1,(hf b hb).2.2.2.2.1,(hf b hb).2.2.2.2.2])
    (λb o _ _ z q _=>k2 b o (λy=>z (by simp[y])) (λy=>z (by simp[y])) q) (λb o _ _ z q _=>#[o.slots,k2 b o (λy=>z (by simp[y])) (λy=>z (by simp[y])) q])
    (λb o _ q n=>by rw[ab (nt b o q)];exact n) (λb o z q=>#[o,k2 b o (λy=>z (by simp[y])) (λy=>z (by simp[y])) q])
    (λb xs q=>by rw[ab (nh b _ q)];exact q) (λb o v q=>by rw[ab (nh b _ q)];exact q) (λb ps q=>#[#[],by rw[ab (nh b _ q),q];simp]) (λm hm=>?_) (λb v q=>?_) I.bare
   ·obtain⟨o,es',ep,ho,r⟩:=hm
    exact#[o,es',ep,k2 _ o (Oj (hf e (by simp)).2.1) (Oj (hf it (by simp)).2.1) ho,r]
   ·by_cases z:b=s.heap.objs.size
    ·subst z
     rw[ae]at q;cases q;exact#[by show 2≤sizeLine;decide,[.int i s.toks,u],.cons #[_,rfl] (.cons ru .nil),_,ht2,rfl,_,rfl]
    ·rw[ab z]at q
     refine(I.hok b v q).oJ (λc o hc w=>?_) (λc w=>by rw[ab (nh c _ w)];exact w) λc xs w=>by rw[ab (nh c _ w)];exact w
     rcases hc with y|y
     ·rw[y]at w ⊢
      exact k2 b o (ne' b v q).1 (ne' b v q).2 w
     ·exact k2 c o (ne' c _ y).1 (ne' c _ y).2 w
  ·have hb':b<s.heap.objs.size:=by
    rcases NY.mp hb with z|z
    ·rw[z];exact hel
    ·rw[NN.mp z]
     obtain⟨o,q,_⟩:=hit;exact NT q
   rw[ab (Oe hb')];exact(hf b hb).1
 done:=by
  intro X hP hw hK hc i pins s σ H E I hf st hg;subst hP hw hK;obtain⟨xs,hq,hx⟩:=hg;obtain⟨its,rv,p,hz⟩:=I.list hq;obtain⟨f0,f1,f2,f3,f4,f5⟩:=hf it (by simp);have hl:=rv.length;obtain⟨old,he,hit⟩:=st;exact wpAny_pyNext_enum_end (I.ok.hd hc) he hit p.isList (by simp;omega) λh' eb=>#[rfl,I.turned (t':=s.toks) (λb o hb q=>eb b o hb q) f0 f1 f3 f4 f5]
 self:=λA i s Q E st h=>by
  obtain⟨old,he,hit⟩:=st;exact wpAny_pyIter_enum he h
section
variable{X:Cx}{es:List Expr}{x1:Nat}{tp:Pos}
noncomputable def Jv(K:W.Frag)(ta:TA):TI:=λσ H R=>ta σ H λvs H1=>∃ a,vs=[.ref a]∧(∃ xs,SqL K H1 a xs)∧R (Ite K a) H1
theorem sY{a:Expr}{ta:TA}{p pos:Pos}(hg:Gl X "enumerate")(hm:X.mg "enumerate" = none)(ha:PA X [a] ta)(hs:starEach [a] X.env=[(false,eval a X.env)]:=by rfl):PI X (.Tuple es x1 tp) (.Call (.Name "enumerate" p) [a] [] pos) (Jv X.K ta):=by
 intro pins s σ H R I h;refine Call_ (nQ I hg hm PyProof.Rows.Boot.«enumerate» (PyProof.Rows.callWith_type1 (thn (ha pos pins s σ H _ I h) λus s1 ⟨vs,H1,I1,r1,q1⟩=>?_) hs rfl));obtain⟨l,e,⟨xs,hq⟩,q⟩:=q1;subst e;cases r1 with
 | cons r rr =>
  cases rr;cases r;obtain⟨its,rv,pl,hz⟩:=I1.list hq;refine call_enumerate_list pl.isList λh' he hit hsz hk=>?_;refine wpAny_pyIter_enum he ?_;refine#[s1.heap.objs.size+1,[s1.heap.objs.size+1,s1.heap.objs.size],_,_,H1,rfl,I1.kept (t':=s1.toks) hk,yI l s1.heap.objs.size (s1.heap.objs.size+1) (Nat.succ_ne_self _),#[_,he,hit],λb hb=>?_,q];have hb':s1.heap.objs.size≤b:=by
   rcases NY.mp hb with z|z
   ·rw[z];exact OW _
   ·rw[NN.mp z]
    exact NO _
  exact I1.xj hb' (I1.hok.fresh hb')
end
theorem p8{K:W.Frag}{a:Addr}{xs:List V}{g:TG}{tb:TS}{D:Ends}{σ:St}{H:Hp}(Pv:Nat→St→Hp→Prop)(h0:Pv 0 σ H)(hl:∀ i σ H,i≤xs.length→Pv i σ H→SqL K H a xs)
  (hs:∀ i x σ H t,xs[i]?=some x→Pv i σ H→H t=none→g (.ref t) σ (upd H t (.tup [.int (i:Int),x])) λσ2 H2=>tb {D with nx:=Pv (i+1),ct:=Pv (i+1),bk:=D.nx} σ2 H2) (hd:∀ σ H,Pv xs.length σ H→D.nx σ H) :
  ∃ W:Nat→Nat→St→Hp→Prop,(∃ m,W 0 m σ H)∧∀ i m σ H,W i m σ H →
   ((Ite K a).stop i H∧D.nx σ H)∨((Ite K a).go i H∧∃ N:St→Hp→Prop,(∀ σ' H',N σ' H'→∃ m',m'<m∧W (i+1) m' σ' H')∧∀ x H',(Ite K a).yld i H x H'→g x σ H' λσ2 H2=>tb {D with nx:=N,ct:=N,bk:=D.nx} σ2 H2):=by
 refine#[λi m σ H=>m=xs.length-i∧i≤xs.length∧Pv i σ H,#[xs.length,by simp,Oy _,h0],?_];rintro i m σ H ⟨rfl,hi,p⟩;by_cases hlt:i<xs.length
 ·refine .inr #[#[xs,xs[i],hl i σ H hi p,NJ hlt],Pv (i+1),λσ' H' p'=>#[xs.length-(i+1),by omega,rfl,hlt,p'],λx H' y=>?_]
  obtain⟨t,v,e1,e2,e3,e4⟩:=y;subst e2 e4;exact hs i v σ H t (e3 xs (hl i σ H hi p)) p e1
 ·have e:i=xs.length:=by omega
  subst e;exact .inl #[#[xs,hl _ σ H hi p,NO _],hd σ H p]
end L2
namespace L2
open PySem
theorem gB{K:W.Frag}{a:Addr}{xs:List V}{te:TE}{Q:VK}{D:Addr}{τ:St}{H:Hp}(Pv:Nat→List V→Hp→Prop)(h0:Pv 0 [] H)(hD:∀ i ys H,i≤xs.length→Pv i ys H→H D=some (.lst ys)∧ys.length=i)(hl:∀ i ys H,i≤xs.length→Pv i ys H→SqL K H a xs)(hn:xs.length≤sizeLine)
  (hs:∀ i x ys H,xs[i]?=some x→Pv i ys H→te (some x::τ) H λv H4=>H4 D=some (.lst ys)∧Pv (i+1) (ys++[v]) (upd H4 D (.lst (ys++[v])))) (hd:∀ ys H,Pv xs.length ys H→Q (.ref D) H):tN (Itl K a) D τ te Q H:=by
 refine#[λi m ys H=>m=xs.length-i∧i≤xs.length∧Pv i ys H,#[xs.length,by simp,Oy _,h0],?_];rintro i m ys H2 ⟨rfl,hi,p⟩;obtain⟨hd1,hd2⟩:=hD i ys H2 hi p;refine#[hd1,?_];by_cases hlt:i<xs.length
 ·refine .inr #[#[xs,xs[i],hl i ys H2 hi p,NJ hlt],by omega,Pv (i+1),λzs H' p'=>#[xs.length-(i+1),by omega,rfl,hlt,p'],λy H3 e=>?_]
  obtain⟨e1,e2⟩:=e;subst e1;exact hs i y ys _ (e2 xs (hl i ys _ hi p)) p
 ·have e:i=xs.length:=by omega
  subst e;exact .inl #[#[xs,hl _ ys H2 hi p,NO _],hd ys H2 p]
end L2
end
section
namespace L2
open PySem PySem.Spec PyProof.Rows LX
noncomputable def xy(sc:Scope)(names:List (Str×NameKind)):List (Str×NameKind):=names.map λ(n,k)=>if(k == .free&&sc.kind == .function&&sc.names.lookup n == some .cell) then(n,.cell) else(n,k)
noncomputable def vD(sc scope:Scope)(x:Str)(ns N:List Str)(idx:List Nat):Prop :=
 (∀ y∈scope.names,y.2≠.cell)∧(∀ y∈scope.names,y.2=.local→scope.names.lookup y.1=some .local)∧scope.names.lookup x=some .local∧(∀ p∈xy sc scope.names,p.2=.cell∨p.2=.free→p.1∈ns)∧(x::idx.map λi=>N.getD i x).Nodup ∧
 ∀ i∈idx,i<N.length∧((sc.names.lookup (N.getD i x)=some .cell∨sc.names.lookup (N.getD i x)=some .free)∧((xy sc scope.names).lookup (N.getD i x)=some .cell∨(xy sc scope.names).lookup (N.getD i x)=some .free))
noncomputable instance (sc scope:Scope) (x:Str) (ns N:List Str) (idx:List Nat):Decidable (vD sc scope x ns N idx):=by unfold vD;infer_instance
theorem iR{y:Str}:∀ {cl:List (Str×Addr)},y∈cl.map (·.1)→∃ c,cl.lookup y=some c
 | [],h=>by simp at h
 | (n,c)::r,h=>by
  by_cases e:y=n
  ·exact#[c,by simp[List.lookup,e]]
  ·have h':y∈r.map (·.1):=by
    rw[Oo]at h;rcases NY.mp h with z|z
    ·exact absurd z e
    ·exact z
   obtain⟨c',q⟩:=iR h';have hb:(y == n)=false:=beq_eq_false_iff_ne.mpr e;exact#[c',by simp only[List.lookup,hb];exact q]
theorem gn{X:Cx}{sc scope:Scope}{cl:List (Str×Addr)}{x:Str}{ns N:List Str}{idx:List Nat}(hsc:X.env.scope=sc)(hN:X.N=N)(hk:scope.kind=.function)(p:vD sc scope x ns N idx)(hn:cl.map (·.1)=ns)
  (CG:closureFor scope X.env=pure cl) (xA:∀ q∈cl,X.env.cells.lookup q.1=some q.2):ju X scope cl x idx (x::idx.map λi=>N.getD i x):=by
 obtain⟨p1,p2,p3,p4,p5,p6⟩:=p;have re:(relabel scope X.env).names=xy sc scope.names:=by subst hsc;rfl
 subst hsc hN hn;refine#[CG,λy c q=>xA (y,c) (Oz q),λy h=>?_,p1,hk,p2,p3,rfl,p5,λi hi=>?_]
 ·rw[re]at h
  refine iR ?_;rcases h with h|h
  ·exact p4 (y,.cell) (Oz h) (.inl rfl)
  ·exact p4 (y,.free) (Oz h) (.inr rfl)
 ·rw[re]
  exact p6 i hi
theorem qX{P:Program}{w:World}{X:Cx}:bK (CXE P w) X (λ_ _ _ _=>False):=λ_ _ _ _ _ _ _ ⟨_,_,_,_,_,_,_,_,_,q⟩=>q.elim
section
variable{X:Cx}{scope:Scope}{cl:List (Str×Addr)}{x:Str}{idx:List Nat}{NC:List Str}{pins:List (Addr×Obj)}{σ:St}{H:Hp}{s:Shared}
theorem xB{i:Nat}{y:Str}{elt iter:Expr}{px py pos xC:Pos}{wi:TI}{te:TE}(hN:X.N.Nodup)(hi':X.N[i]?=some y)(hx:X.env.scope.names.lookup y=some .local)(c:ju X scope cl x idx NC)(hc:X.calm=true)(hi:PI X (.Name x px) iter wi)
  (he:∀ C fp s₀ H₀,PE (cxC X scope cl NC C fp s₀ H₀) elt te) (hsw:swapsWith (.ListComp elt [#[.Name x px,iter,[],0]] scope pos) (some (.Name y py)) xC.line X.env=pure true:=by rfl)
  (hs:∀ x,foldedSetIterable iter X.env x=pure x:=by intro _;rfl):PS X (.Assign [.Name y py] (.ListComp elt [#[.Name x px,iter,[],0]] scope pos) xC) (zX (ED wi idx te) (gw i)):=by
 intro pins s σ H D0 I h;rw[exec_Assign_Name_used _ _ _ _ hsw];refine wpAny_bind (wpAny_standAt (wpAny_bind ?_));show wpAny _ _ (do let _ ←comprehension (.ListComp elt [#[.Name x px,iter,[],0]] scope pos) scope X.env _ (newList []) false (eval iter X.env) (some (assign (.Name y py) X.env))) _ _ s
 refine wpAny_bind (wpAny_mono (wpAny_comprehension_free (use:=some (assign (.Name y py) X.env)) (Q:=λ_ s'=>SP X pins D0 .next s') rfl hs c.Dm c.kind c.loc
  (thn (hi pins s σ H _ I h) λv s1 h1=>thn h1 λitv s2 h2=>?_)) (λ_ s' hq=>wpAny_pure (wpAny_pure hq)) λ_ _ e=>e)
 obtain⟨it,fp,tn,J,H2,rfl,I2,T,st2,f2,q⟩:=h2;refine wpAny_newObj_type (wpAny_newFunctionEnv c.qr (by intro y hy;simp at hy) (λh₁ hns₁ hsb₁=>?_) c.kind);dsimp only at hns₁ hsb₁ ⊢;have I3:Inv X pins σ (upd H2 s2.heap.objs.size (.lst [])) {s2 with heap:=s2.heap.push {cls:=.type "list",data:=.seq ([]:List Value).toArray},toks:=s2.toks}:=I2.z6 (ys:=[]) (its:=[]) .nil (Oy _);obtain⟨W,⟨m0,w0⟩,turn⟩:=q s2.heap.objs.size I2.fresh;generalize hD:s2.heap.objs.size=D at *;generalize hH:s2.heap.push {cls:=.type "list",data:=.seq ([]:List Value).toArray}=h3 at *;have sX:∀ b∈fp,b<D:=λb hb=>by
  obtain⟨o,e,_⟩:=T.obj _ _ st2 b hb;rw[←hD];exact NT e
 have hlt:∀ b∈fp,b<h3.objs.size:=λb hb=>by
  rw[←hH,OI,hD];exact Pw (sX b hb)
 have hf:∀ b∈fp,kF X pins (upd H2 D (.lst [])) b:=λb hb=>#[by rw[ab (Oe (sX b hb))];exact(f2 b hb).1,(f2 b hb).2];have kp:∀ b o,h3.get? b=some o→h₁.get? b=some o:=λb o e=>hsb₁.extBut b o (Oe (NT e)) (NL _ e);have I4:Inv (cxC X scope cl NC h3.objs.size fp {s2 with heap:=h3,toks:=s2.toks} (upd H2 D (.lst []))) [] (none::fK σ idx) (upd H2 D (.lst [])) {s2 with heap:=h₁,toks:=s2.toks+([]:List (Str×Value)).length} :=
  p7 (s:={s2 with heap:=h3,toks:=s2.toks}) c I3 hf hlt hns₁ kp
 have jP:∀ {H':Hp},(∀ b∈fp,H' b=none)→∀ b∈fp,kF (cxC X scope cl NC h3.objs.size fp {s2 with heap:=h3,toks:=s2.toks} (upd H2 D (.lst []))) [] H' b:=λhn b hb =>
  #[hn b hb,Oe (hlt b hb),λz=>(NY.mp (I3.ib b z)).elim (hf b hb).2.1 (hf b hb).2.2.1,.inl hb,λy a q=>(hf b hb).2.2.2.2.1 y a (c.sub _ _ q),λp hp=>(by cases hp)]
 have st1:tn 0 h₁:=T.keep 0 _ _ st2 λb hb o e=>kp b o (by rw[←hH];exact NL _ e);have loop:∀ s4:Shared,s4={s2 with heap:=h₁,toks:=s2.toks+([]:List (Str×Value)).length} →
   codeAny (model X.prog X.w) X.A (.compLoop (.ListComp elt [#[.Name x px,iter,[],0]] scope pos) 0 (.ref it) (.ref D) (compEnvC scope cl h3.objs.size X.env)) (compPost (model X.prog X.w) X.A X.xe (some (assign (.Name y py) X.env)) (λ_ s'=>SP X pins D0 .next s') (.ref D) h3.objs.size) s4:=by
  rintro s4 rfl;refine gT (λn s'=>∃ i ys H' v0,Inv (cxC X scope cl NC h3.objs.size fp {s2 with heap:=h3,toks:=s2.toks} (upd H2 D (.lst []))) [] (v0::fK σ idx) H' s'∧tn i s'.heap∧(∀ b∈fp,H' b=none)∧W i n ys H')
   ?_ m0 #[0,[],_,none,I4,st1,λb hb=>(hf b hb).1,w0]
  rintro n s5 ⟨i5,ys,H5,v0,I5,st5,fr5,w5⟩;obtain⟨hDl,alt⟩:=turn i5 n ys H5 w5;rcases alt with⟨stop,qn⟩|⟨go,hz,N,hN',step⟩
  ·refine thn (T.done (cxC X scope cl NC h3.objs.size fp {s2 with heap:=h3,toks:=s2.toks} (upd H2 D (.lst []))) rfl rfl rfl hc i5 [] s5 _ H5 _ I5 (jP fr5) st5 stop) λr s6 ⟨hr,I6⟩=>?_
   subst hr;obtain⟨m,ns6,_⟩:=id I6.loc;have J6:Inv X pins σ H5 s6:=I3.tH (ch:=fp) I6.os I6.base I6.hok I6.bare λb hb=>#[(hf b hb).2.2.2.1,(hf b hb).2.1,(hf b hb).2.2.2.2.1,(hf b hb).2.2.2.2.2];have fC:kF X pins H5 h3.objs.size:=I3.xj (NO _) I6.free;obtain⟨o,es,ep,ho,rr⟩:=ns6;have od:∀ v,o.data≠.cell v:=λv z=>by
    rw[rr.1]at z;cases z
   show wpAny _ _ (assign (.Name y py) X.env (.ref D)) (λ_ s''=>∃ m,s''.heap.Ns h3.objs.size m∧∀ h',Heap.SameBut h3.objs.size s''.heap h'→SP X pins D0 .next {s'' with heap:=h'}) X.xe s6;have J7:=J6.pinned (fp:=[h3.objs.size]) (λb hb=>by rw[NN.mp hb];exact fC) (λb hb=>by rw[NN.mp hb];exact#[o,ho,od]);refine wpAny_mono (bc (pos:=py) hN hi' (.inl hx) (.inr hx) _ s6 _ H5 (.ref D) (.ref D) D0.nx J7 rfl qn) (λ_ s7 ⟨σ7,H7,I7,q7⟩=>?_) (λ_ _ z=>z);have pC:=I7.pin (h3.objs.size,o) (NS _ (NS _ (bt (NN.mpr rfl) ho)));refine#[m,#[o,es,ep,pC.1,rr],λh' hs'=>#[σ7,H7,?_,q7]];exact I7.cX.turned (t':=s7.toks) (it:=h3.objs.size) (λb o hb e=>hs'.extBut b o hb e) pC.2.1 fC.2.1 fC.2.2.2.1 fC.2.2.2.2.1 fC.2.2.2.2.2
  ·refine thn (T.item (cxC X scope cl NC h3.objs.size fp {s2 with heap:=h3,toks:=s2.toks} (upd H2 D (.lst []))) rfl rfl rfl hc i5 [] s5 _ H5 _ I5 (jP fr5) st5 go) λr s6 ⟨u,hr,h6⟩=>?_
   subst hr;refine thn h6 λ_ s7 ⟨y,H7,I7,r7,y7,st7,fr7⟩=>?_;have I7':=I7.pinned (jP fr7) (T.obj _ _ st7);have hnl:(relabel scope X.env).names.lookup x=some .local:=lookup_relabel_local c.xl;refine wpAny_mono (bc (X:=cxC X scope cl NC h3.objs.size fp {s2 with heap:=h3,toks:=s2.toks} (upd H2 D (.lst []))) (i:=0) (x:=x) (pos:=px) c.nd (by show NC[0]?=some x;rw[c.nc];rfl) (.inl hnl) (.inr hnl) _ s7 _ H7 y u
    (λσ' H'=>σ'=some y::fK σ idx∧H'=H7) I7' r7 #[rfl,rfl]) (λ_ s8 ⟨σ8,H8,I8,e8,e8'⟩=>?_) λ_ _ z=>z.elim
   subst e8 e8';refine wpAny_mono (he _ _ _ _ _ s8 _ H8 _ I8 (step y H8 y7)) (λw s9 ⟨v,H9,I9,r9,hD9,n9⟩=>?_) λ_ _ z=>z.elim;obtain⟨m',hm,w9⟩:=hN' _ _ n9;refine wpAny_mono (lg (X:=(cxC X scope cl NC h3.objs.size fp {s2 with heap:=h3,toks:=s2.toks} (upd H2 D (.lst [])))) I9 hD9 hz r9) (λ_ s10 I10=>?_) λ_ _ z=>z.elim;refine#[m',hm,i5+1,ys++[v],_,some y,I10.cX,T.keep _ _ _ st7 λb hb o e=>(I10.pin (b,o) (NS _ (NS _ (bt hb e)))).1,λb hb=>?_,w9];obtain⟨o,e,d⟩:=T.obj _ _ st7 b hb;exact(I10.pin (b,o) (NS _ (NS _ (bt hb e)))).2.1
 exact codeAny_compStart_list (loop _ rfl) (T.self _ 0 _ _ _ st1 (loop _ rfl))
end
theorem xD:∀ {us:List Value} {ks:List Int},us.length=ks.length→(∀(j:Nat) (v:Value),us[j]?=some v→∃ t,v=Value.int (ks.getD j 0) t)→IntsAre us ks
 | [],[],_,_=>.nil
 | [],_::_,h,_=>by simp at h
 | _::_,[],h,_=>by simp at h
 | u::us,k::ks,h,f=>by
  obtain⟨t,e⟩:=f 0 u rfl;subst e;exact .cons k t (xD (by simpa using h) λj v q=>f (j+1) v q)
section
variable{X:Cx}
theorem yJ{P:Program}{w:World}{vs:List (Key×Value)}{ks:List Int}{acc:Array Value}(hk:vs.map (·.1)=ks.map Sum.inl)(ha:acc.size=vs.length)(h:∀(j:Nat) (v:Value),acc[j]?=some v→∃ k x,vs[j]?=some (k,x)∧(a7 P w).is k v=true):IntsAre acc.toList ks:=by
 have hl:vs.length=ks.length:=by
  have:=congrArg List.length hk
  simpa using this
 refine xD (by rw[Ov];omega) λj v e=>?_;obtain⟨k,x,h1,h2⟩:=h j v (by rw[←Array.getElem?_toList];exact e);have h3:(vs.map (·.1))[j]?=some k:=by rw[N0,h1];rfl
 rw[hk,N0]at h3;obtain⟨i,hi,rfl⟩:=Ol.mp h3;have h4:gU (.inl i) v=true:=h2;rcases aW h4 with⟨i',t,e1,e2⟩|⟨y,t,e1,_⟩
 ·injection e1 with e1
  subst e1;exact#[t,by rw[e2];simp[List.getD,hi]]
 ·cases e1
end
theorem yK{xs ys:List Int}(p:xs.Perm ys)(hx:xs.Pairwise (·≤·))(hy:ys.Pairwise (·≤·)):xs=ys :=
 p.eq_of_pairwise (λa b _ _ h1 h2=>Int.le_antisymm h1 h2) hx hy
theorem Bz{v:V}(h:cQ v=true):eqV v v=true:=by
 cases v with
 | non=>rfl
 | bl b=>cases b<;>rfl
 | int n=>simp[eqV]
 | str z=>simp[eqV]
 | _=>exact absurd (show false=true from h) NQ
section
variable{X:Cx}
end
section
variable{X:Cx}{tg:Expr}
end
section
variable{X:Cx}{scope:Scope}{cl:List (Str×Addr)}{x:Str}{idx:List Nat}{NC:List Str}{pins:List (Addr×Obj)}{σ:St}{H:Hp}{s:Shared}
theorem Aq{i:Nat}{y:Str}{elt iter ct:Expr}{px py pos xC:Pos}{wi:TI}{tc:TT}{te:TE}(hN:X.N.Nodup)(hi':X.N[i]?=some y)(hx:X.env.scope.names.lookup y=some .local)(c:ju X scope cl x idx NC)(hc:X.calm=true)(hi:PI X (.Name x px) iter wi)
  (ht:∀ C fp s₀ H₀,PT (cxC X scope cl NC C fp s₀ H₀) ct tc) (he:∀ C fp s₀ H₀,PE (cxC X scope cl NC C fp s₀ H₀) elt te) (hsw:swapsWith (.ListComp elt [#[.Name x px,iter,[ct],0]] scope pos) (some (.Name y py)) xC.line X.env=pure true:=by rfl)
  (hs:∀ x,foldedSetIterable iter X.env x=pure x:=by intro _;rfl):PS X (.Assign [.Name y py] (.ListComp elt [#[.Name x px,iter,[ct],0]] scope pos) xC) (zX (Fs wi idx tc te) (gw i)):=by
 intro pins s σ H D0 I h;rw[exec_Assign_Name_used _ _ _ _ hsw];refine wpAny_bind (wpAny_standAt (wpAny_bind ?_));show wpAny _ _ (do let _ ←comprehension (.ListComp elt [#[.Name x px,iter,[ct],0]] scope pos) scope X.env _ (newList []) false (eval iter X.env) (some (assign (.Name y py) X.env))) _ _ s
 refine wpAny_bind (wpAny_mono (wpAny_comprehension_free (use:=some (assign (.Name y py) X.env)) (Q:=λ_ s'=>SP X pins D0 .next s') rfl hs c.Dm c.kind c.loc
  (thn (hi pins s σ H _ I h) λv s1 h1=>thn h1 λitv s2 h2=>?_)) (λ_ s' hq=>wpAny_pure (wpAny_pure hq)) λ_ _ e=>e)
 obtain⟨it,fp,tn,J,H2,rfl,I2,T,st2,f2,q⟩:=h2;refine wpAny_newObj_type (wpAny_newFunctionEnv c.qr (by intro y hy;simp at hy) (λh₁ hns₁ hsb₁=>?_) c.kind);dsimp only at hns₁ hsb₁ ⊢;have I3:Inv X pins σ (upd H2 s2.heap.objs.size (.lst [])) {s2 with heap:=s2.heap.push {cls:=.type "list",data:=.seq ([]:List Value).toArray},toks:=s2.toks}:=I2.z6 (ys:=[]) (its:=[]) .nil (Oy _);obtain⟨W,⟨m0,w0⟩,turn⟩:=q s2.heap.objs.size I2.fresh;generalize hD:s2.heap.objs.size=D at *;generalize hH:s2.heap.push {cls:=.type "list",data:=.seq ([]:List Value).toArray}=h3 at *;have sX:∀ b∈fp,b<D:=λb hb=>by
  obtain⟨o,e,_⟩:=T.obj _ _ st2 b hb;rw[←hD];exact NT e
 have hlt:∀ b∈fp,b<h3.objs.size:=λb hb=>by
  rw[←hH,OI,hD];exact Pw (sX b hb)
 have hf:∀ b∈fp,kF X pins (upd H2 D (.lst [])) b:=λb hb=>#[by rw[ab (Oe (sX b hb))];exact(f2 b hb).1,(f2 b hb).2];have kp:∀ b o,h3.get? b=some o→h₁.get? b=some o:=λb o e=>hsb₁.extBut b o (Oe (NT e)) (NL _ e);have I4:Inv (cxC X scope cl NC h3.objs.size fp {s2 with heap:=h3,toks:=s2.toks} (upd H2 D (.lst []))) [] (none::fK σ idx) (upd H2 D (.lst [])) {s2 with heap:=h₁,toks:=s2.toks+([]:List (Str×Value)).length} :=
  p7 (s:={s2 with heap:=h3,toks:=s2.toks}) c I3 hf hlt hns₁ kp
 have jP:∀ {H':Hp},(∀ b∈fp,H' b=none)→∀ b∈fp,kF (cxC X scope cl NC h3.objs.size fp {s2 with heap:=h3,toks:=s2.toks} (upd H2 D (.lst []))) [] H' b:=λhn b hb =>
  #[hn b hb,Oe (hlt b hb),λz=>(NY.mp (I3.ib b z)).elim (hf b hb).2.1 (hf b hb).2.2.1,.inl hb,λy a q=>(hf b hb).2.2.2.2.1 y a (c.sub _ _ q),λp hp=>(by cases hp)]
 have st1:tn 0 h₁:=T.keep 0 _ _ st2 λb hb o e=>kp b o (by rw[←hH];exact NL _ e);have loop:∀ s4:Shared,s4={s2 with heap:=h₁,toks:=s2.toks+([]:List (Str×Value)).length} →
   codeAny (model X.prog X.w) X.A (.compLoop (.ListComp elt [#[.Name x px,iter,[ct],0]] scope pos) 0 (.ref it) (.ref D) (compEnvC scope cl h3.objs.size X.env)) (compPost (model X.prog X.w) X.A X.xe (some (assign (.Name y py) X.env)) (λ_ s'=>SP X pins D0 .next s') (.ref D) h3.objs.size) s4:=by
  rintro s4 rfl;refine qt (λn s'=>∃ i ys H' v0,Inv (cxC X scope cl NC h3.objs.size fp {s2 with heap:=h3,toks:=s2.toks} (upd H2 D (.lst []))) [] (v0::fK σ idx) H' s'∧tn i s'.heap∧(∀ b∈fp,H' b=none)∧W i n ys H')
   ?_ m0 #[0,[],_,none,I4,st1,λb hb=>(hf b hb).1,w0]
  rintro n s5 ⟨i5,ys,H5,v0,I5,st5,fr5,w5⟩;obtain⟨hDl,alt⟩:=turn i5 n ys H5 w5;rcases alt with⟨stop,qn⟩|⟨go,hz,N,hN',step⟩
  ·refine thn (T.done (cxC X scope cl NC h3.objs.size fp {s2 with heap:=h3,toks:=s2.toks} (upd H2 D (.lst []))) rfl rfl rfl hc i5 [] s5 _ H5 _ I5 (jP fr5) st5 stop) λr s6 ⟨hr,I6⟩=>?_
   subst hr;obtain⟨m,ns6,_⟩:=id I6.loc;have J6:Inv X pins σ H5 s6:=I3.tH (ch:=fp) I6.os I6.base I6.hok I6.bare λb hb=>#[(hf b hb).2.2.2.1,(hf b hb).2.1,(hf b hb).2.2.2.2.1,(hf b hb).2.2.2.2.2];have fC:kF X pins H5 h3.objs.size:=I3.xj (NO _) I6.free;obtain⟨o,es,ep,ho,rr⟩:=ns6;have od:∀ v,o.data≠.cell v:=λv z=>by
    rw[rr.1]at z;cases z
   show wpAny _ _ (assign (.Name y py) X.env (.ref D)) (λ_ s''=>∃ m,s''.heap.Ns h3.objs.size m∧∀ h',Heap.SameBut h3.objs.size s''.heap h'→SP X pins D0 .next {s'' with heap:=h'}) X.xe s6;have J7:=J6.pinned (fp:=[h3.objs.size]) (λb hb=>by rw[NN.mp hb];exact fC) (λb hb=>by rw[NN.mp hb];exact#[o,ho,od]);refine wpAny_mono (bc (pos:=py) hN hi' (.inl hx) (.inr hx) _ s6 _ H5 (.ref D) (.ref D) D0.nx J7 rfl qn) (λ_ s7 ⟨σ7,H7,I7,q7⟩=>?_) (λ_ _ z=>z);have pC:=I7.pin (h3.objs.size,o) (NS _ (NS _ (bt (NN.mpr rfl) ho)));refine#[m,#[o,es,ep,pC.1,rr],λh' hs'=>#[σ7,H7,?_,q7]];exact I7.cX.turned (t':=s7.toks) (it:=h3.objs.size) (λb o hb e=>hs'.extBut b o hb e) pC.2.1 fC.2.1 fC.2.2.2.1 fC.2.2.2.2.1 fC.2.2.2.2.2
  ·refine thn (T.item (cxC X scope cl NC h3.objs.size fp {s2 with heap:=h3,toks:=s2.toks} (upd H2 D (.lst []))) rfl rfl rfl hc i5 [] s5 _ H5 _ I5 (jP fr5) st5 go) λr s6 ⟨u,hr,h6⟩=>?_
   subst hr;refine thn h6 λ_ s7 ⟨y,H7,I7,r7,y7,st7,fr7⟩=>?_;have I7':=I7.pinned (jP fr7) (T.obj _ _ st7);have hnl:(relabel scope X.env).names.lookup x=some .local:=lookup_relabel_local c.xl;refine wpAny_mono (bc (X:=cxC X scope cl NC h3.objs.size fp {s2 with heap:=h3,toks:=s2.toks} (upd H2 D (.lst []))) (i:=0) (x:=x) (pos:=px) c.nd (by show NC[0]?=some x;rw[c.nc];rfl) (.inl hnl) (.inr hnl) _ s7 _ H7 y u
    (λσ' H'=>σ'=some y::fK σ idx∧H'=H7) I7' r7 #[rfl,rfl]) (λ_ s8 ⟨σ8,H8,I8,e8,e8'⟩=>?_) λ_ _ z=>z.elim
   subst e8 e8';refine wpAny_mono (ht _ _ _ _ _ s8 _ H8 _ I8 (step y H8 y7)) (λbb s11 ⟨H11,I11,q11⟩=>?_) λ_ _ z=>z.elim;have fin:∀ {H12:Hp} {s12:Shared} {zs:List V} {m':Nat},Inv (cxC X scope cl NC h3.objs.size fp {s2 with heap:=h3,toks:=s2.toks} (upd H2 D (.lst []))) ([]++ql fp s7.heap) (some y::fK σ idx) H12 s12→m'<n→W (i5+1) m' zs H12 →
     ∃ m,m<n∧∃ i ys H' v0,Inv (cxC X scope cl NC h3.objs.size fp {s2 with heap:=h3,toks:=s2.toks} (upd H2 D (.lst []))) [] (v0::fK σ idx) H' s12∧tn i s12.heap∧(∀ b∈fp,H' b=none)∧W i m ys H':=λ{H12 s12 zs m'} I12 hm w12=>by
    refine#[m',hm,i5+1,zs,_,some y,I12.cX,T.keep _ _ _ st7 λb hb o e=>(I12.pin (b,o) (NS _ (NS _ (bt hb e)))).1,λb hb=>?_,w12];obtain⟨o,e,d⟩:=T.obj _ _ st7 b hb;exact(I12.pin (b,o) (NS _ (NS _ (bt hb e)))).2.1
   cases bb with
   | false =>
    obtain⟨m',hm,w9⟩:=hN' _ _ q11;exact fin I11 hm w9
   | true =>
    refine wpAny_mono (he _ _ _ _ _ s11 _ H11 _ I11 q11) (λw s9 ⟨v,H9,I9,r9,hD9,n9⟩=>?_) λ_ _ z=>z.elim;obtain⟨m',hm,w9⟩:=hN' _ _ n9;refine wpAny_mono (lg (X:=(cxC X scope cl NC h3.objs.size fp {s2 with heap:=h3,toks:=s2.toks} (upd H2 D (.lst [])))) I9 hD9 hz r9) (λ_ s10 I10=>?_) λ_ _ z=>z.elim;exact fin I10 hm w9
 exact codeAny_compStart_list (loop _ rfl) (T.self _ 0 _ _ _ st1 (loop _ rfl))
noncomputable def xE(J:It)(D:Addr)(τ:St)(tc:TT)(te:TE)(Q:VK)(H:Hp):Prop:=∃ W:Nat→Nat→List V→Hp→Prop,(∃ m,W 0 m [] H)∧∀ i m ys H2,W i m ys H2→H2 D=some (.lst ys) ∧
 ((J.stop i H2∧Q (.ref D) H2)∨(J.go i H2∧ys.length<sizeLine∧∃ N:List V→Hp→Prop,(∀ zs H',N zs H'→∃ m',m'<m∧W (i+1) m' zs H')∧∀ y H3,J.yld i H2 y H3→tc (some y::τ) H3 λb H4=>if b=true then te (some y::τ) H4 λv H5=>H5 D=some (.lst ys)∧N (ys++[v]) (upd H5 D (.lst (ys++[v])))
  else N ys H4))
noncomputable def Ft(wi:TI)(idx:List Nat)(tc:TT)(te:TE):TE:=λσ H Q=>wi σ H λJ H1=>∀ D,H1 D=none→xE J D (fK σ idx) tc te Q (upd H1 D (.lst []))
theorem Ar{i:Nat}{y:Str}{elt iter ct:Expr}{px py pos xC:Pos}{wi:TI}{tc:TT}{te:TE}(hN:X.N.Nodup)(hi':X.N[i]?=some y)(hx:X.env.scope.names.lookup y=some .local)(c:ju X scope cl x idx NC)(hc:X.calm=true)(hi:PI X (.Name x px) iter wi)
  (ht:∀ C fp s₀ H₀,PT (cxC X scope cl NC C fp s₀ H₀) ct tc) (he:∀ C fp s₀ H₀,PE (cxC X scope cl NC C fp s₀ H₀) elt te) (hsw:swapsWith (.ListComp elt [#[.Name x px,iter,[ct],0]] scope pos) (some (.Name y py)) xC.line X.env=pure true:=by rfl)
  (hs:∀ x,foldedSetIterable iter X.env x=pure x:=by intro _;rfl):PS X (.Assign [.Name y py] (.ListComp elt [#[.Name x px,iter,[ct],0]] scope pos) xC) (zX (Ft wi idx tc te) (gw i)) :=
 Aq hN hi' hx c hc hi ht he hsw hs
end
end L2
end
section
namespace L2
open PySem PySem.Spec PyProof.Rows LX
section
variable{P:Program}{w:World}{A:Around}{E:Value→Shared→Prop}{s:Shared}{a:Addr}{S:Int→Bool}{n:Nat}
end
end L2
end
section
namespace L2
open PySem PySem.Spec PyProof.Rows LX
section
variable{P:Program}{w:World}{A:Around}{R:Result→Shared→Prop}{I:Addr}{fp wr:List Addr}{G:Array GenState→Array GenState→Prop}{n:Nat}{p:Nat→Value→Prop}{St:Nat→Shared→Prop}
end
section
variable{P:Program}{w:World}{A:Around}{E:Value→Shared→Prop}{s:Shared}
end
section
variable{P:Program}{w:World}{A:Around}{E:Value→Shared→Prop}{s:Shared}{it a:Addr}{first:Value}{i n ep:Nat}
theorem vE{α:Type}{Q:α→Shared→Prop}(hh:A.handled=none)(q:∀ h' e,(∀ b o,s.heap.get? b=some o→h'.get? b=some o)→(∃ o,h'.get? e=some o∧o.cls=.type "StopIteration")→E (.ref e) {s with heap:=h'}) :
  wpAny (model P w) A (newExc (.type "StopIteration") [] >>= λe=>(raiseNew e:Sem α)) Q E s:=by
 refine wpAny_bind ?_;simp only[newExc,newTuple];refine wpAny_bind (wpAny_newObj_type ?_ (by size_fits));refine wpAny_bind (m:=firstArgMember _ _) (wpAny_of_eq (a:=Value.none) (by first|rfl|(simp only[firstArgMember];rfl)) (wpAny_newObj_type ?_ (by size_fits)));simp only[raiseNew];refine wpAny_bind (wpAny_handled ?_);rw[hh];exact wpAny_bind (wpAny_pure (wpAny_throw (q _ _ (λb o e=>NL _ (NL _ e)) #[_,Oc _ rfl,rfl])))
end
section
variable{P:Program}{w:World}{A:Around}{E:Value→Shared→Prop}{s:Shared}{it a:Addr}{first:Value}{i n ep:Nat}{es:Array (Int×Value)}{t:SetTable}
end
section
variable{P:Program}{w:World}{A:Around}{E:Value→Shared→Prop}{s:Shared}{I a:Addr}{ep:Nat}{es:Array (Int×Value)}{t:SetTable}{sl:Nat→Nat}{vs:List Value}
end
end L2
end
section
namespace L2
open PySem PySem.Spec PyProof.Rows LX PySem.W
section
variable{P:Program}{w:World}{A:Around}{E:Value→Shared→Prop}{s:Shared}{a:Addr}{ep:Nat}{es:Array (Int×Value)}{t:SetTable}
end
section
variable{P:Program}{w:World}{A:Around}{E:Value→Shared→Prop}{s:Shared}{a:Addr}{ep:Nat}{es:Array (Int×Value)}{t:SetTable}
end
section
variable{X:Cx}
end
end L2
end
section
namespace L2
open PySem PySem.Spec PyProof.Rows LX
section
variable{X:Cx}{pins:List (Addr×Obj)}{σ:St}{H:Hp}{s:Shared}{d:Addr}{kvs:List (Key×V)}
theorem Inv.frozen(I:Inv X pins σ H s)(hd:H d=some (.dK kvs)):∃ o,Inv X pins σ (upd H d (.frz o (.dK kvs))) s:=by
 obtain⟨hz,h0,vs,rel,o,es,ep,ho,r⟩:=CC I.hok hd;have nn:∀ {b:Addr},H b=none→upd H d (.frz o (.dK kvs)) b=none:=λ{b} q=>by
  rw[ab λz=>by rw[z,hd]at q;cases q];exact q
 have ns:∀ {b:Addr} {u:HO},H b=some u→u≠.dK kvs→upd H d (.frz o (.dK kvs)) b=some u:=λ{b u} q n=>by
  rw[ab λz=>n (by rw[z,hd]at q;exact(Oh q).symm)];exact q
 refine#[o,I.ok,I.os,I.bare,#[I.base.keep,I.base.slot,λb ob q n e=>nn (I.base.free b ob q n e),I.base.there,λb xs q=>ns (I.base.oK b xs q) (by intro z;cases z),λb ob u q=>ns (I.base.nV b ob u q) (by intro z;cases z),λb ps q=>?_],I.loc,I.cell,nn I.free,λx c q=>nn (I.dc x c q),λp hp=>?_,λa u q=>?_,I.len]
 ·obtain⟨more,q'⟩:=I.base.oO b ps q
  exact#[more,ns q' (by intro z;cases z)]
 ·obtain⟨p1,p2,p3⟩:=I.pin p hp
  exact#[p1,nn p2,p3]
 ·have st:∀ {a:Addr} {u:HO},bT X.prog X.w H s.heap a u→bT X.prog X.w (upd H d (.frz o (.dK kvs))) s.heap a u:=λx=>x.oJ (λ_ _ _ z=>z) (λb z=>ns z (by intro y;cases y)) λb xs z=>ns z (by intro y;cases y)
  by_cases e:a=d
  ·subst e
   rw[ae]at q;cases q;exact#[ho,st (I.hok a _ hd)]
  ·rw[ab e]at q
   exact st (I.hok a u q)
noncomputable def My(te:TE):TE:=λσ H Q=>te σ H λv H1=>∃ d kvs,H1 d=some (.dK kvs)∧∀ o,Q v (upd H1 d (.frz o (.dK kvs)))
theorem qu{e:Expr}{te:TE}(h:PE X e te):PE X e (My te):=by
 intro pins s σ H Q I t;refine wpAny_mono (h pins s σ H _ I t) (λu s1 ⟨v,H1,I1,r,q⟩=>?_) λ_ _ z=>z;obtain⟨d,kvs,hd,q⟩:=q;obtain⟨o,I2⟩:=I1.frozen hd;exact#[v,_,I2,r,q o]
noncomputable def Itd(d:Addr)(o:Obj)(kvs:List (Key×V)):It :=
 #[λi H=>H d=some (.frz o (.dK kvs))∧i<kvs.length,λi H x H'=>H'=H∧∃ p,kvs[i]?=some p∧x=kV p.1,λi H=>H d=some (.frz o (.dK kvs))∧kvs.length≤i]
theorem Fu{P:Program}{w:World}{k:Key}{u:Value}(h:(a7 P w).is k u=true):RelV (kV k) u:=by
 have h4:gU k u=true:=h;rcases aW h4 with⟨i,t,e1,e2⟩|⟨y,t,e1,e2⟩
 ·subst e1 e2
  exact#[t,rfl]
 ·subst e1 e2
  exact#[t,rfl]
theorem wU{o:Obj}(I:Inv X pins σ H s)(hd:H d=some (.frz o (.dK kvs))){es:Array DictEntry}{ep:Nat}(eo:o.data=.dict es ep):kvs.length≤sizeLine∧(d == sysModules)=false∧∃ vs,KV kvs vs∧s.heap.DictAt (a7 X.prog X.w) d vs ep:=by
 obtain⟨ho,hz,h0,vs,rel,o',es',ep',ho',c1,c2,c3⟩:=(show bT X.prog X.w H s.heap d (.frz o (.dK kvs)) from I.hok d _ hd);have e:o'=o:=Oh (ho'.symm.trans ho);subst e;rw[eo]at c2;injection c2 with e1 e2;subst e1 e2;exact#[hz,h0,vs,rel,o',es,ho',c1,eo,c3]
theorem As{o:Obj}(I:Inv X pins σ H s)(hd:H d=some (.frz o (.dK kvs))):∃ es ep,o.data=.dict es ep:=by
 obtain⟨ho,hz,h0,vs,rel,o',es',ep',ho',c1,c2,c3⟩:=(show bT X.prog X.w H s.heap d (.frz o (.dK kvs)) from I.hok d _ hd);have e:o'=o:=Oh (ho'.symm.trans ho);subst e;exact#[es',ep',c2]
theorem BA:∀ {kvs:List (Key×V)} {vs:List (Key×Value)},KV kvs vs→∀ {i:Nat} {p:Key×V},kvs[i]?=some p→∃ x,vs[i]?=some (p.1,x)
 | _,_,.nil,_,_,h=>by simp at h
 | (k,v)::_,(k',x)::_,.cons a r,0,p,h=>by
  have h1:(k,v)=p:=by simpa using h
  subst h1;obtain⟨e,_⟩:=a;have e':k=k':=e;subst e';exact#[x,rfl]
 | _::_,_::_,.cons _ r,i+1,p,h=>by
  have:=BA r (i:=i) (p:=p) (by simpa using h)
  simpa using this
theorem yL{P:Program}{w:World}{K:W.Frag}{tg:Expr}(d it:Addr)(o:Obj)(kvs:List (Key×V))(ne:d≠it):Turn P w K tg (Itd d o kvs) [it] it (λi h=>∃ es ep,o.data=.dict es ep∧h.IsKeyIter it d i kvs.length ep) where
 mem:=by simp
 obj:=λi h st b hb=>by
  have e:b=it:=by simpa using hb
  subst e;obtain⟨es,ep,_,o,e,c,d⟩:=st;exact#[o,e,λv z=>by rw[d]at z;cases z]
 keep:=λi h h' ⟨es,ep,eo,st⟩ k=>#[es,ep,eo,st.at λo e=>k it (by simp) o e]
 item:=by
  rintro X hP hw hK hc i pins s σ H E I hf ⟨es,ep,eo,st⟩ ⟨hd,hi⟩;subst hP hw hK;obtain⟨hz,h0,vs,rel,hat⟩:=wU I hd eo;have hl:=rel.length;obtain⟨x,hx⟩:=BA rel (NJ hi);obtain⟨f0,f1,f2,f3,f4,f5⟩:=hf it (by simp);rw[hl]at st;refine wpAny_pyNext_dict_item st hat hx λkey h' hk st' sb=>?_;have I1:Inv X pins σ H {s with heap:=h'}:=I.turned (t':=s.toks) (λb o hb e=>(sb.2 b hb).trans e) f0 f1 f3 f4 f5;exact#[key,rfl,letGo_keyiter (s':={s with heap:=h'}) st' #[kV (kvs[i]'hi).1,H,I1,Fu hk,#[rfl,_,NJ hi,rfl],#[es,ep,eo,by rw[hl];exact st'],λb hb=>(hf b hb).1]]
 done:=by
  rintro X hP hw hK hc i pins s σ H E I hf ⟨es,ep,eo,st⟩ ⟨hd,hi⟩;subst hP hw hK;obtain⟨hz,h0,vs,rel,hat⟩:=wU I hd eo;have hl:=rel.length;obtain⟨f0,f1,f2,f3,f4,f5⟩:=hf it (by simp);rw[hl]at st;exact wpAny_pyNext_dict_end (I.ok.hd hc) st hat (List.getElem?_eq_none (by omega)) λh' eb=>#[rfl,I.turned (t':=s.toks) (λb o hb e=>eb b o hb e) f0 f1 f3 f4 f5]
 self:=λ_ _ _ _ _ ⟨_,_,_,st⟩ h=>wpAny_pyIter_keyiter st h
noncomputable def Jw(td:TE):TI:=λσ H R=>td σ H λx H1=>∃ d o kvs,x=.ref d∧H1 d=some (.frz o (.dK kvs))∧R (Itd d o kvs) H1
theorem lL{tg l:Expr}{tl:TE}(hl:PE X l tl):PI X tg l (Jw tl):=by
 intro pins s σ H R I h;refine thn (hl pins s σ H _ I h) λv s1 ⟨x,H1,I1,r1,q1⟩=>?_;obtain⟨d,o,kvs,e,hd,q⟩:=q1;subst e;cases r1;obtain⟨es,ep,eo⟩:=As I1 hd;obtain⟨hz,h0,vs,rel,hat⟩:=wU I1 hd eo;have hl:=rel.length;refine wpAny_pyIter_dict h0 hat ?_;rw[←hl];refine#[s1.heap.objs.size,[s1.heap.objs.size],_,_,H1,rfl,I1.kept (t':=s1.toks) λb o e=>NL _ e,yL d _ o kvs (Oe hat.lt_size),#[es,ep,eo,_,Oc _ rfl,rfl,rfl],λb hb=>?_,q];have e:b=s1.heap.objs.size:=by simpa using hb
 subst e;exact I1.xj (NO _) (I1.hok.fresh (NO _))
end
theorem p9{d:Addr}{o:Obj}{kvs:List (Key×V)}{g:TG}{tb:TS}{D:Ends}{σ:St}{H:Hp}(Pv:Nat→St→Hp→Prop)(h0:Pv 0 σ H)(hl:∀ i σ H,i≤kvs.length→Pv i σ H→H d=some (.frz o (.dK kvs)))
  (hs:∀ i p σ H,kvs[i]?=some p→Pv i σ H→g (kV p.1) σ H λσ2 H2=>tb {D with nx:=Pv (i+1),ct:=Pv (i+1),bk:=D.nx} σ2 H2) (hd:∀ σ H,Pv kvs.length σ H→D.nx σ H) :
  ∃ W:Nat→Nat→St→Hp→Prop,(∃ m,W 0 m σ H)∧∀ i m σ H,W i m σ H →
   ((Itd d o kvs).stop i H∧D.nx σ H)∨((Itd d o kvs).go i H∧∃ N:St→Hp→Prop,(∀ σ' H',N σ' H'→∃ m',m'<m∧W (i+1) m' σ' H')∧∀ x H',(Itd d o kvs).yld i H x H'→g x σ H' λσ2 H2=>tb {D with nx:=N,ct:=N,bk:=D.nx} σ2 H2):=by
 refine#[λi m σ H=>m=kvs.length-i∧i≤kvs.length∧Pv i σ H,#[kvs.length,by simp,Oy _,h0],?_];rintro i m σ H ⟨rfl,hi,p⟩;by_cases hlt:i<kvs.length
 ·refine .inr #[#[hl i σ H hi p,hlt],Pv (i+1),λσ' H' p'=>#[kvs.length-(i+1),by omega,rfl,hlt,p'],λx H' y=>?_]
  obtain⟨e1,q,e2,e3⟩:=y;subst e1 e3;exact hs i q σ _ e2 p
 ·have e:i=kvs.length:=by omega
  subst e;exact .inl #[#[hl _ σ H hi p,NO _],hd σ H p]
section
variable{X:Cx}
end
section
variable{X:Cx}{pins:List (Addr×Obj)}{σ:St}{H:Hp}{s:Shared}
end
section
variable{X:Cx}
end
section
variable{X:Cx}
noncomputable def Fv:List V→Hp→VK→Prop:=λvs H Q=>∃(p:Addr) (kvs:List (Key×V)) (ks:List Int),vs=[.ref p]∧Rd H p (.dK kvs)∧kvs.map (·.1)=ks.map Sum.inl∧∀ l:Addr,H l=none→Q (.ref l) (upd H l (.lst (ks.map V.int)))
theorem vF(hc:X.calm=true):eM X (.type "list") Fv:=by
 rintro pins s σ H xs us Q I r ⟨p,kvs,ks,rfl,hp,hk,q⟩;obtain⟨u,rfl,ru⟩:=r.one;cases (show u=Value.ref p from ru);obtain⟨hz,hd,vs,rel,dd⟩:=ng I.hok hp;obtain⟨ep,hat⟩:=dd.dictAt;have hl:ks.length=kvs.length:=by
  have:=congrArg List.length hk
  simpa using this.symm
 refine PySem.W.kdl_call (PySem.W.kdl_dict (knd:=a7 X.prog X.w) (kvs:=vs) (ep:=ep) hd) (I.ok.hd hc) hat (by rw[←rel.length];exact hz) λh' tk acc c hkp hS hacc=>?_;have hI:IntsAre acc.toList ks:=yJ (by rw[←rel.keys];exact hk) hacc.1 hacc.2;refine#[.ref s.heap.objs.size,_,I.laid (a:=s.heap.objs.size) (o:=.lst (ks.map V.int)) (t':=tk) hkp (NO _) ?_,rfl,q _ (I.hok.fresh (NO _))];refine#[by rw[NI,hl];exact hz,acc.toList,c,jb hI,?_];rw[hS]
end
section
variable{X:Cx}
end
theorem vG{d:Addr}{o:Obj}{kvs:List (Key×V)}{tc:TT}{te:TE}{Q:VK}{D:Addr}{τ:St}{H:Hp}(Pv:Nat→List V→Hp→Prop)(h0:Pv 0 [] H)(hD:∀ i ys H,i≤kvs.length→Pv i ys H→H D=some (.lst ys)∧ys.length≤i)(hl:∀ i ys H,i≤kvs.length→Pv i ys H→H d=some (.frz o (.dK kvs)))(hn:kvs.length≤sizeLine)
  (hs:∀ i p ys H,kvs[i]?=some p→Pv i ys H→tc (some (kV p.1)::τ) H λb H4=>if b=true then te (some (kV p.1)::τ) H4 λv H5=>H5 D=some (.lst ys)∧Pv (i+1) (ys++[v]) (upd H5 D (.lst (ys++[v]))) else Pv (i+1) ys H4)
  (hd:∀ ys H,Pv kvs.length ys H→Q (.ref D) H):xE (Itd d o kvs) D τ tc te Q H:=by
 refine#[λi m ys H=>m=kvs.length-i∧i≤kvs.length∧Pv i ys H,#[kvs.length,by simp,Oy _,h0],?_];rintro i m ys H2 ⟨rfl,hi,p⟩;obtain⟨d1,d2⟩:=hD i ys H2 hi p;refine#[d1,?_];have hS:=hl i ys H2 hi p;by_cases hlt:i<kvs.length
 ·refine .inr #[#[hS,hlt],by omega,Pv (i+1),λzs H' p'=>#[kvs.length-(i+1),by omega,rfl,hlt,p'],λy H3 q=>?_]
  obtain⟨e1,q',e2,e3⟩:=q;subst e1 e3;exact hs i q' ys _ e2 p
 ·have e:i=kvs.length:=by omega
  subst e;exact .inl #[#[hS,NO _],hd ys H2 p]
section
variable{P:Program}{w:World}{A:Around}{E:Value→Shared→Prop}
end
section
variable{P:Program}{w:World}{A:Around}{R:Result→Shared→Prop}{KK:Type}[DecidableEq KK]{knd:KeyKind P w KK}
end
section
variable{P:Program}{w:World}{A:Around}{E:Value→Shared→Prop}{KK:Type}[DecidableEq KK]{knd:KeyKind P w KK}
end
section
variable{P:Program}{w:World}{A:Around}{E:Value→Shared→Prop}
end
section
variable{X:Cx}
end
section
variable{P:Program}{w:World}{K:W.Frag}{mg:Str→Option Value}{base:Heap}{N:List Str}{qual:Str}{scope:Scope}{f:Addr}{cdv:Value}{A:Around}{outer:List Env}{s₀:Shared}{H₀:Hp}{E₀:XK}
end
section
open PySem.SeqAt
open PySem.AutoSeq1 (wpAny_loadPart')
open PySem.MeetsSeq PySem.MeetsSeq2 PySem.MeetsSeq3
end
section
variable{X:Cx}
end
section
variable{P:Program}{w:World}{A:Around}{E:Value→Shared→Prop}
end
section
variable{X:Cx}
end
section
variable{P:Program}{w:World}
variable{A:Around}{E:Value→Shared→Prop}{s:Shared}
end
end L2
end
section
namespace L2
open PySem PySem.Spec PyProof.Rows LX PySem.Builtin.Str
theorem xF:∀ {ss:List Str} {us:List Value},Vals (ss.map V.str) us→StrsAre us ss
 | [],us,r=>by
  rw[Pq]at r;cases r;exact .nil
 | x::ss,us,r=>by
  rw[Oo]at r;cases r with
  | cons r1 r2 =>
   obtain⟨t,rfl⟩:=r1;exact .cons x t (xF r2)
theorem xG:∀ {ss:List Str} {us:List Value},StrsAre us ss→Vals (ss.map V.str) us
 | [],us,r=>by
  cases r;exact .nil
 | x::ss,us,r=>by
  cases r with
  | cons _ t r2=>exact .cons #[t,rfl] (xG r2)
section
variable{X:Cx}
noncomputable def rJoin(K:W.Frag):V→List V→Hp→VK→Prop:=λx vs H Q=>∃(z:Str) (p:Addr) (ss:List Str),x=.str z∧vs=[.ref p]∧SqL K H p (ss.map V.str)∧(ss.map (·.length)).sum+ss.length*z.length≤16777216∧Q (.str (Txt.join z ss)) H
theorem Dn:MtM X "str.join" (rJoin X.K):=by
 rintro pins s σ H x xs v us Q I rx rv ⟨z,p,ss,rfl,rfl,hp,hz,q⟩;obtain⟨t,rfl⟩:=rx;obtain⟨u,rfl,ru⟩:=rv.one;cases (show u=Value.ref p from ru);obtain⟨its,r1,pl,_⟩:=I.list hp;exact join_list pl.isList (xF (by simpa using r1)) hz λt' k=>#[.str (Txt.join z ss),H,I.tok k,#[t',rfl],q]
noncomputable def Fw:V→List V→Hp→VK→Prop:=λx vs H Q=>∃ z y:Str,x=.str z∧vs=[.str y]∧(y.length == 0)=false∧z.length+2≤sizeLine∧∀ l,H l=none→Q (.ref l) (upd H l (.lst ((Txt.split z y).map V.str)))
theorem uU:MtM X "str.split" Fw:=by
 rintro pins s σ H x xs v us Q I rx rv ⟨z,y,rfl,rfl,hy,hz,q⟩;obtain⟨t,rfl⟩:=rx;obtain⟨w,rfl,tu,rfl⟩:=rv.one;have hn:(partsBetween z (occurrences z y 0 z.length (z.length+1)) y.length).length≤sizeLine:=by
  have e1:=StrLaws.occ_length_le z y 0 z.length (z.length+1);rw[length_partsBetween];omega
 have fin:∀(l:List (Str×Tok)) (k:Nat),l.map (·.1)=Txt.split z y→l.length≤sizeLine→EP X pins σ Q (.ref s.heap.objs.size) {s with heap:=s.heap.push {cls:=.type "list",data:=.seq (strValues l).toArray},toks:=k}:=λl k e hl=>by
  refine#[.ref s.heap.objs.size,_,I.laid (o:=.lst ((Txt.split z y).map V.str)) (t':=k) (λb ob z=>NL _ z) (NO _) ?_,rfl,q _ (I.hok.fresh (NO _))];refine#[by rw[←e,NI,NI];exact hl,strValues l,0,?_,Oc _ rfl];rw[←e];exact xG (strsAre_of_values l)
 by_cases h1:(decide (z.length<y.length)||decide (strKind z<strKind y))=true
 ·exact call_meets PySem.F.slot_str_split (typeIs_str _ _ _) PySem.F.entry_str_split (PySem.F.args_str_split_2 _ _) (meets_str_split_cannot_occur z y t tu h1) (fin [(z,t)] s.toks (if_pos h1).symm (by show 1≤sizeLine;decide))
 ·have h1':=eq_false_of_ne_true h1
  by_cases hf:(occurrences z y 0 z.length (z.length+1)).isEmpty=true
  ·exact call_meets PySem.F.slot_str_split (typeIs_str _ _ _) PySem.F.entry_str_split (PySem.F.args_str_split_2 _ _) (meets_str_split_not_found z y t tu h1' hy hf) (fin [(z,t)] s.toks ((if_neg h1).trans (if_pos hf)).symm (by show 1≤sizeLine;decide))
  ·refine call_meets PySem.F.slot_str_split (typeIs_str _ _ _) PySem.F.entry_str_split (PySem.F.args_str_split_2 _ _) (meets_str_split_sep z y t tu h1' hy (eq_false_of_ne_true hf) (by omega) hn) (?_:wants (EP X pins σ Q) X.xe _ {s with toks:=_,heap:=s.heap.push {cls:=.type "list",data:=.seq (strsFrom s.toks (partsBetween z (occurrences z y 0 z.length (z.length+1)) y.length)).toArray}})
   rw[strsFrom_eq];refine fin (numbered s.toks _) _ ((numbered_texts _ _).trans ((if_neg h1).trans (if_neg hf)).symm) ?_
   have:=congrArg List.length (numbered_texts s.toks (partsBetween z (occurrences z y 0 z.length (z.length+1)) y.length))
   rw[NI]at this;omega
noncomputable def Jx:List V→Hp→VK→Prop:=λvs H Q=>∃(z:Str) (n:Int),vs=[.str z]∧PySem.intText? z=some n∧z.length≤640∧Q (.int n) H
theorem yM:eM X (.type "int") Jx:=by
 rintro pins s σ H xs us Q I r ⟨z,n,rfl,hn,hl,q⟩;obtain⟨u,rfl,t,rfl⟩:=r.one;exact PySem.W.KIN.call_text hn hl #[.int n,H,I.tok _,#[_,rfl],q]
noncomputable def Dp:V→List V→Hp→VK→Prop:=λx vs H Q=>∃ z y:Str,x=.str z∧vs=[.str y]∧Q (.bl (decide (0+y.length≤z.length)&&subAt z y 0)) H
theorem yN:MtM X "str.startswith" Dp:=by
 rintro pins s σ H x xs v us Q I rx rv ⟨z,y,rfl,rfl,q⟩;obtain⟨t,rfl⟩:=rx;obtain⟨w,rfl,tu,rfl⟩:=rv.one;exact call_meets PySem.F.slot_str_startswith (typeIs_str _ _ _) PySem.F.entry_str_startswith (PySem.F.args_str_startswith_2 _ _) (gives_str_startswith z y t tu).meets #[.bl _,H,I,rfl,q]
end
end L2
end
section
namespace L2
open PySem PySem.Spec PyProof.Rows LX
structure lM(X:Cx)(scope:Scope)(cl:List (Str×Addr))(x x2:Str)(idx:List Nat)(NC:List Str):Prop where
 Dm:closureFor scope X.env=pure cl
 sub:∀ y c,cl.lookup y=some c→X.env.cells.lookup y=some c
 has:∀ y,((relabel scope X.env).names.lookup y=some .cell∨(relabel scope X.env).names.lookup y=some .free)→∃ c,cl.lookup y=some c
 qr:∀ y∈scope.names,y.2≠.cell
 kind:scope.kind=.function
 loc:∀ y∈scope.names,y.2=.local→scope.names.lookup y.1=some .local
 xl:scope.names.lookup x=some .local
 xl2:scope.names.lookup x2=some .local
 nc:NC=x::x2::idx.map λi=>X.N.getD i x
 nd:NC.Nodup
 cap:∀ i∈idx,i<X.N.length∧((X.env.scope.names.lookup (X.N.getD i x)=some .cell∨X.env.scope.names.lookup (X.N.getD i x)=some .free)∧((relabel scope X.env).names.lookup (X.N.getD i x)=some .cell∨(relabel scope X.env).names.lookup (X.N.getD i x)=some .free))
section
variable{X:Cx}{scope:Scope}{cl:List (Str×Addr)}{x x2:Str}{idx:List Nat}{NC:List Str}{C:Addr}{fp:List Addr}{pins:List (Addr×Obj)}{σ:St}{H:Hp}{s:Shared}
theorem yO{h1:Heap}{t':Nat}(c:lM X scope cl x x2 idx NC)(I:Inv X pins σ H s)(hf:∀ b∈fp,kF X pins H b)(hlt:∀ b∈fp,b<s.heap.objs.size)(ns:h1.Ns s.heap.objs.size (λ_=>none))
  (k:∀ b o,s.heap.get? b=some o→h1.get? b=some o):Inv (cxC X scope cl NC s.heap.objs.size fp s H) [] (none::none::fK σ idx) H {s with heap:=h1,toks:=t'}:=by
 have sub:∀ b,b∈frs X.stack→b∈X.env.locals::X.fs:=I.ib;refine#[#[I.ok.mod,c.kind,I.ok.glob,I.ok.blt,NO _,λy z a h1 h2=>I.ok.inj y z a (c.sub _ _ h1) (c.sub _ _ h2),c.has,λy a z=>(by cases z),I.ok.hd,I.ok.frames,.inl rfl,λb hb=>#[Oe (hlt b hb),λy a q=>(hf b hb).2.2.2.2.1 y a (c.sub _ _ q)],
  λb o q=>I.bs b o q,NW I.ok.bsz I.sz,λb o q hb=>?_,λb hb z=>?_,I.stack,I.je],rfl,I.bare,Un.kept k,#[_,ns,λi y v e1 e2 e3=>?_],λy a q=>?_,I.hok.fresh (NO _),λy a q=>I.dc _ _ (c.sub _ _ q),λp hp=>(by cases hp),I.hok.keeps λb u o _ q=>k b o q,?_]
 ·rcases(hf b hb).2.2.2.1 with z|z
  ·exact I.ok.uz b o q z
  ·exact absurd (Od (NT (I.ok.bs b o q).1) z) (OQ _)
 ·rcases NY.mp (sub b z) with r|r
  ·exact(hf b hb).2.1 r
  ·exact(hf b hb).2.2.1 r
 ·cases i with
  | zero=>cases e2
  | succ i =>
   cases i with
   | zero=>cases e2
   | succ j =>
   have e1':(idx.map λi=>X.N.getD i x)[j]?=some y:=by
    have:(cxC X scope cl NC s.heap.objs.size fp s H).N=NC:=rfl
    rw[this,c.nc]at e1;exact e1
   have e2':(fK σ idx)[j]?=some (some v):=e2;rw[N0]at e1';unfold fK at e2';rw[N0]at e2';cases ei:idx[j]? with
   | none=>rw[ei]at e1';cases e1'
   | some i =>
    rw[ei]at e1' e2';simp only[OL,Option.some.injEq]at e1' e2';obtain⟨hi,h2,h3⟩:=c.cap i (Of ei);rw[e1']at h2 h3;have hN:X.N[i]?=some y:=by
     rw[←e1'];simp[List.getD,NJ hi]
    have hσ:σ[i]?=some (some v):=by
     cases q:σ[i]? with
     | none=>rw[q]at e2';cases e2'
     | some o=>rw[q]at e2';simp only[Qa]at e2';rw[e2']
    obtain⟨m,hn,hl⟩:=I.loc;obtain⟨u,r,l⟩:=hl i y v hN hσ (h2.elim (λz=>.inr (.inl z)) λz=>.inr (.inr z));refine#[u,r,.inr #[h3,?_]];rcases l with⟨l,_⟩|⟨_,a,ha,hc⟩
    ·exfalso
     have l':X.env.scope.names.lookup y=some .local:=l;rcases h2 with z|z<;>(rw[l']at z;cases z)
    ·obtain⟨a',ha'⟩:=c.has y h3
     have:=c.sub _ _ ha'
     rw[ha]at this;cases this;exact#[a,ha',hc.keeps k]
 ·obtain⟨v,z⟩:=I.cell _ _ (c.sub _ _ q)
  exact#[v,z.keeps k]
 ·show _=NC.length
  rw[c.nc];simp[fK]
noncomputable def xI(K:W.Frag)(J:It)(D:Addr)(τ:St)(te:TE)(Q:VK)(H:Hp):Prop:=∃ W:Nat→Nat→List V→Hp→Prop,(∃ m,W 0 m [] H)∧∀ i m ys H2,W i m ys H2→H2 D=some (.lst ys) ∧
 ((J.stop i H2∧Q (.ref D) H2)∨(J.go i H2∧ys.length<sizeLine∧∃ N:List V→Hp→Prop,(∀ zs H',N zs H'→∃ m',m'<m∧W (i+1) m' zs H')∧∀ y H3,J.yld i H2 y H3→∃ a v1 v2,y=.ref a∧SqT K H3 a [v1,v2]∧te (some v1::some v2::τ) H3 λv H4=>H4 D=some (.lst ys)∧N (ys++[v]) (upd H4 D (.lst (ys++[v])))))
noncomputable def Fx(K:W.Frag)(wi:TI)(idx:List Nat)(te:TE):TE:=λσ H Q=>wi σ H λJ H1=>∀ D,H1 D=none→xI K J D (fK σ idx) te Q (upd H1 D (.lst []))
theorem uV{elt iter:Expr}{px px2 pt pos:Pos}{kt:Nat}{wi:TI}{te:TE}(c:lM X scope cl x x2 idx NC)(hc:X.calm=true)(hi:PI X (.Tuple [.Name x px,.Name x2 px2] kt pt) iter wi)(he:∀ C fp s₀ H₀,PE (cxC X scope cl NC C fp s₀ H₀) elt te)
  (hs:∀ x,foldedSetIterable iter X.env x=pure x:=by intro _;rfl):PE X (.ListComp elt [#[.Tuple [.Name x px,.Name x2 px2] kt pt,iter,[],0]] scope pos) (Fx X.K wi idx te):=by
 intro pins s σ H Q I h;rw[eval_ListComp];refine wpAny_comprehension_free (use:=none) rfl hs c.Dm c.kind c.loc (thn (hi pins s σ H _ I h) λv s1 h1=>thn h1 λitv s2 h2=>?_);obtain⟨it,fp,tn,J,H2,rfl,I2,T,st2,f2,q⟩:=h2;refine wpAny_newObj_type (wpAny_newFunctionEnv c.qr (by intro y hy;simp at hy) (λh₁ hns₁ hsb₁=>?_) c.kind);dsimp only at hns₁ hsb₁ ⊢;have I3:Inv X pins σ (upd H2 s2.heap.objs.size (.lst [])) {s2 with heap:=s2.heap.push {cls:=.type "list",data:=.seq ([]:List Value).toArray},toks:=s2.toks}:=I2.z6 (ys:=[]) (its:=[]) .nil (Oy _);obtain⟨W,⟨m0,w0⟩,turn⟩:=q s2.heap.objs.size I2.fresh;generalize hD:s2.heap.objs.size=D at *;generalize hH:s2.heap.push {cls:=.type "list",data:=.seq ([]:List Value).toArray}=h3 at *;have sX:∀ b∈fp,b<D:=λb hb=>by
  obtain⟨o,e,_⟩:=T.obj _ _ st2 b hb;rw[←hD];exact NT e
 have hlt:∀ b∈fp,b<h3.objs.size:=λb hb=>by
  rw[←hH,OI,hD];exact Pw (sX b hb)
 have hf:∀ b∈fp,kF X pins (upd H2 D (.lst [])) b:=λb hb=>#[by rw[ab (Oe (sX b hb))];exact(f2 b hb).1,(f2 b hb).2];have kp:∀ b o,h3.get? b=some o→h₁.get? b=some o:=λb o e=>hsb₁.extBut b o (Oe (NT e)) (NL _ e);have I4:Inv (cxC X scope cl NC h3.objs.size fp {s2 with heap:=h3,toks:=s2.toks} (upd H2 D (.lst []))) [] (none::none::fK σ idx) (upd H2 D (.lst [])) {s2 with heap:=h₁,toks:=s2.toks+([]:List (Str×Value)).length} :=
  yO (s:={s2 with heap:=h3,toks:=s2.toks}) c I3 hf hlt hns₁ kp
 have jP:∀ {H':Hp},(∀ b∈fp,H' b=none)→∀ b∈fp,kF (cxC X scope cl NC h3.objs.size fp {s2 with heap:=h3,toks:=s2.toks} (upd H2 D (.lst []))) [] H' b:=λhn b hb =>
  #[hn b hb,Oe (hlt b hb),λz=>(NY.mp (I3.ib b z)).elim (hf b hb).2.1 (hf b hb).2.2.1,.inl hb,λy a q=>(hf b hb).2.2.2.2.1 y a (c.sub _ _ q),λp hp=>(by cases hp)]
 have st1:tn 0 h₁:=T.keep 0 _ _ st2 λb hb o e=>kp b o (by rw[←hH];exact NL _ e);have loop:∀ s4:Shared,s4={s2 with heap:=h₁,toks:=s2.toks+([]:List (Str×Value)).length} →
   codeAny (model X.prog X.w) X.A (.compLoop (.ListComp elt [#[.Tuple [.Name x px,.Name x2 px2] kt pt,iter,[],0]] scope pos) 0 (.ref it) (.ref D) (compEnvC scope cl h3.objs.size X.env)) (compPost (model X.prog X.w) X.A X.xe none (EP X pins σ Q) (.ref D) h3.objs.size) s4:=by
  rintro s4 rfl;refine gT (λn s'=>∃ i ys H' v0 v1,Inv (cxC X scope cl NC h3.objs.size fp {s2 with heap:=h3,toks:=s2.toks} (upd H2 D (.lst []))) [] (v0::v1::fK σ idx) H' s'∧tn i s'.heap∧(∀ b∈fp,H' b=none)∧W i n ys H')
   ?_ m0 #[0,[],_,none,none,I4,st1,λb hb=>(hf b hb).1,w0]
  rintro n s5 ⟨i,ys,H5,v0,v1,I5,st5,fr5,w5⟩;obtain⟨hDl,alt⟩:=turn i n ys H5 w5;rcases alt with⟨stop,qn⟩|⟨go,hz,N,hN,step⟩
  ·refine thn (T.done (cxC X scope cl NC h3.objs.size fp {s2 with heap:=h3,toks:=s2.toks} (upd H2 D (.lst []))) rfl rfl rfl hc i [] s5 _ H5 _ I5 (jP fr5) st5 stop) λr s6 ⟨hr,I6⟩=>?_
   subst hr;obtain⟨m,ns6,_⟩:=id I6.loc;refine#[m,ns6,λh' hs'=>#[.ref D,H5,?_,rfl,qn]];have J6:Inv X pins σ H5 s6:=I3.tH (ch:=fp) I6.os I6.base I6.hok I6.bare λb hb=>#[(hf b hb).2.2.2.1,(hf b hb).2.1,(hf b hb).2.2.2.2.1,(hf b hb).2.2.2.2.2];refine J6.turned (t':=s6.toks) (it:=h3.objs.size) (λb o hb e=>hs'.extBut b o hb e) I6.free (OX I3.lt) (.inr I3.sz) (λy a q z=>?_) (λp hp z=>?_)
   ·obtain⟨v,q'⟩:=I3.cell y a q
    exact absurd q'.lt (by rw[z];exact OQ _)
   ·exact absurd (NT (I3.pin p hp).1) (by rw[z];exact OQ _)
  ·refine thn (T.item (cxC X scope cl NC h3.objs.size fp {s2 with heap:=h3,toks:=s2.toks} (upd H2 D (.lst []))) rfl rfl rfl hc i [] s5 _ H5 _ I5 (jP fr5) st5 go) λr s6 ⟨u,hr,h6⟩=>?_
   subst hr;refine thn h6 λ_ s7 ⟨y,H7,I7,r7,y7,st7,fr7⟩=>?_;have I7':=I7.pinned (jP fr7) (T.obj _ _ st7);have hnl:(relabel scope X.env).names.lookup x=some .local:=lookup_relabel_local c.xl;have KG:(relabel scope X.env).names.lookup x2=some .local:=lookup_relabel_local c.xl2;obtain⟨ya,w1,w2,e7,hq7,Mz⟩:=step y H7 y7;refine wpAny_mono (qi (X:=cxC X scope cl NC h3.objs.size fp {s2 with heap:=h3,toks:=s2.toks} (upd H2 D (.lst []))) (es:=[.Name x px,.Name x2 px2]) (n:=2) hc
    (cz (bc (i:=0) (x:=x) (pos:=px) c.nd (by show NC[0]?=some x;rw[c.nc];rfl) (.inl hnl) (.inr hnl)) (cz (bc (i:=1) (x:=x2) (pos:=px2) c.nd (by show NC[1]?=some x2;rw[c.nc];rfl) (.inl KG) (.inr KG)) lE)) rfl rfl _ s7 _ H7 y u
    (λσ' H'=>σ'=some w1::some w2::fK σ idx∧H'=H7) I7' r7 #[ya,[w1,w2],e7,hq7,rfl,_,_,rfl,_,_,rfl,rfl,rfl,rfl]) (λ_ s8 ⟨σ8,H8,I8,e8,e8'⟩=>?_) λ_ _ z=>z.elim
   subst e8 e8';refine wpAny_mono (he _ _ _ _ _ s8 _ H8 _ I8 Mz) (λw s9 ⟨v,H9,I9,r9,hD9,n9⟩=>?_) λ_ _ z=>z.elim;obtain⟨m',hm,w9⟩:=hN _ _ n9;refine wpAny_mono (lg (X:=(cxC X scope cl NC h3.objs.size fp {s2 with heap:=h3,toks:=s2.toks} (upd H2 D (.lst [])))) I9 hD9 hz r9) (λ_ s10 I10=>?_) λ_ _ z=>z.elim;refine#[m',hm,i+1,ys++[v],_,some w1,some w2,I10.cX,T.keep _ _ _ st7 λb hb o e=>(I10.pin (b,o) (NS _ (NS _ (bt hb e)))).1,λb hb=>?_,w9];obtain⟨o,e,d⟩:=T.obj _ _ st7 b hb;exact(I10.pin (b,o) (NS _ (NS _ (bt hb e)))).2.1
 exact codeAny_compStart_list (loop _ rfl) (T.self _ 0 _ _ _ st1 (loop _ rfl))
end
noncomputable def qv(sc scope:Scope)(x x2:Str)(ns N:List Str)(idx:List Nat):Prop :=
 (∀ y∈scope.names,y.2≠.cell)∧(∀ y∈scope.names,y.2=.local→scope.names.lookup y.1=some .local)∧scope.names.lookup x=some .local∧scope.names.lookup x2=some .local∧(∀ p∈xy sc scope.names,p.2=.cell∨p.2=.free→p.1∈ns)∧(x::x2::idx.map λi=>N.getD i x).Nodup ∧
 ∀ i∈idx,i<N.length∧((sc.names.lookup (N.getD i x)=some .cell∨sc.names.lookup (N.getD i x)=some .free)∧((xy sc scope.names).lookup (N.getD i x)=some .cell∨(xy sc scope.names).lookup (N.getD i x)=some .free))
noncomputable instance (sc scope:Scope) (x x2:Str) (ns N:List Str) (idx:List Nat):Decidable (qv sc scope x x2 ns N idx):=by unfold qv;infer_instance
theorem uW{X:Cx}{sc scope:Scope}{cl:List (Str×Addr)}{x x2:Str}{ns N:List Str}{idx:List Nat}(hsc:X.env.scope=sc)(hN:X.N=N)(hk:scope.kind=.function)(p:qv sc scope x x2 ns N idx)(hn:cl.map (·.1)=ns)
  (CG:closureFor scope X.env=pure cl) (xA:∀ q∈cl,X.env.cells.lookup q.1=some q.2):lM X scope cl x x2 idx (x::x2::idx.map λi=>N.getD i x):=by
 obtain⟨p1,p2,p3,p3',p4,p5,p6⟩:=p;have re:(relabel scope X.env).names=xy sc scope.names:=by subst hsc;rfl
 subst hsc hN hn;refine#[CG,λy c q=>xA (y,c) (Oz q),λy h=>?_,p1,hk,p2,p3,p3',rfl,p5,λi hi=>?_]
 ·rw[re]at h
  refine iR ?_;rcases h with h|h
  ·exact p4 (y,.cell) (Oz h) (.inl rfl)
  ·exact p4 (y,.free) (Oz h) (.inr rfl)
 ·rw[re]
  exact p6 i hi
structure Nx(P:Program)(w:World)(it l:Addr)(xs:Array Value)(St:Nat→Heap→Prop)(Li:Heap→Prop):Prop where
 st:∀ k h h',St k h→(∀ o,h.get? it=some o→h'.get? it=some o)→St k h'
 li:∀ h h',Li h→(∀ o,h.get? l=some o→h'.get? l=some o)→Li h'
 obj:∀ k h,St k h→∃ o,h.get? it=some o∧∀ v,o.data≠.cell v
 item:∀(A:Around) (E:Value→Shared→Prop) (s:Shared) (k:Nat) (x:Value) (Q:Value→Shared→Prop),St k s.heap→Li s.heap→xs[k]?=some x→(∀ h',St (k+1) h'→Heap.SameBut it s.heap h'→Q x {s with heap:=h'})→wpAny (model P w) A (Builtin.SmallTypes.nextOf (.ref it)) Q E s
 stop:∀(A:Around) (E:Value→Shared→Prop) (s:Shared) (k:Nat) (Q:Value→Shared→Prop),A.handled=none→St k s.heap→Li s.heap→xs[k]?=none →
  (∀ h' e,Heap.ExtBut it s.heap h'→(∃ o,h'.get? e=some o∧o.cls=.type "StopIteration")→E (.ref e) {s with heap:=h'})→wpAny (model P w) A (Builtin.SmallTypes.nextOf (.ref it)) Q E s
section
variable{P:Program}{w:World}{A:Around}{E:Value→Shared→Prop}{s:Shared}
theorem Dq(it l:Addr)(xs:Array Value):Nx P w it l xs (λk h=>h.IsListIter it l k) (λh=>h.IsList l xs) where
 st:=λ_ _ _ x k=>x.at k
 li:=λ_ _ x k=>x.at k
 obj:=λ_ _ ⟨o,e,_,d⟩=>#[o,e,λv z=>by rw[d]at z;cases z]
 item:=λ_ _ _ _ _ _ st li hx q=>wpAny_nextOf_list_item st li hx q
 stop:=λ_ _ _ _ _ hh st li hx q=>wpAny_nextOf_list_end hh st li hx q
theorem wV(it l:Addr)(xs:Array Value):Nx P w it l xs (λk h=>h.IsTupleIter it l k) (λh=>h.IsTuple l xs) where
 st:=λ_ _ _ ⟨o,e,r⟩ k=>#[o,k o e,r]
 li:=λ_ _ ⟨o,e,r⟩ k=>#[o,k o e,r]
 obj:=λ_ _ ⟨o,e,_,d⟩=>#[o,e,λv z=>by rw[d]at z;cases z]
 item:=λA E s k x Q st li hx q=>by
  obtain⟨o,g,c,gd⟩:=id st;obtain⟨ol,gl,_,nl,gdl⟩:=li;unfold Builtin.SmallTypes.nextOf;refine wpAny_bind (wpAny_callSpecial?_slot (name:=Str.ofString "__next__") st.typeIs PySem.F.slot_tuple_iterator_next (wpAny_call_entry PySem.F.slot_tuple_iterator_next st.typeIs PySem.F.entry_tuple_iterator_next (?_:wpAny _ _ (field (.ref it) 0 >>= _) _ _ s) (PySem.F.args_tuple_iterator_next_1 _)));refine wpAny_bind (wpAny_field g gd (x:=.ref l) rfl (?_:wpAny _ _ (if(Value.ref l == Value.none)=true then _ else _) _ _ s));rw[if_neg (show ¬(Value.ref l == Value.none)=true from NQ)];refine(?_:wpAny _ _ (field (.ref it) 1 >>= _) _ _ s);refine wpAny_bind (wpAny_field g gd (x:=.int k 0) rfl (?_:wpAny _ _ (seqItems? (.ref l) >>= _) _ _ s));refine wpAny_bind (wpAny_seqItems gl gdl ?_);simp only[Int.toNat_natCast,hx];refine wpAny_bind (wpAny_setField g gd (by simp) (wpAny_pure #[x,rfl,wpAny_pure (q _ #[_,Pz _ g (Obj.isFreed_of_fields (Obj.data_mapFields gd _)),(Obj.cls_mapFields ..).trans c,by rw[Obj.data_mapFields gd];simp[rawInt]] (PU ..))]))
 stop:=λA E s k Q hh st li hx q=>by
  obtain⟨o,g,c,gd⟩:=id st;obtain⟨ol,gl,_,nl,gdl⟩:=li;unfold Builtin.SmallTypes.nextOf;refine wpAny_bind (wpAny_callSpecial?_slot (name:=Str.ofString "__next__") st.typeIs PySem.F.slot_tuple_iterator_next (wpAny_call_entry PySem.F.slot_tuple_iterator_next st.typeIs PySem.F.entry_tuple_iterator_next (?_:wpAny _ _ (field (.ref it) 0 >>= _) _ _ s) (PySem.F.args_tuple_iterator_next_1 _)));refine wpAny_bind (wpAny_field g gd (x:=.ref l) rfl (?_:wpAny _ _ (if(Value.ref l == Value.none)=true then _ else _) _ _ s));rw[if_neg (show ¬(Value.ref l == Value.none)=true from NQ)];refine(?_:wpAny _ _ (field (.ref it) 1 >>= _) _ _ s);refine wpAny_bind (wpAny_field g gd (x:=.int k 0) rfl (?_:wpAny _ _ (seqItems? (.ref l) >>= _) _ _ s));refine wpAny_bind (wpAny_seqItems gl gdl ?_);simp only[Int.toNat_natCast,hx];refine wpAny_bind (wpAny_rule (wpAny_bind (wpAny_setField g gd (by simp) (?_:wpAny _ _ (newExc (.type "StopIteration") [] >>= λe=>raiseNew e) _ _ _))));exact vE hh λh' e kk he=>q h' e (λb ob hb z=>kk b ob ((PU ..).extBut b ob hb z)) he
variable{z TI TO i1 i2 l1 l2:Addr}{k:Nat}{xs ys:Array Value}{a b:Value}{S1 S2:Nat→Heap→Prop}{L1 L2:Heap→Prop}
theorem Au{x y:Value}{Q:Option Value→Shared→Prop}(N1:Nx P w i1 l1 xs S1 L1)(N2:Nx P w i2 l2 ys S2 L2)(D:ZipApart z TI TO i1 i2 l1 l2)(hz:IsZip s.heap z TI TO .none)(hTI:IsPair s.heap TI (.ref i1) (.ref i2))(hTO:IsPair s.heap TO a b)(s1:S1 k s.heap)(s2:S2 k s.heap)(li1:L1 s.heap)(li2:L2 s.heap)(hx:xs[k]?=some x)(hy:ys[k]?=some y)
  (q:∀ h',IsZip h' z TI TO (rawInt s.heap.objs.size)→IsPair h' TO x y→S1 (k+1) h'→S2 (k+1) h'→IsPair h' s.heap.objs.size x y→(∀ c o,c≠z→c≠TO→c≠i1→c≠i2→s.heap.get? c=some o→h'.get? c=some o)→Q (some (.ref s.heap.objs.size)) {s with heap:=h'}):wpAny (model P w) A (pyNext (.ref z)) Q E s:=by
 have hT:s.TypeIs (.ref z) "zip" := #[_,hz,rfl];unfold pyNext;refine wpAny_bind (wpAny_attempt (wpAny_callSpecial?_slot (name:=Str.ofString "__next__") hT PySem.F.slot_zip_next (wpAny_call_entry PySem.F.slot_zip_next hT PySem.F.entry_zip_next (?_:wpAny _ _ (field (.ref z) 2 >>= _) _ _ _) (PySem.F.args_zip_next_1 _))));refine wpAny_bind (wpAny_field hz rfl (x:=.bool false) rfl (?_:wpAny _ _ (field (.ref z) 3 >>= _) _ _ _));refine wpAny_bind (wpAny_field hz rfl (x:=.ref TI) rfl (wpAny_bind (wpAny_seqItems hTI rfl (?_:wpAny _ _ (Builtin.SmallTypes.ownedTupleIsFree (.ref z) >>= _) _ _ _))));refine wpAny_bind ?_;unfold Builtin.SmallTypes.ownedTupleIsFree;refine wpAny_bind (wpAny_field hz rfl (x:=.none) rfl (wpAny_pure ?_));simp only[if_true];refine wpAny_bind (wpAny_rule (wpAny_bind (wpAny_field hz rfl (x:=.ref TO) rfl (wpAny_bind (wpAny_setField_rec hz (by simp) λg1 gz1 e1=>?_)))));replace gz1:IsZip g1 z TI TO .ellipsis:=gz1;refine wpAny_bind ?_;simp only[PK,List.zipIdx_nil,PR,List.forIn_nil];refine wpAny_bind (wpAny_bind (wpAny_onRaise (?_:wpAny _ _ (Builtin.SmallTypes.nextOf (.ref i1) >>= _) _ _ _)));refine(wpAny_bind (N1.item _ _ _ k x _ (N1.st _ _ _ s1 λo r=>e1.extBut _ o D.i1z r) (N1.li _ _ li1 λo r=>e1.extBut _ o D.l1z r) hx λg2 t2 e2=>wpAny_pure ?_));have p2:IsPair g2 TO a b:=e2.extBut _ _ D.TOi1 (e1.extBut _ _ D.TOz hTO);refine wpAny_bind (wpAny_seqItems p2 rfl (wpAny_bind (wpAny_updateSeq_pair p2 λg3 p3 e3=>?_)));replace p3:IsPair g3 TO x b:=p3;refine wpAny_bind (wpAny_letGo (wpAny_pure (wpAny_bind (wpAny_bind (wpAny_onRaise (wpAny_bind (N2.item _ _ _ k y _ (N2.st _ _ _ s2 λo r=>e3.extBut _ o D.TOi2.symm (e2.extBut _ o D.i12.symm (e1.extBut _ o D.i2z r))) (N2.li _ _ li2 λo r=>e3.extBut _ o D.l2TO (e2.extBut _ o D.l2i1 (e1.extBut _ o D.l2z r))) hy λg4 t4 e4=>wpAny_pure ?_)))))));have p4:IsPair g4 TO x b:=e4.extBut _ _ D.TOi2 p3;refine wpAny_bind (wpAny_seqItems p4 rfl (wpAny_bind (wpAny_updateSeq_pair p4 λg5 p5 e5=>?_)));replace p5:IsPair g5 TO x y:=p5;refine wpAny_bind (wpAny_letGo (wpAny_pure (wpAny_pure (wpAny_bind (wpAny_seqItems p5 rfl (wpAny_bind (wpAny_newTuple (wpAny_bind ?_))))))));have sz:g5.objs.size=s.heap.objs.size:=by rw[e5.1,e4.1,e3.1,e2.1,e1.1]
 have gz5:IsZip g5 z TI TO .ellipsis:=e5.extBut _ _ D.TOz.symm (e4.extBut _ _ D.i2z.symm (e3.extBut _ _ D.TOz.symm (e2.extBut _ _ D.i1z.symm gz1)));have k5:∀ c o,c≠z→c≠TO→c≠i1→c≠i2→s.heap.get? c=some o→g5.get? c=some o:=λc o c1 c2 c3 c4 e=>e5.extBut _ _ c2 (e4.extBut _ _ c4 (e3.extBut _ _ c2 (e2.extBut _ _ c3 (e1.extBut _ _ c1 e))));have t5:S1 (k+1) g5:=N1.st _ _ _ t2 λo r=>e5.extBut _ o D.TOi1.symm (e4.extBut _ o D.i12 (e3.extBut _ o D.TOi1.symm r));have u5:S2 (k+1) g5:=N2.st _ _ _ t4 λo r=>e5.extBut _ o D.TOi2.symm r;have zl:z<g5.objs.size:=NT gz5;unfold Builtin.SmallTypes.ownedTupleHandOut;have gz6:IsZip (g5.push {cls:=.type "tuple",data:=.seq (List.toArray [x,y])}) z TI TO .ellipsis:=NL _ gz5;refine wpAny_bind (wpAny_setField_rec gz6 (by simp) λg7 gz7 e7=>?_);replace gz7:IsZip g7 z TI TO (rawInt g5.objs.size):=gz7;refine wpAny_setField_rec gz7 (by simp) λg8 gz8 e8=>?_;replace gz8:IsZip g8 z TI TO (rawInt g5.objs.size):=gz8;have up:∀ c o,c≠z→g5.get? c=some o→g8.get? c=some o:=λc o c1 e=>e8.extBut _ _ c1 (e7.extBut _ _ c1 (NL _ e));have pt:IsPair g8 g5.objs.size x y:=e8.extBut _ _ (OX zl) (e7.extBut _ _ (OX zl) (Oc _ rfl));rw[sz]at gz8 pt;refine wpAny_pure #[_,rfl,wpAny_pure ?_];show Q (some (.ref g5.objs.size)) _;rw[sz];exact q g8 gz8 (up _ _ D.TOz p5) (N1.st _ _ _ t5 λo e=>up _ o D.i1z e) (N2.st _ _ _ u5 λo e=>up _ o D.i2z e) pt λc o c1 c2 c3 c4 e=>up c o c1 (k5 c o c1 c2 c3 c4 e)
theorem Av{Q:Option Value→Shared→Prop}(hh:A.handled=none)(N1:Nx P w i1 l1 xs S1 L1)(N2:Nx P w i2 l2 ys S2 L2)(D:ZipApart z TI TO i1 i2 l1 l2)(hz:IsZip s.heap z TI TO .none)(hTI:IsPair s.heap TI (.ref i1) (.ref i2))(hTO:IsPair s.heap TO a b)(s1:S1 k s.heap)(s2:S2 k s.heap)(li1:L1 s.heap)(li2:L2 s.heap)(MA:xs[k]?=none∨ys[k]?=none)
  (q:∀ h',(∀ c o,c≠z→c≠TO→c≠i1→c≠i2→s.heap.get? c=some o→h'.get? c=some o)→Q none {s with heap:=h'}):wpAny (model P w) A (pyNext (.ref z)) Q E s:=by
 have hT:s.TypeIs (.ref z) "zip" := #[_,hz,rfl];unfold pyNext;have fin:∀ h' e,(∀ c o,c≠z→c≠TO→c≠i1→c≠i2→s.heap.get? c=some o→h'.get? c=some o)→(∃ o,h'.get? e=some o∧o.cls=.type "StopIteration") →
   wpAny (model P w) A (do if ←isInstance (.ref e) (.type "StopIteration") then pure none else throw (.ref e)) Q E {s with heap:=h'}:=λh' e kk ⟨o,ho,hc⟩=>wpAny_bind (wpAny_isInstance (T := "StopIteration") (b:=true) #[o,ho,hc] isSubtype_stop (wpAny_pure (q _ kk)))
 refine wpAny_bind (wpAny_attempt (wpAny_callSpecial?_slot (name:=Str.ofString "__next__") hT PySem.F.slot_zip_next (wpAny_call_entry PySem.F.slot_zip_next hT PySem.F.entry_zip_next (?_:wpAny _ _ (field (.ref z) 2 >>= _) _ _ _) (PySem.F.args_zip_next_1 _))));refine wpAny_bind (wpAny_field hz rfl (x:=.bool false) rfl (?_:wpAny _ _ (field (.ref z) 3 >>= _) _ _ _));refine wpAny_bind (wpAny_field hz rfl (x:=.ref TI) rfl (wpAny_bind (wpAny_seqItems hTI rfl (?_:wpAny _ _ (Builtin.SmallTypes.ownedTupleIsFree (.ref z) >>= _) _ _ _))));refine wpAny_bind ?_;unfold Builtin.SmallTypes.ownedTupleIsFree;refine wpAny_bind (wpAny_field hz rfl (x:=.none) rfl (wpAny_pure ?_));simp only[if_true];refine wpAny_bind (wpAny_rule (wpAny_bind (wpAny_field hz rfl (x:=.ref TO) rfl (wpAny_bind (wpAny_setField_rec hz (by simp) λg1 gz1 e1=>?_)))));replace gz1:IsZip g1 z TI TO .ellipsis:=gz1;refine wpAny_bind ?_;simp only[PK,List.zipIdx_nil,PR,List.forIn_nil];refine wpAny_bind (wpAny_bind (wpAny_onRaise (?_:wpAny _ _ (Builtin.SmallTypes.nextOf (.ref i1) >>= _) _ _ _)));cases hx:xs[k]? with
 | none =>
  refine wpAny_bind (N1.stop _ _ _ k _ hh (N1.st _ _ _ s1 λo r=>e1.extBut _ o D.i1z r) (N1.li _ _ li1 λo r=>e1.extBut _ o D.l1z r) hx λg2 e e2 ⟨oe,ge,ce⟩=>?_);have gz2:IsZip g2 z TI TO .ellipsis:=e2 _ _ D.i1z.symm gz1;have hez:e≠z:=λr=>by subst r;rw[gz2]at ge;cases ge;simp at ce
  refine wpAny_setField_rec gz2 (by simp) λg3 _ e3=>fin g3 e (λc o c1 _ c3 _ r=>e3.extBut _ _ c1 (e2 _ _ c3 (e1.extBut _ _ c1 r))) #[oe,e3.extBut _ _ hez ge,ce]
 | some x =>
  have hy:ys[k]?=none:=MA.resolve_left (by rw[hx];exact λr=>nomatch r);refine wpAny_bind (N1.item _ _ _ k x _ (N1.st _ _ _ s1 λo r=>e1.extBut _ o D.i1z r) (N1.li _ _ li1 λo r=>e1.extBut _ o D.l1z r) hx λg2 t2 e2=>wpAny_pure ?_);have p2:IsPair g2 TO a b:=e2.extBut _ _ D.TOi1 (e1.extBut _ _ D.TOz hTO);refine wpAny_bind (wpAny_seqItems p2 rfl (wpAny_bind (wpAny_updateSeq_pair p2 λg3 p3 e3=>?_)));refine wpAny_bind (wpAny_letGo (wpAny_pure (wpAny_bind (wpAny_bind (wpAny_onRaise (wpAny_bind (N2.stop _ _ _ k _ hh (N2.st _ _ _ s2 λo r=>e3.extBut _ o D.TOi2.symm (e2.extBut _ o D.i12.symm (e1.extBut _ o D.i2z r))) (N2.li _ _ li2 λo r=>e3.extBut _ o D.l2TO (e2.extBut _ o D.l2i1 (e1.extBut _ o D.l2z r))) hy λg4 e e4 ⟨oe,ge,ce⟩=>?_)))))));have gz4:IsZip g4 z TI TO .ellipsis:=e4 _ _ D.i2z.symm (e3.extBut _ _ D.TOz.symm (e2.extBut _ _ D.i1z.symm gz1));have hez:e≠z:=λr=>by subst r;rw[gz4]at ge;cases ge;simp at ce
  refine wpAny_setField_rec gz4 (by simp) λg5 _ e5=>fin g5 e (λc o c1 c2 c3 c4 r=>e5.extBut _ _ c1 (e4 _ _ c4 (e3.extBut _ _ c2 (e2.extBut _ _ c3 (e1.extBut _ _ c1 r))))) #[oe,e5.extBut _ _ hez ge,ce]
end
noncomputable def SqA(K:W.Frag)(H:Hp)(b:Bool)(a:Addr)(xs:List V):Prop:=match b with
 | true=>SqT K H a xs
 | false=>SqL K H a xs
noncomputable def ItA(b:Bool)(it a:Addr)(k:Nat)(h:Heap):Prop:=match b with
 | true=>h.IsTupleIter it a k
 | false=>h.IsListIter it a k
noncomputable def LiA(b:Bool)(a:Addr)(xs:Array Value)(h:Heap):Prop:=match b with
 | true=>h.IsTuple a xs
 | false=>h.IsList a xs
theorem eF{P:Program}{w:World}(b:Bool)(it a:Addr)(xs:Array Value):Nx P w it a xs (ItA b it a) (LiA b a xs):=match b with
 | true=>wV it a xs
 | false=>Dq it a xs
section
variable{X:Cx}{pins:List (Addr×Obj)}{σ:St}{H:Hp}{s:Shared}{a:Addr}{xs ys:List V}{b:Bool}
theorem Inv.BB(I:Inv X pins σ H s)(h:SqA X.K H b a xs):∃ its:List Value,Vals xs its∧LiA b a its.toArray s.heap∧xs.length≤sizeLine:=match b,h with
 | true,h=>let ⟨its,r,t,z⟩:=I.tuple h;#[its,r,t,z]
 | false,h=>let ⟨its,r,t,z⟩:=I.list h;#[its,r,t.isList,z]
theorem Inv.uX(I:Inv X pins σ H s)(h:SqA X.K H b a xs)(h':SqA X.K H b a ys):xs=ys:=match b,h,h' with
 | true,h,h'=>I.qY h h'
 | false,h,h'=>I.pU h h'
end
noncomputable def Itz(K:W.Frag)(b1 b2:Bool)(a1 a2:Addr):It :=
 #[λi H=>∃ xs ys x y,SqA K H b1 a1 xs∧SqA K H b2 a2 ys∧xs[i]?=some x∧ys[i]?=some y,
  λi H v H'=>∃ t x y,H t=none∧v=.ref t∧(∀ xs,SqA K H b1 a1 xs→xs[i]?=some x)∧(∀ ys,SqA K H b2 a2 ys→ys[i]?=some y)∧H'=upd H t (.tup [x,y]),
  λi H=>∃ xs ys,SqA K H b1 a1 xs∧SqA K H b2 a2 ys∧(xs.length≤i∨ys.length≤i)]
theorem Aw{P:Program}{w:World}{K:W.Frag}{es:List Expr}{x1:Nat}{pos:Pos}{b1 b2:Bool}{a1 a2 z TI TO i1 i2:Addr}(D:ZipApart z TI TO i1 i2 a1 a2) :
  Turn P w K (.Tuple es x1 pos) (Itz K b1 b2 a1 a2) [z,TI,TO,i1,i2] z (λi h=>IsZip h z TI TO .none∧IsPair h TI (.ref i1) (.ref i2)∧(∃ a b,IsPair h TO a b)∧ItA b1 i1 a1 i h∧ItA b2 i2 a2 i h) where
 mem:=by simp
 obj:=λi h ⟨hz,hTI,⟨a,b,hTO⟩,t1,t2⟩ c hc=>by
  simp only[NY,OM,or_false]at hc;rcases hc with rfl|rfl|rfl|rfl|rfl
  ·exact#[_,hz,λv r=>by have r':Data.fields _=Data.cell v:=r;cases r']
  ·exact#[_,hTI,λv r=>by have r':Data.seq _ _=Data.cell v:=r;cases r']
  ·exact#[_,hTO,λv r=>by have r':Data.seq _ _=Data.cell v:=r;cases r']
  ·exact(eF (P:=P) (w:=w) b1 c a1 #[]).obj i h t1
  ·exact(eF (P:=P) (w:=w) b2 c a2 #[]).obj i h t2
 keep:=λi h h' ⟨hz,hTI,⟨a,b,hTO⟩,t1,t2⟩ k=>#[k z (by simp) _ hz,k TI (by simp) _ hTI,#[a,b,k TO (by simp) _ hTO],(eF (P:=P) (w:=w) b1 i1 a1 #[]).st _ _ _ t1 λo r=>k i1 (by simp) o r,(eF (P:=P) (w:=w) b2 i2 a2 #[]).st _ _ _ t2 λo r=>k i2 (by simp) o r]
 item:=by
  intro X hP hw hK hc i pins s σ H E I hf st hg;subst hP hw hK;obtain⟨xs,ys,x,y,hq1,hq2,hx,hy⟩:=hg;obtain⟨us,rv1,p1,hz1⟩:=I.BB hq1;obtain⟨vs,rv2,p2,hz2⟩:=I.BB hq2;obtain⟨u,hu,ru⟩:=rv1.get hx;obtain⟨v,hv,rv⟩:=rv2.get hy;obtain⟨hz,hTI,⟨a,b,hTO⟩,t1,t2⟩:=st;have fr:H s.heap.objs.size=none:=I.hok.fresh (NO _);refine Au (eF b1 i1 a1 us.toArray) (eF b2 i2 a2 vs.toArray) D hz hTI hTO t1 t2 p1 p2 (x:=u) (y:=v) (by simpa using hu) (by simpa using hv) λh1 gz gTO q1 q2 gt hk1=>#[_,rfl,wpAny_letOwnedTupleGo_zip gz λh2 gz2 hs2=>?_];replace hs2:Heap.SameBut z h1 h2:=hs2;have hzl:z<s.heap.objs.size:=NT hz;have k2:∀ c o,c≠z→c≠TO→c≠i1→c≠i2→s.heap.get? c=some o→h2.get? c=some o:=λc o z1 z2 z3 z4 q=>(hs2.2 c z1).trans (hk1 c o z1 z2 z3 z4 q);have ht2:h2.get? s.heap.objs.size=some {cls:=.type "tuple",data:=.seq (List.toArray [u,v])}:=(hs2.2 _ (OX hzl)).trans gt;have nt:∀ c o,s.heap.get? c=some o→c≠s.heap.objs.size:=λc o q=>Oe (NT q);have nh:∀ c v,H c=some v→c≠s.heap.objs.size:=λc v q=>aj q fr;have ne':∀ c v,H c=some v→c≠z∧c≠TO∧c≠i1∧c≠i2:=λc v q=>#[aj q (hf z (by simp)).1,aj q (hf TO (by simp)).1,aj q (hf i1 (by simp)).1,aj q (hf i2 (by simp)).1];have ko:∀ c o,c∉[z,TI,TO,i1,i2]→s.heap.get? c=some o→h2.get? c=some o:=λc o hm q=>k2 c o (λe=>hm (by simp[e])) (λe=>hm (by simp[e])) (λe=>hm (by simp[e])) (λe=>hm (by simp[e])) q;refine#[.ref s.heap.objs.size,upd H s.heap.objs.size (.tup [x,y]),?_,rfl,#[_,x,y,fr,rfl,λzs hs=>by rw[I.uX hs hq1];exact hx,λzs hs=>by rw[I.uX hs hq2];exact hy,rfl],#[gz2,hs2.extBut _ _ D.TIz (hk1 _ _ D.TIz D.TITO D.TIi1 D.TIi2 hTI),#[u,v,hs2.extBut _ _ D.TOz gTO],(eF (P:=X.prog) (w:=X.w) b1 i1 a1 #[]).st _ _ _ q1 λo r=>hs2.extBut _ o D.i1z r,(eF (P:=X.prog) (w:=X.w) b2 i2 a2 #[]).st _ _ _ q2 λo r=>hs2.extBut _ o D.i2z r],λc hc=>?_]
  ·refine Inv.step (s:=s) (h':=h2) (t':=s.toks) (H:=H) (g':=s.gens) (d':=s.drawn) (ch:=[z,TI,TO,i1,i2]) I (λc hc=>#[(hf c hc).2.2.2.1,(hf c hc).2.1,(hf c hc).2.2.2.2.1,(hf c hc).2.2.2.2.2])
    (λc o _ _ m q _=>ko c o m q) (λc o _ _ m q _=>#[o.slots,ko c o m q])
    (λc o _ q n=>by rw[ab (nt c o q)];exact n) (λc o m q=>#[o,ko c o m q])
    (λc xs q=>by rw[ab (nh c _ q)];exact q) (λc o v q=>by rw[ab (nh c _ q)];exact q) (λc ps q=>#[#[],by rw[ab (nh c _ q),q];simp]) (λm hm=>?_) (λc v q=>?_) I.bare
   ·obtain⟨o,es',ep,ho,r⟩:=hm
    exact#[o,es',ep,k2 _ o (Oj (hf z (by simp)).2.1) (Oj (hf TO (by simp)).2.1) (Oj (hf i1 (by simp)).2.1) (Oj (hf i2 (by simp)).2.1) ho,r]
   ·by_cases e:c=s.heap.objs.size
    ·subst e
     rw[ae]at q;cases q;exact#[by show 2≤sizeLine;decide,[u,_],.cons ru (.cons rv .nil),_,ht2,rfl,_,rfl]
    ·rw[ab e]at q
     obtain⟨n1,n2,n3,n4⟩:=ne' c v q;refine(I.hok c v q).oJ (λd o hd w=>?_) (λd w=>by rw[ab (nh d _ w)];exact w) λd xs w=>by rw[ab (nh d _ w)];exact w
     rcases hd with y|y
     ·rw[y]at w ⊢
      exact k2 c o n1 n2 n3 n4 w
     ·obtain⟨m1,m2,m3,m4⟩:=ne' d _ y
      exact k2 d o m1 m2 m3 m4 w
  ·have hc':c<s.heap.objs.size:=by
    simp only[NY,OM,or_false]at hc;rcases hc with rfl|rfl|rfl|rfl|rfl
    ·exact hzl
    ·exact NT hTI
    ·exact NT hTO
    ·obtain⟨o,e,_⟩:=(eF (P:=X.prog) (w:=X.w) b1 c a1 #[]).obj i _ t1
     exact NT e
    ·obtain⟨o,e,_⟩:=(eF (P:=X.prog) (w:=X.w) b2 c a2 #[]).obj i _ t2
     exact NT e
   rw[ab (Oe hc')];exact(hf c hc).1
 done:=by
  intro X hP hw hK hc i pins s σ H E I hf st hg;subst hP hw hK;obtain⟨xs,ys,hq1,hq2,hx⟩:=hg;obtain⟨us,rv1,p1,hz1⟩:=I.BB hq1;obtain⟨vs,rv2,p2,hz2⟩:=I.BB hq2;have l1:=rv1.length;have l2:=rv2.length;obtain⟨hz,hTI,⟨a,b,hTO⟩,t1,t2⟩:=st;refine Av (I.ok.hd hc) (eF b1 i1 a1 us.toArray) (eF b2 i2 a2 vs.toArray) D hz hTI hTO t1 t2 p1 p2 (hx.imp (λr=>by simp;omega) λr=>by simp;omega) λh' kk=>#[rfl,?_];have ko:∀ c o,c∉[z,TI,TO,i1,i2]→s.heap.get? c=some o→h'.get? c=some o:=λc o hm q=>kk c o (λe=>hm (by simp[e])) (λe=>hm (by simp[e])) (λe=>hm (by simp[e])) (λe=>hm (by simp[e])) q;refine Inv.step (s:=s) (h':=h') (t':=s.toks) (H:=H) (H':=H) (g':=s.gens) (d':=s.drawn) (ch:=[z,TI,TO,i1,i2]) I (λc hc=>#[(hf c hc).2.2.2.1,(hf c hc).2.1,(hf c hc).2.2.2.2.1,(hf c hc).2.2.2.2.2]) (λc o _ _ m q _=>ko c o m q) (λc o _ _ m q _=>#[o.slots,ko c o m q]) (λc o _ q n=>n) (λc o m q=>#[o,ko c o m q])
   (λc xs q=>q) (λc o v q=>q) (λc ps q=>#[#[],by rw[q];simp]) (λm hm=>?_) (λc v q=>?_) I.bare
  ·obtain⟨o,es',ep,ho,r⟩:=hm
   exact#[o,es',ep,kk _ o (Oj (hf z (by simp)).2.1) (Oj (hf TO (by simp)).2.1) (Oj (hf i1 (by simp)).2.1) (Oj (hf i2 (by simp)).2.1) ho,r]
  ·have ne':∀ c v,H c=some v→c≠z∧c≠TO∧c≠i1∧c≠i2:=λc v q=>#[aj q (hf z (by simp)).1,aj q (hf TO (by simp)).1,aj q (hf i1 (by simp)).1,aj q (hf i2 (by simp)).1]
   obtain⟨n1,n2,n3,n4⟩:=ne' c v q;refine(I.hok c v q).oJ (λd o hd w=>?_) (λd w=>w) λd xs w=>w;rcases hd with y|y
   ·rw[y]at w ⊢
    exact kk c o n1 n2 n3 n4 w
   ·obtain⟨m1,m2,m3,m4⟩:=ne' d _ y
    exact kk d o m1 m2 m3 m4 w
 self:=λA i s Q E st h=>wpAny_pyIter_zip st.1 h
noncomputable abbrev dO(b:Bool)(a:Addr):Obj:={cls:=.type (if b then "tuple_iterator" else "list_iterator"),data:=.fields (List.toArray [.ref a,.int 0 0])}
theorem uY{P:Program}{w:World}{A:Around}{E:Value→Shared→Prop}{s:Shared}{b:Bool}{a:Addr}{xs:Array Value}{Q:Value→Shared→Prop}(h:LiA b a xs s.heap)(q:Q (.ref s.heap.objs.size) {s with heap:=s.heap.push (dO b a)}):wpAny (model P w) A (pyIter (.ref a)) Q E s:=match b,h,q with
 | true,h,q=>wpAny_pyIter_tuple h q
 | false,h,q=>wpAny_pyIter_list h q
theorem LiA.push{b:Bool}{a:Addr}{xs:Array Value}{h:Heap}(x:LiA b a xs h)(o:Obj):LiA b a xs (h.push o):=match b,x with
 | true,x=>Heap.IsTuple.push x o
 | false,x=>Heap.IsList.push x o
theorem ItA.new(b:Bool)(a:Addr)(h:Heap){it:Addr}(e:h.get? it=some (dO b a)):ItA b it a 0 h:=match b,e with
 | true,e=>#[_,e,rfl,rfl]
 | false,e=>#[_,e,rfl,rfl]
theorem Ax(b1 b2:Bool)(l1 l2:Addr)(xs ys:Array Value):Meets (Builtin.«zip.__new__» #[[.type "zip",.ref l1,.ref l2],[]]) (λ_ R s=>LiA b1 l1 xs s.heap∧LiA b2 l2 ys s.heap ∧
   R (.ok (.ret (.ref ((((s.heap.push (dO b1 l1)).push (dO b2 l2)).push {cls:=.type "tuple",data:=.seq (List.toArray [.ref s.heap.objs.size,.ref (s.heap.push (dO b1 l1)).objs.size])}).push {cls:=.type "tuple",data:=.seq (List.toArray [.none,.none])}).objs.size))) {s with heap:=((((s.heap.push (dO b1 l1)).push (dO b2 l2)).push {cls:=.type "tuple",data:=.seq (List.toArray [.ref s.heap.objs.size,.ref (s.heap.push (dO b1 l1)).objs.size])}).push {cls:=.type "tuple",data:=.seq (List.toArray [.none,.none])}).push {cls:=.type "zip",data:=.fields (List.toArray [.none,.bool false,.bool false,.ref ((s.heap.push (dO b1 l1)).push (dO b2 l2)).objs.size,.ref (((s.heap.push (dO b1 l1)).push (dO b2 l2)).push {cls:=.type "tuple",data:=.seq (List.toArray [.ref s.heap.objs.size,.ref (s.heap.push (dO b1 l1)).objs.size])}).objs.size])}}) :=
 .of_wp λprog w A R s h=>by
  obtain⟨hp,g,d,tk,os⟩:=s;obtain⟨h1,h2,h⟩:=h;have xA:=sub_zip;have j1:LiA b1 l1 xs (Shared.heap #[hp,g,d,tk,os]):=h1;have j2:LiA b2 l2 ys (Shared.heap #[hp.push (dO b1 l1),g,d,tk,os]):=h2.push _;wp_walk using uY j1,uY j2
  exact#[_,rfl,h]
theorem yP{P:Program}{w:World}{A:Around}{E:Value→Shared→Prop}{s:Shared}{b1 b2:Bool}{l1 l2:Addr}{xs ys:Array Value}{Q:Value→Shared→Prop}(h1:LiA b1 l1 xs s.heap)(h2:LiA b2 l2 ys s.heap)
  (q:∀ h',IsZip h' (s.heap.objs.size+4) (s.heap.objs.size+2) (s.heap.objs.size+3) .none→IsPair h' (s.heap.objs.size+2) (.ref s.heap.objs.size) (.ref (s.heap.objs.size+1))→IsPair h' (s.heap.objs.size+3) .none .none→ItA b1 s.heap.objs.size l1 0 h'→ItA b2 (s.heap.objs.size+1) l2 0 h'→(∀ c o,s.heap.get? c=some o→h'.get? c=some o)→Q (.ref (s.heap.objs.size+4)) {s with heap:=h'}) :
  wpAny (model P w) A (call (.type "zip") [.ref l1,.ref l2]) Q E s:=by
 refine callType_new PySem.F.called_zip (by decide) (PySem.F.typeCall_zip_2 _ _) (PySem.F.newCall_zip_2 _ _) (λobj=>PySem.F.args_object_init_3 obj _ _) PySem.F.entry_zip_new (Ax b1 b2 l1 l2 xs ys) #[h1,h2,?_];generalize e1:s.heap.push (dO b1 l1)=g1 at *;have z1:g1.objs.size=s.heap.objs.size+1:=by rw[←e1,OI]
 have k1:∀ c o,s.heap.get? c=some o→g1.get? c=some o:=λc o r=>by rw[←e1];exact NL _ r
 have n1:g1.get? s.heap.objs.size=some (dO b1 l1):=by rw[←e1];exact Oc _ rfl
 generalize e2:g1.push (dO b2 l2)=g2 at *;have z2:g2.objs.size=s.heap.objs.size+2:=by rw[←e2,OI,z1]
 have k2:∀ c o,g1.get? c=some o→g2.get? c=some o:=λc o r=>by rw[←e2];exact NL _ r
 have n2:g2.get? (s.heap.objs.size+1)=some (dO b2 l2):=by rw[←e2,←z1];exact Oc _ rfl
 rw[z1,z2];generalize e3:g2.push {cls:=.type "tuple",data:=.seq (List.toArray [.ref s.heap.objs.size,.ref (s.heap.objs.size+1)])}=g3 at *;have z3:g3.objs.size=s.heap.objs.size+3:=by rw[←e3,OI,z2]
 have k3:∀ c o,g2.get? c=some o→g3.get? c=some o:=λc o r=>by rw[←e3];exact NL _ r
 have n3:IsPair g3 (s.heap.objs.size+2) (.ref s.heap.objs.size) (.ref (s.heap.objs.size+1)):=by rw[←e3,←z2];exact Oc _ rfl
 rw[z3];generalize e4:g3.push {cls:=.type "tuple",data:=.seq (List.toArray [.none,.none])}=g4 at *;have z4:g4.objs.size=s.heap.objs.size+4:=by rw[←e4,OI,z3]
 have k4:∀ c o,g3.get? c=some o→g4.get? c=some o:=λc o r=>by rw[←e4];exact NL _ r
 have n4:IsPair g4 (s.heap.objs.size+3) .none .none:=by rw[←e4,←z3];exact Oc _ rfl
 rw[z4];have k5:∀ c o,g4.get? c=some o→(g4.push {cls:=.type "zip",data:=.fields (List.toArray [.none,.bool false,.bool false,.ref (s.heap.objs.size+2),.ref (s.heap.objs.size+3)])}).get? c=some o:=λc o r=>NL _ r;have n5:IsZip (g4.push {cls:=.type "zip",data:=.fields (List.toArray [.none,.bool false,.bool false,.ref (s.heap.objs.size+2),.ref (s.heap.objs.size+3)])}) (s.heap.objs.size+4) (s.heap.objs.size+2) (s.heap.objs.size+3) .none:=by rw[←z4];exact Oc _ rfl
 exact#[#[_,n5,rfl],q _ n5 (k5 _ _ (k4 _ _ n3)) (k5 _ _ n4) (.new _ _ _ (k5 _ _ (k4 _ _ (k3 _ _ (k2 _ _ n1))))) (.new _ _ _ (k5 _ _ (k4 _ _ (k3 _ _ n2)))) λc o r=>k5 _ _ (k4 _ _ (k3 _ _ (k2 _ _ (k1 c o r))))]
theorem yQ{n l1 l2:Nat}(h1:l1<n)(h2:l2<n):ZipApart (n+4) (n+2) (n+3) n (n+1) l1 l2:=by
 constructor<;>intro(e:(_:Nat)=_)<;>omega
theorem yR{n b:Nat}(h:b∈[n+4,n+2,n+3,n,n+1]):n≤b:=by
 simp only[NY,OM,or_false]at h;omega
section
variable{X:Cx}{es:List Expr}{x1:Nat}{tp:Pos}
noncomputable def MB(K:W.Frag)(ta:TA):TI:=λσ H R=>ta σ H λvs H1=>∃(b1 b2:Bool) (a1 a2:Addr),vs=[.ref a1,.ref a2]∧(∃ xs,SqA K H1 b1 a1 xs)∧(∃ ys,SqA K H1 b2 a2 ys)∧R (Itz K b1 b2 a1 a2) H1
theorem BC{e1 e2:Expr}{ta:TA}{p pos:Pos}(hg:Gl X "zip")(hm:X.mg "zip" = none)(ha:PA X [e1,e2] ta)(hs:starEach [e1,e2] X.env=(false,eval e1 X.env)::starEach [e2] X.env:=by rfl)(hp:(backTo pos (starEach [e2] X.env)).any (·.1)=false:=by rfl):PI X (.Tuple es x1 tp) (.Call (.Name "zip" p) [e1,e2] [] pos) (MB X.K ta):=by
 intro pins s σ H R I h;refine Call_ (nQ I hg hm PyProof.Rows.Boot.«zip» (PyProof.Rows.callWith_type1 (thn (ha pos pins s σ H _ I h) λus s1 ⟨vs,H1,I1,r1,q1⟩=>?_) hs hp));obtain⟨b1,b2,l1,l2,e,⟨xs,hq1⟩,⟨ys,hq2⟩,q⟩:=q1;subst e;obtain⟨u1,u2,rfl,r2,r3⟩:=vals2 r1;cases r2;cases r3;obtain⟨NG,rv1,p1,hz1⟩:=I1.BB hq1;obtain⟨xr,rv2,p2,hz2⟩:=I1.BB hq2;have lt1:l1<s1.heap.objs.size:=by
  match b1,p1 with
  | true,⟨o,e,_⟩=>exact NT e
  | false,⟨o,e,_⟩=>exact NT e
 have lt2:l2<s1.heap.objs.size:=by
  match b2,p2 with
  | true,⟨o,e,_⟩=>exact NT e
  | false,⟨o,e,_⟩=>exact NT e
 refine yP p1 p2 λh' gz gI gO t1 t2 hk=>wpAny_pyIter_zip gz ?_;refine#[s1.heap.objs.size+4,[s1.heap.objs.size+4,s1.heap.objs.size+2,s1.heap.objs.size+3,s1.heap.objs.size,s1.heap.objs.size+1],_,_,H1,rfl,I1.kept (t':=s1.toks) hk,Aw (a1:=l1) (a2:=l2) (yQ lt1 lt2),#[gz,gI,#[_,_,gO],t1,t2],λb hb=>?_,q];have hb':s1.heap.objs.size≤b:=yR hb;exact I1.xj hb' (I1.hok.fresh hb')
end
theorem uZ{K:W.Frag}{b1 b2:Bool}{a1 a2:Addr}{xs ys:List V}{te:TE}{Q:VK}{D:Addr}{τ:St}{H:Hp}(Pv:Nat→List V→Hp→Prop)(he:xs.length=ys.length)(h0:Pv 0 [] H)(hD:∀ i zs H,i≤xs.length→Pv i zs H→H D=some (.lst zs)∧zs.length=i)(hl:∀ i zs H,i≤xs.length→Pv i zs H→SqA K H b1 a1 xs∧SqA K H b2 a2 ys)(hn:xs.length≤sizeLine)
  (hs:∀ i x y zs H t,xs[i]?=some x→ys[i]?=some y→Pv i zs H→H t=none→te (some x::some y::τ) (upd H t (.tup [x,y])) λv H4=>H4 D=some (.lst zs)∧Pv (i+1) (zs++[v]) (upd H4 D (.lst (zs++[v])))) (hd:∀ zs H,Pv xs.length zs H→Q (.ref D) H):xI K (Itz K b1 b2 a1 a2) D τ te Q H:=by
 refine#[λi m zs H=>m=xs.length-i∧i≤xs.length∧Pv i zs H,#[xs.length,by simp,Oy _,h0],?_];rintro i m zs H2 ⟨rfl,hi,p⟩;obtain⟨d1,d2⟩:=hD i zs H2 hi p;obtain⟨s1,s2⟩:=hl i zs H2 hi p;refine#[d1,?_];by_cases hlt:i<xs.length
 ·refine .inr #[#[xs,ys,xs[i],ys[i]'(by omega),s1,s2,NJ hlt,NJ (by omega)],by omega,Pv (i+1),λzs H' p'=>#[xs.length-(i+1),by omega,rfl,hlt,p'],λy H3 e=>?_]
  obtain⟨t,x,y',e1,e2,e3,e4,e5⟩:=e;subst e2 e5;exact#[t,x,y',rfl,SqT.of ae,hs i x y' zs H2 t (e3 xs s1) (e4 ys s2) p e1]
 ·have e:i=xs.length:=by omega
  subst e;exact .inl #[#[xs,ys,s1,s2,.inl (NO _)],hd zs H2 p]
noncomputable def Its(z:Str):It:=#[λi _=>i<z.cps.size,λi H y H'=>H'=H∧∃ c,z.cps[i]?=some c∧y=.str #[(List.toArray [c])],λi _=>z.cps.size≤i]
noncomputable def EE(z:Str)(it:Addr)(i:Nat)(h:Heap):Prop:=∃ t,h.IsStrIter it "str_ascii_iterator" z t i∨h.IsStrIter it "str_iterator" z t i
theorem Ay{P:Program}{w:World}{K:W.Frag}{tg:Expr}(it:Addr)(z:Str):Turn P w K tg (Its z) [it] it (EE z it) where
 mem:=by simp
 obj:=λi h ⟨t,st⟩ b hb=>by
  have e:b=it:=by simpa using hb
  subst e;rcases st with⟨o,g,c,d⟩|⟨o,g,c,d⟩<;>exact#[o,g,λv r=>by rw[d]at r;cases r]
 keep:=λi h h' ⟨t,st⟩ k=>#[t,st.imp (λ⟨o,g,r⟩=>#[o,k it (by simp) o g,r]) λ⟨o,g,r⟩=>#[o,k it (by simp) o g,r]]
 item:=by
  intro X hP hw hK hc i pins s σ H E I hf st hg;subst hP hw hK;obtain⟨f0,f1,f2,f3,f4,f5⟩:=hf it (by simp);obtain⟨t,st|st⟩:=st
  ·refine(Walks.strAscii (prog:=X.prog) (w:=X.w) (I.ok.hd hc) it z t).item i s _ _ hg st λv h' tk hv st' kk=>?_
   obtain⟨c,u,hc',rfl⟩:=hv;have I1:Inv X pins σ H {s with heap:=h',toks:=tk}:=I.turned (λb o hb e=>kk b o (by simpa using hb) e) f0 f1 f3 f4 f5;obtain⟨o,g,cl,d⟩:=id st';exact#[_,rfl,B8 (s:={s with heap:=h',toks:=tk}) g cl d (by decide) #[.str #[(List.toArray [c])],H,I1,#[u,rfl],#[rfl,c,hc',rfl],#[t,.inl st'],λb hb=>(hf b hb).1]]
  ·refine(Walks.strWide (prog:=X.prog) (w:=X.w) (I.ok.hd hc) it z t).item i s _ _ hg st λv h' tk hv st' kk=>?_
   obtain⟨c,u,hc',rfl⟩:=hv;have I1:Inv X pins σ H {s with heap:=h',toks:=tk}:=I.turned (λb o hb e=>kk b o (by simpa using hb) e) f0 f1 f3 f4 f5;obtain⟨o,g,cl,d⟩:=id st';exact#[_,rfl,B8 (s:={s with heap:=h',toks:=tk}) g cl d (by decide) #[.str #[(List.toArray [c])],H,I1,#[u,rfl],#[rfl,c,hc',rfl],#[t,.inr st'],λb hb=>(hf b hb).1]]
 done:=by
  intro X hP hw hK hc i pins s σ H E I hf st hg;subst hP hw hK;obtain⟨f0,f1,f2,f3,f4,f5⟩:=hf it (by simp);have hn:z.cps[i]?=none:=Array.getElem?_eq_none hg;obtain⟨t,st|st⟩:=st
  ·exact wpAny_pyNext_ascii_end (I.ok.hd hc) st hn λh' eb=>#[rfl,I.turned (t':=s.toks) (λb o hb e=>eb b o hb e) f0 f1 f3 f4 f5]
  ·exact wpAny_pyNext_wide_end (I.ok.hd hc) st hn λh' eb=>#[rfl,I.turned (t':=s.toks) (λb o hb e=>eb b o hb e) f0 f1 f3 f4 f5]
 self:=λ_ _ _ _ _ ⟨_,st⟩ h=>st.elim (λst=>wpAny_pyIter_striter_ascii st h) λst=>wpAny_pyIter_striter_wide st h
section
variable{X:Cx}
noncomputable def MC(tl:TE):TI:=λσ H R=>tl σ H λx H1=>∃ z,x=.str z∧R (Its z) H1
theorem Fy{tg l:Expr}{tl:TE}(hl:PE X l tl):PI X tg l (MC tl):=by
 intro pins s σ H R I h;refine thn (hl pins s σ H _ I h) λv s1 ⟨x,H1,I1,r1,q1⟩=>?_;obtain⟨z,e,q⟩:=q1;subst e;obtain⟨t,rfl⟩:=r1;have fin:∀ o:Obj,EE z s1.heap.objs.size 0 (s1.heap.push o)→PIE X pins σ tg R (.ref s1.heap.objs.size) {s1 with heap:=s1.heap.push o}:=λo st=>by
  refine#[s1.heap.objs.size,[s1.heap.objs.size],_,_,H1,rfl,I1.kept (t':=s1.toks) λb o e=>NL _ e,Ay _ z,st,λb hb=>?_,q];have e:b=s1.heap.objs.size:=by simpa using hb
  subst e;exact I1.xj (NO _) (I1.hok.fresh (NO _))
 cases ha:z.cps.all (·< 128) with
 | true=>exact wpAny_pyIter_ascii ha (fin _ #[t,.inl #[_,Oc _ rfl,rfl,rfl]])
 | false=>exact wpAny_pyIter_wide ha (fin _ #[t,.inr #[_,Oc _ rfl,rfl,rfl]])
theorem Az{z:Str}{te:TE}{Q:VK}{D:Addr}{τ:St}{H:Hp}(Pv:Nat→List V→Hp→Prop)(h0:Pv 0 [] H)(hD:∀ i ys H,i≤z.cps.size→Pv i ys H→H D=some (.lst ys)∧ys.length=i)(hn:z.cps.size≤sizeLine)
  (hs:∀ i c ys H,z.cps[i]?=some c→Pv i ys H→te (some (.str #[(List.toArray [c])])::τ) H λv H4=>H4 D=some (.lst ys)∧Pv (i+1) (ys++[v]) (upd H4 D (.lst (ys++[v])))) (hd:∀ ys H,Pv z.cps.size ys H→Q (.ref D) H):tN (Its z) D τ te Q H:=by
 refine#[λi m ys H=>m=z.cps.size-i∧i≤z.cps.size∧Pv i ys H,#[z.cps.size,by simp,Oy _,h0],?_];rintro i m ys H2 ⟨rfl,hi,p⟩;obtain⟨d1,d2⟩:=hD i ys H2 hi p;refine#[d1,?_];by_cases hlt:i<z.cps.size
 ·refine .inr #[hlt,by omega,Pv (i+1),λzs H' p'=>#[z.cps.size-(i+1),by omega,rfl,hlt,p'],λy H3 e=>?_]
  obtain⟨e1,c,e2,e3⟩:=e;subst e1 e3;exact hs i c ys _ e2 p
 ·have e:i=z.cps.size:=by omega
  subst e;exact .inl #[NO _,hd ys H2 p]
noncomputable def Jy(K:W.Frag):List V→Hp→VK→Prop:=λvs H Q=>∃ p xs,vs=[.ref p]∧SqL K H p xs∧∀ l,H l=none→Q (.ref l) (upd H l (.tup xs))
theorem rM:eM X (.type "tuple") (Jy X.K):=by
 rintro pins s σ H xs us Q I r ⟨p,ys,rfl,hp,q⟩;obtain⟨u,rfl,ru⟩:=r.one;cases (show u=Value.ref p from ru);obtain⟨its,rv,pl,hz⟩:=I.list hp;refine call_tuple_list pl.isList (λh' kk=>?_) (by rw[NU,←rv.length];exact hz);have I1:Inv X pins σ H {s with heap:=h',toks:=s.toks}:=I.kept (t':=s.toks) kk;exact#[.ref h'.objs.size,_,I1.laid (a:=h'.objs.size) (o:=.tup ys) (t':=s.toks) (λb o e=>NL _ e) (NO _) #[hz,its,rv,IsTup.new _ _],rfl,q _ (I1.hok.fresh (NO _))]
noncomputable def pz(z:Str):Str:=#[(z.cps.toList.drop 1).toArray]
theorem ua(z:Str)(t:Tok):(slicePicked z (some (1,t)) none none).filterMap (z.cps[·]?)=z.cps.toList.drop 1:=by
 have e:slicePicked z (some (1,t)) none none=(List.range (z.length-1)).map (·+ 1):=by
  unfold slicePicked Builtin.Str.strSliceIndices sliceRange;simp only[OL,Option.map_none,PJ];rw[if_neg (show ¬(1:Int)<0 by decide)];simp only[show(1:Int)>0 by decide,if_true];by_cases h:z.length=0
  ·rw[h]
   rfl
  ·have h1:max (0:Int) (min 1 (z.length:Int))=1:=by omega
   rw[h1];by_cases h2:(1:Int)<(z.length:Int)
   ·rw[if_pos h2]
    have h3:(((z.length:Int)-1+1-1)/1).toNat=z.length-1:=(by omega);rw[h3];refine ON λk _=>?_;omega
   ·rw[if_neg h2]
    have h4:z.length-1=0:=(by omega);rw[h4];rfl
 rw[e,List.filterMap_map];refine List.ext_getElem? λi=>?_;have h5:∀ n≤z.length-1,(List.range n).filterMap ((λx=>z.cps[x]?) ∘ λx=>x+1)=(z.cps.toList.drop 1).take n:=by
  intro n;induction n with
  | zero=>intro _;rfl
  | succ n ih =>
   intro hn;have hlt:n+1<z.cps.size:=by
    have:z.length=z.cps.size:=rfl
    omega
   rw[O8,Pd,ih (by omega),List.take_succ];congr 1
   rw[List.getElem?_drop];simp[hlt,Nat.add_comm]
 rw[h5 _ (NO _),NZ];rw[PH,Ov];exact NO _
noncomputable def MD:V→Option Int→Option Int→Hp→VK→Prop:=λx lo hi H Q=>∃ z,x=.str z∧lo=some 1∧hi=none∧1≤z.length∧z.length≤sizeLine∧Q (.str (pz z)) H
theorem Dr:SlR X MD:=by
 rintro pins s σ H x v vl vu lo hi sl Q I rx hs pl pu ⟨z,rfl,rfl,rfl,h1,hz,q⟩;obtain⟨t,rfl⟩:=rx;cases pl with
 | int i u =>
  cases pu;refine#["str",_,PySem.F.slot_str_getitem.lookup,typeIs_str _ _ _,wpAny_getItem_str_slice (l:=some (1,u)) (u:=none) (st:=none) hs rfl ?_];have e:=ua z u;have el:(slicePicked z (some (1,u)) none none).length=z.length-1:=by
   unfold slicePicked Builtin.Str.strSliceIndices sliceRange;simp only[OL,Option.map_none,PJ];rw[if_neg (show ¬(1:Int)<0 by decide)];simp only[show(1:Int)>0 by decide,if_true,NI,List.length_range];split<;>omega
  unfold sliceMade;rw[if_neg (by rw[el];simp;omega),e];exact#[by show(z.cps.toList.drop 1).toArray.size≤sizeLine;rw[NU,PH,Ov];exact NW (Nat.sub_le _ _) hz,#[.str (pz z),H,I.tok _,#[_,rfl],q]]
structure tO(K:W.Frag)(P:Params)(a:Addr):Prop where
 ex:∃ es n,K.lookup a=some #[.type "dict",none,.dict es n,#[]]∧PySem.W.KeysLit P es.toList
 lo:(a == sysModules)=false
noncomputable def Jz(K:W.Frag)(P:Params)(td ty:TE):TE:=λσ H Q=>td σ H λx H1=>ty σ H1 λy H2=>∃ a z u v,x=.ref a∧y=.str z∧tO K P a∧PySem.W.nsIn K a z=some (some u)∧RelV v u∧Q v H2
theorem pA{o i:Expr}{td ty:TE}{pos:Pos}(ho:PE X o td)(hi:PE X i ty)(hs:IG i):PE X (.Subscript o i pos) (Jz X.K X.w.params td ty):=by
 intro pins s σ H Q I h;refine xu PySem.F.slot_dict_getitem.lookup hs (thn (ho pins s σ H _ I h) λu s1 ⟨x,H1,I1,rx,q1⟩=>thn (hi pins s1 σ H1 _ I1 q1) λiv s2 ⟨y,H2,I2,ry,a,z,u',v,ex,ey,kd,hn,rv,q2⟩=>?_);subst ex ey;obtain rfl:u=Value.ref a:=rx;obtain⟨t,rfl⟩:=ry;obtain⟨⟨es,n,hl,hk⟩,lo⟩:=kd;have hm:=PySem.W.mapOf_K (prog:=X.prog) (w:=X.w) (h:=s2.heap) (λb ob e=>I2.kIn b ob e) hl hk;exact#[hm.typeIs,wpAny_getItem_of (strKind_is X.prog X.w z t) hm (PySem.W.find_K hl hn) #[v,H2,I2.tok _,rv,q2]]
noncomputable def ME(K:W.Frag)(P:Params):R2:=λy x H Q=>∃ a z r,x=.ref a∧y=.str z∧tO K P a∧PySem.W.nsIn K a z=some r∧Q (.bl r.isSome) H
theorem wW:OpR X (compareOp .In) (ME X.K X.w.params):=by
 rintro pins s σ H y x v u Q I ry rx ⟨a,z,r,rfl,rfl,⟨⟨es,n,hl,hk⟩,lo⟩,hn,q⟩;cases rx;obtain⟨t,rfl⟩:=ry;have hm:=PySem.W.mapOf_K (prog:=X.prog) (w:=X.w) (h:=s.heap) (λb ob e=>I.kIn b ob e) hl hk;refine wpAny_in_of (strKind_is X.prog X.w z t) lo hm ?_;rw[PySem.W.find_K hl hn];exact#[.bl r.isSome,H,I.tok _,rfl,q]
end
section
variable{X:Cx}
end
inductive Vl where
 | a (v:V)
 | l (xs:List Vl)
 | t (xs:List Vl)
noncomputable def Rp(H:Hp):Nat→V→Vl→Prop
 | 0,v,.a x=>v=x∧cQ x=true
 | 0,_,.l _=>False
 | 0,_,.t _=>False
 | _+1,v,.a x=>v=x∧cQ x=true
 | n+1,v,.l xs=>∃ p us,v=.ref p∧H p=some (.lst us)∧us.length=xs.length∧∀(i:Nat) (u:V) (x:Vl),us[i]?=some u→xs[i]?=some x→Rp H n u x
 | n+1,v,.t xs=>∃ p us,v=.ref p∧H p=some (.tup us)∧us.length=xs.length∧∀(i:Nat) (u:V) (x:Vl),us[i]?=some u→xs[i]?=some x→Rp H n u x
noncomputable def eqD:Nat→Vl→Vl→Bool
 | _,.a x,.a y=>eqV x y
 | n+1,.l xs,.l ys=>(List.range xs.length).all (λi=>match xs[i]?,ys[i]? with|some x,some y=>eqD n x y|_,_=>true)&&xs.length == ys.length
 | n+1,.t xs,.t ys=>(List.range xs.length).all (λi=>match xs[i]?,ys[i]? with|some x,some y=>eqD n x y|_,_=>true)&&xs.length == ys.length
 | _,_,_=>false
theorem Rp.flat{H:Hp}{n:Nat}{x:V}(h:cQ x=true):Rp H n x (.a x):=by cases n<;>exact#[rfl,h]
theorem Rp.mX{H:Hp}{n:Nat}{v x:V}(h:Rp H n v (.a x)):v=x∧cQ x=true:=by cases n<;>exact h
theorem tP{n:Nat}{x y:V}:eqD n (.a x) (.a y)=eqV x y:=by cases n<;>rfl
theorem BD{H:Hp}{n:Nat}{us:List V}{xs ys:List Vl}(lx:us.length=xs.length)(ly:us.length=ys.length)(h:∀(i:Nat) (x y:Vl),xs[i]?=some x→ys[i]?=some y→eqD n x y=true) :
  ((List.range xs.length).all (λi=>match xs[i]?,ys[i]? with|some x,some y=>eqD n x y|_,_=>true)&&xs.length == ys.length)=true:=by
 rw[OS];refine#[O1.mpr λi hi=>?_,beq_iff_eq.mpr (by omega)];have hi:=Px.mp hi;have e1:xs[i]?=some xs[i]:=NJ hi;have e2:ys[i]?=some (ys[i]'(by omega)):=NJ (by omega);simp only[e1,e2];exact h i _ _ e1 e2
theorem lh{H:Hp}:∀ {n:Nat} {v:V} {a b:Vl},Rp H n v a→Rp H n v b→eqD n a b=true:=by
 intro n;induction n with
 | zero =>
  intro v a b ha hb;cases a with
  | a x =>
   cases b with
   | a y =>
    obtain⟨rfl,fx⟩:=ha.mX;obtain⟨rfl,_⟩:=hb.mX;rw[tP];exact Bz fx
   | l ys=>exact hb.elim
   | t ys=>exact hb.elim
  | l xs=>exact ha.elim
  | t xs=>exact ha.elim
 | succ n ih =>
  intro v a b ha hb;cases a with
  | a x =>
   obtain⟨rfl,fx⟩:=ha.mX;cases b with
   | a y =>
    obtain⟨rfl,_⟩:=hb.mX;rw[tP];exact Bz fx
   | l ys =>
    obtain⟨p,us,rfl,_⟩:=hb;exact absurd (show false=true from fx) NQ
   | t ys =>
    obtain⟨p,us,rfl,_⟩:=hb;exact absurd (show false=true from fx) NQ
  | l xs =>
   obtain⟨p,us,rfl,hp,hl,hi⟩:=ha;cases b with
   | a y =>
    obtain⟨e,fy⟩:=hb.mX;rw[←e]at fy;exact absurd (show false=true from fy) NQ
   | l ys =>
    obtain⟨q,ws,e,hq,ml,mi⟩:=hb;cases e;rw[hp]at hq;cases hq;exact BD (H:=H) hl ml λi x y e1 e2=>by
     have hiu:i<us.length:=(by rw[hl];exact(NK.mp e1).1);exact ih (hi i _ x (NJ hiu) e1) (mi i _ y (NJ hiu) e2)
   | t ys =>
    obtain⟨q,ws,e,hq,ml,mi⟩:=hb;cases e;rw[hp]at hq;cases hq
  | t xs =>
   obtain⟨p,us,rfl,hp,hl,hi⟩:=ha;cases b with
   | a y =>
    obtain⟨e,fy⟩:=hb.mX;rw[←e]at fy;exact absurd (show false=true from fy) NQ
   | t ys =>
    obtain⟨q,ws,e,hq,ml,mi⟩:=hb;cases e;rw[hp]at hq;cases hq;exact BD (H:=H) hl ml λi x y e1 e2=>by
     have hiu:i<us.length:=(by rw[hl];exact(NK.mp e1).1);exact ih (hi i _ x (NJ hiu) e1) (mi i _ y (NJ hiu) e2)
   | l ys =>
    obtain⟨q,ws,e,hq,ml,mi⟩:=hb;cases e;rw[hp]at hq;cases hq
structure RcB(A:Around)(s:Shared)(u v:Value)(b:Bool):Prop where
 eq:SeqAt.RcAt A s u v b
 ne:SeqAt.RcNeAt A s u v (!b)
theorem rN{A:Around}{s:Shared}{y x:V}{u v:Value}(ry:RelV y u)(rx:RelV x v)(fy:cQ y=true)(fx:cQ x=true):RcB A s u v (eqV y x):=by
 cases y with
 | non =>
  cases ry;cases x with
  | non=>cases rx;exact#[.none_none ,.none_none ]
  | bl b=>cases rx;exact#[.none_bool b,.none_bool b]
  | int b=>obtain⟨t,rfl⟩:=rx;exact#[.none_int b t,.none_int b t]
  | str b=>obtain⟨t,rfl⟩:=rx;exact#[.none_str b t,.none_str b t]
  | _=>exact absurd (show false=true from fx) NQ
 | bl a =>
  cases ry;cases x with
  | non=>cases rx;exact#[.bool_none a,.bool_none a]
  | bl b=>cases rx;exact#[.bool_bool a b,.bool_bool a b]
  | int b=>obtain⟨t,rfl⟩:=rx;exact#[.bool_int a b t,.bool_int a b t]
  | str b=>obtain⟨t,rfl⟩:=rx;exact#[.bool_str a b t,.bool_str a b t]
  | _=>exact absurd (show false=true from fx) NQ
 | int a =>
  obtain⟨t',rfl⟩:=ry;cases x with
  | non=>cases rx;exact#[.int_none a t',.int_none a t']
  | bl b=>cases rx;exact#[.int_bool a t' b,.int_bool a t' b]
  | int b=>obtain⟨t,rfl⟩:=rx;exact#[.int_int a t' b t,.int_int a t' b t]
  | str b=>obtain⟨t,rfl⟩:=rx;exact#[.int_str a t' b t,.int_str a t' b t]
  | _=>exact absurd (show false=true from fx) NQ
 | str a =>
  obtain⟨t',rfl⟩:=ry;cases x with
  | non=>cases rx;exact#[.str_none a t',.str_none a t']
  | bl b=>cases rx;exact#[.str_bool a t' b,.str_bool a t' b]
  | int b=>obtain⟨t,rfl⟩:=rx;exact#[.str_int a t' b t,.str_int a t' b t]
  | str b=>obtain⟨t,rfl⟩:=rx;exact#[.str_str a t' b t,.str_str a t' b t]
  | _=>exact absurd (show false=true from fx) NQ
 | _=>exact absurd (show false=true from fy) NQ
section
variable{X:Cx}{pins:List (Addr×Obj)}{σ:St}{H:Hp}{s:Shared}
theorem u4{A:Around}{x:V}{u:Value}{l:Addr}{items:Array Value}(rx:RelV x u)(fx:cQ x=true)(hl:s.heap.IsList l items)(hu:A.units<cLine):RcB A s u (.ref l) false∧RcB A s (.ref l) u false∧SeqAt.EqAt A s u (.ref l) false∧SeqAt.EqAt A s (.ref l) u false:=by
 cases x with
 | non=>cases rx;exact#[#[.none_list hl hu,.none_list hl hu],#[.list_none hl hu,.list_none hl hu],.none_list hl hu,.list_none hl hu]
 | bl b=>cases rx;exact#[#[.bool_list _ hl hu,.bool_list _ hl hu],#[.list_bool _ hl hu,.list_bool _ hl hu],.bool_list _ hl hu,.list_bool _ hl hu]
 | int n=>obtain⟨t,rfl⟩:=rx;exact#[#[.int_list _ _ hl hu,.int_list _ _ hl hu],#[.list_int _ _ hl hu,.list_int _ _ hl hu],.int_list _ _ hl hu,.list_int _ _ hl hu]
 | str z=>obtain⟨t,rfl⟩:=rx;exact#[#[.str_list _ _ hl hu,.str_list _ _ hl hu],#[.list_str _ _ hl hu,.list_str _ _ hl hu],.str_list _ _ hl hu,.list_str _ _ hl hu]
 | _=>exact absurd (show false=true from fx) NQ
theorem u6{A:Around}{x:V}{u:Value}{l:Addr}{items:Array Value}(rx:RelV x u)(fx:cQ x=true)(hl:s.heap.IsTuple l items)(hu:A.units<cLine):RcB A s u (.ref l) false∧RcB A s (.ref l) u false∧SeqAt.EqAt A s u (.ref l) false∧SeqAt.EqAt A s (.ref l) u false:=by
 cases x with
 | non=>cases rx;exact#[#[.none_tuple hl hu,.none_tuple hl hu],#[.tuple_none hl hu,.tuple_none hl hu],.none_tuple hl hu,.tuple_none hl hu]
 | bl b=>cases rx;exact#[#[.bool_tuple _ hl hu,.bool_tuple _ hl hu],#[.tuple_bool _ hl hu,.tuple_bool _ hl hu],.bool_tuple _ hl hu,.tuple_bool _ hl hu]
 | int n=>obtain⟨t,rfl⟩:=rx;exact#[#[.int_tuple _ _ hl hu,.int_tuple _ _ hl hu],#[.tuple_int _ _ hl hu,.tuple_int _ _ hl hu],.int_tuple _ _ hl hu,.tuple_int _ _ hl hu]
 | str z=>obtain⟨t,rfl⟩:=rx;exact#[#[.str_tuple _ _ hl hu,.str_tuple _ _ hl hu],#[.tuple_str _ _ hl hu,.tuple_str _ _ hl hu],.str_tuple _ _ hl hu,.tuple_str _ _ hl hu]
 | _=>exact absurd (show false=true from fx) NQ
theorem lst_is(I:Inv X pins σ H s){p:Addr}{us:List V}(h:H p=some (.lst us)):∃ vs,Vals us vs∧s.heap.IsList p vs.toArray:=by
 obtain⟨vs,r,⟨o,n,e,c,_,g⟩,_⟩:=I.list (SqL.of h);exact#[vs,r,o,e,c,n,g]
theorem tup_is(I:Inv X pins σ H s){p:Addr}{us:List V}(h:H p=some (.tup us)):∃ vs,Vals us vs∧s.heap.IsTuple p vs.toArray:=by
 obtain⟨vs,r,t,_⟩:=I.tuple (SqT.of h);exact#[vs,r,t]
theorem rcG(I:Inv X pins σ H s):∀ {n:Nat} {x y:V} {a b:Vl},Rp H n x a→Rp H n y b→∀ {A:Around} {u v:Value},RelV x u→RelV y v→A.units+n<cLine →
  SeqAt.EqAt A s u v (eqD n a b)∧(¬((∃ z,a=.a z)∧∃ z,b=.a z)→RcB A s u v (eqD n a b)):=by
 intro n;induction n with
 | zero =>
  intro x y a b ha hb A u v rx ry hu;cases a with
  | a z =>
   cases b with
   | a z' =>
    obtain⟨rfl,fx⟩:=ha.mX;obtain⟨rfl,fy⟩:=hb.mX;rw[tP];exact#[wL rx ry fx fy,λh=>(h #[#[_,rfl],_,rfl]).elim]
   | _=>exact hb.elim
  | _=>exact ha.elim
 | succ n ih =>
  intro x y a b ha hb A u v rx ry hu;have hu0:A.units<cLine:=by omega
  cases a with
  | a z =>
   obtain⟨rfl,fx⟩:=ha.mX;cases b with
   | a z' =>
    obtain⟨rfl,fy⟩:=hb.mX;rw[tP];exact#[wL rx ry fx fy,λh=>(h #[#[_,rfl],_,rfl]).elim]
   | l ys =>
    obtain⟨q,ws,rfl,hq,_⟩:=hb;obtain⟨vs,_,hl⟩:=lst_is I hq;cases ry;obtain⟨h1,_,h3,_⟩:=u4 rx fx hl hu0;exact#[h3,λ_=>h1]
   | t ys =>
    obtain⟨q,ws,rfl,hq,_⟩:=hb;obtain⟨vs,_,hl⟩:=tup_is I hq;cases ry;obtain⟨h1,_,h3,_⟩:=u6 rx fx hl hu0;exact#[h3,λ_=>h1]
  | l xs =>
   have ha':=ha;obtain⟨p,us,rfl,hp,lx,hx⟩:=ha;obtain⟨vs,r1,hl⟩:=lst_is I hp;cases rx;cases b with
   | a z' =>
    obtain⟨rfl,fy⟩:=hb.mX;obtain⟨_,h2,_,h4⟩:=u4 ry fy hl hu0;exact#[h4,λ_=>h2]
   | l ys =>
    have hb':=hb;obtain⟨q,ws,rfl,hq,ly,hy⟩:=hb;obtain⟨vs2,r2,hl2⟩:=lst_is I hq;cases ry;have l1:=r1.length;have l2:=r2.length;have rc:RcB A s (.ref p) (.ref q) (eqD (n+1) (.l xs) (.l ys)):=by
     by_cases hs:xs.length=ys.length
     ·have he:∀ j (h1:j<vs.toArray.size) (h2:j<vs2.toArray.size),SeqAt.EqAt A.in1 s vs.toArray[j] vs2.toArray[j] (match xs[j]?,ys[j]? with|some x,some y=>eqD n x y|_,_=>true):=λj h1 h2=>by
       simp only[NU]at h1 h2;obtain⟨w1,z1,rz1⟩:=r1.get (i:=j) (x:=us[j]'(by omega)) (NJ (by omega));obtain⟨w2,z2,rz2⟩:=r2.get (i:=j) (x:=ws[j]'(by omega)) (NJ (by omega));have a1:vs.toArray[j]=w1:=by
        have:=(NK.mp z1).2
        simpa using this
       have a2:vs2.toArray[j]=w2:=by
        have:=(NK.mp z2).2
        simpa using this
       rw[a1,a2];have e1:xs[j]?=some (xs[j]'(by omega)):=NJ (by omega);have e2:ys[j]?=some (ys[j]'(by omega)):=NJ (by omega);simp only[e1,e2];exact(ih (hx j _ _ (NJ (by omega)) e1) (hy j _ _ (NJ (by omega)) e2) rz1 rz2 (by rw[Around.in1_units];omega)).1
      have e:eqD (n+1) (.l xs) (.l ys)=(List.range vs.toArray.size).all (λi=>match xs[i]?,ys[i]? with|some x,some y=>eqD n x y|_,_=>true):=by
       show(_&&_)=_;rw[beq_iff_eq.mpr hs,Bool.and_true];simp only[NU];rw[show vs.length=xs.length by omega]
      rw[e];exact#[.lists hl hl2 (by simp only[NU];omega) hu0 he,.lists hl hl2 (by simp only[NU];omega) hu0 he]
     ·have e:eqD (n+1) (.l xs) (.l ys)=false:=by
       show(_&&_)=_;rw[beq_eq_false_iff_ne.mpr hs,Py]
      rw[e];exact#[.lists_lengths hl hl2 (by simp only[NU,bne_iff_ne,ne_eq];omega) hu0,.lists_lengths hl hl2 (by simp only[NU,bne_iff_ne,ne_eq];omega) hu0]
    refine#[?_,λ_=>rc];by_cases e:p=q
    ·subst e
     rw[lh ha' hb'];exact .same _
    ·exact .of_refs e rc.eq
   | t ys =>
    obtain⟨q,ws,rfl,hq,ly,hy⟩:=hb;obtain⟨vs2,r2,hl2⟩:=tup_is I hq;cases ry;have ne:p≠q:=λe=>by rw[e,hq]at hp;cases hp
    exact#[.of_refs ne (.list_tuple hl hl2 hu0),λ_=>#[.list_tuple hl hl2 hu0,.list_tuple hl hl2 hu0]]
  | t xs =>
   have ha':=ha;obtain⟨p,us,rfl,hp,lx,hx⟩:=ha;obtain⟨vs,r1,hl⟩:=tup_is I hp;cases rx;cases b with
   | a z' =>
    obtain⟨rfl,fy⟩:=hb.mX;obtain⟨_,h2,_,h4⟩:=u6 ry fy hl hu0;exact#[h4,λ_=>h2]
   | l ys =>
    obtain⟨q,ws,rfl,hq,ly,hy⟩:=hb;obtain⟨vs2,r2,hl2⟩:=lst_is I hq;cases ry;have ne:p≠q:=λe=>by rw[e,hq]at hp;cases hp
    exact#[.of_refs ne (.tuple_list hl hl2 hu0),λ_=>#[.tuple_list hl hl2 hu0,.tuple_list hl hl2 hu0]]
   | t ys =>
    have hb':=hb;obtain⟨q,ws,rfl,hq,ly,hy⟩:=hb;obtain⟨vs2,r2,hl2⟩:=tup_is I hq;cases ry;have l1:=r1.length;have l2:=r2.length;have he:∀ j (h1:j<vs.toArray.size) (h2:j<vs2.toArray.size),SeqAt.EqAt A.in1 s vs.toArray[j] vs2.toArray[j] (match xs[j]?,ys[j]? with|some x,some y=>eqD n x y|_,_=>true):=λj h1 h2=>by
     simp only[NU]at h1 h2;obtain⟨w1,z1,rz1⟩:=r1.get (i:=j) (x:=us[j]'(by omega)) (NJ (by omega));obtain⟨w2,z2,rz2⟩:=r2.get (i:=j) (x:=ws[j]'(by omega)) (NJ (by omega));have a1:vs.toArray[j]=w1:=by
      have:=(NK.mp z1).2
      simpa using this
     have a2:vs2.toArray[j]=w2:=by
      have:=(NK.mp z2).2
      simpa using this
     rw[a1,a2];have e1:xs[j]?=some (xs[j]'(by omega)):=NJ (by omega);have e2:ys[j]?=some (ys[j]'(by omega)):=NJ (by omega);simp only[e1,e2];exact(ih (hx j _ _ (NJ (by omega)) e1) (hy j _ _ (NJ (by omega)) e2) rz1 rz2 (by rw[Around.in1_units];omega)).1
    have e:eqD (n+1) (.t xs) (.t ys)=((List.range (min vs.toArray.size vs2.toArray.size)).all (λi=>match xs[i]?,ys[i]? with|some x,some y=>eqD n x y|_,_=>true)&&vs.toArray.size == vs2.toArray.size):=by
     show(_&&_)=_;simp only[NU];by_cases hs:xs.length=ys.length
     ·rw[show min vs.length vs2.length=xs.length by omega,show(vs.length == vs2.length)=(xs.length == ys.length) by rw[show vs.length=xs.length by omega,show vs2.length=ys.length by omega]]
     ·rw[beq_eq_false_iff_ne.mpr hs,show(vs.length == vs2.length)=false from beq_eq_false_iff_ne.mpr (by omega),Py,Py]
    have rc:RcB A s (.ref p) (.ref q) (eqD (n+1) (.t xs) (.t ys)):=by
     rw[e];exact#[.tuples hl hl2 hu0 he,.tuples hl hl2 hu0 he]
    refine#[?_,λ_=>rc];by_cases e:p=q
    ·subst e
     rw[lh ha' hb'];exact .same _
    ·exact .of_refs e rc.eq
end
noncomputable def MF(n:Nat):R2:=λx y H Q=>∃ a b,Rp H n x a∧Rp H n y b∧Q (.bl (eqD n a b)) H
noncomputable def MG(n:Nat):R2:=λx y H Q=>∃ a b,Rp H n x a∧Rp H n y b∧Q (.bl (!eqD n a b)) H
section
variable{X:Cx}
theorem Fz{n:Nat}(hu:X.A.units+n<cLine):OpR X (compareOp .Eq) (MF n):=by
 rintro pins s σ H x y v u Q I rx ry ⟨a,b,ha,hb,q⟩;by_cases h:(∃ z,a=.a z)∧∃ z,b=.a z
 ·obtain⟨⟨z,rfl⟩,z',rfl⟩:=h
  obtain⟨rfl,fx⟩:=ha.mX;obtain⟨rfl,fy⟩:=hb.mX;rw[tP]at q;exact(rN rx ry fx fy).eq _ _ _ _ #[.bl _,H,I,rfl,q]
 ·exact((rcG I ha hb rx ry hu).2 h).eq _ _ _ _ #[.bl _,H,I,rfl,q]
theorem BE{n:Nat}(hu:X.A.units+n<cLine):OpR X (compareOp .NotEq) (MG n):=by
 rintro pins s σ H x y v u Q I rx ry ⟨a,b,ha,hb,q⟩;by_cases h:(∃ z,a=.a z)∧∃ z,b=.a z
 ·obtain⟨⟨z,rfl⟩,z',rfl⟩:=h
  obtain⟨rfl,fx⟩:=ha.mX;obtain⟨rfl,fy⟩:=hb.mX;rw[tP]at q;exact(rN rx ry fx fy).ne _ _ _ _ #[.bl _,H,I,rfl,q]
 ·exact((rcG I ha hb rx ry hu).2 h).ne _ _ _ _ #[.bl _,H,I,rfl,q]
end
section
variable{X:Cx}{pins:List (Addr×Obj)}{σ:St}{H:Hp}{s:Shared}{d:Addr}{o:Obj}{u:HO}
theorem Inv.KH(I:Inv X pins σ H s)(hd:H d=some (.frz o u))(h0:∀ o u,X.H₀ d≠some (.frz o u))(nt:∀ xs,u≠.tup xs)(no:∀ x,u≠.own x)(nb:∀ ps,u≠.tbl ps):Inv X pins σ (upd H d u) s:=by
 have nn:∀ {b:Addr},H b=none→upd H d u b=none:=λ{b} q=>by
  rw[ab λz=>by rw[z,hd]at q;cases q];exact q
 have ns:∀ {b:Addr} {v:HO},H b=some v→(∀ o w,v≠.frz o w)→upd H d u b=some v:=λ{b v} q n=>by
  rw[ab λz=>n o u (by rw[z,hd]at q;exact(Oh q).symm)];exact q
 refine#[I.ok,I.os,I.bare,#[I.base.keep,I.base.slot,λb ob q n e=>nn (I.base.free b ob q n e),I.base.there,λb xs q=>ns (I.base.oK b xs q) (by intro _ _ z;cases z),λb ob w q=>?_,λb ps q=>?_],I.loc,I.cell,nn I.free,λx c q=>nn (I.dc x c q),λp hp=>?_,λa w q=>?_,I.len]
 ·have q':=I.base.nV b ob w q
  rw[ab λz=>h0 ob w (by rw[←z];exact q)];exact q'
 ·obtain⟨more,q'⟩:=I.base.oO b ps q
  exact#[more,ns q' (by intro _ _ z;cases z)]
 ·obtain⟨p1,p2,p3⟩:=I.pin p hp
  exact#[p1,nn p2,p3]
 ·have st:∀ {a:Addr} {w:HO},bT X.prog X.w H s.heap a w→bT X.prog X.w (upd H d u) s.heap a w:=λx=>x.oJ (λ_ _ _ z=>z) (λb z=>ns z (by intro _ _ y;cases y)) λb xs z=>ns z (by intro _ _ y;cases y)
  by_cases e:a=d
  ·subst e
   rw[ae]at q;cases q;exact st (I.hok a _ hd).2
  ·rw[ab e]at q
   exact st (I.hok a w q)
noncomputable def MH(H₀:Hp)(te:TE):TE:=λσ H Q=>te σ H λv H1=>∃ d o kvs,H1 d=some (.frz o (.dK kvs))∧(∀ o u,H₀ d≠some (.frz o u))∧Q v (upd H1 d (.dK kvs))
theorem BF{e:Expr}{te:TE}(h:PE X e te):PE X e (MH X.H₀ te):=by
 intro pins s σ H Q I t;refine wpAny_mono (h pins s σ H _ I t) (λu s1 ⟨v,H1,I1,r,q⟩=>?_) λ_ _ z=>z;obtain⟨d,o,kvs,hd,h0,q⟩:=q;exact#[v,_,I1.KH hd h0 (by intro _ z;cases z) (by intro _ z;cases z) (by intro _ z;cases z),r,q]
noncomputable def MI(H₀:Hp)(t:TS):TS:=λD σ H=>∃ d o kvs,H d=some (.frz o (.dK kvs))∧(∀ o u,H₀ d≠some (.frz o u))∧t D σ (upd H d (.dK kvs))
theorem BG{st:Stmt}{t:TS}(h:PS X st t):PS X st (MI X.H₀ t):=by
 intro pins s σ H D I q;obtain⟨d,o,kvs,hd,h0,q⟩:=q;exact h pins s σ _ D (I.KH hd h0 (by intro _ z;cases z) (by intro _ z;cases z) (by intro _ z;cases z)) q
theorem EF:∀ {ns:List Int} {us:List Value},Vals (ns.map V.int) us→∃ ps:List (Int×Tok),us=ps.map (λp=>Value.int p.1 p.2)∧ps.map (·.1)=ns
 | [],_,.nil=>#[[],rfl,rfl]
 | n::r,_,.cons h t=>by
  obtain⟨k,rfl⟩:=h;obtain⟨ps,e,e2⟩:=EF t;exact#[(n,k)::ps,by rw[e];rfl,by rw[Oo,e2]]
noncomputable def JA(K:W.Frag):List V→Hp→VK→Prop:=λvs H Q=>∃(p:Addr) (ns:List Int),vs=[.ref p]∧SqL K H p (ns.map V.int)∧Q (.int ns.sum) H
theorem rO(hc:X.calm=true):eM X (.builtin "sum") (JA X.K):=by
 rintro pins s σ H xs us Q I r ⟨p,ns,rfl,hq,q⟩;obtain⟨u,rfl,ru⟩:=r.one;cases (show u=Value.ref p from ru);obtain⟨its,rv,⟨o,n,e1,e2,e3,e4⟩,hz⟩:=I.list hq;obtain⟨ps,e,ee⟩:=EF rv;have hl:s.heap.IsList p (intItems ps.toArray):=by
  refine#[o,e1,e2,n,?_];rw[e4,e];simp[intItems]
 have hs:preSum (numAt ps.toArray) ps.toArray.size=ns.sum:=by
  rw[preSum_eq];simp only[NU];rw[ee,NZ (by rw[←ee,NI];exact NO _)]
 refine sum_intListG (I.ok.hd hc) hl λh' tk t' hk=>#[.int ns.sum,H,I.kept (t':=tk) hk,#[t',by rw[hs]],q]
end
theorem yS{d:Addr}{o:Obj}{kvs:List (Key×V)}{te:TE}{Q:VK}{D:Addr}{τ:St}{H:Hp}(Pv:Nat→List V→Hp→Prop)(h0:Pv 0 [] H)(hD:∀ i ys H,i≤kvs.length→Pv i ys H→H D=some (.lst ys)∧ys.length=i)(hl:∀ i ys H,i≤kvs.length→Pv i ys H→H d=some (.frz o (.dK kvs)))(hn:kvs.length≤sizeLine)
  (hs:∀ i p ys H,kvs[i]?=some p→Pv i ys H→te (some (kV p.1)::τ) H λv H4=>H4 D=some (.lst ys)∧Pv (i+1) (ys++[v]) (upd H4 D (.lst (ys++[v])))) (hd:∀ ys H,Pv kvs.length ys H→Q (.ref D) H):tN (Itd d o kvs) D τ te Q H:=by
 refine#[λi m ys H=>m=kvs.length-i∧i≤kvs.length∧Pv i ys H,#[kvs.length,by simp,Oy _,h0],?_];rintro i m ys H2 ⟨rfl,hi,p⟩;obtain⟨d1,d2⟩:=hD i ys H2 hi p;refine#[d1,?_];have hS:=hl i ys H2 hi p;by_cases hlt:i<kvs.length
 ·refine .inr #[#[hS,hlt],by omega,Pv (i+1),λzs H' p'=>#[kvs.length-(i+1),by omega,rfl,hlt,p'],λy H3 q=>?_]
  obtain⟨e1,q',e2,e3⟩:=q;subst e1 e3;exact hs i q' ys _ e2 p
 ·have e:i=kvs.length:=by omega
  subst e;exact .inl #[#[hS,NO _],hd ys H2 p]
noncomputable def CI:Option Key→Value→Bool
 | none,.none=>true
 | none,_=>false
 | some k,v=>gU k v
theorem bV{v:Value}(h:CI none v=true):v=.none:=by
 cases v<;>first|rfl|cases h
noncomputable def MJ(w:World):Option Key→Int
 | none=>reduceHash 0xFCA86420
 | some k=>Kl w k
theorem yT{prog:Program}{w:World}{A:Around}{E:Value→Shared→Prop}{s:Shared}{Q:Int→Shared→Prop}(h:Q (reduceHash 0xFCA86420) {s with toks:=s.toks+1}):wpAny (model prog w) A (pyHash .none) Q E s:=by
 show wpAny _ _ (pyHashByItsType .none) Q E s;exact PySem.W.pyHash_slot (T := "NoneType") rfl F.slot_NoneType_hash F.entry_NoneType_hash (F.args_NoneType_hash_1 _) (beq_builtin_none _) (.inl rfl) (wpAny_bind (wpAny_pure (wpAny_bind (wpAny_mkInt (wpAny_pure #[_,_,rfl,h])))))
noncomputable def optKind(prog:Program)(w:World):PySem.KeyKind prog w (Option Key) where
 is:=CI
 hash:=MJ w
 inj:=λv a b ha hb=>by
  cases a with
  | none =>
   obtain rfl:=bV ha;cases b with
   | none=>rfl
   | some k=>rcases aW (show gU k .none=true from hb) with⟨_,_,_,e⟩|⟨_,_,_,e⟩<;>exact nomatch e
  | some k =>
   cases b with
   | none =>
    obtain rfl:=bV hb;rcases aW (show gU k .none=true from ha) with⟨_,_,_,e⟩|⟨_,_,_,e⟩<;>exact nomatch e
   | some k'=>rw[(a7 prog w).inj v k k' ha hb]
 byValue:=λk v h=>by
  cases k with
  | none=>obtain rfl:=bV h;rfl
  | some k=>exact(a7 prog w).byValue k v h
 pyHash:=λ{A E s k v Q} hv h=>by
  cases k with
  | none=>obtain rfl:=bV hv;exact yT h
  | some k=>exact(a7 prog w).pyHash (k:=k) hv h
 eqBool:=λ{A E s a b u v Q} hu hv h=>by
  cases a with
  | none =>
   obtain rfl:=bV hu;cases b with
   | none=>obtain rfl:=bV hv;exact SeqAt.EqAt.same _ _ _ _ _ h
   | some k =>
    rw[decide_eq_false (by intro z;cases z)]at h;rcases aW (show gU k v=true from hv) with⟨i,t,_,rfl⟩|⟨x,t,_,rfl⟩
    ·exact SeqAt.EqAt.none_int i t _ _ _ _ h
    ·exact SeqAt.EqAt.none_str x t _ _ _ _ h
  | some k =>
   cases b with
   | none =>
    obtain rfl:=bV hv;rw[decide_eq_false (by intro z;cases z)]at h;rcases aW (show gU k u=true from hu) with⟨i,t,_,rfl⟩|⟨x,t,_,rfl⟩
    ·exact SeqAt.EqAt.int_none i t _ _ _ _ h
    ·exact SeqAt.EqAt.str_none x t _ _ _ _ h
   | some k' =>
    refine(a7 prog w).eqBool (a:=k) (b:=k') hu hv ?_;have e:decide (some k=some k')=decide (k=k'):=by
     by_cases c:k=k'
     ·subst c;simp
     ·rw[decide_eq_false c,decide_eq_false (by intro z;exact c (Oh z))]
    rw[←e];exact h
 «strs» := λk x t v h=>by
  cases k with
  | none=>exact nomatch bV h
  | some k=>exact(a7 prog w).strs k x t v h
theorem Ds{prog:Program}{w:World}{h:Heap}{a:Addr}{kvs:List (Key×Value)}(hd:h.DictOf (a7 prog w) a kvs):h.MapOf (optKind prog w) a (λk=>k.bind λk=>valueAt kvs k):=by
 obtain⟨o,es,ep,ho,hc,MK,hk,hf⟩:=hd.mapOf;refine#[o,es,ep,ho,hc,MK,λe he=>?_,λk=>?_]
 ·obtain⟨k,h1,h2⟩:=hk e he
  exact#[some k,h1,h2]
 ·cases k with
  | none =>
   show(es.find? λe=>CI none e.key).map (·.val)=none;rw[Array.find?_eq_none.mpr λe he=>?_]
   ·rfl
   ·obtain⟨k,h1,_⟩:=hk e he
    intro z
    have:=bV z
    rw[this]at h1;rcases aW (show gU k .none=true from h1) with⟨_,_,_,e⟩|⟨_,_,_,e⟩<;>exact nomatch e
  | some k=>exact hf k
noncomputable def inO(kvs:List (Key×V)):Option Key→Bool
 | none=>false
 | some k=>(bU kvs k).isSome
noncomputable def IL:Option Key→V
 | none=>.non
 | some k=>kV k
section
variable{X:Cx}{i o:Expr}{ty td:TE}
noncomputable def JB(ty td:TE):TE:=λσ H Q=>ty σ H λy H1=>td σ H1 λx H2=>∃ a kvs k,x=.ref a∧y=IL k∧Rd H2 a (.dK kvs)∧Q (.bl (inO kvs k)) H2
theorem FA{P:Program}{w:World}{k:Option Key}{u:Value}(r:RelV (IL k) u):(optKind P w).is k u=true:=by
 cases k with
 | none=>cases r;rfl
 | some k=>exact qW (P:=P) (w:=w) r
theorem Dt(hi:PE X i ty)(ho:PE X o td):PC X .In i o (JB ty td):=by
 intro pins s σ H Q I h;refine thn (hi pins s σ H _ I h) λiv s1 ⟨y,H1,I1,ry,q1⟩=>thn (ho pins s1 σ H1 _ I1 q1) λu s2 ⟨x,H2,I2,rx,a,kvs,k,ex,ey,g,q2⟩=>?_;subst ex ey;cases (show u=Value.ref a from rx);obtain⟨z,hd,vs,rel,dd⟩:=ng I2.hok g;refine wpAny_in_of (FA (P:=X.prog) (w:=X.w) ry) hd (Ds dd) ?_;have e:(k.bind λk=>valueAt vs k).isSome=inO kvs k:=by
  cases k with
  | none=>rfl
  | some k=>exact(rel.val k).eC.symm
 rw[e];exact#[.bl (inO kvs k),H2,I2.tok _,rfl,q2]
end
section
variable{X:Cx}{K:W.Frag}
theorem Du{e:Expr}{f:Str}{pos:Pos}{ta:TE}(hK:X.K=K)(he:PE X e ta)(hb:attributeBase e f X.env (eval e X.env)=eval e X.env):PE X (.Attribute e f pos) (Em K ta f):=by
 subst hK;exact az he hb
noncomputable def JC(K:W.Frag):List V→Hp→VK→Prop:=λxs H Q=>∃ p ys,xs=[V.ref p]∧(SqL K H p ys∨SqT K H p ys)∧Q (.int (ys.length:Int)) H
theorem yU(hK:X.K=K):eM X (.builtin "len") (JC K):=by
 subst hK;exact aT
end
structure zV(k:Nat)(A:Around):Prop where
 dp:A.depth+3*k+5<recursionLimit
 un:A.units+16*k+200<cLine
theorem cT.r0{j k:Nat}{A:Around}(r:cT k A)(h:j≤k):zV j A:=#[by have:=r.dp;omega,by have:=r.un;omega]
structure vH(P:Program)(w:World)(K:W.Frag)(mg:Str→Option Value)(base:Heap)(CX:CXT)(k:Nat)(f:Addr)(fd:FuncData)(ps:List Str)(sp:Sp):Prop where
 len:∀ vs H Q E,sp vs H Q E→vs.length=ps.length
 run:∀(A:Around) (outer:List Env) (s:Shared) (H:Hp) (args:Args) (us:List Value) (vs:List V) (Q:VK) (E:XK),zV k A→vx P w K mg base A outer s H→BindsTo s fd args (ps.zip us)→Vals vs us→sp vs H Q E →
  codeAny (model P w) A (.call (.ref f) args) (CR CX outer P w H s Q E) s
noncomputable def cx0(CX:CXT)(P:Program)(w:World)(K:W.Frag)(mg:Str→Option Value)(base:Heap)(N:List Str)(qual:Str)(scope:Scope)(f:Addr)(cd:Value)(A:Around)(outer:List Env)(s:Shared)(H:Hp)(E:XK):Cx:={zZ CX P w K mg base N qual scope f cd A outer s H E with calm:=false}
theorem FC{CX:CXT}{P:Program}{w:World}{K:W.Frag}{mg:Str→Option Value}{base:Heap}{k:Nat}{f:Addr}{name qual:Str}{params:Arguments}{body:List Stmt}{scope:Scope}{dV kV doc pm cdv ct oc:Value}{an od:Option Addr}
  {osl:Array (Option Value)} {N ps:List Str} {sp:Sp} (lk:K.lookup f=some #[oc,od,.func (PySem.W.fnOf name qual params body scope dV kV doc pm an cdv ct),osl]) (hcd:PySem.W.codeIn K cdv qual=true) (S:ao N ps scope)
  (len:∀ vs H Q E,sp vs H Q E→vs.length=ps.length)
  (gy:∀(A:Around) (outer:List Env) (s:Shared) (H:Hp) (vs:List V) (Q:VK) (E:XK),sp vs H Q E →
   ∃ t,PSs (cx0 CX P w K mg base N qual scope f cdv A outer s H E) body t∧t {nx:=λ_ H'=>Q .non H',rt:=Q} (start N vs) H) :
  vH P w K mg base CX (k+1) f (PySem.W.fnOf name qual params body scope dV kV doc pm an cdv ct) ps sp:=by
 refine#[len,λA outer s H args us vs Q E hr e0 hb r hsp=>?_];have hl:=len _ _ _ _ hsp;have KX:K.In s.heap:=e0.mod.kin.keeps λb o e=>(e0.bs b o e).1;have lim:s.heap.NoLimit:=e0.mod.nolimit.keeps λb o e=>(e0.bs b o e).1;have B9:∀ y∈ps.zip us,scope.names.lookup y.1=some .local∨(scope.names.lookup y.1=some .cell∧((cellsFrom (s.heap.objs.size+1) scope.names []).lookup y.1).isSome=true):=λ⟨n,v⟩ hy=>by
  rcases S.par n (PN hy).1 with q|q
  ·exact .inl q
  ·exact .inr #[q,PySem.W.cellsFrom_some _ _ _ (.inl q)]
 have dep:A.depth<recursionLimit:=by have:=hr.dp;omega
 refine codeAny_call_function dep (KX _ _ lk) rfl S.co S.gen rfl (PySem.W.codeRec_of KX hcd) (hb _ _ _ _ ?_);refine wpAny_newFunctionEnv_cells S.kind B9 λenv he s1 x=>?_;subst he;refine#[lim.keeps x.toInCall.keep,codeAny_func ?_];obtain⟨t,ht,hq⟩:=gy A outer s H vs Q E hsp;have I:Inv (cx0 CX P w K mg base N qual scope f cdv A outer s H E) [] (start N vs) H s1:=by
  have e1:vx P w K mg base ({A with handled:=none}:Around) outer s H:=#[e0.frames,e0.mod,e0.bs,e0.bsz,e0.lD,e0.frf,e0.hok,e0.bare];have J:=rb (CX:=CX) (E:=E) (A:={A with handled:=none}) S rfl e1 hl r x;exact#[#[J.ok.mod,J.ok.kind,J.ok.glob,J.ok.blt,J.ok.above,J.ok.inj,J.ok.has,J.ok.cab,(λh=>absurd h (by show ¬false=true;decide)),Around.frames_deeper e0.frames,J.ok.stk,J.ok.exf,J.ok.bs,J.ok.bsz,J.ok.uz,J.ok.xh,J.ok.lD,J.ok.frf],J.os,J.bare,J.base,J.loc,J.cell,J.free,J.dc,J.pin,J.hok,J.len]
 refine wpAny_mono (ht [] s1 (start N vs) H _ I hq) (λfl s' hs=>?_) λe s' hs=>hs;have fin:∀ {σ':St} {H':Hp} {v:V} {u:Value},Inv (cx0 CX P w K mg base N qual scope f cdv A outer s H E) [] σ' H' s'→RelV v u→Q v H'→CE outer P w H s Q u s' :=
  λ{σ' H' v u} J rv q=>#[v,H',J.os,J.bare,J.base,J.hok,rv,q]
 cases fl with
 | ret u =>
  obtain⟨v,σ',H',J,rv,q⟩:=hs;exact fin J rv q
 | next =>
  obtain⟨σ',H',J,q⟩:=hs;exact fin (v:=V.non) (u:=Value.none) J rfl q
 | brk =>
  obtain⟨_,_,_,q⟩:=hs;exact False.elim q
 | cont =>
  obtain⟨_,_,_,q⟩:=hs;exact False.elim q
theorem Fun.ok0{P:Program}{w:World}{K:W.Frag}{mg:Str→Option Value}{base:Heap}{x qual:Str}{st:Stmt}{f:Addr}{fd:FuncData}{N ps:List Str}{k:Nat}{sp:Sp}(F:Fun K x qual st f fd)(S:ao N ps (ag st))(len:∀ vs H Q E,sp vs H Q E→vs.length=ps.length)
  (gy:∀(cdv:Value) (A:Around) (outer:List Env) (s:Shared) (H:Hp) (vs:List V) (Q:VK) (E:XK),sp vs H Q E →
   ∃ t,PSs (cx0 (CXE P w) P w K mg base N qual (ag st) f cdv A outer s H E) (aA st) t∧t {nx:=λ_ H'=>Q .non H',rt:=Q} (start N vs) H):vH P w K mg base (CXE P w) (k+1) f fd ps sp:=by
 obtain⟨oc,od,kV,doc,pm,an,cdv,ct,osl,rfl,lk,hcd⟩:=F.ex;exact FC lk hcd S len λA outer s H vs Q E hsp=>gy cdv A outer s H vs Q E hsp
section
variable{X:Cx}{o:Expr}{ta:TE}
theorem JD{CX:CXT}{k:Nat}{f:Addr}{fd:FuncData}{ps:List Str}{sp:Sp}{ds:List Value}{dvs:List V}{EK:St→XK}{pins:List (Addr×Obj)}{σ:St}{H:Hp}{s:Shared}{Q:VK}{us:List Value}{vs:List V}(F:vH X.prog X.w X.K X.mg X.base CX k f fd ps sp)(hr:zV k X.A)(hb:Binds X.K fd ps ds)(hd:Vals dvs ds)(hx:bK CX X EK)
  (I:Inv X pins σ H s) (r:Vals vs us) (h:sp (vs++dvs) H Q (EK σ)):wpAny (model X.prog X.w) X.A (call (.ref f) us) (EP X pins σ Q) X.xe s:=by
 have r2:Vals (vs++dvs) (us++ds):=r.append hd;have hl:(us++ds).length=ps.length:=by rw[←r2.length];exact F.len _ _ _ _ h
 refine wpAny_call (codeAny_mono (F.run X.A X.stack s H #[us,[]] (us++ds) (vs++dvs) Q (EK σ) hr I.Eo (hb s us I.kIn hl) r2 h) λr s' hq=>?_);cases r with
 | error e=>exact hx pins σ H s e s' I hq
 | ok fl =>
  cases fl with
  | ret u=>exact I.after hq
  | _=>exact False.elim hq
structure BH(P:Program)(w:World)(K:W.Frag)(mg:Str→Option Value)(base:Heap)(CX:CXT)(k:Nat)(m:Str)(C:Addr)(sp:Sp):Prop where
 ex:∃ f fd ps,Meth K C m f∧vH P w K mg base CX k f fd ps sp∧Binds K fd ps []
noncomputable def sZ(P:Program)(w:World)(K:W.Frag)(mg:Str→Option Value)(base:Heap)(CX:CXT)(k:Nat)(m:Str)(EK:St→XK)(ta:TE):TE:=λσ H Q=>ta σ H λx H1=>∃ b a C sp,x=.ref a∧H1 a=some (exo b C a none)∧II K C ∧
 BH P w K mg base CX k m C sp∧sp [x] H1 Q (EK σ)
theorem yV{CX:CXT}{k:Nat}{EK:St→XK}{m:Str}{pos apos:Pos}{pl:Sem Bool}(he:PE X o ta)(hr:zV k X.A)(hx:bK CX X EK)
  (ht:eval (.Call (.Attribute o m apos) [] [] pos) X.env=(do
   let ov ←eval o X.env
   standAt apos.atName
   let (f,first) ←holding [ov] (getMethod ov m pl)
   callWith pos f first (backTo pos (starEach [] X.env)) (backToKw pos (keywordEach [] X.env))):=by rfl) :
  PE X (.Call (.Attribute o m apos) [] [] pos) (sZ X.prog X.w X.K X.mg X.base CX k m EK ta):=by
 intro pins s σ H Q I h;refine PySem.W.methodCall_KW (pl:=pl) (thn (he pins s σ H _ I h) λu s1 ⟨x,H1,I1,rx,b,a,C,sp,ex,ea,g,md,q⟩=>?_) ht;subst ex;obtain rfl:u=Value.ref a:=rx;obtain⟨f,fd,ps,mt,F,hb⟩:=md.ex;obtain⟨fs,sl,a0,z,_⟩:=pj I1.hok ea;have fin:wpAny (model X.prog X.w) X.A (callWith pos (.ref f) [.ref a] (backTo pos (starEach [] X.env)) (backToKw pos (keywordEach [] X.env))) (EP X pins σ Q) X.xe s1 :=
  PySem.W.callWith_K0 (first:=[.ref a]) I1.kIn mt.kp (JD (us:=[.ref a]) (vs:=[.ref a]) (dvs:=[]) (ds:=[]) F hr hb .nil hx I1 (.cons rfl .nil) q)
 exact Am I1.kIn (yG z) g.ga g.gt mt.at_ (beq_iff_eq.mp mt.fn) rfl fin
end
noncomputable def nsE:Expr→Bool
 | .Starred ..=>false
 | _=>true
theorem Dv{e:Expr}{es:List Expr}{env:Env}(h:nsE e=true):starEach (e::es) env=(false,eval e env)::starEach es env:=by
 cases e<;>first|rfl|cases h
theorem cU{X:Cx}{e:Expr}{es:List Expr}{te:TE}{t:TA}(ha:PE X e te)(hr:PA X es t)(hs:nsE e=true:=by rfl):PA X (e::es) (gW te t):=aa ha hr (Dv hs)
theorem Dw{es:List Expr}{p:Pos}{t:Option Expr}{l:Nat}{env:Env}:swapsWith (.List es p) t l env=pure false:=rfl
theorem Dx{X:Cx}{i:Nat}{x:Str}{es:List Expr}{p:Pos}{te:TE}{pos' pos:Pos}(hN:X.N.Nodup)(hi:X.N[i]?=some x)(hx:Loc X.env.scope x)(he:PE X (.List es p) te)(hf:X.fn x=true∨X.env.scope.names.lookup x=some .local:=by first|exact .inl rfl|exact .inr rfl|assumption) :
  PS X (.Assign [.Name x pos'] (.List es p) pos) (zX te (gw i)):=aY hN hi hx he Dw hf
theorem rP:∀(f n r:Nat),n≤f→r≤1→minRun' f n r≤max 64 (n+r)
 | 0,n,r,_,_=>Nat.le_max_right _ _
 | f+1,n,r,h,hr=>by
  rw[minRun'_succ];by_cases c:n<64
  ·rw[if_pos c];exact Nat.le_max_right _ _
  ·rw[if_neg c]
   have:=rP f (n/2) (max r (n%2)) (by omega) (by omega)
   omega
theorem ub{n:Nat}:¬n<minRun' n n 0:=by
 by_cases c:n<64
 ·cases n with
  | zero=>show ¬0<0+0;omega
  | succ f=>rw[minRun'_succ,if_pos c];omega
 ·have:=rP n n 0 (NO _) (by omega)
  omega
section
variable{prog:Program}{w:World}{A:Around}{E:Value→Shared→Prop}{s:Shared}{a₀:Array Keyed}
theorem uc{st:SortSt}{m:Nat}{Q:Option Nat→SortSt→Prop}(ik:IntKeys a₀)(h:m≤a₀.size)(h1:1≤m)(B:SBase a₀ st)(up:SortedTo (arrOf st) m)(q:Q (some m) st):wpS (model prog w) A E s (countRun' 0 m) Q st:=by
 rw[countRun0_eq];refine wpS_bind (wpS_ascLoop ik h (NO 1) h1 B (λi j a b=>up i j a (by omega)) λn n1 n2 _ o=>?_);have e:n=m:=by
  rcases o with o|o
  ·exact o
  ·by_cases c:n=m
   ·exact c
   ·have:=up (n-1) n (by omega) (by omega)
    omega
 subst e;dsimp only;rw[if_pos (by simp)];exact wpS_pure q
theorem vI{st:SortSt}{Q:Unit→SortSt→Prop}(ik:IntKeys a₀)(B:SBase a₀ st)(n2:2≤a₀.size)(up:SortedTo (arrOf st) a₀.size)
  (q:∀ st',(arrOf st').Perm a₀→failedOf st'=none→SortedTo (arrOf st') a₀.size→Q () st'):wpS (model prog w) A E s sortRuns' Q st:=by
 rw[sortRuns'_eq];refine wpS_bind (wpS_get ?_);dsimp only;have mr:¬a₀.size<minRun' a₀.size a₀.size 0:=ub;simp only[B.size];refine wpS_bind (wpS_mono (wpS_forRange (I:=λx c st'=>(x=0∧c=(none,0)∧st'=st)∨(1≤x∧c=(none,a₀.size)∧SDone a₀ st')) (Q:=λc st'=>c=(none,a₀.size)∧SDone a₀ st') ?one ?all (.inl #[rfl,rfl,rfl])) ?rest)
 case all =>
  rintro c st' (⟨z,_,_⟩|⟨_,hc,d⟩)
  ·omega
  ·exact#[hc,d]
 case one =>
  rintro x c st' _ hx (⟨rfl,rfl,rfl⟩|⟨_,rfl,d⟩)
  ·dsimp only
   rw[if_neg (by omega)];simp only[Nat.sub_zero,Nat.zero_add];refine wpS_bind (uc ik (NO _) (by omega) B up ?_);dsimp only;rw[if_neg mr];refine wpS_bind (wpS_get ?_);rw[show(pendingOf st').back?=none by rw[B.pend];rfl];dsimp only;exact wpS_bind (wpS_modify (wpS_pure (.inr #[by omega,rfl,B.done up])))
  ·dsimp only
   rw[if_pos (NO _)];exact wpS_pure #[rfl,d]
 case rest =>
  rintro c st' ⟨rfl,d⟩;dsimp only;refine wpS_bind (wpS_mono (wpS_forRange (I:=λ_ c st2=>st2=st'∧c=(none,())) (Q:=λc st2=>st2=st'∧c=(none,())) ?_ (λ_ _ z=>z) #[rfl,rfl]) ?_)
  ·rintro x c st2 _ _ ⟨rfl,rfl⟩
   refine wpS_bind (wpS_get ?_);rw[if_pos (show(pendingOf st2).size≤1 by rw[d.2.2.1];exact NO 1)];exact wpS_pure #[rfl,rfl]
  ·rintro c st2 ⟨rfl,rfl⟩
   exact wpS_pure (q _ d.1 d.2.1 d.2.2.2)
theorem xJ:∀ {vs:List Value} {ns:List Int},IntsAre vs ns→∀(i:Nat) (h:i<vs.length) (h':i<ns.length),numOf vs[i]=ns[i]
 | _,_,.nil,i,h,_=>absurd h (PV _)
 | _,_,.cons k t r,0,_,_=>rfl
 | _,_,.cons k t r,i+1,h,h'=>xJ r i (Nat.lt_of_succ_lt_succ h) (Nat.lt_of_succ_lt_succ h')
theorem AA{vs:List Value}{ns:List Int}(hI:IntsAre vs ns)(up:ns.Pairwise (·≤·)):SortedTo (pairsOf vs) (pairsOf vs).size:=by
 intro i j ij hj;have hl:=hI.length;have hs:=pairsOf_size vs;rw[K_eq (by omega),K_eq (by omega)];have hi2:i<ns.length:=by omega
 have hj2:j<ns.length:=by omega
 have e:∀(k:Nat) (h:k<(pairsOf vs).size) (h':k<ns.length),numOf (pairsOf vs)[k].1=ns[k]:=λk h h'=>by
  have:(pairsOf vs)[k].1=vs[k]'(by omega):=by simp[pairsOf]
  rw[this];exact xJ hI k (by omega) h'
 rw[e i (by omega) hi2,e j (by omega) hj2];rcases Pe i j with c|c
 ·exact List.pairwise_iff_getElem.mp up i j hi2 hj2 c
 ·have:i=j:=by omega
  subst this;exact OF _
theorem sj{a:Addr}{vs:List Value}{ns:List Int}{n:Nat}{P:Fin→Shared→Prop}(ho:s.heap.get? a=some (seqObj "list" vs.toArray n))(hI:IntsAre vs ns)(few:vs.length≤20000)(up:ns.Pairwise (·≤·))
  (h:∀(out:Array Value) (ns':List Int),IntsAre out.toList ns'→ns'.Perm ns→ns'.Pairwise (·≤·)→P (.done (.ret .none)) {s with heap:=sortedHeap s.heap a vs out}):wpAny (model prog w) A (Builtin.«list.sort» #[[.ref a],[]]) P E s:=by
 have hz:vs.length≤sizeLine:=PZ (Ow few (by decide));rw[list_sort_plain];have la:a<s.heap.objs.size:=NT ho;refine wpAny_bind (listItems_at ho rfl (wpAny_bind (listUpdate_at ho rfl ?_ (by rw[NU];exact hz) (Oy _))));obtain⟨e1,g1⟩:∃ e1,(s.heap.update a (Obj.mapSeq λ_=>#[])).get? a=some (seqObj "list" #[] e1):=#[_,get?_update_seq ho (λ_=>#[])];refine wpAny_bind (seqEpoch_at g1 rfl (wpAny_bind (wpAny_newTuple (wpAny_bind (wpAny_newList (wpAny_holding ?_) (Oy _))) (by show vs.length≤_;exact hz))));have g6:(((s.heap.update a (Obj.mapSeq λ_=>#[])).push (seqObj "tuple" vs.toArray 0)).push (seqObj "list" #[] 0)).get? a=some (seqObj "list" #[] e1):=NL _ (NL _ g1);show wpAny (model prog w) A _ P E {s with heap:=((s.heap.update a (Obj.mapSeq λ_=>#[])).push (seqObj "tuple" vs.toArray 0)).push (seqObj "list" #[] 0)};dsimp only;have zs:(pairsOf vs).size=vs.length:=pairsOf_size vs;have fin:∀ st':SortSt,(arrOf st').Perm (pairsOf vs)→SortedTo (arrOf st') (pairsOf vs).size→P (.done (.ret .none)) {s with heap:=sortedHeap s.heap a vs ((arrOf st').map (·.2))}:=λst' hp hs=>by
  obtain⟨ns',q1,q2,q3⟩:=sorted_out hI hp hs;exact h _ ns' q1 q2 q3
 have up0:=AA hI up;by_cases c:vs.toArray.size<2
 ·rw[if_pos c,if_pos c]
  refine wpAny_bind (wpAny_pure ?_);rw[StateT.run_pure];refine wpAny_bind (wpAny_pure ?_);dsimp only;refine wpAny_bind (seqEpoch_at g6 rfl (wpAny_bind (listUpdate_at g6 rfl ?_ (hsz2:=by rw[Array.size_map];show(pairsOf vs).size≤_;rw[zs];omega))));simp only[bne_self_eq_false,OG,if_false];exact wpAny_pure (fin (SortSt.mk' general' (vs.toArray.zip vs.toArray) #[] 7 none) (Array.Perm.refl _) up0)
 ·rw[if_neg c,if_neg c]
  obtain⟨v1,v2,r,rfl⟩:∃ v1 v2 r,vs=v1::v2::r:=by
   match vs,c with
   | [],c=>simp at c
   | [_],c=>simp at c
   | v1::v2::r,_=>exact#[v1,v2,r,rfl]
  rw[keyKind_ints hI];refine wpAny_bind (wpAny_pure (wpAny_bind (wpAny_mono (vI (a₀:=pairsOf (v1::v2::r)) (st:=SortSt.mk' oneType' ((v1::v2::r).toArray.zip (v1::v2::r).toArray) #[] 7 none)
   (Q:=λ_ st'=>(arrOf st').Perm (pairsOf (v1::v2::r))∧failedOf st'=none∧SortedTo (arrOf st') (pairsOf (v1::v2::r)).size) hI.intKeys #[Array.Perm.refl _,rfl,rfl,rfl] (by rw[zs];simp) up0 λst' a1 a2 a3=>#[a1,a2,a3]) ?_ λ_ _ e=>e)))
  rintro⟨⟨⟩,st'⟩ s' ⟨rfl,hp,hf,hs⟩;dsimp only;refine wpAny_bind (seqEpoch_at g6 rfl (wpAny_bind (listUpdate_at g6 rfl ?_ (hsz2:=NW (Nat.le_of_eq ((Array.size_map ..).trans (hp.size_eq.trans zs))) (Nat.le_succ_of_le hz)))));rw[hf];simp only[bne_self_eq_false,OG,if_false];exact wpAny_pure (fin st' hp hs)
end
section
variable{X:Cx}
noncomputable def Dy(K:W.Frag):List V→Hp→VK→Prop:=λvs H Q=>∃(p:Addr) (ns:List Int),vs=[.ref p]∧SqL K H p (ns.map V.int)∧ns.length≤20000∧ns.Pairwise (·≤·)∧∀(l:Addr),H l=none→Q (.ref l) (upd H l (.lst (ns.map V.int)))
theorem ud:eM X (.builtin "sorted") (Dy X.K):=by
 rintro pins s σ H xs us Q I r ⟨p,ns,rfl,hq,few,up,q⟩;obtain⟨u,rfl,ru⟩:=r.one;cases (show u=Value.ref p from ru);obtain⟨its,rv,pl,hz⟩:=I.list hq;have hI:=intsAre_of rv;have hlen:=rv.length;rw[NI]at hlen hz;refine Calls.call_function_entry kind_sorted plain_sorted entry_sorted (args_sorted1 _) ?_;unfold Builtin.«sorted»;refine wpAny_bind (m:=checkCount "sorted" 1 1 _) (wpAny_pure ?_);have iz:its.length≤sizeLine:=by omega
 refine wpAny_bind (collect_list pl.isList ?_ iz);refine wpAny_bind (wpAny_newList ?_ iz);have sz:((s.heap.push (seqObj "list" #[] 0)).update s.heap.objs.size (Obj.mapSeq (·++its.toArray))).objs.size=s.heap.objs.size+1:=by rw[Heap.size_update,size_push']
 have hoL:(((s.heap.push (seqObj "list" #[] 0)).update s.heap.objs.size (Obj.mapSeq (·++its.toArray))).push (seqObj "list" its.toArray 0)).get? (s.heap.objs.size+1)=some (seqObj "list" its.toArray 0):=by rw[←sz];exact Oc _ rfl
 show wpAny _ _ _ _ _ {s with heap:=((s.heap.push (seqObj "list" #[] 0)).update s.heap.objs.size (Obj.mapSeq (·++its.toArray))).push (seqObj "list" its.toArray 0)};rw[sz];refine wpAny_bind (wpAny_holding (wpAny_call_entry slot_list_sort #[_,hoL,rfl] entry_list_sort (sj hoL hI (by omega) up λout ns' a1 a2 a3=>#[_,rfl,?_]) (args_list_sort _)));refine wpAny_pure #[_,rfl,?_];cases yK a2 a3 up;obtain⟨e,he⟩:=sortedAll_at s.heap its out;refine#[.ref (s.heap.objs.size+1),_,I.laid (a:=s.heap.objs.size+1) (o:=.lst (ns.map V.int)) (t':=s.toks) (λ_ _=>sortedAll_old) (OW _) ?_,rfl,q _ (I.hok.fresh (OW _))];refine#[by rw[NI];exact hz,out.toList,e,jb a1,?_];show(sortedAll s.heap its out).get? _=_;rw[he]
end
end L2
end
section
namespace K27
open PySem L2 LX
open PySem.W (nsIn findIn isFn keepIn codeIn fnOf kitOne)
noncomputable def fdA(P:Params)(a:Addr):FuncData:=match (hK P).lookup a with|some ⟨_,_,.func d,_⟩=>d|_=>default
structure FB(f:Addr)(q:Str)(st:Stmt):Prop where
 a:∀ P,(hK P).lookup f=some #[.type "function",none,.func (fnOf (fdA P f).name q (ck st) (aA st) (ag st) .none .none .none (fdA P f).pyModule none (fdA P f).code .none),#[]]:=by intro P;kernel_rfl
 b:∀ P,codeIn (hK P) (fdA P f).code q=true:=by intro P;kernel_rfl
 c:∀ P,keepIn (hK P) (.ref f)=true:=by intro P;kernel_rfl
structure Txt(w:World)(K:W.Frag)(mg:Str→Option Value):Prop where
 e:K=hK w.params
 mm:∀ {n:Str} {v:Value},nsIn K mainGlobals n=some (some v)→mg n=some v
 zz:∀ {n:Str},nsIn K mainGlobals n=some none→mg n=none
theorem xc1{K:W.Frag}{C:Addr}(h:ig K C=true):∃ cd,cG K C cd:=let ⟨cd,_,y⟩:=xv h;#[cd,y]
theorem xsu{K:W.Frag}{C b:Addr}(h:ig K C=true)(s:PySem.W.mroIn K C (.ref b)=some true):∃ cd,cG K C cd∧cd.mro.contains (.ref b)=true:=by
 obtain⟨cd,hc,y⟩:=xv h;refine#[cd,y,?_];unfold PySem.W.mroIn at s;rw[hc,Option.bind_some,if_neg (by rw[y.pY];decide)]at s;exact Oh s
section
variable{w:World}{K:W.Frag}{mg:Str→Option Value}{na mn:Str}{v:Value}{c f b:Addr}{st:Stmt}(T:Txt w K mg)
include T
theorem Txt.m(h:∀ P,nsIn (hK P) mainGlobals na=some (some v):=by intro P;kernel_rfl):mg na=some v:=T.mm (by rw[T.e];exact h _)
theorem Txt.z(h:∀ P,nsIn (hK P) mainGlobals na=some none:=by intro P;kernel_rfl):mg na=none:=T.zz (by rw[T.e];exact h _)
theorem Txt.kp(h:∀ P,keepIn (hK P) (.ref f)=true:=by intro P;kernel_rfl):keepIn K (.ref f)=true:=by rw[T.e];exact h _
theorem Txt.n(h:∀ P,findIn (hK P) (.ref c) na=some none:=by intro P;kernel_rfl):jj K c na:=by rw[T.e];exact h _
theorem Txt.me(h1:∀ P,findIn (hK P) (.ref c) mn=some (some (.ref f)):=by intro P;kernel_rfl)(h2:∀ P,isFn (hK P) (.ref f)=true:=by intro P;kernel_rfl)(h3:∀ P,keepIn (hK P) (.ref f)=true:=by intro P;kernel_rfl):Meth K c mn f:=by rw[T.e];exact#[h1 _,h2 _,h3 _]
theorem Txt.cls(h1:∀ P,PySem.W.plainGet (hK P) c Str.empty=true:=by intro P;kernel_rfl)(h2:∀ P,PySem.W.hasDictIn (hK P) c=true:=by intro P;kernel_rfl)(h3:∀ P,PySem.W.plainOver (hK P) c=true:=by intro P;kernel_rfl)(h4:∀ P,findIn (hK P) (.ref c) "__setattr__" = some (some (.builtin "object.__setattr__")):=by intro P;kernel_rfl):Cls K c:=by rw[T.e];exact#[h1 _,h2 _,h3 _,h4 _]
theorem Txt.mkk(c:Addr)(h1:∀ P,PySem.W.makesIn (hK P) c=true:=by intro P;kernel_rfl)(h2:∀ P,findIn (hK P) (.ref c) "__init__" = some (some (.ref f)):=by intro P;kernel_rfl)(h3:∀ P,isFn (hK P) (.ref f)=true:=by intro P;kernel_rfl)(h4:∀ P,keepIn (hK P) (.ref c)=true:=by intro P;kernel_rfl):Mk K c f:=by rw[T.e];exact#[h1 _,h2 _,h3 _,h4 _]
theorem Txt.mx(c:Addr)(h1:∀ P,ig (hK P) c=true:=by intro P;kernel_rfl)(h2:∀ P,findIn (hK P) (.ref c) "__init__" = some (some (.ref f)):=by intro P;kernel_rfl)(h3:∀ P,isFn (hK P) (.ref f)=true:=by intro P;kernel_rfl)(h4:∀ P,keepIn (hK P) (.ref c)=true:=by intro P;kernel_rfl):MkX K c f:=by rw[T.e];exact#[xc1 (h1 _),h2 _,h3 _,h4 _]
theorem Txt.ec(c:Addr)(h1:∀ P,ig (hK P) c=true:=by intro P;kernel_rfl)(h2:∀ P,findIn (hK P) (.ref c) "__getattribute__" = some (some (.builtin "BaseException.__getattribute__")):=by intro P;kernel_rfl)(h3:∀ P,findIn (hK P) (.ref c) "__getattr__" = some none:=by intro P;kernel_rfl)(h4:∀ P,findIn (hK P) (.ref c) "__class__" = some (some (.builtin "object.__class__")):=by intro P;kernel_rfl):KC K c:=by rw[T.e];exact#[xc1 (h1 _),#[h2 _,h3 _],h4 _]
theorem Txt.h(c:Addr)(h1:∀ P,ig (hK P) c=true:=by intro P;kernel_rfl):∃ cd,cG K c cd:=by rw[T.e];exact xc1 (h1 _)
theorem Txt.sub(c:Addr)(h1:∀ P,ig (hK P) c=true:=by intro P;kernel_rfl)(h2:∀ P,PySem.W.mroIn (hK P) c (.ref b)=some true:=by intro P;kernel_rfl):∃ cd,cG K c cd∧cd.mro.contains (.ref b)=true:=by rw[T.e];exact xsu (h1 _) (h2 _)
theorem Txt.cf(c:Addr)(h1:∀ P,PySem.W.readsIn (hK P) c (.type "type")=true:=by intro P;kernel_rfl)(h2:∀ P,PySem.W.findCls (hK P) (.ref c) (.type "type") mn=some (.val (.ref f)):=by intro P;kernel_rfl)(h3:∀ P,PySem.W.specialIn (hK P) (.ref c) "__getattribute__" = some (some (.builtin "type.__getattribute__")):=by intro P;kernel_rfl)(h4:∀ P,keepIn (hK P) (.ref f)=true:=by intro P;kernel_rfl):EC K c mn f:=by rw[T.e];exact#[h1 _,h2 _,h3 _,h4 _]
theorem Txt.fn(q:Str)(h:FB f q st:=by exact {}):Fun K (fdA w.params f).name q st f (fdA w.params f):=by
 rw[T.e];have e:fdA w.params f=fnOf (fdA w.params f).name q (ck st) (aA st) (ag st) .none .none .none (fdA w.params f).pyModule none (fdA w.params f).code .none:=by
  conv=>lhs;unfold fdA
  rw[h.a w.params]
 exact#[#[_,_,_,_,_,_,_,_,_,e,by rw[h.a w.params,←e],h.b _],h.c _]
theorem Txt.fnn(na q:Str)(h0:∀ P,(fdA P f).name=na:=by intro P;kernel_rfl)(h:FB f q st:=by exact {}):Fun K na q st f (fdA w.params f):=h0 w.params ▸ T.fn q h
theorem Txt.ay:Cls K 368:=T.cls
theorem Txt.aM:Cls K 543:=T.cls
theorem Txt.aR:Cls K 606:=T.cls
theorem Txt.bB:Cls K 660:=T.cls
theorem Txt.af:Cls K 969:=T.cls
theorem Txt.xK:mg "HANDS" = some (.int 8 698):=T.m
theorem Txt.kP:mg "WEAK_NAMES" = some (.int 8 700):=T.m
theorem Txt.qw:mg "MOST_FIELDS" = some (.int 6 702):=T.m
theorem Txt.kQ:mg "LEAST_ROOM" = some (.int 7 704):=T.m
theorem Txt.sk:mg "MOST_YOUNG" = some (.int 64 706):=T.m
theorem Txt.so:mg "MOST_LIMIT" = some (.int 400 708):=T.m
theorem Txt.iK:mg "MOST_BEARERS" = some (.int 12 883):=T.m
theorem Txt.oa:mg "MOST_FIGURES" = some (.int 61 1424):=T.m
theorem Txt.og:mg "MOST_LETTERS" = some (.int 8 1426):=T.m
theorem Txt.ue:mg "MOST_ROWS" = some (.int 200 1469):=T.m
end
structure Ok(P:Program)(w:World)(K:W.Frag)(mg:Str→Option Value)(base:Heap)(n:Nat)(f:Addr)(ps:List Str)(sp:Sp):Prop where
 t:Txt w K mg
 g:cx P w K mg base (CXE P w) n f (fdA w.params f) ps sp
 b:Binds K (fdA w.params f) ps []
section
variable{X:Cx}{n k:Nat}{f C:Addr}{ps:List Str}{sp:Sp}{EK:St→XK}{x mn:Str}{p apos pos:Pos}{ex o:Expr}{es:List Expr}{t:TA}{ta:TE}
theorem Ok.c(G:Ok X.prog X.w X.K X.mg X.base n f ps sp)(hr:cT k X.A)(hx:bK (CXE X.prog X.w) X EK)(ha:PA X (ex::es) t)(m1:∀ P,nsIn (hK P) mainGlobals x=some (some (.ref f)):=by intro P;kernel_rfl)(k1:∀ P,keepIn (hK P) (.ref f)=true:=by intro P;kernel_rfl)(hn:n≤k:=by decide)(hg:Gl X x:=by exact rfl)(hdb:(x == ("__debug__" : Str))=false:=by decide)(he:starEach (ex::es) X.env=(false,eval ex X.env)::starEach es X.env:=by rfl)(hpl:(backTo pos (starEach es X.env)).any (·.1)=false:=by rfl):PE X (.Call (.Name x p) (ex::es) [] pos) (CD sp [] EK t):=c8 G.g (hr.mono hn) hg (G.t.m m1) (G.t.kp k1) G.b .nil hx ha hdb he hpl
theorem Ok.m{pl:Sem Bool}(G:Ok X.prog X.w X.K X.mg X.base n f ps sp)(c1:Cls X.K C)(hr:cT k X.A)(he:PE X o ta)(hx:bK (CXE X.prog X.w) X EK)(ha:PA X (ex::es) t)(m1:∀ P,findIn (hK P) (.ref C) mn=some (some (.ref f)):=by intro P;kernel_rfl)(m2:∀ P,isFn (hK P) (.ref f)=true:=by intro P;kernel_rfl)(m3:∀ P,keepIn (hK P) (.ref f)=true:=by intro P;kernel_rfl)(hn:n≤k:=by decide)(hst:starEach (ex::es) X.env=(false,eval ex X.env)::starEach es X.env:=by rfl)(hpl:(backTo pos (starEach es X.env)).any (·.1)=false:=by rfl)
  (ht:eval (.Call (.Attribute o mn apos) (ex::es) [] pos) X.env=(do let ov ←eval o X.env;standAt apos.atName;let (f,first) ←holding [ov] (getMethod ov mn pl);callWith pos f first (backTo pos (starEach (ex::es) X.env)) (backToKw pos (keywordEach [] X.env))):=by rfl):PE X (.Call (.Attribute o mn apos) (ex::es) [] pos) (vC C mn sp [] EK ta t):=Dk he c1 (G.t.me m1 m2 m3) G.g (hr.mono hn) G.b .nil hx ha hst hpl ht
theorem Ok.m0{pl:Sem Bool}(G:Ok X.prog X.w X.K X.mg X.base n f ps sp)(c1:Cls X.K C)(hr:cT k X.A)(he:PE X o ta)(hx:bK (CXE X.prog X.w) X EK)(m1:∀ P,findIn (hK P) (.ref C) mn=some (some (.ref f)):=by intro P;kernel_rfl)(m2:∀ P,isFn (hK P) (.ref f)=true:=by intro P;kernel_rfl)(m3:∀ P,keepIn (hK P) (.ref f)=true:=by intro P;kernel_rfl)(hn:n≤k:=by decide)
  (ht:eval (.Call (.Attribute o mn apos) [] [] pos) X.env=(do let ov ←eval o X.env;standAt apos.atName;let (f,first) ←holding [ov] (getMethod ov mn pl);callWith pos f first (backTo pos (starEach [] X.env)) (backToKw pos (keywordEach [] X.env))):=by rfl):PE X (.Call (.Attribute o mn apos) [] [] pos) (vC C mn sp [] EK ta uE):=An he c1 (G.t.me m1 m2 m3) G.g (hr.mono hn) G.b .nil hx ht
theorem Ok.e(G:Ok X.prog X.w X.K X.mg X.base n f ps sp)(C:Addr)(hr:cT k X.A)(hx:bK (CXE X.prog X.w) X EK)(ha:PA X (ex::es) t)(m1:∀ P,nsIn (hK P) mainGlobals x=some (some (.ref C)):=by intro P;kernel_rfl)(h1:∀ P,ig (hK P) C=true:=by intro P;kernel_rfl)(h2:∀ P,findIn (hK P) (.ref C) "__init__" = some (some (.ref f)):=by intro P;kernel_rfl)(h3:∀ P,isFn (hK P) (.ref f)=true:=by intro P;kernel_rfl)(h4:∀ P,keepIn (hK P) (.ref C)=true:=by intro P;kernel_rfl)(hn:n+1≤k:=by decide)(hg:Gl X x:=by exact rfl)(hps:ps.length≤1000:=by decide)(hdb:(x == ("__debug__" : Str))=false:=by decide)(he:starEach (ex::es) X.env=(false,eval ex X.env)::starEach es X.env:=by rfl)(hpl:(backTo pos (starEach es X.env)).any (·.1)=false:=by rfl):PE X (.Call (.Name x p) (ex::es) [] pos) (KA C sp EK t):=Fn (G.t.mx C h1 h2 h3 h4) G.g (hr.mono hn) hg (G.t.m m1) G.b hx ha hps hdb he hpl
end
section
variable{P:Program}{w:World}{K:W.Frag}{mg:Str→Option Value}{base:Heap}{x qual:Str}{st:Stmt}{f:Addr}{N ps:List Str}{k:Nat}{sp:Sp}
theorem fsc{N P:List Str}{sc:Scope}(h1:sc.kind=.function:=by exact rfl)(h2:sc.isCoroutine=false:=by exact rfl)(h3:sc.isGenerator=false:=by exact rfl)(h4:N.Nodup:=by decide +kernel)(h5:N.take P.length=P:=by exact rfl)(h6:∀ x∈P,sc.names.lookup x=some .local∨sc.names.lookup x=some .cell:=by decide +kernel)(h7:∀ y∈sc.names,y.2≠.free:=by decide +kernel):ao N P sc:=#[h1,h2,h3,h4,h5,h6,h7]
noncomputable def Bdy(P:Program)(w:World)(K:W.Frag)(mg:Str→Option Value)(base:Heap)(N:List Str)(q:Str)(st:Stmt)(f:Addr)(k:Nat)(sp:Sp):Prop:=∀(cdv:Value) (A:Around) (outer:List Env) (s:Shared) (H:Hp) (vs:List V) (Q:VK) (E:XK),cT k (A.deeper (PyProof.Rows.envOfC q (ag st) s.heap.objs.size f cdv))→sp vs H Q E→∃ t,PSs (cxE P w K mg base N q (ag st) f cdv A outer s H E) (aA st) t∧t {nx:=λ_ H'=>Q .non H',rt:=Q} (start N vs) H
theorem Txt.o1(T:Txt w K mg)(q:Str){p0:Str}(S:ao N [p0] (ag st))(gy:Bdy P w K mg base N q st f k sp)(h:FB f q st:=by exact {})(hb:∀(x:Str) (kV doc pm:Value) (an:Option Addr) (cdv ct:Value) (u0:Value),bindArgs (fnOf x q (ck st) (aA st) (ag st) .none kV doc pm an cdv ct) #[[u0],[]]=pure (([p0]:List Str).zip [u0]):=by intros;rfl)(len:∀ vs H Q E,sp vs H Q E→vs.length=1:=by(intro vs H Q E h;repeat (first|(obtain⟨rfl,_⟩:=h;rfl)|obtain⟨_,h⟩:=h))):Ok P w K mg base (k+1) f [p0] sp :=
 have F:=T.fn q h
 #[#[T.e,T.mm,T.zz],F.okE S len gy,F.binds (ps:=[p0]) λkV doc pm an cdv ct us hl=>match us,hl with|[u0],_=>hb _ kV doc pm an cdv ct u0]
theorem Txt.o2(T:Txt w K mg)(q:Str){p0 p1:Str}(S:ao N [p0,p1] (ag st))(gy:Bdy P w K mg base N q st f k sp)(h:FB f q st:=by exact {})(hb:∀(x:Str) (kV doc pm:Value) (an:Option Addr) (cdv ct:Value) (u0 u1:Value),bindArgs (fnOf x q (ck st) (aA st) (ag st) .none kV doc pm an cdv ct) #[[u0,u1],[]]=pure (([p0,p1]:List Str).zip [u0,u1]):=by intros;rfl)(len:∀ vs H Q E,sp vs H Q E→vs.length=2:=by(intro vs H Q E h;repeat (first|(obtain⟨rfl,_⟩:=h;rfl)|obtain⟨_,h⟩:=h))):Ok P w K mg base (k+1) f [p0,p1] sp :=
 have F:=T.fn q h
 #[#[T.e,T.mm,T.zz],F.okE S len gy,F.binds (ps:=[p0,p1]) λkV doc pm an cdv ct us hl=>match us,hl with|[u0,u1],_=>hb _ kV doc pm an cdv ct u0 u1]
theorem Txt.o3(T:Txt w K mg)(q:Str){p0 p1 p2:Str}(S:ao N [p0,p1,p2] (ag st))(gy:Bdy P w K mg base N q st f k sp)(h:FB f q st:=by exact {})(hb:∀(x:Str) (kV doc pm:Value) (an:Option Addr) (cdv ct:Value) (u0 u1 u2:Value),bindArgs (fnOf x q (ck st) (aA st) (ag st) .none kV doc pm an cdv ct) #[[u0,u1,u2],[]]=pure (([p0,p1,p2]:List Str).zip [u0,u1,u2]):=by intros;rfl)(len:∀ vs H Q E,sp vs H Q E→vs.length=3:=by(intro vs H Q E h;repeat (first|(obtain⟨rfl,_⟩:=h;rfl)|obtain⟨_,h⟩:=h))):Ok P w K mg base (k+1) f [p0,p1,p2] sp :=
 have F:=T.fn q h
 #[#[T.e,T.mm,T.zz],F.okE S len gy,F.binds (ps:=[p0,p1,p2]) λkV doc pm an cdv ct us hl=>match us,hl with|[u0,u1,u2],_=>hb _ kV doc pm an cdv ct u0 u1 u2]
theorem Txt.o4(T:Txt w K mg)(q:Str){p0 p1 p2 p3:Str}(S:ao N [p0,p1,p2,p3] (ag st))(gy:Bdy P w K mg base N q st f k sp)(h:FB f q st:=by exact {})(hb:∀(x:Str) (kV doc pm:Value) (an:Option Addr) (cdv ct:Value) (u0 u1 u2 u3:Value),bindArgs (fnOf x q (ck st) (aA st) (ag st) .none kV doc pm an cdv ct) #[[u0,u1,u2,u3],[]]=pure (([p0,p1,p2,p3]:List Str).zip [u0,u1,u2,u3]):=by intros;rfl)(len:∀ vs H Q E,sp vs H Q E→vs.length=4:=by(intro vs H Q E h;repeat (first|(obtain⟨rfl,_⟩:=h;rfl)|obtain⟨_,h⟩:=h))):Ok P w K mg base (k+1) f [p0,p1,p2,p3] sp :=
 have F:=T.fn q h
 #[#[T.e,T.mm,T.zz],F.okE S len gy,F.binds (ps:=[p0,p1,p2,p3]) λkV doc pm an cdv ct us hl=>match us,hl with|[u0,u1,u2,u3],_=>hb _ kV doc pm an cdv ct u0 u1 u2 u3]
theorem _root_.L2.Fun.b1{p0:Str}(F:Fun K x qual st f fd)(h:∀(kV doc pm:Value) (an:Option Addr) (cdv ct:Value) (u0:Value),bindArgs (PySem.W.fnOf x qual (ck st) (aA st) (ag st) .none kV doc pm an cdv ct) #[[u0],[]]=pure (([p0]:List Str).zip [u0]):=by intros;rfl):Binds K fd [p0] []:=F.binds (ps:=[p0]) λkV doc pm an cdv ct us hl=>match us,hl with|[u0],_=>h kV doc pm an cdv ct u0
theorem _root_.L2.Fun.b2{p0 p1:Str}(F:Fun K x qual st f fd)(h:∀(kV doc pm:Value) (an:Option Addr) (cdv ct:Value) (u0 u1:Value),bindArgs (PySem.W.fnOf x qual (ck st) (aA st) (ag st) .none kV doc pm an cdv ct) #[[u0,u1],[]]=pure (([p0,p1]:List Str).zip [u0,u1]):=by intros;rfl):Binds K fd [p0,p1] []:=F.binds (ps:=[p0,p1]) λkV doc pm an cdv ct us hl=>match us,hl with|[u0,u1],_=>h kV doc pm an cdv ct u0 u1
theorem _root_.L2.Fun.b3{p0 p1 p2:Str}(F:Fun K x qual st f fd)(h:∀(kV doc pm:Value) (an:Option Addr) (cdv ct:Value) (u0 u1 u2:Value),bindArgs (PySem.W.fnOf x qual (ck st) (aA st) (ag st) .none kV doc pm an cdv ct) #[[u0,u1,u2],[]]=pure (([p0,p1,p2]:List Str).zip [u0,u1,u2]):=by intros;rfl):Binds K fd [p0,p1,p2] []:=F.binds (ps:=[p0,p1,p2]) λkV doc pm an cdv ct us hl=>match us,hl with|[u0,u1,u2],_=>h kV doc pm an cdv ct u0 u1 u2
end
theorem px{P:Program}{w:World}{K:W.Frag}{mg:Str→Option Value}{base:Heap}{N:List Str}{qual:Str}{sc:Scope}{f:Addr}{cdv:Value}{A:Around}{outer:List Env}{s:Shared}{H:Hp}{E:XK}:bK (CXE P w) (cxE P w K mg base N qual sc f cdv A outer s H E) (λ_=>E):=Passes.x (zU λ_ _ _ q=>q)
end K27
end
section
namespace K27
open PySem L2 LX
inductive Wd where
 | no
 | num (x:Int)
 | th (t:Int)
 deriving DecidableEq
noncomputable def Wd.kind:Wd→Str
 | .no => "none"
 | .num _ => "number"
 | .th _ => "thing"
noncomputable def Wd.vl:Wd→Vl
 | .no=>.a .non
 | .num x=>.t [.a (.str "number"),.a (.int x)]
 | .th t=>.t [.a (.str "thing"),.a (.int t)]
noncomputable def WV(H:Hp)(v:V):Wd→Prop
 | .no=>v=.non
 | .num x=>∃ t,v=.ref t∧H t=some (.tup [.str "number",.int x])
 | .th x=>∃ t,v=.ref t∧H t=some (.tup [.str "thing",.int x])
noncomputable def a8(H H':Hp):Prop:=∀ t us,H t=some (.tup us)→H' t=some (.tup us)
theorem a8.of{H H':Hp}(s:au H H'):a8 H H':=λt us q=>s _ _ q
theorem a8.trans{H H1 H2:Hp}(a:a8 H H1)(b:a8 H1 H2):a8 H H2:=λt us q=>b t us (a t us q)
theorem a8.set{H:Hp}{c:Addr}{u o:HO}(h:H c=some u)(n:∀ xs,u≠.tup xs):a8 H (upd H c o):=λt us q=>by
 rw[ab λe=>by rw[e,h]at q;exact n us (Oh q)];exact q
theorem WV.keep{H H':Hp}{v:V}{w:Wd}(h:WV H v w)(s:a8 H H'):WV H' v w:=by
 cases w with
 | no=>exact h
 | num n=>obtain⟨t,e,q⟩:=h;exact#[t,e,s _ _ q]
 | th n=>obtain⟨t,e,q⟩:=h;exact#[t,e,s _ _ q]
theorem BI{H:Hp}{t:Addr}{z:Str}{n:Int}(h:H t=some (.tup [.str z,.int n])):Rp H 1 (.ref t) (.t [.a (.str z),.a (.int n)]):=by
 refine#[t,_,rfl,h,rfl,λi u x h1 h2=>?_]
 match i,h1,h2 with
 | 0,h1,h2=>cases h1;cases h2;exact#[rfl,rfl]
 | 1,h1,h2=>cases h1;cases h2;exact#[rfl,rfl]
 | i+2,h1,_=>simp at h1
theorem WV.rp{H:Hp}{v:V}{w:Wd}(h:WV H v w):Rp H 1 v w.vl:=by
 cases w with
 | no=>exact#[h,rfl]
 | num n=>obtain⟨t,rfl,q⟩:=h;exact BI q
 | th n=>obtain⟨t,rfl,q⟩:=h;exact BI q
theorem xM(x y:Int):(x == y)=decide (x=y):=by
 by_cases h:x=y
 ·subst h;simp
 ·rw[decide_eq_false h];exact beq_eq_false_iff_ne.mpr h
theorem JE(a b:Wd):eqD 1 a.vl b.vl=decide (a=b):=by
 have n1:eqV (.str "number") (.str "thing")=false:=by decide +kernel
 have n2:eqV (.str "thing") (.str "number")=false:=by decide +kernel
 have e1:eqV (.str "number") (.str "number")=true:=by decide +kernel
 have e2:eqV (.str "thing") (.str "thing")=true:=by decide +kernel
 cases a with
 | no=>cases b<;>simp[Wd.vl,eqD,eqV]
 | num x =>
  cases b with
  | no=>simp[Wd.vl,eqD]
  | num y=>simp[Wd.vl,eqD,O8,e1,eqV];exact xM x y
  | th y=>simp[Wd.vl,eqD,O8,n1]
 | th x =>
  cases b with
  | no=>simp[Wd.vl,eqD]
  | num y=>simp[Wd.vl,eqD,O8,n2]
  | th y=>simp[Wd.vl,eqD,O8,e2,eqV];exact xM x y
noncomputable def Rel(H:Hp)(xs:List V)(ws:List Wd):Prop:=xs.length=ws.length∧∀(i:Nat) (v:V) (w:Wd),xs[i]?=some v→ws[i]?=some w→WV H v w
theorem Rel.keep{H H':Hp}{xs:List V}{ws:List Wd}(h:Rel H xs ws)(s:a8 H H'):Rel H' xs ws:=#[h.1,λi v w a b=>(h.2 i v w a b).keep s]
theorem Rel.get{H:Hp}{xs:List V}{ws:List Wd}(h:Rel H xs ws){i:Nat}(hi:i<ws.length):∃ v,xs[i]?=some v∧WV H v ws[i] :=
 #[_,NJ (by rw[h.1];exact hi),h.2 i _ _ (NJ (by rw[h.1];exact hi)) (NJ hi)]
theorem Rel.set{H:Hp}{xs:List V}{ws:List Wd}{i:Nat}{v:V}{w:Wd}(h:Rel H xs ws)(hv:WV H v w):Rel H (xs.set i v) (ws.set i w):=by
 refine#[by rw[O5,O5];exact h.1,λj u y a b=>?_];rw[List.getElem?_set]at a b;by_cases e:i=j
 ·subst e
  simp only[if_true]at a b;split at a
  ·split at b
   ·cases a;cases b;exact hv
   ·cases b
  ·cases a
 ·rw[if_neg e]at a b
  exact h.2 j u y a b
theorem Rel.nil{H:Hp}{n:Nat}:Rel H (List.replicate n .non) (List.replicate n .no):=#[by simp,λi v w a b=>by
 rw[OP (Of a),OP (Of b)];rfl]
noncomputable def nmV:Option Int→V
 | none=>.non
 | some t=>.int t
structure HS where
 my:Bool
 aG:List Wd
 names:List (Option Int)
 aS:List (Int×Int)
 aV:List Int
 aI:List (Int×List Wd)
 yng:List Int
 nxt:Int
 room:Int
 limit:Int
 bj:List Int
 rnd:Bool
structure HA where
 dx:Addr
 hd:Addr
 hdx:Addr
 hl:Addr
 hx:List V
 nt:Addr
 ntx:Addr
 nl:Addr
 wt:Addr
 wtx:Addr
 wb:Addr
 wl:Addr
 fh:Addr
 fa:Int→Addr
 fx:Int→List V
 yg:Addr
 dm:Addr
noncomputable def atts(A:HA)(s:HS):List (Str×V):=[("makes_young",.bl s.my),("in_hands",.ref A.hd),("weak_names",.ref A.nt),("last_words",.ref A.wt),("fields_held",.ref A.fh),("young_things",.ref A.yg),("next_thing",.int s.nxt),("young_room",.int s.room),("limit",.int s.limit),("doomed_things",.ref A.dm),("in_round",.bl s.rnd)]
theorem EG{A:HA}{s:HS}:(atts A s).lookup ("makes_young" : Str)=some (.bl s.my):=by kernel_rfl
theorem eO{A:HA}{s:HS}:(atts A s).lookup ("in_hands" : Str)=some (.ref A.hd):=by kernel_rfl
theorem CJ{A:HA}{s:HS}:(atts A s).lookup ("weak_names" : Str)=some (.ref A.nt):=by kernel_rfl
theorem CK{A:HA}{s:HS}:(atts A s).lookup ("last_words" : Str)=some (.ref A.wt):=by kernel_rfl
theorem lj{A:HA}{s:HS}:(atts A s).lookup ("fields_held" : Str)=some (.ref A.fh):=by kernel_rfl
theorem vJ{A:HA}{s:HS}:(atts A s).lookup ("young_things" : Str)=some (.ref A.yg):=by kernel_rfl
theorem JF{A:HA}{s:HS}:(atts A s).lookup ("next_thing" : Str)=some (.int s.nxt):=by kernel_rfl
theorem JG{A:HA}{s:HS}:(atts A s).lookup ("young_room" : Str)=some (.int s.room):=by kernel_rfl
theorem JH{A:HA}{s:HS}:(atts A s).lookup ("limit" : Str)=some (.int s.limit):=by kernel_rfl
theorem CL{A:HA}{s:HS}:(atts A s).lookup ("doomed_things" : Str)=some (.ref A.dm):=by kernel_rfl
theorem JI{A:HA}{s:HS}{n:Int}:b8 "next_thing" (.int n) (atts A s)=atts A {s with nxt:=n}:=by kernel_rfl
theorem JJ{A:HA}{s:HS}{a:Addr}:b8 "young_things" (.ref a) (atts A s)=atts {A with yg:=a} s:=by kernel_rfl
noncomputable def bkv(p:Int×Int):Key×V:=(Sum.inl p.1,.int p.2)
noncomputable def tkv(t:Int):Key×V:=(Sum.inl t,.bl true)
noncomputable def fkv(A:HA)(p:Int×List Wd):Key×V:=(Sum.inl p.1,.ref (A.fa p.1))
structure IH(H:Hp)(x:Addr)(A:HA)(s:HS):Prop where
 ax:H x=some (.ins 969 A.dx (atts A s))
 ahd:H A.hd=some (.ins 543 A.hdx [("words_held",.ref A.hl)])
 ahl:H A.hl=some (.lst A.hx)
 rhl:Rel H A.hx s.aG
 ant:H A.nt=some (.ins 660 A.ntx [("things_named",.ref A.nl)])
 anl:H A.nl=some (.lst (s.names.map nmV))
 awt:H A.wt=some (.ins 606 A.wtx [("words_borne",.ref A.wb),("words_said",.ref A.wl)])
 awb:H A.wb=some (.dK (s.aS.map bkv))
 awl:H A.wl=some (.lst (s.aV.map V.int))
 afh:H A.fh=some (.dK (s.aI.map (fkv A)))
 afl:∀ t ws,(t,ws)∈s.aI→H (A.fa t)=some (.lst (A.fx t))∧Rel H (A.fx t) ws
 ayg:H A.yg=some (.dK (s.yng.map tkv))
 adm:H A.dm=some (.dK (s.bj.map tkv))
 nhn:A.hd≠A.nt
 l1:A.hl≠A.nl
 l2:A.hl≠A.wl
 l3:A.nl≠A.wl
 l4:∀ t ws,(t,ws)∈s.aI→A.fa t≠A.hl∧A.fa t≠A.nl∧A.fa t≠A.wl
 l5:∀ t ws t' ws',(t,ws)∈s.aI→(t',ws')∈s.aI→A.fa t=A.fa t'→t=t'
 d1:A.wb≠A.fh
 d2:A.wb≠A.yg
 d3:A.wb≠A.dm
 d4:A.fh≠A.yg
 d5:A.fh≠A.dm
 d6:A.yg≠A.dm
inductive aO(x:Addr)(A:HA)(s:HS):Addr→Prop where
 | x:aO x A s x
 | hd:aO x A s A.hd
 | hl:aO x A s A.hl
 | nt:aO x A s A.nt
 | nl:aO x A s A.nl
 | wt:aO x A s A.wt
 | wb:aO x A s A.wb
 | wl:aO x A s A.wl
 | fh:aO x A s A.fh
 | yg:aO x A s A.yg
 | dm:aO x A s A.dm
 | fl {t:Int} {ws:List Wd}:(t,ws)∈s.aI→aO x A s (A.fa t)
theorem jv{C d C' d':Addr}{fs gs:List (Str×V)}(h:fs.length≠gs.length):HO.ins C d fs≠HO.ins C' d' gs:=λe=>by
 injection e with _ _ e;exact h (congrArg List.length e)
section
variable{H H' H1 H2:Hp}{x:Addr}{A A':HA}{s s':HS}
theorem IH.is(J:IH H x A s){b:Addr}(f:aO x A s b):∃ u,H b=some u∧∀ xs,u≠.tup xs:=by
 cases f with
 | x=>exact#[_,J.ax,λ_ z=>nomatch z]
 | hd=>exact#[_,J.ahd,λ_ z=>nomatch z]
 | hl=>exact#[_,J.ahl,λ_ z=>nomatch z]
 | nt=>exact#[_,J.ant,λ_ z=>nomatch z]
 | nl=>exact#[_,J.anl,λ_ z=>nomatch z]
 | wt=>exact#[_,J.awt,λ_ z=>nomatch z]
 | wb=>exact#[_,J.awb,λ_ z=>nomatch z]
 | wl=>exact#[_,J.awl,λ_ z=>nomatch z]
 | fh=>exact#[_,J.afh,λ_ z=>nomatch z]
 | yg=>exact#[_,J.ayg,λ_ z=>nomatch z]
 | dm=>exact#[_,J.adm,λ_ z=>nomatch z]
 | fl m=>exact#[_,(J.afl _ _ m).1,λ_ z=>nomatch z]
theorem IH.keep(J:IH H x A s)(k:∀ b u,aO x A s b→H b=some u→H' b=some u)(t:a8 H H'):IH H' x A s :=
 #[k _ _ .x J.ax,k _ _ .hd J.ahd,k _ _ .hl J.ahl,J.rhl.keep t,k _ _ .nt J.ant,k _ _ .nl J.anl,k _ _ .wt J.awt,k _ _ .wb J.awb,k _ _ .wl J.awl,k _ _ .fh J.afh,λu ws m=>#[k _ _ (.fl m) (J.afl _ _ m).1,(J.afl _ _ m).2.keep t],k _ _ .yg J.ayg,k _ _ .dm J.adm,
  J.nhn,J.l1,J.l2,J.l3,J.l4,J.l5,J.d1,J.d2,J.d3,J.d4,J.d5,J.d6]
theorem IH.same(J:IH H x A s)(k:au H H'):IH H' x A s:=J.keep (λ_ _ _ q=>k _ _ q) (a8.of k)
structure Fr(F:Addr→Prop)(H:Hp)(F':Addr→Prop)(H':Hp):Prop where
 ext:∀ b u,¬F b→H b=some u→H' b=some u
 grow:∀ b,F' b→F b∨H b=none
 all:∀ b u,H b=some u→∃ u',H' b=some u'
 tup:a8 H H'
variable{F F' F1 F2:Addr→Prop}
theorem Fr.trans(a:Fr F H F1 H1)(b:Fr F1 H1 F2 H2):Fr F H F2 H2 where
 ext:=λc u n q=>b.ext c u (λf=>(a.grow c f).elim n λe=>by rw[e]at q;cases q) (a.ext c u n q)
 grow:=λc f=>(b.grow c f).elim (λf1=>a.grow c f1) λe=>by
  cases q:H c with
  | none=>exact .inr rfl
  | some u=>obtain⟨u',q'⟩:=a.all c u q;rw[e]at q';cases q'
 all:=λc u q=>by obtain⟨u',q'⟩:=a.all c u q;exact b.all c u' q'
 tup:=a.tup.trans b.tup
theorem Fr.same(k:au H H'):Fr F H F H':=#[λ_ _ _ q=>k _ _ q,λ_ f=>.inl f,λb u q=>#[u,k _ _ q],a8.of k]
theorem Fr.refl:Fr F H F H:=Fr.same λ_ _ q=>q
theorem Fr.none(a:Fr F H F' H'){b:Addr}(h:H' b=none):H b=none:=by
 cases q:H b with
 | none=>rfl
 | some u=>obtain⟨u',q'⟩:=a.all b u q;rw[h]at q';cases q'
theorem Fr.set{b:Addr}{u o:HO}(f:F b)(hb:H b=some u)(n:∀ xs,u≠.tup xs)(g:∀ c,F' c→F c):Fr F H F' (upd H b o) where
 ext:=λc v nf q=>by rw[ab λe=>nf (by rw[e];exact f)];exact q
 grow:=λc f=>.inl (g c f)
 all:=λc v q=>by
  by_cases e:c=b
  ·exact#[o,by rw[e];exact ae]
  ·exact#[v,by rw[ab e];exact q]
 tup:=a8.set hb n
theorem Fr.out(a:Fr F H F' H'){b:Addr}{u:HO}(n:¬F b)(q:H b=some u):H' b=some u∧¬F' b:=#[a.ext b u n q,λf=>(a.grow b f).elim n λe=>by rw[e]at q;cases q]
theorem IH.z8(J:IH H x A s){xs:List V}{ws:List Wd}(r:Rel H xs ws):IH (upd H A.hl (.lst xs)) x {A with hx:=xs} {s with aG:=ws}∧Fr (aO x A s) H (aO x {A with hx:=xs} {s with aG:=ws}) (upd H A.hl (.lst xs)):=by
 have tk:a8 H (upd H A.hl (.lst xs)):=a8.set J.ahl (λ_ z=>nomatch z);refine#[#[(by rw[ab (av J.ax J.ahl (by intro z;cases z))];exact J.ax),(by rw[ab (av J.ahd J.ahl (by intro z;cases z))];exact J.ahd),ae,r.keep tk,(by rw[ab (av J.ant J.ahl (by intro z;cases z))];exact J.ant),(by rw[ab (Oj J.l1)];exact J.anl),(by rw[ab (av J.awt J.ahl (by intro z;cases z))];exact J.awt),(by rw[ab (av J.awb J.ahl (by intro z;cases z))];exact J.awb),(by rw[ab (Oj J.l2)];exact J.awl),(by rw[ab (av J.afh J.ahl (by intro z;cases z))];exact J.afh),(λt ws m=>#[by rw[ab (J.l4 _ _ m).1];exact(J.afl _ _ m).1,(J.afl _ _ m).2.keep tk]),(by rw[ab (av J.ayg J.ahl (by intro z;cases z))];exact J.ayg),(by rw[ab (av J.adm J.ahl (by intro z;cases z))];exact J.adm),J.nhn,J.l1,J.l2,J.l3,J.l4,J.l5,J.d1,J.d2,J.d3,J.d4,J.d5,J.d6],Fr.set .hl J.ahl (λ_ z=>nomatch z) (λc f=>?_)];cases f with
 | x=>exact .x
 | hd=>exact .hd
 | hl=>exact .hl
 | nt=>exact .nt
 | nl=>exact .nl
 | wt=>exact .wt
 | wb=>exact .wb
 | wl=>exact .wl
 | fh=>exact .fh
 | yg=>exact .yg
 | dm=>exact .dm
 | fl m=>exact .fl m
theorem IH.ML(J:IH H x A s){ns:List (Option Int)}:IH (upd H A.nl (.lst (ns.map nmV))) x A {s with names:=ns}∧Fr (aO x A s) H (aO x A {s with names:=ns}) (upd H A.nl (.lst (ns.map nmV))):=by
 have tk:a8 H (upd H A.nl (.lst (ns.map nmV))):=a8.set J.anl (λ_ z=>nomatch z);refine#[#[(by rw[ab (av J.ax J.anl (by intro z;cases z))];exact J.ax),(by rw[ab (av J.ahd J.anl (by intro z;cases z))];exact J.ahd),(by rw[ab J.l1];exact J.ahl),J.rhl.keep tk,(by rw[ab (av J.ant J.anl (by intro z;cases z))];exact J.ant),ae,(by rw[ab (av J.awt J.anl (by intro z;cases z))];exact J.awt),(by rw[ab (av J.awb J.anl (by intro z;cases z))];exact J.awb),(by rw[ab (Oj J.l3)];exact J.awl),(by rw[ab (av J.afh J.anl (by intro z;cases z))];exact J.afh),(λt ws m=>#[by rw[ab (J.l4 _ _ m).2.1];exact(J.afl _ _ m).1,(J.afl _ _ m).2.keep tk]),(by rw[ab (av J.ayg J.anl (by intro z;cases z))];exact J.ayg),(by rw[ab (av J.adm J.anl (by intro z;cases z))];exact J.adm),J.nhn,J.l1,J.l2,J.l3,J.l4,J.l5,J.d1,J.d2,J.d3,J.d4,J.d5,J.d6],Fr.set .nl J.anl (λ_ z=>nomatch z) (λc f=>?_)];cases f with
 | x=>exact .x
 | hd=>exact .hd
 | hl=>exact .hl
 | nt=>exact .nt
 | nl=>exact .nl
 | wt=>exact .wt
 | wb=>exact .wb
 | wl=>exact .wl
 | fh=>exact .fh
 | yg=>exact .yg
 | dm=>exact .dm
 | fl m=>exact .fl m
theorem IH.KI(J:IH H x A s){bs:List (Int×Int)}:IH (upd H A.wb (.dK (bs.map bkv))) x A {s with aS:=bs}∧Fr (aO x A s) H (aO x A {s with aS:=bs}) (upd H A.wb (.dK (bs.map bkv))):=by
 have tk:a8 H (upd H A.wb (.dK (bs.map bkv))):=a8.set J.awb (λ_ z=>nomatch z);refine#[#[(by rw[ab (av J.ax J.awb (by intro z;cases z))];exact J.ax),(by rw[ab (av J.ahd J.awb (by intro z;cases z))];exact J.ahd),(by rw[ab (av J.ahl J.awb (by intro z;cases z))];exact J.ahl),J.rhl.keep tk,(by rw[ab (av J.ant J.awb (by intro z;cases z))];exact J.ant),(by rw[ab (av J.anl J.awb (by intro z;cases z))];exact J.anl),(by rw[ab (av J.awt J.awb (by intro z;cases z))];exact J.awt),ae,(by rw[ab (av J.awl J.awb (by intro z;cases z))];exact J.awl),(by rw[ab (Oj J.d1)];exact J.afh),(λt ws m=>#[by rw[ab (av (J.afl _ _ m).1 J.awb (by intro z;cases z))];exact(J.afl _ _ m).1,(J.afl _ _ m).2.keep tk]),(by rw[ab (Oj J.d2)];exact J.ayg),(by rw[ab (Oj J.d3)];exact J.adm),J.nhn,J.l1,J.l2,J.l3,J.l4,J.l5,J.d1,J.d2,J.d3,J.d4,J.d5,J.d6],Fr.set .wb J.awb (λ_ z=>nomatch z) (λc f=>?_)];cases f with
 | x=>exact .x
 | hd=>exact .hd
 | hl=>exact .hl
 | nt=>exact .nt
 | nl=>exact .nl
 | wt=>exact .wt
 | wb=>exact .wb
 | wl=>exact .wl
 | fh=>exact .fh
 | yg=>exact .yg
 | dm=>exact .dm
 | fl m=>exact .fl m
theorem IH.KJ(J:IH H x A s){zs:List Int}:IH (upd H A.wl (.lst (zs.map V.int))) x A {s with aV:=zs}∧Fr (aO x A s) H (aO x A {s with aV:=zs}) (upd H A.wl (.lst (zs.map V.int))):=by
 have tk:a8 H (upd H A.wl (.lst (zs.map V.int))):=a8.set J.awl (λ_ z=>nomatch z);refine#[#[(by rw[ab (av J.ax J.awl (by intro z;cases z))];exact J.ax),(by rw[ab (av J.ahd J.awl (by intro z;cases z))];exact J.ahd),(by rw[ab J.l2];exact J.ahl),J.rhl.keep tk,(by rw[ab (av J.ant J.awl (by intro z;cases z))];exact J.ant),(by rw[ab J.l3];exact J.anl),(by rw[ab (av J.awt J.awl (by intro z;cases z))];exact J.awt),(by rw[ab (av J.awb J.awl (by intro z;cases z))];exact J.awb),ae,(by rw[ab (av J.afh J.awl (by intro z;cases z))];exact J.afh),(λt ws m=>#[by rw[ab (J.l4 _ _ m).2.2];exact(J.afl _ _ m).1,(J.afl _ _ m).2.keep tk]),(by rw[ab (av J.ayg J.awl (by intro z;cases z))];exact J.ayg),(by rw[ab (av J.adm J.awl (by intro z;cases z))];exact J.adm),J.nhn,J.l1,J.l2,J.l3,J.l4,J.l5,J.d1,J.d2,J.d3,J.d4,J.d5,J.d6],Fr.set .wl J.awl (λ_ z=>nomatch z) (λc f=>?_)];cases f with
 | x=>exact .x
 | hd=>exact .hd
 | hl=>exact .hl
 | nt=>exact .nt
 | nl=>exact .nl
 | wt=>exact .wt
 | wb=>exact .wb
 | wl=>exact .wl
 | fh=>exact .fh
 | yg=>exact .yg
 | dm=>exact .dm
 | fl m=>exact .fl m
theorem IH.MM(J:IH H x A s){ts:List Int}:IH (upd H A.yg (.dK (ts.map tkv))) x A {s with yng:=ts}∧Fr (aO x A s) H (aO x A {s with yng:=ts}) (upd H A.yg (.dK (ts.map tkv))):=by
 have tk:a8 H (upd H A.yg (.dK (ts.map tkv))):=a8.set J.ayg (λ_ z=>nomatch z);refine#[#[(by rw[ab (av J.ax J.ayg (by intro z;cases z))];exact J.ax),(by rw[ab (av J.ahd J.ayg (by intro z;cases z))];exact J.ahd),(by rw[ab (av J.ahl J.ayg (by intro z;cases z))];exact J.ahl),J.rhl.keep tk,(by rw[ab (av J.ant J.ayg (by intro z;cases z))];exact J.ant),(by rw[ab (av J.anl J.ayg (by intro z;cases z))];exact J.anl),(by rw[ab (av J.awt J.ayg (by intro z;cases z))];exact J.awt),(by rw[ab J.d2];exact J.awb),(by rw[ab (av J.awl J.ayg (by intro z;cases z))];exact J.awl),(by rw[ab J.d4];exact J.afh),(λt ws m=>#[by rw[ab (av (J.afl _ _ m).1 J.ayg (by intro z;cases z))];exact(J.afl _ _ m).1,(J.afl _ _ m).2.keep tk]),ae,(by rw[ab (Oj J.d6)];exact J.adm),J.nhn,J.l1,J.l2,J.l3,J.l4,J.l5,J.d1,J.d2,J.d3,J.d4,J.d5,J.d6],Fr.set .yg J.ayg (λ_ z=>nomatch z) (λc f=>?_)];cases f with
 | x=>exact .x
 | hd=>exact .hd
 | hl=>exact .hl
 | nt=>exact .nt
 | nl=>exact .nl
 | wt=>exact .wt
 | wb=>exact .wb
 | wl=>exact .wl
 | fh=>exact .fh
 | yg=>exact .yg
 | dm=>exact .dm
 | fl m=>exact .fl m
theorem IH.MN(J:IH H x A s){ts:List Int}:IH (upd H A.dm (.dK (ts.map tkv))) x A {s with bj:=ts}∧Fr (aO x A s) H (aO x A {s with bj:=ts}) (upd H A.dm (.dK (ts.map tkv))):=by
 have tk:a8 H (upd H A.dm (.dK (ts.map tkv))):=a8.set J.adm (λ_ z=>nomatch z);refine#[#[(by rw[ab (av J.ax J.adm (by intro z;cases z))];exact J.ax),(by rw[ab (av J.ahd J.adm (by intro z;cases z))];exact J.ahd),(by rw[ab (av J.ahl J.adm (by intro z;cases z))];exact J.ahl),J.rhl.keep tk,(by rw[ab (av J.ant J.adm (by intro z;cases z))];exact J.ant),(by rw[ab (av J.anl J.adm (by intro z;cases z))];exact J.anl),(by rw[ab (av J.awt J.adm (by intro z;cases z))];exact J.awt),(by rw[ab J.d3];exact J.awb),(by rw[ab (av J.awl J.adm (by intro z;cases z))];exact J.awl),(by rw[ab J.d5];exact J.afh),(λt ws m=>#[by rw[ab (av (J.afl _ _ m).1 J.adm (by intro z;cases z))];exact(J.afl _ _ m).1,(J.afl _ _ m).2.keep tk]),(by rw[ab J.d6];exact J.ayg),ae,J.nhn,J.l1,J.l2,J.l3,J.l4,J.l5,J.d1,J.d2,J.d3,J.d4,J.d5,J.d6],Fr.set .dm J.adm (λ_ z=>nomatch z) (λc f=>?_)];cases f with
 | x=>exact .x
 | hd=>exact .hd
 | hl=>exact .hl
 | nt=>exact .nt
 | nl=>exact .nl
 | wt=>exact .wt
 | wb=>exact .wb
 | wl=>exact .wl
 | fh=>exact .fh
 | yg=>exact .yg
 | dm=>exact .dm
 | fl m=>exact .fl m
theorem IH.MO(J:IH H x A s){n:Int}:IH (upd H x (.ins 969 A.dx (b8 "next_thing" (.int n) (atts A s)))) x A {s with nxt:=n}∧Fr (aO x A s) H (aO x A {s with nxt:=n}) (upd H x (.ins 969 A.dx (b8 "next_thing" (.int n) (atts A s)))):=by
 have tk:a8 H (upd H x (.ins 969 A.dx (b8 "next_thing" (.int n) (atts A s)))):=a8.set J.ax (λ_ z=>nomatch z);refine#[#[(by rw[ae,JI]),(by rw[ab (av J.ahd J.ax (jv (show(1:Nat)≠11 by decide)))];exact J.ahd),(by rw[ab (av J.ahl J.ax (by intro z;cases z))];exact J.ahl),J.rhl.keep tk,(by rw[ab (av J.ant J.ax (jv (show(1:Nat)≠11 by decide)))];exact J.ant),(by rw[ab (av J.anl J.ax (by intro z;cases z))];exact J.anl),(by rw[ab (av J.awt J.ax (jv (show(2:Nat)≠11 by decide)))];exact J.awt),(by rw[ab (av J.awb J.ax (by intro z;cases z))];exact J.awb),(by rw[ab (av J.awl J.ax (by intro z;cases z))];exact J.awl),(by rw[ab (av J.afh J.ax (by intro z;cases z))];exact J.afh),(λt ws m=>#[by rw[ab (av (J.afl _ _ m).1 J.ax (by intro z;cases z))];exact(J.afl _ _ m).1,(J.afl _ _ m).2.keep tk]),(by rw[ab (av J.ayg J.ax (by intro z;cases z))];exact J.ayg),(by rw[ab (av J.adm J.ax (by intro z;cases z))];exact J.adm),J.nhn,J.l1,J.l2,J.l3,J.l4,J.l5,J.d1,J.d2,J.d3,J.d4,J.d5,J.d6],Fr.set .x J.ax (λ_ z=>nomatch z) (λc f=>?_)];cases f with
 | x=>exact .x
 | hd=>exact .hd
 | hl=>exact .hl
 | nt=>exact .nt
 | nl=>exact .nl
 | wt=>exact .wt
 | wb=>exact .wb
 | wl=>exact .wl
 | fh=>exact .fh
 | yg=>exact .yg
 | dm=>exact .dm
 | fl m=>exact .fl m
noncomputable def fL(fs:List (Int×List Wd))(t:Int)(ws:List Wd):List (Int×List Wd):=fs.map λp=>if p.1=t then(t,ws) else p
theorem ll{fs:List (Int×List Wd)}{t t':Int}{ws ws':List Wd}(m:(t',ws')∈fL fs t ws):∃ w0,(t',w0)∈fs∧t'=t':=by
 obtain⟨q,mq,e⟩:=Og.mp m;by_cases c:q.1=t
 ·rw[if_pos c]at e
  cases e;exact#[q.2,by rw[←c];exact mq,rfl]
 ·rw[if_neg c]at e
  subst e;exact#[_,mq,rfl]
theorem AB{A:HA}{fs:List (Int×List Wd)}{t:Int}{ws:List Wd}{xs:Int→List V}:(fL fs t ws).map (fkv {A with fx:=xs})=fs.map (fkv A):=by
 unfold fL;rw[OD];refine ON λp hp=>?_;show fkv {A with fx:=xs} (if p.1=t then(t,ws) else p)=fkv A p;by_cases c:p.1=t
 ·rw[if_pos c];unfold fkv;rw[c]
 ·rw[if_neg c];rfl
theorem IH.MP(J:IH H x A s){t:Int}{w0:List Wd}(m:(t,w0)∈s.aI){xs:List V}{ws:List Wd}(r:Rel H xs ws):IH (upd H (A.fa t) (.lst xs)) x {A with fx:=λu=>if u=t then xs else A.fx u} {s with aI:=fL s.aI t ws}∧Fr (aO x A s) H (aO x {A with fx:=λu=>if u=t then xs else A.fx u} {s with aI:=fL s.aI t ws}) (upd H (A.fa t) (.lst xs)):=by
 have tk:a8 H (upd H (A.fa t) (.lst xs)):=a8.set (J.afl _ _ m).1 (λ_ z=>nomatch z);refine#[#[(by rw[ab (Oj (av (J.afl _ _ m).1 J.ax (by intro z;cases z)))];exact J.ax),(by rw[ab (Oj (av (J.afl _ _ m).1 J.ahd (by intro z;cases z)))];exact J.ahd),(by rw[ab (Oj (J.l4 _ _ m).1)];exact J.ahl),J.rhl.keep tk,(by rw[ab (Oj (av (J.afl _ _ m).1 J.ant (by intro z;cases z)))];exact J.ant),(by rw[ab (Oj (J.l4 _ _ m).2.1)];exact J.anl),(by rw[ab (Oj (av (J.afl _ _ m).1 J.awt (by intro z;cases z)))];exact J.awt),(by rw[ab (Oj (av (J.afl _ _ m).1 J.awb (by intro z;cases z)))];exact J.awb),(by rw[ab (Oj (J.l4 _ _ m).2.2)];exact J.awl),(by rw[ab (Oj (av (J.afl _ _ m).1 J.afh (by intro z;cases z))),AB];exact J.afh),(λt' ws' m'=>by
  obtain⟨q,mq,e⟩:=Og.mp m';by_cases c:q.1=t
  ·rw[if_pos c]at e
   cases e;dsimp only;rw[if_pos rfl];exact#[ae,r.keep tk]
  ·rw[if_neg c]at e
   subst e;dsimp only;rw[if_neg c];exact#[by rw[ab λz=>c (J.l5 _ _ _ _ mq m z)];exact(J.afl _ _ mq).1,(J.afl _ _ mq).2.keep tk]),(by rw[ab (Oj (av (J.afl _ _ m).1 J.ayg (by intro z;cases z)))];exact J.ayg),(by rw[ab (Oj (av (J.afl _ _ m).1 J.adm (by intro z;cases z)))];exact J.adm),J.nhn,J.l1,J.l2,J.l3,(λt' ws' m'=>by obtain⟨q,mq,e1⟩:=ll m';rw[←e1];exact J.l4 _ _ mq),(λt1 w1 t2 w2 m1 m2 z=>by obtain⟨q1,mq1,e1⟩:=ll m1;obtain⟨q2,mq2,e2⟩:=ll m2;rw[←e1,←e2]at z ⊢;exact J.l5 _ _ _ _ mq1 mq2 z),J.d1,J.d2,J.d3,J.d4,J.d5,J.d6],Fr.set (.fl m) (J.afl _ _ m).1 (λ_ z=>nomatch z) (λc f=>?_)]
 cases f with
 | x=>exact .x
 | hd=>exact .hd
 | hl=>exact .hl
 | nt=>exact .nt
 | nl=>exact .nl
 | wt=>exact .wt
 | wb=>exact .wb
 | wl=>exact .wl
 | fh=>exact .fh
 | yg=>exact .yg
 | dm=>exact .dm
 | fl m'=>obtain⟨w0,m0,_⟩:=ll m';exact .fl m0
theorem IH.fresh(J:IH H x A s){b:Addr}(h:H b=none):¬aO x A s b:=λf=>by
 obtain⟨u,q,_⟩:=J.is f;rw[h]at q;cases q
theorem IH.JK(J:IH H x A s){t:Int}{b:Addr}{xs:List V}{ws:List Wd}(hb:H b=none)(hn:∀ w,(t,w)∉s.aI)(r:Rel H xs ws) :
  IH (upd (upd H b (.lst xs)) A.fh (.dK (s.aI.map (fkv A)++[(Sum.inl t,.ref b)]))) x {A with fa:=λu=>if u=t then b else A.fa u,fx:=λu=>if u=t then xs else A.fx u} {s with aI:=s.aI++[(t,ws)]} ∧
  Fr (aO x A s) H (aO x {A with fa:=λu=>if u=t then b else A.fa u,fx:=λu=>if u=t then xs else A.fx u} {s with aI:=s.aI++[(t,ws)]}) (upd (upd H b (.lst xs)) A.fh (.dK (s.aI.map (fkv A)++[(Sum.inl t,.ref b)]))):=by
 have s1:au H (upd H b (.lst xs)):=au.upd hb;have nb:∀ {c:Addr} {u:HO},H c=some u→c≠b:=λq=>aj q hb;have J1:=J.same s1;have tk:a8 (upd H b (.lst xs)) (upd (upd H b (.lst xs)) A.fh (.dK (s.aI.map (fkv A)++[(Sum.inl t,.ref b)]))):=a8.set J1.afh (λ_ z=>nomatch z);have tk0:a8 H (upd (upd H b (.lst xs)) A.fh (.dK (s.aI.map (fkv A)++[(Sum.inl t,.ref b)]))):=(a8.of s1).trans tk;have kt:∀ {t':Int} {w:List Wd},(t',w)∈s.aI→t'≠t:=λm e=>hn _ (by rw[←e];exact m);have mm:∀ {t':Int} {w:List Wd},(t',w)∈s.aI++[(t,ws)]→(t',w)∈s.aI∨(t'=t∧w=ws):=λm=>by
  rcases Om.mp m with m|m
  ·exact .inl m
  ·cases NN.mp m;exact .inr #[rfl,rfl]
 have bf:b≠A.fh:=Oj (nb J.afh);have fk:(s.aI++[(t,ws)]).map (fkv {A with fa:=λu=>if u=t then b else A.fa u,fx:=λu=>if u=t then xs else A.fx u})=s.aI.map (fkv A)++[(Sum.inl t,.ref b)]:=by
  rw[N9];congr 1
  ·refine ON λp hp=>?_
   unfold fkv;simp only;rw[if_neg (kt (t':=p.1) (w:=p.2) hp)]
  ·simp only[Oo,Pq,fkv,if_true]
 refine#[#[(by rw[ab (av J.ax J.afh (by intro z;cases z))];exact J1.ax),(by rw[ab (av J.ahd J.afh (by intro z;cases z))];exact J1.ahd),(by rw[ab (av J.ahl J.afh (by intro z;cases z))];exact J1.ahl),J.rhl.keep tk0,(by rw[ab (av J.ant J.afh (by intro z;cases z))];exact J1.ant),(by rw[ab (av J.anl J.afh (by intro z;cases z))];exact J1.anl),(by rw[ab (av J.awt J.afh (by intro z;cases z))];exact J1.awt),(by rw[ab J.d1];exact J1.awb),(by rw[ab (av J.awl J.afh (by intro z;cases z))];exact J1.awl),(by rw[fk];exact ae),(λt' w m=>by
  rcases mm m with m|⟨e1,e2⟩
  ·show _=_∧_
   simp only[if_neg (kt m)];exact#[by rw[ab (av (J.afl _ _ m).1 J.afh (by intro z;cases z))];exact s1 _ _ (J.afl _ _ m).1,(J.afl _ _ m).2.keep tk0]
  ·subst e1 e2
   simp only[if_true];exact#[by rw[ab bf];exact ae,r.keep tk0]),(by rw[ab (Oj J.d4)];exact J1.ayg),(by rw[ab (Oj J.d5)];exact J1.adm),J.nhn,J.l1,J.l2,J.l3,(λt' w m=>by
  rcases mm m with m|⟨e1,e2⟩
  ·simp only[if_neg (kt m)]
   exact J.l4 _ _ m
  ·subst e1
   simp only[if_true];exact#[Oj (nb J.ahl),Oj (nb J.anl),Oj (nb J.awl)]),(λt1 w1 t2 w2 m1 m2 z=>by
  simp only at z;rcases mm m1 with m1|⟨e1,_⟩
  ·rw[if_neg (kt m1)]at z
   rcases mm m2 with m2|⟨e2,_⟩
   ·rw[if_neg (kt m2)]at z
    exact J.l5 _ _ _ _ m1 m2 z
   ·rw[if_pos e2]at z
    exact absurd z (nb (J.afl _ _ m1).1)
  ·rw[if_pos e1]at z
   rcases mm m2 with m2|⟨e2,_⟩
   ·rw[if_neg (kt m2)]at z
    exact absurd z.symm (nb (J.afl _ _ m2).1)
   ·rw[e1,e2]),J.d1,J.d2,J.d3,J.d4,J.d5,J.d6],?_]
 refine#[λc u nf q=>?_,λc f=>?_,λc u q=>?_,tk0]
 ·rw[ab λe=>nf (by rw[e];exact .fh)]
  exact s1 _ _ q
 ·cases f with
  | x=>exact .inl .x
  | hd=>exact .inl .hd
  | hl=>exact .inl .hl
  | nt=>exact .inl .nt
  | nl=>exact .inl .nl
  | wt=>exact .inl .wt
  | wb=>exact .inl .wb
  | wl=>exact .inl .wl
  | fh=>exact .inl .fh
  | yg=>exact .inl .yg
  | dm=>exact .inl .dm
  | @fl t' w m =>
   rcases mm m with m|⟨e,_⟩
   ·refine .inl ?_
    show aO x A s (if t'=t then b else A.fa t');rw[if_neg (kt m)];exact .fl m
   ·refine .inr ?_
    show H (if t'=t then b else A.fa t')=none;rw[if_pos e];exact hb
 ·by_cases e:c=A.fh
  ·exact#[_,by rw[e];exact ae]
  ·exact#[u,by rw[ab e];exact s1 _ _ q]
end
section
variable{P:Program}{w:World}{K:W.Frag}{mg:Str→Option Value}{base:Heap}
theorem a9{t u:TS}{D:Ends}{σ:St}{H:Hp}(h:∀ N:St→Hp→Prop,(∀ σ' H',u D σ' H'→N σ' H')→t {D with nx:=N} σ H):uC t u D σ H:=h (u D) (λ_ _ q=>q)
structure Ok0(P:Program)(w:World)(K:W.Frag)(mg:Str→Option Value)(base:Heap)(n:Nat)(f:Addr)(fd:FuncData)(ps:List Str)(sp:Sp):Prop where
 g:vH P w K mg base (CXE P w) n f fd ps sp
 b:Binds K fd ps []
theorem wX{P:Program}{w:World}{X:Cx}:Passes (CXE P w) X (λ_ _ _=>False):=λ_ _ _ _ _ _ _ ⟨_,_,_,_,_,_,_,_,_,q⟩=>q.elim
theorem bh{H0 H:Hp}{K:W.Frag}{E E2:XK}{C:Addr}{y:Str}(ec:KC K C)(h0:∀ b,H b=none→H0 b=none)(k:∀ H',au H H'→E (.ref C) none H')(ea:Addr)(hea:H ea=none) :
  KD K [.ref ea,.str y] (upd H ea (exo true C ea none)) (λv H2=>v=.non∧(λ(v:V) (H1:Hp)=>∃ ea C od,v=.ref ea∧H1 ea=some (exo true C ea od)∧(∃ cd,cG K C cd)∧H0 ea=none∧E (.ref C) od (del H1 ea)) (.ref ea) H2) E2:=by
 refine#[ea,C,none,.str y,rfl,ae,ec.cls,rfl,ea,C,none,rfl,ae,ec.cls,h0 _ hea,k _ λb o q=>?_];have nb:b≠ea:=λe=>by rw[e,hea]at q;cases q
 rw[jt nb,ab nb];exact q
noncomputable def Bad(C:Addr)(H:Hp)(E:XK):Prop:=∀ H',au H H'→E (.ref C) none H'
theorem Bad.same{C:Addr}{H H1:Hp}{E:XK}(k:Bad C H E)(s:au H H1):Bad C H1 E:=λH' s'=>k H' (s.trans s')
noncomputable def Sm(n:Int):Prop:=n.natAbs.log2<1920
theorem Sm.of{n:Int}(h0:-1000000≤n)(h1:n≤1000000):Sm n:=yH (Nat.lt_trans (show n.natAbs<2000000 by omega) (by decide))
noncomputable def wat(ws:List Wd)(h:Int):Option Wd:=if 0≤h∧h<8 then ws[h.toNat]? else none
theorem eU{ws:List Wd}{h:Int}{wd:Wd}(e:wat ws h=some wd):0≤h∧h<8∧ws[h.toNat]?=some wd:=by
 unfold wat at e;by_cases g:0≤h∧h<8
 ·rw[if_pos g]at e;exact#[g.1,g.2,e]
 ·rw[if_neg g]at e;cases e
theorem AD{ws:List Wd}{h:Int}(l:ws.length=8)(e:wat ws h=none):¬(0≤h∧h<8):=λg=>by
 unfold wat at e;rw[if_pos g,NJ (by omega)]at e;cases e
theorem qx{xs:List V}{a:Int}{v:V}(h0:0≤a)(h:xs[a.toNat]?=some v):atI xs a=some v:=by
 have e:a=(a.toNat:Int):=by omega
 rw[e];exact cE h
theorem CM{n:Nat}{a:Int}(h0:0≤a)(h1:a<n):ixN n a=some a.toNat:=by
 unfold ixN;rw[if_pos h0,if_pos h1]
structure Hn(H:Hp)(hd hdx hl:Addr)(xs:List V)(ws:List Wd):Prop where
 i:H hd=some (.ins 543 hdx [("words_held",.ref hl)])
 l:H hl=some (.lst xs)
 r:Rel H xs ws
 n:ws.length=8
theorem Hn.same{H H':Hp}{hd hdx hl:Addr}{xs:List V}{ws:List Wd}(h:Hn H hd hdx hl xs ws)(s:au H H'):Hn H' hd hdx hl xs ws:=#[s _ _ h.i,s _ _ h.l,h.r.keep (a8.of s),h.n]
theorem Hn.at_{H:Hp}{hd hdx hl:Addr}{xs:List V}{ws:List Wd}(N:Hn H hd hdx hl xs ws){h:Int}{wd:Wd}(e:wat ws h=some wd):∃ v,xs[h.toNat]?=some v∧WV H v wd:=by
 obtain⟨h0,h1,e⟩:=eU e;have hi:h.toNat<ws.length:=by rw[N.n];omega
 obtain⟨v,e1,e2⟩:=N.r.get hi;rw[NJ hi]at e;cases e;exact#[v,e1,e2]
theorem Hn.ix{H:Hp}{hd hdx hl:Addr}{xs:List V}{ws:List Wd}(N:Hn H hd hdx hl xs ws){h:Int}(g:0≤h∧h<8):ixN xs.length h=some h.toNat:=CM g.1 (by rw[N.r.1,N.n];exact g.2)
noncomputable abbrev ip:List Str:=["self", "text"]
theorem hV:ao ip ["self", "text"] (ag de):=fsc
theorem aE(T:Txt w K mg):Ok P w K mg base 1 35 ["self", "text"] (KD K):=by
 refine T.o2 "HeapError.__init__" hV λcdv A' outer s' H vs Q E hr h=>?_;obtain⟨ea,C,od,x,rfl,h1,hc,k⟩:=h;refine#[_,(ai (aC (Jq rfl T.z (aa (pv 0) (aa (pv 1) ah))))),?_];exact#[_,rfl,_,rfl,ea,C,od,[x],rfl,(by show 1≤1000;decide),h1,hc,k]
noncomputable def dG(n:Str):Sp:=λvs H Q _=>∃ x,vs=[x]∧Q (.str n) H
theorem dW(T:Txt w K mg):Ok0 P w K mg base 1 119 (fdA w.params 119) ["self"] (dG "BadCount") :=
 #[(T.fn (st:=cN) "BadCount.called").ok0 (N:=["self"]) fsc (λvs H Q E h=>by obtain⟨x,rfl,_⟩:=h;rfl) (λcdv A outer s H vs Q E h=>by obtain⟨x,rfl,k⟩:=h;exact#[_,ai (aB aw),k]),(T.fn (st:=cN) "BadCount.called").binds (ps:=["self"]) λ_ _ _ _ _ _ us hl=>match us,hl with|[_],_=>rfl]
theorem fq(T:Txt w K mg):Ok0 P w K mg base 1 62 (fdA w.params 62) ["self"] (dG "BadHand") :=
 #[(T.fn (st:=c5) "BadHand.called").ok0 (N:=["self"]) fsc (λvs H Q E h=>by obtain⟨x,rfl,_⟩:=h;rfl) (λcdv A outer s H vs Q E h=>by obtain⟨x,rfl,k⟩:=h;exact#[_,ai (aB aw),k]),(T.fn (st:=c5) "BadHand.called").binds (ps:=["self"]) λ_ _ _ _ _ _ us hl=>match us,hl with|[_],_=>rfl]
theorem ft(T:Txt w K mg):Ok0 P w K mg base 1 81 (fdA w.params 81) ["self"] (dG "BadName") :=
 #[(T.fn (st:=c6) "BadName.called").ok0 (N:=["self"]) fsc (λvs H Q E h=>by obtain⟨x,rfl,_⟩:=h;rfl) (λcdv A outer s H vs Q E h=>by obtain⟨x,rfl,k⟩:=h;exact#[_,ai (aB aw),k]),(T.fn (st:=c6) "BadName.called").binds (ps:=["self"]) λ_ _ _ _ _ _ us hl=>match us,hl with|[_],_=>rfl]
theorem dX(T:Txt w K mg):Ok0 P w K mg base 1 100 (fdA w.params 100) ["self"] (dG "BadField") :=
 #[(T.fn (st:=cL) "BadField.called").ok0 (N:=["self"]) fsc (λvs H Q E h=>by obtain⟨x,rfl,_⟩:=h;rfl) (λcdv A outer s H vs Q E h=>by obtain⟨x,rfl,k⟩:=h;exact#[_,ai (aB aw),k]),(T.fn (st:=cL) "BadField.called").binds (ps:=["self"]) λ_ _ _ _ _ _ us hl=>match us,hl with|[_],_=>rfl]
theorem cJ(T:Txt w K mg):Ok0 P w K mg base 1 157 (fdA w.params 157) ["self"] (dG "TooManyWords") :=
 #[(T.fn (st:=bX) "TooManyWords.called").ok0 (N:=["self"]) fsc (λvs H Q E h=>by obtain⟨x,rfl,_⟩:=h;rfl) (λcdv A outer s H vs Q E h=>by obtain⟨x,rfl,k⟩:=h;exact#[_,ai (aB aw),k]),(T.fn (st:=bX) "TooManyWords.called").binds (ps:=["self"]) λ_ _ _ _ _ _ us hl=>match us,hl with|[_],_=>rfl]
theorem gp(T:Txt w K mg):Ok0 P w K mg base 1 138 (fdA w.params 138) ["self"] (dG "NoRoom") :=
 #[(T.fn (st:=dC) "NoRoom.called").ok0 (N:=["self"]) fsc (λvs H Q E h=>by obtain⟨x,rfl,_⟩:=h;rfl) (λcdv A outer s H vs Q E h=>by obtain⟨x,rfl,k⟩:=h;exact#[_,ai (aB aw),k]),(T.fn (st:=dC) "NoRoom.called").binds (ps:=["self"]) λ_ _ _ _ _ _ us hl=>match us,hl with|[_],_=>rfl]
noncomputable def FD:Sp:=λvs H Q _=>∃ v wd,vs=[v]∧WV H v wd∧Q (.str wd.kind) H
noncomputable abbrev yW:List Str:=["value"]
theorem vK:ao yW ["value"] (ag rJ):=fsc
theorem pB(T:Txt w K mg):Ok P w K mg base 1 421 ["value"] (FD):=by
 refine T.o1 "kind_of" vK λcdv A' outer s' H vs Q E hr h=>?_;obtain⟨v,wd,rfl,hv,k⟩:=h;refine#[_,(ai (aB (eS (aH qm (pv 0) bu (aN _)) aw (aP aL (pv 0) aq (λ_ _=>rfl))))),?_];cases wd with
 | no =>
  obtain rfl:v=.non:=hv;exact#[_,rfl,rfl,_,rfl,bw (λ_=>k) (λh=>absurd (by simp) h)]
 | num n =>
  obtain⟨t,rfl,ht⟩:=hv;exact#[_,rfl,rfl,_,rfl,bw (λh=>by simp at h) (λ_=>#[_,rfl,t,_,0,_,rfl,rfl,SqT.of ht,rfl,k])]
 | th n =>
  obtain⟨t,rfl,ht⟩:=hv;exact#[_,rfl,rfl,_,rfl,bw (λh=>by simp at h) (λ_=>#[_,rfl,t,_,0,_,rfl,rfl,SqT.of ht,rfl,k])]
noncomputable def nr:Sp:=λvs H Q E=>∃ n:Int,vs=[.int n]∧Sm n∧(if 0≤n∧n<8 then Q .non H else Bad 65 H E)
noncomputable abbrev oh:List Str:=["h"]
theorem nu:ao oh ["h"] (ag iF):=fsc
theorem bq(T:Txt w K mg):Ok P w K mg base 3 442 ["h"] (nr):=by
 refine T.o1 "look_at_hand" nu λcdv A' outer s' H vs Q E hr h=>?_;obtain⟨n,rfl,hb,k⟩:=h;refine#[_,(ai (a6 (ic (gH lb oQ aq (pv 0) (ba (v:=.int 8) rfl T.xK #[_,rfl])))
   (ai (b6 rfl eE ((aE T).e 65 hr px (aa (cI (aQ (dM (pv 0)) (aQ b5 cH))) ah))))
   aK)),?_]
 by_cases g:0≤n∧n<8
 ·rw[if_pos g]at k
  refine#[_,rfl,0,n,rfl,rfl,_,rfl,bw (λ_=>#[n,8,rfl,rfl,_,rfl,bw (λh2=>absurd h2 (by rw[decide_eq_true g.2];decide)) (λ_=>k)]) (λh1=>absurd (decide_eq_true g.1) h1)]
 ·rw[if_neg g]at k
  by_cases g0:0≤n
  ·have g1:¬n<8:=λz=>g #[g0,z]
   refine#[_,rfl,0,n,rfl,rfl,_,rfl,bw (λ_=>#[n,8,rfl,rfl,_,rfl,bw (λ_=>#[_,rfl,n,rfl,hb,λy hy ea hea=>bh (T.ec 65) (λ_ q=>q) k ea hea]) (λh2=>absurd (by rw[decide_eq_false g1];rfl) h2)]) (λh1=>absurd (decide_eq_true g0) h1)]
  ·refine#[_,rfl,0,n,rfl,rfl,_,rfl,bw (λh1=>absurd (of_decide_eq_true h1) g0) (λ_=>#[_,rfl,cZ #[_,rfl,n,rfl,hb,λy hy ea hea=>bh (T.ec 65) (λ_ q=>q) k ea hea]])]
noncomputable def nv:Sp:=λvs H Q E=>∃ n:Int,vs=[.int n]∧Sm n∧(if 0≤n∧n<8 then Q .non H else Bad 84 H E)
noncomputable abbrev oi:List Str:=["w"]
theorem ny:ao oi ["w"] (ag iG):=fsc
theorem hJ(T:Txt w K mg):Ok P w K mg base 3 449 ["w"] (nv):=by
 refine T.o1 "look_at_name" ny λcdv A' outer s' H vs Q E hr h=>?_;obtain⟨n,rfl,hb,k⟩:=h;refine#[_,(ai (a6 (ic (gH lb oQ aq (pv 0) (ba (v:=.int 8) rfl T.kP #[_,rfl])))
   (ai (b6 rfl eE ((aE T).e 84 hr px (aa (cI (aQ (dM (pv 0)) (aQ b5 cH))) ah))))
   aK)),?_]
 by_cases g:0≤n∧n<8
 ·rw[if_pos g]at k
  refine#[_,rfl,0,n,rfl,rfl,_,rfl,bw (λ_=>#[n,8,rfl,rfl,_,rfl,bw (λh2=>absurd h2 (by rw[decide_eq_true g.2];decide)) (λ_=>k)]) (λh1=>absurd (decide_eq_true g.1) h1)]
 ·rw[if_neg g]at k
  by_cases g0:0≤n
  ·have g1:¬n<8:=λz=>g #[g0,z]
   refine#[_,rfl,0,n,rfl,rfl,_,rfl,bw (λ_=>#[n,8,rfl,rfl,_,rfl,bw (λ_=>#[_,rfl,n,rfl,hb,λy hy ea hea=>bh (T.ec 84) (λ_ q=>q) k ea hea]) (λh2=>absurd (by rw[decide_eq_false g1];rfl) h2)]) (λh1=>absurd (decide_eq_true g0) h1)]
  ·refine#[_,rfl,0,n,rfl,rfl,_,rfl,bw (λh1=>absurd (of_decide_eq_true h1) g0) (λ_=>#[_,rfl,cZ #[_,rfl,n,rfl,hb,λy hy ea hea=>bh (T.ec 84) (λ_ q=>q) k ea hea]])]
noncomputable def uf:Sp:=λvs H Q E=>∃ n:Int,vs=[.int n]∧Sm n∧(if 0≤n∧n≤6 then Q (.int (n+1)) H else Bad 122 H E)
noncomputable abbrev vL:List Str:=["fields"]
theorem ug:ao vL ["fields"] (ag pb):=fsc
theorem mY(T:Txt w K mg):Ok P w K mg base 3 428 ["fields"] (uf):=by
 refine T.o1 "words_of" ug λcdv A' outer s' H vs Q E hr h=>?_;obtain⟨n,rfl,hb,k⟩:=h;refine#[_,(ak (a6 (ic (gH lb lb aq (pv 0) (ba (v:=.int 6) rfl T.qw #[_,rfl])))
   (ai (b6 rfl eE ((aE T).e 122 hr px (aa (cI (aQ (dM (pv 0)) (aQ b5 cH))) ah))))
   aK)
  (ai (aB (cb nR (pv 0) aq)))),?_]
 by_cases g:0≤n∧n≤6
 ·rw[if_pos g]at k
  refine#[_,rfl,0,n,rfl,rfl,_,rfl,bw (λ_=>#[n,6,rfl,rfl,_,rfl,bw (λh2=>absurd h2 (by rw[decide_eq_true g.2];decide)) (λ_=>#[_,rfl,n,1,rfl,rfl,k])]) (λh1=>absurd (decide_eq_true g.1) h1)]
 ·rw[if_neg g]at k
  by_cases g0:0≤n
  ·have g1:¬n≤6:=λz=>g #[g0,z]
   refine#[_,rfl,0,n,rfl,rfl,_,rfl,bw (λ_=>#[n,6,rfl,rfl,_,rfl,bw (λ_=>#[_,rfl,n,rfl,hb,λy hy ea hea=>bh (T.ec 122) (λ_ q=>q) k ea hea]) (λh2=>absurd (by rw[decide_eq_false g1];rfl) h2)]) (λh1=>absurd (decide_eq_true g0) h1)]
  ·refine#[_,rfl,0,n,rfl,rfl,_,rfl,bw (λh1=>absurd (of_decide_eq_true h1) g0) (λ_=>#[_,rfl,cZ #[_,rfl,n,rfl,hb,λy hy ea hea=>bh (T.ec 122) (λ_ q=>q) k ea hea]])]
noncomputable def lN:Sp:=λvs H Q E=>∃ n m:Int,vs=[.int n,.int m]∧Sm n∧Sm m∧(if 0≤n∧n<m then Q .non H else Bad 103 H E)
noncomputable abbrev nz:List Str:=["k", "fields"]
theorem lO:ao nz ["k", "fields"] (ag gZ):=fsc
theorem gq(T:Txt w K mg):Ok P w K mg base 3 456 ["k", "fields"] (lN):=by
 refine T.o2 "look_at_field" lO λcdv A' outer s' H vs Q E hr h=>?_;obtain⟨n,m,rfl,hb,hm,k⟩:=h;refine#[_,(ai (a6 (ic (gH lb oQ aq (pv 0) (pv 1)))
   (ai (b6 rfl eE ((aE T).e 103 hr px (aa (cI (aQ b5 (aQ (dM (pv 1)) (aQ b5 (aQ (dM (pv 0)) cH))))) ah))))
   aK)),?_]
 by_cases g:0≤n∧n<m
 ·rw[if_pos g]at k
  refine#[_,rfl,0,n,rfl,rfl,_,rfl,bw (λ_=>#[_,rfl,n,m,rfl,rfl,_,rfl,bw (λh2=>absurd h2 (by rw[decide_eq_true g.2];decide)) (λ_=>k)]) (λh1=>absurd (decide_eq_true g.1) h1)]
 ·rw[if_neg g]at k
  by_cases g0:0≤n
  ·have g1:¬n<m:=λz=>g #[g0,z]
   refine#[_,rfl,0,n,rfl,rfl,_,rfl,bw (λ_=>#[_,rfl,n,m,rfl,rfl,_,rfl,bw (λ_=>#[_,rfl,m,rfl,hm,_,rfl,n,rfl,hb,λy hy ea hea=>bh (T.ec 103) (λ_ q=>q) k ea hea]) (λh2=>absurd (by rw[decide_eq_false g1];rfl) h2)]) (λh1=>absurd (decide_eq_true g0) h1)]
  ·refine#[_,rfl,0,n,rfl,rfl,_,rfl,bw (λh1=>absurd (of_decide_eq_true h1) g0) (λ_=>#[_,rfl,cZ #[_,rfl,m,rfl,hm,_,rfl,n,rfl,hb,λy hy ea hea=>bh (T.ec 103) (λ_ q=>q) k ea hea]])]
noncomputable def Num(x:Int):Prop:=-(10 ^ 60)≤x∧x≤10 ^ 60
noncomputable instance {x:Int}:Decidable (Num x):=inferInstanceAs (Decidable (_∧_))
noncomputable def jV:Sp:=λvs H Q E=>∃ x:Int,vs=[.int x]∧Sm x∧(if Num x then Q .non H else Bad 122 H E)
noncomputable abbrev lP:List Str:=["x"]
theorem jW:ao lP ["x"] (ag fT):=fsc
theorem fu(T:Txt w K mg):Ok P w K mg base 3 435 ["x"] (jV):=by
 refine T.o1 "look_at_number" jW λcdv A' outer s' H vs Q E hr h=>?_;obtain⟨x,rfl,hb,k⟩:=h;refine#[_,(ai (a6 (aH tK (aX Ac rfl T.z PyProof.Rows.Boot.«abs» (aa (pv 0) ah)) (cb wK aq aq) (aN _))
   (ai (b6 rfl eE ((aE T).e 122 hr px (aa (cI (aQ (dM (pv 0)) (aQ b5 cH))) ah))))
   aK)),?_]
 have e60:((10:Int) ^ (60:Int).toNat)=10 ^ 60:=rfl;by_cases g:Num x
 ·rw[if_pos g]at k
  refine#[_,rfl,x,rfl,10,60,rfl,rfl,#[by decide,by decide,by decide],_,_,rfl,rfl,_,rfl,bw (λh=>absurd (of_decide_eq_true h) ?_) (λ_=>k)]
  have:=g.1
  have:=g.2
  rw[e60];split<;>omega
 ·rw[if_neg g]at k
  refine#[_,rfl,x,rfl,10,60,rfl,rfl,#[by decide,by decide,by decide],_,_,rfl,rfl,_,rfl,bw (λ_=>#[_,rfl,x,rfl,hb,λy hy ea hea=>bh (T.ec 122) (λ_ q=>q) k ea hea]) (λh=>absurd (decide_eq_true ?_) h)];unfold Num at g;rw[e60];split<;>omega
noncomputable def nB:Sp:=λvs H Q E=>∃ x:Int,vs=[.int x]∧Sm x∧(if Num x then ∀ t H',au H H'→H' t=some (.tup [.str "number",.int x])→Q (.ref t) H' else Bad 122 H E)
noncomputable abbrev oj:List Str:=["x"]
theorem nD:ao oj ["x"] (ag iE):=fsc
theorem nE(T:Txt w K mg):Ok P w K mg base 4 407 ["x"] (nB):=by
 refine T.o1 "number_value" nD λcdv A' outer s' H vs Q E hr h=>?_;obtain⟨x,rfl,hb,k⟩:=h;refine#[_,(ak (aC ((fu T).c hr px (aa (pv 0) ah)))
  (ai (aB (bY (aa aw (aa (pv 0) ah)))))),?_]
 refine#[_,rfl,x,rfl,hb,?_];by_cases g:Num x
 ·rw[if_pos g]at k ⊢
  exact#[_,rfl,by show 2≤sizeLine;decide,λt ht=>k t _ (au.upd ht) ae]
 ·rw[if_neg g]at k ⊢
  exact k
noncomputable def om:Sp:=λvs H Q E=>∃ x:Int,vs=[.int x]∧0≤x∧∀ t H',au H H'→H' t=some (.tup [.str "thing",.int x])→Q (.ref t) H'
noncomputable abbrev qy:List Str:=["t"]
theorem oo:ao qy ["t"] (ag jl):=fsc
theorem eh(T:Txt w K mg):Ok P w K mg base 3 414 ["t"] (om):=by
 refine T.o1 "thing_value" oo λcdv A' outer s' H vs Q E hr h=>?_;obtain⟨x,rfl,h0,k⟩:=h;refine#[_,(ak (a6 (aH oQ (pv 0) aq (aN _))
   (ai (b6 rfl eE ((aE T).e 122 hr px (aa (cI (aQ (dM (pv 0)) (aQ b5 cH))) ah))))
   aK)
  (ai (aB (bY (aa aw (aa (pv 0) ah)))))),?_]
 exact#[_,rfl,x,0,rfl,rfl,_,rfl,bw (λh=>absurd (of_decide_eq_true h) (by omega)) (λ_=>#[_,rfl,by show 2≤sizeLine;decide,λt ht=>k t _ (au.upd ht) ae])]
noncomputable def jX:Sp:=λvs H Q E=>∃ y l:Int,vs=[.int y,.int l]∧(y=0∨(7≤y∧y≤64))∧7≤l∧l≤400∧Q .non H
noncomputable abbrev lQ:List Str:=["young", "limit"]
theorem jY:ao lQ ["young", "limit"] (ag fU):=fsc
theorem jZ(T:Txt w K mg):Ok P w K mg base 3 463 ["young", "limit"] (jX):=by
 refine T.o2 "look_at_limits" jY λcdv A' outer s' H vs Q E hr h=>?_;obtain⟨y,l,rfl,hy,l0,l1,k⟩:=h;refine#[_,(ak (a6 (PW.pt (pw_and (aH qV (pv 0) aq (aN _)) (pw_and1 (ic (gH lb lb (ba (v:=.int 7) rfl T.kQ #[_,rfl]) (pv 0) (ba (v:=.int 64) rfl T.sk #[_,rfl]))))))
   (ai (b6 rfl eE ((aE T).e 122 hr px (aa (cI (aQ (dM (pv 0)) (aQ b5 cH))) ah))))
   aK)
  (ai (a6 (ic (gH lb lb (ba (v:=.int 7) rfl T.kQ #[_,rfl]) (pv 1) (ba (v:=.int 400) rfl T.so #[_,rfl])))
   (ai (b6 rfl eE ((aE T).e 122 hr px (aa (cI (aQ (dM (pv 1)) (aQ b5 cH))) ah))))
   aK))),?_]
 refine a9 λN hN=>?_;have rest:N [some (.int y),some (.int l)] H:=by
  refine hN _ _ ?_;exact#[_,rfl,7,l,rfl,rfl,_,rfl,bw (λ_=>#[l,400,rfl,rfl,_,rfl,bw (λh2=>absurd h2 (by rw[decide_eq_true l1];decide)) (λ_=>k)]) (λh1=>absurd (decide_eq_true l0) h1)]
 rcases hy with rfl|⟨y0,y1⟩
 ·exact#[_,rfl,rfl,_,rfl,bw (λh=>absurd h (by decide)) (λ_=>b7 rest)]
 ·refine#[_,rfl,rfl,_,rfl,bw (λ_=>?_) (λh=>absurd (show(!decide (V.int y=V.int 0))=true from ?_) h)]
  ·exact#[_,rfl,7,y,rfl,rfl,_,rfl,bw (λ_=>#[y,64,rfl,rfl,_,rfl,bw (λh2=>absurd h2 (by rw[decide_eq_true y1];decide)) (λ_=>rest)]) (λh1=>absurd (decide_eq_true y0) h1)]
  ·rw[decide_eq_false (by intro z;injection z with z;omega)];rfl
end
section
variable{P:Program}{w:World}{K:W.Frag}{mg:Str→Option Value}{base:Heap}
noncomputable def But(m:Addr)(H H':Hp):Prop:=∀ b u,b≠m→H b=some u→H' b=some u
theorem But.upd{m a:Addr}{H:Hp}{o:HO}(h:H a=none):But m H (L2.upd H a o):=λb u _ q=>by rw[ab (aj q h)];exact q
theorem But.self{m:Addr}{H:Hp}{o:HO}:But m H (L2.upd H m o):=λb u n q=>by rw[ab n];exact q
theorem But.trans{m:Addr}{H H1 H2:Hp}(a:But m H H1)(b:But m H1 H2):But m H H2:=λc u n q=>b c u n (a c u n q)
theorem au.none{H H':Hp}(s:au H H'){b:Addr}(h:H' b=none):H b=none:=by
 cases q:H b with
 | none=>rfl
 | some u=>rw[s _ _ q]at h;cases h
theorem KL:(List.replicate (8:Int).toNat [V.non]).flatten=List.replicate 8 .non:=rfl
theorem lookup_some{α:Type}{bs:List (Int×α)}{t:Int}{v:α}(h:bs.lookup t=some v):(t,v)∈bs:=by
 induction bs with
 | nil=>cases h
 | cons p r ih =>
  obtain⟨a,b⟩:=p;rw[O2]at h;by_cases e:t == a
  ·rw[e]at h
   rw[beq_iff_eq]at e;subst e;cases h;exact NV
  ·rw[Bool.not_eq_true]at e
   rw[e]at h;exact Oa _ (ih h)
theorem lookup_none{α:Type}{bs:List (Int×α)}{t:Int}(h:bs.lookup t=none):∀ p∈bs,p.1≠t:=by
 induction bs with
 | nil=>intro p hp;cases hp
 | cons p r ih =>
  obtain⟨a,b⟩:=p;rw[O2]at h;by_cases e:t == a
  ·rw[e]at h;cases h
  ·rw[Bool.not_eq_true]at e
   rw[e]at h;intro q hq;rcases NY.mp hq with rfl|hq
   ·exact λz=>by rw[beq_eq_false_iff_ne]at e;exact e z.symm
   ·exact ih h q hq
theorem pD{α:Type}{f:Int×α→Key×V}{bs:List (Int×α)}{t:Int}(hf:∀ p,(f p).1=Sum.inl p.1):bU (bs.map f) (Sum.inl t)=(bs.lookup t).map λv=>(f (t,v)).2:=by
 induction bs with
 | nil=>rfl
 | cons p r ih =>
  obtain⟨a,b⟩:=p;rw[Oo,O2];by_cases e:t=a
  ·subst e
   rw[bE (hf (t,b)),beq_self_eq_true];rfl
  ·rw[bF (by rw[hf (a,b)];exact λz=>e (Sum.inl.inj z).symm),beq_eq_false_iff_ne.mpr e,ih]
theorem IM{bs:List (Int×Int)}{t:Int}:bU (bs.map bkv) (Sum.inl t)=(bs.lookup t).map V.int:=pD λ_=>rfl
noncomputable def pE(bs:List (Int×Int))(t x:Int):List (Int×Int):=if(bs.lookup t).isSome=true then bs.map (λp=>if p.1=t then(t,x) else p) else bs++[(t,x)]
theorem u7{bs:List (Int×Int)}{t x:Int}:(pE bs t x).map bkv=putK (bs.map bkv) (Sum.inl t) (.int x):=by
 unfold pE putK;rw[eT,IM,O7];by_cases e:(bs.lookup t).isSome=true
 ·rw[if_pos e,if_pos e,OD,OD]
  refine ON λp hp=>?_;show bkv (if p.1=t then(t,x) else p)=if(bkv p).1=Sum.inl t then((bkv p).1,V.int x) else bkv p;by_cases c:p.1=t
  ·rw[if_pos c,if_pos (by show Sum.inl p.1=Sum.inl t;rw[c])];unfold bkv;rw[c]
  ·rw[if_neg c,if_neg (show ¬(bkv p).1=Sum.inl t from λz=>c (Sum.inl.inj (show(Sum.inl p.1:Key)=Sum.inl t from z)))]
 ·rw[if_neg e,if_neg e,N9]
  rfl
structure Nt(H:Hp)(nt ntx nl:Addr)(xs:List V):Prop where
 i:H nt=some (.ins 660 ntx [("things_named",.ref nl)])
 l:H nl=some (.lst xs)
 n:xs.length=8
structure Wt(H:Hp)(wt wtx wb wl:Addr)(bs:List (Int×Int))(zs:List Int):Prop where
 i:H wt=some (.ins 606 wtx [("words_borne",.ref wb),("words_said",.ref wl)])
 b:H wb=some (.dK (bs.map bkv))
 l:H wl=some (.lst (zs.map V.int))
noncomputable def qz:Sp:=λvs H Q _=>∃ m dx,vs=[.ref m]∧H m=some (.ins 543 dx [])∧∀ c H',But m H H'→H c=none→H' c=some (.lst (List.replicate 8 .non))→H' m=some (.ins 543 dx [("words_held",.ref c)])→Q .non H'
noncomputable abbrev lR:List Str:=["self"]
theorem j0:ao lR ["self"] (ag fV):=fsc
theorem fv(T:Txt w K mg):Ok P w K mg base 1 477 ["self"] (qz):=by
 refine T.o1 "Hands.__init__" j0 λcdv A' outer s' H vs Q E hr h=>?_;obtain⟨m,dx,rfl,hm,k⟩:=h;refine#[_,(ai (bo (pv 0) (cb wM (cC (aa bu ah)) (ba (v:=.int 8) rfl T.xK #[_,rfl])) rfl)),?_];refine#[by show 1≤sizeLine;decide,λp hp=>#[p,8,_,rfl,rfl,ae,by decide,by decide,by show 1*8≤sizeLine;decide,λq hq=>?_]];have np:m≠p:=aj hm hp;have hm1:upd H p (.lst [.non]) m=some (.ins 543 dx []):=by rw[ab np];exact hm
 have nq:m≠q:=aj hm1 hq;have qp:q≠p:=λe=>by rw[e,ae]at hq;cases hq
 have hq0:H q=none:=by rw[ab qp]at hq;exact hq
 refine#[_,rfl,m,543,dx,[],rfl,(by rw[ab nq];exact hm1),T.aM,T.n,by decide,?_];refine k q _ (((But.upd hp).trans (But.upd hq)).trans But.self) hq0 ?_ ae;rw[ab (Oj nq),ae,KL]
noncomputable def j3:Sp:=λvs H Q _=>∃ m dx,vs=[.ref m]∧H m=some (.ins 660 dx [])∧∀ c H',But m H H'→H c=none→H' c=some (.lst (List.replicate 8 .non))→H' m=some (.ins 660 dx [("things_named",.ref c)])→Q .non H'
noncomputable abbrev iq:List Str:=["self"]
theorem hW:ao iq ["self"] (ag dj):=fsc
theorem cV(T:Txt w K mg):Ok P w K mg base 1 631 ["self"] (j3):=by
 refine T.o1 "NameTable.__init__" hW λcdv A' outer s' H vs Q E hr h=>?_;obtain⟨m,dx,rfl,hm,k⟩:=h;refine#[_,(ai (bo (pv 0) (cb wM (cC (aa bu ah)) (ba (v:=.int 8) rfl T.kP #[_,rfl])) rfl)),?_];refine#[by show 1≤sizeLine;decide,λp hp=>#[p,8,_,rfl,rfl,ae,by decide,by decide,by show 1*8≤sizeLine;decide,λq hq=>?_]];have np:m≠p:=aj hm hp;have hm1:upd H p (.lst [.non]) m=some (.ins 660 dx []):=by rw[ab np];exact hm
 have nq:m≠q:=aj hm1 hq;have qp:q≠p:=λe=>by rw[e,ae]at hq;cases hq
 have hq0:H q=none:=by rw[ab qp]at hq;exact hq
 refine#[_,rfl,m,660,dx,[],rfl,(by rw[ab nq];exact hm1),T.bB,T.n,by decide,?_];refine k q _ (((But.upd hp).trans (But.upd hq)).trans But.self) hq0 ?_ ae;rw[ab (Oj nq),ae,KL]
noncomputable def vM:Sp:=λvs H Q E=>∃ hd hdx hl xs ws,∃ h:Int,vs=[.ref hd,.int h]∧Hn H hd hdx hl xs ws∧Sm h∧(match wat ws h with|some wd=>∀ v,xs[h.toNat]?=some v→WV H v wd→Q v H|none=>Bad 65 H E)
noncomputable abbrev nF:List Str:=["self", "h"]
theorem lS:ao nF ["self", "h"] (ag g9):=fsc
theorem bQ(T:Txt w K mg):Ok P w K mg base 4 484 ["self", "h"] (vM):=by
 refine T.o2 "Hands.word_in" lS λcdv A' outer s' H vs Q E hr h=>?_;obtain⟨hd,hdx,hl,xs,ws,h,rfl,N,hb,k⟩:=h;refine#[_,(ak (aC ((bq T).c hr px (aa (pv 1) ah)))
  (ai (aB (aP dE (az (pv 0) rfl) (pv 1) (λ_ _=>rfl))))),?_]
 refine#[_,rfl,h,rfl,hb,?_];cases e:wat ws h with
 | none =>
  rw[if_neg (AD N.n e)];rw[e]at k;exact k
 | some wd =>
  obtain⟨h0,h1,_⟩:=eU e;obtain⟨v,hv,wv⟩:=N.at_ e;rw[if_pos #[h0,h1]];rw[e]at k;exact#[_,rfl,hd,543,hdx,_,.ref hl,rfl,N.i,T.aM,T.n,rfl,_,rfl,hl,xs,h,v,rfl,rfl,SqL.of N.l,qx h0 hv,k v hv wv]
noncomputable def xN:Sp:=λvs H Q E=>∃ hd hdx hl xs ws v,∃ h:Int,vs=[.ref hd,.int h,v]∧Hn H hd hdx hl xs ws∧Sm h∧(if 0≤h∧h<8 then Q .non (upd H hl (.lst (xs.set h.toNat v))) else Bad 65 H E)
noncomputable abbrev uh:List Str:=["self", "h", "word"]
theorem sr:ao uh ["self", "h", "word"] (ag mO):=fsc
theorem dP(T:Txt w K mg):Ok P w K mg base 4 498 ["self", "h", "word"] (xN):=by
 refine T.o3 "Hands.put" sr λcdv A' outer s' H vs Q E hr h=>?_;obtain⟨hd,hdx,hl,xs,ws,v,h,rfl,N,hb,k⟩:=h;refine#[_,(ak (aC ((bq T).c hr px (aa (pv 1) ah)))
  (ai (qk (pv 2) (qj (az (pv 0) rfl) (pv 1) set_list)))),?_]
 refine#[_,rfl,h,rfl,hb,?_];by_cases g:0≤h∧h<8
 ·rw[if_pos g]at k ⊢
  exact#[_,rfl,_,rfl,hd,543,hdx,_,.ref hl,rfl,N.i,T.aM,T.n,rfl,_,rfl,hl,xs,h,h.toNat,rfl,rfl,N.l,N.ix g,k]
 ·rw[if_neg g]at k ⊢
  exact k
noncomputable def AE:Sp:=λvs H Q E=>∃ hd hdx hl xs ws,∃ h g:Int,vs=[.ref hd,.int h,.int g]∧Hn H hd hdx hl xs ws∧Sm h∧Sm g∧(if 0≤h∧h<8 then(match wat ws g with|some wd=>∀ v,WV H v wd→Q .non (upd H hl (.lst (xs.set h.toNat v)))|none=>Bad 65 H E) else Bad 65 H E)
noncomputable abbrev su:List Str:=["self", "h", "g"]
theorem qA:ao su ["self", "h", "g"] (ag kI):=fsc
theorem qB(T:Txt w K mg):Ok P w K mg base 5 505 ["self", "h", "g"] (AE):=by
 refine T.o3 "Hands.copy" qA λcdv A' outer s' H vs Q E hr h=>?_;obtain⟨hd,hdx,hl,xs,ws,h,g,rfl,N,hb,hg,k⟩:=h;refine#[_,(ak (aC ((bq T).c hr px (aa (pv 1) ah)))
  (ai (qk ((bQ T).m T.aM hr (pv 0) px (aa (pv 2) ah)) (qj (az (pv 0) rfl) (pv 1) set_list)))),?_]
 refine#[_,rfl,h,rfl,hb,?_];by_cases c:0≤h∧h<8
 ·rw[if_pos c]at k ⊢
  refine#[_,rfl,hd,hdx,_,rfl,N.i,rfl,_,rfl,hd,hdx,hl,xs,ws,g,rfl,N,hg,?_];cases e:wat ws g with
  | none =>
   rw[e]at k;exact k
  | some wd =>
   rw[e]at k;exact λv hv wv=>#[_,rfl,hd,543,hdx,_,.ref hl,rfl,N.i,T.aM,T.n,rfl,_,rfl,hl,xs,h,h.toNat,rfl,rfl,N.l,N.ix c,k v wv]
 ·rw[if_neg c]at k ⊢
  exact k
noncomputable def vN:Sp:=λvs H Q E=>∃ hd hdx hl xs ws,∃ h x:Int,vs=[.ref hd,.int h,.int x]∧Hn H hd hdx hl xs ws∧Sm h∧Sm x∧(if 0≤h∧h<8 then(if Num x then ∀ t H',au H H'→H' t=some (.tup [.str "number",.int x])→Q .non (upd H' hl (.lst (xs.set h.toNat (.ref t)))) else Bad 122 H E) else Bad 65 H E)
noncomputable abbrev oq:List Str:=["self", "h", "x"]
theorem nG:ao oq ["self", "h", "x"] (ag iH):=fsc
theorem nH(T:Txt w K mg):Ok P w K mg base 5 512 ["self", "h", "x"] (vN):=by
 refine T.o3 "Hands.number" nG λcdv A' outer s' H vs Q E hr h=>?_;obtain⟨hd,hdx,hl,xs,ws,h,x,rfl,N,hb,hx,k⟩:=h;refine#[_,(ak (aC ((bq T).c hr px (aa (pv 1) ah)))
  (ai (qk ((nE T).c hr px (aa (pv 2) ah)) (qj (az (pv 0) rfl) (pv 1) set_list)))),?_]
 refine#[_,rfl,h,rfl,hb,?_];by_cases c:0≤h∧h<8
 ·rw[if_pos c]at k ⊢
  refine#[_,rfl,x,rfl,hx,?_];by_cases g:Num x
  ·rw[if_pos g]at k ⊢
   intro t H' sH ht;have N':=N.same sH;exact#[_,rfl,hd,543,hdx,_,.ref hl,rfl,N'.i,T.aM,T.n,rfl,_,rfl,hl,xs,h,h.toNat,rfl,rfl,N'.l,N'.ix c,k t H' sH ht]
  ·rw[if_neg g]at k ⊢
   exact k
 ·rw[if_neg c]at k ⊢
  exact k
noncomputable def AF:Sp:=λvs H Q E=>∃ hd hdx hl xs ws,∃ h:Int,vs=[.ref hd,.int h]∧Hn H hd hdx hl xs ws∧Sm h∧(match wat ws h with|some wd=>∀ H',au H H'→Q (.str wd.kind) H'|none=>Bad 65 H E)
noncomputable abbrev sv:List Str:=["self", "h", "kind"]
theorem jw:ao sv ["self", "h"] (ag kK):=fsc
theorem fN(T:Txt w K mg):Ok P w K mg base 5 519 ["self", "h"] (AF):=by
 refine T.o2 "Hands.kind" jw λcdv A' outer s' H vs Q E hr h=>?_;obtain⟨hd,hdx,hl,xs,ws,h,rfl,N,hb,k⟩:=h;refine#[_,(ak (aY (i:=2) jw.nd rfl (Or.inl rfl) ((pB T).c hr px (aa ((bQ T).m T.aM hr (pv 0) px (aa (pv 1) ah)) ah)))
  (ai (aB (eS (aH mI (pv 2) (bY (aa aw (aa aw ah))) (by with_unfolding_all rfl)) (pv 2) aw)))),?_]
 refine#[_,rfl,hd,hdx,_,rfl,N.i,rfl,_,rfl,hd,hdx,hl,xs,ws,h,rfl,N,hb,?_];cases e:wat ws h with
 | none =>
  rw[e]at k;exact k
 | some wd =>
  rw[e]at k;intro v hv wv;refine#[v,wd,rfl,wv,?_];cases wd with
  | no=>exact#[_,rfl,by show 2≤sizeLine;decide,λt ht=>#[t,_,rfl,.inr (SqT.of ae),rfl,rfl,_,rfl,bw (λ_=>#[_,rfl,k _ (au.upd ht)]) (λh=>absurd (by kernel_rfl) h)]]
  | num n=>exact#[_,rfl,by show 2≤sizeLine;decide,λt ht=>#[t,_,rfl,.inr (SqT.of ae),rfl,rfl,_,rfl,bw (λ_=>#[_,rfl,k _ (au.upd ht)]) (λh=>absurd (by kernel_rfl) h)]]
  | th n=>exact#[_,rfl,by show 2≤sizeLine;decide,λt ht=>#[t,_,rfl,.inr (SqT.of ae),rfl,rfl,_,rfl,bw (λh=>absurd h (OU.mp (by kernel_rfl))) (λ_=>k _ (au.upd ht))]]
noncomputable def AG:Sp:=λvs H Q E=>∃ hd hdx hl xs ws,∃ h:Int,vs=[.ref hd,.int h]∧Hn H hd hdx hl xs ws∧Sm h∧(match wat ws h with|some (.num x)=>∀ H',au H H'→Q (.int x) H'|_=>Bad 65 H E)
noncomputable abbrev qC:List Str:=["self", "h"]
theorem ot:ao qC ["self", "h"] (ag jn):=fsc
theorem ou(T:Txt w K mg):Ok P w K mg base 6 526 ["self", "h"] (AG):=by
 refine T.o2 "Hands.value" ot λcdv A' outer s' H vs Q E hr h=>?_;obtain⟨hd,hdx,hl,xs,ws,h,rfl,N,hb,k⟩:=h;refine#[_,(ak (a6 (aH qV ((fN T).m T.aM hr (pv 0) px (aa (pv 1) ah)) aw (aN _))
   (ai (b6 rfl eE ((aE T).e 65 hr px (aa (cI (aQ b5 (aQ (dM (pv 1)) (aQ b5 cH)))) ah))))
   aK)
  (ai (aB (aP aL (aP dE (az (pv 0) rfl) (pv 1) (λ_ _=>rfl)) aq (λ_ _=>rfl))))),?_]
 refine#[_,rfl,hd,hdx,_,rfl,N.i,rfl,_,rfl,hd,hdx,hl,xs,ws,h,rfl,N,hb,?_];cases e:wat ws h with
 | none =>
  rw[e]at k;exact k
 | some wd =>
  rw[e]at k;cases wd with
  | no=>exact λH1 s1=>#[rfl,_,rfl,bw (λ_=>#[_,rfl,h,rfl,hb,λy hy ea hea=>bh (T.ec 65) (λ_ q=>au.none s1 q) (Bad.same k s1) ea hea]) (λh=>absurd (by kernel_rfl) h)]
  | num n =>
   intro H1 s1;have N1:=N.same s1;obtain⟨v,hv,wv⟩:=N1.at_ e;obtain⟨h0,h1,_⟩:=eU e;obtain⟨t,rfl,ht⟩:=wv;exact#[rfl,_,rfl,bw (λh=>absurd h (OU.mp (by kernel_rfl))) (λ_=>#[_,rfl,hd,543,hdx,_,.ref hl,rfl,N1.i,T.aM,T.n,rfl,_,rfl,hl,xs,h,.ref t,rfl,rfl,SqL.of N1.l,qx h0 hv,t,_,1,.int n,rfl,rfl,SqT.of ht,rfl,k H1 s1])]
  | th n =>
   exact λH1 s1=>#[rfl,_,rfl,bw (λ_=>#[_,rfl,h,rfl,hb,λy hy ea hea=>bh (T.ec 65) (λ_ q=>au.none s1 q) (Bad.same k s1) ea hea]) (λh=>absurd (by kernel_rfl) h)]
noncomputable def sy:Sp:=λvs H Q E=>∃ hd hdx hl xs ws,∃ h:Int,vs=[.ref hd,.int h]∧Hn H hd hdx hl xs ws∧Sm h∧(match wat ws h with|some (.th x)=>∀ H',au H H'→Q (.int x) H'|_=>Bad 65 H E)
noncomputable abbrev j4:List Str:=["self", "h"]
theorem jB:ao j4 ["self", "h"] (ag eX):=fsc
theorem bG(T:Txt w K mg):Ok P w K mg base 6 540 ["self", "h"] (sy):=by
 refine T.o2 "Hands.thing_due" jB λcdv A' outer s' H vs Q E hr h=>?_;obtain⟨hd,hdx,hl,xs,ws,h,rfl,N,hb,k⟩:=h;refine#[_,(ak (a6 (aH qV ((fN T).m T.aM hr (pv 0) px (aa (pv 1) ah)) aw (aN _))
   (ai (b6 rfl eE ((aE T).e 65 hr px (aa (cI (aQ b5 (aQ (dM (pv 1)) (aQ b5 cH)))) ah))))
   aK)
  (ai (aB (aP aL (aP dE (az (pv 0) rfl) (pv 1) (λ_ _=>rfl)) aq (λ_ _=>rfl))))),?_]
 refine#[_,rfl,hd,hdx,_,rfl,N.i,rfl,_,rfl,hd,hdx,hl,xs,ws,h,rfl,N,hb,?_];cases e:wat ws h with
 | none =>
  rw[e]at k;exact k
 | some wd =>
  rw[e]at k;cases wd with
  | no=>exact λH1 s1=>#[rfl,_,rfl,bw (λ_=>#[_,rfl,h,rfl,hb,λy hy ea hea=>bh (T.ec 65) (λ_ q=>au.none s1 q) (Bad.same k s1) ea hea]) (λh=>absurd (by kernel_rfl) h)]
  | num n =>
   exact λH1 s1=>#[rfl,_,rfl,bw (λ_=>#[_,rfl,h,rfl,hb,λy hy ea hea=>bh (T.ec 65) (λ_ q=>au.none s1 q) (Bad.same k s1) ea hea]) (λh=>absurd (by kernel_rfl) h)]
  | th n =>
   intro H1 s1;have N1:=N.same s1;obtain⟨v,hv,wv⟩:=N1.at_ e;obtain⟨h0,h1,_⟩:=eU e;obtain⟨t,rfl,ht⟩:=wv;exact#[rfl,_,rfl,bw (λh=>absurd h (OU.mp (by kernel_rfl))) (λ_=>#[_,rfl,hd,543,hdx,_,.ref hl,rfl,N1.i,T.aM,T.n,rfl,_,rfl,hl,xs,h,.ref t,rfl,rfl,SqL.of N1.l,qx h0 hv,t,_,1,.int n,rfl,rfl,SqT.of ht,rfl,k H1 s1])]
noncomputable def AH:Sp:=λvs H Q E=>∃ hd hdx hl xs ws,∃ h g:Int,vs=[.ref hd,.int h,.int g]∧Hn H hd hdx hl xs ws∧Sm h∧Sm g∧(match wat ws h,wat ws g with|some a,some b=>Q (.bl (decide (a=b))) H|_,_=>Bad 65 H E)
noncomputable abbrev sA:List Str:=["self", "h", "g"]
theorem qD:ao sA ["self", "h", "g"] (ag kL):=fsc
theorem qE(T:Txt w K mg):Ok P w K mg base 5 533 ["self", "h", "g"] (AH):=by
 refine T.o3 "Hands.same" qD λcdv A' outer s' H vs Q E hr h=>?_;obtain⟨hd,hdx,hl,xs,ws,h,g,rfl,N,hb,hg,k⟩:=h;refine#[_,(ai (aB (cc (Fz (n:=1) (cY hr)) ((bQ T).m T.aM hr (pv 0) px (aa (pv 1) ah)) ((bQ T).m T.aM hr (pv 0) px (aa (pv 2) ah)) (aN _)))),?_];refine#[_,rfl,hd,hdx,_,rfl,N.i,rfl,_,rfl,hd,hdx,hl,xs,ws,h,rfl,N,hb,?_];cases e:wat ws h with
 | none =>
  rw[e]at k;exact k
 | some wd =>
  rw[e]at k;intro v hv wv;refine#[_,rfl,hd,hdx,_,rfl,N.i,rfl,_,rfl,hd,hdx,hl,xs,ws,g,rfl,N,hg,?_];cases e2:wat ws g with
  | none =>
   rw[e2]at k;exact k
  | some wd2 =>
   rw[e2]at k;intro v2 hv2 wv2;refine#[wd.vl,wd2.vl,wv.rp,wv2.rp,?_];rw[JE];exact k
noncomputable def sC:Sp:=λvs H Q E=>∃ hd hdx hl xs ws,vs=[.ref hd]∧Hn H hd hdx hl xs ws∧∀ p H',au H H'→H p=none→H' p=some (.lst xs)→Q (.ref p) H'
noncomputable abbrev j5:List Str:=["self"]
theorem jC:ao j5 ["self"] (ag eW):=fsc
theorem jD(T:Txt w K mg):Ok P w K mg base 1 491 ["self"] (sC):=by
 refine T.o1 "Hands.all_words" jC λcdv A' outer s' H vs Q E hr h=>?_;obtain⟨hd,hdx,hl,xs,ws,rfl,N,k⟩:=h;refine#[_,(ai (aB (cj gQ rfl T.z PyProof.Rows.Boot.«list» (aa (az (pv 0) rfl) ah)))),?_];exact#[_,rfl,hd,543,hdx,_,.ref hl,rfl,N.i,T.aM,T.n,rfl,hl,xs,rfl,.inl (SqL.of N.l),λp hp=>k p _ (au.upd hp) hp ae]
noncomputable def AI:Sp:=λvs H Q E=>∃ nt ntx nl xs v,∃ w:Int,vs=[.ref nt,.int w,v]∧Nt H nt ntx nl xs∧Sm w∧(if 0≤w∧w<8 then Q .non (upd H nl (.lst (xs.set w.toNat v))) else Bad 84 H E)
noncomputable abbrev lT:List Str:=["self", "w", "t"]
theorem j6:ao lT ["self", "w", "t"] (ag fZ):=fsc
theorem j7(T:Txt w K mg):Ok P w K mg base 4 638 ["self", "w", "t"] (AI):=by
 refine T.o3 "NameTable.name" j6 λcdv A' outer s' H vs Q E hr h=>?_;obtain⟨nt,ntx,nl,xs,v,w,rfl,N,hb,k⟩:=h;refine#[_,(ak (aC ((hJ T).c hr px (aa (pv 1) ah)))
  (ai (qk (pv 2) (qj (az (pv 0) rfl) (pv 1) set_list)))),?_]
 refine#[_,rfl,w,rfl,hb,?_];by_cases g:0≤w∧w<8
 ·rw[if_pos g]at k ⊢
  exact#[_,rfl,_,rfl,nt,660,ntx,_,.ref nl,rfl,N.i,T.bB,T.n,rfl,_,rfl,nl,xs,w,w.toNat,rfl,rfl,N.l,CM g.1 (by rw[N.n];exact g.2),k]
 ·rw[if_neg g]at k ⊢
  exact k
noncomputable def AJ:Sp:=λvs H Q E=>∃ nt ntx nl xs,∃ w:Int,vs=[.ref nt,.int w]∧Nt H nt ntx nl xs∧Sm w∧(if 0≤w∧w<8 then ∀ v,xs[w.toNat]?=some v→Q v H else Bad 84 H E)
noncomputable abbrev j8:List Str:=["self", "w"]
theorem jE:ao j8 ["self", "w"] (ag eY):=fsc
theorem jG(T:Txt w K mg):Ok P w K mg base 4 645 ["self", "w"] (AJ):=by
 refine T.o2 "NameTable.named" jE λcdv A' outer s' H vs Q E hr h=>?_;obtain⟨nt,ntx,nl,xs,w,rfl,N,hb,k⟩:=h;refine#[_,(ak (aC ((hJ T).c hr px (aa (pv 1) ah)))
  (ai (aB (aP dE (az (pv 0) rfl) (pv 1) (λ_ _=>rfl))))),?_]
 refine#[_,rfl,w,rfl,hb,?_];by_cases g:0≤w∧w<8
 ·rw[if_pos g]at k ⊢
  have hv:xs[w.toNat]?=some (xs[w.toNat]'(by rw[N.n];omega)):=NJ _;exact#[_,rfl,nt,660,ntx,_,.ref nl,rfl,N.i,T.bB,T.n,rfl,_,rfl,nl,xs,w,_,rfl,rfl,SqL.of N.l,qx g.1 hv,k _ hv]
 ·rw[if_neg g]at k ⊢
  exact k
noncomputable def j9:Sp:=λvs H Q _=>∃ m dx,vs=[.ref m]∧H m=some (.ins 606 dx [])∧∀ b c H',But m H H'→H b=none→H c=none→Wt H' m dx b c [] []→Q .non H'
noncomputable abbrev ir:List Str:=["self"]
theorem hX:ao ir ["self"] (ag di):=fsc
theorem cW(T:Txt w K mg):Ok P w K mg base 1 561 ["self"] (j9):=by
 refine T.o1 "WordTable.__init__" hX λcdv A' outer s' H vs Q E hr h=>?_;obtain⟨m,dx,rfl,hm,k⟩:=h;refine#[_,(ak (bo (pv 0) cA rfl)
  (ai (bo (pv 0) (cC ah) rfl))),?_]
 intro p hp;have np:m≠p:=aj hm hp;refine#[_,rfl,m,606,dx,[],rfl,(by rw[ab np];exact hm),T.aR,T.n,by decide,?_];refine#[by show 0≤sizeLine;decide,λq hq=>?_];have nq:m≠q:=aj ae hq;have qp:q≠p:=λe=>by rw[e,ab (Oj np),ae]at hq;cases hq
 have hq0:H q=none:=by rw[ab (Oj nq),ab qp]at hq;exact hq
 refine#[_,rfl,m,606,dx,_,rfl,(by rw[ab nq];exact ae),T.aR,T.n,by show 1<1000;decide,?_];refine k p q _ ((((But.upd hp).trans But.self).trans (λb u n h=>by rw[ab λe=>by rw[e]at h;rw[h]at hq;cases hq];exact h)).trans But.self) hp hq0 #[ae,?_,?_]
 ·rw[ab (Oj np),ab (Oj qp),ab (Oj np),ae]
  rfl
 ·rw[ab (Oj nq),ae]
  rfl
noncomputable def Dz:Sp:=λvs H Q E=>∃ wt wtx wb wl bs zs,∃ t x:Int,vs=[.ref wt,.int t,.int x]∧Wt H wt wtx wb wl bs zs∧bs.length≤12∧(if bs.lookup t=none∧12≤bs.length then Bad 160 H E else Q .non (upd H wb (.dK ((pE bs t x).map bkv))))
noncomputable abbrev lU:List Str:=["self", "t", "x"]
theorem ka:ao lU ["self", "t", "x"] (ag fX):=fsc
theorem kb(T:Txt w K mg):Ok P w K mg base 3 568 ["self", "t", "x"] (Dz):=by
 refine T.o3 "WordTable.bear" ka λcdv A' outer s' H vs Q E hr h=>?_;obtain⟨wt,wtx,wb,wl,bs,zs,t,x,rfl,N,hn,k⟩:=h;have hu:=cY hr;refine#[_,(ak (a6 (PW.pt (pw_and (jf (eD hu (pv 1) (az (pv 0) rfl)) (by with_unfolding_all rfl)) (pw_and1 (aH Ek (aX yC rfl T.z PyProof.Rows.Boot.«len» (aa (az (pv 0) rfl) ah)) (ba (v:=.int 12) rfl T.iK #[_,rfl]) (aN _)))))
   (ai (b6 rfl eE ((aE T).e 160 hr px (aa (cI (aQ (dM (ba (v:=.int 12) rfl T.iK #[_,rfl])) (aQ b5 cH))) ah))))
   aK)
  (ai (eN hu (az (pv 0) rfl) (pv 1) (pv 2) rfl))),?_]
 have hu:=cY hr;refine#[_,rfl,_,rfl,wt,606,wtx,_,.ref wb,rfl,N.i,T.aR,T.n,rfl,wb,_,rfl,iI.k (k:=Sum.inl t) N.b,_,rfl,?_];rw[IM,O7];cases e:bs.lookup t with
 | some v =>
  rw[if_neg (λz=>by rw[e]at z;cases z.1)]at k;exact b7 #[_,rfl,_,rfl,wt,606,wtx,_,.ref wb,rfl,N.i,T.aR,T.n,rfl,_,rfl,wb,_,rfl,pd.k (k:=Sum.inl t) N.b (by rw[NI];exact Ow hn (by decide)),by rw[u7]at k;exact k]
 | none =>
  refine cZ #[_,rfl,wt,606,wtx,_,.ref wb,rfl,N.i,T.aR,T.n,rfl,wb,_,rfl,N.b,_,_,rfl,rfl,_,rfl,bw (λh=>?_) (λh=>?_)]
  ·rw[NI]at h
   have h:=of_decide_eq_true h;rw[if_pos #[e,by omega]]at k;exact#[12,rfl,Sm.of (by decide) (by decide),λy hy ea hea=>bh (T.ec 160) (λ_ q=>q) k ea hea]
  ·rw[NI]at h
   have h:¬((12:Int)≤(bs.length:Int)):=λz=>h (decide_eq_true z);rw[if_neg (λz=>h (by have:=z.2;omega))]at k;exact#[_,rfl,_,rfl,wt,606,wtx,_,.ref wb,rfl,N.i,T.aR,T.n,rfl,_,rfl,wb,_,rfl,pd.k (k:=Sum.inl t) N.b (by rw[NI];exact Ow hn (by decide)),by rw[u7]at k;exact k]
noncomputable def DA:Sp:=λvs H Q E=>∃ wt wtx wb wl bs zs,vs=[.ref wt]∧Wt H wt wtx wb wl bs zs∧(match zs with|[]=>Q .non H|z::r=>Q (.int z) (upd H wl (.lst (r.map V.int))))
noncomputable abbrev lV:List Str:=["self"]
theorem kc:ao lV ["self"] (ag fY):=fsc
theorem ke(T:Txt w K mg):Ok P w K mg base 1 596 ["self"] (DA):=by
 refine T.o1 "WordTable.take" kc λcdv A' outer s' H vs Q E hr h=>?_;obtain⟨wt,wtx,wb,wl,bs,zs,rfl,N,k⟩:=h;refine#[_,(ak (a6 (aH dB (aX aT rfl T.z PyProof.Rows.Boot.«len» (aa (az (pv 0) rfl) ah)) aq (aN _))
   (ai (aB bu))
   aK)
  (ai (aB (m8 PySem.F.plainAttrs_list PySem.F.slot_list_pop PySem.F.type_list_pop Af (az (pv 0) rfl) (aa aq ah))))),?_]
 refine#[_,rfl,wt,606,wtx,_,.ref wl,rfl,N.i,T.aR,T.n,rfl,wl,_,rfl,.inl (SqL.of N.l),rfl,_,rfl,?_];cases zs with
 | nil=>exact bw (λ_=>k) (λh=>absurd (by rfl) h)
 | cons z r =>
  refine bw (λh=>absurd h ?_) (λ_=>#[_,rfl,wt,606,wtx,_,.ref wl,rfl,N.i,T.aR,T.n,rfl,.inl #[rfl,_,SqL.of N.l],wl,_,0,0,.int z,rfl,rfl,N.l,by decide,by decide,?_,rfl,k])
  ·have:=of_decide_eq_true h
   injection this with this;simp at this;omega
  ·unfold seqIndex?
   simp
end
section
variable{P:Program}{w:World}{K:W.Frag}{mg:Str→Option Value}{base:Heap}
noncomputable def fld(s:HS)(t:Int):List Wd:=(s.aI.lookup t).getD []
structure Good(s:HS):Prop where
 h8:s.aG.length=8
 n8:s.names.length=8
 asc:(s.aI.map (·.1)).Pairwise (·< ·)
 lt:∀ t ws,(t,ws)∈s.aI→0≤t∧t<s.nxt
 f6:∀ t ws,(t,ws)∈s.aI→ws.length≤6
 hh:∀ t,Wd.th t∈s.aG→∃ ws,(t,ws)∈s.aI
 ff:∀ u ws t,(u,ws)∈s.aI→Wd.th t∈ws→∃ ws',(t,ws')∈s.aI
 nn:∀ t,some t∈s.names→∃ ws,(t,ws)∈s.aI
 b12:s.aS.length≤12
 bk:∀ t x,(t,x)∈s.aS→∃ ws,(t,ws)∈s.aI
 bnd:(s.aS.map (·.1)).Nodup
 n0:0≤s.nxt
 nx:s.nxt≤10000
 sd:(s.aV.length:Int)+s.aI.length≤s.nxt
 yk:∀ t∈s.yng,∃ ws,(t,ws)∈s.aI
 nZ:s.yng.Pairwise (·< ·)
 dk:∀ t∈s.bj,∃ ws,(t,ws)∈s.aI
 qF:s.bj.Pairwise (·< ·)
theorem mem_lookup{α:Type}{fs:List (Int×α)}{t:Int}{w:α}(asc:(fs.map (·.1)).Nodup)(m:(t,w)∈fs):fs.lookup t=some w:=by
 induction fs with
 | nil=>cases m
 | cons p r ih =>
  obtain⟨a,b⟩:=p;rw[Oo,Pa]at asc;rw[O2];rcases NY.mp m with e|m
  ·cases e
   rw[beq_self_eq_true]
  ·have ne:t≠a:=λe=>asc.1 (by rw[←e];exact Og.mpr #[_,m,rfl])
   rw[beq_eq_false_iff_ne.mpr ne];exact ih asc.2 m
theorem jc{l:List Int}(h:l.Pairwise (·< ·)):l.Nodup:=h.imp λh=>Int.ne_of_lt h
theorem Good.get{s:HS}(g:Good s){t:Int}{ws:List Wd}(m:(t,ws)∈s.aI):s.aI.lookup t=some ws:=mem_lookup (jc g.asc) m
theorem Good.fld{s:HS}(g:Good s){t:Int}{ws:List Wd}(m:(t,ws)∈s.aI):fld s t=ws:=by unfold K27.fld;rw[g.get m];rfl
theorem Good.hand{s:HS}(g:Good s){h t:Int}(e:wat s.aG h=some (.th t)):(t,K27.fld s t)∈s.aI:=by
 obtain⟨_,_,e⟩:=eU e;obtain⟨ws,m⟩:=g.hh t (Of e);rw[g.fld m];exact m
theorem Good.few{s:HS}(g:Good s):s.aI.length≤10000:=by
 have:=g.sd
 have:=g.nx
 omega
theorem k6{n:Nat}(h:n≤20000):n<sizeLine:=Ow h (by decide)
theorem qG{n:Nat}(h:n≤20000):n≤sizeLine:=PZ (k6 h)
inductive Er where
 | hand|name|field|count|room|words|on|no
noncomputable def erA:Er→Addr
 | .hand=>65
 | .name=>84
 | .field=>103
 | .count=>122
 | .room=>141
 | .words=>160
 | .on=>45
 | .no=>45
noncomputable abbrev Re:=Option Er×HS
noncomputable def Fin(x:Addr)(A:HA)(s:HS)(H:Hp)(r:Re)(Q:VK)(E:XK):Prop:=∀ A' H',IH H' x A' r.2→Fr (aO x A s) H (aO x A' r.2) H'→(match r.1 with|none=>Q .non H'|some e=>E (.ref (erA e)) none H')
theorem Fin.bad{x:Addr}{A:HA}{s:HS}{H:Hp}{e:Er}{Q:VK}{E:XK}(k:Fin x A s H (some e,s) Q E)(J:IH H x A s):Bad (erA e) H E:=λH' s'=>k A H' (J.same s') (Fr.same s')
noncomputable abbrev ok8(h:Int):Prop:=0≤h∧h<8
noncomputable def fO(s:HS)(h:Int)(w:Wd):HS:={s with aG:=s.aG.set h.toNat w}
noncomputable def cn(s:HS)(h g k:Int):Re:=if ok8 h then(match wat s.aG g with|some (.th t)=>if 0≤k∧k<((fld s t).length:Int) then(none,fO s h ((fld s t).getD k.toNat .no)) else(some .field,s)|_=>(some .hand,s)) else(some .hand,s)
noncomputable def bN(s:HS)(g k h:Int):Re:=match wat s.aG g with|some (.th t)=>(match wat s.aG h with|some w=>if 0≤k∧k<((fld s t).length:Int) then(none,{s with aI:=fL s.aI t ((fld s t).set k.toNat w)}) else(some .field,s)|none=>(some .hand,s))|_=>(some .hand,s)
noncomputable def fG(s:HS)(h g:Int):Re:=if ok8 h then(match wat s.aG g with|some w=>(none,fO s h w)|none=>(some .hand,s)) else(some .hand,s)
noncomputable def eP(s:HS)(h:Int):Re:=if ok8 h then(none,fO s h .no) else(some .hand,s)
noncomputable def aU(s:HS)(h x:Int):Re:=if ok8 h then(if Num x then(none,fO s h (.num x)) else(some .count,s)) else(some .hand,s)
noncomputable def dr(s:HS)(w h:Int):Re:=match wat s.aG h with|some (.th t)=>if ok8 w then(none,{s with names:=s.names.set w.toNat (some t)}) else(some .name,s)|_=>(some .hand,s)
noncomputable def nmW:Option Int→Wd
 | none=>.no
 | some t=>.th t
noncomputable def cB(s:HS)(h x:Int):Re:=match wat s.aG h with|some (.th t)=>(if Num x then(if s.aS.lookup t=none∧12≤s.aS.length then(some .words,s) else(none,{s with aS:=pE s.aS t x})) else(some .count,s))|_=>(some .hand,s)
noncomputable def vO(s:HS)(h n:Int):HS:={s with nxt:=s.nxt+1,aI:=s.aI++[(s.nxt,List.replicate n.toNat .no)],yng:=if s.my=true then s.yng++[s.nxt] else s.yng,aG:=s.aG.set h.toNat (.th s.nxt)}
noncomputable def wsum(s:HS)(ts:List Int):Int:=(ts.map λt=>((fld s t).length:Int)+1).sum
section
variable{H:Hp}{x:Addr}{A:HA}{s:HS}
theorem IH.hn(J:IH H x A s)(g:Good s):Hn H A.hd A.hdx A.hl A.hx s.aG:=#[J.ahd,J.ahl,J.rhl,g.h8]
theorem IH.ntb(J:IH H x A s)(g:Good s):Nt H A.nt A.ntx A.nl (s.names.map nmV):=#[J.ant,J.anl,by rw[NI];exact g.n8]
theorem IH.wtb(J:IH H x A s):Wt H A.wt A.wtx A.wb A.wl s.aS s.aV:=#[J.awt,J.awb,J.awl]
theorem BJ{A:HA}{fs:List (Int×List Wd)}{t:Int}:bU (fs.map (fkv A)) (Sum.inl t)=(fs.lookup t).map λ_=>V.ref (A.fa t):=pD λ_=>rfl
theorem IH.IP(J:IH H x A s)(g:Good s){t:Int}{ws:List Wd}(m:(t,ws)∈s.aI):iI H A.fh (.int t) (some (.ref (A.fa t))):=by
 have:=iI.k (k:=Sum.inl t) J.afh
 rw[BJ,g.get m]at this;exact this
end
noncomputable def DB:Sp:=λvs H Q E=>∃ x A s,∃ h g:Int,vs=[.ref x,.int h,.int g]∧IH H x A s∧Good s∧Sm h∧Sm g∧Fin x A s H (fG s h g) Q E
noncomputable abbrev ui:List Str:=["self", "h", "g"]
theorem sD:ao ui ["self", "h", "g"] (ag mQ):=fsc
theorem sE(T:Txt w K mg):Ok P w K mg base 6 706 ["self", "h", "g"] (DB):=by
 refine T.o3 "Heap.copy" sD λcdv A' outer s' H vs Q E hr h=>?_;obtain⟨x,A,s,h,g,rfl,J,G,hh,hg,k⟩:=h;refine#[_,(ai (aC ((qB T).m T.aM hr (az (pv 0) rfl) px (aa (pv 1) (aa (pv 2) ah))))),?_];refine#[_,rfl,x,969,_,_,.ref A.hd,rfl,J.ax,T.af,T.n,eO,A.hd,A.hdx,_,rfl,J.ahd,rfl,_,rfl,_,rfl,A.hd,A.hdx,A.hl,A.hx,s.aG,h,g,rfl,J.hn G,hh,hg,?_];by_cases c:ok8 h
 ·rw[if_pos c]
  cases e:wat s.aG g with
  | none =>
   rw[show fG s h g=(some .hand,s) by simp only[fG,if_pos c,e]]at k;exact k.bad J
  | some wd =>
   rw[show fG s h g=(none,fO s h wd) by simp only[fG,if_pos c,e]]at k;exact λv wv=>let w:=J.z8 (J.rhl.set (i:=h.toNat) wv);k _ _ w.1 w.2
 ·rw[if_neg c]
  rw[show fG s h g=(some .hand,s) by simp only[fG,if_neg c]]at k;exact k.bad J
noncomputable def DC:Sp:=λvs H Q E=>∃ x A s,∃ h:Int,vs=[.ref x,.int h]∧IH H x A s∧Good s∧Sm h∧Fin x A s H (eP s h) Q E
noncomputable abbrev uj:List Str:=["self", "h"]
theorem sF:ao uj ["self", "h"] (ag mS):=fsc
theorem kS(T:Txt w K mg):Ok P w K mg base 5 713 ["self", "h"] (DC):=by
 refine T.o2 "Heap.drop" sF λcdv A' outer s' H vs Q E hr h=>?_;obtain⟨x,A,s,h,rfl,J,G,hh,k⟩:=h;refine#[_,(ai (aC ((dP T).m T.aM hr (az (pv 0) rfl) px (aa (pv 1) (aa bu ah))))),?_];refine#[_,rfl,x,969,_,_,.ref A.hd,rfl,J.ax,T.af,T.n,eO,A.hd,A.hdx,_,rfl,J.ahd,rfl,_,rfl,A.hd,A.hdx,A.hl,A.hx,s.aG,.non,h,rfl,J.hn G,hh,?_];by_cases c:ok8 h
 ·rw[if_pos c]
  rw[show eP s h=(none,fO s h .no) by simp only[eP,if_pos c]]at k;exact let w:=J.z8 (J.rhl.set (i:=h.toNat) (show WV H .non .no from rfl));k _ _ w.1 w.2
 ·rw[if_neg c]
  rw[show eP s h=(some .hand,s) by simp only[eP,if_neg c]]at k;exact k.bad J
noncomputable def yX:Sp:=λvs H Q E=>∃ x A s,∃ h z:Int,vs=[.ref x,.int h,.int z]∧IH H x A s∧Good s∧Sm h∧Sm z∧Fin x A s H (aU s h z) Q E
noncomputable abbrev qH:List Str:=["self", "h", "x"]
theorem ow:ao qH ["self", "h", "x"] (ag jo):=fsc
theorem b9(T:Txt w K mg):Ok P w K mg base 6 720 ["self", "h", "x"] (yX):=by
 refine T.o3 "Heap.number" ow λcdv A' outer s' H vs Q E hr h=>?_;obtain⟨x,A,s,h,z,rfl,J,G,hh,hz,k⟩:=h;refine#[_,(ai (aC ((nH T).m T.aM hr (az (pv 0) rfl) px (aa (pv 1) (aa (pv 2) ah))))),?_];refine#[_,rfl,x,969,_,_,.ref A.hd,rfl,J.ax,T.af,T.n,eO,A.hd,A.hdx,_,rfl,J.ahd,rfl,_,rfl,_,rfl,A.hd,A.hdx,A.hl,A.hx,s.aG,h,z,rfl,J.hn G,hh,hz,?_];by_cases c:ok8 h
 ·rw[if_pos c]
  by_cases g:Num z
  ·rw[if_pos g]
   rw[show aU s h z=(none,fO s h (.num z)) by simp only[aU,if_pos c,if_pos g]]at k;exact λt H1 s1 ht=>let J1:=J.same s1;let w:=J1.z8 (J1.rhl.set (i:=h.toNat) (show WV H1 (.ref t) (.num z) from#[t,rfl,ht]));k _ _ w.1 ((Fr.same s1).trans w.2)
  ·rw[if_neg g]
   rw[show aU s h z=(some .count,s) by simp only[aU,if_pos c,if_neg g]]at k;exact k.bad J
 ·rw[if_neg c]
  rw[show aU s h z=(some .hand,s) by simp only[aU,if_neg c]]at k;exact k.bad J
noncomputable def DD:Sp:=λvs H Q E=>∃ x A s,∃ w h:Int,vs=[.ref x,.int w,.int h]∧IH H x A s∧Good s∧Sm w∧Sm h∧Fin x A s H (dr s w h) Q E
noncomputable abbrev uk:List Str:=["self", "w", "h", "t"]
theorem kT:ao uk ["self", "w", "h"] (ag mT):=fsc
theorem sG(T:Txt w K mg):Ok P w K mg base 7 727 ["self", "w", "h"] (DD):=by
 refine T.o3 "Heap.name" kT λcdv A' outer s' H vs Q E hr h=>?_;obtain⟨x,A,s,w,h,rfl,J,G,hw,hh,k⟩:=h;refine#[_,(ak (aY (i:=3) kT.nd rfl (Or.inl rfl) ((bG T).m T.aM hr (az (pv 0) rfl) px (aa (pv 2) ah)))
  (ai (aC ((j7 T).m T.bB hr (az (pv 0) rfl) px (aa (pv 1) (aa (pv 3) ah)))))),?_]
 refine#[_,rfl,x,969,_,_,.ref A.hd,rfl,J.ax,T.af,T.n,eO,A.hd,A.hdx,_,rfl,J.ahd,rfl,_,rfl,A.hd,A.hdx,A.hl,A.hx,s.aG,h,rfl,J.hn G,hh,?_];cases e:wat s.aG h with
 | none =>
  rw[show dr s w h=(some .hand,s) by simp only[dr,e]]at k;exact k.bad J
 | some wd =>
  cases wd with
  | no =>
   rw[show dr s w h=(some .hand,s) by simp only[dr,e]]at k;exact k.bad J
  | num n =>
   rw[show dr s w h=(some .hand,s) by simp only[dr,e]]at k;exact k.bad J
  | th t =>
   intro H1 s1;have J1:=J.same s1;refine#[_,rfl,x,969,_,_,.ref A.nt,rfl,J1.ax,T.af,T.n,CJ,A.nt,A.ntx,_,rfl,J1.ant,rfl,_,rfl,_,rfl,A.nt,A.ntx,A.nl,_,.int t,w,rfl,J1.ntb G,hw,?_];by_cases c:ok8 w
   ·rw[if_pos c]
    rw[show dr s w h=(none,{s with names:=s.names.set w.toNat (some t)}) by simp only[dr,e,if_pos c]]at k;have w1:=J1.ML (ns:=s.names.set w.toNat (some t));rw[List.map_set]at w1;exact k _ _ w1.1 ((Fr.same s1).trans w1.2)
   ·rw[if_neg c]
    rw[show dr s w h=(some .name,s) by simp only[dr,e,if_neg c]]at k;exact Bad.same (k.bad J) s1
noncomputable def DE:Sp:=λvs H Q E=>∃ x A s,∃ h z:Int,vs=[.ref x,.int h,.int z]∧IH H x A s∧Good s∧Sm h∧Sm z∧Fin x A s H (cB s h z) Q E
noncomputable abbrev um:List Str:=["self", "h", "x", "t"]
theorem kU:ao um ["self", "h", "x"] (ag mU):=fsc
theorem sI(T:Txt w K mg):Ok P w K mg base 7 741 ["self", "h", "x"] (DE):=by
 refine T.o3 "Heap.word" kU λcdv A' outer s' H vs Q E hr h=>?_;obtain⟨x,A,s,h,z,rfl,J,G,hh,hz,k⟩:=h;refine#[_,(ak (aY (i:=3) kU.nd rfl (Or.inl rfl) ((bG T).m T.aM hr (az (pv 0) rfl) px (aa (pv 1) ah)))
  (ak (aC ((fu T).c hr px (aa (pv 2) ah)))
  (ai (aC ((kb T).m T.aR hr (az (pv 0) rfl) px (aa (pv 3) (aa (pv 2) ah))))))),?_]
 refine#[_,rfl,x,969,_,_,.ref A.hd,rfl,J.ax,T.af,T.n,eO,A.hd,A.hdx,_,rfl,J.ahd,rfl,_,rfl,A.hd,A.hdx,A.hl,A.hx,s.aG,h,rfl,J.hn G,hh,?_];cases e:wat s.aG h with
 | none =>
  rw[show cB s h z=(some .hand,s) by simp only[cB,e]]at k;exact k.bad J
 | some wd =>
  cases wd with
  | no =>
   rw[show cB s h z=(some .hand,s) by simp only[cB,e]]at k;exact k.bad J
  | num n =>
   rw[show cB s h z=(some .hand,s) by simp only[cB,e]]at k;exact k.bad J
  | th t =>
   intro H1 s1;have J1:=J.same s1;refine#[_,rfl,z,rfl,hz,?_];by_cases g:Num z
   ·rw[if_pos g]
    refine#[_,rfl,x,969,_,_,.ref A.wt,rfl,J1.ax,T.af,T.n,CK,A.wt,A.wtx,_,rfl,J1.awt,rfl,_,rfl,_,rfl,A.wt,A.wtx,A.wb,A.wl,s.aS,s.aV,t,z,rfl,J1.wtb,G.b12,?_];by_cases c:s.aS.lookup t=none∧12≤s.aS.length
    ·rw[if_pos c]
     rw[show cB s h z=(some .words,s) by simp only[cB,e,if_pos g,if_pos c]]at k;exact Bad.same (k.bad J) s1
    ·rw[if_neg c]
     rw[show cB s h z=(none,{s with aS:=pE s.aS t z}) by simp only[cB,e,if_pos g,if_neg c]]at k;have w1:=J1.KI (bs:=pE s.aS t z);exact k _ _ w1.1 ((Fr.same s1).trans w1.2)
   ·rw[if_neg g]
    rw[show cB s h z=(some .count,s) by simp only[cB,e,if_neg g]]at k;exact Bad.same (k.bad J) s1
noncomputable def DF:Sp:=λvs H Q E=>∃ x A s,∃ h g kk:Int,vs=[.ref x,.int h,.int g,.int kk]∧IH H x A s∧Good s∧Sm h∧Sm g∧Sm kk∧Fin x A s H (cn s h g kk) Q E
noncomputable abbrev uo:List Str:=["self", "h", "g", "k", "fields"]
theorem kX:ao uo ["self", "h", "g", "k"] (ag mP):=fsc
theorem sJ(T:Txt w K mg):Ok P w K mg base 7 692 ["self", "h", "g", "k"] (DF):=by
 refine T.o4 "Heap.load" kX λcdv A' outer s' H vs Q E hr h=>?_;obtain⟨x,A,s,h,g,kk,rfl,J,G,hh,hg,hk,k⟩:=h;have hu:=cY hr;refine#[_,(ak (aC ((bq T).c hr px (aa (pv 1) ah)))
  (ak (aY (i:=4) kX.nd rfl (Or.inl rfl) (gk hu (az (pv 0) rfl) ((bG T).m T.aM hr (az (pv 0) rfl) px (aa (pv 2) ah)) (λ_ _=>rfl)))
  (ak (aC ((gq T).c hr px (aa (pv 3) (aa (aX aT rfl T.z PyProof.Rows.Boot.«len» (aa (pv 4) ah)) ah))))
  (ai (aC ((dP T).m T.aM hr (az (pv 0) rfl) px (aa (pv 1) (aa (aP dE (pv 4) (pv 3) (λ_ _=>rfl)) ah)))))))),?_]
 refine#[_,rfl,h,rfl,hh,?_];by_cases c:ok8 h
 ·rw[if_pos c]
  refine#[_,rfl,x,969,_,_,.ref A.fh,rfl,J.ax,T.af,T.n,lj,_,rfl,x,969,_,_,.ref A.hd,rfl,J.ax,T.af,T.n,eO,A.hd,A.hdx,_,rfl,J.ahd,rfl,_,rfl,A.hd,A.hdx,A.hl,A.hx,s.aG,g,rfl,J.hn G,hg,?_];cases e:wat s.aG g with
  | none =>
   rw[show cn s h g kk=(some .hand,s) by simp only[cn,e,if_pos c]]at k;exact k.bad J
  | some wd =>
   cases wd with
   | no =>
    rw[show cn s h g kk=(some .hand,s) by simp only[cn,e,if_pos c]]at k;exact k.bad J
   | num n =>
    rw[show cn s h g kk=(some .hand,s) by simp only[cn,e,if_pos c]]at k;exact k.bad J
   | th t =>
    intro H1 s1;have J1:=J.same s1;have m:=G.hand e;obtain⟨hl,rl⟩:=J1.afl _ _ m;refine#[A.fh,_,rfl,J1.IP G m,?_];have f6:=G.f6 _ _ m;have ln:((A.fx t).length:Int)=(fld s t).length:=(by rw[rl.1]);refine#[_,rfl,_,rfl,A.fa t,_,rfl,.inl (SqL.of hl),kk,_,rfl,hk,Sm.of (by omega) (by omega),?_];rw[ln];by_cases c2:0≤kk∧kk<((fld s t).length:Int)
    ·rw[if_pos c2]
     rw[show cn s h g kk=(none,fO s h ((fld s t).getD kk.toNat .no)) by simp only[cn,if_pos c,e,if_pos c2]]at k;have hi:kk.toNat<(fld s t).length:=(by omega);obtain⟨v,hv,wv⟩:=rl.get hi;have gd:(fld s t).getD kk.toNat .no=(fld s t)[kk.toNat]:=(by simp[List.getD,hi]);rw[gd]at k;refine#[_,rfl,x,969,_,_,.ref A.hd,rfl,J1.ax,T.af,T.n,eO,A.hd,A.hdx,_,rfl,J1.ahd,rfl,_,rfl,_,rfl,_,rfl,A.fa t,_,kk,v,rfl,rfl,SqL.of hl,qx c2.1 hv,A.hd,A.hdx,A.hl,A.hx,s.aG,v,h,rfl,J1.hn G,hh,?_];rw[if_pos c];exact let w:=J1.z8 (J1.rhl.set (i:=h.toNat) wv);k _ _ w.1 ((Fr.same s1).trans w.2)
    ·rw[if_neg c2]
     rw[show cn s h g kk=(some .field,s) by simp only[cn,if_pos c,e,if_neg c2]]at k;exact Bad.same (k.bad J) s1
 ·rw[if_neg c]
  rw[show cn s h g kk=(some .hand,s) by simp only[cn,if_neg c]]at k;exact k.bad J
noncomputable def AK:Sp:=λvs H Q E=>∃ x A s,∃ g kk h:Int,vs=[.ref x,.int g,.int kk,.int h]∧IH H x A s∧Good s∧Sm g∧Sm kk∧Sm h∧Fin x A s H (bN s g kk h) Q E
noncomputable abbrev sL:List Str:=["self", "g", "k", "h", "fields", "value"]
theorem fP:ao sL ["self", "g", "k", "h"] (ag kO):=fsc
theorem qI(T:Txt w K mg):Ok P w K mg base 7 699 ["self", "g", "k", "h"] (AK):=by
 refine T.o4 "Heap.store" fP λcdv A' outer s' H vs Q E hr h=>?_;obtain⟨x,A,s,g,kk,h,rfl,J,G,hg,hk,hh,k⟩:=h;have hu:=cY hr;refine#[_,(ak (aY (i:=4) fP.nd rfl (Or.inl rfl) (gk hu (az (pv 0) rfl) ((bG T).m T.aM hr (az (pv 0) rfl) px (aa (pv 1) ah)) (λ_ _=>rfl)))
  (ak (aY (i:=5) fP.nd rfl (Or.inl rfl) ((bQ T).m T.aM hr (az (pv 0) rfl) px (aa (pv 3) ah)))
  (ak (aC ((gq T).c hr px (aa (pv 2) (aa (aX aT rfl T.z PyProof.Rows.Boot.«len» (aa (pv 4) ah)) ah))))
  (ai (qk (pv 5) (qj (pv 4) (pv 2) set_list)))))),?_]
 refine#[_,rfl,x,969,_,_,.ref A.fh,rfl,J.ax,T.af,T.n,lj,_,rfl,x,969,_,_,.ref A.hd,rfl,J.ax,T.af,T.n,eO,A.hd,A.hdx,_,rfl,J.ahd,rfl,_,rfl,A.hd,A.hdx,A.hl,A.hx,s.aG,g,rfl,J.hn G,hg,?_];cases e:wat s.aG g with
 | none =>
  rw[show bN s g kk h=(some .hand,s) by simp only[bN,e]]at k;exact k.bad J
 | some wd =>
  cases wd with
  | no =>
   rw[show bN s g kk h=(some .hand,s) by simp only[bN,e]]at k;exact k.bad J
  | num n =>
   rw[show bN s g kk h=(some .hand,s) by simp only[bN,e]]at k;exact k.bad J
  | th t =>
   intro H1 s1;have J1:=J.same s1;have m:=G.hand e;obtain⟨hl,rl⟩:=J1.afl _ _ m;refine#[A.fh,_,rfl,J1.IP G m,?_];refine#[_,rfl,x,969,_,_,.ref A.hd,rfl,J1.ax,T.af,T.n,eO,A.hd,A.hdx,_,rfl,J1.ahd,rfl,_,rfl,A.hd,A.hdx,A.hl,A.hx,s.aG,h,rfl,J1.hn G,hh,?_];cases e2:wat s.aG h with
   | none =>
    rw[show bN s g kk h=(some .hand,s) by simp only[bN,e,e2]]at k;exact Bad.same (k.bad J) s1
   | some wd =>
    intro v hv wv;have f6:=G.f6 _ _ m;have ln:((A.fx t).length:Int)=(fld s t).length:=(by rw[rl.1]);refine#[_,rfl,_,rfl,A.fa t,_,rfl,.inl (SqL.of hl),kk,_,rfl,hk,Sm.of (by omega) (by omega),?_];rw[ln];by_cases c2:0≤kk∧kk<((fld s t).length:Int)
    ·rw[if_pos c2]
     rw[show bN s g kk h=(none,{s with aI:=fL s.aI t ((fld s t).set kk.toNat wd)}) by simp only[bN,e,e2,if_pos c2]]at k;refine#[_,rfl,_,rfl,_,rfl,A.fa t,_,kk,kk.toNat,rfl,rfl,hl,CM c2.1 (by omega),?_];exact let w:=J1.MP m (rl.set (i:=kk.toNat) wv);k _ _ w.1 ((Fr.same s1).trans w.2)
    ·rw[if_neg c2]
     rw[show bN s g kk h=(some .field,s) by simp only[bN,e,e2,if_neg c2]]at k;exact Bad.same (k.bad J) s1
end
section
variable{P:Program}{w:World}{K:W.Frag}{mg:Str→Option Value}{base:Heap}
theorem gA{b:Bool}{A B:Prop}(h:b=false)(k:B):if b=true then A else B:=by rw[h];exact k
theorem lA{b:Bool}{A B:Prop}(h:b=true)(k:A):if b=true then A else B:=by rw[h];exact k
theorem DG(k:Nat):(List.replicate k [V.non]).flatten=List.replicate k .non:=by
 induction k with
 | zero=>rfl
 | succ k ih=>rw[OT,Pj,ih,OT];rfl
noncomputable def keys(s:HS):List Int:=s.aI.map (·.1)
noncomputable def held(s:HS):Int:=wsum s (keys s)
structure Raw(H:Hp)(x dx:Addr)(my:Bool)(hd hdx hl nt ntx nl wt wtx wb wl fh yg:Addr):Prop where
 ax:H x=some (.ins 969 dx [("makes_young",.bl my),("in_hands",.ref hd),("weak_names",.ref nt),("last_words",.ref wt),("fields_held",.ref fh),("young_things",.ref yg),("next_thing",.int 0)])
 ahd:H hd=some (.ins 543 hdx [("words_held",.ref hl)])
 ahl:H hl=some (.lst (List.replicate 8 .non))
 ant:H nt=some (.ins 660 ntx [("things_named",.ref nl)])
 anl:H nl=some (.lst (List.replicate 8 .non))
 awt:Wt H wt wtx wb wl [] []
 afh:H fh=some (.dK [])
 ayg:H yg=some (.dK [])
 n1:hd≠nt
 n2:hl≠nl
 n3:hl≠wl
 n4:nl≠wl
 n5:wb≠fh
 n6:wb≠yg
 n7:fh≠yg
noncomputable def s0(my:Bool)(room limit:Int):HS:=#[my,List.replicate 8 .no,List.replicate 8 none,[],[],[],[],0,room,limit,[],false]
theorem good0{my:Bool}{room limit:Int}:Good (s0 my room limit) :=
 #[rfl,rfl,List.Pairwise.nil,(λ_ _ m=>by cases m),(λ_ _ m=>by cases m),(λt m=>by have:=OP m;cases this),(λ_ _ _ m=>by cases m),(λt m=>by have:=OP m;cases this),by show 0≤12;decide,(λ_ _ m=>by cases m),List.nodup_nil,by show(0:Int)≤0;decide,by show(0:Int)≤10000;decide,by show((0:Nat):Int)+((0:Nat):Int)≤0;decide,(λ_ m=>by cases m),List.Pairwise.nil,(λ_ m=>by cases m),List.Pairwise.nil]
noncomputable def sM:Sp:=λvs H Q E=>∃ x dx,∃ my:Bool,vs=[.ref x,.bl my]∧H x=some (.ins 969 dx [])∧∀ hd hdx hl nt ntx nl wt wtx wb wl fh yg H',Raw H' x dx my hd hdx hl nt ntx nl wt wtx wb wl fh yg→But x H H'→(∀ b,b=hd∨b=hl∨b=nt∨b=nl∨b=wt∨b=wb∨b=wl∨b=fh∨b=yg→H b=none)→Q .non H'
noncomputable abbrev nI:List Str:=["self", "makes_young"]
theorem lW:ao nI ["self", "makes_young"] (ag hG):=fsc
theorem gu(T:Txt w K mg):Ok P w K mg base 3 678 ["self", "makes_young"] (sM):=by
 refine T.o2 "Heap.__init__" lW λcdv A' outer s' H vs Q E hr h=>?_;obtain⟨x,dx,my,rfl,hx,k⟩:=h;refine#[_,(ak (bo (pv 0) (pv 1) rfl)
  (ak (bo (pv 0) (pV (T.mkk 543) (fv T).g (hr.mono (by decide)) rfl T.m (fv (P:=P) (base:=base) T).b .nil (zU λ_ _ _ q=>q)) rfl)
  (ak (bo (pv 0) (pV (T.mkk 660) (cV T).g (hr.mono (by decide)) rfl T.m (cV (P:=P) (base:=base) T).b .nil (zU λ_ _ _ q=>q)) rfl)
  (ak (bo (pv 0) (pV (T.mkk 606) (cW T).g (hr.mono (by decide)) rfl T.m (cW (P:=P) (base:=base) T).b .nil (zU λ_ _ _ q=>q)) rfl)
  (ak (bo (pv 0) cA rfl)
  (ak (bo (pv 0) cA rfl)
  (ai (bo (pv 0) aq rfl)))))))),?_]
 have bk:∀ {H':Hp} {b:Addr} {u:HO},H' x=some u→But x H H'→H' b=none→H b=none:=λ{H' b u} hx' B h=>by
  cases q:H b with
  | none=>rfl
  | some v =>
   by_cases e:b=x
   ·rw[e,hx']at h;cases h
   ·rw[B b v e q]at h;cases h
 have mk:∀ {H1 H2:Hp} {m mdx C:Addr},H1 m=none→H1 mdx=none→But m (upd (upd H1 mdx (.own m)) m (.ins C mdx [])) H2→au H1 H2:=λh1 h2 B b u q=>B b u (aj q h1) (by rw[ab (aj q h1),ab (aj q h2)];exact q);have fr:∀ {H1:Hp} {m mdx C c:Addr},H1 m=none→H1 mdx=none→upd (upd H1 mdx (.own m)) m (.ins C mdx []) c=none→H1 c=none:=λ{H1 m mdx C c} h1 h2 h=>by
  cases q:H1 c with
  | none=>rfl
  | some v=>rw[ab (aj q h1),ab (aj q h2),q]at h;cases h
 refine#[_,rfl,_,rfl,x,969,dx,_,rfl,hx,T.af,T.n,by show 0<1000;decide,?_];obtain⟨H1,e1⟩:∃ H1,upd H x (.ins 969 dx (b8 "makes_young" (.bl my) []))=H1:=#[_,rfl];have x1:H1 x=some (.ins 969 dx [("makes_young",.bl my)]):=by rw[←e1];exact ae
 have B1:But x H H1:=by rw[←e1];exact But.self
 show uC _ _ _ _ (upd H x (.ins 969 dx (b8 "makes_young" (.bl my) [])));rw[e1];clear e1;intro hd hdx hm1 hm2 hm3;refine#[hd,hdx,rfl,ae,λhl G1 b1 hc hcl hci=>#[rfl,?_]];have S1:=mk hm1 hm2 b1;have hl1:=fr hm1 hm2 hc;refine#[_,rfl,x,969,dx,_,rfl,S1 _ _ x1,T.af,T.n,by show 1<1000;decide,?_];obtain⟨H2,e2⟩:∃ H2,upd G1 x (.ins 969 dx (b8 "in_hands" (.ref hd) [("makes_young",.bl my)]))=H2:=#[_,rfl];have x2:H2 x=some (.ins 969 dx [("makes_young",.bl my),("in_hands",.ref hd)]):=by rw[←e2];exact ae
 have P2:But x G1 H2:=by rw[←e2];exact But.self
 have B2:But x H H2:=(B1.trans λb u _ q=>S1 b u q).trans P2;show uC _ _ _ _ (upd G1 x (.ins 969 dx (b8 "in_hands" (.ref hd) [("makes_young",.bl my)])));rw[e2];clear e2;have nhd:hd≠x:=Oj (aj x1 hm1);have nhl:hl≠x:=Oj (aj x1 hl1);have a2:=P2 _ _ nhd hci;have l2:=P2 _ _ nhl hcl;intro nt ntx nm1 nm2 nm3;refine#[nt,ntx,rfl,ae,λnl G2 b2 nc ncl nci=>#[rfl,?_]];have S2:=mk nm1 nm2 b2;have nl2:=fr nm1 nm2 nc;refine#[_,rfl,x,969,dx,_,rfl,S2 _ _ x2,T.af,T.n,by show 2<1000;decide,?_];obtain⟨H3,e3⟩:∃ H3,upd G2 x (.ins 969 dx (b8 "weak_names" (.ref nt) [("makes_young",.bl my),("in_hands",.ref hd)]))=H3:=#[_,rfl];have x3:H3 x=some (.ins 969 dx [("makes_young",.bl my),("in_hands",.ref hd),("weak_names",.ref nt)]):=by rw[←e3];exact ae
 have P3:But x G2 H3:=by rw[←e3];exact But.self
 have B3:But x H H3:=(B2.trans λb u _ q=>S2 b u q).trans P3;show uC _ _ _ _ (upd G2 x (.ins 969 dx (b8 "weak_names" (.ref nt) [("makes_young",.bl my),("in_hands",.ref hd)])));rw[e3];clear e3;have nnt:nt≠x:=Oj (aj x2 nm1);have nnl:nl≠x:=Oj (aj x2 nl2);have a3:=P3 _ _ nhd (S2 _ _ a2);have l3:=P3 _ _ nhl (S2 _ _ l2);have t3:=P3 _ _ nnt nci;have m3:=P3 _ _ nnl ncl;intro wt wtx wm1 wm2 wm3;refine#[wt,wtx,rfl,ae,λwb wl G3 b3 wc1 wc2 W=>#[rfl,?_]];have S3:=mk wm1 wm2 b3;have wb3:=fr wm1 wm2 wc1;have wl3:=fr wm1 wm2 wc2;refine#[_,rfl,x,969,dx,_,rfl,S3 _ _ x3,T.af,T.n,by show 3<1000;decide,?_];obtain⟨H4,e4⟩:∃ H4,upd G3 x (.ins 969 dx (b8 "last_words" (.ref wt) [("makes_young",.bl my),("in_hands",.ref hd),("weak_names",.ref nt)]))=H4:=#[_,rfl];have x4:H4 x=some (.ins 969 dx [("makes_young",.bl my),("in_hands",.ref hd),("weak_names",.ref nt),("last_words",.ref wt)]):=by rw[←e4];exact ae
 have P4:But x G3 H4:=by rw[←e4];exact But.self
 have B4:But x H H4:=(B3.trans λb u _ q=>S3 b u q).trans P4;show uC _ _ _ _ (upd G3 x (.ins 969 dx (b8 "last_words" (.ref wt) [("makes_young",.bl my),("in_hands",.ref hd),("weak_names",.ref nt)])));rw[e4];clear e4;have nwt:wt≠x:=Oj (aj x3 wm1);have nwb:wb≠x:=Oj (aj x3 wb3);have nwl:wl≠x:=Oj (aj x3 wl3);have W4:Wt H4 wt wtx wb wl [] []:=#[P4 _ _ nwt W.i,P4 _ _ nwb W.b,P4 _ _ nwl W.l];have a4:=P4 _ _ nhd (S3 _ _ a3);have l4:=P4 _ _ nhl (S3 _ _ l3);have t4:=P4 _ _ nnt (S3 _ _ t3);have m4:=P4 _ _ nnl (S3 _ _ m3);intro fh hfh;have nfh:fh≠x:=Oj (aj x4 hfh);refine#[_,rfl,x,969,dx,_,rfl,au.upd hfh _ _ x4,T.af,T.n,by show 4<1000;decide,?_];obtain⟨H5,e5⟩:∃ H5,upd (upd H4 fh (.dK [])) x (.ins 969 dx (b8 "fields_held" (.ref fh) [("makes_young",.bl my),("in_hands",.ref hd),("weak_names",.ref nt),("last_words",.ref wt)]))=H5:=#[_,rfl];have x5:H5 x=some (.ins 969 dx [("makes_young",.bl my),("in_hands",.ref hd),("weak_names",.ref nt),("last_words",.ref wt),("fields_held",.ref fh)]):=by rw[←e5];exact ae
 have P5:But x H4 H5:=by rw[←e5];exact(But.upd hfh).trans But.self
 have f5:H5 fh=some (.dK []):=by rw[←e5,ab nfh];exact ae
 show uC _ _ _ _ (upd (upd H4 fh (.dK [])) x (.ins 969 dx (b8 "fields_held" (.ref fh) [("makes_young",.bl my),("in_hands",.ref hd),("weak_names",.ref nt),("last_words",.ref wt)])));rw[e5];clear e5;intro yg hyg;have nyg:yg≠x:=Oj (aj x5 hyg);refine#[_,rfl,x,969,dx,_,rfl,au.upd hyg _ _ x5,T.af,T.n,by show 5<1000;decide,?_];obtain⟨H6,e6⟩:∃ H6,upd (upd H5 yg (.dK [])) x (.ins 969 dx (b8 "young_things" (.ref yg) [("makes_young",.bl my),("in_hands",.ref hd),("weak_names",.ref nt),("last_words",.ref wt),("fields_held",.ref fh)]))=H6:=#[_,rfl];have x6:H6 x=some (.ins 969 dx [("makes_young",.bl my),("in_hands",.ref hd),("weak_names",.ref nt),("last_words",.ref wt),("fields_held",.ref fh),("young_things",.ref yg)]):=by rw[←e6];exact ae
 have P6:But x H5 H6:=by rw[←e6];exact(But.upd hyg).trans But.self
 have y6:H6 yg=some (.dK []):=by rw[←e6,ab nyg];exact ae
 skip
 rw[e6];clear e6;have B5:But x H H5:=B4.trans P5;have B6:But x H H6:=B5.trans P6;have P7:∀ {o:HO},But x H6 (upd H6 x o):=But.self;have P47:∀ {o:HO} {b:Addr} {u:HO},b≠x→H4 b=some u→upd H6 x o b=some u:=λn q=>P7 _ _ n (P6 _ _ n (P5 _ _ n q));refine#[_,rfl,x,969,dx,_,rfl,x6,T.af,T.n,by show 6<1000;decide,k hd hdx hl nt ntx nl wt wtx wb wl fh yg _ #[ae,P47 nhd a4,P47 nhl l4,P47 nnt t4,P47 nnl m4,#[P47 nwt W4.i,P47 nwb W4.b,P47 nwl W4.l],P7 _ _ nfh (P6 _ _ nfh f5),P7 _ _ nyg y6,aj a2 nm1,aj l2 nl2,aj l3 wl3,aj m3 wl3,aj W4.b hfh,aj (P5 _ _ nwb W4.b) hyg,aj f5 hyg] (B6.trans But.self) (λb hb=>?_)];rcases hb with rfl|rfl|rfl|rfl|rfl|rfl|rfl|rfl|rfl
 ·exact bk x1 B1 hm1
 ·exact bk x1 B1 hl1
 ·exact bk x2 B2 nm1
 ·exact bk x2 B2 nl2
 ·exact bk x3 B3 wm1
 ·exact bk x3 B3 wb3
 ·exact bk x3 B3 wl3
 ·exact bk x4 B4 hfh
 ·exact bk x5 B5 hyg
noncomputable def qJ:Sp:=λvs H Q E=>∃ x dx,∃ y l:Int,vs=[.ref x,.int y,.int l]∧H x=some (.ins 969 dx [])∧(y=0∨(7≤y∧y≤64))∧7≤l∧l≤400∧∀ A H',IH H' x A (s0 (decide (y>0)) y l)→But x H H'→(∀ b,aO x A (s0 (decide (y>0)) y l) b→b=x∨H b=none)→Q .non H'
noncomputable abbrev iu:List Str:=["self", "young", "limit"]
theorem hZ:ao iu ["self", "young", "limit"] (ag dq):=fsc
theorem bI(T:Txt w K mg):Ok P w K mg base 4 812 ["self", "young", "limit"] (qJ):=by
 refine T.o3 "IdealHeap.__init__" hZ λcdv A' outer s' H vs Q E hr h=>?_;obtain⟨x,dx,y,l,rfl,hx,hy,l0,l1,k⟩:=h;refine#[_,(ak (aC ((jZ T).c hr px (aa (pv 1) (aa (pv 2) ah))))
  (ak (aC (Fq rfl T.m (T.cf 787) (gu T).g (hr.mono (by decide)) (gu (P:=P) (base:=base) T).b px (aa (pv 0) (aa (cc tK (pv 1) aq (aN _)) ah))))
  (ak (bo (pv 0) (pv 1) rfl)
  (ak (bo (pv 0) (pv 2) rfl)
  (ak (bo (pv 0) cA rfl)
  (ai (bo (pv 0) k9 rfl))))))),?_]
 refine#[_,rfl,_,rfl,y,l,rfl,hy,l0,l1,?_];refine#[_,rfl,_,rfl,y,0,rfl,rfl,x,dx,_,rfl,hx,λhd hdx hl nt ntx nl wt wtx wb wl fh yg H1 R B1 fr=>?_];obtain⟨my,emy⟩:∃ my:Bool,decide (y>0)=my:=#[_,rfl];rw[emy]at R k;have nx:∀ b,H b=none→b≠x:=λb h e=>by rw[e,hx]at h;cases h
 refine#[_,rfl,_,rfl,x,969,dx,_,rfl,R.ax,T.af,T.n,by show 7<1000;decide,?_];refine#[_,rfl,_,rfl,x,969,dx,_,rfl,ae,T.af,T.n,by show 8<1000;decide,?_];intro dm hdm;have ndm:dm≠x:=λe=>by rw[e,ae]at hdm;cases hdm
 have BK:H1 dm=none:=by rw[ab ndm,ab ndm]at hdm;exact hdm
 refine#[_,rfl,x,969,dx,_,rfl,(by rw[ab (Oj ndm)];exact ae),T.af,T.n,by show 9<1000;decide,?_];refine#[_,rfl,x,969,dx,_,rfl,ae,T.af,T.n,by show 10<1000;decide,?_];have MQ:H dm=none:=by
  cases q:H dm with
  | none=>rfl
  | some u=>rw[B1 _ _ ndm q]at BK;cases BK
 have P:∀ {o1 o2 o3 o4:HO},But x H1 (upd (upd (upd (upd (upd H1 x o1) x o2) dm (.dK [])) x o3) x o4):=λ{o1 o2 o3 o4}=>(((But.self.trans But.self).trans (But.upd (by rw[ab ndm,ab ndm];exact BK))).trans But.self).trans But.self;have d2:∀ {o1 o2 o3 o4:HO},upd (upd (upd (upd (upd H1 x o1) x o2) dm (.dK [])) x o3) x o4 dm=some (.dK []):=λ{o1 o2 o3 o4}=>by rw[ab ndm,ab ndm];exact ae
 have f:=λ(b:Addr) (h:b=hd∨b=hl∨b=nt∨b=nl∨b=wt∨b=wb∨b=wl∨b=fh∨b=yg)=>nx b (fr b h);have n1:=f hd (.inl rfl);have n2:=f hl (.inr (.inl rfl));have n3:=f nt (.inr (.inr (.inl rfl)));have n4:=f nl (.inr (.inr (.inr (.inl rfl))));have n5:=f wt (.inr (.inr (.inr (.inr (.inl rfl)))));have n6:=f wb (.inr (.inr (.inr (.inr (.inr (.inl rfl))))));have n7:=f wl (.inr (.inr (.inr (.inr (.inr (.inr (.inl rfl)))))));have n8:=f fh (.inr (.inr (.inr (.inr (.inr (.inr (.inr (.inl rfl))))))));have n9:=f yg (.inr (.inr (.inr (.inr (.inr (.inr (.inr (.inr rfl))))))));refine k #[dx,hd,hdx,hl,List.replicate 8 .non,nt,ntx,nl,wt,wtx,wb,wl,fh,λ_=>0,λ_=>[],yg,dm] _ #[ae,P _ _ n1 R.ahd,P _ _ n2 R.ahl,Rel.nil,P _ _ n3 R.ant,P _ _ n4 R.anl,P _ _ n5 R.awt.i,P _ _ n6 R.awt.b,P _ _ n7 R.awt.l,P _ _ n8 R.afh,(λ_ _ m=>by cases m),P _ _ n9 R.ayg,d2,R.n1,R.n2,R.n3,R.n4,(λ_ _ m=>by cases m),(λ_ _ _ _ m=>by cases m),R.n5,R.n6,aj R.awt.b BK,R.n7,aj R.afh BK,aj R.ayg BK] (B1.trans P) (λb hb=>?_);cases hb with
 | x=>exact .inl rfl
 | hd=>exact .inr (fr hd (.inl rfl))
 | hl=>exact .inr (fr hl (.inr (.inl rfl)))
 | nt=>exact .inr (fr nt (.inr (.inr (.inl rfl))))
 | nl=>exact .inr (fr nl (.inr (.inr (.inr (.inl rfl)))))
 | wt=>exact .inr (fr wt (.inr (.inr (.inr (.inr (.inl rfl))))))
 | wb=>exact .inr (fr wb (.inr (.inr (.inr (.inr (.inr (.inl rfl)))))))
 | wl=>exact .inr (fr wl (.inr (.inr (.inr (.inr (.inr (.inr (.inl rfl))))))))
 | fh=>exact .inr (fr fh (.inr (.inr (.inr (.inr (.inr (.inr (.inr (.inl rfl)))))))))
 | yg=>exact .inr (fr yg (.inr (.inr (.inr (.inr (.inr (.inr (.inr (.inr rfl)))))))))
 | dm=>exact .inr MQ
 | fl m=>cases m
end
section
variable{P:Program}{w:World}{K:W.Frag}{mg:Str→Option Value}{base:Heap}
theorem BL{fs:List (Key×V)}{t:Int}{v:V}(h:bU fs (Sum.inl t)=none):putK fs (Sum.inl t) v=fs++[(Sum.inl t,v)]:=iV v h
theorem KN{ts:List Int}{t:Int}:(bU (ts.map tkv) (Sum.inl t)).isSome=decide (t∈ts):=by
 induction ts with
 | nil=>rfl
 | cons a r ih =>
  rw[Oo];by_cases e:a=t
  ·subst e
   rw[bE (p:=tkv a) (k:=Sum.inl a) rfl];simp
  ·rw[bF (p:=tkv a) (λz=>e (Sum.inl.inj z)),ih]
   have:(t∈a::r)↔t∈r:=by
    rw[NY];exact#[λh=>h.elim (λz=>absurd z.symm e) id,.inr]
   simp only[this]
theorem Good.CN{s:HS}(g:Good s):∀ w,(s.nxt,w)∉s.aI:=λw m=>by have:=(g.lt _ _ m).2;omega
noncomputable def FE:Sp:=λvs H Q E=>∃ x A s,∃ h n:Int,vs=[.ref x,.int h,.int n]∧IH H x A s∧Good s∧ok8 h∧0≤n∧n≤6∧∀ A' H',IH H' x A' (vO s h n)→Fr (aO x A s) H (aO x A' (vO s h n)) H'→Q .non H'
theorem wY:∀(n:Nat) (l:List Int) (a:Int),l.Pairwise (·< ·)→(∀ t∈l,a≤t∧t<a+n)→l.length≤n
 | _,[],_,_,_=>Oy _
 | 0,b::r,a,_,h=>by have:=h b NV;omega
 | n+1,b::r,a,p,h=>by
  have hb:=h b NV
  have:=wY n r (a+1) (List.pairwise_cons.mp p).2 λt m=>by
   have h1:=(List.pairwise_cons.mp p).1 t m;have h2:=h t (Oa _ m);omega
  rw[Oi];omega
theorem qK{s:HS}(g:Good s):s.yng.length≤10000:=by
 refine wY 10000 s.yng 0 g.nZ λt m=>?_;obtain⟨ws,m⟩:=g.yk t m
 have:=g.lt _ _ m
 have:=g.nx
 omega
theorem DH{s:HS}(g:Good s):s.bj.length≤10000:=by
 refine wY 10000 s.bj 0 g.qF λt m=>?_;obtain⟨ws,m⟩:=g.dk t m
 have:=g.lt _ _ m
 have:=g.nx
 omega
noncomputable abbrev lX:List Str:=["self", "h", "n", "t"]
theorem fz:ao lX ["self", "h", "n"] (ag gb):=fsc
theorem kg(T:Txt w K mg):Ok P w K mg base 5 685 ["self", "h", "n"] (FE):=by
 refine T.o3 "Heap.add_thing" fz λcdv A' outer s' H vs Q E hr h=>?_;obtain⟨x,A,s,h,n,rfl,J,G,c,n0,n6,k⟩:=h;have hu:=cY hr;refine#[_,(ak (aY (i:=3) fz.nd rfl (Or.inl rfl) (az (pv 0) rfl))
  (ak (bo (pv 0) (cb nR (pv 3) aq) rfl)
  (ak (eN hu (az (pv 0) rfl) (pv 3) (cb wM (cC (aa bu ah)) (pv 2)) rfl)
  (ak (a6 (jg (az (pv 0) rfl))
   (ai (eN hu (az (pv 0) rfl) (pv 3) k9 rfl))
   aK)
  (ai (aC ((dP T).m T.aM hr (az (pv 0) rfl) px (aa (pv 1) (aa ((eh T).c hr px (aa (pv 3) ah)) ah))))))))),?_]
 refine#[_,rfl,x,969,_,_,.int s.nxt,rfl,J.ax,T.af,T.n,JF,?_];refine#[_,rfl,s.nxt,1,rfl,rfl,_,rfl,x,969,A.dx,_,rfl,J.ax,T.af,T.n,by show 11<1000;decide,?_];have w1:=J.MO (n:=s.nxt+1);obtain⟨H1,e1⟩:∃ H1,upd H x (.ins 969 A.dx (b8 "next_thing" (.int (s.nxt+1)) (atts A s)))=H1:=#[_,rfl];rw[e1]at w1;show uC _ _ _ _ (upd H x (.ins 969 A.dx (b8 "next_thing" (.int (s.nxt+1)) (atts A s))));rw[e1];clear e1;obtain⟨J1,F1⟩:=w1;refine#[by show 1≤sizeLine;decide,λp hp=>#[_,rfl,p,n,_,rfl,rfl,ae,by omega,by omega,qG (by show 1*n.toNat≤20000;omega),λq hq=>?_]];rw[DG];have s2:au H1 (upd H1 p (.lst [.non])):=au.upd hp;have J2:=J1.same s2;have w2:=J2.JK (t:=s.nxt) (xs:=List.replicate n.toNat .non) (ws:=List.replicate n.toNat .no) hq G.CN Rel.nil;obtain⟨J3,F3⟩:=w2;have J2':=J2.same (au.upd (o:=.lst (List.replicate n.toNat .non)) hq);have vn:bU (s.aI.map (fkv A)) (Sum.inl s.nxt)=none:=by
  rw[BJ];cases e:s.aI.lookup s.nxt with
  | none=>rfl
  | some w=>exact absurd (lookup_some e) (G.CN w)
 have dp:=pd.k (k:=Sum.inl s.nxt) (v:=.ref q) J2'.afh (by rw[NI];exact k6 (NW G.few (by decide)));rw[show putK ((({s with nxt:=s.nxt+1}:HS).aI).map (fkv A)) (Sum.inl s.nxt) (.ref q)=s.aI.map (fkv A)++[(Sum.inl s.nxt,.ref q)] from BL vn]at dp;refine#[_,rfl,x,969,_,_,.ref A.fh,rfl,J2'.ax,T.af,T.n,lj,_,rfl,A.fh,_,rfl,dp,?_];have F03:=(F1.trans (Fr.same s2)).trans F3;obtain⟨A3,eA⟩:∃ A3:HA,{A with fa:=λu=>if u=s.nxt then q else A.fa u,fx:=λu=>if u=s.nxt then List.replicate n.toNat V.non else A.fx u}=A3:=#[_,rfl];obtain⟨H3,e3⟩:∃ H3,upd (upd (upd H1 p (.lst [.non])) q (.lst (List.replicate n.toNat .non))) A.fh (.dK (s.aI.map (fkv A)++[(Sum.inl s.nxt,.ref q)]))=H3:=#[_,rfl];have J3:IH H3 x A3 {s with nxt:=s.nxt+1,aI:=s.aI++[(s.nxt,List.replicate n.toNat .no)]}:=by rw[←e3,←eA];exact J3
 have F03:Fr (aO x A s) H (aO x A3 {s with nxt:=s.nxt+1,aI:=s.aI++[(s.nxt,List.replicate n.toNat .no)]}) H3:=by rw[←e3,←eA];exact F03
 show uC _ _ _ _ (upd (upd (upd H1 p (.lst [.non])) q (.lst (List.replicate n.toNat .non))) A.fh (.dK (s.aI.map (fkv A)++[(Sum.inl s.nxt,.ref q)])));rw[e3];clear e3 eA dp J2';have fin:∀(A4:HA) (H4:Hp) (ys:List Int),IH H4 x A4 {s with nxt:=s.nxt+1,aI:=s.aI++[(s.nxt,List.replicate n.toNat .no)],yng:=ys}→Fr (aO x A s) H (aO x A4 {s with nxt:=s.nxt+1,aI:=s.aI++[(s.nxt,List.replicate n.toNat .no)],yng:=ys}) H4→(if s.my=true then s.yng++[s.nxt] else s.yng)=ys→∀(t:Addr) (H5:Hp),au H4 H5→H5 t=some (.tup [.str "thing",.int s.nxt])→xN [.ref A4.hd,.int h,.ref t] H5 (λ_ H'=>Q .non H') E:=by
  intro A4 H4 ys J4 F4 ey t H5 s5 ht;have J5:=J4.same s5;refine#[A4.hd,A4.hdx,A4.hl,A4.hx,s.aG,.ref t,h,rfl,#[J5.ahd,J5.ahl,J5.rhl,G.h8],Sm.of (by omega) (by omega),?_];rw[if_pos c];have w:=J5.z8 (J5.rhl.set (i:=h.toNat) (show WV H5 (.ref t) (.th s.nxt) from#[t,rfl,ht]));have e:vO s h n={s with nxt:=s.nxt+1,aI:=s.aI++[(s.nxt,List.replicate n.toNat .no)],yng:=ys,aG:=s.aG.set h.toNat (.th s.nxt)}:=by unfold vO;rw[ey]
  rw[e]at k;exact k _ _ w.1 ((F4.trans (Fr.same s5)).trans w.2)
 refine#[_,rfl,x,969,_,_,_,rfl,J3.ax,T.af,T.n,EG,_,rfl,?_];by_cases my:s.my=true
 ·refine lA my #[_,rfl,x,969,_,_,_,rfl,J3.ax,T.af,T.n,vJ,_,rfl,A3.yg,_,rfl,pd.k (k:=Sum.inl s.nxt) J3.ayg (by rw[NI];exact k6 (NW (show s.yng.length≤10000 from qK G) (by decide))),?_]
  have vy:bU (s.yng.map tkv) (Sum.inl s.nxt)=none:=by
   have:=KN (ts:=s.yng) (t:=s.nxt)
   rw[decide_eq_false (λm=>by obtain⟨ws,m⟩:=G.yk _ m;exact G.CN ws m)]at this;cases q:bU (s.yng.map tkv) (Sum.inl s.nxt) with
   | none=>rfl
   | some v=>rw[q]at this;cases this
  have w4:=J3.MM (ts:=s.yng++[s.nxt]);rw[N9]at w4;rw[show putK ((({s with nxt:=s.nxt+1,aI:=s.aI++[(s.nxt,List.replicate n.toNat .no)]}:HS).yng).map tkv) (Sum.inl s.nxt) (.bl true)=s.yng.map tkv++[s.nxt].map tkv from BL vy];obtain⟨J4,F4⟩:=w4;refine#[_,rfl,x,969,_,_,_,rfl,J4.ax,T.af,T.n,eO,A3.hd,A3.hdx,_,rfl,J4.ahd,rfl,_,rfl,_,rfl,s.nxt,rfl,G.n0,λt H5 s5 ht=>?_];exact fin _ _ _ J4 (F03.trans F4) (by rw[if_pos my]) t H5 s5 ht
 ·refine gA (OU.mpr my) ?_
  refine#[_,rfl,x,969,_,_,_,rfl,J3.ax,T.af,T.n,eO,A3.hd,A3.hdx,_,rfl,J3.ahd,rfl,_,rfl,_,rfl,s.nxt,rfl,G.n0,λt H5 s5 ht=>?_];exact fin _ _ _ J3 F03 (by rw[if_neg my]) t H5 s5 ht
noncomputable def AL:Sp:=λvs H Q E=>∃ x A s,∃ h w:Int,vs=[.ref x,.int h,.int w]∧IH H x A s∧Good s∧Sm h∧Sm w∧(if ok8 h then(if ok8 w then ∀ A' H',IH H' x A' (fO s h (nmW (s.names.getD w.toNat none)))→Fr (aO x A s) H (aO x A' (fO s h (nmW (s.names.getD w.toNat none)))) H'→Q (nmV (s.names.getD w.toNat none)) H' else Bad 84 H E) else Bad 65 H E)
noncomputable abbrev kh:List Str:=["self", "h", "w", "t"]
theorem dY:ao kh ["self", "h", "w"] (ag eZ):=fsc
theorem jH(T:Txt w K mg):Ok P w K mg base 5 734 ["self", "h", "w"] (AL):=by
 refine T.o3 "Heap.read_thing" dY λcdv A' outer s' H vs Q E hr h=>?_;obtain⟨x,A,s,h,w,rfl,J,G,hh,hw,k⟩:=h;refine#[_,(ak (aC ((bq T).c hr px (aa (pv 1) ah)))
  (ak (aY (i:=3) dY.nd rfl (Or.inl rfl) ((jG T).m T.bB hr (az (pv 0) rfl) px (aa (pv 2) ah)))
  (ak (aC ((dP T).m T.aM hr (az (pv 0) rfl) px (aa (pv 1) (aa (eS (aH qm (pv 3) bu (aN _)) bu ((eh T).c hr px (aa (pv 3) ah))) ah))))
  (ai (aB (pv 3)))))),?_]
 refine#[_,rfl,h,rfl,hh,?_];by_cases c:ok8 h
 ·rw[if_pos c]at k ⊢
  refine#[_,rfl,x,969,_,_,.ref A.nt,rfl,J.ax,T.af,T.n,CJ,A.nt,A.ntx,_,rfl,J.ant,rfl,_,rfl,A.nt,A.ntx,A.nl,_,w,rfl,J.ntb G,hw,?_];by_cases c2:ok8 w
  ·rw[if_pos c2]at k ⊢
   intro v hv;have hi:w.toNat<s.names.length:=(by rw[G.n8];omega);rw[N0,NJ hi]at hv;obtain rfl:nmV s.names[w.toNat]=v:=Oh hv;have gd:s.names.getD w.toNat none=s.names[w.toNat]:=(by simp[List.getD,hi]);rw[gd]at k;have mm:s.names[w.toNat]∈s.names:=OB hi;obtain⟨z,ez⟩:∃ z,s.names[w.toNat]=z:=#[_,rfl];rw[ez]at k mm ⊢;refine#[_,rfl,x,969,_,_,.ref A.hd,rfl,J.ax,T.af,T.n,eO,A.hd,A.hdx,_,rfl,J.ahd,rfl,_,rfl,?_];cases z with
   | none =>
    refine#[_,rfl,rfl,_,rfl,bw (λ_=>?_) (λh=>absurd (by simp[nmV]) h)];refine#[A.hd,A.hdx,A.hl,A.hx,s.aG,.non,h,rfl,J.hn G,hh,?_];rw[if_pos c];exact#[_,rfl,let w:=J.z8 (J.rhl.set (i:=h.toNat) (show WV H .non .no from rfl));k _ _ w.1 w.2]
   | some t =>
    obtain⟨ws,m⟩:=G.nn t mm;refine#[_,rfl,rfl,_,rfl,bw (λh=>by simp[nmV]at h) (λ_=>?_)];refine#[_,rfl,t,rfl,(G.lt _ _ m).1,λp H1 s1 hp=>?_];have J1:=J.same s1;refine#[A.hd,A.hdx,A.hl,A.hx,s.aG,.ref p,h,rfl,J1.hn G,hh,?_];rw[if_pos c];exact#[_,rfl,let w:=J1.z8 (J1.rhl.set (i:=h.toNat) (show WV H1 (.ref p) (.th t) from#[p,rfl,hp]));k _ _ w.1 ((Fr.same s1).trans w.2)]
  ·rw[if_neg c2]at k ⊢
   exact k
 ·rw[if_neg c]at k ⊢
  exact k
noncomputable def AM:Sp:=λvs H Q E=>∃ x A s d kvs ts,vs=[.ref x,.ref d]∧IH H x A s∧Good s∧H d=some (.dK kvs)∧kvs.map (·.1)=ts.map Sum.inl∧(∀ t∈ts,∃ ws,(t,ws)∈s.aI)∧ts.length≤10000∧∀ H',au H H'→Q (.int (wsum s ts)) H'
noncomputable abbrev dZ:List Str:=["self", "things"]
theorem iW:ao dZ ["self", "things"] (ag cv):=fsc
theorem dH(T:Txt w K mg):Ok P w K mg base 4 779 ["self", "things"] (AM):=by
 refine T.o2 "Heap.words_among" iW λcdv A' outer s' H vs Q E hr h=>?_;obtain⟨x,A,s,d,kvs,ts,rfl,J,G,hd,hk,ht,hz,k⟩:=h;have hu:=cY hr;refine#[_,(ai (aB (BF (aX (rO rfl) rfl T.z PyProof.Rows.Boot.«sum» (aa (lK (cl:=[("self",s'.heap.objs.size+1)]) (x := "t") (idx:=[0]) (NC:=["t", "self"]) ?co1 rfl (lL (qu (pv 1))) (λC fp s₀ H₀=>((mY T).c hr qX (aa (aX (yU rfl) rfl T.z PyProof.Rows.Boot.«len» (aa (gk hu (Du rfl (pv 1) rfl) (pv 0) (λ_ _=>rfl)) ah)) ah)))) ah))))),?_]
 case co1 =>
  exact gn (sc:=ag cv) (N:=dZ) (ns:=["self"]) rfl rfl rfl (by decide +kernel) rfl rfl (by
   intro q hq;rw[NN.mp hq];rfl)
 have lk:kvs.length=ts.length:=by have:=congrArg List.length hk;simpa using this
 refine#[_,rfl,d,kvs,hd,λo=>?_];refine#[d,o,kvs,rfl,ae,λL hL=>?_];obtain⟨Hf,ef⟩:∃ Hf,upd H d (.frz o (.dK kvs))=Hf:=#[_,rfl];rw[ef]at hL ⊢;have fd:Hf d=some (.frz o (.dK kvs)):=by rw[←ef];exact ae
 have fo:∀ b u,b≠d→H b=some u→Hf b=some u:=λb u n q=>by rw[←ef,ab n];exact q
 have xd:x≠d:=av J.ax hd (by intro z;cases z);have dg:∀ {Hc:Hp},au Hf Hc→∀ {t:Int} {ws:List Wd},(t,ws)∈s.aI→iI Hc A.fh (.int t) (some (.ref (A.fa t))):=λ{Hc} sc {t ws} m=>by
  have e:bU (s.aI.map (fkv A)) (Sum.inl t)=some (.ref (A.fa t)):=by rw[BJ,G.get m];rfl
  by_cases c:A.fh=d
  ·have ek:kvs=s.aI.map (fkv A):=by
    have:=J.afh
    rw[c,hd]at this;injection this with this;injection this
   exact .inl #[kvs,Sum.inl t,.inr #[o,by rw[c];exact sc _ _ fd],rfl,by rw[ek,e]]
  ·exact .inl #[_,Sum.inl t,.inl (sc _ _ (fo _ _ c J.afh)),rfl,e.symm]
 refine yS (d:=d) (o:=o) (kvs:=kvs) (λi ys Hc=>ys=((ts.take i).map λt=>V.int (((fld s t).length:Int)+1))∧au Hf Hc∧Hc L=some (.lst ys)) #[rfl,au.upd hL,ae] (λi ys Hc hi ⟨e,_,z⟩=>#[z,by rw[e,NI,Oq];omega]) (λi ys Hc _ ⟨_,sc,_⟩=>sc _ _ fd) (qG (by omega)) (λi p ys Hc hi ⟨e,sc,z⟩=>?_) (λys Hc ⟨e,sc,z⟩=>?_)
 ·have hik:i<kvs.length:=(NK.mp hi).1
  have hit:i<ts.length:=by omega
  have ep:p.1=Sum.inl ts[i]:=by
   have h1:=congrArg (λl=>l[i]?) hk;simp only[N0,hi,NJ hit,OL,Option.some.injEq]at h1;exact h1
  have hkv:kV p.1=.int ts[i]:=by rw[ep];rfl
  obtain⟨t,et⟩:∃ t,ts[i]=t:=#[_,rfl];obtain⟨ws,m⟩:=ht t (by rw[←et];exact OB hit);have fm:=G.fld m;obtain⟨hl,rl⟩:=J.afl _ _ m;have f6:=G.f6 _ _ m;have ln:=rl.1;have nld:A.fa t≠d:=av hl hd (by intro z;cases z);have hlc:=sc _ _ (fo _ _ nld hl);refine#[_,rfl,x,969,_,_,.ref A.fh,rfl,sc _ _ (fo _ _ xd J.ax),T.af,T.n,lj,_,rfl,A.fh,.ref (A.fa t),rfl,(by rw[hkv,et];exact dg sc m),A.fa t,_,rfl,.inl (SqL.of hlc),((A.fx t).length:Int),rfl,Sm.of (by omega) (by omega),?_];rw[if_pos #[by omega,by omega]];refine#[z,?_,λb u q=>by rw[ab (aj q hL)];exact sc b u q,ae];rw[e,Ob hit,N9,et];simp only[Oo,Pq];rw[fm,ln]
 ·rw[lk,NZ (NO _)]at e
  refine#[L,ts.map λt=>((fld s t).length:Int)+1,rfl,SqL.of (by rw[z,e,OD];rfl),d,o,kvs,sc _ _ fd,(λo' u' z=>by have z:H d=some (.frz o' u'):=z;rw[hd]at z;cases z),?_];refine k _ λb u q=>?_;by_cases c:b=d
  ·subst c
   rw[hd]at q;cases q;exact ae
  ·rw[ab c]
   exact sc _ _ (fo _ _ c q)
noncomputable def DI:Sp:=λvs H Q E=>∃ x A s,vs=[.ref x]∧IH H x A s∧Good s∧∀ H',au H H'→Q (.int (held s)) H'
noncomputable abbrev lY:List Str:=["self"]
theorem ki:ao lY ["self"] (ag gj):=fsc
theorem fA(T:Txt w K mg):Ok P w K mg base 5 868 ["self"] (DI):=by
 refine T.o1 "IdealHeap.held" ki λcdv A' outer s' H vs Q E hr h=>?_;obtain⟨x,A,s,rfl,J,G,k⟩:=h;refine#[_,(ai (aB ((dH T).m T.af hr (pv 0) px (aa (az (pv 0) rfl) ah)))),?_];exact#[_,rfl,x,_,_,rfl,J.ax,(by kernel_rfl),_,rfl,x,969,_,_,.ref A.fh,rfl,J.ax,T.af,T.n,lj,x,A,s,A.fh,_,keys s,rfl,J,G,J.afh,by rw[OD];unfold keys;rw[OD];rfl,(λt m=>by obtain⟨p,hp,rfl⟩:=Og.mp m;exact#[p.2,hp]),by unfold keys;rw[NI];exact G.few,k]
noncomputable def AN:Sp:=λvs H Q E=>∃ x A s,∃ h:Int,vs=[.ref x,.int h]∧IH H x A s∧Good s∧Sm h∧(match wat s.aG h with|some wd=>∀ H',au H H'→Q (.str wd.kind) H'|none=>Bad 65 H E)
noncomputable abbrev lZ:List Str:=["self", "h"]
theorem kj:ao lZ ["self", "h"] (ag gh):=fsc
theorem cO(T:Txt w K mg):Ok P w K mg base 6 840 ["self", "h"] (AN):=by
 refine T.o2 "IdealHeap.kind" kj λcdv A' outer s' H vs Q E hr h=>?_;obtain⟨x,A,s,h,rfl,J,G,hh,k⟩:=h;have hu:=cY hr;refine#[_,(ai (aB ((fN T).m T.aM hr (az (pv 0) rfl) px (aa (pv 1) ah)))),?_];exact#[_,rfl,x,969,_,_,.ref A.hd,rfl,J.ax,T.af,T.n,eO,A.hd,A.hdx,_,rfl,J.ahd,rfl,_,rfl,A.hd,A.hdx,A.hl,A.hx,s.aG,h,rfl,J.hn G,hh,k]
noncomputable def yY:Sp:=λvs H Q E=>∃ x A s,∃ h:Int,vs=[.ref x,.int h]∧IH H x A s∧Good s∧Sm h∧(match wat s.aG h with|some (.num x)=>∀ H',au H H'→Q (.int x) H'|_=>Bad 65 H E)
noncomputable abbrev km:List Str:=["self", "h"]
theorem jI:ao km ["self", "h"] (ag e9):=fsc
theorem aZ(T:Txt w K mg):Ok P w K mg base 7 847 ["self", "h"] (yY):=by
 refine T.o2 "IdealHeap.value" jI λcdv A' outer s' H vs Q E hr h=>?_;obtain⟨x,A,s,h,rfl,J,G,hh,k⟩:=h;have hu:=cY hr;refine#[_,(ai (aB ((ou T).m T.aM hr (az (pv 0) rfl) px (aa (pv 1) ah)))),?_];exact#[_,rfl,x,969,_,_,.ref A.hd,rfl,J.ax,T.af,T.n,eO,A.hd,A.hdx,_,rfl,J.ahd,rfl,_,rfl,A.hd,A.hdx,A.hl,A.hx,s.aG,h,rfl,J.hn G,hh,k]
noncomputable def AO:Sp:=λvs H Q E=>∃ x A s,∃ h g:Int,vs=[.ref x,.int h,.int g]∧IH H x A s∧Good s∧Sm h∧Sm g∧(match wat s.aG h,wat s.aG g with|some a,some b=>Q (.bl (decide (a=b))) H|_,_=>Bad 65 H E)
noncomputable abbrev l7:List Str:=["self", "h", "g"]
theorem kn:ao l7 ["self", "h", "g"] (ag gi):=fsc
theorem kq(T:Txt w K mg):Ok P w K mg base 6 861 ["self", "h", "g"] (AO):=by
 refine T.o3 "IdealHeap.same" kn λcdv A' outer s' H vs Q E hr h=>?_;obtain⟨x,A,s,h,g,rfl,J,G,hh,hg,k⟩:=h;have hu:=cY hr;refine#[_,(ai (aB ((qE T).m T.aM hr (az (pv 0) rfl) px (aa (pv 1) (aa (pv 2) ah))))),?_];exact#[_,rfl,x,969,_,_,.ref A.hd,rfl,J.ax,T.af,T.n,eO,A.hd,A.hdx,_,rfl,J.ahd,rfl,_,rfl,_,rfl,A.hd,A.hdx,A.hl,A.hx,s.aG,h,g,rfl,J.hn G,hh,hg,k]
noncomputable def vP:Sp:=λvs H Q E=>∃ x A s,∃ h:Int,vs=[.ref x,.int h]∧IH H x A s∧Good s∧Sm h∧(match wat s.aG h with|some (.th t)=>∀ H',au H H'→Q (.int (fld s t).length) H'|_=>Bad 65 H E)
noncomputable abbrev jJ:List Str:=["self", "h"]
theorem iX:ao jJ ["self", "h"] (ag dU):=fsc
theorem iY(T:Txt w K mg):Ok P w K mg base 7 854 ["self", "h"] (vP):=by
 refine T.o2 "IdealHeap.fields" iX λcdv A' outer s' H vs Q E hr h=>?_;obtain⟨x,A,s,h,rfl,J,G,hh,k⟩:=h;have hu:=cY hr;refine#[_,(ai (aB (aX aT rfl T.z PyProof.Rows.Boot.«len» (aa (gk hu (az (pv 0) rfl) ((bG T).m T.aM hr (az (pv 0) rfl) px (aa (pv 1) ah)) (λ_ _=>rfl)) ah)))),?_];refine#[_,rfl,x,969,_,_,.ref A.fh,rfl,J.ax,T.af,T.n,lj,_,rfl,x,969,_,_,.ref A.hd,rfl,J.ax,T.af,T.n,eO,A.hd,A.hdx,_,rfl,J.ahd,rfl,_,rfl,A.hd,A.hdx,A.hl,A.hx,s.aG,h,rfl,J.hn G,hh,?_];cases e:wat s.aG h with
 | none=>rw[e]at k;exact k
 | some wd =>
  rw[e]at k;cases wd with
  | no=>exact k
  | num n=>exact k
  | th t =>
   intro H1 s1;have J1:=J.same s1;have m:=G.hand e;obtain⟨hl,rl⟩:=J1.afl _ _ m;refine#[A.fh,_,rfl,J1.IP G m,A.fa t,_,rfl,.inl (SqL.of hl),?_];rw[rl.1];exact k H1 s1
noncomputable def AQ:Sp:=λvs H Q E=>∃ x A s,vs=[.ref x]∧IH H x A s∧(match s.aV with|[]=>Q .non H|z::r=>∀ A' H',IH H' x A' {s with aV:=r}→Fr (aO x A s) H (aO x A' {s with aV:=r}) H'→Q (.int z) H')
noncomputable abbrev l8:List Str:=["self"]
theorem kr:ao l8 ["self"] (ag gg):=fsc
theorem ku(T:Txt w K mg):Ok P w K mg base 2 833 ["self"] (AQ):=by
 refine T.o1 "IdealHeap.take" kr λcdv A' outer s' H vs Q E hr h=>?_;obtain⟨x,A,s,rfl,J,k⟩:=h;refine#[_,(ai (aB ((ke T).m0 T.aR hr (az (pv 0) rfl) px))),?_];refine#[_,rfl,x,969,_,_,.ref A.wt,rfl,J.ax,T.af,T.n,CK,A.wt,A.wtx,_,rfl,J.awt,rfl,A.wt,A.wtx,A.wb,A.wl,s.aS,s.aV,rfl,J.wtb,?_];cases e:s.aV with
 | nil=>rw[e]at k;exact k
 | cons z r =>
  rw[e]at k;have w:=J.KJ (zs:=r);exact k _ _ w.1 w.2
end
section
variable{P:Program}{w:World}{K:W.Frag}{mg:Str→Option Value}{base:Heap}
theorem rQ{F F':Addr→Prop}{H:Hp}{p b:Addr}{u o o':HO}(hp:H p=none)(f:F b)(hb:H b=some u)(n:∀ xs,u≠.tup xs)(g:∀ c,F' c→F c∨c=p):Fr F H F' (upd (upd H p o) b o') where
 ext:=λc v nf q=>by rw[ab λe=>nf (by rw[e];exact f),ab (aj q hp)];exact q
 grow:=λc f'=>(g c f').imp id λe=>by rw[e];exact hp
 all:=λc v q=>by
  by_cases e:c=b
  ·exact#[o',by rw[e];exact ae]
  ·exact#[v,by rw[ab e,ab (aj q hp)];exact q]
 tup:=(a8.of (au.upd hp)).trans (a8.set (au.upd hp _ _ hb) n)
section
variable{H H':Hp}{x:Addr}{A A':HA}{s s':HS}
theorem IH.MR(J:IH H x A s){p:Addr}(hp:H p=none):IH (upd (upd H p (.dK [])) x (.ins 969 A.dx (b8 "young_things" (.ref p) (atts A s)))) x {A with yg:=p} {s with yng:=[]}∧Fr (aO x A s) H (aO x {A with yg:=p} {s with yng:=[]}) (upd (upd H p (.dK [])) x (.ins 969 A.dx (b8 "young_things" (.ref p) (atts A s)))):=by
 have s1:au H (upd H p (.dK [])):=au.upd hp;have nf:¬aO x A s p:=J.fresh hp;have pp:upd H p (.dK []) p=some (.dK []):=ae;refine#[?_,rQ hp (.x) J.ax (λ_ z=>nomatch z) (λc f=>?_)]
 ·have J:=J.same s1
  have tk:a8 (upd H p (.dK [])) (upd (upd H p (.dK [])) x (.ins 969 A.dx (b8 "young_things" (.ref p) (atts A s)))):=a8.set J.ax (λ_ z=>nomatch z);exact#[(by rw[ae,JJ];rfl),(by rw[ab (av J.ahd J.ax (jv (show(1:Nat)≠11 by decide)))];exact J.ahd),(by rw[ab (av J.ahl J.ax (by intro z;cases z))];exact J.ahl),J.rhl.keep tk,(by rw[ab (av J.ant J.ax (jv (show(1:Nat)≠11 by decide)))];exact J.ant),(by rw[ab (av J.anl J.ax (by intro z;cases z))];exact J.anl),(by rw[ab (av J.awt J.ax (jv (show(2:Nat)≠11 by decide)))];exact J.awt),(by rw[ab (av J.awb J.ax (by intro z;cases z))];exact J.awb),(by rw[ab (av J.awl J.ax (by intro z;cases z))];exact J.awl),(by rw[ab (av J.afh J.ax (by intro z;cases z))];exact J.afh),(λt ws m=>#[by rw[ab (av (J.afl _ _ m).1 J.ax (by intro z;cases z))];exact(J.afl _ _ m).1,(J.afl _ _ m).2.keep tk]),(by show upd _ _ _ p=_;rw[ab λe=>nf (by rw[e];exact .x)];exact pp),(by rw[ab (av J.adm J.ax (by intro z;cases z))];exact J.adm),J.nhn,J.l1,J.l2,J.l3,J.l4,J.l5,J.d1,(λ(e:A.wb=p)=>nf (by rw[←e];exact .wb)),J.d3,(λ(e:A.fh=p)=>nf (by rw[←e];exact .fh)),J.d5,(λ(e:p=A.dm)=>nf (by rw[e];exact .dm))]
 ·cases f with
  | x=>exact .inl .x
  | hd=>exact .inl .hd
  | hl=>exact .inl .hl
  | nt=>exact .inl .nt
  | nl=>exact .inl .nl
  | wt=>exact .inl .wt
  | wb=>exact .inl .wb
  | wl=>exact .inl .wl
  | fh=>exact .inl .fh
  | yg=>exact .inr rfl
  | dm=>exact .inl .dm
  | fl m=>exact .inl (.fl m)
theorem IH.MT(J:IH H x A s){ns:List (Option Int)}{p:Addr}(hp:H p=none):IH (upd (upd H p (.lst (ns.map nmV))) A.nt (.ins 660 A.ntx [("things_named",.ref p)])) x {A with nl:=p} {s with names:=ns}∧Fr (aO x A s) H (aO x {A with nl:=p} {s with names:=ns}) (upd (upd H p (.lst (ns.map nmV))) A.nt (.ins 660 A.ntx [("things_named",.ref p)])):=by
 have s1:au H (upd H p (.lst (ns.map nmV))):=au.upd hp;have nf:¬aO x A s p:=J.fresh hp;have pp:upd H p (.lst (ns.map nmV)) p=some (.lst (ns.map nmV)):=ae;refine#[?_,rQ hp (.nt) J.ant (λ_ z=>nomatch z) (λc f=>?_)]
 ·have J:=J.same s1
  have tk:a8 (upd H p (.lst (ns.map nmV))) (upd (upd H p (.lst (ns.map nmV))) A.nt (.ins 660 A.ntx [("things_named",.ref p)])):=a8.set J.ant (λ_ z=>nomatch z);exact#[(by rw[ab (av J.ax J.ant (jv (show(11:Nat)≠1 by decide)))];exact J.ax),(by rw[ab J.nhn];exact J.ahd),(by rw[ab (av J.ahl J.ant (by intro z;cases z))];exact J.ahl),J.rhl.keep tk,ae,(by show upd _ _ _ p=_;rw[ab λe=>nf (by rw[e];exact .nt)];exact pp),(by rw[ab (av J.awt J.ant (jv (show(2:Nat)≠1 by decide)))];exact J.awt),(by rw[ab (av J.awb J.ant (by intro z;cases z))];exact J.awb),(by rw[ab (av J.awl J.ant (by intro z;cases z))];exact J.awl),(by rw[ab (av J.afh J.ant (by intro z;cases z))];exact J.afh),(λt ws m=>#[by rw[ab (av (J.afl _ _ m).1 J.ant (by intro z;cases z))];exact(J.afl _ _ m).1,(J.afl _ _ m).2.keep tk]),(by rw[ab (av J.ayg J.ant (by intro z;cases z))];exact J.ayg),(by rw[ab (av J.adm J.ant (by intro z;cases z))];exact J.adm),J.nhn,(λ(e:A.hl=p)=>nf (by rw[←e];exact .hl)),J.l2,(λ(e:p=A.wl)=>nf (by rw[e];exact .wl)),(λt ws m=>#[(J.l4 _ _ m).1,(λ(e:A.fa t=p)=>nf (by rw[←e];exact .fl m)),(J.l4 _ _ m).2.2]),J.l5,J.d1,J.d2,J.d3,J.d4,J.d5,J.d6]
 ·cases f with
  | x=>exact .inl .x
  | hd=>exact .inl .hd
  | hl=>exact .inl .hl
  | nt=>exact .inl .nt
  | nl=>exact .inr rfl
  | wt=>exact .inl .wt
  | wb=>exact .inl .wb
  | wl=>exact .inl .wl
  | fh=>exact .inl .fh
  | yg=>exact .inl .yg
  | dm=>exact .inl .dm
  | fl m=>exact .inl (.fl m)
noncomputable def jU(fs:List (Int×List Wd))(t:Int):List (Int×List Wd):=fs.filter λp=>decide (p.1≠t)
theorem gC{fs:List (Int×List Wd)}{t t':Int}{ws:List Wd}:(t',ws)∈jU fs t↔(t',ws)∈fs∧t'≠t:=by unfold jU;rw[OH];simp
theorem DJ{fs:List (Int×List Wd)}{A:HA}{t:Int}:ie (fs.map (fkv A)) (Sum.inl t)=(jU fs t).map (fkv A):=by
 unfold ie jU;rw[Qc];congr 1
 refine OY λp _=>?_;show decide (Sum.inl p.1≠(Sum.inl t:Key))=decide (p.1≠t);simp
theorem IH.JL(J:IH H x A s){t:Int}:IH (upd H A.fh (.dK ((jU s.aI t).map (fkv A)))) x A {s with aI:=jU s.aI t}∧Fr (aO x A s) H (aO x A {s with aI:=jU s.aI t}) (upd H A.fh (.dK ((jU s.aI t).map (fkv A)))):=by
 have tk:a8 H (upd H A.fh (.dK ((jU s.aI t).map (fkv A)))):=a8.set J.afh (λ_ z=>nomatch z);refine#[#[(by rw[ab (av J.ax J.afh (by intro z;cases z))];exact J.ax),(by rw[ab (av J.ahd J.afh (by intro z;cases z))];exact J.ahd),(by rw[ab (av J.ahl J.afh (by intro z;cases z))];exact J.ahl),J.rhl.keep tk,(by rw[ab (av J.ant J.afh (by intro z;cases z))];exact J.ant),(by rw[ab (av J.anl J.afh (by intro z;cases z))];exact J.anl),(by rw[ab (av J.awt J.afh (by intro z;cases z))];exact J.awt),(by rw[ab J.d1];exact J.awb),(by rw[ab (av J.awl J.afh (by intro z;cases z))];exact J.awl),ae,(λu ws m'=>by have m:=(gC.mp m').1;exact#[by rw[ab (av (J.afl _ _ m).1 J.afh (by intro z;cases z))];exact(J.afl _ _ m).1,(J.afl _ _ m).2.keep tk]),(by rw[ab (Oj J.d4)];exact J.ayg),(by rw[ab (Oj J.d5)];exact J.adm),J.nhn,J.l1,J.l2,J.l3,(λu ws m=>J.l4 _ _ (gC.mp m).1),(λu ws v w m m' e=>J.l5 _ _ _ _ (gC.mp m).1 (gC.mp m').1 e),J.d1,J.d2,J.d3,J.d4,J.d5,J.d6],Fr.set .fh J.afh (λ_ z=>nomatch z) (λc f=>?_)];cases f with
 | x=>exact .x
 | hd=>exact .hd
 | hl=>exact .hl
 | nt=>exact .nt
 | nl=>exact .nl
 | wt=>exact .wt
 | wb=>exact .wb
 | wl=>exact .wl
 | fh=>exact .fh
 | yg=>exact .yg
 | dm=>exact .dm
 | fl m=>exact .fl (gC.mp m).1
end
inductive Led(rs:List Wd)(F:Int→List Wd)(S:List Int):Int→Prop where
 | root {t:Int}:Wd.th t∈rs→t∈S→Led rs F S t
 | step {u t:Int}:Led rs F S u→Wd.th t∈F u→t∈S→Led rs F S t
theorem Led.mem{rs:List Wd}{F:Int→List Wd}{S:List Int}{t:Int}(h:Led rs F S t):t∈S:=by cases h<;>assumption
noncomputable def amg(S:List Int):Wd→Option Int
 | .th t=>if t∈S then some t else none
 | _=>none
theorem gK{S:List Int}{w:Wd}{t:Int}:amg S w=some t↔w=.th t∧t∈S:=by
 cases w with
 | no=>exact#[(λh=>by cases h),(λh=>by cases h.1)]
 | num n=>exact#[(λh=>by cases h),(λh=>by cases h.1)]
 | th u =>
  show(if u∈S then some u else none)=some t↔_;by_cases c:u∈S
  ·rw[if_pos c]
   exact#[(λh=>by cases h;exact#[rfl,c]),(λh=>by cases h.1;rfl)]
  ·rw[if_neg c]
   exact#[(λh=>by cases h),(λh=>by cases h.1;exact absurd h.2 c)]
inductive Rc(rs:List (Option Int))(F:Int→List (Option Int)):Int→Prop where
 | root {t:Int}:some t∈rs→Rc rs F t
 | step {u t:Int}:Rc rs F u→some t∈F u→Rc rs F t
theorem FF{rs:List Wd}{F:Int→List Wd}{S:List Int}{t:Int}:Rc (rs.map (amg S)) (λu=>(F u).map (amg S)) t↔Led rs F S t:=by
 constructor
 ·intro h
  induction h with
  | root m =>
   obtain⟨w,mw,e⟩:=Og.mp m;obtain⟨rfl,c⟩:=gK.mp e;exact .root mw c
  | step _ m ih =>
   obtain⟨w,mw,e⟩:=Og.mp m;obtain⟨rfl,c⟩:=gK.mp e;exact .step ih mw c
 ·intro h
  induction h with
  | root m c=>exact .root (Og.mpr #[_,m,gK.mpr #[rfl,c]])
  | step _ m c ih=>exact .step ih (Og.mpr #[_,m,gK.mpr #[rfl,c]])
theorem gL:∀ {ms ks:List Int},ms.Nodup→(∀ m∈ms,m∈ks)→ms.length≤ks.length
 | [],_,_,_=>Oy _
 | a::r,ks,nd,h=>by
  rw[Pa]at nd;have ha:=h a NV
  have:=gL (ms:=r) (ks:=ks.erase a) nd.2 λm hm=>(List.mem_erase_of_ne (λe=>nd.1 (by rw[←e];exact hm))).mpr (h m (Oa _ hm))
  rw[List.length_erase_of_mem ha]at this
  have:0<ks.length:=List.length_pos_of_mem ha
  rw[Oi];omega
noncomputable def Kys(kvs:List (Key×V))(ms:List Int):Prop:=kvs.map (·.1)=ms.map Sum.inl
theorem Kys.len{kvs:List (Key×V)}{ms:List Int}(k:Kys kvs ms):kvs.length=ms.length:=by have:=congrArg List.length k;simpa using this
theorem Kys.isS{kvs:List (Key×V)}{ms:List Int}(k:Kys kvs ms){t:Int}:(bU kvs (Sum.inl t)).isSome=decide (t∈ms):=by
 induction kvs generalizing ms with
 | nil=>cases ms with
  | nil=>rfl
  | cons a r=>cases k
 | cons p r ih=>cases ms with
  | nil=>cases k
  | cons a ms =>
   unfold Kys at k;rw[Oo,Oo]at k;injection k with k1 k2;by_cases e:a=t
   ·subst e
    rw[bE k1];simp
   ·rw[bF (λz=>e (Sum.inl.inj (k1.symm.trans z))),ih k2]
    have:(t∈a::ms)↔t∈ms:=by
     rw[NY];exact#[λh=>h.elim (λz=>absurd z.symm e) id,.inr]
    simp only[this]
theorem Kys.non{kvs:List (Key×V)}{ms:List Int}(k:Kys kvs ms){t:Int}(h:t∉ms):bU kvs (Sum.inl t)=none:=by
 have:=k.isS (t:=t)
 rw[decide_eq_false h]at this;cases q:bU kvs (Sum.inl t) with
 | none=>rfl
 | some v=>rw[q]at this;cases this
theorem Kys.snoc{kvs:List (Key×V)}{ms:List Int}(k:Kys kvs ms){t:Int}{v:V}(h:t∉ms):Kys (putK kvs (Sum.inl t) v) (ms++[t]):=by
 rw[iV v (k.non h)];unfold Kys at k ⊢;rw[N9,N9,k];rfl
theorem Kys.at_{kvs:List (Key×V)}{ms:List Int}(k:Kys kvs ms){i:Nat}{p:Key×V}(h:kvs[i]?=some p):∃ t,ms[i]?=some t∧kV p.1=.int t∧p.1=Sum.inl t:=by
 have h1:=congrArg (λl=>l[i]?) k;simp only[N0,h,OL]at h1;obtain⟨t,e1,e2⟩:=Ol.mp h1.symm;exact#[t,e1,by rw[←e2];rfl,e2.symm]
theorem tQ(ts:List Int):Kys (ts.map tkv) ts:=by unfold Kys;rw[OD];rfl
noncomputable def drG(fs:List (Int×List Wd))(gs:List Int):List (Int×List Wd):=fs.filter λp=>decide (p.1∉gs)
noncomputable def nmG(gs:List Int)(n:Option Int):Option Int:=match n with|none=>none|some t=>if t∈gs then none else some t
noncomputable def brG(bs:List (Int×Int))(gs:List Int):List (Int×Int):=bs.filter λp=>decide (p.1∉gs)
noncomputable def sdG(bs:List (Int×Int))(gs:List Int):List Int:=gs.filterMap λt=>bs.lookup t
noncomputable def letGo(s:HS)(gs:List Int):HS:={s with aI:=drG s.aI gs,names:=s.names.map (nmG gs),aS:=brG s.aS gs,aV:=s.aV++sdG s.aS gs}
theorem cm{fs:List (Int×List Wd)}{gs:List Int}{t:Int}{ws:List Wd}:(t,ws)∈drG fs gs↔(t,ws)∈fs∧t∉gs:=by unfold drG;rw[OH];simp
theorem AR{fs:List (Int×List Wd)}{gs:List Int}{t:Int}:drG fs (gs++[t])=jU (drG fs gs) t:=by
 unfold drG jU;rw[List.filter_filter];refine OY λp _=>?_;simp[Om,not_or,Bool.and_comm]
theorem tj{fs:List (Int×List Wd)}:drG fs []=fs:=by unfold drG;simp
theorem u9{bs:List (Int×Int)}{gs:List Int}{t:Int}:brG bs (gs++[t])=(brG bs gs).filter λp=>decide (p.1≠t):=by
 unfold brG;rw[List.filter_filter];refine OY λp _=>?_;simp[Om,not_or,Bool.and_comm]
theorem vQ{bs:List (Int×Int)}{gs:List Int}{t:Int}(h:t∉gs):(brG bs gs).lookup t=bs.lookup t:=by
 unfold brG;induction bs with
 | nil=>rfl
 | cons p r ih =>
  obtain⟨a,b⟩:=p;rw[List.filter_cons];by_cases c:a∈gs
  ·rw[if_neg (by simpa using c),ih,O2]
   rw[show(t == a)=false from beq_eq_false_iff_ne.mpr λe=>h (by rw[e];exact c)]
  ·rw[if_pos (by simpa using c),O2,O2,ih]
theorem DK{bs:List (Int×Int)}{t:Int}:ie (bs.map bkv) (Sum.inl t)=(bs.filter λp=>decide (p.1≠t)).map bkv:=by
 unfold ie;rw[Qc];congr 1
 refine OY λp _=>?_;show decide (Sum.inl p.1≠(Sum.inl t:Key))=decide (p.1≠t);simp
theorem filter_none{bs:List (Int×Int)}{t:Int}(h:bs.lookup t=none):(bs.filter λp=>decide (p.1≠t))=bs:=List.filter_eq_self.mpr λp hp=>by simpa using lookup_none h p hp
theorem va{bs:List (Int×Int)}{gs:List Int}{t:Int}:sdG bs (gs++[t])=sdG bs gs++(match bs.lookup t with|some v=>[v]|none=>[]):=by
 unfold sdG;rw[Pd];congr 1
 cases e:bs.lookup t with
 | none=>simp[e]
 | some v=>simp[e]
end
section
variable{P:Program}{w:World}{K:W.Frag}{mg:Str→Option Value}{base:Heap}
structure Wk(H H4:Hp)(st mt:Addr)(rs:List (Option Int))(F:Int→List (Option Int))(S:List Int)(kvs:List (Key×V))(ms:List Int):Prop where
 sm:au H H4
 hs:H4 st=some (.dK kvs)
 ky:Kys kvs ms
 nd:ms.Nodup
 sub:∀ m∈ms,m∈S
 snd:∀ m∈ms,Rc rs F m
 hm:H4 mt=some (.lst (ms.map V.int))
 rts:∀ t,some t∈rs→t∈ms
theorem Wk.same{H H4 H5:Hp}{st mt:Addr}{rs:List (Option Int)}{F:Int→List (Option Int)}{S:List Int}{kvs:List (Key×V)}{ms:List Int}(w:Wk H H4 st mt rs F S kvs ms)(k:au H4 H5):Wk H H5 st mt rs F S kvs ms :=
 #[w.sm.trans k,k _ _ w.hs,w.ky,w.nd,w.sub,w.snd,k _ _ w.hm,w.rts]
theorem Wk.put{H H4:Hp}{st mt:Addr}{rs:List (Option Int)}{F:Int→List (Option Int)}{S:List Int}{kvs:List (Key×V)}{ms:List Int}(w:Wk H H4 st mt rs F S kvs ms)(h1:H st=none)(h2:H mt=none){n:Int}{v:V}(hn:n∉ms)(hS:n∈S)(hr:Rc rs F n) :
  Wk H (upd (upd H4 st (.dK (putK kvs (Sum.inl n) v))) mt (.lst (ms.map V.int++[.int n]))) st mt rs F S (putK kvs (Sum.inl n) v) (ms++[n]):=by
 have ne:st≠mt:=av w.hs w.hm (by intro z;cases z);refine#[λb u q=>?_,?_,w.ky.snoc hn,?_,λm h=>?_,λm h=>?_,?_,λt h=>Ot _ (w.rts t h)]
 ·rw[ab (aj q h2),ab (aj q h1)]
  exact w.sm b u q
 ·rw[ab ne]
  exact ae
 ·rw[OZ]
  exact#[w.nd,by simp,λa ha b hb=>by rw[NN.mp hb];exact λe=>hn (by rw[←e];exact ha)]
 ·rcases Om.mp h with g|g
  ·exact w.sub m g
  ·rw[NN.mp g];exact hS
 ·rcases Om.mp h with g|g
  ·exact w.snd m g
  ·rw[NN.mp g];exact hr
 ·rw[N9]
  exact ae
theorem AS{ms:List Int}{n:Int}(nd:ms.Nodup)(hn:n∉ms):(ms++[n]).Nodup:=by
 rw[OZ];exact#[nd,by simp,λa ha b hb=>by rw[NN.mp hb];exact λe=>hn (by rw[←e];exact ha)]
theorem FG{rs:List (Option Int)}{F:Int→List (Option Int)}{ms:List Int}(h0:∀ t,some t∈rs→t∈ms)(h1:∀ u∈ms,∀ t,some t∈F u→t∈ms){t:Int}(h:Rc rs F t):t∈ms:=by
 induction h with
 | root m=>exact h0 _ m
 | step _ m ih=>exact h1 _ ih _ m
noncomputable def AU:Sp:=λvs H Q _=>∃(v r d:Addr) (rs:List (Option Int)) (S:List Int) (F:Int→List (Option Int)) (ad:Int→Addr),vs=[.ref v]∧H v=some (.tup [.ref r,.ref d])∧H r=some (.lst (rs.map nmV))∧H d=some (.dK (S.map λt=>(Sum.inl t,.ref (ad t))))∧(∀ t∈S,H (ad t)=some (.lst ((F t).map nmV)))∧(∀ t,some t∈rs→t∈S)∧(∀ u∈S,∀ t,some t∈F u→t∈S)∧S.length≤10000∧∀ st kvs ms H',au H H'→H st=none→H' st=some (.dK kvs)→Kys kvs ms→ms.Nodup→(∀ t,t∈ms↔Rc rs F t)→Q (.ref st) H'
noncomputable abbrev sN:List Str:=["view", "steps", "place", "thing", "met", "done"]
theorem bg:ao sN ["view"] (ag kN):=fsc
theorem qL(T:Txt w K mg):Ok P w K mg base 1 617 ["view"] (AU):=by
 refine T.o1 "last_steps" bg λcdv A' outer s' H vs Q E hr h=>?_;obtain⟨v,r,d,rs,S,F,ad,rfl,ht,hrs,hd,z9,hrt,hcl,C5,k⟩:=h;have hu:=cY hr;refine#[_,(PSs.nox (ak (aY (i:=1) bg.nd rfl (Or.inl rfl) cA)
  (ak (eu OA rfl (sY rfl T.z (aa (aP aL (pv 0) aq (λ_ _=>rfl)) ah)) (qi rfl (cz (bc (i:=2) bg.nd rfl (Or.inl rfl)) (cz (bc (i:=3) bg.nd rfl (Or.inl rfl)) lE)))
   (ai (a6 (PW.pt (pw_and (aH lF (pv 3) bu (aN _)) (pw_and1 (jf (eD hu (pv 3) (pv 1)) (by with_unfolding_all rfl)))))
    (ai (eN hu (pv 1) (pv 3) (bY (aa bu (aa (pv 2) ah))) rfl))
    aK)))
  (ak (aY (i:=4) bg.nd rfl (Or.inl rfl) (cj (vF rfl) rfl T.z PyProof.Rows.Boot.«list» (aa (pv 1) ah)))
  (ak (aY (i:=5) bg.nd rfl (Or.inl rfl) aq)
  (ak (uD OA (aH oQ (pv 5) (aX aT rfl T.z PyProof.Rows.Boot.«len» (aa (pv 4) ah)) (aN _))
   (ak (eu OA rfl (sY rfl T.z (aa (gk hu (aP aL (pv 0) aq (λ_ _=>rfl)) (aP dE (pv 4) (pv 5) (λ_ _=>rfl)) (λ_ _=>rfl)) ah)) (qi rfl (cz (bc (i:=2) bg.nd rfl (Or.inl rfl)) (cz (bc (i:=3) bg.nd rfl (Or.inl rfl)) lE)))
    (ai (a6 (PW.pt (pw_and (aH lF (pv 3) bu (aN _)) (pw_and1 (jf (eD hu (pv 3) (pv 1)) (by with_unfolding_all rfl)))))
     (ak (eN hu (pv 1) (pv 3) (bY (aa (aP dE (pv 4) (pv 5) (λ_ _=>rfl)) (aa (pv 2) ah))) rfl)
     (ai (aC (m8 PySem.F.plainAttrs_list PySem.F.slot_list_append PySem.F.type_list_append ja (pv 4) (aa (pv 3) ah)))))
     aK)))
   (ai (EY (i:=5) bg.nd rfl (Or.inl rfl) aq EZ))))
  (ai (aB (pv 1))))))))),?_]
 refine λst hst=>?_;have s0:au H (upd H st (.dK [])):=au.upd hst;have kyS:Kys (S.map λt=>((Sum.inl t:Key),V.ref (ad t))) S:=by unfold Kys;rw[OD];rfl
 have dgS:∀ {Hc:Hp},au H Hc→∀ {t:Int},t∈S→iI Hc d (.int t) (some (.ref (ad t))):=λ{Hc} sc {t} m=>by
  have e:bU (S.map λt=>((Sum.inl t:Key),V.ref (ad t))) (Sum.inl t)=some (.ref (ad t)):=by
   clear kyS C5 hcl hrt z9 hd;induction S with
   | nil=>cases m
   | cons a r ih =>
    rw[Oo];by_cases c:a=t
    ·rw[bE (by show Sum.inl a=Sum.inl t;rw[c]),c]
    ·rw[bF (λz=>c (Sum.inl.inj z))]
     exact ih ((NY.mp m).resolve_left λz=>c z.symm)
  exact .inl #[_,Sum.inl t,.inl (sc _ _ hd),rfl,e.symm]
 have few:∀ {kvs:List (Key×V)} {ms:List Int},Kys kvs ms→ms.Nodup→(∀ m∈ms,m∈S)→kvs.length<sizeLine:=λk nd h=>by rw[k.len];exact k6 (NW (gL nd h) (by omega))
 refine#[_,rfl,v,_,0,.ref r,rfl,rfl,SqT.of (s0 _ _ ht),rfl,r,rfl,#[_,SqL.of (s0 _ _ hrs)],p8 (K:=K) (a:=r) (xs:=rs.map nmV) (λi σ H2=>∃(v2 v3:Option V) (kvs:List (Key×V)) (ms:List Int),σ=[some (.ref v),some (.ref st),v2,v3,none,none]∧au H H2∧H2 st=some (.dK kvs)∧Kys kvs ms∧ms.Nodup∧(∀ m∈ms,m∈S)∧(∀ m∈ms,Rc rs F m)∧∀(j:Nat) t,j<i→rs[j]?=some (some t)→t∈ms)
  #[none,none,[],[],rfl,s0,ae,rfl,List.nodup_nil,(λt h=>nomatch h),(λt h=>nomatch h),(λj t h=>absurd h (PV _))] (λi σ H2 _ ⟨_,_,_,_,_,s2,_⟩=>SqL.of (s2 _ _ hrs)) ?_ ?_]
 ·rintro i x σ H2 t hx ⟨v2,v3,kvs,ms,rfl,s2,hs,ky,nd,sub,snd,nY⟩ htt
  have hi:i<rs.length:=by have:=(NK.mp hx).1;rwa[NI]at this
  have ri:rs[i]?=some rs[i]:=NJ hi;have hxe:x=nmV rs[i]:=by
   rw[N0,ri]at hx;exact(Oh hx).symm
  subst hxe;have s3:au H2 (upd H2 t (.tup [.int (i:Int),nmV rs[i]])):=au.upd htt;refine#[t,_,rfl,SqT.of ae,rfl,_,_,rfl,_,_,rfl,rfl,?_];cases hc:rs[i] with
  | none =>
   rw[hc]at s3 ri;refine#[_,rfl,rfl,_,rfl,b7 (b7 #[_,_,kvs,ms,rfl,s2.trans s3,s3 _ _ hs,ky,nd,sub,snd,λj t hj e=>?_])];rcases Pe j i with z|z
   ·exact nY j t z e
   ·rw[show j=i by omega,ri]at e
    cases e
  | some n =>
   rw[hc]at s3 ri;have mr:=Of ri;refine#[_,rfl,rfl,_,rfl,cZ #[_,rfl,_,rfl,st,_,rfl,iI.k (k:=Sum.inl n) (s3 _ _ hs),_,rfl,?_]];rw[ky.isS];by_cases hin:n∈ms
   ·rw[decide_eq_true hin]
    refine b7 #[_,_,kvs,ms,rfl,s2.trans s3,s3 _ _ hs,ky,nd,sub,snd,λj t hj e=>?_];rcases Pe j i with z|z
    ·exact nY j t z e
    ·rw[show j=i by omega,ri]at e
     cases e;exact hin
   ·rw[decide_eq_false hin]
    refine cZ #[_,rfl,by show 2≤sizeLine;decide,λu hu'=>?_];have s4:=au.upd (o:=.tup [V.non,V.int (i:Int)]) hu';refine#[_,rfl,_,rfl,st,_,rfl,pd.k (k:=Sum.inl n) (s4 _ _ (s3 _ _ hs)) (few ky nd sub),_,_,putK kvs (Sum.inl n) (.ref u),ms++[n],rfl,λc u' g=>by rw[ab (aj g hst)];exact s4 _ _ (s3 _ _ (s2 c u' g)),ae,ky.snoc hin,AS nd hin,λm h=>?_,λm h=>?_,λj t hj e=>?_]
    ·rcases Om.mp h with g|g
     ·exact sub m g
     ·rw[NN.mp g];exact hrt n mr
    ·rcases Om.mp h with g|g
     ·exact snd m g
     ·rw[NN.mp g];exact .root mr
    ·rcases Pe j i with z|z
     ·exact Ot _ (nY j t z e)
     ·rw[show j=i by omega,ri]at e
      cases e;exact NS _ NV
 ·rintro σ H2 ⟨v2,v3,kvs,ms,rfl,s2,hs,ky,nd,sub,snd,nY⟩
  refine#[_,rfl,st,_,ms,rfl,.inl hs,ky,λmt hmt=>?_];have s3:=au.upd (o:=.lst (ms.map V.int)) hmt;have MU:H mt=none:=au.none s2 hmt;refine#[λm σ H4=>∃(dn:Nat) (v2 v3:Option V) (kvs:List (Key×V)) (ms:List Int),m=S.length+1-dn∧σ=[some (.ref v),some (.ref st),v2,v3,some (.ref mt),some (.int (dn:Int))]∧Wk H H4 st mt rs F S kvs ms∧(∀ u∈ms.take dn,∀ t,some t∈F u→t∈ms)∧dn≤ms.length,#[_,0,v2,v3,kvs,ms,rfl,rfl,#[s2.trans s3,s3 _ _ hs,ky,nd,sub,snd,ae,λt h=>?_],(λu h=>nomatch h),Oy _],?_]
  ·obtain⟨j,hj⟩:=PB.mp h
   exact nY j t (by rw[NI];exact(NK.mp hj).1) hj
  clear hs ky nd sub snd nY s3 s2;rintro m σ H4 ⟨dn,v2,v3,kvs,ms,rfl,rfl,W,don,hdl⟩;have ml:=gL W.nd W.sub;refine#[_,rfl,_,rfl,mt,_,rfl,.inl (SqL.of W.hm),_,_,rfl,rfl,_,rfl,bw (λh=>?_) (λh=>?_)]
  ·have hd1:dn<ms.length:=by
    have h1:(dn:Int)<((ms.map V.int).length:Int):=(by simpa using h);rw[NI]at h1;omega
   refine#[λσ' H'=>∃ m',m'<S.length+1-dn∧∃(dn:Nat) (v2 v3:Option V) (kvs:List (Key×V)) (ms:List Int),m'=S.length+1-dn∧σ'=[some (.ref v),some (.ref st),v2,v3,some (.ref mt),some (.int (dn:Int))]∧Wk H H' st mt rs F S kvs ms∧(∀ u∈ms.take dn,∀ t,some t∈F u→t∈ms)∧dn≤ms.length,λ_ _ h=>h,?_];have tk:ms.take (dn+1)=ms.take dn++[ms[dn]]:=Ob hd1;obtain⟨t,et⟩:∃ t,ms[dn]=t:=#[_,rfl];obtain⟨pre,DL⟩:∃ pre,ms.take dn=pre:=#[_,rfl];rw[et,DL]at tk;rw[DL]at don;have MV:pre.length=dn:=(by rw[←DL,Oq];omega);have htm:t∈ms:=(by rw[←et];exact OB hd1);have hin:t∈S:=W.sub t htm;have at_:∀ {ns:List Int},ns.take (dn+1)=pre++[t]→ns[dn]?=some t:=λ{ns} e=>by
    have:(ns.take (dn+1))[dn]?=some t:=by rw[e,Ox (by omega),MV,Qd];rfl
    rwa[List.getElem?_take_of_lt (P8 _)]at this
   have hat:∀ {ns:List Int},ns.take (dn+1)=pre++[t]→atI (ns.map V.int) (dn:Int)=some (.int t):=λe=>cE (by rw[N0,at_ e];rfl);have rw_:=z9 t hin;refine#[_,rfl,v,_,1,.ref d,rfl,rfl,SqT.of (W.sm _ _ ht),rfl,_,rfl,_,rfl,mt,_,_,.int t,rfl,rfl,SqL.of W.hm,hat tk,d,_,rfl,dgS W.sm hin,ad t,rfl,#[_,SqL.of (W.sm _ _ rw_)],
    p8 (K:=K) (a:=ad t) (xs:=(F t).map nmV) (λj σ H6=>∃(v2 v3:Option V) (kvs:List (Key×V)) (ms:List Int),σ=[some (.ref v),some (.ref st),v2,v3,some (.ref mt),some (.int (dn:Int))]∧Wk H H6 st mt rs F S kvs ms∧ms.take (dn+1)=pre++[t]∧dn<ms.length∧(∀ u∈pre,∀ t,some t∈F u→t∈ms)∧∀(q:Nat) n,q<j→(F t)[q]?=some (some n)→n∈ms)
    #[v2,v3,kvs,ms,rfl,W,tk,hd1,don,(λq n h=>absurd h (PV _))] (λj σ H6 _ ⟨_,_,_,_,_,w6,_⟩=>SqL.of (w6.sm _ _ rw_)) ?_ ?_]
   ·clear W don hdl ml hd1 tk et DL htm
    rintro j x σ H6 u hx ⟨v2,v3,kvs,ms,rfl,W,tk,hd1,don,nY⟩ hut;have hlj:j<(F t).length:=(by have:=(NK.mp hx).1;rwa[NI]at this);have fj:(F t)[j]?=some (F t)[j]:=NJ hlj;have hxe:x=nmV (F t)[j]:=by
     rw[N0,fj]at hx;exact(Oh hx).symm
    subst hxe;have htm:t∈ms:=Of (at_ tk);refine#[u,_,rfl,SqT.of ae,rfl,_,_,rfl,_,_,rfl,rfl,?_];cases hc:(F t)[j] with
    | none =>
     rw[hc]at fj;have s7:=au.upd (o:=.tup [.int (j:Int),nmV none]) hut;refine#[_,rfl,rfl,_,rfl,b7 (b7 #[_,_,kvs,ms,rfl,W.same s7,tk,hd1,don,λq n hq e=>?_])];rcases Pe q j with z|z
     ·exact nY q n z e
     ·rw[show q=j by omega,fj]at e
      cases e
    | some n =>
     rw[hc]at fj;have mf:=Of fj;have hk:n∈S:=hcl t hin n mf;have s7:=au.upd (o:=.tup [.int (j:Int),nmV (some n)]) hut;have W7:=W.same s7;refine#[_,rfl,rfl,_,rfl,cZ #[_,rfl,_,rfl,st,_,rfl,iI.k (k:=Sum.inl n) W7.hs,_,rfl,?_]];rw[W7.ky.isS];by_cases hn6:n∈ms
     ·rw[decide_eq_true hn6]
      refine b7 #[_,_,kvs,ms,rfl,W7,tk,hd1,don,λq n' hq e=>?_];rcases Pe q j with z|z
      ·exact nY q n' z e
      ·rw[show q=j by omega,fj]at e
       cases e;exact hn6
     ·rw[decide_eq_false hn6]
      refine cZ #[_,rfl,_,rfl,mt,_,_,.int t,rfl,rfl,SqL.of W7.hm,hat tk,_,rfl,by show 2≤sizeLine;decide,λu2 hu2=>?_];have s8:=au.upd (o:=.tup [V.int t,V.int (j:Int)]) hu2;have W8:=W7.same s8;have W9:=W8.put (v:=.ref u2) hst MU hn6 hk (.step (W.snd t htm) mf);have nms:mt≠st:=av W8.hm W8.hs (by intro z;cases z);have zm9:upd (upd (upd H6 u (.tup [.int (j:Int),nmV (some n)])) u2 (.tup [V.int t,V.int (j:Int)])) st (.dK (putK kvs (Sum.inl n) (.ref u2))) mt=some (.lst (ms.map V.int)):=(by rw[ab nms];exact W8.hm);refine#[_,rfl,_,rfl,st,_,rfl,pd.k (k:=Sum.inl n) W8.hs (few W8.ky W8.nd W8.sub),?_];refine#[_,rfl,.inl #[rfl,_,SqL.of zm9],_,rfl,mt,_,_,rfl,rfl,zm9,by rw[NI];exact k6 (NW (gL W8.nd W8.sub) (by omega)),?_];refine#[_,_,_,ms++[n],rfl,W9,by rw[List.take_append_of_le_length (by omega)];exact tk,by rw[NX];omega,λu h t' e=>Ot _ (don u h t' e),λq n' hq e=>?_];rcases Pe q j with z|z
      ·exact Ot _ (nY q n' z e)
      ·rw[show q=j by omega,fj]at e
       cases e;exact NS _ NV
   ·clear W don hdl ml hd1 tk et DL htm
    rintro σ H6 ⟨v2,v3,kvs,ms,rfl,W,tk,hd1,don,nY⟩;rw[NI]at nY;have ml:=gL W.nd W.sub;refine#[_,rfl,_,1,rfl,rfl,S.length+1-(dn+1),by omega,dn+1,v2,v3,kvs,ms,rfl,rfl,W,λu h t' e=>?_,hd1];rw[tk]at h;rcases Om.mp h with g|g
    ·exact don u g t' e
    ·rw[NN.mp g]at e
     obtain⟨q,hq⟩:=PB.mp e;exact nY q t' (NK.mp hq).1 hq
  ·have hge:ms.length≤dn:=by
    have h1:¬(dn:Int)<((ms.map V.int).length:Int):=(by simpa using h);rw[NI]at h1;omega
   rw[NZ hge]at don;exact#[_,rfl,k st kvs ms H4 W.sm hst W.hs W.ky W.nd λt=>#[W.snd t,FG W.rts don]]
end
end K27
end
section
namespace L2
open PySem PySem.Spec PyProof.Rows LX
section
variable{X:Cx}
theorem JM{n:Option Int}{zs:List Int}{f:Option Int→V}(hf:f none=.non)(hs:∀ t,f (some t)=.int t):inV (f n) (zs.map V.int)=(match n with|none=>false|some t=>decide (t∈zs)):=by
 unfold inV;cases n with
 | none =>
  rw[hf];show _=false;rw[List.any_map];refine List.any_eq_false.mpr λz _=>?_;simp[eqV]
 | some t =>
  rw[hs,List.any_map];show _=decide (t∈zs);induction zs with
  | nil=>rfl
  | cons a r ih =>
   rw[Pr,ih];by_cases e:a=t
   ·subst e
    simp[eqV]
   ·have:(t∈a::r)↔t∈r:=by
     rw[NY];exact#[λh=>h.elim (λz=>absurd z.symm e) id,.inr]
    simp[eqV,e,this]
end
end L2
end
section
namespace K27
open PySem L2 LX
section
variable{P:Program}{w:World}{K:W.Frag}{mg:Str→Option Value}{base:Heap}
theorem xO{H:Hp}{xs:List V}{ws:List Wd}(r:Rel H xs ws){i:Nat}{x:V}(h:xs[i]?=some x):∃ w,ws[i]?=some w∧WV H x w:=by
 have hi:=(NK.mp h).1;have hw:i<ws.length:=by rw[←r.1];exact hi
 obtain⟨v,hv,wv⟩:=r.get hw;rw[hv]at h;cases h;exact#[_,NJ hw,wv]
noncomputable def JN:Sp:=λvs H Q _=>∃ v w d kvs S,vs=[v,.ref d]∧WV H v w∧Rd H d (.dK kvs)∧Kys kvs S∧Q (nmV (amg S w)) H
noncomputable abbrev qM:List Str:=["value", "things"]
theorem oy:ao qM ["value", "things"] (ag jr):=fsc
theorem iL(T:Txt w K mg):Ok P w K mg base 2 798 ["value", "things"] (JN):=by
 refine T.o2 "thing_among" oy λcdv A' outer s' H vs Q E hr h=>?_;obtain⟨v,w,d,kvs,S,rfl,wv,hd,hk,k⟩:=h;have hu:=cY hr;refine#[_,(PSs.nox (ak (a6 (PW.pt (pw_and (aH dB ((pB T).c hr b4 (aa (pv 0) ah)) aw (aN _)) (pw_and1 (jf (wO hu (aP aL (pv 0) aq (λ_ _=>rfl)) (pv 1)) (by with_unfolding_all rfl)))))
   (ai (aB (aP aL (pv 0) aq (λ_ _=>rfl))))
   aK)
  (ai (aB bu)))),?_]
 refine#[_,rfl,v,w,rfl,wv,?_];cases w with
 | no=>exact#[rfl,_,rfl,bw (λh=>absurd h (OU.mp (by kernel_rfl))) (λ_=>b7 k)]
 | num n=>exact#[rfl,_,rfl,bw (λh=>absurd h (OU.mp (by kernel_rfl))) (λ_=>b7 k)]
 | th t =>
  obtain⟨a,rfl,ht⟩:=wv;refine#[rfl,_,rfl,bw (λ_=>?_) (λh=>absurd (by kernel_rfl) h)];refine#[_,rfl,a,_,1,.int t,rfl,rfl,SqT.of ht,rfl,_,rfl,d,_,rfl,.inl #[kvs,Sum.inl t,hd,rfl,rfl],_,rfl,?_];rw[hk.isS];by_cases c:t∈S
  ·rw[decide_eq_true c]
   rw[show amg S (.th t)=some t from if_pos c]at k;exact cZ #[_,rfl,a,_,1,.int t,rfl,rfl,SqT.of ht,rfl,k]
  ·rw[decide_eq_false c]
   rw[show amg S (.th t)=none from if_neg c]at k;exact b7 k
noncomputable def FH:Sp:=λvs H Q _=>∃ x A s l xs ws d kvs S,vs=[.ref x,.ref l,.ref d]∧IH H x A s∧Good s∧H l=some (.lst xs)∧Rel H xs ws∧ws.length≤100000∧H d=some (.dK kvs)∧Kys kvs S∧(∀ t∈S,∃ ws,(t,ws)∈s.aI)∧S.Nodup∧S.length≤10000∧∀ st kv ms H',au H H'→H st=none→H' st=some (.dK kv)→Kys kv ms→ms.Nodup→(∀ t,t∈ms↔Led ws (fld s) S t)→Q (.ref st) H'
noncomputable abbrev c9:List Str:=["self", "leads", "things", "fields", "t"]
theorem cP:ao c9 ["self", "leads", "things"] (ag cg):=fsc
theorem fB(T:Txt w K mg):Ok P w K mg base 3 784 ["self", "leads", "things"] (FH):=by
 refine T.o3 "Heap.led_among" cP λcdv A' outer s' H vs Q E hr h=>?_;obtain⟨x,A,s,l,xs,ws,d,kvs,S,rfl,J,G,hl,rx,hw,hd,hk,hin,hnd,C5,k⟩:=h;have hu:=cY hr;refine#[_,(PSs.nox (ak (aY (i:=3) cP.nd rfl (Or.inl rfl) cA)
  (ak (eu OA rfl (lL (qu (pv 2))) (bc (i:=4) cP.nd rfl (Or.inl rfl))
   (ai (eN hu (pv 3) (pv 4) (lK (cl:=[("things",s'.heap.objs.size+1)]) (x := "value") (idx:=[2]) (NC:=["value", "things"]) ?co2 rfl (dD (gk hu (az (pv 0) rfl) (pv 4) (λ_ _=>rfl))) (λC fp s₀ H₀=>((iL T).c hr qX (aa (pv 0) (aa (pv 1) ah))))) rfl)))
  (ai (aB (BF ((qL T).c hr b4 (aa (bY (aa (lK (cl:=[("things",s'.heap.objs.size+1)]) (x := "value") (idx:=[2]) (NC:=["value", "things"]) ?co1 rfl (dD (pv 1)) (λC fp s₀ H₀=>((iL T).c hr qX (aa (pv 0) (aa (pv 1) ah))))) (aa (pv 3) ah))) ah)))))))),?_]
 case co1 =>
  exact gn (sc:=ag cg) (N:=c9) (ns:=["things"]) rfl rfl rfl (by decide +kernel) rfl rfl (by
   intro q hq;rw[NN.mp hq];rfl)
 case co2 =>
  exact gn (sc:=ag cg) (N:=c9) (ns:=["things"]) rfl rfl rfl (by decide +kernel) rfl rfl (by
   intro q hq;rw[NN.mp hq];rfl)
 intro fa hfa;have s1:=au.upd (o:=.dK []) hfa;refine#[_,rfl,d,kvs,s1 _ _ hd,λo=>?_];have nfd:fa≠d:=Oj (aj hd hfa);have xd:x≠d:=av J.ax hd (by intro z;cases z);have ld:l≠d:=av hl hd (by intro z;cases z);have okH:∀ Hc:Hp,((∀ b u,b≠d→H b=some u→Hc b=some u)∧Hc d=some (.frz o (.dK kvs)))→a8 H Hc:=λHc oc b us q=>oc.1 b _ (av q hd (by intro z;cases z)) q;have dg:∀ {Hc:Hp},((∀ b u,b≠d→H b=some u→Hc b=some u)∧Hc d=some (.frz o (.dK kvs)))→∀ {t:Int} {ws:List Wd},(t,ws)∈s.aI→iI Hc A.fh (.int t) (some (.ref (A.fa t))):=λ{Hc} oc {t ws} m=>by
  have e:bU (s.aI.map (fkv A)) (Sum.inl t)=some (.ref (A.fa t)):=by rw[BJ,G.get m];rfl
  by_cases c:A.fh=d
  ·have ek:kvs=s.aI.map (fkv A):=by
    have:=J.afh
    rw[c,hd]at this;injection this with this;injection this
   exact .inl #[kvs,Sum.inl t,.inr #[o,by rw[c];exact oc.2],rfl,by rw[ek,e]]
  ·exact .inl #[_,Sum.inl t,.inl (oc.1 _ _ c J.afh),rfl,e.symm]
 have lk:=hk.len;refine#[d,o,kvs,rfl,ae,p9 (d:=d) (o:=o) (kvs:=kvs) (λi σ Hc=>∃(v4:Option V) (ad:Int→Addr),σ=[some (.ref x),some (.ref l),some (.ref d),some (.ref fa),v4]∧((∀ b u,b≠d→H b=some u→Hc b=some u)∧Hc d=some (.frz o (.dK kvs)))∧Hc fa=some (.dK ((S.take i).map λt=>(Sum.inl t,.ref (ad t))))∧∀ t∈S.take i,Hc (ad t)=some (.lst (((fld s t).map (amg S)).map nmV)))
  #[none,λ_=>0,rfl,#[λb u n q=>by rw[ab n];exact s1 b u q,ae],by rw[ab nfd];exact ae,(λt h=>nomatch h)] (λi σ Hc _ ⟨_,_,_,oc,_⟩=>oc.2) ?_ ?_]
 ·rintro i p σ Hc hi ⟨v4,ad,rfl,oc,hf,z9⟩
  obtain⟨t,ht,ekv,ep⟩:=hk.at_ hi;have hlt:i<S.length:=(NK.mp ht).1;have et:S[i]=t:=(NK.mp ht).2;have mt:t∈S:=Of ht;obtain⟨w0,m⟩:=hin t mt;obtain⟨hl0,rl⟩:=J.afl _ _ m;have tc:=okH Hc oc;have fm:=G.fld m;rw[←fm]at rl;have nl:A.fa t≠d:=av hl0 hd (by intro z;cases z);have hlc:=oc.1 _ _ nl hl0;have f6:=G.f6 _ _ m;rw[←fm]at f6;have lz:(fld s t).length≤sizeLine:=qG (by omega);refine#[_,rfl,x,969,_,_,.ref A.fh,rfl,oc.1 _ _ xd J.ax,T.af,T.n,lj,_,rfl,A.fh,.ref (A.fa t),rfl,(by rw[ekv];exact dg oc m),A.fa t,rfl,#[_,SqL.of hlc],λL hL=>?_];refine gB (K:=K) (a:=A.fa t) (xs:=A.fx t) (λi ys H2=>ys=((fld s t).take i).map (λw=>nmV (amg S w))∧au Hc H2∧H2 L=some (.lst ys)) #[rfl,au.upd hL,ae] (λi ys H2 hi ⟨e,_,z⟩=>#[z,by rw[e,NI,Oq,←rl.1];omega]) (λi ys H2 hi ⟨_,s2,_⟩=>SqL.of (s2 _ _ hlc)) (by rw[rl.1];exact lz) (λi y ys H2 hi ⟨e,s2,z⟩=>?_) (λys H2 ⟨e,s2,z⟩=>?_)
  ·obtain⟨wd,hw,wv⟩:=xO rl hi
   refine#[_,rfl,_,rfl,y,wd,d,kvs,S,rfl,wv.keep (tc.trans (a8.of s2)),.inr #[o,s2 _ _ oc.2],hk,z,?_,λb u q=>by rw[ab (aj q hL)];exact s2 b u q,ae];have hlt:i<(fld s t).length:=(NK.mp hw).1;rw[Ob hlt,N9,e,(NK.mp hw).2];rfl
  ·rw[rl.1,NZ (NO _)]at e
   have zf:H2 fa=some (.dK ((S.take i).map λt=>(Sum.inl t,.ref (ad t)))):=s2 _ _ hf;have kyf:Kys ((S.take i).map λt=>((Sum.inl t:Key),V.ref (ad t))) (S.take i):=(by unfold Kys;rw[OD];rfl);have ni:t∉S.take i:=λz=>by
    have:=OZ.mp (show(S.take i++S.drop i).Nodup by rw[PD];exact hnd)
    exact this.2.2 t z t (by rw[Pk hlt,et];exact NV) rfl
   have nLf:L≠fa:=Oj (aj hf hL);refine#[_,rfl,_,rfl,fa,_,rfl,(by rw[ekv];exact pd.k (k:=Sum.inl t) zf (by rw[NI,Oq];exact k6 (by omega))),?_];rw[iV _ (kyf.non ni)];refine#[_,λu=>if u=t then L else ad u,rfl,#[λb u n q=>?_,?_],?_,λu hu'=>?_]
   ·rw[ab (aj q hfa)]
    exact s2 _ _ (oc.1 b u n q)
   ·rw[ab (Oj nfd)]
    exact s2 _ _ oc.2
   ·rw[ae,Ob hlt,N9,et]
    congr 3
    ·refine ON λu hu'=>?_
     dsimp only;rw[if_neg λz=>ni (by rw[←z];exact hu')]
    ·simp only[Oo,Pq,if_true]
   ·rw[Ob hlt,et]at hu'
    dsimp only;by_cases c:u=t
    ·subst c
     rw[if_pos rfl,ab nLf,z,e,OD];rfl
    ·rw[if_neg c]
     have mu:u∈S.take i:=(Om.mp hu').resolve_right λz=>c (NN.mp z);have q:=z9 u mu;rw[ab (λz=>by rw[z,hf]at q;cases q)];exact s2 _ _ q
 ·rintro σ Hc ⟨v4,ad,rfl,oc,hf,z9⟩
  rw[lk,NZ (NO _)]at hf z9;have tc:=okH Hc oc;have hlc:=oc.1 _ _ ld hl;have lz:ws.length≤sizeLine:=NW hw (by decide);have rl:=rx;refine#[_,rfl,l,rfl,#[_,SqL.of hlc],λL hL=>?_];refine gB (K:=K) (a:=l) (xs:=xs) (λi ys H2=>ys=(ws.take i).map (λw=>nmV (amg S w))∧au Hc H2∧H2 L=some (.lst ys)) #[rfl,au.upd hL,ae] (λi ys H2 hi ⟨e,_,z⟩=>#[z,by rw[e,NI,Oq,←rl.1];omega]) (λi ys H2 hi ⟨_,s2,_⟩=>SqL.of (s2 _ _ hlc)) (by rw[rl.1];exact lz) (λi y ys H2 hi ⟨e,s2,z⟩=>?_) (λys H2 ⟨e,s2,z⟩=>?_)
  ·obtain⟨wd,hw,wv⟩:=xO rl hi
   refine#[_,rfl,_,rfl,y,wd,d,kvs,S,rfl,wv.keep (tc.trans (a8.of s2)),.inr #[o,s2 _ _ oc.2],hk,z,?_,λb u q=>by rw[ab (aj q hL)];exact s2 b u q,ae];have hlt:i<ws.length:=(NK.mp hw).1;rw[Ob hlt,N9,e,(NK.mp hw).2];rfl
  ·rw[rl.1,NZ (NO _)]at e
   refine#[_,rfl,by show 2≤sizeLine;decide,λv hv=>?_];have s3:=au.upd (o:=.tup [V.ref L,V.ref fa]) hv;have s4:=s2.trans s3;have bk:∀ {b:Addr},upd H2 v (.tup [V.ref L,V.ref fa]) b=none→H b=none:=λ{b} q=>by
    cases z:H b with
    | none=>rfl
    | some u =>
     by_cases c:b=d
     ·rw[c,s4 _ _ oc.2]at q;cases q
     ·rw[s4 _ _ (oc.1 b u c z)]at q;cases q
   refine#[v,L,fa,ws.map (amg S),S,λt=>(fld s t).map (amg S),ad,rfl,ae,by rw[s3 _ _ z,e,OD];rfl,s4 _ _ hf,λt m=>s4 _ _ (z9 t m),λt m=>?_,λu _ t m=>?_,C5,λst kv ms H5 s5 hst h5 k5 n5 m5=>?_]
   ·obtain⟨w,_,ew⟩:=Og.mp m
    exact(gK.mp ew).2
   ·obtain⟨w,_,ew⟩:=Og.mp m
    exact(gK.mp ew).2
   ·have fd5:=s5 _ _ (s4 _ _ oc.2)
    refine#[d,o,kvs,fd5,(λo' u' q=>by have q:H d=some (.frz o' u'):=q;rw[hd]at q;cases q),?_];have nst:st≠d:=λq=>by rw[q,fd5]at h5;cases h5
    refine k st kv ms _ (λb u q=>?_) (bk hst) (by rw[ab nst];exact h5) k5 n5 λt=>(m5 t).trans FF;by_cases c:b=d
    ·subst c
     rw[hd]at q;cases q;exact ae
    ·rw[ab c]
     exact s5 _ _ (s4 _ _ (oc.1 b u c q))
end
section
variable{P:Program}{w:World}{K:W.Frag}{mg:Str→Option Value}{base:Heap}
theorem lookup_mem{α:Type}{fs:List (Int×α)}{t:Int}{w:α}(m:(t,w)∈fs):∃ v,fs.lookup t=some v:=by
 cases e:fs.lookup t with
 | some v=>exact#[v,rfl]
 | none=>exact absurd rfl (lookup_none e _ m)
theorem yZ(gs:List Int):(gs.map V.int).all cQ=true:=O1.mpr λv hv=>by obtain⟨n,_,rfl⟩:=Og.mp hv;rfl
theorem DM(n:Option Int):cQ (nmV n)=true:=by cases n<;>rfl
theorem BM{gs:List Int}(h:gs.Pairwise (·< ·)){i:Nat}{t:Int}(e:gs[i]?=some t):t∉gs.take i:=λm=>by
 have hlt:=(NK.mp e).1;have et:=(NK.mp e).2
 have:=PM.mp (show(gs.take i++gs.drop i).Pairwise (·< ·) by rw[PD];exact h)
 have:=this.2.2 t m t (by rw[Pk hlt,et];exact NV)
 omega
theorem take_snoc{α:Type}{gs:List α}{i:Nat}{t:α}(e:gs[i]?=some t):gs.take (i+1)=gs.take i++[t]:=by rw[Ob (NK.mp e).1,(NK.mp e).2]
theorem BN(bs:List (Int×Int))(gs:List Int):(sdG bs gs).length≤gs.length:=List.length_filterMap_le _ _
noncomputable def DN:Sp:=λvs H Q _=>∃ x A s g gs,vs=[.ref A.nt,.ref g]∧IH H x A s∧s.names.length=8∧H g=some (.lst (gs.map V.int))∧∀ A' H',IH H' x A' {s with names:=s.names.map (nmG gs)}→Fr (aO x A s) H (aO x A' {s with names:=s.names.map (nmG gs)}) H'→Q .non H'
noncomputable abbrev d7:List Str:=["self", "things"]
theorem iZ:ao d7 ["self", "things"] (ag cp):=fsc
theorem i3(T:Txt w K mg):Ok P w K mg base 1 657 ["self", "things"] (DN):=by
 refine T.o2 "NameTable.settle" iZ λcdv A' outer s' H vs Q E hr h=>?_;obtain⟨x,A,s,g,gs,rfl,J,h8,hg,k⟩:=h;refine#[_,(PSs.nox (ai (bo (pv 0) (lK (cl:=[("things",s'.heap.objs.size+1)]) (x := "t") (idx:=[1]) (NC:=["t", "things"]) ?co1 rfl (dD (az (pv 0) rfl)) (λC fp s₀ H₀=>(eS (aH (r:=rIn K false) mI (pv 0) (pv 1) (by with_unfolding_all rfl)) bu (pv 0)))) rfl))),?_]
 case co1 =>
  exact gn (sc:=ag cp) (N:=d7) (ns:=["things"]) rfl rfl rfl (by decide +kernel) rfl rfl (by
   intro q hq;rw[NN.mp hq];rfl)
 refine#[_,rfl,A.nt,660,A.ntx,_,.ref A.nl,rfl,J.ant,T.bB,T.n,rfl,A.nl,rfl,#[_,SqL.of J.anl],λL hL=>?_];refine gB (K:=K) (a:=A.nl) (xs:=s.names.map nmV) (λi zs H2=>zs=((s.names.take i).map (nmG gs)).map nmV∧au H H2∧H2 L=some (.lst zs)) #[rfl,au.upd hL,ae] (λi zs H2 hi ⟨e,_,z⟩=>#[z,by rw[NI]at hi;rw[e,NI,NI,Oq];omega]) (λi zs H2 hi ⟨_,s2,_⟩=>SqL.of (s2 _ _ J.anl)) (by rw[NI,h8];decide) (λi y zs H2 hi ⟨e,s2,z⟩=>?_) (λzs H2 ⟨e,s2,z⟩=>?_)
 ·rw[N0]at hi
  obtain⟨n,hn,rfl⟩:=Ol.mp hi;have tk:=take_snoc hn;refine#[_,rfl,_,rfl,g,_,rfl,.inl (SqL.of (s2 _ _ hg)),DM n,yZ gs,_,rfl,?_];have sm:∀ {o:HO},au H (upd H2 L o):=λb u q=>by rw[ab (aj q hL)];exact s2 b u q
  show if inV (nmV n) (gs.map V.int)=true then _ else _;rw[JM (f:=nmV) rfl (λ_=>rfl),tk,e];cases n with
  | none =>
   refine b7 #[_,rfl,z.trans (by rw[e]),?_,sm,ae];rw[N9,N9];rfl
  | some t =>
   show if decide (t∈gs)=true then _ else _;by_cases c:t∈gs
   ·rw[decide_eq_true c]
    refine cZ #[z.trans (by rw[e]),?_,sm,ae];rw[N9,N9];simp[nmG,c,nmV]
   ·rw[decide_eq_false c]
    refine b7 #[_,rfl,z.trans (by rw[e]),?_,sm,ae];rw[N9,N9];simp[nmG,c,nmV]
 ·rw[NI,NZ (NO _)]at e
  rw[e]at z;refine#[_,rfl,A.nt,660,A.ntx,_,rfl,s2 _ _ J.ant,T.bB,T.n,by show 1<1000;decide,?_];have w:=J.MT (ns:=s.names.map (nmG gs)) hL;have sm:au (upd (upd H L (.lst ((s.names.map (nmG gs)).map nmV))) A.nt (.ins 660 A.ntx [("things_named",.ref L)])) (upd H2 A.nt (.ins 660 A.ntx [("things_named",.ref L)])):=λb u q=>by
   by_cases c:b=A.nt
   ·rw[c,ae]at q ⊢;exact q
   ·rw[ab c]at q ⊢
    by_cases c2:b=L
    ·rw[c2,ae]at q;rw[c2,z];exact q
    ·rw[ab c2]at q;exact s2 b u q
  exact k _ _ (w.1.same sm) (w.2.trans (Fr.same sm))
noncomputable def wsF(s:HS)(gs:List Int):HS:={s with aS:=brG s.aS gs,aV:=s.aV++sdG s.aS gs}
theorem xP{s:HS}:wsF s []=s:=by cases s;simp[wsF,brG,sdG]
noncomputable def DO:Sp:=λvs H Q _=>∃ x A s g gs,vs=[.ref A.wt,.ref g]∧IH H x A s∧H g=some (.lst (gs.map V.int))∧gs.Pairwise (·< ·)∧gs.length≤10000∧s.aV.length≤10000∧∀ A' H',IH H' x A' (wsF s gs)→Fr (aO x A s) H (aO x A' (wsF s gs)) H'→Q .non H'
noncomputable abbrev jK:List Str:=["self", "things", "t"]
theorem dI:ao jK ["self", "things"] (ag dS):=fsc
theorem i4(T:Txt w K mg):Ok P w K mg base 1 589 ["self", "things"] (DO):=by
 refine T.o2 "WordTable.settle" dI λcdv A' outer s' H vs Q E hr h=>?_;obtain⟨x,A,s,g,gs,rfl,J,hg,asc,hn,hsd,k⟩:=h;have hu:=cY hr;refine#[_,(PSs.nox (ai (eu OA rfl (dD (aX ud rfl T.z PyProof.Rows.Boot.«sorted» (aa (pv 1) ah))) (bc (i:=2) dI.nd rfl (Or.inl rfl))
   (ai (a6 (jf (wO hu (pv 2) (az (pv 0) rfl)) (by with_unfolding_all rfl))
    (ai (aC (m8 PySem.F.plainAttrs_list PySem.F.slot_list_append PySem.F.type_list_append ja (az (pv 0) rfl) (aa (pX (az (pv 0) rfl) (pv 2) #[rfl,rfl,rfl,rfl]) ah))))
    aK))))),?_]
 refine#[_,rfl,g,gs,rfl,SqL.of hg,by omega,asc.imp λh=>Int.le_of_lt h,λp hp=>?_];have s1:=au.upd (o:=.lst (gs.map V.int)) hp;have J1:=J.same s1;have nfp:¬aO x A s p:=J.fresh hp;refine#[p,rfl,#[_,SqL.of ae],iT (K:=K) (a:=p) (xs:=gs.map V.int) (λi σ H2=>∃ v2,σ=[some (.ref A.wt),some (.ref g),v2]∧IH H2 x A (wsF s (gs.take i))∧Fr (aO x A s) (upd H p (.lst (gs.map V.int))) (aO x A (wsF s (gs.take i))) H2)
  #[none,rfl,(by rw[O4,xP];exact J1),(by rw[O4,xP];exact Fr.refl)] (λi σ H2 _ ⟨_,_,_,fr⟩=>SqL.of (fr.out nfp ae).1) ?_ ?_]
 ·rintro i y σ H2 hi ⟨v2,rfl,J2,fr⟩
  rw[N0]at hi;obtain⟨t,ht,rfl⟩:=Ol.mp hi;have ni:=BM asc ht;have tk:=take_snoc ht;have hi':=(NK.mp ht).1;have lk:(brG s.aS (gs.take i)).lookup t=s.aS.lookup t:=vQ ni;have vb:bU ((wsF s (gs.take i)).aS.map bkv) (Sum.inl t)=(s.aS.lookup t).map V.int:=by rw[IM];show((brG s.aS (gs.take i)).lookup t).map V.int=_;rw[lk]
  refine#[_,rfl,_,rfl,A.wt,606,A.wtx,_,.ref A.wb,rfl,J2.awt,T.aR,T.n,rfl,A.wb,_,rfl,iI.k (k:=Sum.inl t) J2.awb,_,rfl,?_];rw[vb,O7];cases e:s.aS.lookup t with
  | none =>
   have es:wsF s (gs.take (i+1))=wsF s (gs.take i):=by
    unfold wsF;rw[tk,u9,va,e,filter_none (by rw[lk];exact e)];simp
   rw[es];exact b7 #[_,rfl,J2,fr]
  | some v =>
   have es:wsF s (gs.take (i+1))={wsF s (gs.take i) with aS:=(brG s.aS (gs.take i)).filter λp=>decide (p.1≠t),aV:=(s.aV++sdG s.aS (gs.take i))++[v]}:=by
    unfold wsF;rw[tk,u9,va,e];simp
   rw[es];rw[e]at vb;refine cZ #[_,rfl,A.wt,606,A.wtx,_,.ref A.wl,rfl,J2.awt,T.aR,T.n,rfl,.inl #[rfl,_,SqL.of J2.awl],?_];refine#[_,rfl,A.wt,606,A.wtx,_,.ref A.wb,rfl,J2.awt,T.aR,T.n,rfl,A.wb,rfl,.inl #[_,.inl J2.awb],_,rfl,_,Sum.inl t,.int v,J2.awb,rfl,vb,?_];rw[show ie ((wsF s (gs.take i)).aS.map bkv) (Sum.inl t)=((brG s.aS (gs.take i)).filter λp=>decide (p.1≠t)).map bkv from DK];have w1:=J2.KI (bs:=(brG s.aS (gs.take i)).filter λp=>decide (p.1≠t));have w2:=w1.1.KJ (zs:=(s.aV++sdG s.aS (gs.take i))++[v]);refine#[A.wl,_,.int v,rfl,rfl,w1.1.awl,k6 ?_,?_]
   ·have:=BN s.aS (gs.take i)
    rw[Oq]at this;show((s.aV++sdG s.aS (gs.take i)).map V.int).length≤20000;rw[NI,NX];omega
   ·rw[N9]at w2
    exact#[_,rfl,w2.1,(fr.trans w1.2).trans w2.2]
 ·rintro σ H2 ⟨v2,rfl,J2,fr⟩
  rw[NI,NZ (NO _)]at J2 fr;exact k _ _ J2 ((Fr.same s1).trans fr)
noncomputable def AV:Sp:=λvs H Q _=>∃ x A s g gs,vs=[.ref x,.ref g]∧IH H x A s∧s.names.length=8∧¬aO x A s g∧H g=some (.lst (gs.map V.int))∧gs.Pairwise (·< ·)∧gs.length≤10000∧s.aV.length≤10000∧(∀ t∈gs,∃ ws,(t,ws)∈s.aI)∧∀ A' H',IH H' x A' (letGo s gs)→Fr (aO x A s) H (aO x A' (letGo s gs)) H'→Q .non H'
noncomputable abbrev qN:List Str:=["self", "gone", "t"]
theorem iM:ao qN ["self", "gone"] (ag jq):=fsc
theorem oz(T:Txt w K mg):Ok P w K mg base 2 753 ["self", "gone"] (AV):=by
 refine T.o2 "Heap.let_go" iM λcdv A' outer s' H vs Q E hr h=>?_;obtain⟨x,A,s,g,gs,rfl,J,h8,nfg,hg,asc,hn,hsd,hin,k⟩:=h;refine#[_,(PSs.nox (ak (eu OA rfl (dD (pv 1)) (bc (i:=2) iM.nd rfl (Or.inl rfl))
   (ai (aC (pX (az (pv 0) rfl) (pv 2) #[rfl,rfl,rfl,rfl]))))
  (ak (aC ((i3 T).m T.bB hr (az (pv 0) rfl) b4 (aa (pv 1) ah)))
  (ai (aC ((i4 T).m T.aR hr (az (pv 0) rfl) b4 (aa (pv 1) ah))))))),?_]
 refine#[_,rfl,g,rfl,#[_,SqL.of hg],iT (K:=K) (a:=g) (xs:=gs.map V.int) (λi σ H2=>∃ v2,σ=[some (.ref x),some (.ref g),v2]∧IH H2 x A {s with aI:=drG s.aI (gs.take i)}∧Fr (aO x A s) H (aO x A {s with aI:=drG s.aI (gs.take i)}) H2)
  #[none,rfl,(by rw[O4,tj];exact J),(by rw[O4,tj];exact Fr.refl)] (λi σ H2 _ ⟨_,_,_,fr⟩=>SqL.of (fr.out nfg hg).1) ?_ ?_]
 ·rintro i y σ H2 hi ⟨v2,rfl,J2,fr⟩
  rw[N0]at hi;obtain⟨t,ht,rfl⟩:=Ol.mp hi;have ni:=BM asc ht;have tk:=take_snoc ht;obtain⟨ws,m⟩:=hin t (Of ht);obtain⟨v,hv⟩:=lookup_mem (cm.mpr #[m,ni]);have vf:bU ((drG s.aI (gs.take i)).map (fkv A)) (Sum.inl t)=some (.ref (A.fa t)):=by rw[BJ,hv];rfl
  refine#[_,rfl,x,969,_,_,.ref A.fh,rfl,J2.ax,T.af,T.n,lj,A.fh,rfl,.inl #[_,.inl J2.afh],_,rfl,_,Sum.inl t,_,J2.afh,rfl,vf,?_];have w:=J2.JL (t:=t);rw[DJ];rw[tk,AR];exact#[_,rfl,w.1,fr.trans w.2]
 ·rintro σ H2 ⟨v2,rfl,J2,fr⟩
  rw[NI,NZ (NO _)]at J2 fr;obtain⟨hg2,nf2⟩:=fr.out nfg hg;refine#[_,rfl,x,969,_,_,.ref A.nt,rfl,J2.ax,T.af,T.n,CJ,A.nt,A.ntx,_,rfl,J2.ant,rfl,_,rfl,x,A,_,g,gs,rfl,J2,h8,hg2,λA3 H3 J3 fr3=>?_];obtain⟨hg3,nf3⟩:=fr3.out nf2 hg2;refine#[_,rfl,x,969,_,_,.ref A3.wt,rfl,J3.ax,T.af,T.n,CK,A3.wt,A3.wtx,_,rfl,J3.awt,rfl,_,rfl,x,A3,_,g,gs,rfl,J3,hg3,asc,hn,hsd,λA4 H4 J4 fr4=>?_];exact k A4 H4 J4 ((fr.trans fr3).trans fr4)
end
section
variable{P:Program}{w:World}{K:W.Frag}{mg:Str→Option Value}{base:Heap}
noncomputable def tm(fs:List (Int×List Wd))(yn:List Int):List Wd:=fs.flatMap λq=>if q.1∈yn then[] else q.2
noncomputable def pF(s:HS):List Wd:=s.aG++tm s.aI s.yng
theorem rR{fs:List (Int×List Wd)}{q:Int×List Wd}{yn:List Int}:tm (fs++[q]) yn=tm fs yn++(if q.1∈yn then[] else q.2):=by unfold tm;rw[List.flatMap_append];simp
theorem xQ{fs:List (Int×List Wd)}{yn:List Int}(h:∀ t ws,(t,ws)∈fs→ws.length≤6):(tm fs yn).length≤6*fs.length:=by
 induction fs with
 | nil=>exact NO _
 | cons q r ih =>
  have i:=ih λt ws m=>h t ws (Oa _ m)
  have:=h q.1 q.2 NV
  show((if q.1∈yn then[] else q.2)++tm r yn).length≤6*(r.length+1);rw[NX];by_cases c:q.1∈yn
  ·rw[if_pos c];simp;omega
  ·rw[if_neg c];omega
theorem AW{fs:List (Int×List Wd)}{yn:List Int}{w:Wd}:w∈tm fs yn↔∃ t ws,(t,ws)∈fs∧t∉yn∧w∈ws:=by
 unfold tm;rw[Po];constructor
 ·rintro⟨q,mq,h⟩
  by_cases c:q.1∈yn
  ·rw[if_pos c]at h;cases h
  ·rw[if_neg c]at h;exact#[q.1,q.2,mq,c,h]
 ·rintro⟨t,ws,m,c,h⟩
  exact#[(t,ws),m,by rw[if_neg c];exact h]
open Classical in
noncomputable def du(s:HS):List Int:=s.yng.filter λt=>decide (¬Led (pF s) (fld s) s.yng t)
noncomputable def eG(s:HS):HS:=letGo {s with yng:=[]} (du s)
open Classical in
noncomputable def CO(s:HS):List Int:=(keys s).filter λt=>decide (¬Led s.aG (fld s) (keys s) t)
noncomputable def EH(s:HS):HS:={s with rnd:=true,bj:=CO s}
noncomputable def BO(s:HS):Re:=if s.rnd=true then(some .on,s) else(none,EH (eG s))
noncomputable def IQ(s:HS):HS:=letGo {s with rnd:=false,bj:=[]} s.bj
noncomputable def KO(s:HS):Re:=if s.rnd=true then(none,IQ s) else(some .no,s)
open Classical in
noncomputable def gM(s:HS)(t:Int):HS:={s with bj:=s.bj.filter λu=>decide (¬Led [.th t] (fld s) s.bj u)}
noncomputable def rdR(s:HS)(n:Option Int):HS:=match n with|some t=>if t∈s.bj then gM s t else s|none=>s
noncomputable def cD(s:HS)(h w:Int):Re:=if ok8 h then(if ok8 w then(none,rdR (fO s h (nmW (s.names.getD w.toNat none))) (s.names.getD w.toNat none)) else(some .name,s)) else(some .hand,s)
noncomputable def mkR(s:HS)(n:Int):HS:=if s.my=true∧wsum s s.yng+(n+1)>s.room then eG s else s
noncomputable def bZ(s:HS)(h n:Int):Re:=if ok8 h then(if 0≤n∧n≤6 then(if held (mkR s n)+(n+1)>s.limit then(some .room,mkR s n) else(none,vO (mkR s n) h n)) else(some .count,s)) else(some .hand,s)
theorem iN{l ms:List Int}{p:Int→Bool}(h:∀ t∈l,(p t=true↔t∉ms)):l.filter p=l.filter λt=>decide (t∉ms):=OY λt m=>by
 have:=h t m
 by_cases c:t∈ms
 ·simp only[c,not_true,decide_false]
  cases e:p t with
  | false=>rfl
  | true=>exact absurd (this.mp e) (by simp[c])
 ·simp only[c,not_false_eq_true,decide_true]
  exact this.mpr c
open Classical in
theorem y8{s:HS}{ms:List Int}(h:∀ t,t∈ms↔Led (pF s) (fld s) s.yng t):(s.yng.filter λt=>decide (t∉ms))=du s:=by
 unfold du;refine(iN λt _=>?_).symm;rw[decide_eq_true_iff,h]
open Classical in
open Classical in
theorem AX{s:HS}{t:Int}{ms:List Int}(h:∀ u,u∈ms↔Led [.th t] (fld s) s.bj u):{s with bj:=s.bj.filter λu=>decide (u∉ms)}=gM s t:=by
 unfold gM;congr 1
 refine(iN λu _=>?_).symm;rw[decide_eq_true_iff,h]
theorem DP{H:Hp}{xs ys:List V}{ws zs:List Wd}(a:Rel H xs ws)(b:Rel H ys zs):Rel H (xs++ys) (ws++zs):=by
 refine#[by rw[NX,NX,a.1,b.1],λi v w h1 h2=>?_];by_cases c:i<xs.length
 ·rw[OC c]at h1
  rw[OC (by rw[←a.1];exact c)]at h2;exact a.2 i v w h1 h2
 ·rw[Ox (by omega)]at h1
  rw[Ox (by rw[←a.1];omega),←a.1]at h2;exact b.2 _ v w h1 h2
structure Gd(s:HS):Prop where
 g:Good s
 dy:∀ t∈s.bj,t∉s.yng
 dh:∀ t,Wd.th t∈s.aG→t∉s.bj
 df:∀ u ws t,(u,ws)∈s.aI→u∉s.bj→Wd.th t∈ws→t∉s.bj
 rd:s.rnd=false→s.bj=[]
theorem mem_keys{s:HS}{t:Int}:t∈keys s↔∃ ws,(t,ws)∈s.aI:=by
 unfold keys;rw[Og];exact#[λ⟨p,m,e⟩=>#[p.2,by rw[←e];exact m],λ⟨ws,m⟩=>#[_,m,rfl]]
theorem DQ{fs:List (Int×List Wd)}{gs:List Int}(nd:gs.Nodup)(h:∀ t∈gs,∃ ws,(t,ws)∈fs):(drG fs gs).length+gs.length≤fs.length:=by
 have e:fs.length=(fs.filter λp=>decide (p.1∉gs)).length+(fs.filter λp=>!decide (p.1∉gs)).length:=by
  clear h;induction fs with
  | nil=>rfl
  | cons p r ih =>
   rw[List.filter_cons,List.filter_cons];by_cases c:p.1∈gs
   ·simp[c]at ih ⊢;omega
   ·simp[c]at ih ⊢;omega
 have le:gs.length≤((fs.filter λp=>!decide (p.1∉gs)).map (·.1)).length:=gL nd λt m=>by
  obtain⟨ws,mw⟩:=h t m;exact Og.mpr #[(t,ws),OH.mpr #[mw,by simp[m]],rfl]
 rw[NI]at le;unfold drG;omega
theorem Good.letGo{s:HS}(g:Good s){gs:List Int}(asc:gs.Pairwise (·< ·))(hin:∀ t∈gs,∃ ws,(t,ws)∈s.aI)(hh:∀ t,Wd.th t∈s.aG→t∉gs)(hf:∀ u ws t,(u,ws)∈s.aI→u∉gs→Wd.th t∈ws→t∉gs)(hy:∀ t∈s.yng,t∉gs)(hd:∀ t∈s.bj,t∉gs):Good (letGo s gs) where
 h8:=g.h8
 n8:=by show(s.names.map (nmG gs)).length=8;rw[NI];exact g.n8
 asc:=Pf (List.Sublist.map _ O9) g.asc
 lt:=λt ws m=>g.lt t ws (cm.mp m).1
 f6:=λt ws m=>g.f6 t ws (cm.mp m).1
 hh:=λt m=>by obtain⟨ws,q⟩:=g.hh t m;exact#[ws,cm.mpr #[q,hh t m]]
 ff:=λu ws t m h=>by obtain⟨w',q⟩:=g.ff u ws t (cm.mp m).1 h;exact#[w',cm.mpr #[q,hf u ws t (cm.mp m).1 (cm.mp m).2 h]]
 nn:=λt m=>by
  obtain⟨n,mn,e⟩:=Og.mp (show some t∈s.names.map (nmG gs) from m);cases n with
  | none=>cases e
  | some u =>
   have e:(if u∈gs then none else some u)=some t:=e;by_cases c:u∈gs
   ·rw[if_pos c]at e;cases e
   ·rw[if_neg c]at e
    cases e;obtain⟨ws,q⟩:=g.nn t mn;exact#[ws,cm.mpr #[q,c]]
 b12:=NW (Pc _ _) g.b12
 bk:=λt z m=>by
  have m:=OH.mp (show(t,z)∈brG s.aS gs from m);obtain⟨ws,q⟩:=g.bk t z m.1;exact#[ws,cm.mpr #[q,by simpa using m.2]]
 bnd:=Pf (List.Sublist.map _ O9) g.bnd
 n0:=g.n0
 nx:=g.nx
 sd:=by
  have h1:=g.sd;have h2:=DQ (jc asc) hin;have h3:=BN s.aS gs;show((s.aV++sdG s.aS gs).length:Int)+(drG s.aI gs).length≤s.nxt;rw[NX];omega
 yk:=λt m=>by obtain⟨ws,q⟩:=g.yk t m;exact#[ws,cm.mpr #[q,hy t m]]
 nZ:=g.nZ
 dk:=λt m=>by obtain⟨ws,q⟩:=g.dk t m;exact#[ws,cm.mpr #[q,hd t m]]
 qF:=g.qF
theorem Good.noY{s:HS}(g:Good s):Good {s with yng:=[]}:=#[g.h8,g.n8,g.asc,g.lt,g.f6,g.hh,g.ff,g.nn,g.b12,g.bk,g.bnd,g.n0,g.nx,g.sd,(λt m=>nomatch m),List.Pairwise.nil,g.dk,g.qF]
theorem Good.noD{s:HS}(g:Good s){b:Bool}:Good {s with rnd:=b,bj:=[]}:=#[g.h8,g.n8,g.asc,g.lt,g.f6,g.hh,g.ff,g.nn,g.b12,g.bk,g.bnd,g.n0,g.nx,g.sd,g.yk,g.nZ,(λt m=>nomatch m),List.Pairwise.nil]
theorem Good.MW{s:HS}(g:Good s){b:Bool}{ds:List Int}(h:∀ t∈ds,∃ ws,(t,ws)∈s.aI)(a:ds.Pairwise (·< ·)):Good {s with rnd:=b,bj:=ds}:=#[g.h8,g.n8,g.asc,g.lt,g.f6,g.hh,g.ff,g.nn,g.b12,g.bk,g.bnd,g.n0,g.nx,g.sd,g.yk,g.nZ,h,a]
theorem bP{s:HS}{t:Int}:t∈du s↔t∈s.yng∧¬Led (pF s) (fld s) s.yng t:=by unfold du;rw[OH];simp
theorem pG{s:HS}(g:Good s):(du s).Pairwise (·< ·):=Pf O9 g.nZ
theorem rS{s:HS}(g:Good s):∀ t∈du s,∃ ws,(t,ws)∈s.aI:=λt m=>g.yk t (bP.mp m).1
theorem DR{s:HS}{t:Int}(h:Wd.th t∈s.aG):t∉du s:=λm=>(bP.mp m).2 (.root (Ot _ h) (bP.mp m).1)
theorem FI{s:HS}(g:Good s){u t:Int}{ws:List Wd}(m:(u,ws)∈s.aI)(hu:u∉du s)(h:Wd.th t∈ws):t∉du s:=λmt=>by
 by_cases c:u∈s.yng
 ·have lu:Led (pF s) (fld s) s.yng u:=Pl λz=>hu (bP.mpr #[c,z])
  exact(bP.mp mt).2 (.step lu (by rw[g.fld m];exact h) (bP.mp mt).1)
 ·exact(bP.mp mt).2 (.root (NS _ (AW.mpr #[u,ws,m,c,h])) (bP.mp mt).1)
theorem Gd.small{s:HS}(d:Gd s):Gd (eG s) where
 g:=d.g.noY.letGo (pG d.g) (rS d.g) (λt h=>DR h) (λu ws t m hu h=>FI d.g m hu h) (λt m=>nomatch m) (λt m z=>d.dy t m (bP.mp z).1)
 dy:=λt _ m=>nomatch m
 dh:=d.dh
 df:=λu ws t m hu h=>d.df u ws t (cm.mp m).1 hu h
 rd:=d.rd
theorem eJ{s:HS}{t:Int}:t∈CO s↔t∈keys s∧¬Led s.aG (fld s) (keys s) t:=by unfold CO;rw[OH];simp
theorem Gd.beg{s:HS}(d:Gd s)(hy:s.yng=[]):Gd (EH s) where
 g:=d.g.MW (λt m=>mem_keys.mp (eJ.mp m).1) (Pf O9 d.g.asc)
 dy:=λt _ m=>by rw[show(EH s).yng=[] from hy]at m;cases m
 dh:=λt h m=>(eJ.mp m).2 (.root h (eJ.mp m).1)
 df:=λu ws t m hu h mt=>by
  have lu:Led s.aG (fld s) (keys s) u:=Pl λz=>hu (eJ.mpr #[mem_keys.mpr #[ws,m],z]);exact(eJ.mp mt).2 (.step lu (by rw[d.g.fld m];exact h) (eJ.mp mt).1)
 rd:=λh=>by cases h
theorem Gd.fin{s:HS}(d:Gd s):Gd (IQ s) where
 g:=d.g.noD.letGo d.g.qF d.g.dk (λt h=>d.dh t h) (λu ws t m hu h=>d.df u ws t m hu h) (λt m z=>d.dy t z m) (λt m=>nomatch m)
 dy:=λt m=>nomatch m
 dh:=λt _ m=>nomatch m
 df:=λu ws t _ _ _ m=>nomatch m
 rd:=λ_=>rfl
theorem gE{s:HS}{t u:Int}:u∈(gM s t).bj↔u∈s.bj∧¬Led [.th t] (fld s) s.bj u:=by unfold gM;rw[OH];simp
structure GdN(s:HS):Prop where
 g:Good s
 dy:∀ t∈s.bj,t∉s.yng
 df:∀ u ws t,(u,ws)∈s.aI→u∉s.bj→Wd.th t∈ws→t∉s.bj
 rd:s.rnd=false→s.bj=[]
theorem Good.JO{s:HS}(g:Good s){ds:List Int}(h:ds.Sublist s.bj):Good {s with bj:=ds}:=#[g.h8,g.n8,g.asc,g.lt,g.f6,g.hh,g.ff,g.nn,g.b12,g.bk,g.bnd,g.n0,g.nx,g.sd,g.yk,g.nZ,(λt m=>g.dk t (h.subset m)),g.qF.sublist h]
theorem Gd.JP{s:HS}(d:GdN s){t:Int}(ht:t∈s.bj)(hh:∀ u,Wd.th u∈s.aG→u=t∨u∉s.bj):Gd (gM s t) where
 g:=d.g.JO O9
 dy:=λu m=>d.dy u (gE.mp m).1
 dh:=λu h m=>by
  rcases hh u h with e|e
  ·exact(gE.mp m).2 (by rw[e];exact .root NV ht)
  ·exact e (gE.mp m).1
 df:=λu ws v m hu h mv=>by
  obtain⟨v1,v2⟩:=gE.mp mv;by_cases c:u∈s.bj
  ·have lu:Led [.th t] (fld s) s.bj u:=Pl λz=>hu (gE.mpr #[c,z])
   exact v2 (.step lu (by rw[d.g.fld m];exact h) v1)
  ·exact d.df u ws v m c h v1
 rd:=λh=>by
  have:=d.rd h
  show s.bj.filter _=[];rw[this];rfl
theorem xR{s:HS}{n:Int}:(mkR s n).limit=s.limit:=by unfold mkR;split<;>rfl
theorem l9{s:HS}{n:Int}:(mkR s n).nxt=s.nxt:=by unfold mkR;split<;>rfl
theorem Gd.mkd{s:HS}(d:Gd s){n:Int}:Gd (mkR s n):=by
 unfold mkR;split
 ·exact d.small
 ·exact d
noncomputable def y9:Sp:=λvs H Q _=>∃ x A s,vs=[.ref x]∧IH H x A s∧Good s∧∀ v A' H',IH H' x A' (eG s)→Fr (aO x A s) H (aO x A' (eG s)) H'→Q v H'
noncomputable abbrev d8:List Str:=["self", "leads", "t", "kept", "gone"]
theorem br:ao d8 ["self"] (ag cu):=fsc
theorem i6(T:Txt w K mg):Ok P w K mg base 4 746 ["self"] (y9):=by
 refine T.o1 "Heap.small_round" br λcdv A' outer s' H vs Q E hr h=>?_;obtain⟨x,A,s,rfl,J,G,k⟩:=h;have hu:=cY hr;refine#[_,(PSs.nox (ak (aY (i:=1) br.nd rfl (Or.inl rfl) ((jD T).m0 T.aM hr (az (pv 0) rfl) b4))
  (ak (eu OA rfl (lL (qu (az (pv 0) rfl))) (bc (i:=2) br.nd rfl (Or.inl rfl))
   (ai (a6 (jf (eD hu (pv 2) (az (pv 0) rfl)) (by with_unfolding_all rfl))
    (ai (aC (m8 PySem.F.plainAttrs_list PySem.F.slot_list_extend PySem.F.type_list_extend yx (pv 1) (aa (gk hu (az (pv 0) rfl) (pv 2) (λ_ _=>rfl)) ah))))
    aK)))
  (ak (BG (aY (i:=3) br.nd rfl (Or.inr rfl) ((fB T).m T.af hr (pv 0) b4 (aa (pv 1) (aa (az (pv 0) rfl) ah)))))
  (ak (Ar (cl:=[("kept",s'.heap.objs.size+1)]) (x := "t") (idx:=[3]) (NC:=["t", "kept"]) (i:=4) br.nd rfl rfl ?co1 rfl (lL (qu (az (pv 0) rfl))) (λC fp s₀ H₀=>(jf (eD hu (pv 0) (pv 1)) (by with_unfolding_all rfl))) (λC fp s₀ H₀=>(pv 0)))
  (ak (BG (bo (pv 0) cA rfl))
  (ak (aC ((oz T).m T.af hr (pv 0) b4 (aa (pv 4) ah)))
  (ai (aB (pv 4)))))))))),?_]
 case co1 =>
  exact gn (sc:=ag cu) (N:=d8) (ns:=["kept"]) rfl rfl rfl (by decide +kernel) rfl rfl (by
   intro q hq;rw[NN.mp hq];rfl)
 refine#[_,rfl,x,969,_,_,.ref A.hd,rfl,J.ax,T.af,T.n,eO,A.hd,A.hdx,_,rfl,J.ahd,rfl,A.hd,A.hdx,A.hl,A.hx,s.aG,rfl,J.hn G,λp H1 s1 hp z1=>?_];have J1:=J.same s1;have nfp:¬aO x A s p:=J.fresh hp;refine#[_,rfl,x,969,_,_,.ref A.fh,rfl,J1.ax,T.af,T.n,lj,A.fh,_,J1.afh,λo=>?_];have yf:A.yg≠A.fh:=Oj J.d4;have pf:p≠A.fh:=λe=>nfp (by rw[e];exact .fh);have py:p≠A.yg:=λe=>nfp (by rw[e];exact .yg);have lk:(s.aI.map (fkv A)).length=s.aI.length:=NI _;refine#[A.fh,o,_,rfl,ae,p9 (d:=A.fh) (o:=o) (kvs:=s.aI.map (fkv A)) (λi σ Hc=>∃ v2,σ=[some (.ref x),some (.ref p),v2,none,none]∧((∀ b u,b≠A.fh→b≠p→H1 b=some u→Hc b=some u)∧Hc A.fh=some (.frz o (.dK (s.aI.map (fkv A)))))∧∃ ys,Hc p=some (.lst ys)∧Rel Hc ys (s.aG++tm (s.aI.take i) s.yng))
  #[none,rfl,#[λb u n _ q=>by rw[ab n];exact q,ae],A.hx,by rw[ab pf];exact z1,by rw[O4,show tm [] s.yng=[] from rfl,OR];exact J1.rhl.keep (a8.set J1.afh (λ_ z=>nomatch z))] (λi σ Hc _ ⟨_,_,oc,_⟩=>oc.2) ?_ ?_]
 ·rintro i q σ Hc hi ⟨v2,rfl,oc,ys,hy,ry⟩
  rw[N0]at hi;obtain⟨⟨t,ws⟩,ht,rfl⟩:=Ol.mp hi;have m:=Of ht;have tk:=take_snoc ht;obtain⟨hl,rl⟩:=J1.afl _ _ m;have nlf:A.fa t≠A.fh:=av hl J1.afh (by intro z;cases z);have nlp:A.fa t≠p:=λe=>nfp (by rw[←e];exact .fl m);have hlc:=oc.1 _ _ nlf nlp hl;have tc:a8 H1 Hc:=λb us q=>oc.1 b _ (av q J1.afh (by intro z;cases z)) (av q z1 (by intro z;cases z)) q;have xf:x≠A.fh:=av J1.ax J1.afh (by intro z;cases z);have xp:x≠p:=λe=>nfp (by rw[←e];exact .x);have axc:=oc.1 _ _ xf xp J1.ax;have ygc:=oc.1 _ _ yf (Oj py) J1.ayg;refine#[_,rfl,_,rfl,x,969,_,_,.ref A.yg,rfl,axc,T.af,T.n,vJ,A.yg,_,rfl,iI.k (k:=Sum.inl t) ygc,_,rfl,?_];rw[(tQ s.yng).isS];by_cases c:t∈s.yng
  ·rw[decide_eq_true c]
   refine b7 #[_,rfl,oc,ys,hy,?_];rw[tk,rR,if_pos c,OR];exact ry
  ·rw[decide_eq_false c]
   have fl:=xQ (fs:=s.aI.take i) (yn:=s.yng) λt ws m=>G.f6 t ws (List.mem_of_mem_take m);have f6:=G.f6 _ _ m;have fw:=G.few;have ly:ys.length≤60100:=(by rw[ry.1,NX,G.h8];rw[Oq]at fl;omega);refine cZ #[_,rfl,.inl #[rfl,_,SqL.of hy],_,rfl,x,969,_,_,.ref A.fh,rfl,axc,T.af,T.n,lj,_,rfl,A.fh,.ref (A.fa t),rfl,.inl #[_,Sum.inl t,.inr #[o,oc.2],rfl,by rw[BJ,G.get m];rfl],p,A.fa t,ys,A.fx t,rfl,rfl,hy,hlc,?_,?_]
   ·have:=rl.1
    exact NW (show ys.length+(A.fx t).length≤70000 by omega) (by decide)
   ·refine#[_,rfl,#[λb u n1 n2 q=>by rw[ab n2];exact oc.1 b u n1 n2 q,by rw[ab (Oj pf)];exact oc.2],_,ae,?_]
    rw[tk,rR,if_neg c,←O6];exact((DP ry (rl.keep tc)).keep (a8.set hy (λ_ z=>nomatch z)))
 ·rintro σ Hc ⟨v2,rfl,oc,ys,hy,ry⟩
  rw[lk,NZ (NO _)]at ry;refine#[A.fh,o,_,oc.2,(λo' u' q=>by have q:H A.fh=some (.frz o' u'):=q;rw[J.afh]at q;cases q),?_];have kp:∀ b u,b≠p→H1 b=some u→upd Hc A.fh (.dK (s.aI.map (fkv A))) b=some u:=λb u n q=>by
   by_cases c:b=A.fh
   ·subst c
    rw[J1.afh]at q;cases q;exact ae
   ·rw[ab c];exact oc.1 b u c n q
  have hy2:upd Hc A.fh (.dK (s.aI.map (fkv A))) p=some (.lst ys):=by rw[ab pf];exact hy
  have ry2:Rel (upd Hc A.fh (.dK (s.aI.map (fkv A)))) ys (pF s):=ry.keep (λb us q=>by rw[ab λe=>by rw[e,oc.2]at q;cases q];exact q);obtain⟨H2,e2⟩:∃ H2,upd Hc A.fh (.dK (s.aI.map (fkv A)))=H2:=#[_,rfl];rw[e2]at kp hy2 ry2 ⊢;clear e2 ry hy oc;have t2:a8 H1 H2:=λb us q=>kp b _ (av q z1 (by intro z;cases z)) q;have J2:IH H2 x A s:=J1.keep (λb u f q=>kp b u (λe=>nfp (by rw[←e];exact f)) q) t2;have fr2:Fr (aO x A s) H (aO x A s) H2:=#[λb u n q=>kp b u (aj q hp) (s1 _ _ q),λ_ f=>.inl f,λb u q=>#[u,kp b u (aj q hp) (s1 _ _ q)],(a8.of s1).trans t2];have fl:=xQ (fs:=s.aI) (yn:=s.yng) G.f6;have fw:=G.few;refine#[_,rfl,x,_,_,rfl,J2.ax,(by kernel_rfl),_,rfl,_,rfl,x,969,_,_,.ref A.yg,rfl,J2.ax,T.af,T.n,vJ,x,A,s,p,ys,pF s,A.yg,_,s.yng,rfl,J2,G,hy2,ry2,by unfold pF;rw[NX,G.h8];omega,J2.ayg,tQ _,G.yk,jc G.nZ,qK G,λst kv ms H3 s3 hst h3 k3 n3 m3=>?_];have J3:=J2.same s3;refine#[_,rfl,x,969,_,_,.ref A.yg,rfl,J3.ax,T.af,T.n,vJ,A.yg,_,J3.ayg,λo2=>?_];refine#[A.yg,o2,_,rfl,ae,λL hL=>?_];have nsy:st≠A.yg:=λe=>by rw[e,J2.ayg]at hst;cases hst
  have st3:upd H3 A.yg (.frz o2 (.dK (s.yng.map tkv))) st=some (.dK kv):=by rw[ab nsy];exact h3
  refine vG (d:=A.yg) (o:=o2) (kvs:=s.yng.map tkv) (λi zs Hc=>zs=((s.yng.take i).filter λt=>decide (t∉ms)).map V.int∧au (upd H3 A.yg (.frz o2 (.dK (s.yng.map tkv)))) Hc∧Hc L=some (.lst zs)) #[rfl,au.upd hL,ae] (λi zs Hc hi ⟨e,_,z⟩=>#[z,by rw[e,NI];exact NW (Pc _ _) (by rw[Oq];omega)]) (λi zs Hc _ ⟨_,sc,_⟩=>sc _ _ ae) (by rw[NI];exact qG (NW (qK G) (by decide))) (λi q zs Hc hi ⟨e,sc,z⟩=>?_) (λzs Hc ⟨e,sc,z⟩=>?_)
  ·obtain⟨t,ht,ekv,ep⟩:=(tQ s.yng).at_ hi
   have tk:=take_snoc ht;rw[ekv];refine#[_,rfl,_,rfl,st,_,rfl,iI.k (k:=Sum.inl t) (sc _ _ st3),_,rfl,?_];rw[k3.isS];by_cases c:t∈ms
   ·rw[decide_eq_true c]
    refine b7 #[?_,sc,z];rw[tk,List.filter_append,e];simp[c]
   ·rw[decide_eq_false c]
    refine cZ #[_,rfl,z,?_,λb u q=>by rw[ab (aj q hL)];exact sc b u q,ae];rw[tk,List.filter_append,e];simp[c]
  ·rw[NI,NZ (NO _)]at e
   have eg:(s.yng.filter λt=>decide (t∉ms))=du s:=y8 m3;rw[eg]at e;subst e;refine#[A.yg,o2,_,sc _ _ ae,(λo' u' q=>by have q:H A.yg=some (.frz o' u'):=q;rw[J.ayg]at q;cases q),?_];have sm:au H3 (upd Hc A.yg (.dK (s.yng.map tkv))):=λb u q=>by
    by_cases c:b=A.yg
    ·subst c
     rw[J3.ayg]at q;cases q;exact ae
    ·rw[ab c];exact sc b u (by rw[ab c];exact q)
   have nLy:L≠A.yg:=λe=>by rw[e,ae]at hL;cases hL
   have zL:upd Hc A.yg (.dK (s.yng.map tkv)) L=some (.lst ((du s).map V.int)):=(by rw[ab nLy];exact z);have hL3:H3 L=none:=(by rw[ab nLy]at hL;exact hL);have MX:=J3.fresh hL3;obtain⟨H4,e4⟩:∃ H4,upd Hc A.yg (.dK (s.yng.map tkv))=H4:=#[_,rfl];rw[e4]at sm zL ⊢;clear e4;have J4:=J3.same sm;intro p2 hp2;have w:=J4.MR hp2;have xp2:x≠p2:=aj J4.ax hp2;refine#[_,rfl,x,969,A.dx,_,rfl,(by rw[ab xp2];exact J4.ax),T.af,T.n,by show 11<1000;decide,?_];obtain⟨J5,fr5⟩:=w;have oL:=fr5.out MX zL;refine#[_,rfl,x,_,_,rfl,J5.ax,(by kernel_rfl),_,rfl,x,_,_,L,du s,rfl,J5,G.n8,oL.2,oL.1,pG G,NW (Pc _ _) (qK G),(by have:=G.sd;have:=G.nx;show s.aV.length≤10000;omega),rS G,λA6 H6 J6 fr6=>#[_,rfl,k _ A6 H6 J6 ((((fr2.trans (Fr.same s3)).trans (Fr.same sm)).trans fr5).trans fr6)]]
end
section
variable{P:Program}{w:World}{K:W.Frag}{mg:Str→Option Value}{base:Heap}
noncomputable def AY:Sp:=λvs H Q _=>∃ x A s,vs=[.ref x]∧IH H x A s∧Good s∧∀ A' H',IH H' x A' (eG s)→Fr (aO x A s) H (aO x A' (eG s)) H'→Q .non H'
noncomputable abbrev kx:List Str:=["self"]
theorem jL:ao kx ["self"] (ag fg):=fsc
theorem jM(T:Txt w K mg):Ok P w K mg base 5 875 ["self"] (AY):=by
 refine T.o1 "IdealHeap.small" jL λcdv A' outer s' H vs Q E hr h=>?_;obtain⟨x,A,s,rfl,J,G,k⟩:=h;refine#[_,(PSs.nox (ai (aC ((i6 T).m0 T.af hr (pv 0) b4)))),?_];exact#[_,rfl,x,_,_,rfl,J.ax,(by kernel_rfl),x,A,s,rfl,J,G,λv A' H' J' fr=>k A' H' J' fr]
end
section
variable{P:Program}{w:World}{K:W.Frag}{mg:Str→Option Value}{base:Heap}
theorem JQ{ts:List Int}{n:Option Int}:inO (ts.map tkv) (n.map Sum.inl)=(match n with|some t=>decide (t∈ts)|none=>false):=by
 cases n with
 | none=>rfl
 | some t=>exact KN
theorem FJ(z:Option Int):nmV z=IL (z.map Sum.inl):=by cases z<;>rfl
noncomputable def AZ:Sp:=λvs H Q _=>∃ x A s,∃ t:Int,vs=[.ref x,.int t]∧IH H x A s∧Good s∧0≤t∧∀ A' H',IH H' x A' (gM s t)→Fr (aO x A s) H (aO x A' (gM s t)) H'→Q .non H'
theorem A0{ts:List Int}{t:Int}{v:V}(h:bU (ts.map tkv) (Sum.inl t)=some v):v=.bl true:=by
 unfold bU at h;obtain⟨p,hp,e⟩:=Ol.mp h;obtain⟨u,_,rfl⟩:=Og.mp (List.mem_of_find?_eq_some hp);exact e.symm
theorem DS{ts:List Int}{t:Int}:ie (ts.map tkv) (Sum.inl t)=(ts.filter λp=>decide (p≠t)).map tkv:=by
 unfold ie;rw[Qc];congr 1
 refine OY λp _=>?_;show decide (Sum.inl p≠(Sum.inl t:Key))=decide (p≠t);simp
noncomputable abbrev kz:List Str:=["self", "t", "spared", "other"]
theorem cw:ao kz ["self", "t"] (ag fi):=fsc
theorem jN(T:Txt w K mg):Ok P w K mg base 4 966 ["self", "t"] (AZ):=by
 refine T.o2 "IdealHeap.spare" cw λcdv A' outer s' H vs Q E hr h=>?_;obtain⟨x,A,s,t,rfl,J,G,t0,k⟩:=h;refine#[_,(PSs.nox (ak (aY (i:=2) cw.nd rfl (Or.inl rfl) ((fB T).m T.af hr (pv 0) b4 (aa (cC (aa ((eh T).c hr b4 (aa (pv 1) ah)) ah)) (aa (az (pv 0) rfl) ah))))
  (ai (eu OA rfl (lL (qu (pv 2))) (bc (i:=3) cw.nd rfl (Or.inl rfl))
   (ai (aC (pX (az (pv 0) rfl) (pv 3) #[rfl,rfl,rfl,rfl]))))))),?_]
 refine#[_,rfl,x,_,_,rfl,J.ax,(by kernel_rfl),_,rfl,t,rfl,t0,λtp H1 s1 hp=>#[by show 1≤sizeLine;decide,λl hl=>?_]];have s2:=au.upd (o:=.lst [V.ref tp]) hl;have J2:=(J.same s1).same s2;have rl:Rel (upd H1 l (.lst [V.ref tp])) [.ref tp] [.th t]:=#[rfl,λi v w h1 h2=>by
  cases i with
  | zero=>cases h1;cases h2;exact#[tp,rfl,s2 _ _ hp]
  | succ i=>cases h1]
 refine#[_,rfl,x,969,_,_,.ref A.dm,rfl,J2.ax,T.af,T.n,CL,x,A,s,l,_,[.th t],A.dm,_,s.bj,rfl,J2,G,ae,rl,by show 1≤100000;decide,J2.adm,tQ _,G.dk,jc G.qF,DH G,λst kv ms H3 s3 hst h3 k3 n3 m3=>?_];have J3:=J2.same s3;have fr3:=((Fr.same (F:=aO x A s) s1).trans (Fr.same s2)).trans (Fr.same s3);have nfs:=J2.fresh hst;refine#[_,rfl,st,kv,h3,λo=>?_];have sub:∀ u∈ms,u∈s.bj:=λu m=>((m3 u).mp m).mem;have H4s:∀ b u,b≠st→H3 b=some u→upd H3 st (.frz o (.dK kv)) b=some u:=λb u n q=>by rw[ab n];exact q
 have t4:a8 H3 (upd H3 st (.frz o (.dK kv))):=a8.set h3 (λ_ z=>nomatch z);have J4:IH (upd H3 st (.frz o (.dK kv))) x A s:=J3.keep (λb u f q=>H4s b u (λe=>nfs (by rw[←e];exact f)) q) t4;have bk:H st=none:=au.none s1 (au.none s2 hst);have fr4:Fr (aO x A s) H (aO x A s) (upd H3 st (.frz o (.dK kv))):=#[λb u n q=>H4s b u (aj q bk) (fr3.ext b u n q),λ_ f=>.inl f,λb u q=>by obtain⟨u',q'⟩:=fr3.all b u q;exact#[u',H4s b u' (aj q bk) q'],fr3.tup.trans t4];refine#[st,o,kv,rfl,ae,p9 (d:=st) (o:=o) (kvs:=kv) (λi σ Hc=>∃ v3,σ=[some (.ref x),some (.int t),some (.ref st),v3]∧IH Hc x A {s with bj:=s.bj.filter λu=>decide (u∉ms.take i)}∧Fr (aO x A s) H (aO x A {s with bj:=s.bj.filter λu=>decide (u∉ms.take i)}) Hc∧Hc st=some (.frz o (.dK kv)))
  #[none,rfl,(by rw[O4,show(s.bj.filter λu=>decide (u∉([]:List Int)))=s.bj by simp];exact J4),(by rw[O4,show(s.bj.filter λu=>decide (u∉([]:List Int)))=s.bj by simp];exact fr4),ae] (λi σ Hc _ ⟨_,_,_,_,z⟩=>z) ?_ ?_]
 ·rintro i q σ Hc hi ⟨v3,rfl,Jc,frc,z⟩
  obtain⟨u,hu',ekv,ep⟩:=k3.at_ hi;have tk:=take_snoc hu';have ni:u∉ms.take i:=λm=>by
   have:=OZ.mp (show(ms.take i++ms.drop i).Nodup by rw[PD];exact n3)
   have hlt:=(NK.mp hu').1;exact this.2.2 u m u (by rw[Pk hlt,(NK.mp hu').2];exact NV) rfl
  have mu:u∈s.bj.filter λu=>decide (u∉ms.take i):=OH.mpr #[sub u (Of hu'),by simpa using ni];have vd:bU ((s.bj.filter λu=>decide (u∉ms.take i)).map tkv) (Sum.inl u)=some (.bl true):=by
   have h1:=(tQ (s.bj.filter λu=>decide (u∉ms.take i))).isS (t:=u);rw[decide_eq_true mu]at h1;obtain⟨v,hv⟩:=Pp.mp h1;rw[hv,A0 hv]
  rw[ekv];refine#[_,rfl,x,969,_,_,.ref A.dm,rfl,Jc.ax,T.af,T.n,CL,A.dm,rfl,.inl #[_,.inl Jc.adm],_,rfl,_,Sum.inl u,_,Jc.adm,rfl,vd,?_];have w:=Jc.MN (ts:=(s.bj.filter λu=>decide (u∉ms.take i)).filter λv=>decide (v≠u));rw[show ie (({s with bj:=s.bj.filter λu=>decide (u∉ms.take i)}:HS).bj.map tkv) (Sum.inl u)=((s.bj.filter λu=>decide (u∉ms.take i)).filter λv=>decide (v≠u)).map tkv from DS];have ef:((s.bj.filter λu=>decide (u∉ms.take i)).filter λv=>decide (v≠u))=s.bj.filter λv=>decide (v∉ms.take (i+1)):=by
   rw[List.filter_filter,tk];refine OY λv _=>?_;simp[Om,not_or,Bool.and_comm]
  rw[ef]at w ⊢;have nsd:st≠A.dm:=λe=>by rw[e,Jc.adm]at z;cases z
  exact#[_,rfl,w.1,frc.trans w.2,by rw[ab nsd];exact z]
 ·rintro σ Hc ⟨v3,rfl,Jc,frc,z⟩
  rw[k3.len,NZ (NO _),AX m3]at Jc frc;exact k _ _ Jc frc
noncomputable def A5:Sp:=λvs H Q E=>∃ x A s,∃ h n:Int,vs=[.ref x,.int h,.int n]∧IH H x A s∧Gd s∧s.nxt<10000∧Sm h∧Sm n∧Fin x A s H (bZ s h n) Q E
noncomputable abbrev mh:List Str:=["self", "h", "n", "size"]
theorem fD:ao mh ["self", "h", "n"] (ag gc):=fsc
theorem kA(T:Txt w K mg):Ok P w K mg base 8 819 ["self", "h", "n"] (A5):=by
 refine T.o3 "IdealHeap.make" fD λcdv A' outer s' H vs Q E hr h=>?_;obtain⟨x,A,s,h,n,rfl,J,Gs,hnx,hh,hn,k⟩:=h;refine#[_,(ak (aC ((bq T).c hr px (aa (pv 1) ah)))
  (ak (aY (i:=3) fD.nd rfl (Or.inl rfl) ((mY T).c hr px (aa (pv 2) ah)))
  (ak (a6 (PW.pt (pw_and (jg (az (pv 0) rfl)) (pw_and1 (aH tK (cb nR ((dH T).m T.af hr (pv 0) px (aa (az (pv 0) rfl) ah)) (pv 3)) (az (pv 0) rfl) (aN _)))))
   (ai (aC ((jM T).m0 T.af hr (pv 0) px)))
   aK)
  (ak (a6 (aH tK (cb nR ((fA T).m0 T.af hr (pv 0) px) (pv 3)) (az (pv 0) rfl) (aN _))
   (ai (b6 rfl eE ((aE T).e 141 hr px (aa (cI (aQ (dM (pv 3)) (aQ b5 cH))) ah))))
   aK)
  (ai (aC ((kg T).m T.af hr (pv 0) px (aa (pv 1) (aa (pv 2) ah))))))))),?_]
 refine#[_,rfl,h,rfl,hh,?_];by_cases c:ok8 h
 ·rw[if_pos c]
  refine#[_,rfl,n,rfl,hn,?_];by_cases c2:0≤n∧n≤6
  ·rw[if_pos c2]
   have G:=Gs.g;have kk:Fin x A s H (if held (mkR s n)+(n+1)>s.limit then(some .room,mkR s n) else(none,vO (mkR s n) h n)) Q E:=by
    rw[show bZ s h n=_ from by unfold bZ;rw[if_pos c,if_pos c2]]at k;exact k
   have G2:Gd (mkR s n):=Gs.mkd;simp only[gw];refine a9 λN hN=>?_;have fin:∀(A2:HA) (H2:Hp),IH H2 x A2 (mkR s n)→Fr (aO x A s) H (aO x A2 (mkR s n)) H2→N [some (.ref x),some (.int h),some (.int n),some (.int (n+1))] H2:=by
    intro A2 H2 J2 fr2;refine hN _ _ ?_;refine#[_,rfl,x,_,_,rfl,J2.ax,(by kernel_rfl),x,A2,_,rfl,J2,G2.g,λH3 s3=>?_];have J3:=J2.same s3;have fr3:=fr2.trans (Fr.same s3);refine#[_,rfl,held (mkR s n),n+1,rfl,rfl,_,rfl,x,969,_,_,.int (mkR s n).limit,rfl,J3.ax,T.af,T.n,JH,_,_,rfl,rfl,_,rfl,bw (λg=>?_) (λg=>?_)]
    ·have g:=of_decide_eq_true g
     rw[xR]at g;rw[if_pos g]at kk;exact#[_,rfl,n+1,rfl,Sm.of (by omega) (by omega),λy hy ea hea=>bh (T.ec 141) (λb q=>fr3.none q) (λH' s'=>kk A2 H' (J3.same s') (fr3.trans (Fr.same s'))) ea hea]
    ·have g:¬(held (mkR s n)+(n+1)>s.limit):=λz=>g (decide_eq_true (by rw[xR];exact z))
     rw[if_neg g]at kk;exact#[_,rfl,x,_,_,rfl,J3.ax,(by kernel_rfl),_,rfl,_,rfl,x,A2,_,h,n,rfl,J3,G2.g,c,c2.1,c2.2,λA' H' J' fr=>kk A' H' J' (fr3.trans fr)]
   refine#[_,rfl,x,969,_,_,.bl s.my,rfl,J.ax,T.af,T.n,EG,_,rfl,?_];by_cases my:s.my=true
   ·refine lA my #[_,rfl,x,_,_,rfl,J.ax,(by kernel_rfl),_,rfl,x,969,_,_,.ref A.yg,rfl,J.ax,T.af,T.n,vJ,x,A,s,A.yg,_,s.yng,rfl,J,G,J.ayg,tQ _,G.yk,qK G,λH1 s1=>?_]
    have J1:=J.same s1;refine#[_,rfl,wsum s s.yng,n+1,rfl,rfl,_,rfl,x,969,_,_,.int s.room,rfl,J1.ax,T.af,T.n,JG,_,_,rfl,rfl,_,rfl,bw (λg=>?_) (λg=>?_)]
    ·have g:=of_decide_eq_true g
     have em:mkR s n=eG s:=if_pos #[my,g];rw[em]at fin;exact#[_,rfl,x,_,_,rfl,J1.ax,(by kernel_rfl),x,A,s,rfl,J1,G,λA2 H2 J2 fr2=>fin A2 H2 J2 ((Fr.same s1).trans fr2)]
    ·have em:mkR s n=s:=if_neg λz=>g (decide_eq_true z.2)
     rw[em]at fin;exact fin A H1 J1 (Fr.same s1)
   ·have em:mkR s n=s:=if_neg λz=>my z.1
    rw[em]at fin;exact gA (OU.mpr my) (b7 (fin A H J Fr.refl))
  ·rw[if_neg c2]
   rw[show bZ s h n=(some .count,s) by simp only[bZ,if_pos c,if_neg c2]]at k;exact k.bad J
 ·rw[if_neg c]
  rw[show bZ s h n=(some .hand,s) by simp only[bZ,if_neg c]]at k;exact k.bad J
noncomputable def A7:Sp:=λvs H Q E=>∃ x A s,∃ h w:Int,vs=[.ref x,.int h,.int w]∧IH H x A s∧Good s∧Sm h∧Sm w∧Fin x A s H (cD s h w) Q E
theorem eV{α:Type}{l:List α}{i:Nat}{a b:α}(h:b∈l.set i a):b∈l∨b=a:=by
 rw[List.mem_iff_getElem]at h;obtain⟨j,hj,e⟩:=h;rw[List.getElem_set]at e;split at e
 ·exact .inr e.symm
 ·exact .inl (by rw[←e];exact OB _)
theorem Good.put{s:HS}(g:Good s){h:Int}{w:Wd}(c:∀ t,w=.th t→∃ ws,(t,ws)∈s.aI):Good (fO s h w) :=
 #[by show(s.aG.set _ _).length=8;rw[O5];exact g.h8,g.n8,g.asc,g.lt,g.f6,(λt m=>(eV m).elim (λq=>g.hh t q) λe=>c t e.symm),g.ff,g.nn,g.b12,g.bk,g.bnd,g.n0,g.nx,g.sd,g.yk,g.nZ,g.dk,g.qF]
noncomputable abbrev mz:List Str:=["self", "h", "w", "t"]
theorem fE:ao mz ["self", "h", "w"] (ag gf):=fsc
theorem kB(T:Txt w K mg):Ok P w K mg base 7 826 ["self", "h", "w"] (A7):=by
 refine T.o3 "IdealHeap.read" fE λcdv A' outer s' H vs Q E hr h=>?_;obtain⟨x,A,s,h,w,rfl,J,G,hh,hw,k⟩:=h;refine#[_,(ak (aY (i:=3) fE.nd rfl (Or.inl rfl) ((jH T).m T.af hr (pv 0) px (aa (pv 1) (aa (pv 2) ah))))
  (ai (a6 (jf (Dt (pv 3) (az (pv 0) rfl)) (by with_unfolding_all rfl))
   (ai (aC ((jN T).m T.af hr (pv 0) px (aa (pv 3) ah))))
   aK))),?_]
 refine#[_,rfl,x,_,_,rfl,J.ax,(by kernel_rfl),_,rfl,_,rfl,x,A,s,h,w,rfl,J,G,hh,hw,?_];by_cases c:ok8 h
 ·rw[if_pos c]
  by_cases c2:ok8 w
  ·rw[if_pos c2]
   rw[show cD s h w=(none,rdR (fO s h (nmW (s.names.getD w.toNat none))) (s.names.getD w.toNat none)) by simp only[cD,if_pos c,if_pos c2]]at k;have hi:w.toNat<s.names.length:=(by rw[G.n8];omega);have gd:s.names.getD w.toNat none=s.names[w.toNat]:=(by simp[List.getD,hi]);have mm:s.names[w.toNat]∈s.names:=OB hi;obtain⟨z,ez⟩:∃ z,s.names.getD w.toNat none=z:=#[_,rfl];rw[ez]at k ⊢;rw[←gd,ez]at mm;intro A1 H1 J1 fr;refine#[_,rfl,_,rfl,x,969,_,_,_,rfl,J1.ax,T.af,T.n,CL,A1.dm,_,z.map Sum.inl,rfl,FJ z,.inl J1.adm,_,rfl,?_];rw[JQ];cases z with
   | none=>exact b7 (k A1 H1 J1 fr)
   | some t =>
    show if decide (t∈s.bj)=true then _ else _;obtain⟨ws,m⟩:=G.nn t mm;by_cases c3:t∈s.bj
    ·rw[decide_eq_true c3]
     rw[show rdR (fO s h (nmW (some t))) (some t)=gM (fO s h (nmW (some t))) t from if_pos c3]at k;have G2:Good (fO s h (nmW (some t))):=G.put λu e=>by cases e;exact#[ws,m]
     exact cZ #[_,rfl,x,_,_,rfl,J1.ax,(by kernel_rfl),_,rfl,x,A1,_,t,rfl,J1,G2,(G.lt _ _ m).1,λA2 H2 J2 fr2=>k A2 H2 J2 (fr.trans fr2)]
    ·rw[decide_eq_false c3]
     rw[show rdR (fO s h (nmW (some t))) (some t)=fO s h (nmW (some t)) from if_neg c3]at k;exact b7 (k A1 H1 J1 fr)
  ·rw[if_neg c2]
   rw[show cD s h w=(some .name,s) by simp only[cD,if_pos c,if_neg c2]]at k;exact k.bad J
 ·rw[if_neg c]
  rw[show cD s h w=(some .hand,s) by simp only[cD,if_neg c]]at k;exact k.bad J
end
section
variable{P:Program}{w:World}{K:W.Frag}{mg:Str→Option Value}{base:Heap}
inductive Dd where
 | make (h n:Int)|store (g k h:Int)|load (h g k:Int)|copy (h g:Int)|drop (h:Int)|number (h x:Int)|name (w h:Int)|read (h w:Int)|word (h x:Int)|small|turn
noncomputable def vR(s:HS):Re:=if s.rnd=true then KO s else BO s
noncomputable def dDo(s:HS):Dd→Re
 | .make h n=>bZ s h n
 | .store g k h=>bN s g k h
 | .load h g k=>cn s h g k
 | .copy h g=>fG s h g
 | .drop h=>eP s h
 | .number h x=>aU s h x
 | .name w h=>dr s w h
 | .read h w=>cD s h w
 | .word h x=>cB s h x
 | .small=>(none,eG s)
 | .turn=>vR s
end
section
variable{P:Program}{w:World}{K:W.Frag}{mg:Str→Option Value}{base:Heap}
theorem Good.names{s:HS}(g:Good s){w:Nat}{t:Int}{ws:List Wd}(m:(t,ws)∈s.aI):Good {s with names:=s.names.set w (some t)} :=
 #[g.h8,by show(s.names.set _ _).length=8;rw[O5];exact g.n8,g.asc,g.lt,g.f6,g.hh,g.ff,λu m'=>(eV m').elim (g.nn u) (λe=>by injection e with e;rw[e];exact#[ws,m]),g.b12,g.bk,g.bnd,g.n0,g.nx,g.sd,g.yk,g.nZ,g.dk,g.qF]
theorem zb{bs:List (Int×Int)}{t x:Int}:(pE bs t x).map (·.1)=if(bs.lookup t).isSome=true then bs.map (·.1) else bs.map (·.1)++[t]:=by
 unfold pE;by_cases c:(bs.lookup t).isSome=true
 ·rw[if_pos c,if_pos c,OD]
  refine ON λp hp=>?_;show(if p.1=t then(t,x) else p).1=p.1;by_cases e:p.1=t
  ·rw[if_pos e];exact e.symm
  ·rw[if_neg e]
 ·rw[if_neg c,if_neg c,N9]
  rfl
theorem Good.aS{s:HS}(g:Good s){t x:Int}{ws:List Wd}(m:(t,ws)∈s.aI)(c:¬(s.aS.lookup t=none∧12≤s.aS.length)):Good {s with aS:=pE s.aS t x}:=by
 have kl:=zb (bs:=s.aS) (t:=t) (x:=x);have ln:=congrArg List.length kl;have mm:∀ u,u∈(pE s.aS t x).map (·.1)→u∈s.aS.map (·.1)∨u=t:=λu h=>by
  rw[kl]at h;split at h
  ·exact .inl h
  ·rcases Om.mp h with h|h
   ·exact .inl h
   ·exact .inr (NN.mp h)
 refine#[g.h8,g.n8,g.asc,g.lt,g.f6,g.hh,g.ff,g.nn,?_,λu y h=>?_,?_,g.n0,g.nx,g.sd,g.yk,g.nZ,g.dk,g.qF]
 ·show(pE s.aS t x).length≤12
  rw[NI]at ln;rw[ln];by_cases q:(s.aS.lookup t).isSome=true
  ·rw[if_pos q,NI];exact g.b12
  ·rw[if_neg q,NX,NI,OV]
   have:s.aS.lookup t=none:=by
    cases e:s.aS.lookup t with
    | none=>rfl
    | some v=>rw[e]at q;exact absurd rfl q
   have:¬12≤s.aS.length:=λz=>c #[this,z]
   omega
 ·rcases mm u (Og.mpr #[_,h,rfl]) with h|rfl
  ·obtain⟨p,hp,rfl⟩:=Og.mp h
   exact g.bk p.1 p.2 hp
  ·exact#[ws,m]
 ·show((pE s.aS t x).map (·.1)).Nodup
  rw[kl];by_cases q:(s.aS.lookup t).isSome=true
  ·rw[if_pos q];exact g.bnd
  ·rw[if_neg q,OZ]
   refine#[g.bnd,Pu _ _,λa ma b mb e=>?_];rw[NN.mp mb]at e;subst e;obtain⟨p,hp,rfl⟩:=Og.mp ma;refine q ?_;rw[mem_lookup (w:=p.2) g.bnd hp];rfl
theorem rT{fs:List (Int×List Wd)}{t:Int}{ws:List Wd}:(fL fs t ws).map (·.1)=fs.map (·.1):=by
 unfold fL;rw[OD];refine ON λp hp=>?_;show(if p.1=t then(t,ws) else p).1=p.1;by_cases e:p.1=t
 ·rw[if_pos e];exact e.symm
 ·rw[if_neg e]
theorem A8{fs:List (Int×List Wd)}{t u:Int}{ws w:List Wd}(m:(u,w)∈fs):∃ w',(u,w')∈fL fs t ws:=by
 have:u∈(fL fs t ws).map (·.1):=by rw[rT];exact Og.mpr #[_,m,rfl]
 obtain⟨p,hp,rfl⟩:=Og.mp this;exact#[p.2,hp]
theorem lB{fs:List (Int×List Wd)}{t u:Int}{ws w:List Wd}(m:(u,w)∈fL fs t ws):(u,w)∈fs∨(w=ws∧∃ w0,(u,w0)∈fs):=by
 obtain⟨p,hp,e⟩:=Og.mp m;by_cases c:p.1=t
 ·rw[if_pos c]at e
  cases e;exact .inr #[rfl,p.2,by rw[←c];exact hp]
 ·rw[if_neg c]at e
  subst e;exact .inl hp
theorem Good.fL{s:HS}(g:Good s){t:Int}{ws:List Wd}(l6:ws.length≤6)(c:∀ u,Wd.th u∈ws→∃ w,(u,w)∈s.aI):Good {s with aI:=fL s.aI t ws}:=by
 have hs:∀ u,(∃ w,(u,w)∈s.aI)→∃ w,(u,w)∈K27.fL s.aI t ws:=λu ⟨w,m⟩=>A8 m;refine#[g.h8,g.n8,by show((K27.fL s.aI t ws).map (·.1)).Pairwise _;rw[rT];exact g.asc,λu w m=>?_,λu w m=>?_,λu m=>hs u (g.hh u m),λu w v m mv=>?_,λu m=>hs u (g.nn u m),g.b12,λu y m=>hs u (g.bk u y m),g.bnd,g.n0,g.nx,?_,λu m=>hs u (g.yk u m),g.nZ,λu m=>hs u (g.dk u m),g.qF]
 ·rcases lB m with m|⟨_,w0,m⟩
  ·exact g.lt u w m
  ·exact g.lt u w0 m
 ·rcases lB m with m|⟨rfl,w0,m⟩
  ·exact g.f6 u w m
  ·exact l6
 ·rcases lB m with m|⟨rfl,w0,m⟩
  ·exact hs v (g.ff u w v m mv)
  ·exact hs v (c v mv)
 ·show(s.aV.length:Int)+((K27.fL s.aI t ws).length:Int)≤s.nxt
  unfold K27.fL;rw[NI];exact g.sd
theorem Good.MY{s:HS}(g:Good s){h n:Int}(n6:n≤6)(few:s.nxt<10000):Good (vO s h n):=by
 have hs:∀ u,(∃ w,(u,w)∈s.aI)→∃ w,(u,w)∈s.aI++[(s.nxt,List.replicate n.toNat Wd.no)]:=λu ⟨w,m⟩=>#[w,Ot _ m];have mm:∀ {u:Int} {w:List Wd},(u,w)∈s.aI++[(s.nxt,List.replicate n.toNat Wd.no)]→(u,w)∈s.aI∨(u=s.nxt∧w=List.replicate n.toNat Wd.no):=λm=>by
  rcases Om.mp m with m|m
  ·exact .inl m
  ·cases NN.mp m;exact .inr #[rfl,rfl]
 have my:∀ u∈(vO s h n).yng,u∈s.yng∨u=s.nxt:=λu m=>by
  have m:u∈(if s.my=true then s.yng++[s.nxt] else s.yng):=m;split at m
  ·exact(Om.mp m).imp id λz=>NN.mp z
  ·exact .inl m
 refine#[by show(s.aG.set _ _).length=8;rw[O5];exact g.h8,g.n8,?_,λu w m=>?_,λu w m=>?_,λu m=>?_,λu w v m mv=>?_,λu m=>hs u (g.nn u m),g.b12,λu y m=>hs u (g.bk u y m),g.bnd,by show 0≤s.nxt+1;have:=g.n0;omega,by show s.nxt+1≤10000;omega,?_,λu m=>?_,?_,λu m=>hs u (g.dk u m),g.qF]
 ·show((s.aI++[(s.nxt,List.replicate n.toNat Wd.no)]).map (·.1)).Pairwise _
  rw[N9,PM];refine#[g.asc,Pu _ _,λa ma b mb=>?_];obtain⟨p,hp,rfl⟩:=Og.mp ma;obtain rfl:b=s.nxt:=by simpa using mb
  exact(g.lt p.1 p.2 hp).2
 ·show 0≤u∧u<s.nxt+1
  have:=g.n0
  rcases mm m with m|⟨e,_⟩
  ·have:=g.lt u w m;omega
  ·omega
 ·rcases mm m with m|⟨_,e⟩
  ·exact g.f6 u w m
  ·rw[e,List.length_replicate];omega
 ·rcases eV m with m|e
  ·exact hs u (g.hh u m)
  ·injection e with e
   exact#[_,NS _ (NN.mpr (by rw[e]))]
 ·rcases mm m with m|⟨_,e⟩
  ·exact hs v (g.ff u w v m mv)
  ·rw[e]at mv
   cases OP mv
 ·show(s.aV.length:Int)+((s.aI++[(s.nxt,List.replicate n.toNat Wd.no)]).length:Int)≤s.nxt+1
  rw[NX,OV]
  have:=g.sd
  omega
 ·rcases my u m with m|e
  ·exact hs u (g.yk u m)
  ·exact#[_,NS _ (NN.mpr (by rw[e]))]
 ·show(if s.my=true then s.yng++[s.nxt] else s.yng).Pairwise _
  split
  ·rw[PM]
   refine#[g.nZ,Pu _ _,λa ma b mb=>?_];obtain rfl:b=s.nxt:=(by simpa using mb);obtain⟨ws,m⟩:=g.yk a ma;exact(g.lt a ws m).2
  ·exact g.nZ
theorem Gd.put{s:HS}(d:Gd s){h:Int}{w:Wd}(c:∀ t,w=.th t→(∃ ws,(t,ws)∈s.aI)∧t∉s.bj):Gd (fO s h w) :=
 #[d.g.put λt e=>(c t e).1,d.dy,λt m=>(eV m).elim (d.dh t) (λe=>(c t e.symm).2),d.df,d.rd]
theorem Gd.add{s:HS}(d:Gd s){h n:Int}(n6:n≤6)(few:s.nxt<10000):Gd (vO s h n) where
 g:=d.g.MY n6 few
 dy:=λt m=>by
  obtain⟨ws,mt⟩:=d.g.dk t m;have lt:=(d.g.lt t ws mt).2;show t∉(if s.my=true then s.yng++[s.nxt] else s.yng);split
  ·intro z
   rcases Om.mp z with z|z
   ·exact d.dy t m z
   ·have:=NN.mp z;omega
  ·exact d.dy t m
 dh:=λt m=>(eV m).elim (d.dh t) λe=>by
  injection e with e;intro z;obtain⟨ws,mt⟩:=d.g.dk t z
  have:=(d.g.lt t ws mt).2
  omega
 df:=λu ws t m hu h=>by
  rcases Om.mp m with m|m
  ·exact d.df u ws t m hu h
  ·cases NN.mp m
   cases OP h
 rd:=d.rd
theorem Gd.fL{s:HS}(d:Gd s){t:Int}{ws:List Wd}(l6:ws.length≤6)(c:∀ u,Wd.th u∈ws→(∃ w,(u,w)∈s.aI)∧u∉s.bj):Gd {s with aI:=fL s.aI t ws} where
 g:=d.g.fL l6 λu m=>(c u m).1
 dy:=d.dy
 dh:=d.dh
 df:=λu w v m hu h=>by
  rcases lB m with m|⟨e,_⟩
  ·exact d.df u w v m hu h
  ·rw[e]at h;exact(c v h).2
 rd:=d.rd
theorem Gd.hnd{s:HS}(d:Gd s){h:Int}{w:Wd}(e:wat s.aG h=some w):∀ t,w=.th t→(∃ ws,(t,ws)∈s.aI)∧t∉s.bj:=λt z=>by
 have m:=Of (eU e).2.2;rw[z]at m;exact#[d.g.hh t m,d.dh t m]
theorem xS{s:HS}{n:Option Int}:(rdR s n).nxt=s.nxt:=by
 unfold rdR;split
 ·split<;>rfl
 ·rfl
theorem iw{s:HS}(d:Gd s)(few:s.nxt<10000){dd:Dd}:Gd (dDo s dd).2∧s.nxt≤(dDo s dd).2.nxt∧(dDo s dd).2.nxt≤s.nxt+1:=by
 have same:Gd s∧s.nxt≤s.nxt∧s.nxt≤s.nxt+1:=#[d,OF _,by omega];cases dd with
 | make h n =>
  show Gd (bZ s h n).2∧s.nxt≤(bZ s h n).2.nxt∧(bZ s h n).2.nxt≤s.nxt+1;unfold bZ;split
  ·split
   ·split
    ·exact#[d.mkd,by rw[l9];exact OF _,by rw[l9];omega]
    ·exact#[d.mkd.add (by rename_i _ b _;exact b.2) (by rw[l9];exact few),by show s.nxt≤(mkR s n).nxt+1;rw[l9];omega,by show(mkR s n).nxt+1≤s.nxt+1;rw[l9];exact OF _]
   ·exact same
  ·exact same
 | store g k h =>
  show Gd (bN s g k h).2∧s.nxt≤(bN s g k h).2.nxt∧(bN s g k h).2.nxt≤s.nxt+1;unfold bN;split
  ·rename_i t e
   split
   ·rename_i w e2
    split
    ·rename_i c
     have m:=d.g.hand e;refine#[d.fL (by rw[O5];exact d.g.f6 _ _ m) (λu hu=>?_),OF _,by show s.nxt≤s.nxt+1;omega];rcases eV hu with hu|hu
     ·exact#[d.g.ff _ _ _ m hu,d.df _ _ _ m ((d.hnd e t rfl).2) hu]
     ·exact d.hnd e2 u hu.symm
    ·exact same
   ·exact same
  ·exact same
 | load h g k =>
  show Gd (cn s h g k).2∧s.nxt≤(cn s h g k).2.nxt∧(cn s h g k).2.nxt≤s.nxt+1;unfold cn;split
  ·split
   ·rename_i t e
    split
    ·rename_i c
     have m:=d.g.hand e;refine#[d.put λu hu=>?_,OF _,by show s.nxt≤s.nxt+1;omega];have hi:k.toNat<(fld s t).length:=(by omega);have hm:Wd.th u∈fld s t:=(by rw[←hu,O0,NJ hi];exact OB hi);exact#[d.g.ff _ _ _ m hm,d.df _ _ _ m ((d.hnd e t rfl).2) hm]
    ·exact same
   ·exact same
  ·exact same
 | copy h g =>
  show Gd (fG s h g).2∧s.nxt≤(fG s h g).2.nxt∧(fG s h g).2.nxt≤s.nxt+1;unfold fG;split
  ·split
   ·rename_i w e
    exact#[d.put (d.hnd e),OF _,by show s.nxt≤s.nxt+1;omega]
   ·exact same
  ·exact same
 | drop h =>
  show Gd (eP s h).2∧s.nxt≤(eP s h).2.nxt∧(eP s h).2.nxt≤s.nxt+1;unfold eP;split
  ·exact#[d.put (λt e=>by cases e),OF _,by show s.nxt≤s.nxt+1;omega]
  ·exact same
 | number h x =>
  show Gd (aU s h x).2∧s.nxt≤(aU s h x).2.nxt∧(aU s h x).2.nxt≤s.nxt+1;unfold aU;split
  ·split
   ·exact#[d.put (λt e=>by cases e),OF _,by show s.nxt≤s.nxt+1;omega]
   ·exact same
  ·exact same
 | name w h =>
  show Gd (dr s w h).2∧s.nxt≤(dr s w h).2.nxt∧(dr s w h).2.nxt≤s.nxt+1;unfold dr;split
  ·rename_i t e
   split
   ·exact#[#[d.g.names (d.g.hand e),d.dy,d.dh,d.df,d.rd],OF _,by show s.nxt≤s.nxt+1;omega]
   ·exact same
  ·exact same
 | read h w =>
  show Gd (cD s h w).2∧s.nxt≤(cD s h w).2.nxt∧(cD s h w).2.nxt≤s.nxt+1;unfold cD;split
  ·split
   ·rename_i c2
    refine#[?_,by rw[xS];exact OF _,by rw[xS];show s.nxt≤s.nxt+1;omega];have hi:w.toNat<s.names.length:=(by rw[d.g.n8];omega);have gd:s.names.getD w.toNat none=s.names[w.toNat]:=(by simp[List.getD,hi]);have mm:s.names[w.toNat]∈s.names:=OB hi;rw[←gd]at mm;cases e:s.names.getD w.toNat none with
    | none=>exact d.put (λt e=>by cases e)
    | some t =>
     rw[e]at mm;obtain⟨ws,m⟩:=d.g.nn t mm;show Gd (if t∈(fO s h (.th t)).bj then gM (fO s h (.th t)) t else fO s h (.th t));have g2:Good (fO s h (.th t)):=d.g.put λu z=>by cases z;exact#[ws,m]
     by_cases c:t∈s.bj
     ·rw[if_pos (show t∈(fO s h (.th t)).bj from c)]
      refine Gd.JP #[g2,d.dy,d.df,d.rd] c λu hu=>?_;rcases eV hu with hu|hu
      ·exact .inr (d.dh u hu)
      ·injection hu with hu;exact .inl hu
     ·rw[if_neg (show ¬t∈(fO s h (.th t)).bj from c)]
      exact d.put λu z=>by cases z;exact#[#[ws,m],c]
   ·exact same
  ·exact same
 | word h x =>
  show Gd (cB s h x).2∧s.nxt≤(cB s h x).2.nxt∧(cB s h x).2.nxt≤s.nxt+1;unfold cB;split
  ·rename_i t e
   split
   ·split
    ·exact same
    ·rename_i c
     exact#[#[d.g.aS (d.g.hand e) c,d.dy,d.dh,d.df,d.rd],OF _,by show s.nxt≤s.nxt+1;omega]
   ·exact same
  ·exact same
 | small=>exact#[d.small,OF _,by show s.nxt≤s.nxt+1;omega]
 | turn =>
  show Gd (vR s).2∧s.nxt≤(vR s).2.nxt∧(vR s).2.nxt≤s.nxt+1;unfold vR;split
  ·rename_i c
   rw[show KO s=(none,IQ s) from if_pos c];exact#[d.fin,OF _,by show s.nxt≤s.nxt+1;omega]
  ·rename_i c
   rw[show BO s=(none,EH (eG s)) from if_neg c];exact#[d.small.beg rfl,OF _,by show s.nxt≤s.nxt+1;omega]
theorem gd0{my:Bool}{room limit:Int}:Gd (s0 my room limit):=#[good0,(λt m=>nomatch m),(λt _ m=>nomatch m),(λu ws t m=>nomatch m),λ_=>rfl]
noncomputable def CP(K:W.Frag):Sp:=λvs H Q _=>∃(a:Addr) (ns:List Int),vs=[.ref a]∧SqL K H a (ns.map V.int)∧ns.length≤63∧∀ H',Q (.bl true) H'
end
end K27
end
section
namespace K27.R
open PySem L2 LX PySem.NumText
noncomputable def cK(n:Int):Str:=(toString n:String)
theorem eK(m:Nat):(cK (m:Int)).cps.toList=(Nat.toDigits 10 m).map Char.toNat:=PySem.W.KIN.signs_num m
theorem mJ(m:Nat):(cK (-((m+1:Nat):Int))).cps.toList=45::(Nat.toDigits 10 (m+1)).map Char.toNat:=by
 show(Str.ofString (toString (-((m+1:Nat):Int)))).cps.toList=_;rw[PyProof.Rows.signs_ofString];have e:(toString (-((m+1:Nat):Int)):String) = "-" ++ Nat.repr (m+1):=rfl;rw[e,String.toList_append,Nat.toList_repr];rfl
theorem eQ(m:Nat):AllDigits ((Nat.toDigits 10 m).map Char.toNat):=λc hc=>by
 obtain⟨ch,hch,e⟩:=Og.mp hc;rw[←e];exact PyProof.Rows.digit_range (Nat.isDigit_of_mem_toDigits (by decide) (by decide) hch)
theorem eL(m:Nat):(Nat.toDigits 10 m).map Char.toNat≠[]:=λe=>by
 have h:=List.map_eq_nil_iff.mp e
 have:0<(Nat.toDigits 10 m).length:=Nat.length_toDigits_pos
 rw[h]at this;exact absurd this (by decide)
theorem eR{m:Nat}(h:m≤10 ^ 60):((Nat.toDigits 10 m).map Char.toNat).length≤61:=by
 rw[NI];exact(Nat.length_toDigits_le_iff (by decide) (by decide)).mpr (Ow h (by decide))
theorem zc:∀ d:Nat,d<10→(Nat.digitChar d).toNat=48→d=0:=by decide
theorem A9{a b:List Nat}(h:a≠[]):(a++b).head?=a.head?:=by
 cases a with
 | nil=>exact absurd rfl h
 | cons x a=>rfl
theorem iS(m:Nat)(h:((Nat.toDigits 10 m).map Char.toNat).head?=some 48):m=0:=by
 induction m using Nat.strongRecOn with
 | _ m ih =>
  by_cases hm:m<10
  ·rw[Nat.toDigits_of_lt_base hm]at h
   exact zc m hm (Oh h)
  ·have hm2:m%10<10:=Nat.mod_lt m (by decide)
   have t:Nat.toDigits 10 (m/10)++Nat.toDigits 10 (m%10)=Nat.toDigits 10 (10*(m/10)+m%10):=Nat.toDigits_append_toDigits (by decide) (by omega) hm2;rw[Nat.div_add_mod]at t;rw[←t,N9,A9 (eL (m/10))]at h
   have:=ih (m/10) (by omega) h
   omega
theorem zg{m:Nat}(h:m≤10 ^ 60):PySem.intText? (cK (m:Int))=some (m:Int):=by
 have e:=intText_digits (x:=cK (m:Int)) (by rw[eK];exact eQ m) (by rw[eK];exact eL m) (by
  show(cK (m:Int)).cps.size≤4300;rw[←Ov,eK];exact NW (eR h) (by decide))
 rw[eK,PySem.W.KIN.val_back]at e;exact e
theorem zh{m:Nat}(h:m+1≤10 ^ 60):PySem.intText? (cK (-((m+1:Nat):Int)))=some (-((m+1:Nat):Int)):=by
 have e:=intText_neg (x:=cK (-((m+1:Nat):Int))) (mJ m) (eQ (m+1)) (eL (m+1)) (by
  show(cK (-((m+1:Nat):Int))).cps.size≤4300;rw[←Ov,mJ]
  have:=eR h
  rw[Oi];omega)
 rw[PySem.W.KIN.val_back]at e;exact e
noncomputable def Sm(n:Int):Prop:=-(10 ^ 60)≤n∧n≤10 ^ 60
theorem qa{n:Int}(h:Sm n):(∃ m:Nat,n=(m:Int)∧m≤10 ^ 60)∨∃ m:Nat,n=-((m+1:Nat):Int)∧m+1≤10 ^ 60:=by
 obtain⟨h1,h2⟩:=h;by_cases z:n<0
 ·exact .inr #[(-n-1).toNat,by omega,by omega]
 ·exact .inl #[n.toNat,by omega,by omega]
theorem vc{n:Int}(h:Sm n):PySem.intText? (cK n)=some n:=by
 rcases qa h with⟨m,rfl,hm⟩|⟨m,rfl,hm⟩
 ·exact zg hm
 ·exact zh hm
theorem qc{n:Int}(h:Sm n):(∃ cs:List Nat,(cK n).cps.toList=cs∧AllDigits cs∧cs≠[]∧cs.length≤61∧(cs.head?=some 48→n=0))∨∃ cs:List Nat,(cK n).cps.toList=45::cs∧AllDigits cs∧cs≠[]∧cs.length≤61∧cs.head?≠some 48:=by
 rcases qa h with⟨m,rfl,hm⟩|⟨m,rfl,hm⟩
 ·exact .inl #[_,eK m,eQ m,eL m,eR hm,λe=>by rw[iS m e];rfl]
 ·exact .inr #[_,mJ m,eQ _,eL _,eR hm,λe=>by have:=iS _ e;omega]
theorem qO{n:Int}(h:Sm n):1≤(cK n).length∧(cK n).length≤62:=by
 have e:(cK n).length=(cK n).cps.toList.length:=(Ov).symm;rcases qc h with⟨cs,e1,_,ne,hl,_⟩|⟨cs,e1,_,ne,hl,_⟩
 ·rw[e,e1]
  have:=List.length_pos_iff.mpr ne
  omega
 ·rw[e,e1,Oi]
  omega
theorem pH{n:Int}(h:Sm n)(c:Nat)(hc:c<45):c∉(cK n).cps.toList:=λhm=>by
 rcases qc h with⟨cs,e1,ad,_⟩|⟨cs,e1,ad,_⟩
 ·rw[e1]at hm
  have:=ad c hm
  omega
 ·rw[e1]at hm
  rcases NY.mp hm with z|z
  ·omega
  ·have:=ad c z
   omega
theorem gN(sep:Str)(x y:Str)(r:List Str):(Txt.join sep (x::y::r)).cps.toList=x.cps.toList++(sep.cps.toList++(Txt.join sep (y::r)).cps.toList):=by
 show(Builtin.Str.glued sep (x::y::r)).cps.toList=x.cps.toList++(sep.cps.toList++(Builtin.Str.glued sep (y::r)).cps.toList);rw[Ph,Ph];show((x++sep)++Str.join sep (y::r)).cps.toList=_;show((x.cps++sep.cps)++(Str.join sep (y::r)).cps).toList=_;rw[PX,PX,O6]
theorem join_one(sep x:Str):Txt.join sep [x]=x:=rfl
theorem xT:∀ {c:Nat} {a b x y:List Nat},c∉a→c∉b→a++c::x=b++c::y→a=b∧x=y
 | c,[],[],x,y,_,_,e=>#[rfl,by injection e]
 | c,[],d::b,x,y,_,hb,e=>absurd (by injection e with e1;rw[e1];exact NV) hb
 | c,d::a,[],x,y,ha,_,e=>absurd (by injection e with e1;rw[←e1];exact NV) ha
 | c,d::a,d'::b,x,y,ha,hb,e=>by
  injection e with e1 e2;obtain⟨h1,h2⟩:=xT (λz=>ha (Oa _ z)) (λz=>hb (Oa _ z)) e2;exact#[by rw[e1,h1],h2]
theorem pI{x y:Str}(h:x.cps.toList=y.cps.toList):x=y:=by
 cases x;cases y;congr
 exact Array.toList_inj.mp h
theorem ve{c:Nat}:∀ {xs ys:List Str},xs≠[]→ys≠[]→(∀ x∈xs,c∉x.cps.toList)→(∀ y∈ys,c∉y.cps.toList)→Txt.join #[(List.toArray [c])] xs=Txt.join #[(List.toArray [c])] ys→xs=ys
 | [],_,h,_,_,_,_=>absurd rfl h
 | _::_,[],_,h,_,_,_=>absurd rfl h
 | [x],[y],_,_,_,_,e=>by rw[join_one,join_one]at e;rw[e]
 | [x],y::y2::ys,_,_,hx,_,e=>by
  have e1:=congrArg (λz=>z.cps.toList) e;simp only[join_one,gN]at e1;exact absurd (by rw[e1];exact NS _ (Ot _ (by simp))) (hx x NV)
 | x::x2::xs,[y],_,_,_,hy,e=>by
  have e1:=congrArg (λz=>z.cps.toList) e;simp only[join_one,gN]at e1;exact absurd (by rw[←e1];exact NS _ (Ot _ (by simp))) (hy y NV)
 | x::x2::xs,y::y2::ys,_,_,hx,hy,e=>by
  have e1:=congrArg (λz=>z.cps.toList) e;simp only[gN]at e1;obtain⟨h1,h2⟩:=xT (hx x NV) (hy y NV) (show x.cps.toList++c::(Txt.join #[(List.toArray [c])] (x2::xs)).cps.toList=y.cps.toList++c::(Txt.join #[(List.toArray [c])] (y2::ys)).cps.toList from e1);rw[pI h1,ve (by simp) (by simp) (λz hz=>hx z (Oa _ hz)) (λz hz=>hy z (Oa _ hz)) (pI h2)]
theorem Ba(x y:Str):Txt.split x y≠[]:=by
 unfold Txt.split;split
 ·simp
 ·split
  ·simp
  ·rw[StrLaws.partsBetween_eq]
   obtain⟨p,r,e⟩:=StrLaws.partsFrom_ne x y.length 0 (Builtin.Str.occurrences x y 0 x.length (x.length+1));rw[e];simp
theorem pJ{c:Nat}{xs:List Str}(h0:xs≠[])(h:∀ x∈xs,c∉x.cps.toList):Txt.split (Txt.join #[(List.toArray [c])] xs) #[(List.toArray [c])]=xs:=by
 refine ve (c:=c) (Ba _ _) h0 (StrLaws.split_free _ c) h ?_;show Builtin.Str.glued _ _=_;rw[Ph];exact StrLaws.join_split _ _
theorem vg(sep:Str)(xs:List Str):(Txt.join sep xs).length≤(xs.map (·.length)).sum+xs.length*sep.length:=by
 show(Builtin.Str.glued sep xs).length≤_;rw[Ph];exact StrLaws.join_length_le sep xs
theorem rV{sep:Str}{c:Nat}(hs:c∉sep.cps.toList):∀ {xs:List Str},(∀ x∈xs,c∉x.cps.toList)→c∉(Txt.join sep xs).cps.toList
 | [],_=>by show c∉([]:List Nat);simp
 | [x],h=>by rw[join_one];exact h x NV
 | x::y::r,h=>by
  rw[gN];intro hm;rcases Om.mp hm with z|z
  ·exact h x NV z
  ·rcases Om.mp z with z|z
   ·exact hs z
   ·exact rV hs (λw hw=>h w (Oa _ hw)) z
noncomputable abbrev pK:Stmt:=jQ
noncomputable abbrev sWr:Stmt:=gR
noncomputable abbrev KP:Stmt:=jS
noncomputable abbrev vS:Stmt:=gS
noncomputable abbrev BP:Stmt:=iP
noncomputable abbrev qP:Stmt:=d9
noncomputable abbrev EI:Stmt:=fI
noncomputable abbrev BQ:Stmt:=iQ
noncomputable abbrev BR:Stmt:=c7
noncomputable def pL:Option Expr→Scope
 | some (.ListComp _ _ sc _)=>sc
 | _=>default
noncomputable def KQ:Stmt→Option Expr
 | .Return e _=>e
 | _=>none
noncomputable def CQ:Option Expr→Option Expr
 | some (.Call _ (a::_) _ _)=>some a
 | _=>none
noncomputable def M0:Option Expr→Option Expr
 | some (.BoolOp _ (_::e::_) _)=>some e
 | _=>none
theorem Bb{X:Cx}{st:List Stmt}:PSs X st (λ_ _ _=>False):=λ_ _ _ _ _ _ h=>h.elim
noncomputable abbrev FIG:Str := "0123456789"
noncomputable abbrev LET:Str := "abcdefghijklmnopqrstuvwxyz"
noncomputable def inS(sg:Str)(c:Nat):Bool:=!(Builtin.Str.occurrences sg #[(List.toArray [c])] 0 sg.length 1).isEmpty
noncomputable def fQ(z sg:Str):Bool:=!decide (z=(("" : String):Str))&&z.cps.toList.all (inS sg)
noncomputable def cnt(z:Str):Bool:=decide (z.length≤61)&&fQ z FIG&&(decide (z=(("0" : String):Str))||!decide (z.cps.toList.head?=some 48))
section
variable{P:Program}{w:World}{K:W.Frag}{mg:Str→Option Value}{base:Heap}
noncomputable def tS:Sp:=λvs H Q _=>∃ z sg:Str,vs=[.str z,.str sg]∧z.length≤100000∧∀ H',au H H'→Q (.bl (fQ z sg)) H'
theorem scM:ao ["part", "signs"] ["part", "signs"] (ag vS):=#[rfl,rfl,rfl,by decide +kernel,rfl,by decide +kernel,by decide +kernel]
noncomputable abbrev KR:Scope:=pL (CQ (M0 (KQ ((aA vS).head!))))
theorem cM:vD (ag vS) KR "sign" ["signs"] ["part", "signs"] [1]:=by decide +kernel
theorem DT{f:Addr}{fd:FuncData}(F:Fun K "is_made_of" "is_made_of" vS f fd)(za:mg "all" = none):cx P w K mg base (CXE P w) 1 f fd ["part", "signs"] tS:=by
 refine F.okE scM (λvs H Q E h=>?_) (λcdv A outer s H vs Q E hr h=>?_)
 ·obtain⟨z,sg,rfl,_⟩:=h
  rfl
 ·obtain⟨z,sg,rfl,hz,k⟩:=h
  have co:ju (cxE P w K mg base ["part", "signs"] "is_made_of" (ag vS) f cdv A outer s H E).nox KR [("signs",s.heap.objs.size+1)] "sign" [1] ["sign", "signs"] :=
   gn rfl rfl rfl cM rfl rfl (by intro q hq;rw[NN.mp hq];rfl)
  refine#[_,PSs.nox (ai (aB (wI (cc qV (pv 0) aw (aN _)) (qh (aX (uT rfl) rfl za PyProof.Rows.Boot.«all» (aa (lK co rfl (Fy (pv 0)) (λC fp s₀ H₀=>cc yq (pv 0) (pv 1) (by with_unfolding_all rfl))) ah)))))),?_];have fin:∀ {H':Hp} {b:Bool},au H H'→b=fQ z sg→Q (.bl b) H':=λsm e=>by rw[e];exact k _ sm
  refine#[_,rfl,rfl,_,rfl,bw (λh=>?_) (λh=>?_)]
  ·have hne:¬z=(("" : String):Str):=λe=>by
    rw[e]at h;simp at h
   refine#[_,rfl,_,rfl,λD hD=>?_];refine Az (z:=z) (λj zs H2=>zs=((z.cps.toList.take j).map (inS sg)).map V.bl∧au H H2∧H2 D=some (.lst zs)) #[rfl,au.upd hD,ae]
    (λj zs H2 hj ⟨e,_,y⟩=>#[y,by rw[e,NI,NI,Oq,Ov];omega]) (NW (show z.cps.size≤100000 from hz) (by decide))
    (λj c zs H2 hx ⟨e,s2,y⟩=>?_) (λzs H2 ⟨e,s2,y⟩=>?_)
   ·have hlt:j<z.cps.size:=(Ou.mp hx).1
    have tk:z.cps.toList.take (j+1)=z.cps.toList.take j++[c]:=by
     rw[Ob (by rw[Ov];exact hlt)];congr 2
     rw[Array.getElem_toList];exact(Ou.mp hx).2
    refine#[_,rfl,_,rfl,_,_,rfl,rfl,y,?_,λc u g=>by rw[ab (aj g hD)];exact s2 c u g,ae];rw[tk,e,N9,N9];rfl
   ·rw[NZ (by rw[Ov];exact NO _)]at e
    refine#[D,z.cps.toList.map (inS sg),rfl,by rw[←e];exact SqL.of y,fin s2 ?_];unfold fQ;rw[decide_eq_false hne,List.all_map];rfl
  ·refine fin (au.refl _) ?_
   have he:z=(("" : String):Str):=by
    have:=eq_false_of_ne_true h
    simpa using this
   unfold fQ;rw[decide_eq_true he];rfl
noncomputable def CS:Sp:=λvs H Q _=>∃ z:Str,vs=[.str z]∧z.length≤100000∧∀ H',au H H'→Q (.bl (cnt z)) H'
theorem scC:ao ["part"] ["part"] (ag KP):=#[rfl,rfl,rfl,by decide +kernel,rfl,by decide +kernel,by decide +kernel]
theorem DU{z:Str}(h:z≠(("" : String):Str)):∃ c,atI z.cps.toList 0=some c∧z.cps.toList.head?=some c:=by
 cases e:z.cps.toList with
 | nil=>exact absurd (pI (by rw[e];rfl)) h
 | cons c r=>exact#[c,cE (xs:=c::r) (j:=0) rfl,rfl]
theorem FK{f fM:Addr}{fd fdM:FuncData}(F:Fun K "is_count" "is_count" KP f fd)(zn:mg "len" = none){t1 t2:Tok}(g1:mg "MOST_FIGURES" = some (.int 61 t1))(g2:mg "FIGURES" = some (.str FIG t2))
  (GM:cx P w K mg base (CXE P w) 1 fM fdM ["part", "signs"] tS) (mM:mg "is_made_of" = some (.ref fM)) (kM:PySem.W.keepIn K (.ref fM)=true) (bM:Binds K fdM ["part", "signs"] []):cx P w K mg base (CXE P w) 2 f fd ["part"] CS:=by
 refine F.okE scC (λvs H Q E h=>?_) (λcdv A outer s H vs Q E hr h=>?_)
 ·obtain⟨z,rfl,_⟩:=h
  rfl
 ·obtain⟨z,rfl,hz,k⟩:=h
  refine#[_,PSs.nox (ak (a6 (PW.pt (pw_or (aH tK (aX kG rfl zn PyProof.Rows.Boot.«len» (aa (pv 0) ah)) (ba (v:=.int 61) rfl g1 #[_,rfl]) (aN _)) (pw_or1 (ic (jg (c8 GM hr rfl mM kM bM .nil b4 (aa (pv 0) (aa (ba (v:=.str FIG) rfl g2 #[_,rfl]) ah)))))))) (ai (aB k9)) aK)
   (ai (aB (Eh (cc dB (pv 0) aw (aN _)) (qh (cc qV (aP E7 (pv 0) aq (λ_ _=>rfl)) aw (aN _))))))),?_]
  have fin:∀ {H':Hp} {b:Bool},au H H'→b=cnt z→Q (.bl b) H':=λsm e=>by rw[e];exact k _ sm
  have hzl:z.length≤sizeLine:=NW hz (by decide);refine#[_,rfl,z,rfl,hzl,_,_,rfl,rfl,_,rfl,bw (λh=>?_) (λh=>?_)]
  ·refine cZ (fin (au.refl _) ?_)
   have h':61<(z.length:Int):=of_decide_eq_true h;unfold cnt;rw[decide_eq_false (by omega)];rfl
  ·have h':¬61<(z.length:Int):=λx=>h (decide_eq_true x)
   have d1:decide (z.length≤61)=true:=decide_eq_true (by omega);refine#[_,rfl,z,FIG,rfl,hz,λH1 s1=>#[_,rfl,?_]];cases hm:fQ z FIG with
   | false =>
    refine cZ (fin s1 ?_);unfold cnt;rw[hm,Py];rfl
   | true =>
    have hne:z≠(("" : String):Str):=λe=>by
     unfold fQ at hm;rw[decide_eq_true e]at hm;exact absurd hm (by simp)
    obtain⟨c,ha,hh⟩:=DU hne;refine b7 #[_,rfl,rfl,_,rfl,bw (λh=>?_) (λh=>?_)]
    ·refine fin s1 ?_
     have e:z=(("0" : String):Str):=by
      have:=of_decide_eq_true h
      injection this
     unfold cnt;rw[hm,d1,decide_eq_true e];rfl
    ·refine#[_,rfl,z,0,c,rfl,rfl,hzl,ha,rfl,fin s1 ?_]
     have e:¬z=(("0" : String):Str):=λe=>h (by rw[e];exact decide_eq_true rfl);unfold cnt;rw[hm,d1,decide_eq_false e,hh];show(!decide (V.str #[(List.toArray [c])]=V.str (("0" : String):Str)))=!decide (some c=some 48);congr 1
     rw[OK,decide_eq_true_eq,decide_eq_true_eq];have e0:(("0" : String):Str)=#[(List.toArray [48])]:=(by decide +kernel);rw[e0];simp
inductive Kd|num|cnt|age|mrk
noncomputable def kdT:Kd→Str
 | .num => "number"
 | .cnt => "count"
 | .age => "age"
 | .mrk => "mark"
noncomputable abbrev YNG:Str := "young"
noncomputable abbrev OLD:Str := "old"
noncomputable abbrev MIN:Str := "-"
noncomputable abbrev MZ:Str := "-0"
noncomputable def minus(z:Str):Bool:=decide (0+MIN.length≤z.length)&&Builtin.Str.subAt z MIN 0
noncomputable def wr:Kd→Str→Bool
 | .mrk,z=>decide (z.length≤8)&&fQ z LET
 | .age,z=>decide (z=YNG)||decide (z=OLD)
 | .num,z=>if minus z=true then !decide (z=MZ)&&cnt (pz z) else cnt z
 | .cnt,z=>cnt z
theorem zj{z:Str}(h:minus z=true):1≤z.length:=by
 unfold minus at h
 have:=(OS _ _ ▸ h).1
 have:=of_decide_eq_true this
 exact this
theorem Bc(z:Str):(pz z).length≤z.length:=by
 show(z.cps.toList.drop 1).toArray.size≤z.cps.size;rw[NU,PH,Ov];exact Nat.sub_le _ _
noncomputable def JR:Kd→Bool
 | .mrk=>true
 | _=>false
noncomputable def JS:Kd→Bool
 | .age=>true
 | _=>false
noncomputable def isNum:Kd→Bool
 | .num=>true
 | _=>false
theorem BS(kd:Kd):decide (V.str (kdT kd)=V.str (Str.ofString "mark"))=JR kd:=by cases kd<;>decide +kernel
theorem BU(kd:Kd):decide (V.str (kdT kd)=V.str (Str.ofString "age"))=JS kd:=by cases kd<;>decide +kernel
theorem FL(kd:Kd):decide (V.str (kdT kd)=V.str (Str.ofString "number"))=isNum kd:=by cases kd<;>decide +kernel
theorem FO(z a b:Str):inV (V.str z) [V.str a,V.str b]=(decide (z=a)||decide (z=b)):=by
 have e:∀ x y:Str,(x == y)=decide (y=x):=λx y=>by
  rw[OK,beq_iff_eq,decide_eq_true_eq];exact eq_comm
 show((a == z)||((b == z)||false))=_;rw[Bool.or_false,e,e]
noncomputable def IS:Sp:=λvs H Q _=>∃(z:Str) (kd:Kd),vs=[.str z,.str (kdT kd)]∧z.length≤100000∧∀ H',au H H'→Q (.bl (wr kd z)) H'
theorem M3:ao ["part", "kind"] ["part", "kind"] (ag sWr):=#[rfl,rfl,rfl,by decide +kernel,rfl,by decide +kernel,by decide +kernel]
theorem JT{f fM fC:Addr}{fd fdM fdC:FuncData}(F:Fun K "is_written" "is_written" sWr f fd)(zn:mg "len" = none){t1 t2:Tok}(g1:mg "MOST_LETTERS" = some (.int 8 t1))(g2:mg "LETTERS" = some (.str LET t2))
  (GM:cx P w K mg base (CXE P w) 1 fM fdM ["part", "signs"] tS) (mM:mg "is_made_of" = some (.ref fM)) (kM:PySem.W.keepIn K (.ref fM)=true) (bM:Binds K fdM ["part", "signs"] [])
  (GC:cx P w K mg base (CXE P w) 2 fC fdC ["part"] CS) (mC:mg "is_count" = some (.ref fC)) (kC:PySem.W.keepIn K (.ref fC)=true) (bC:Binds K fdC ["part"] []):cx P w K mg base (CXE P w) 3 f fd ["part", "kind"] IS:=by
 refine F.okE M3 (λvs H Q E h=>?_) (λcdv A outer s H vs Q E hr h=>?_)
 ·obtain⟨z,kd,rfl,_⟩:=h
  rfl
 ·obtain⟨z,kd,rfl,hz,k⟩:=h
  have r1:=hr.mono (show 1≤2 by decide);refine#[_,PSs.nox (ak (a6 (aH dB (pv 1) aw (aN _)) (ai (aB (wI (cc lb (aX kG rfl zn PyProof.Rows.Boot.«len» (aa (pv 0) ah)) (ba (v:=.int 8) rfl g1 #[_,rfl]) (aN _)) (qh (c8 GM r1 rfl mM kM bM .nil b4 (aa (pv 0) (aa (ba (v:=.str LET) rfl g2 #[_,rfl]) ah))))))) aK)
   (ak (a6 (aH dB (pv 1) aw (aN _)) (ai (aB (cc mI (pv 0) (bY (aa aw (aa aw ah))) (by with_unfolding_all rfl)))) aK)
   (ak (a6 (PW.pt (pw_and (aH dB (pv 1) aw (aN _)) (pw_and1 (jg (m8 PySem.F.plainAttrs_str PySem.F.slot_str_startswith PySem.F.type_str_startswith yN (pv 0) (aa aw ah)))))) (ai (aB (wI (cc qV (pv 0) aw (aN _)) (qh (c8 GC hr rfl mC kC bC .nil b4 (aa (pW Dr (pv 0) (sU aq) sT) ah)))))) aK)
   (ai (aB (c8 GC hr rfl mC kC bC .nil b4 (aa (pv 0) ah))))))),?_]
  have fin:∀ {H':Hp} {b:Bool},au H H'→b=wr kd z→Q (.bl b) H':=λsm e=>by rw[e];exact k _ sm
  have hzl:z.length≤sizeLine:=NW hz (by decide);have e1:=BS kd;have e2:=BU kd;have e3:=FL kd;refine#[_,rfl,rfl,_,rfl,?_];rw[e1];cases kd with
  | mrk =>
   refine cZ #[_,rfl,z,rfl,hzl,_,_,rfl,rfl,_,rfl,bw (λh=>?_) (λh=>?_)]
   ·have h':(z.length:Int)≤8:=of_decide_eq_true h
    refine#[_,rfl,z,LET,rfl,hz,λH1 s1=>fin s1 ?_];show _=(decide (z.length≤8)&&fQ z LET);rw[decide_eq_true (show z.length≤8 by omega)];rfl
   ·have h':¬(z.length:Int)≤8:=λx=>h (decide_eq_true x)
    refine fin (au.refl _) ?_;show _=(decide (z.length≤8)&&fQ z LET);rw[decide_eq_false (show ¬z.length≤8 by omega)];rfl
  | age =>
   refine b7 #[_,rfl,rfl,_,rfl,?_];rw[e2];refine cZ #[_,rfl,by show 2≤sizeLine;decide,λp hp=>#[p,_,rfl,.inr (SqT.of ae),rfl,rfl,fin (au.upd hp) ?_]];exact FO z YNG OLD
  | num =>
   refine b7 #[_,rfl,rfl,_,rfl,?_];rw[e2];refine b7 #[_,rfl,rfl,_,rfl,?_];rw[e3];refine cZ #[_,rfl,rfl,z,MIN,rfl,rfl,_,rfl,bw (λh=>?_) (λh=>?_)]
   ·have hm:minus z=true:=h
    have ew:wr .num z=(!decide (z=MZ)&&cnt (pz z)):=if_pos hm;refine#[_,rfl,rfl,_,rfl,bw (λh=>?_) (λh=>?_)]
    ·have hd:¬z=MZ:=λe=>by rw[e]at h;exact absurd h (by decide +kernel)
     refine#[_,rfl,_,rfl,z,rfl,rfl,rfl,zj hm,hzl,pz z,rfl,NW (Bc z) hz,λH1 s1=>fin s1 ?_];rw[ew,decide_eq_false hd];rfl
    ·have hd:z=MZ:=by
      have h':=eq_false_of_ne_true h;rw[Bool.not_eq_false']at h'
      have:=of_decide_eq_true h'
      injection this
     refine fin (au.refl _) ?_;rw[ew,decide_eq_true hd];rfl
   ·have hm:¬minus z=true:=h
    have ew:wr .num z=cnt z:=if_neg hm;exact#[_,rfl,z,rfl,hz,λH1 s1=>fin s1 ew.symm]
  | cnt =>
   refine b7 #[_,rfl,rfl,_,rfl,?_];rw[e2];refine b7 #[_,rfl,rfl,_,rfl,?_];rw[e3];refine b7 (b7 #[_,rfl,z,rfl,hz,λH1 s1=>fin s1 rfl])
inductive Rdd:Kd→Str→V→Prop
 | mrk (z:Str):Rdd .mrk z (.str z)
 | age (z:Str):Rdd .age z (.bl (decide (z=YNG)))
 | num {z:Str} {n:Int}:PySem.intText? z=some n→z.length≤640→Rdd .num z (.int n)
 | cnt {z:Str} {n:Int}:PySem.intText? z=some n→z.length≤640→Rdd .cnt z (.int n)
noncomputable def tw:Sp:=λvs H Q _=>∃(z:Str) (kd:Kd) (v:V),vs=[.str z,.str (kdT kd)]∧Rdd kd z v∧Q v H
theorem M4:ao ["part", "kind"] ["part", "kind"] (ag BP):=#[rfl,rfl,rfl,by decide +kernel,rfl,by decide +kernel,by decide +kernel]
theorem Bd{f:Addr}{fd:FuncData}(F:Fun K "part_read" "part_read" BP f fd)(zi:mg "int" = none):cx P w K mg base (CXE P w) 1 f fd ["part", "kind"] tw:=by
 refine F.okE M4 (λvs H Q E h=>?_) (λcdv A outer s H vs Q E hr h=>?_)
 ·obtain⟨z,kd,v,rfl,_⟩:=h
  rfl
 ·obtain⟨z,kd,v,rfl,rd,k⟩:=h
  refine#[_,PSs.nox (ak (a6 (aH dB (pv 1) aw (aN _)) (ai (aB (pv 0))) aK)
   (ai (aB (eS (aH dB (pv 1) aw (aN _)) (cc dB (pv 0) aw (aN _)) (cj yM rfl zi PyProof.Rows.Boot.«int» (aa (pv 0) ah)))))),?_]
  have e1:=BS kd;have e2:=BU kd;refine#[_,rfl,rfl,_,rfl,?_];rw[e1];cases rd with
  | mrk=>exact cZ #[_,rfl,k]
  | age =>
   refine b7 #[_,rfl,rfl,_,rfl,?_];rw[e2];refine cZ #[_,rfl,rfl,?_];have e:decide (V.str z=V.str YNG)=decide (z=YNG):=by
    rw[OK,decide_eq_true_eq,decide_eq_true_eq];exact#[λh=>by injection h,λh=>by rw[h]]
   show Q (.bl (decide (V.str z=V.str YNG))) H;rw[e];exact k
  | num h1 h2 =>
   refine b7 #[_,rfl,rfl,_,rfl,?_];rw[e2];exact b7 #[_,rfl,z,_,rfl,h1,h2,k]
  | cnt h1 h2 =>
   refine b7 #[_,rfl,rfl,_,rfl,?_];rw[e2];exact b7 #[_,rfl,z,_,rfl,h1,h2,k]
end
inductive Rds:List Kd→List Str→List V→Prop
 | nil:Rds [] [] []
 | cons {k:Kd} {z:Str} {v:V} {ks:List Kd} {zs:List Str} {vs:List V}:Rdd k z v→Rds ks zs vs→Rds (k::ks) (z::zs) (v::vs)
theorem Rds.len{ks:List Kd}{zs:List Str}{vs:List V}(r:Rds ks zs vs):vs.length=ks.length∧zs.length=ks.length:=by
 induction r with
 | nil=>exact#[rfl,rfl]
 | cons _ _ ih=>exact#[by rw[Oi,Oi,ih.1],by rw[Oi,Oi,ih.2]]
theorem Rds.at{ks:List Kd}{zs:List Str}{vs:List V}(r:Rds ks zs vs):∀ {i:Nat} {k:Kd} {z:Str},ks[i]?=some k→zs[i]?=some z→∃ v,vs[i]?=some v∧Rdd k z v:=by
 induction r with
 | nil=>intro i k z h;simp at h
 | cons h _ ih =>
  intro i k z h1 h2;cases i with
  | zero =>
   simp only[List.getElem?_cons_zero,Option.some.injEq]at h1 h2;subst h1 h2;exact#[_,rfl,h]
  | succ i =>
   simp only[List.getElem?_cons_succ]at h1 h2;exact ih h1 h2
noncomputable def Wrs(zs:List Str)(ks:List Kd):Prop:=zs.length=ks.length∧∀ p∈zs.zip ks,wr p.2 p.1=true
section
variable{P:Program}{w:World}{K:W.Frag}{mg:Str→Option Value}{base:Heap}
theorem i7{H H':Hp}{a:Addr}{xs:List V}(h:SqT K H a xs)(s:au H H'):SqT K H' a xs:=Or.imp (λr=>Or.elim r (λe=>.inl (s _ _ e)) λ⟨o,e⟩=>.inr #[o,s _ _ e]) id h
theorem Be(x:V)(xs:List V):rf (x::xs) (some 1) none=xs:=by
 unfold rf;rw[show(some (1:Int))=some ((1:Nat):Int) from rfl,HT.xn,HT.uH,Oi,Nat.min_eq_left (by omega)];show(xs.take (xs.length+1-1))=xs;rw[Nat.add_sub_cancel,O3]
noncomputable def wZ(K:W.Frag):Sp:=λvs H Q _=>∃(l f:Addr) (wd:Str) (zs:List Str) (ks:List Kd),vs=[.ref l,.ref f]∧H l=some (.lst ((wd::zs).map V.str))∧SqT K H f (ks.map λk=>V.str (kdT k))∧zs.length≤100∧(∀ z∈zs,z.length≤100000) ∧
 ((Wrs zs ks∧∃ rvs,Rds ks zs rvs∧∀ t H',au H H'→H' t=some (.tup (.str wd::rvs))→Q (.ref t) H')∨(¬Wrs zs ks∧∀ H',au H H'→Q .non H'))
noncomputable abbrev NR:List Str:=["words", "form", "parts"]
theorem scR:ao NR ["words", "form"] (ag pK):=#[rfl,rfl,rfl,by decide +kernel,rfl,by decide +kernel,by decide +kernel]
noncomputable def M6:Stmt→Option Expr
 | .If e _ _ _=>some e
 | _=>none
noncomputable def un?:Option Expr→Option Expr
 | some (.UnaryOp _ e _)=>some e
 | _=>none
noncomputable def FP:Option Expr→Option Expr
 | some (.BinOp _ _ e _)=>some e
 | _=>none
noncomputable abbrev KS:Scope:=pL (CQ (un? (M6 ((aA pK).getD 2 (.Pass #[0,0,0,0])))))
noncomputable abbrev KU:Scope:=pL (FP (CQ (KQ ((aA pK).getD 3 (.Pass #[0,0,0,0])))))
theorem c1:qv (ag pK) KS "part" "kind" [] NR []:=by decide +kernel
theorem c2:qv (ag pK) KU "part" "kind" [] NR []:=by decide +kernel
theorem DV{f fW fR:Addr}{fd fdW fdR:FuncData}(F:Fun K "row_read" "row_read" pK f fd)(zn:mg "len" = none)(za:mg "all" = none)(zz:mg "zip" = none)(zt:mg "tuple" = none)
  (GW:cx P w K mg base (CXE P w) 3 fW fdW ["part", "kind"] IS) (mW:mg "is_written" = some (.ref fW)) (kW:PySem.W.keepIn K (.ref fW)=true) (bW:Binds K fdW ["part", "kind"] [])
  (GR:cx P w K mg base (CXE P w) 1 fR fdR ["part", "kind"] tw) (mR:mg "part_read" = some (.ref fR)) (kR:PySem.W.keepIn K (.ref fR)=true) (bR:Binds K fdR ["part", "kind"] []):cx P w K mg base (CXE P w) 4 f fd ["words", "form"] (wZ K):=by
 refine F.okE scR (λvs H Q E h=>?_) (λcdv A outer s H vs Q E hr h=>?_)
 ·obtain⟨l,f,wd,zs,ks,rfl,_⟩:=h
  rfl
 ·obtain⟨l,fa,wd,zs,ks,rfl,hl,hf,hz,hzz,k⟩:=h
  have r1:=hr.mono (show 1≤3 by decide);have co1:lM (cxE P w K mg base NR "row_read" (ag pK) f cdv A outer s H E).nox KS [] "part" "kind" [] ["part", "kind"]:=uW rfl rfl rfl c1 rfl rfl (by intro q hq;cases hq);have co2:lM (cxE P w K mg base NR "row_read" (ag pK) f cdv A outer s H E).nox KU [] "part" "kind" [] ["part", "kind"]:=uW rfl rfl rfl c2 rfl rfl (by intro q hq;cases hq);refine#[_,PSs.nox (ak (aY (i:=2) scR.nd rfl (Or.inl rfl) (pW xq (pv 0) (sU aq) sT))
   (ak (a6 (aH qV (aX aT rfl zn PyProof.Rows.Boot.«len» (aa (pv 2) ah)) (aX aT rfl zn PyProof.Rows.Boot.«len» (aa (pv 1) ah)) (aN _)) (ai (aB bu)) aK)
   (ak (a6 (ic (jg (aX (uT rfl) rfl za PyProof.Rows.Boot.«all» (aa (uV co1 rfl (BC rfl zz (aa (pv 2) (aa (pv 1) ah))) (λC fp s₀ H₀=>c8 GW hr rfl mW kW bW .nil qX (aa (pv 0) (aa (pv 1) ah)))) ah)))) (ai (aB bu)) aK)
   (ai (aB (cj rM rfl zt PyProof.Rows.Boot.«tuple» (aa (cb Fd (cC (aa (aP dE (pv 0) aq (λ_ _=>rfl)) ah)) (uV co2 rfl (BC rfl zz (aa (pv 2) (aa (pv 1) ah))) (λC fp s₀ H₀=>c8 GR r1 rfl mR kR bR .nil qX (aa (pv 0) (aa (pv 1) ah))))) ah))))))),?_]
  refine#[_,rfl,_,rfl,l,_,rfl,SqL.of hl,λpa hpa=>?_];rw[Oo,Be];have s1:=au.upd (o:=.lst (zs.map V.str)) hpa;have zpa:upd H pa (.lst (zs.map V.str)) pa=some (.lst (zs.map V.str)):=ae;obtain⟨H1,e1⟩:∃ H1,upd H pa (.lst (zs.map V.str))=H1:=#[_,rfl];show gw 2 (V.ref pa) _ (upd H pa (.lst (zs.map V.str))) _;rw[e1]at s1 zpa ⊢;refine#[_,rfl,pa,_,rfl,.inl (SqL.of zpa),_,rfl,fa,_,rfl,.inr (i7 hf s1),rfl,_,rfl,bw (λh=>?_) (λh=>?_)]
  ·have hne:¬zs.length=ks.length:=λe=>by
    rw[NI,NI,e]at h;simp at h
   rcases k with⟨⟨e,_⟩,_⟩|⟨_,k⟩
   ·exact absurd e hne
   ·exact k _ s1
  ·have hlen:zs.length=ks.length:=by
    have:=eq_false_of_ne_true h
    rw[Bool.not_eq_false']at this
    have:=of_decide_eq_true this
    injection this with this;rw[NI,NI]at this;omega
   have hx:(zs.map V.str).length=(ks.map λk=>V.str (kdT k)).length:=(by rw[NI,NI,hlen]);refine#[_,rfl,_,rfl,false,true,pa,fa,rfl,#[_,SqL.of zpa],#[_,i7 hf s1],λD hD=>?_];have hD0:H D=none:=s1.free hD;refine uZ (K:=K) (b1:=false) (b2:=true) (a1:=pa) (a2:=fa) (xs:=zs.map V.str) (ys:=ks.map λk=>V.str (kdT k)) (λj ys H2=>ys=(((zs.zip ks).take j).map λp=>V.bl (wr p.2 p.1))∧au H1 H2∧H2 D=some (.lst ys)) hx #[rfl,au.upd hD,ae]
    (λj ys H2 hj ⟨e,_,y⟩=>#[y,by rw[NI]at hj;rw[e,NI,Oq,Qe];omega]) (λj ys H2 _ ⟨_,s2,_⟩=>#[SqL.of (s2 _ _ zpa),i7 hf (s1.trans s2)]) (NW (show(zs.map V.str).length≤100 by rw[NI];exact hz) (by decide))
    (λj x y ys H2 t hx hy ⟨e,s2,yD⟩ ht=>?_) (λys H2 ⟨e,s2,yD⟩=>?_)
   ·rw[N0]at hx hy
    obtain⟨z,hz',rfl⟩:=Ol.mp hx;obtain⟨kd,hk',rfl⟩:=Ol.mp hy;have hj:j<zs.length:=(NK.mp hz').1;have tk:(zs.zip ks).take (j+1)=(zs.zip ks).take j++[(z,kd)]:=by
     rw[Ob (by rw[Qe];omega)];congr 2
     rw[List.getElem_zip];exact Prod.ext (NK.mp hz').2 (NK.mp hk').2
    refine#[_,rfl,_,rfl,z,kd,rfl,hzz z (Of hz'),λH3 s3=>?_];have s23:=(au.upd ht).trans s3;refine#[s23 _ _ yD,?_,λc u g=>by rw[ab (aj g hD)];exact s23 _ _ (s2 c u g),ae];rw[tk,e,N9];rfl
   ·rw[NI,NZ (by rw[Qe];omega)]at e
    have eb:ys=((zs.zip ks).map λp=>wr p.2 p.1).map V.bl:=(by rw[e,OD];rfl);refine#[D,(zs.zip ks).map λp=>wr p.2 p.1,rfl,by rw[←eb];exact SqL.of yD,_,rfl,?_];have s12:=s1.trans s2;rcases k with⟨wk,rvs,rd,k⟩|⟨nk,k⟩
    ·have ea:((zs.zip ks).map λp=>wr p.2 p.1).all id=true:=by
      rw[List.all_map,O1];exact wk.2
     rw[ea];obtain⟨l1,l2⟩:=rd.len;refine b7 #[_,rfl,l,_,0,.str wd,rfl,rfl,SqL.of (s12 _ _ hl),cE (xs:=(wd::zs).map V.str) (j:=0) rfl,by show 1≤sizeLine;decide,λq1 hq1=>?_];have s3:=au.upd (o:=.lst [V.str wd]) hq1;have zq1:upd H2 q1 (.lst [V.str wd]) q1=some (.lst [V.str wd]):=ae;obtain⟨H3,e3⟩:∃ H3,upd H2 q1 (.lst [V.str wd])=H3:=#[_,rfl];rw[e3]at s3 zq1 ⊢;have s13:=s2.trans s3;refine#[_,rfl,_,rfl,false,true,pa,fa,rfl,#[_,SqL.of (s13 _ _ zpa)],#[_,i7 hf (s1.trans s13)],λD2 hD2=>?_];have NH:H D2=none:=(s1.trans s13).free hD2;refine uZ (K:=K) (b1:=false) (b2:=true) (a1:=pa) (a2:=fa) (xs:=zs.map V.str) (ys:=ks.map λk=>V.str (kdT k)) (λj ys H4=>ys=rvs.take j∧au H3 H4∧H4 D2=some (.lst ys)) hx #[rfl,au.upd hD2,ae]
      (λj ys H4 hj ⟨e,_,y⟩=>#[y,by rw[NI]at hj;rw[e,Oq];omega]) (λj ys H4 _ ⟨_,s4,_⟩=>#[SqL.of (s4 _ _ (s13 _ _ zpa)),i7 hf ((s1.trans s13).trans s4)]) (NW (show(zs.map V.str).length≤100 by rw[NI];exact hz) (by decide))
      (λj x y ys H4 t hx hy ⟨e,s4,yD⟩ ht=>?_) (λys H4 ⟨e,s4,yD⟩=>?_)
     ·rw[N0]at hx hy
      obtain⟨z,hz',rfl⟩:=Ol.mp hx;obtain⟨kd,hk',rfl⟩:=Ol.mp hy;obtain⟨v,hv,rdv⟩:=rd.at hk' hz';have hj:j<rvs.length:=(NK.mp hv).1;have tk:rvs.take (j+1)=rvs.take j++[v]:=(by rw[Ob hj,(NK.mp hv).2]);have s5:=au.upd (o:=.tup [V.str z,V.str (kdT kd)]) ht;refine#[_,rfl,_,rfl,z,kd,v,rfl,rdv,s5 _ _ yD,by rw[tk,e],λc u g=>by rw[ab (aj g hD2)];exact s5 _ _ (s4 c u g),ae]
     ·rw[NI,NZ (by omega)]at e
      subst e;refine#[q1,D2,_,_,rfl,rfl,s4 _ _ zq1,yD,NW (show[V.str wd].length+ys.length≤101 by rw[OV];omega) (by decide),λq2 hq2=>#[q2,_,rfl,SqL.of ae,λt ht=>?_]];exact k t _ (((s12.trans s3).trans s4).trans ((au.upd hq2).trans (au.upd ht))) ae
    ·have ea:((zs.zip ks).map λp=>wr p.2 p.1).all id=false:=by
      rw[OU];intro z;rw[List.all_map,O1]at z;exact nk #[hlen,z]
     rw[ea];exact cZ (k _ s12)
noncomputable def pT:V→Str
 | .bl true=>YNG
 | .bl false=>OLD
 | .int n=>cK n
 | .str z=>z
 | _=>YNG
noncomputable def Pv:V→Prop
 | .bl _=>True
 | .int n=>Sm n
 | .str _=>True
 | _=>False
noncomputable abbrev BLK:Str:=#[(List.toArray [32])]
noncomputable abbrev LF:Str:=#[(List.toArray [10])]
noncomputable def dN(r:List V):Str:=Txt.join BLK (r.map pT)
theorem tT{b:Nat}:∀ {xs:List Str},(∀ x∈xs,x.length≤b)→(xs.map (·.length)).sum≤xs.length*b
 | [],_=>by simp
 | x::xs,h=>by
  have h1:=h x NV;have h2:=tT λy hy=>h y (Oa _ hy);rw[Oo,List.sum_cons,Oi,Nat.add_mul];omega
theorem FQ:Str.ofString " " = BLK:=by decide +kernel
theorem CT:Str.ofString "\n" = LF:=by decide +kernel
noncomputable def Aa(rs:List (List V)):Str:=Txt.join LF (rs.map dN)
structure Rok(r:List V):Prop where
 pv:∀ v∈r,Pv v
 len:r.length≤10
 sh:∀ v∈r,(pT v).length≤100
theorem qd{r:List V}(h:Rok r):(dN r).length≤2000:=by
 have h1:=vg BLK (r.map pT);have h2:=tT (b:=100) (xs:=r.map pT) λx hx=>by
  obtain⟨v,hv',rfl⟩:=Og.mp hx;exact h.sh v hv'
 rw[NI]at h1 h2;have h3:=h.len;have h4:BLK.length=1:=rfl;rw[h4]at h1;show(Txt.join BLK (r.map pT)).length≤2000;omega
structure Lg(K:W.Frag)(H:Hp)(l:Addr)(as:List Addr)(rs:List (List V)):Prop where
 hl:H l=some (.lst (as.map V.ref))
 hn:as.length=rs.length
 hr:∀ i (h1:i<as.length) (h2:i<rs.length),H as[i]=some (.tup rs[i])
 ok:∀ r∈rs,Rok r
theorem Lg.same{H H':Hp}{l:Addr}{as:List Addr}{rs:List (List V)}(g:Lg K H l as rs)(s:au H H'):Lg K H' l as rs:=#[s _ _ g.hl,g.hn,λi h1 h2=>s _ _ (g.hr i h1 h2),g.ok]
end
structure zW(K:W.Frag)(P:Params)(aF:Addr)(tb:List (Str×List Kd)):Prop where
 kd:tO K P aF
 tab:∀ p∈tb,∃ fa,PySem.W.nsIn K aF p.1=some (some (.ref fa))∧∀ H,SqT K H fa (p.2.map λk=>V.str (kdT k))
section
variable{P:Program}{w:World}{K:W.Frag}{mg:Str→Option Value}{base:Heap}{aF:Addr}{tb:List (Str×List Kd)}
noncomputable def w8(K:W.Frag)(aF:Addr)(tb:List (Str×List Kd)):Sp:=λvs H Q _=>∃(line wd:Str) (zs:List Str),vs=[.str line]∧line.length≤1000000∧Txt.split line BLK=wd::zs∧zs.length≤100∧(∀ z∈zs,z.length≤100000) ∧
 ((∃ ks,(wd,ks)∈tb∧((Wrs zs ks∧∃ rvs,Rds ks zs rvs∧∀ t H',au H H'→H' t=some (.tup (.str wd::rvs))→Q (.ref t) H')∨(¬Wrs zs ks∧∀ H',au H H'→Q .non H')))∨(PySem.W.nsIn K aF wd=some none∧∀ H',au H H'→Q .non H'))
theorem KW:ao ["line", "words"] ["line"] (ag EI):=#[rfl,rfl,rfl,by decide +kernel,rfl,by decide +kernel,by decide +kernel]
theorem DW{f fR:Addr}{fd fdR:FuncData}(F:Fun K "program_row" "program_row" EI f fd)(T:zW K w.params aF tb)(gF:mg "FORMS" = some (.ref aF))
  (GR:cx P w K mg base (CXE P w) 4 fR fdR ["words", "form"] (wZ K)) (mR:mg "row_read" = some (.ref fR)) (kR:PySem.W.keepIn K (.ref fR)=true) (bR:Binds K fdR ["words", "form"] []):cx P w K mg base (CXE P w) 5 f fd ["line"] (w8 K aF tb):=by
 refine F.okE KW (λvs H Q E h=>?_) (λcdv A outer s H vs Q E hr h=>?_)
 ·obtain⟨line,wd,zs,rfl,_⟩:=h
  rfl
 ·obtain⟨line,wd,zs,rfl,hll,hsp,hz,hzz,k⟩:=h
  refine#[_,PSs.nox (ak (aY (i:=1) KW.nd rfl (Or.inl rfl) (m8 PySem.F.plainAttrs_str PySem.F.slot_str_split PySem.F.type_str_split uU (pv 0) (aa aw ah)))
   (ai (aB (eS (aH wW (aP dE (pv 1) aq (λ_ _=>rfl)) (ba (v:=.ref aF) rfl gF rfl) (by with_unfolding_all rfl))
    (c8 GR hr rfl mR kR bR .nil b4 (aa (pv 1) (aa (pA (ba (v:=.ref aF) rfl gF rfl) (aP dE (pv 1) aq (λ_ _=>rfl)) (λ_ _=>rfl)) ah))) bu)))),?_]
  refine#[_,rfl,rfl,line,Str.ofString " ",rfl,rfl,by decide +kernel,NW (show line.length+2≤1000002 by omega) (by decide),λl hl=>?_];rw[FQ,hsp];have s1:=au.upd (o:=.lst ((wd::zs).map V.str)) hl;have zl:upd H l (.lst ((wd::zs).map V.str)) l=some (.lst ((wd::zs).map V.str)):=ae;obtain⟨H1,e1⟩:∃ H1,upd H l (.lst ((wd::zs).map V.str))=H1:=#[_,rfl];show gw 1 (V.ref l) _ (upd H l (.lst ((wd::zs).map V.str))) _;rw[e1]at s1 zl ⊢;have hat:atI ((wd::zs).map V.str) 0=some (V.str wd):=cE (xs:=(wd::zs).map V.str) (j:=0) rfl;rcases k with⟨ks,hm,k⟩|⟨hn,k⟩
  ·obtain⟨fa,ha,hs⟩:=T.tab _ hm
   refine#[_,rfl,l,_,0,.str wd,rfl,rfl,SqL.of zl,hat,aF,wd,_,rfl,rfl,T.kd,ha,_,rfl,cZ ?_];refine#[_,rfl,_,rfl,l,_,0,.str wd,rfl,rfl,SqL.of zl,hat,aF,wd,_,.ref fa,rfl,rfl,T.kd,ha,rfl,l,fa,wd,zs,ks,rfl,zl,hs _,hz,hzz,?_];exact k.imp (λ⟨a,rvs,b,c⟩=>#[a,rvs,b,λt H' sm=>c t H' (s1.trans sm)]) λ⟨a,c⟩=>#[a,λH' sm=>c H' (s1.trans sm)]
  ·exact#[_,rfl,l,_,0,.str wd,rfl,rfl,SqL.of zl,hat,aF,wd,_,rfl,rfl,T.kd,hn,_,rfl,b7 (k _ s1)]
noncomputable def xU(tb:List (Str×List Kd))(r:List V):Prop:=∃(wd:Str) (ks:List Kd) (vs:List V),r=.str wd::vs∧(wd,ks)∈tb∧Wrs (vs.map pT) ks∧Rds ks (vs.map pT) vs∧∀ x∈r.map pT,32∉x.cps.toList∧10∉x.cps.toList
theorem xU.split{r:List V}(h:xU tb r):Txt.split (dN r) BLK=r.map pT:=by
 obtain⟨wd,ks,vs,rfl,_,_,_,hf⟩:=h;exact pJ (by simp) λx hx=>(hf x hx).1
theorem xU.free{r:List V}(h:xU tb r):10∉(dN r).cps.toList:=by
 obtain⟨wd,ks,vs,rfl,_,_,_,hf⟩:=h;exact rV (by decide) λx hx=>(hf x hx).2
theorem Lg.add{H:Hp}{l:Addr}{as:List Addr}{rs:List (List V)}(g:Lg K H l as rs){t:Addr}{r:List V}(ht:H t=some (.tup r))(ok:Rok r):Lg K (upd H l (.lst (as.map V.ref++[V.ref t]))) l (as++[t]) (rs++[r]):=by
 have hn:=g.hn;refine#[by rw[ae,N9];rfl,by rw[NX,NX,hn];rfl,λi h1 h2=>?_,λx hx=>?_]
 ·have nl:∀ {b:Addr} {xs:List V},H b=some (.tup xs)→b≠l:=λe z=>by rw[z,g.hl]at e;cases e
  by_cases hi:i<as.length
  ·rw[List.getElem_append_left hi,List.getElem_append_left (by omega)]
   have:=g.hr i hi (by omega)
   rw[ab (nl this)];exact this
  ·rw[NX,OV]at h1
   have ei:i=as.length:=(by omega);subst ei;rw[List.getElem_append_right (NO _),List.getElem_append_right (by omega)];simp only[Qd,List.getElem_cons_zero,hn];rw[ab (nl ht)];exact ht
 ·rcases Om.mp hx with z|z
  ·exact g.ok x z
  ·rw[NN.mp z];exact ok
end
end K27.R
end
section
namespace L2
open PySem PySem.Spec PyProof.Rows LX PySem.W PySem.Builtin.Int PySem.Calls
end L2
end
section
set_option maxHeartbeats 1000000
namespace K27.R
open PySem L2 LX PySem.NumText PySem.Builtin.Int
instance:DecidableEq Kd:=λa b=>by
 cases a<;>cases b<;>first|exact isTrue rfl|exact isFalse (λh=>nomatch h)
noncomputable def TB:List (Str×List Kd):=[("make",[.cnt,.cnt]),("load",[.cnt,.cnt,.cnt]),("store",[.cnt,.cnt,.cnt]),("copy",[.cnt,.cnt]),("drop",[.cnt]),("number",[.cnt,.num]),("name",[.cnt,.cnt]),("read",[.cnt,.cnt]),("word",[.cnt,.cnt]),("take",[.cnt]),("held",[.cnt]),("add",[.cnt,.cnt]),("less",[.cnt,.cnt]),("mark",[.mrk]),("go",[.mrk]),("same",[.cnt,.cnt,.mrk]),("below",[.cnt,.cnt,.mrk]),("thing",[.cnt,.mrk]),("say",[.cnt]),("stop",[])]
noncomputable abbrev MRK:Str := "mark"
theorem DX:∀ p∈TB,p.1=MRK→p.2=[.mrk]:=by decide +kernel
section
variable{P:Program}{w:World}{K:W.Frag}{mg:Str→Option Value}{base:Heap}{aF:Addr}
structure Pg(K:W.Frag)(H:Hp)(t:Addr)(as:List Addr)(rs:List (List V)):Prop where
 hl:H t=some (.tup (as.map V.ref))
 hn:as.length=rs.length
 hr:∀ i (h1:i<as.length) (h2:i<rs.length),H as[i]=some (.tup rs[i])
 ok:∀ r∈rs,Rok r
noncomputable def vh:List V→Option Str
 | [.str wd,.str m]=>if wd=MRK then some m else none
 | _=>none
noncomputable def marks(rs:List (List V)):List Str:=rs.filterMap vh
theorem dv(rs:List (List V))(r:List V):marks (rs++[r])=marks rs++(vh r).toList:=by
 unfold marks;rw[Pd];cases h:vh r<;>simp[h]
theorem xV{wd:Str}{vs:List V}(h:wd≠MRK):vh (.str wd::vs)=none:=by
 unfold vh;split
 ·rename_i e
  cases e;rw[if_neg h]
 ·rfl
theorem qe{r:List V}(h:xU TB r){vs:List V}(e:r=.str MRK::vs):∃ m,vs=[.str m]∧vh r=some m:=by
 obtain⟨wd,ks,vs',e',hm,hw,hrd,_⟩:=h;rw[e]at e';injection e' with e1 e2;injection e1 with e1;subst e2;have hk:=DX _ hm e1.symm;simp only at hk;subst hk;have hl:=hrd.len.1
 match vs,hl with
 | [v],_ =>
  obtain⟨v',h1,h2⟩:=hrd.at (i:=0) (k:=Kd.mrk) (z:=pT v) rfl rfl;have hv:v=v':=Oh h1;rw[←hv]at h2;generalize pT v=z at h2;cases h2;refine#[z,rfl,?_];rw[e];show(if MRK=MRK then some z else none)=some z;exact if_pos rfl
noncomputable def mD(ms:List Str):List (Key×V):=ms.map λm=>(Sum.inr m,V.bl true)
theorem tU(m:Str):∀ ms:List Str,bU (mD ms) (Sum.inr m)=if m∈ms then some (V.bl true) else none
 | []=>rfl
 | a::ms=>by
  by_cases e:a=m
  ·subst e
   rw[if_pos NV];exact bE rfl
  ·show bU ((Sum.inr a,V.bl true)::mD ms) (Sum.inr m)=_
   rw[bF (λz=>e (by injection z)),tU m ms];by_cases h:m∈ms
   ·rw[if_pos h,if_pos (Oa _ h)]
   ·rw[if_neg h,if_neg (λz=>(NY.mp z).elim (λq=>e q.symm) h)]
theorem BV{ms:List Str}{m:Str}(h:m∉ms):putK (mD ms) (Sum.inr m) (V.bl true)=mD (ms++[m]):=by
 rw[iV (V.bl true) (by rw[tU,if_neg h])];unfold mD;rw[N9];rfl
noncomputable def tE(K:W.Frag):Sp:=λvs H Q _=>∃(l:Addr) (as:List Addr) (rs:List (List V)),vs=[.ref l]∧Lg K H l as rs∧(∀ r∈rs,xU TB r)∧rs.length≤300∧(marks rs).Nodup∧∀(d:Addr) (H':Hp),au H H'→H' d=some (.dK (mD (marks rs)))→Q (.ref d) H'
noncomputable abbrev NM:List Str:=["rows", "marks", "row"]
theorem IT:ao NM ["rows"] (ag BQ):=#[rfl,rfl,rfl,by decide +kernel,rfl,by decide +kernel,by decide +kernel]
theorem ji{a b:Str}:decide (V.str a=V.str b)=decide (a=b):=by
 rw[OK,decide_eq_true_eq,decide_eq_true_eq];exact#[λh=>by injection h,λh=>by rw[h]]
theorem rW(rs:List (List V)):(marks rs).length≤rs.length:=List.length_filterMap_le _ _
theorem Bf{f:Addr}{fd:FuncData}(F:Fun K "marks_put" "marks_put" BQ f fd):cx P w K mg base (CXE P w) 1 f fd ["rows"] (tE K):=by
 refine F.okE IT (λvs H Q E h=>?_) (λcdv A outer s H vs Q E hr h=>?_)
 ·obtain⟨l,as,rs,rfl,_⟩:=h
  rfl
 ·obtain⟨l,as,rs,rfl,g,hv,hz,nd,k⟩:=h
  have hu:=cY hr;refine#[_,PSs.nox (ak (aY (i:=1) IT.nd rfl (Or.inl rfl) cA)
   (ak (eu OA rfl (dD (pv 0)) (bc (i:=2) IT.nd rfl (Or.inl rfl))
    (ai (a6 (PW.pt (pw_and (aH lF (pv 2) bu (aN _)) (pw_and1 (aH dB (aP aL (pv 2) aq (λ_ _=>rfl)) aw (aN _))))) (ai (eN hu (pv 1) (aP aL (pv 2) aq (λ_ _=>rfl)) k9 rfl)) aK)))
   (ai (aB (pv 1))))),?_]
  refine λd hd=>?_;have s0:=au.upd (o:=.dK []) hd;refine#[_,rfl,l,rfl,#[_,SqL.of (s0 _ _ g.hl)],iT (K:=K) (a:=l) (xs:=as.map V.ref) (λi σ Hx=>∃ v2:Option V,σ=[some (.ref l),some (.ref d),v2]∧au H Hx∧Hx d=some (.dK (mD (marks (rs.take i))))) #[none,rfl,s0,ae] (λi σ Hx _ ⟨_,_,sx,_⟩=>SqL.of (sx _ _ g.hl)) ?_ ?_]
  ·rintro i x σ Hx hx ⟨v2,rfl,sx,zd⟩
   have hi:i<as.length:=(by have:=(NK.mp hx).1;rwa[NI]at this);have hi2:i<rs.length:=(by have:=g.hn;omega);have hxe:x=.ref as[i]:=by
    rw[N0,NJ hi]at hx;exact(Oh hx).symm
   subst hxe;obtain⟨r,er⟩:∃ r,rs[i]=r:=#[_,rfl];have hrm:r∈rs:=(by rw[←er];exact OB hi2);have vr:=hv r hrm;have tk:rs.take (i+1)=rs.take i++[r]:=(by rw[Ob hi2,er]);have zr:=sx _ _ (g.hr i hi hi2);rw[er]at zr;obtain⟨wd,ks,vs,e,hm,_⟩:=id vr;rw[e]at zr;refine#[_,rfl,rfl,_,rfl,cZ #[_,rfl,as[i],_,0,.str wd,rfl,rfl,SqT.of zr,cE (xs:=V.str wd::vs) (j:=0) rfl,rfl,_,rfl,?_]];rw[ji];by_cases hw:wd=MRK
   ·rw[decide_eq_true (show wd=Str.ofString "mark" from hw)]
    subst hw;obtain⟨m,ev,hmk⟩:=qe vr e;subst ev;have hnm:m∉marks (rs.take i):=λh=>by
     have n2:(marks (rs.take (i+1))).Nodup:=nd.sublist (List.Sublist.filterMap _ (P0 _ _));rw[tk,dv,hmk]at n2;exact(OZ.mp n2).2.2 m h m (by simp) rfl
    refine cZ #[_,rfl,_,rfl,as[i],_,1,.str m,rfl,rfl,SqT.of zr,cE (xs:=[V.str MRK,V.str m]) (j:=1) rfl,d,_,rfl,pd.k (k:=Sum.inr m) zd (Ow (show(mD (marks (rs.take i))).length≤1000 by unfold mD;rw[NI];have:=rW (rs.take i);rw[Oq]at this;omega) (by decide)),_,rfl,λc u q=>by rw[ab (aj q hd)];exact sx c u q,?_];rw[ae,BV hnm,tk,dv,hmk];rfl
   ·rw[decide_eq_false (show ¬wd=Str.ofString "mark" from hw)]
    refine b7 #[_,rfl,sx,?_];rw[tk,dv,e,xV hw];show _=some (HO.dK (mD (marks (rs.take i)++[])));rw[OR];exact zd
  ·rintro σ Hx ⟨v2,rfl,sx,zd⟩
   rw[NI,NZ (by rw[g.hn];exact NO _)]at zd;exact#[_,rfl,k d Hx sx zd]
noncomputable def tF(K:W.Frag):Sp:=λvs H Q _=>∃(t dm da:Addr) (wd:Str) (ks:List Kd) (rv:List V) (ms as:List Str),vs=[.ref t,.ref dm,.ref da]∧H t=some (.tup (.str wd::rv))∧H dm=some (.dK (mD ms))∧H da=some (.dK (mD as))∧(wd,ks)∈TB ∧
 ((wd=MRK∧∃ m,rv=[.str m]∧m∉as)∨(wd≠MRK∧(Kd.mrk∉ks∨∃ m,(V.str wd::rv).getLast?=some (.str m)∧m∈ms)))∧Q (.bl true) H
theorem M7:ao ["row", "marks", "ahead"] ["row", "marks", "ahead"] (ag BR):=#[rfl,rfl,rfl,by decide +kernel,rfl,by decide +kernel,by decide +kernel]
theorem vi:∀ ks:List Kd,inV (V.str MRK) (ks.map λk=>V.str (kdT k))=decide (Kd.mrk∈ks)
 | []=>by decide +kernel
 | k::ks=>by
  have e:inV (V.str MRK) ((k::ks).map λk=>V.str (kdT k))=(eqV (V.str (kdT k)) (V.str MRK)||inV (V.str MRK) (ks.map λk=>V.str (kdT k))):=rfl;rw[e,vi ks,OK,Bool.or_eq_true,decide_eq_true_eq,decide_eq_true_eq,NY];have e2:eqV (V.str (kdT k)) (V.str MRK)=true↔Kd.mrk=k:=by cases k<;>decide +kernel
  rw[e2]
theorem vT(ks:List Kd):(ks.map λk=>V.str (kdT k)).all cQ=true:=O1.mpr λv hv=>by
 obtain⟨k,_,rfl⟩:=Og.mp hv;rfl
theorem DY{xs:List V}{v:V}(h:xs.getLast?=some v):atI xs (-1)=some v:=by
 have hne:xs≠[]:=λz=>by rw[z]at h;cases h
 have hl:=List.length_pos_iff.mpr hne;unfold atI ixN;rw[if_neg (by omega),if_pos (by omega)];show xs[(-1+(xs.length:Int)).toNat]?=_;rw[show(-1+(xs.length:Int)).toNat=xs.length-1 by omega,←List.getLast?_eq_getElem?];exact h
theorem Bh{f:Addr}{fd:FuncData}(F:Fun K "has_right_mark" "has_right_mark" BR f fd)(T:zW K w.params aF TB)(gF:mg "FORMS" = some (.ref aF)):cx P w K mg base (CXE P w) 1 f fd ["row", "marks", "ahead"] (tF K):=by
 refine F.okE M7 (λvs H Q E h=>?_) (λcdv A outer s H vs Q E hr h=>?_)
 ·obtain⟨t,dm,da,wd,ks,rv,ms,as,rfl,_⟩:=h
  rfl
 ·obtain⟨t,dm,da,wd,ks,rv,ms,as,rfl,zt,zm,za,hm,hc,k⟩:=h
  have hu:=cY hr;refine#[_,PSs.nox (ak (a6 (aH dB (aP aL (pv 0) aq (λ_ _=>rfl)) aw (aN _)) (ai (aB (Bs (eD hu (aP aL (pv 0) aq (λ_ _=>rfl)) (pv 2)) (by with_unfolding_all rfl)))) aK)
   (ai (aB (Eh (cc sf aw (pA (ba (v:=.ref aF) rfl gF rfl) (aP aL (pv 0) aq (λ_ _=>rfl)) (λ_ _=>rfl)) (by with_unfolding_all rfl)) (qh (Bs (wO hu (aP aL (pv 0) (Ei Bt aq) (λ_ _=>rfl)) (pv 1)) (by with_unfolding_all rfl))))))),?_]
  have h0:atI (V.str wd::rv) 0=some (V.str wd):=cE (xs:=V.str wd::rv) (j:=0) rfl;refine#[_,rfl,t,_,0,.str wd,rfl,rfl,SqT.of zt,h0,rfl,_,rfl,?_];rw[ji];rcases hc with⟨hw,m,er,hn⟩|⟨hw,hc⟩
  ·rw[decide_eq_true (show wd=Str.ofString "mark" from hw)]
   subst er;refine cZ #[_,rfl,t,_,1,.str m,rfl,rfl,SqT.of zt,cE (xs:=[V.str wd,V.str m]) (j:=1) rfl,_,rfl,da,_,rfl,iI.k (k:=Sum.inr m) za,?_];rw[tU,if_neg hn];exact k
  ·rw[decide_eq_false (show ¬wd=Str.ofString "mark" from hw)]
   obtain⟨fa,hfa,hq⟩:=T.tab _ hm;refine b7 #[_,rfl,t,_,0,.str wd,rfl,rfl,SqT.of zt,h0,aF,wd,_,.ref fa,rfl,rfl,T.kd,hfa,rfl,fa,_,rfl,.inr (hq _),rfl,vT ks,_,rfl,?_];show if(!inV (V.str MRK) (ks.map λk=>V.str (kdT k)))=true then _ else _;rw[vi];by_cases hk:Kd.mrk∈ks
   ·rw[decide_eq_true hk]
    obtain⟨m,hl,hmm⟩:=hc.resolve_left (λz=>z hk);refine b7 #[_,rfl,1,rfl,t,_,-1,.str m,rfl,rfl,SqT.of zt,DY hl,_,rfl,dm,_,rfl,iI.k (k:=Sum.inr m) zm,?_];rw[tU,if_pos hmm];exact k
   ·rw[decide_eq_false hk]
    exact cZ k
end
end K27.R
end
section
set_option maxHeartbeats 1000000
namespace K27.R
open PySem L2 LX PySem.NumText PySem.Builtin.Int
section
variable{P:Program}{w:World}{K:W.Frag}{mg:Str→Option Value}{base:Heap}{aF:Addr}
structure Okp(rs:List (List V)):Prop where
 nd:(marks rs).Nodup
 vr:∀ r∈rs,xU TB r
 ok:∀ r∈rs,Rok r
 jm:∀ r∈rs,∀(wd:Str) (ks:List Kd) (vs:List V),r=.str wd::vs→(wd,ks)∈TB→wd=MRK∨Kd.mrk∉ks∨∃ m,r.getLast?=some (.str m)∧m∈marks rs
 ne:rs≠[]
 ln:rs.length≤200
theorem Okp.len{rs:List (List V)}(o:Okp rs):(Aa rs).length≤500000:=by
 have h1:=vg LF (rs.map dN);have h2:=tT (b:=2000) (xs:=rs.map dN) λx hx=>by
  obtain⟨r,hr',rfl⟩:=Og.mp hx;exact qd (o.ok r hr')
 rw[NI]at h1 h2;have h4:LF.length=1:=rfl;rw[h4]at h1
 have:=o.ln
 show(Txt.join LF (rs.map dN)).length≤500000;omega
noncomputable def xW(K:W.Frag):Sp:=λvs H Q _=>∃ rs:List (List V),vs=[.str (Aa rs)]∧Okp rs∧∀(t:Addr) (as:List Addr) (H':Hp),au H H'→H t=none→Pg K H' t as rs→Q (.ref t) H'
noncomputable abbrev NP:List Str:=["text", "rows", "marks", "ahead", "at", "row", "number"]
theorem BW:ao NP ["text"] (ag qP):=#[rfl,rfl,rfl,by decide +kernel,rfl,by decide +kernel,by decide +kernel]
noncomputable def M8:Stmt→Option Expr
 | .Assign _ e _=>some e
 | _=>none
noncomputable abbrev KY:Scope:=pL (M8 ((aA qP).head!))
theorem cR:vD (ag qP) KY "line" [] NP []:=by decide +kernel
theorem Bi{f fR fM fH:Addr}{fd fdR fdM fdH:FuncData}(F:Fun K "read_program" "read_program" qP f fd)(ze:mg "enumerate" = none)(zt:mg "tuple" = none){t1:Tok}(g1:mg "MOST_ROWS" = some (.int 200 t1))
  (GR:cx P w K mg base (CXE P w) 5 fR fdR ["line"] (w8 K aF TB)) (mR:mg "program_row" = some (.ref fR)) (kR:PySem.W.keepIn K (.ref fR)=true) (bR:Binds K fdR ["line"] [])
  (GM:cx P w K mg base (CXE P w) 1 fM fdM ["rows"] (tE K)) (mM:mg "marks_put" = some (.ref fM)) (kM:PySem.W.keepIn K (.ref fM)=true) (bM:Binds K fdM ["rows"] [])
  (GH:cx P w K mg base (CXE P w) 1 fH fdH ["row", "marks", "ahead"] (tF K)) (mH:mg "has_right_mark" = some (.ref fH)) (kH:PySem.W.keepIn K (.ref fH)=true) (bH:Binds K fdH ["row", "marks", "ahead"] []):cx P w K mg base (CXE P w) 6 f fd ["text"] (xW K):=by
 refine F.okE BW (λvs H Q E h=>?_) (λcdv A outer s H vs Q E hr h=>?_)
 ·obtain⟨rs,rfl,_⟩:=h
  rfl
 ·obtain⟨rs,rfl,o,k⟩:=h
  have hu:=cY hr;have r1:=hr.mono (show 1≤5 by decide);have co:ju (cxE P w K mg base NP "read_program" (ag qP) f cdv A outer s H E).nox KY [] "line" [] ["line"]:=gn rfl rfl rfl cR rfl rfl (by intro q hq;cases hq);refine#[_,PSs.nox (ak (xB (i:=1) BW.nd rfl rfl co rfl (dD (m8 PySem.F.plainAttrs_str PySem.F.slot_str_split PySem.F.type_str_split uU (pv 0) (aa aw ah))) (λC fp s₀ H₀=>c8 GR hr rfl mR kR bR .nil qX (aa (pv 0) ah)))
   (ak (aY (i:=2) BW.nd rfl (Or.inl rfl) (c8 GM r1 rfl mM kM bM .nil b4 (aa (pv 1) ah)))
   (ak (aY (i:=3) BW.nd rfl (Or.inl rfl) cA)
   (ak (eu OA rfl (sY rfl ze (aa (pv 1) ah)) (qi rfl (cz (bc (i:=4) BW.nd rfl (Or.inl rfl)) (cz (bc (i:=5) BW.nd rfl (Or.inl rfl)) lE)))
    (ak (a6 (PW.pt (pw_or (aH Ek (pv 4) (ba (v:=.int 200) rfl g1 #[_,rfl]) (aN _)) (pw_or (aH qm (pv 5) bu (aN _)) (pw_or1 (ic (jg (c8 GH r1 rfl mH kH bH .nil b4 (aa (pv 5) (aa (pv 2) (aa (pv 3) ah)))))))))) Bb aK)
    (ai (a6 (aH dB (aP aL (pv 5) aq (λ_ _=>rfl)) aw (aN _)) (ai (eN hu (pv 3) (aP aL (pv 5) aq (λ_ _=>rfl)) k9 rfl)) aK))))
   (ai (aB (cj rM rfl zt PyProof.Rows.Boot.«tuple» (aa (pv 1) ah)))))))),?_]
  have hln:=o.len;have lr:=o.ln;have hsp:Txt.split (Aa rs) LF=rs.map dN:=pJ (by simpa using o.ne) λx hx=>by
   obtain⟨r,hr',rfl⟩:=Og.mp hx;exact(o.vr r hr').free
  refine#[_,rfl,rfl,Aa rs,Str.ofString "\n",rfl,rfl,by decide +kernel,NW (show(Aa rs).length+2≤500002 by omega) (by decide),λsp hsp'=>?_];rw[CT,hsp];have s1:=au.upd (o:=.lst ((rs.map dN).map V.str)) hsp';refine#[sp,rfl,#[_,SqL.of ae],λD hD=>?_];have zsp:upd H sp (.lst ((rs.map dN).map V.str)) sp=some (.lst ((rs.map dN).map V.str)):=ae;obtain⟨H1,e1⟩:∃ H1,upd H sp (.lst ((rs.map dN).map V.str))=H1:=#[_,rfl];rw[e1]at s1 zsp hD ⊢;have hD0:H D=none:=s1.free hD;refine gB (K:=K) (a:=sp) (xs:=(rs.map dN).map V.str) (λj ys H2=>∃ as:List Addr,ys=as.map V.ref∧as.length=j∧au H1 H2∧Lg K H2 D as (rs.take j)) #[[],rfl,rfl,au.upd hD,#[ae,rfl,λi h=>absurd h (PV _),λr h=>nomatch h]]
   (λj ys H2 hj ⟨as,e,l,_,g⟩=>#[by rw[e];exact g.hl,by rw[e,NI,l]]) (λj ys H2 _ ⟨_,_,_,s2,_⟩=>SqL.of (s2 _ _ zsp)) (NW (show((rs.map dN).map V.str).length≤200 by rw[NI,NI];exact lr) (by decide))
   (λj x ys H2 hx ⟨as,e,l,s2,g⟩=>?_) (λys H2 ⟨as,e,l,s2,g⟩=>?_)
  ·have hj:j<rs.length:=by have:=(NK.mp hx).1;rwa[NI,NI]at this
   have hxe:x=.str (dN rs[j]):=by
    rw[N0,N0,NJ hj]at hx;exact(Oh hx).symm
   subst hxe;obtain⟨r,er⟩:∃ r,rs[j]=r:=#[_,rfl];rw[er];have hrm:r∈rs:=(by rw[←er];exact OB hj);have vr:=o.vr r hrm;have ok:=o.ok r hrm;have tk:rs.take (j+1)=rs.take j++[r]:=(by rw[Ob hj,er]);have KZ:=vr.split;have hl2:=qd ok;obtain⟨wd,ks,vs,ev,hm,hw,hrd,_⟩:=vr;have hok:=ok;rw[ev]at KZ ok;have lz:=ok.len;rw[Oi]at lz;refine#[_,rfl,dN r,wd,vs.map pT,rfl,by omega,by rw[ev];exact KZ,by rw[NI];omega,λz hz'=>?_,.inl #[ks,hm,.inl #[hw,vs,hrd,λt H' s' zt=>?_]]]
   ·obtain⟨v,hv',rfl⟩:=Og.mp hz'
    exact NW (ok.sh v (Oa _ hv')) (by decide)
   ·have g':=g.same s'
    rw[←ev]at zt;subst e
    have:=g'.add zt hok
    rw[←tk]at this;exact#[g'.hl,as++[t],by rw[N9];rfl,by rw[NX,l];rfl,λc u q=>by rw[ab (aj q hD)];exact s' _ _ (s2 c u q),this]
  ·rw[NI,NI,NZ (NO _)]at g
   have hn:=g.hn;refine#[_,rfl,D,as,rs,rfl,g,o.vr,by omega,o.nd,λdm H3 s3 zm=>?_];refine λda hda=>?_;have s4:=au.upd (o:=.dK []) hda;have g4:=(g.same s3).same s4;have s12:au H H2:=s1.trans s2;have M9:H da=none:=(s12.trans s3).free hda;have nmd:dm≠da:=λz=>by rw[z,hda]at zm;cases zm
   refine#[_,rfl,D,rfl,#[_,SqL.of g4.hl],p8 (K:=K) (a:=D) (xs:=as.map V.ref) (λi σ Hx=>∃ v4 v5 v6:Option V,σ=[some (.str (Aa rs)),some (.ref D),some (.ref dm),some (.ref da),v4,v5,v6]∧au H Hx∧Lg K Hx D as rs∧Hx dm=some (.dK (mD (marks rs)))∧Hx da=some (.dK (mD (marks (rs.take i)))))
    #[none,none,none,rfl,((s12.trans s3).trans s4),g4,s4 _ _ zm,ae] (λi σ Hx _ ⟨_,_,_,_,_,z,_⟩=>SqL.of z.hl) ?_ ?_]
   ·rintro i x σ Hx t hx ⟨v4,v5,v6,rfl,sx,gx,zmx,zax⟩ ht
    have hi:i<as.length:=(by have:=(NK.mp hx).1;rwa[NI]at this);have hi2:i<rs.length:=(by omega);have hxe:x=.ref as[i]:=by
     rw[N0,NJ hi]at hx;exact(Oh hx).symm
    subst hxe;obtain⟨r,er⟩:∃ r,rs[i]=r:=#[_,rfl];have hrm:r∈rs:=(by rw[←er];exact OB hi2);have vr:=o.vr r hrm;have tk:rs.take (i+1)=rs.take i++[r]:=(by rw[Ob hi2,er]);have s5:=au.upd (o:=.tup [.int (i:Int),.ref as[i]]) ht;have g5:=gx.same s5;have zr:=g5.hr i hi hi2;rw[er]at zr;obtain⟨wd,ks,vs,ev,hm,_⟩:=id vr;have hjm:=o.jm r hrm wd ks vs ev hm;have xA:(marks (rs.take (i+1))).Nodup:=o.nd.sublist (List.Sublist.filterMap _ (P0 _ _));have hnm:∀ m,vh r=some m→m∉marks (rs.take i):=λm hmk h=>by
     rw[tk,dv,hmk]at xA;exact(OZ.mp xA).2.2 m h m (by simp) rfl
    have zr':=zr;rw[ev]at zr';refine#[t,_,rfl,SqT.of ae,rfl,_,_,rfl,_,_,rfl,rfl,?_];refine#[_,rfl,_,_,rfl,rfl,_,rfl,bw (λh=>absurd (of_decide_eq_true h) (by omega)) (λ_=>?_)];refine#[_,rfl,rfl,_,rfl,b7 #[_,rfl,_,rfl,_,rfl,as[i],dm,da,wd,ks,vs,marks rs,marks (rs.take i),rfl,zr',s5 _ _ zmx,s5 _ _ zax,hm,?_,_,rfl,b7 ?_]]
    ·by_cases hw:wd=MRK
     ·subst hw
      obtain⟨m,em,hmk⟩:=qe vr ev;exact .inl #[rfl,m,em,hnm m hmk]
     ·refine .inr #[hw,?_]
      rcases hjm with z|z|z
      ·exact absurd z hw
      ·exact .inl z
      ·rw[ev]at z
       exact .inr z
    ·refine#[_,rfl,as[i],_,0,.str wd,rfl,rfl,SqT.of zr',cE (xs:=V.str wd::vs) (j:=0) rfl,rfl,_,rfl,?_]
     rw[ji];by_cases hw:wd=MRK
     ·rw[decide_eq_true (show wd=Str.ofString "mark" from hw)]
      subst hw;obtain⟨m,em,hmk⟩:=qe vr ev;subst em;have K0:=s5 _ _ zax;refine cZ #[_,rfl,_,rfl,as[i],_,1,.str m,rfl,rfl,SqT.of zr',cE (xs:=[V.str MRK,V.str m]) (j:=1) rfl,da,_,rfl,pd.k (k:=Sum.inr m) K0 (Ow (show(mD (marks (rs.take i))).length≤1000 by unfold mD;rw[NI];have:=rW (rs.take i);rw[Oq]at this;omega) (by decide)),_,_,_,rfl,λc u q=>by rw[ab (aj q M9)];exact s5 _ _ (sx c u q),?_,?_,?_]
      ·have nl:∀ {b:Addr} {o:HO},(upd Hx t (.tup [.int (i:Int),.ref as[i]])) b=some o→(∀ kvs,o≠.dK kvs)→b≠da:=λe h z=>by rw[z,K0]at e;exact h _ (Oh e).symm
       exact#[(ab (nl g5.hl (λ_ z=>nomatch z))).trans g5.hl,g5.hn,λi h1 h2=>(ab (nl (g5.hr i h1 h2) (λ_ z=>nomatch z))).trans (g5.hr i h1 h2),g5.ok]
      ·rw[ab nmd]
       exact s5 _ _ zmx
      ·rw[ae,BV (hnm m hmk),tk,dv,hmk]
       rfl
     ·rw[decide_eq_false (show ¬wd=Str.ofString "mark" from hw)]
      refine b7 #[_,_,_,rfl,sx.trans s5,g5,s5 _ _ zmx,?_];rw[tk,dv,ev,xV hw];show _=some (HO.dK (mD (marks (rs.take i)++[])));rw[OR];exact s5 _ _ zax
   ·rintro σ Hx ⟨v4,v5,v6,rfl,sx,gx,zmx,zax⟩
    refine#[_,rfl,D,_,rfl,SqL.of gx.hl,λtt htt=>?_];have s6:=au.upd (o:=.tup (as.map V.ref)) htt;exact k tt as _ (sx.trans s6) (sx.free htt) #[ae,gx.hn,λi h1 h2=>s6 _ _ (gx.hr i h1 h2),gx.ok]
end
end K27.R
end
section
set_option maxHeartbeats 1000000
namespace K27.R
open PySem L2 LX PySem.NumText PySem.Builtin.Int
theorem zk{c:Nat}(h:48≤c∧c≤57):inS FIG c=true:=by
 obtain h|h|h|h|h|h|h|h|h|h:c=48∨c=49∨c=50∨c=51∨c=52∨c=53∨c=54∨c=55∨c=56∨c=57:=by omega
 all_goals subst h;decide +kernel
theorem FT:MIN=#[(List.toArray [45])]:=by decide +kernel
theorem vj(z:Str):minus z=decide (z.cps.toList[0]?=some 45):=by
 rw[OK,decide_eq_true_eq,←StrLaws.subAt_one z 45 0];unfold minus;rw[FT,OS,decide_eq_true_eq]
theorem xa{z:Str}{cs:List Nat}(e:z.cps.toList=cs)(ad:AllDigits cs)(ne:cs≠[])(hl:cs.length≤61)(hh:z=(("0" : String):Str)∨cs.head?≠some 48):cnt z=true:=by
 unfold cnt fQ;have h1:decide (z.length≤61)=true:=decide_eq_true (by show z.cps.size≤61;rw[←Ov,e];exact hl);have h2:decide (z=(("" : String):Str))=false:=decide_eq_false λh=>ne (by rw[←e,h];rfl);have h3:z.cps.toList.all (inS FIG)=true:=O1.mpr λc hc=>zk (ad c (by rw[←e];exact hc));rw[h1,h2,h3];rcases hh with h|h
 ·rw[decide_eq_true h];rfl
 ·rw[decide_eq_false (show ¬z.cps.toList.head?=some 48 by rw[e];exact h)]
  simp
theorem vk:cK 0=(("0" : String):Str):=by decide +kernel
theorem FU{n:Int}(h:Sm n):wr .num (cK n)=true:=by
 rcases qc h with⟨cs,e,ad,ne,hl,hh⟩|⟨cs,e,ad,ne,hl,hh⟩
 ·have hm:¬minus (cK n)=true:=by
   rw[vj,decide_eq_true_eq,e];intro z
   have:=ad 45 (Of z)
   omega
  show(if minus (cK n)=true then _ else cnt (cK n))=true;rw[if_neg hm];refine xa e ad ne hl ?_;by_cases h0:cs.head?=some 48
  ·exact .inl (by rw[hh h0];exact vk)
  ·exact .inr h0
 ·have hm:minus (cK n)=true:=by
   rw[vj,decide_eq_true_eq,e];rfl
  show(if minus (cK n)=true then !decide (cK n=MZ)&&cnt (pz (cK n)) else _)=true;rw[if_pos hm];have et:(pz (cK n)).cps.toList=cs:=by
   show((cK n).cps.toList.drop 1).toArray.toList=cs;rw[e];rfl
  have hz:¬cK n=MZ:=λz=>by
   rw[z]at e;have e2:MZ.cps.toList=[45,48]:=(by decide +kernel);rw[e2]at e;injection e with _ e;exact hh (by rw[←e];rfl)
  rw[decide_eq_false hz,xa et ad ne hl (.inr hh)];rfl
theorem DZ{n:Int}(h:Sm n):Rdd .num (cK n) (.int n):=.num (vc h) (NW (qO h).2 (by decide))
theorem FV{n:Int}(h:Sm n)(h0:0≤n):wr .cnt (cK n)=true:=by
 rcases qa h with⟨m,rfl,hm⟩|⟨m,rfl,hm⟩
 ·refine xa (eK m) (eQ m) (eL m) (eR hm) ?_
  by_cases z:((Nat.toDigits 10 m).map Char.toNat).head?=some 48
  ·exact .inl (by rw[iS m z];exact vk)
  ·exact .inr z
 ·omega
theorem D1{n:Int}(h:Sm n):Rdd .cnt (cK n) (.int n):=.cnt (vc h) (NW (qO h).2 (by decide))
noncomputable def MS:List Str:=["on", "in", "out", "none"]
noncomputable def M5:List Str:=MS
theorem JU:∀ m∈M5,m∈MS:=λ_ h=>h
theorem CU:∀ m∈MS,wr .mrk m=true∧(32∉m.cps.toList∧10∉m.cps.toList)∧m.length≤100:=by decide +kernel
inductive Pt(ms:List Str):Kd→V→Prop
 | cnt {n:Int}:Sm n→0≤n→Pt ms .cnt (.int n)
 | num {n:Int}:Sm n→Pt ms .num (.int n)
 | mrk {m:Str}:m∈ms→m∈MS→Pt ms .mrk (.str m)
inductive Pts(ms:List Str):List Kd→List V→Prop
 | nil:Pts ms [] []
 | cons {k:Kd} {v:V} {ks:List Kd} {vs:List V}:Pt ms k v→Pts ms ks vs→Pts ms (k::ks) (v::vs)
theorem Pt.wr{ms:List Str}{k:Kd}{v:V}(h:Pt ms k v):wr k (pT v)=true:=by
 cases h with
 | cnt a b=>exact FV a b
 | num a=>exact FU a
 | mrk a b=>exact(CU _ b).1
theorem Pt.rd{ms:List Str}{k:Kd}{v:V}(h:Pt ms k v):Rdd k (pT v) v:=by
 cases h with
 | cnt a b=>exact D1 a
 | num a=>exact DZ a
 | mrk a b=>exact .mrk _
theorem Pt.fr{ms:List Str}{k:Kd}{v:V}(h:Pt ms k v):32∉(pT v).cps.toList∧10∉(pT v).cps.toList:=by
 cases h with
 | cnt a b=>exact#[pH a 32 (by decide),pH a 10 (by decide)]
 | num a=>exact#[pH a 32 (by decide),pH a 10 (by decide)]
 | mrk a b=>exact(CU _ b).2.1
theorem Pt.pv{ms:List Str}{k:Kd}{v:V}(h:Pt ms k v):Pv v∧(pT v).length≤100:=by
 cases h with
 | cnt a b=>exact#[a,NW (qO a).2 (by decide)]
 | num a=>exact#[a,NW (qO a).2 (by decide)]
 | mrk a b=>exact#[trivial,(CU _ b).2.2]
theorem Pts.len{ms:List Str}{ks:List Kd}{vs:List V}(h:Pts ms ks vs):vs.length=ks.length:=by
 induction h with
 | nil=>rfl
 | cons _ _ ih=>rw[Oi,Oi,ih]
theorem Pts.wrs{ms:List Str}{ks:List Kd}{vs:List V}(h:Pts ms ks vs):Wrs (vs.map pT) ks:=by
 refine#[by rw[NI,h.len],?_];induction h with
 | nil=>intro p hp;cases hp
 | cons a _ ih =>
  intro p hp;rw[Oo,List.zip_cons_cons]at hp;rcases NY.mp hp with e|hp
  ·rw[e];exact a.wr
  ·exact ih p hp
theorem Pts.rds{ms:List Str}{ks:List Kd}{vs:List V}(h:Pts ms ks vs):Rds ks (vs.map pT) vs:=by
 induction h with
 | nil=>exact .nil
 | cons a _ ih=>exact .cons a.rd ih
theorem Pts.all{ms:List Str}{ks:List Kd}{vs:List V}(h:Pts ms ks vs):∀ v∈vs,∃ k,Pt ms k v:=by
 induction h with
 | nil=>intro v hv;cases hv
 | cons a _ ih =>
  intro v hv;rcases NY.mp hv with e|hv
  ·rw[e];exact#[_,a]
  ·exact ih v hv
theorem Pts.last{ms:List Str}{ks:List Kd}{vs:List V}(h:Pts ms ks vs)(x:V)(hl:ks.getLast?=some .mrk):∃ m,(x::vs).getLast?=some (.str m)∧m∈ms:=by
 induction h generalizing x with
 | nil=>cases hl
 | @cons k v ks vs a b ih =>
  cases b with
  | nil =>
   have e:k=.mrk:=Oh hl;subst e;cases a with
   | mrk a b=>exact#[_,rfl,a]
  | @cons k' v' ks' vs' a' b' =>
   rw[List.getLast?_cons_cons]at hl;obtain⟨m,h1,h2⟩:=ih v hl;exact#[m,by rw[List.getLast?_cons_cons];exact h1,h2]
theorem qf:∀ p∈TB,(32∉p.1.cps.toList∧10∉p.1.cps.toList)∧p.1.length≤100∧p.2.length≤9∧(Kd.mrk∉p.2∨p.2.getLast?=some Kd.mrk):=by decide +kernel
theorem FW:∀ p∈TB,∀ q∈TB,p.1=q.1→p.2=q.2:=by decide +kernel
noncomputable def Gr(ms:List Str)(r:List V):Prop:=∃(wd:Str) (ks:List Kd) (vs:List V),r=.str wd::vs∧(wd,ks)∈TB∧Pts ms ks vs
theorem Gr.Na{ms:List Str}{r:List V}(h:Gr ms r):xU TB r:=by
 obtain⟨wd,ks,vs,rfl,hm,hp⟩:=h;refine#[wd,ks,vs,rfl,hm,hp.wrs,hp.rds,λx hx=>?_];rw[Oo]at hx;rcases NY.mp hx with e|hx
 ·rw[e];exact(qf _ hm).1
 ·obtain⟨v,hv,e⟩:=Og.mp hx
  obtain⟨k,p⟩:=hp.all v hv;rw[←e];exact p.fr
theorem Gr.rok{ms:List Str}{r:List V}(h:Gr ms r):Rok r:=by
 obtain⟨wd,ks,vs,rfl,hm,hp⟩:=h;have t:=qf _ hm;refine#[λv hv=>?_,by rw[Oi,hp.len];have:=t.2.2.1;simp only at this;omega,λv hv=>?_]
 ·rcases NY.mp hv with e|hv
  ·rw[e];trivial
  ·obtain⟨k,p⟩:=hp.all v hv
   exact p.pv.1
 ·rcases NY.mp hv with e|hv
  ·rw[e];exact t.2.1
  ·obtain⟨k,p⟩:=hp.all v hv
   exact p.pv.2
theorem FX{ms:List Str}{rs:List (List V)}(h:∀ r∈rs,Gr ms r)(hm:∀ m∈ms,m∈marks rs)(nd:(marks rs).Nodup)(ne:rs≠[])(ln:rs.length≤200):Okp rs:=by
 refine#[nd,λr hr=>(h r hr).Na,λr hr=>(h r hr).rok,λr hr wd ks vs e ht=>?_,ne,ln];obtain⟨wd',ks',vs',e',hm',hp⟩:=h r hr;rw[e]at e';injection e' with e1 e2;injection e1 with e1;subst e1 e2;have ek:ks=ks':=FW _ ht _ hm' rfl;subst ek;rcases(qf _ ht).2.2.2 with z|z
 ·exact .inr (.inl z)
 ·obtain⟨m,h1,h2⟩:=hp.last (.str wd) z
  exact .inr (.inr #[m,by rw[e];exact h1,hm m h2])
end K27.R
end
section
namespace K27
open PySem L2 LX
section
variable{P:Program}{w:World}{K:W.Frag}{mg:Str→Option Value}{base:Heap}
theorem Num.sm2{z:Int}(h:-(2*10 ^ 60)≤z∧z≤2*10 ^ 60):Sm z:=by
 unfold Sm;by_cases c:z.natAbs=0
 ·rw[c];decide
 ·rw[Nat.log2_lt c]
  have:z.natAbs≤2*10 ^ 60:=by omega
  exact Ow this (by decide +kernel)
theorem Num.sm{z:Int}(h:Num z):Sm z:=Num.sm2 #[by have:=h.1;omega,by have:=h.2;omega]
inductive Rw where
 | make (h n:Int)|load (h g k:Int)|store (g k h:Int)|copy (h g:Int)|drop (h:Int)|number (h x:Int)|name (w h:Int)|read (h w:Int)|word (h g:Int)|take (h:Int)|held (h:Int)|add (h g:Int)|less (h g:Int)
 | mark (m:Str)|go (m:Str)|same (h g:Int) (m:Str)|below (h g:Int) (m:Str)|iy (h:Int) (m:Str)|say (h:Int)|stop
noncomputable def Rw.its:Rw→List V
 | .make h n=>[.str "make",.int h,.int n]
 | .load h g k=>[.str "load",.int h,.int g,.int k]
 | .store g k h=>[.str "store",.int g,.int k,.int h]
 | .copy h g=>[.str "copy",.int h,.int g]
 | .drop h=>[.str "drop",.int h]
 | .number h x=>[.str "number",.int h,.int x]
 | .name w h=>[.str "name",.int w,.int h]
 | .read h w=>[.str "read",.int h,.int w]
 | .word h g=>[.str "word",.int h,.int g]
 | .take h=>[.str "take",.int h]
 | .held h=>[.str "held",.int h]
 | .add h g=>[.str "add",.int h,.int g]
 | .less h g=>[.str "less",.int h,.int g]
 | .mark m=>[.str "mark",.str m]
 | .go m=>[.str "go",.str m]
 | .same h g m=>[.str "same",.int h,.int g,.str m]
 | .below h g m=>[.str "below",.int h,.int g,.str m]
 | .iy h m=>[.str "thing",.int h,.str m]
 | .say h=>[.str "say",.int h]
 | .stop=>[.str "stop"]
noncomputable def Rw.wd:Rw→Str
 | .make _ _ => "make" | .load _ _ _ => "load" | .store _ _ _ => "store" | .copy _ _ => "copy" | .drop _ => "drop" | .number _ _ => "number" | .name _ _ => "name" | .read _ _ => "read" | .word _ _ => "word" | .take _ => "take" | .held _ => "held" | .add _ _ => "add" | .less _ _ => "less"
 | .mark _ => "mark" | .go _ => "go" | .same _ _ _ => "same" | .below _ _ _ => "below" | .iy _ _ => "thing" | .say _ => "say" | .stop => "stop"
noncomputable def Rw.cl:Rw→Nat
 | .stop=>0|.go _=>1|.same _ _ _=>1|.below _ _ _=>1|.iy _ _=>1|.say _=>3|.mark _=>4|_=>2
noncomputable def Rw.mk:Rw→Str
 | .go m=>m|.same _ _ m=>m|.below _ _ m=>m|.iy _ m=>m|_ => "on"
noncomputable def Rw.ok:Rw→Prop
 | .make a b=>Num a∧Num b|.load a b c=>Num a∧Num b∧Num c|.store a b c=>Num a∧Num b∧Num c|.copy a b=>Num a∧Num b|.drop a=>Num a|.number a b=>Num a∧Num b|.name a b=>Num a∧Num b|.read a b=>Num a∧Num b|.word a b=>Num a∧Num b|.take a=>Num a|.held a=>Num a|.add a b=>Num a∧Num b|.less a b=>Num a∧Num b
 | .mark m=>m∈R.M5|.go m=>m∈R.M5|.same a b m=>Num a∧Num b∧m∈R.M5|.below a b m=>Num a∧Num b∧m∈R.M5|.iy a m=>Num a∧m∈R.M5|.say a=>Num a|.stop=>True
theorem Rw.mk5{q:Rw}(h:q.ok):q.mk∈R.M5:=by
 cases q<;>first|exact h|exact h.2|exact h.2.2|exact NV
section
open R
variable{ms:List Str}{vs:List V}
end
noncomputable def jR(s:HS):Rw→Option Bool
 | .go _=>some true
 | .same h g _=>(match wat s.aG h,wat s.aG g with|some a,some b=>some (decide (a=b))|_,_=>none)
 | .below h g _=>(match wat s.aG h with|some (.num a)=>(match wat s.aG g with|some (.num b)=>some (decide (a<b))|_=>none)|_=>none)
 | .iy h _=>(match wat s.aG h with|some w=>some (decide (w.kind = "thing"))|none=>none)
 | _=>some false
noncomputable def d2(s:HS)(h g:Int)(f:Int→Int→Int):Re:=match wat s.aG h with|some (.num a)=>(match wat s.aG g with|some (.num b)=>aU s h (f a b)|_=>(some .hand,s))|_=>(some .hand,s)
noncomputable def dR(s:HS):Rw→Re
 | .make h n=>bZ s h n
 | .load h g k=>cn s h g k
 | .store g k h=>bN s g k h
 | .copy h g=>fG s h g
 | .drop h=>eP s h
 | .number h x=>aU s h x
 | .name w h=>dr s w h
 | .read h w=>cD s h w
 | .word h g=>(match wat s.aG g with|some (.num x)=>cB s h x|_=>(some .hand,s))
 | .take h=>(match wat s.aG h with|none=>(some .hand,s)|some _=>(match s.aV with|[]=>eP s h|z::r=>aU {s with aV:=r} h z))
 | .held h=>aU s h (held s)
 | .add h g=>d2 s h g (·+ ·)
 | .less h g=>d2 s h g (·- ·)
 | _=>(none,s)
inductive Sd where
 | num (x:Int)|th (n:Int)|no
noncomputable def Sd.its:Sd→List V
 | .num x=>[.str "number",.int x]
 | .th n=>[.str "thing",.int n]
 | .no=>[.str "none"]
noncomputable def sR(s:HS)(h:Int):Option Sd:=match wat s.aG h with|none=>none|some (.num x)=>some (.num x)|some (.th t)=>some (.th (fld s t).length)|some .no=>some .no
structure Nm(s:HS):Prop where
 h:∀ x,Wd.num x∈s.aG→Num x
 f:∀ t ws x,(t,ws)∈s.aI→Wd.num x∈ws→Num x
 b:∀ t x,(t,x)∈s.aS→Num x
 d:∀ x∈s.aV,Num x
section
variable{s:HS}
theorem Nm.put(n:Nm s){h:Int}{w:Wd}(hw:∀ x,w=.num x→Num x):Nm (fO s h w):=#[λx m=>(Pn m).elim (n.h x) λe=>hw x e.symm,n.f,n.b,n.d]
theorem Nm.go(n:Nm s){gs:List Int}:Nm (letGo s gs):=by
 refine#[n.h,λt ws x m=>n.f t ws x (OH.mp m).1,λt x m=>n.b t x (OH.mp m).1,λx m=>?_];rcases Om.mp m with m|m
 ·exact n.d x m
 ·obtain⟨t,_,e⟩:=OJ.mp m
  exact n.b t x (lookup_some e)
theorem Nm.small(n:Nm s):Nm (eG s):=Nm.go (s:={s with yng:=[]}) #[n.h,n.f,n.b,n.d]
theorem Nm.mkd(n:Nm s){k:Int}:Nm (mkR s k):=by
 unfold mkR;split
 ·exact n.small
 ·exact n
theorem Nm.wt0(n:Nm s){h x:Int}(e:wat s.aG h=some (.num x)):Num x:=n.h x (Of (eU e).2.2)
theorem Nm.num(n:Nm s){h x:Int}:Nm (aU s h x).2:=by
 unfold aU;split
 ·split
  ·rename_i c;exact n.put λy e=>by cases e;exact c
  ·exact n
 ·exact n
theorem Nm.drop(n:Nm s){h:Int}:Nm (eP s h).2:=by
 unfold eP;split
 ·exact n.put λy e=>nomatch e
 ·exact n
theorem BX{t:Int}{w:Wd}(n:Nm s)(m:w∈fld s t):∀ x,w=.num x→Num x:=λx e=>by
 unfold fld at m;cases el:s.aI.lookup t with
 | none=>rw[el]at m;cases m
 | some ws=>rw[el]at m;exact n.f t ws x (lookup_some el) (by rw[←e];exact m)
theorem Nm.d2(n:Nm s){h g:Int}{f:Int→Int→Int}:Nm (d2 s h g f).2:=by
 unfold K27.d2;split
 ·split
  ·exact n.num
  ·exact n
 ·exact n
theorem Nm.row(n:Nm s)(q:Rw):Nm (dR s q).2:=by
 cases q with
 | make h k =>
  show Nm (bZ s h k).2;unfold bZ;split
  ·split
   ·split
    ·exact n.mkd
    ·have n:=n.mkd (k:=k)
     refine#[λx m=>(Pn m).elim (n.h x) λe=>(nomatch e),λt ws x m mx=>?_,n.b,n.d];rcases Om.mp m with m|m
     ·exact n.f t ws x m mx
     ·cases NN.mp m;exact nomatch (List.mem_replicate.mp mx).2
   ·exact n
  ·exact n
 | load h g k =>
  show Nm (cn s h g k).2;unfold cn;split
  ·split
   ·split
    ·rename_i t _ c
     refine n.put λx e=>BX (t:=t) n ?_ x e;rw[O0,NJ (by omega)];exact OB _
    ·exact n
   ·exact n
  ·exact n
 | store g k h =>
  show Nm (bN s g k h).2;unfold bN;split
  ·split
   ·split
    ·rename_i t _ _ w ew _
     refine#[n.h,λt' ws x m mx=>?_,n.b,n.d];obtain⟨p,mp,e⟩:=Og.mp (show(t',ws)∈fL s.aI t _ from m);by_cases c:p.1=t
     ·rw[if_pos c]at e
      cases e;rcases Pn mx with mx|mx
      ·exact BX n mx x rfl
      ·exact n.wt0 (h:=h) (by rw[ew,mx])
     ·rw[if_neg c]at e
      exact n.f t' ws x (by rw[←e];exact mp) mx
    ·exact n
   ·exact n
  ·exact n
 | copy h g =>
  show Nm (fG s h g).2;unfold fG;split
  ·split
   ·rename_i w ew;exact n.put λx e=>n.wt0 (h:=g) (by rw[ew,e])
   ·exact n
  ·exact n
 | drop h=>exact n.drop
 | number h x=>exact n.num
 | name w h =>
  show Nm (dr s w h).2;unfold dr;split
  ·split
   ·exact#[n.h,n.f,n.b,n.d]
   ·exact n
  ·exact n
 | read h w =>
  show Nm (cD s h w).2;unfold cD;split
  ·split
   ·have n2:Nm (fO s h (nmW (s.names.getD w.toNat none))):=n.put λx e=>by cases hn:s.names.getD w.toNat none<;>rw[hn]at e<;>cases e
    unfold rdR;dsimp only;split
    ·split
     ·exact#[n2.h,n2.f,n2.b,n2.d]
     ·exact n2
    ·exact n2
   ·exact n
  ·exact n
 | word h g =>
  show Nm (match wat s.aG g with|some (.num x)=>cB s h x|_=>(some .hand,s)).2
  split
  ·rename_i x ex
   unfold cB;split
   ·split
    ·split
     ·exact n
     ·refine#[n.h,n.f,λt' y m=>?_,n.d]
      have m:(t',y)∈pE s.aS _ x:=m;unfold pE at m;split at m
      ·obtain⟨p,mp,e⟩:=Og.mp m
       split at e
       ·cases e;exact n.wt0 ex
       ·cases e;exact n.b _ _ mp
      ·rcases Om.mp m with m|m
       ·exact n.b _ _ m
       ·cases NN.mp m;exact n.wt0 ex
    ·exact n
   ·exact n
  ·exact n
 | take h =>
  show Nm (match wat s.aG h with|none=>(some Er.hand,s)|some _=>(match s.aV with|[]=>eP s h|z::r=>aU {s with aV:=r} h z)).2
  split
  ·exact n
  ·split
   ·exact n.drop
   ·rename_i z r e
    exact Nm.num (s:={s with aV:=r}) #[n.h,n.f,n.b,λx m=>n.d x (by rw[e];exact Oa _ m)]
 | held h=>exact n.num
 | add h g=>exact n.d2
 | less h g=>exact n.d2
 | _=>exact n
end
theorem nm0{my:Bool}{y l:Int}:Nm (s0 my y l):=by
 refine#[λx m=>?_,(λt ws x m=>nomatch m),(λt x m=>nomatch m),(λx m=>nomatch m)];exact nomatch (List.mem_replicate.mp (show Wd.num x∈List.replicate 8 Wd.no from m)).2
noncomputable def Kept(s s':HS):Prop:=Gd s'∧s.nxt≤s'.nxt∧s'.nxt≤s.nxt+1
theorem xX{s:HS}(d:Gd s){z:Int}{r:List Int}(e:s.aV=z::r):Gd {s with aV:=r}:=#[#[d.g.h8,d.g.n8,d.g.asc,d.g.lt,d.g.f6,d.g.hh,d.g.ff,d.g.nn,d.g.b12,d.g.bk,d.g.bnd,d.g.n0,d.g.nx,(by have:=d.g.sd;rw[e,Oi]at this;show(r.length:Int)+s.aI.length≤s.nxt;omega),d.g.yk,d.g.nZ,d.g.dk,d.g.qF],d.dy,d.dh,d.df,d.rd]
theorem FY{s:HS}(d:Gd s)(few:s.nxt<10000)(q:Rw):Kept s (dR s q).2:=by
 have same:Kept s s:=#[d,OF _,by omega];have two:∀ h g f,Kept s (d2 s h g f).2:=λh g f=>by
  unfold d2;split
  ·split
   ·rename_i a _ _ b _;exact iw d few (dd:=.number h (f a b))
   ·exact same
  ·exact same
 cases q with
 | make h n=>exact iw d few (dd:=.make h n)
 | load h g k=>exact iw d few (dd:=.load h g k)
 | store g k h=>exact iw d few (dd:=.store g k h)
 | copy h g=>exact iw d few (dd:=.copy h g)
 | drop h=>exact iw d few (dd:=.drop h)
 | number h x=>exact iw d few (dd:=.number h x)
 | name w h=>exact iw d few (dd:=.name w h)
 | read h w=>exact iw d few (dd:=.read h w)
 | word h g =>
  show Kept s (match wat s.aG g with|some (.num x)=>cB s h x|_=>(some .hand,s)).2
  split
  ·rename_i x _;exact iw d few (dd:=.word h x)
  ·exact same
 | take h =>
  show Kept s (match wat s.aG h with|none=>(some Er.hand,s)|some _=>(match s.aV with|[]=>eP s h|z::r=>aU {s with aV:=r} h z)).2
  split
  ·exact same
  ·split
   ·exact iw d few (dd:=.drop h)
   ·rename_i z r e;exact iw (xX d e) few (dd:=.number h z)
 | held h=>exact iw d few (dd:=.number h (held s))
 | add h g=>exact two h g _
 | less h g=>exact two h g _
 | _=>exact same
end
end K27
end
section
namespace L2
open PySem PySem.Spec PyProof.Rows LX
section
variable{X:Cx}
noncomputable def Nb(P:Program)(w:World)(K:W.Frag)(mg:Str→Option Value)(base:Heap)(CX:CXT)(k:Nat)(EK:St→XK)(tf:TE)(t:TA):TE:=λσ H Q=>tf σ H λx H1=>∃(f:Addr) (fd:FuncData) (ps:List Str) (sp:Sp),x=.ref f∧cx P w K mg base CX k f fd ps sp∧Binds K fd ps []∧PySem.W.keepIn K (.ref f)=true∧t σ H1 λvs H2=>sp vs H2 Q (EK σ)
theorem BY{CX:CXT}{k:Nat}{EK:St→XK}{fe e:Expr}{es:List Expr}{tf:TE}{t:TA}{pos:Pos}(hf:PE X fe tf)(hr:cT k X.A)(hx:bK CX X EK)(ha:PA X (e::es) t)
  (he:starEach (e::es) X.env=(false,eval e X.env)::starEach es X.env:=by rfl) (hpl:(backTo pos (starEach es X.env)).any (·.1)=false:=by rfl)
  (hc:eval (.Call fe (e::es) [] pos) X.env=(do callWith pos (←eval fe X.env) [] (backTo pos (starEach (e::es) X.env)) (backToKw pos (keywordEach [] X.env))):=by rfl):PE X (.Call fe (e::es) [] pos) (Nb X.prog X.w X.K X.mg X.base CX k EK tf t):=by
 intro pins s σ H Q I h;rw[hc];refine wpAny_bind (thn (hf pins s σ H _ I h) λu s1 ⟨x,H1,I1,rx,f,fd,ps,sp,ex,F,hb,hk,q⟩=>?_);subst ex;obtain rfl:u=Value.ref f:=rx;exact PySem.W.callWith_K (h₀:=X.base) I.ok.mod.kin hk (thn (ha pos pins s1 σ H1 _ I1 q) λus s2 ⟨vs,H2,I2,r,q2⟩=>#[I2.kIn,Dj (dvs:=[]) (ds:=[]) F hr hb .nil hx I2 r (by rw[OR];exact q2)]) he hpl
end
end L2
end
section
namespace K27
open PySem L2 LX
section
variable{P:Program}{w:World}{K:W.Frag}{mg:Str→Option Value}{base:Heap}
theorem Fin.same{x:Addr}{A:HA}{s:HS}{H H1:Hp}{r:Re}{Q:VK}{E:XK}(k:Fin x A s H r Q E)(s1:au H H1):Fin x A s H1 r Q E:=λA' H' J' fr=>k A' H' J' ((Fr.same s1).trans fr)
noncomputable def dw(p:Rw→Prop):Sp:=λvs H Q E=>∃ x A s q a,vs=[.ref x,.ref a]∧IH H x A s∧Gd s∧s.nxt<9000∧Nm s∧p q∧q.ok∧H a=some (.tup q.its)∧Fin x A s H (dR s q) Q E
noncomputable def qQ(p:Rw→Prop):Sp:=λvs H Q E=>∃ x A s q a,vs=[.ref x,.ref a]∧IH H x A s∧Gd s∧p q∧q.ok∧H a=some (.tup q.its)∧(match jR s q with|some b=>∀ H',au H H'→Q (.bl b) H'|none=>Bad 65 H E)
theorem xY{s:HS}(G:Good s):∀ ts:List Int,0≤wsum s ts∧wsum s ts≤7*(ts.length:Int)
 | []=>#[OF _,OF _]
 | t::r=>by
  have ih:=xY G r;have l:(fld s t).length≤6:=by
   unfold fld;cases e:s.aI.lookup t with
   | none=>exact Oy _
   | some ws=>exact G.f6 t ws (lookup_some e)
  have e:wsum s (t::r)=(((fld s t).length:Int)+1)+wsum s r:=by unfold wsum;rw[Oo,List.sum_cons]
  rw[e,Oi];omega
theorem D3{s:HS}(d:Gd s)(few:s.nxt<9000):Sm (held s):=by
 have h:=xY d.g (keys s);have l:(keys s).length=s.aI.length:=NI _;have z:=d.g.sd;refine Num.sm #[?_,?_]
 ·have:=h.1;show _≤wsum s (keys s);omega
 ·have:=h.2;show wsum s (keys s)≤_;omega
noncomputable abbrev zo:List Str:=["hall", "row"]
theorem vU:ao zo ["hall", "row"] (ag rh):=fsc
theorem vV(T:Txt w K mg):Ok P w K mg base 11 195 ["hall", "row"] (dw (λq=>∃ h n,q=.make h n)):=by
 refine T.o2 "do_make" vU λcdv A' outer s' H vs Q E hr h=>?_;obtain⟨x,A,s,q,a,rfl,J,Gs,few,n,hp,ok,ha,k⟩:=h;refine#[_,(ai (aC ((kA T).m T.af hr (pv 0) px (aa (aP aL (pv 1) aq (λ_ _=>rfl)) (aa (aP aL (pv 1) aq (λ_ _=>rfl)) ah))))),?_];obtain⟨h,n,rfl⟩:=hp;have G:=Gs.g;obtain⟨h1,h2⟩:=ok;exact#[_,rfl,x,_,_,rfl,J.ax,(by kernel_rfl),_,rfl,a,_,1,.int h,rfl,rfl,SqT.of ha,rfl,_,rfl,a,_,2,.int n,rfl,rfl,SqT.of ha,rfl,x,A,s,h,n,rfl,J,Gs,by omega,h1.sm,h2.sm,k]
noncomputable abbrev zp:List Str:=["hall", "row"]
theorem vW:ao zp ["hall", "row"] (ag rj):=fsc
theorem vX(T:Txt w K mg):Ok P w K mg base 11 202 ["hall", "row"] (dw (λq=>∃ h g k1,q=.load h g k1)):=by
 refine T.o2 "do_load" vW λcdv A' outer s' H vs Q E hr h=>?_;obtain⟨x,A,s,q,a,rfl,J,Gs,few,n,hp,ok,ha,k⟩:=h;refine#[_,(ai (aC ((sJ T).m T.af hr (pv 0) px (aa (aP aL (pv 1) aq (λ_ _=>rfl)) (aa (aP aL (pv 1) aq (λ_ _=>rfl)) (aa (aP aL (pv 1) aq (λ_ _=>rfl)) ah)))))),?_];obtain⟨h,g,k1,rfl⟩:=hp;have G:=Gs.g;obtain⟨h1,h2,h3⟩:=ok;exact#[_,rfl,x,_,_,rfl,J.ax,(by kernel_rfl),_,rfl,a,_,1,.int h,rfl,rfl,SqT.of ha,rfl,_,rfl,a,_,2,.int g,rfl,rfl,SqT.of ha,rfl,_,rfl,a,_,3,.int k1,rfl,rfl,SqT.of ha,rfl,x,A,s,h,g,k1,rfl,J,G,h1.sm,h2.sm,h3.sm,k]
noncomputable abbrev vY:List Str:=["hall", "row"]
theorem uq:ao vY ["hall", "row"] (ag o5):=fsc
theorem ur(T:Txt w K mg):Ok P w K mg base 11 209 ["hall", "row"] (dw (λq=>∃ g k1 h,q=.store g k1 h)):=by
 refine T.o2 "do_store" uq λcdv A' outer s' H vs Q E hr h=>?_;obtain⟨x,A,s,q,a,rfl,J,Gs,few,n,hp,ok,ha,k⟩:=h;refine#[_,(ai (aC ((qI T).m T.af hr (pv 0) px (aa (aP aL (pv 1) aq (λ_ _=>rfl)) (aa (aP aL (pv 1) aq (λ_ _=>rfl)) (aa (aP aL (pv 1) aq (λ_ _=>rfl)) ah)))))),?_];obtain⟨g,k1,h,rfl⟩:=hp;have G:=Gs.g;obtain⟨h1,h2,h3⟩:=ok;exact#[_,rfl,x,_,_,rfl,J.ax,(by kernel_rfl),_,rfl,a,_,1,.int g,rfl,rfl,SqT.of ha,rfl,_,rfl,a,_,2,.int k1,rfl,rfl,SqT.of ha,rfl,_,rfl,a,_,3,.int h,rfl,rfl,SqT.of ha,rfl,x,A,s,g,k1,h,rfl,J,G,h1.sm,h2.sm,h3.sm,k]
noncomputable abbrev zu:List Str:=["hall", "row"]
theorem vZ:ao zu ["hall", "row"] (ag rk):=fsc
theorem wa(T:Txt w K mg):Ok P w K mg base 11 216 ["hall", "row"] (dw (λq=>∃ h g,q=.copy h g)):=by
 refine T.o2 "do_copy" vZ λcdv A' outer s' H vs Q E hr h=>?_;obtain⟨x,A,s,q,a,rfl,J,Gs,few,n,hp,ok,ha,k⟩:=h;refine#[_,(ai (aC ((sE T).m T.af hr (pv 0) px (aa (aP aL (pv 1) aq (λ_ _=>rfl)) (aa (aP aL (pv 1) aq (λ_ _=>rfl)) ah))))),?_];obtain⟨h,g,rfl⟩:=hp;have G:=Gs.g;obtain⟨h1,h2⟩:=ok;exact#[_,rfl,x,_,_,rfl,J.ax,(by kernel_rfl),_,rfl,a,_,1,.int h,rfl,rfl,SqT.of ha,rfl,_,rfl,a,_,2,.int g,rfl,rfl,SqT.of ha,rfl,x,A,s,h,g,rfl,J,G,h1.sm,h2.sm,k]
noncomputable abbrev zw:List Str:=["hall", "row"]
theorem wc:ao zw ["hall", "row"] (ag rq):=fsc
theorem we(T:Txt w K mg):Ok P w K mg base 11 223 ["hall", "row"] (dw (λq=>∃ h,q=.drop h)):=by
 refine T.o2 "do_drop" wc λcdv A' outer s' H vs Q E hr h=>?_;obtain⟨x,A,s,q,a,rfl,J,Gs,few,n,hp,ok,ha,k⟩:=h;refine#[_,(ai (aC ((kS T).m T.af hr (pv 0) px (aa (aP aL (pv 1) aq (λ_ _=>rfl)) ah)))),?_];obtain⟨h,rfl⟩:=hp;have G:=Gs.g;have h1:=ok;exact#[_,rfl,x,_,_,rfl,J.ax,(by kernel_rfl),_,rfl,a,_,1,.int h,rfl,rfl,SqT.of ha,rfl,x,A,s,h,rfl,J,G,h1.sm,k]
noncomputable abbrev uu:List Str:=["hall", "row"]
theorem sO:ao uu ["hall", "row"] (ag mN):=fsc
theorem sP(T:Txt w K mg):Ok P w K mg base 11 230 ["hall", "row"] (dw (λq=>∃ h z,q=.number h z)):=by
 refine T.o2 "do_number" sO λcdv A' outer s' H vs Q E hr h=>?_;obtain⟨x,A,s,q,a,rfl,J,Gs,few,n,hp,ok,ha,k⟩:=h;refine#[_,(ai (aC ((b9 T).m T.af hr (pv 0) px (aa (aP aL (pv 1) aq (λ_ _=>rfl)) (aa (aP aL (pv 1) aq (λ_ _=>rfl)) ah))))),?_];obtain⟨h,z,rfl⟩:=hp;have G:=Gs.g;obtain⟨h1,h2⟩:=ok;exact#[_,rfl,x,_,_,rfl,J.ax,(by kernel_rfl),_,rfl,a,_,1,.int h,rfl,rfl,SqT.of ha,rfl,_,rfl,a,_,2,.int z,rfl,rfl,SqT.of ha,rfl,x,A,s,h,z,rfl,J,G,h1.sm,h2.sm,k]
noncomputable abbrev zx:List Str:=["hall", "row"]
theorem wg:ao zx ["hall", "row"] (ag rA):=fsc
theorem wj(T:Txt w K mg):Ok P w K mg base 11 237 ["hall", "row"] (dw (λq=>∃ w1 h,q=.name w1 h)):=by
 refine T.o2 "do_name" wg λcdv A' outer s' H vs Q E hr h=>?_;obtain⟨x,A,s,q,a,rfl,J,Gs,few,n,hp,ok,ha,k⟩:=h;refine#[_,(ai (aC ((sG T).m T.af hr (pv 0) px (aa (aP aL (pv 1) aq (λ_ _=>rfl)) (aa (aP aL (pv 1) aq (λ_ _=>rfl)) ah))))),?_];obtain⟨w1,h,rfl⟩:=hp;have G:=Gs.g;obtain⟨h1,h2⟩:=ok;exact#[_,rfl,x,_,_,rfl,J.ax,(by kernel_rfl),_,rfl,a,_,1,.int w1,rfl,rfl,SqT.of ha,rfl,_,rfl,a,_,2,.int h,rfl,rfl,SqT.of ha,rfl,x,A,s,w1,h,rfl,J,G,h1.sm,h2.sm,k]
noncomputable abbrev zy:List Str:=["hall", "row"]
theorem wm:ao zy ["hall", "row"] (ag rB):=fsc
theorem wo(T:Txt w K mg):Ok P w K mg base 11 244 ["hall", "row"] (dw (λq=>∃ h w1,q=.read h w1)):=by
 refine T.o2 "do_read" wm λcdv A' outer s' H vs Q E hr h=>?_;obtain⟨x,A,s,q,a,rfl,J,Gs,few,n,hp,ok,ha,k⟩:=h;refine#[_,(ai (aC ((kB T).m T.af hr (pv 0) px (aa (aP aL (pv 1) aq (λ_ _=>rfl)) (aa (aP aL (pv 1) aq (λ_ _=>rfl)) ah))))),?_];obtain⟨h,w1,rfl⟩:=hp;have G:=Gs.g;obtain⟨h1,h2⟩:=ok;exact#[_,rfl,x,_,_,rfl,J.ax,(by kernel_rfl),_,rfl,a,_,1,.int h,rfl,rfl,SqT.of ha,rfl,_,rfl,a,_,2,.int w1,rfl,rfl,SqT.of ha,rfl,x,A,s,h,w1,rfl,J,G,h1.sm,h2.sm,k]
noncomputable abbrev zA:List Str:=["hall", "row"]
theorem wq:ao zA ["hall", "row"] (ag rC):=fsc
theorem wu(T:Txt w K mg):Ok P w K mg base 11 251 ["hall", "row"] (dw (λq=>∃ h g,q=.word h g)):=by
 refine T.o2 "do_word" wq λcdv A' outer s' H vs Q E hr h=>?_;obtain⟨x,A,s,q,a,rfl,J,Gs,few,n,hp,ok,ha,k⟩:=h;refine#[_,(ai (aC ((sI T).m T.af hr (pv 0) px (aa (aP aL (pv 1) aq (λ_ _=>rfl)) (aa ((aZ T).m T.af hr (pv 0) px (aa (aP aL (pv 1) aq (λ_ _=>rfl)) ah)) ah))))),?_];obtain⟨h,g,rfl⟩:=hp;have G:=Gs.g;obtain⟨h1,h2⟩:=ok;refine#[_,rfl,x,_,_,rfl,J.ax,(by kernel_rfl),_,rfl,a,_,1,.int h,rfl,rfl,SqT.of ha,rfl,_,rfl,x,_,_,rfl,J.ax,(by kernel_rfl),_,rfl,a,_,2,.int g,rfl,rfl,SqT.of ha,rfl,x,A,s,g,rfl,J,G,h2.sm,?_];cases e:wat s.aG g with
 | none=>simp only[dR,e]at k;exact k.bad J
 | some wd =>
  cases wd with
  | no=>simp only[dR,e]at k;exact k.bad J
  | th t=>simp only[dR,e]at k;exact k.bad J
  | num z1 =>
   simp only[dR,e]at k;exact λH' s'=>#[x,A,s,h,z1,rfl,J.same s',G,h1.sm,(n.wt0 e).sm,k.same s']
noncomputable abbrev zC:List Str:=["hall", "row"]
theorem wx:ao zC ["hall", "row"] (ag rE):=fsc
theorem wy(T:Txt w K mg):Ok P w K mg base 11 265 ["hall", "row"] (dw (λq=>∃ h,q=.held h)):=by
 refine T.o2 "do_held" wx λcdv A' outer s' H vs Q E hr h=>?_;obtain⟨x,A,s,q,a,rfl,J,Gs,few,n,hp,ok,ha,k⟩:=h;refine#[_,(ai (aC ((b9 T).m T.af hr (pv 0) px (aa (aP aL (pv 1) aq (λ_ _=>rfl)) (aa ((fA T).m0 T.af hr (pv 0) px) ah))))),?_];obtain⟨h,rfl⟩:=hp;have G:=Gs.g;refine#[_,rfl,x,_,_,rfl,J.ax,(by kernel_rfl),_,rfl,a,_,1,.int h,rfl,rfl,SqT.of ha,rfl,_,rfl,x,_,_,rfl,J.ax,(by kernel_rfl),x,A,s,rfl,J,G,λH' s'=>#[x,A,s,h,_,rfl,J.same s',G,ok.sm,D3 Gs few,k.same s']]
noncomputable abbrev Bj:List Str:=["hall", "row", "first"]
theorem rX:ao Bj ["hall", "row"] (ag uJ):=fsc
theorem zD(T:Txt w K mg):Ok P w K mg base 11 272 ["hall", "row"] (dw (λq=>∃ h g,q=.add h g)):=by
 refine T.o2 "do_add" rX λcdv A' outer s' H vs Q E hr h=>?_;obtain⟨x,A,s,q,a,rfl,J,Gs,few,n,hp,ok,ha,k⟩:=h;refine#[_,(ak (aY (i:=2) rX.nd rfl (Or.inl rfl) ((aZ T).m T.af hr (pv 0) px (aa (aP aL (pv 1) aq (λ_ _=>rfl)) ah)))
  (ai (aC ((b9 T).m T.af hr (pv 0) px (aa (aP aL (pv 1) aq (λ_ _=>rfl)) (aa (cb nR (pv 2) ((aZ T).m T.af hr (pv 0) px (aa (aP aL (pv 1) aq (λ_ _=>rfl)) ah))) ah)))))),?_]
 obtain⟨h,g,rfl⟩:=hp;have G:=Gs.g;obtain⟨h1,h2⟩:=ok;replace k:Fin x A s H (d2 s h g (·+ ·)) Q E:=k;refine#[_,rfl,x,_,_,rfl,J.ax,(by kernel_rfl),_,rfl,a,_,1,.int h,rfl,rfl,SqT.of ha,rfl,x,A,s,h,rfl,J,G,h1.sm,?_];cases e:wat s.aG h with
 | none=>simp only[d2,e]at k;exact k.bad J
 | some wd =>
  cases wd with
  | no=>simp only[d2,e]at k;exact k.bad J
  | th t=>simp only[d2,e]at k;exact k.bad J
  | num z1 =>
   intro H1 s1;have J1:=J.same s1;have k1:=k.same s1;refine#[_,rfl,x,_,_,rfl,J1.ax,(by kernel_rfl),_,rfl,a,_,1,.int h,rfl,rfl,SqT.of (s1 _ _ ha),rfl,_,rfl,_,rfl,x,_,_,rfl,J1.ax,(by kernel_rfl),_,rfl,a,_,2,.int g,rfl,rfl,SqT.of (s1 _ _ ha),rfl,x,A,s,g,rfl,J1,G,h2.sm,?_];cases e2:wat s.aG g with
   | none=>simp only[d2,e,e2]at k1;exact k1.bad J1
   | some wd =>
    cases wd with
    | no=>simp only[d2,e,e2]at k1;exact k1.bad J1
    | th t=>simp only[d2,e,e2]at k1;exact k1.bad J1
    | num z2 =>
     simp only[d2,e,e2]at k1;have b1:=n.wt0 e;have b2:=n.wt0 e2;exact λH2 s2=>#[_,_,rfl,rfl,x,A,s,h,_,rfl,J1.same s2,G,h1.sm,Num.sm2 #[by have:=b1.1;have:=b2.1;have:=b1.2;have:=b2.2;omega,by have:=b1.1;have:=b2.1;have:=b1.2;have:=b2.2;omega],k1.same s2]
noncomputable abbrev zE:List Str:=["hall", "row", "first"]
theorem pM:ao zE ["hall", "row"] (ag rF):=fsc
theorem wz(T:Txt w K mg):Ok P w K mg base 11 279 ["hall", "row"] (dw (λq=>∃ h g,q=.less h g)):=by
 refine T.o2 "do_less" pM λcdv A' outer s' H vs Q E hr h=>?_;obtain⟨x,A,s,q,a,rfl,J,Gs,few,n,hp,ok,ha,k⟩:=h;refine#[_,(ak (aY (i:=2) pM.nd rfl (Or.inl rfl) ((aZ T).m T.af hr (pv 0) px (aa (aP aL (pv 1) aq (λ_ _=>rfl)) ah)))
  (ai (aC ((b9 T).m T.af hr (pv 0) px (aa (aP aL (pv 1) aq (λ_ _=>rfl)) (aa (cb tI (pv 2) ((aZ T).m T.af hr (pv 0) px (aa (aP aL (pv 1) aq (λ_ _=>rfl)) ah))) ah)))))),?_]
 obtain⟨h,g,rfl⟩:=hp;have G:=Gs.g;obtain⟨h1,h2⟩:=ok;replace k:Fin x A s H (d2 s h g (·- ·)) Q E:=k;refine#[_,rfl,x,_,_,rfl,J.ax,(by kernel_rfl),_,rfl,a,_,1,.int h,rfl,rfl,SqT.of ha,rfl,x,A,s,h,rfl,J,G,h1.sm,?_];cases e:wat s.aG h with
 | none=>simp only[d2,e]at k;exact k.bad J
 | some wd =>
  cases wd with
  | no=>simp only[d2,e]at k;exact k.bad J
  | th t=>simp only[d2,e]at k;exact k.bad J
  | num z1 =>
   intro H1 s1;have J1:=J.same s1;have k1:=k.same s1;refine#[_,rfl,x,_,_,rfl,J1.ax,(by kernel_rfl),_,rfl,a,_,1,.int h,rfl,rfl,SqT.of (s1 _ _ ha),rfl,_,rfl,_,rfl,x,_,_,rfl,J1.ax,(by kernel_rfl),_,rfl,a,_,2,.int g,rfl,rfl,SqT.of (s1 _ _ ha),rfl,x,A,s,g,rfl,J1,G,h2.sm,?_];cases e2:wat s.aG g with
   | none=>simp only[d2,e,e2]at k1;exact k1.bad J1
   | some wd =>
    cases wd with
    | no=>simp only[d2,e,e2]at k1;exact k1.bad J1
    | th t=>simp only[d2,e,e2]at k1;exact k1.bad J1
    | num z2 =>
     simp only[d2,e,e2]at k1;have b1:=n.wt0 e;have b2:=n.wt0 e2;exact λH2 s2=>#[_,_,rfl,rfl,x,A,s,h,_,rfl,J1.same s2,G,h1.sm,Num.sm2 #[by have:=b1.1;have:=b2.1;have:=b1.2;have:=b2.2;omega,by have:=b1.1;have:=b2.1;have:=b1.2;have:=b2.2;omega],k1.same s2]
end
section
variable{P:Program}{w:World}{K:W.Frag}{mg:Str→Option Value}{base:Heap}
noncomputable abbrev zF:List Str:=["hall", "row", "word"]
theorem pN:ao zF ["hall", "row"] (ag rD):=fsc
theorem wA(T:Txt w K mg):Ok P w K mg base 11 258 ["hall", "row"] (dw (λq=>∃ h,q=.take h)):=by
 refine T.o2 "do_take" pN λcdv A' outer s' H vs Q E hr h=>?_;obtain⟨x,A,s,q,a,rfl,J,Gs,few,n,hp,ok,ha,k⟩:=h;refine#[_,(ak (aC ((cO T).m T.af hr (pv 0) px (aa (aP aL (pv 1) aq (λ_ _=>rfl)) ah)))
  (ak (aY (i:=2) pN.nd rfl (Or.inl rfl) ((ku T).m0 T.af hr (pv 0) px))
  (ai (a6 (aH qm (pv 2) bu (aN _))
   (ai (aC ((kS T).m T.af hr (pv 0) px (aa (aP aL (pv 1) aq (λ_ _=>rfl)) ah))))
   (ai (aC ((b9 T).m T.af hr (pv 0) px (aa (aP aL (pv 1) aq (λ_ _=>rfl)) (aa (pv 2) ah))))))))),?_]
 obtain⟨h,rfl⟩:=hp;have G:=Gs.g;have h1:=ok.sm;refine#[_,rfl,x,_,_,rfl,J.ax,(by kernel_rfl),_,rfl,a,_,1,.int h,rfl,rfl,SqT.of ha,rfl,x,A,s,h,rfl,J,G,h1,?_];cases e:wat s.aG h with
 | none=>simp only[dR,e]at k;exact k.bad J
 | some wd =>
  intro H1 s1;have J1:=J.same s1;have k1:=k.same s1;refine#[_,rfl,x,_,_,rfl,J1.ax,(by kernel_rfl),x,A,s,rfl,J1,?_];cases e2:s.aV with
  | nil =>
   simp only[dR,e,e2]at k1;exact#[_,rfl,rfl,_,rfl,cZ #[_,rfl,x,_,_,rfl,J1.ax,(by kernel_rfl),_,rfl,a,_,1,.int h,rfl,rfl,SqT.of (s1 _ _ ha),rfl,x,A,s,h,rfl,J1,G,h1,k1]]
  | cons z r =>
   simp only[dR,e,e2]at k1;intro A2 H2 J2 fr;have k2:Fin x A2 {s with aV:=r} H2 (aU {s with aV:=r} h z) Q E:=λA' H' J' fr'=>k1 A' H' J' (fr.trans fr');have ha2:H2 a=some (.tup [.str "take",.int h]):=fr.tup _ _ (s1 _ _ ha);exact#[_,rfl,rfl,_,rfl,b7 #[_,rfl,x,_,_,rfl,J2.ax,(by kernel_rfl),_,rfl,a,_,1,.int h,rfl,rfl,SqT.of ha2,rfl,_,rfl,x,A2,_,h,z,rfl,J2,(xX Gs e2).g,h1,(n.d z (by rw[e2];exact NV)).sm,k2]]
noncomputable abbrev Bk:List Str:=["hall", "row"]
theorem zG:ao Bk ["hall", "row"] (ag uK):=fsc
theorem zH(T:Txt w K mg):Ok P w K mg base 11 307 ["hall", "row"] (qQ (λq=>∃ m,q=.go m)):=by
 refine T.o2 "always" zG λcdv A' outer s' H vs Q E hr h=>?_;obtain⟨x,A,s,q,a,rfl,J,Gs,hp,ok,ha,k⟩:=h;refine#[_,(ai (aB k9)),?_];obtain⟨m,rfl⟩:=hp;have G:=Gs.g;exact k H (λ_ _ q=>q)
noncomputable abbrev zI:List Str:=["hall", "row"]
theorem wB:ao zI ["hall", "row"] (ag rG):=fsc
theorem wC(T:Txt w K mg):Ok P w K mg base 11 286 ["hall", "row"] (qQ (λq=>∃ h g m,q=.same h g m)):=by
 refine T.o2 "is_same" wB λcdv A' outer s' H vs Q E hr h=>?_;obtain⟨x,A,s,q,a,rfl,J,Gs,hp,ok,ha,k⟩:=h;refine#[_,(ai (aB ((kq T).m T.af hr (pv 0) px (aa (aP aL (pv 1) aq (λ_ _=>rfl)) (aa (aP aL (pv 1) aq (λ_ _=>rfl)) ah))))),?_];obtain⟨h,g,m,rfl⟩:=hp;have G:=Gs.g;obtain⟨h1,h2,_⟩:=ok;refine#[_,rfl,x,_,_,rfl,J.ax,(by kernel_rfl),_,rfl,a,_,1,.int h,rfl,rfl,SqT.of ha,rfl,_,rfl,a,_,2,.int g,rfl,rfl,SqT.of ha,rfl,x,A,s,h,g,rfl,J,G,h1.sm,h2.sm,?_];cases e:wat s.aG h with
 | none=>simp only[jR,e]at k;exact k
 | some w1 =>
  cases e2:wat s.aG g with
  | none=>simp only[jR,e,e2]at k;exact k
  | some w2=>simp only[jR,e,e2]at k;exact k H (λ_ _ q=>q)
noncomputable abbrev wD:List Str:=["hall", "row", "first"]
theorem mZ:ao wD ["hall", "row"] (ag o6):=fsc
theorem uv(T:Txt w K mg):Ok P w K mg base 11 293 ["hall", "row"] (qQ (λq=>∃ h g m,q=.below h g m)):=by
 refine T.o2 "is_below" mZ λcdv A' outer s' H vs Q E hr h=>?_;obtain⟨x,A,s,q,a,rfl,J,Gs,hp,ok,ha,k⟩:=h;refine#[_,(ak (aY (i:=2) mZ.nd rfl (Or.inl rfl) ((aZ T).m T.af hr (pv 0) px (aa (aP aL (pv 1) aq (λ_ _=>rfl)) ah)))
  (ai (aB (cc oQ (pv 2) ((aZ T).m T.af hr (pv 0) px (aa (aP aL (pv 1) aq (λ_ _=>rfl)) ah)) (aN _))))),?_]
 obtain⟨h,g,m,rfl⟩:=hp;have G:=Gs.g;obtain⟨h1,h2,_⟩:=ok;refine#[_,rfl,x,_,_,rfl,J.ax,(by kernel_rfl),_,rfl,a,_,1,.int h,rfl,rfl,SqT.of ha,rfl,x,A,s,h,rfl,J,G,h1.sm,?_];cases e:wat s.aG h with
 | none=>simp only[jR,e]at k;exact k
 | some wd =>
  cases wd with
  | no=>simp only[jR,e]at k;exact k
  | th t=>simp only[jR,e]at k;exact k
  | num z1 =>
   intro H1 s1;have J1:=J.same s1;refine#[_,rfl,_,rfl,x,_,_,rfl,J1.ax,(by kernel_rfl),_,rfl,a,_,2,.int g,rfl,rfl,SqT.of (s1 _ _ ha),rfl,x,A,s,g,rfl,J1,G,h2.sm,?_];cases e2:wat s.aG g with
   | none=>simp only[jR,e,e2]at k;exact k.same s1
   | some wd =>
    cases wd with
    | no=>simp only[jR,e,e2]at k;exact k.same s1
    | th t=>simp only[jR,e,e2]at k;exact k.same s1
    | num z2 =>
     simp only[jR,e,e2]at k;exact λH2 s2=>#[z1,z2,rfl,rfl,k H2 (s1.trans s2)]
noncomputable abbrev wF:List Str:=["hall", "row"]
theorem uw:ao wF ["hall", "row"] (ag o9):=fsc
theorem ux(T:Txt w K mg):Ok P w K mg base 11 300 ["hall", "row"] (qQ (λq=>∃ h m,q=.iy h m)):=by
 refine T.o2 "is_thing" uw λcdv A' outer s' H vs Q E hr h=>?_;obtain⟨x,A,s,q,a,rfl,J,Gs,hp,ok,ha,k⟩:=h;refine#[_,(ai (aB (cc dB ((cO T).m T.af hr (pv 0) px (aa (aP aL (pv 1) aq (λ_ _=>rfl)) ah)) aw (aN _)))),?_];obtain⟨h,m,rfl⟩:=hp;have G:=Gs.g;obtain⟨h1,_⟩:=ok;refine#[_,rfl,x,_,_,rfl,J.ax,(by kernel_rfl),_,rfl,a,_,1,.int h,rfl,rfl,SqT.of ha,rfl,x,A,s,h,rfl,J,G,h1.sm,?_];cases e:wat s.aG h with
 | none=>simp only[jR,e]at k;exact k
 | some w1 =>
  simp only[jR,e]at k;refine λH1 s1=>#[rfl,?_];have e3:decide (V.str w1.kind=V.str "thing")=decide (w1.kind = "thing"):=by rw[OK,decide_eq_true_eq,decide_eq_true_eq];exact#[λh=>V.str.inj h,λh=>by rw[h]]
  show Q (.bl (decide (V.str w1.kind=V.str "thing"))) H1;rw[e3];exact k H1 s1
end
end K27
end
section
namespace L2
open PySem PySem.Spec PyProof.Rows LX
theorem drT{P:Program}{w:World}{A:Around}(hh:A.handled=none){it l:Addr}{xs:Array Value}(ne:l≠it):Draws P w A it [it,l] xs.size (λi x=>xs[i]?=some x) (λi h=>h.IsTupleIter it l i∧h.IsTuple l xs) where
 live:=λi h ⟨⟨o,q,_⟩,_⟩=>#[o,q]
 frame:=λi h h' ⟨⟨o,q,r⟩,o',q',r'⟩ k=>#[#[o,k it (by simp) o q,r],o',k l (by simp) o' q',r']
 item:=λi s Q E hi ⟨st,li⟩ hQ=>(wV it l xs).item A E s i xs[i] Q st li (Array.getElem?_eq_getElem hi) λh' st' sb=>hQ _ h' s.toks (Array.getElem?_eq_getElem hi) #[st',let ⟨o,q,r⟩:=li;#[o,(sb.2 l ne).trans q,r]] sb
 done:=λs Q E ⟨st,li⟩ hE=>(wV it l xs).stop A E s _ Q hh st li (Array.getElem?_eq_none (NO _)) hE
noncomputable def ItE(K:W.Frag)(a:Addr):It :=
 #[λi H=>∃ xs x,SqT K H a xs∧xs[i]?=some x,λi H y H'=>∃ t x,H t=none∧y=.ref t∧(∀ xs,SqT K H a xs→xs[i]?=some x)∧H'=upd H t (.tup [.int (i:Int),x]),λi H=>∃ xs,SqT K H a xs∧xs.length=i]
theorem wG{P:Program}{w:World}{K:W.Frag}{es:List Expr}{x1:Nat}{pos:Pos}(a it e:Addr)(hne:e≠it) :
  Turn P w K (.Tuple es x1 pos) (ItE K a) [e,it] e (λi h=>∃ old,IsEnum h e it i old∧h.IsTupleIter it a i) where
 mem:=by simp
 obj:=λi h st b hb=>by
  obtain⟨old,h1,o,q,c,d⟩:=st;rcases NY.mp hb with z|z
  ·rw[z]
   exact#[_,h1,λv z=>by
    have z':Data.fields _=Data.cell v:=z;cases z']
  ·rw[NN.mp z]
   exact#[o,q,λv z=>by rw[d]at z;cases z]
 keep:=λi h h' st k=>by
  obtain⟨old,h1,h2⟩:=st;exact#[old,k e (by simp) _ h1,(let ⟨o,q,r⟩:=h2;#[o,k it (by simp) o q,r])]
 item:=by
  intro X hP hw hK hc i pins s σ H E I hf st hg;subst hP hw hK;obtain⟨xs,x,hq,hx⟩:=hg;obtain⟨its,rv,p,hz⟩:=I.tuple hq;obtain⟨u,hu,ru⟩:=rv.get hx;obtain⟨old,he,hit⟩:=st;have fr:H s.heap.objs.size=none:=I.hok.fresh (NO _);have nai:a≠it:=λz=>by
   obtain⟨o,q,q2,_⟩:=hit;obtain⟨o',q',q3,_⟩:=p;rw[z,q]at q';cases q';rw[q2]at q3;injection q3 with q3;exact absurd q3 (by decide)
  have nae:e≠a:=λz=>by
   obtain⟨o',q',q3,_⟩:=p;have he':s.heap.get? e=some _:=he;rw[z,q']at he';cases he';injection q3 with q3;exact absurd q3 (by decide)
  have hlt:i<its.toArray.size:=by have:=(NK.mp hu).1;simpa using this
  refine wpAny_pyNext_enum_itemD (drT (show X.A.in1.handled=none from I.ok.hd hc) nai) he #[hit,p] hlt hne (λz=>by rcases NY.mp z with z|z;exact hne z;exact nae (NN.mp z)) λu' h1 tk hpu heo hst1 ht1 hz1 hk1=>#[_,rfl,wpAny_letOwnedTupleGo_enum heo λh2 he2 hs2=>?_];obtain rfl:u=u':=by
   have z:its.toArray[i]?=some u:=(by simpa using hu);exact Oh (z.symm.trans hpu)
  obtain⟨IJ,_⟩:=hst1;replace hs2:Heap.SameBut e h1 h2:=hs2;have hel:e<s.heap.objs.size:=NT he;have k2:∀ b o,b≠e→b≠it→s.heap.get? b=some o→h2.get? b=some o:=λb o z1 z2 q=>(hs2.2 b z1).trans (hk1 b o z1 z2 q);have ht2:h2.get? s.heap.objs.size=some {cls:=.type "tuple",data:=.seq (List.toArray [.int i tk,u])}:=(hs2.2 _ (OX hel)).trans ht1;have IK:h2.IsTupleIter it a (i+1):=IJ.extBut hs2.extBut (Oj hne);have nt:∀ b o,s.heap.get? b=some o→b≠s.heap.objs.size:=λb o q=>Oe (NT q);have nh:∀ b v,H b=some v→b≠s.heap.objs.size:=λb v q=>aj q fr;have ne':∀ b v,H b=some v→b≠e∧b≠it:=λb v q=>#[aj q (hf e (by simp)).1,aj q (hf it (by simp)).1];refine#[.ref s.heap.objs.size,upd H s.heap.objs.size (.tup [.int (i:Int),x]),?_,rfl,#[_,x,fr,rfl,λys hy=>by rw[I.qY hy hq];exact hx,rfl],#[_,he2,IK],λb hb=>?_]
  ·refine Inv.step (s:=s) (h':=h2) (t':=tk+1) (H:=H) (g':=s.gens) (d':=s.drawn) (ch:=[e,it]) I (λb hb=>#[(hf b hb).2.2.2.1,(hf b hb).2.1,(hf b hb).2.2.2.2.1,(hf b hb).2.2.2.2.2])
    (λb o _ _ z q _=>k2 b o (λy=>z (by simp[y])) (λy=>z (by simp[y])) q) (λb o _ _ z q _=>#[o.slots,k2 b o (λy=>z (by simp[y])) (λy=>z (by simp[y])) q])
    (λb o _ q n=>by rw[ab (nt b o q)];exact n) (λb o z q=>#[o,k2 b o (λy=>z (by simp[y])) (λy=>z (by simp[y])) q])
    (λb xs q=>by rw[ab (nh b _ q)];exact q) (λb o v q=>by rw[ab (nh b _ q)];exact q) (λb ps q=>#[#[],by rw[ab (nh b _ q),q];simp]) (λm hm=>?_) (λb v q=>?_) I.bare
   ·obtain⟨o,es',ep,ho,r⟩:=hm
    exact#[o,es',ep,k2 _ o (Oj (hf e (by simp)).2.1) (Oj (hf it (by simp)).2.1) ho,r]
   ·by_cases z:b=s.heap.objs.size
    ·subst z
     rw[ae]at q;cases q;exact#[by show 2≤sizeLine;decide,[.int i tk,u],.cons #[_,rfl] (.cons ru .nil),_,ht2,rfl,_,rfl]
    ·rw[ab z]at q
     refine(I.hok b v q).oJ (λc o hc w=>?_) (λc w=>by rw[ab (nh c _ w)];exact w) λc xs w=>by rw[ab (nh c _ w)];exact w
     rcases hc with y|y
     ·rw[y]at w ⊢
      exact k2 b o (ne' b v q).1 (ne' b v q).2 w
     ·exact k2 c o (ne' c _ y).1 (ne' c _ y).2 w
  ·have hb':b<s.heap.objs.size:=by
    rcases NY.mp hb with z|z
    ·rw[z];exact hel
    ·rw[NN.mp z]
     obtain⟨o,q,_⟩:=hit;exact NT q
   rw[ab (Oe hb')];exact(hf b hb).1
 done:=by
  intro X hP hw hK hc i pins s σ H E I hf st hg;subst hP hw hK;obtain⟨xs,hq,hx⟩:=hg;obtain⟨its,rv,p,hz⟩:=I.tuple hq;obtain⟨f0,f1,f2,f3,f4,f5⟩:=hf it (by simp);have hl:=rv.length;obtain⟨old,he,hit⟩:=st;have nai:a≠it:=λz=>by
   obtain⟨o,q,q2,_⟩:=hit;obtain⟨o',q',q3,_⟩:=p;rw[z,q]at q';cases q';rw[q2]at q3;injection q3 with q3;exact absurd q3 (by decide)
  have st2:s.heap.IsTupleIter it a its.toArray.size∧s.heap.IsTuple a its.toArray:=#[by rw[show its.toArray.size=i by simp;omega];exact hit,p];exact wpAny_pyNext_enum_endD (drT (show X.A.in1.handled=none from I.ok.hd hc) nai) he st2 λh' eb=>#[rfl,I.turned (t':=s.toks) (λb o hb q=>eb b o hb q) f0 f1 f3 f4 f5]
 self:=λA i s Q E st h=>by
  obtain⟨old,he,hit⟩:=st;exact wpAny_pyIter_enum he h
theorem uy(l:Addr)(items:Array Value)(n:Nat)(dct:Option Addr)(sl:Array (Option Value)) :
  Meets (Builtin.«enumerate.__new__» #[[.type "enumerate",.ref l],[]]) (λ_ R s=>s.heap.get? l=some {cls:=.type "tuple",dict:=dct,data:=.seq items n,slots:=sl} ∧
   R (.ok (.ret (.ref (s.heap.push {cls:=.type "tuple_iterator",data:=.fields (List.toArray [.ref l,.int 0 0])}).objs.size)))
    {s with heap:=(s.heap.push {cls:=.type "tuple_iterator",data:=.fields (List.toArray [.ref l,.int 0 0])}).push {cls:=.type "enumerate",data:=.fields (List.toArray [.none,.bool false,.ref s.heap.objs.size,rawInt 0,.none,.none])}}) :=
 .of_wp λprog w A R s h=>by
  obtain⟨hp,g,d,tk,os⟩:=s;obtain⟨hl,h⟩:=h;have xA:=sub_enumerate;have hL:Heap.IsTuple (Shared.heap #[hp,g,d,tk,os]) l items:=#[_,hl,rfl,n,rfl];wp_walk using wpAny_loadPart' hl
  refine wpAny_stack_any λst=>wpAny_pure ?_;split
  ·rename_i c _ _ _ _ _
   cases (c == Value.type "enumerate")
   ·wp_walk using wpAny_loadPart' hl,wpAny_pyIter_tuple hL
    exact#[_,rfl,h]
   ·wp_walk using wpAny_loadPart' hl,wpAny_pyIter_tuple hL
    exact#[_,rfl,h]
  ·wp_walk using wpAny_loadPart' hl,wpAny_pyIter_tuple hL
   exact#[_,rfl,h]
theorem wH{prog:Program}{w:World}{A:Around}{E:Value→Shared→Prop}{s:Shared}{l:Addr}{items:Array Value}{Q:Value→Shared→Prop}(hL:s.heap.IsTuple l items)
  (h:∀ h',IsEnum h' (s.heap.objs.size+1) s.heap.objs.size 0 .none→h'.IsTupleIter s.heap.objs.size l 0→h'.objs.size=s.heap.objs.size+2 →
   (∀ b o,s.heap.get? b=some o→h'.get? b=some o)→Q (.ref (s.heap.objs.size+1)) {s with heap:=h'}) :
  wpAny (model prog w) A (call (.type "enumerate") [.ref l]) Q E s:=by
 obtain⟨⟨c,dct,dt,sl⟩,hl,hc,n,hd⟩:=hL;replace hc:c=.type "tuple" := hc;replace hd:dt=.seq items n:=hd;subst hc hd;refine callType_new F.called_enumerate (by decide) (F.typeCall_enumerate_1 _) (F.newCall_enumerate_1 _) (λobj=>F.args_object_init_2 obj _) F.entry_enumerate_new
  (uy l items n dct sl) #[hl,?_]
 have hz:(s.heap.push {cls:=.type "tuple_iterator",data:=.fields (List.toArray [.ref l,.int 0 0])}).objs.size=s.heap.objs.size+1:=OI ..;show _∧_;rw[hz];have he:IsEnum ((s.heap.push {cls:=.type "tuple_iterator",data:=.fields (List.toArray [.ref l,.int 0 0])}).push
   {cls:=.type "enumerate",data:=.fields (List.toArray [.none,.bool false,.ref s.heap.objs.size,rawInt 0,.none,.none])}) (s.heap.objs.size+1) s.heap.objs.size 0 .none:=by
  have:=Oc (s.heap.push {cls:=.type "tuple_iterator",data:=.fields (List.toArray [.ref l,.int 0 0])})
   (o:={cls:=.type "enumerate",data:=.fields (List.toArray [.none,.bool false,.ref s.heap.objs.size,rawInt 0,.none,.none])}) rfl
  rw[hz]at this;exact this
 refine#[#[_,he,rfl],h _ he #[_,NL _ (Oc _ rfl),rfl,rfl] (by rw[OI,hz]) λb o x=>NL _ (NL _ x)]
section
variable{X:Cx}{es:List Expr}{x1:Nat}{tp:Pos}
noncomputable def FZ(K:W.Frag)(ta:TA):TI:=λσ H R=>ta σ H λvs H1=>∃ a,vs=[.ref a]∧(∃ xs,SqT K H1 a xs)∧R (ItE K a) H1
theorem Bl{a:Expr}{ta:TA}{p pos:Pos}(hg:Gl X "enumerate")(hm:X.mg "enumerate" = none)(ha:PA X [a] ta)(hs:starEach [a] X.env=[(false,eval a X.env)]:=by rfl):PI X (.Tuple es x1 tp) (.Call (.Name "enumerate" p) [a] [] pos) (FZ X.K ta):=by
 intro pins s σ H R I h;refine Call_ (nQ I hg hm PyProof.Rows.Boot.«enumerate» (PyProof.Rows.callWith_type1 (thn (ha pos pins s σ H _ I h) λus s1 ⟨vs,H1,I1,r1,q1⟩=>?_) hs rfl));obtain⟨l,e,⟨xs,hq⟩,q⟩:=q1;subst e;cases r1 with
 | cons r rr =>
  cases rr;cases r;obtain⟨its,rv,pl,hz⟩:=I1.tuple hq;refine wH pl λh' he hit hsz hk=>?_;refine wpAny_pyIter_enum he ?_;refine#[s1.heap.objs.size+1,[s1.heap.objs.size+1,s1.heap.objs.size],_,_,H1,rfl,I1.kept (t':=s1.toks) hk,wG l s1.heap.objs.size (s1.heap.objs.size+1) (Nat.succ_ne_self _),#[_,he,hit],λb hb=>?_,q];have hb':s1.heap.objs.size≤b:=by
   rcases NY.mp hb with z|z
   ·rw[z];exact OW _
   ·rw[NN.mp z]
    exact NO _
  exact I1.xj hb' (I1.hok.fresh hb')
end
theorem zJ{K:W.Frag}{a:Addr}{xs:List V}{g:TG}{tb:TS}{D:Ends}{σ:St}{H:Hp}(Pv:Nat→St→Hp→Prop)(h0:Pv 0 σ H)(hl:∀ i σ H,i≤xs.length→Pv i σ H→SqT K H a xs)
  (hs:∀ i x σ H t,xs[i]?=some x→Pv i σ H→H t=none→g (.ref t) σ (upd H t (.tup [.int (i:Int),x])) λσ2 H2=>tb {D with nx:=Pv (i+1),ct:=Pv (i+1),bk:=D.nx} σ2 H2) (hd:∀ σ H,Pv xs.length σ H→D.nx σ H) :
  ∃ W:Nat→Nat→St→Hp→Prop,(∃ m,W 0 m σ H)∧∀ i m σ H,W i m σ H →
   ((ItE K a).stop i H∧D.nx σ H)∨((ItE K a).go i H∧∃ N:St→Hp→Prop,(∀ σ' H',N σ' H'→∃ m',m'<m∧W (i+1) m' σ' H')∧∀ x H',(ItE K a).yld i H x H'→g x σ H' λσ2 H2=>tb {D with nx:=N,ct:=N,bk:=D.nx} σ2 H2):=by
 refine#[λi m σ H=>m=xs.length-i∧i≤xs.length∧Pv i σ H,#[xs.length,by simp,Oy _,h0],?_];rintro i m σ H ⟨rfl,hi,p⟩;by_cases hlt:i<xs.length
 ·refine .inr #[#[xs,xs[i],hl i σ H hi p,NJ hlt],Pv (i+1),λσ' H' p'=>#[xs.length-(i+1),by omega,rfl,hlt,p'],λx H' y=>?_]
  obtain⟨t,v,e1,e2,e3,e4⟩:=y;subst e2 e4;exact hs i v σ H t (e3 xs (hl i σ H hi p)) p e1
 ·have e:i=xs.length:=by omega
  subst e;exact .inl #[#[xs,hl _ σ H hi p,rfl],hd σ H p]
section
variable{X:Cx}
noncomputable def JV(K:W.Frag):List V→Hp→VK→Prop:=λvs H Q=>∃ p xs,vs=[.ref p]∧SqT K H p xs∧Q (.ref p) H
theorem zK:eM X (.type "tuple") (JV X.K):=by
 rintro pins s σ H xs us Q I r ⟨p,ys,rfl,hp,q⟩;obtain⟨u,rfl,ru⟩:=r.one;cases (show u=Value.ref p from ru);obtain⟨its,rv,pl,hz⟩:=I.tuple hp;exact call_tuple_tup pl #[.ref p,H,I,rfl,q]
end
end L2
end
section
namespace K27
open PySem L2 LX
section
variable{P:Program}{w:World}{K:W.Frag}{mg:Str→Option Value}{base:Heap}
theorem K1(q:Rw):atI q.its 0=some (.str q.wd):=by cases q<;>rfl
noncomputable def plV:Option Nat→V
 | none=>.non
 | some p=>.int (p:Int)
noncomputable def nxP(n p:Nat):Option Nat:=if p<n then some p else none
noncomputable def Pm(H:Hp)(t:Addr)(qs:List Rw):Prop:=∃ as:List Addr,H t=some (.tup (as.map V.ref))∧as.length=qs.length∧∀(i:Nat) (a:Addr) (q:Rw),as[i]?=some a→qs[i]?=some q→H a=some (.tup q.its)
theorem Pm.keep{H H':Hp}{t:Addr}{qs:List Rw}(h:Pm H t qs)(k:a8 H H'):Pm H' t qs:=let ⟨as,h1,h2,h3⟩:=h;#[as,k _ _ h1,h2,λi a q e1 e2=>k _ _ (h3 i a q e1 e2)]
noncomputable def mkS(kvs:List (Key×V))(i:Nat):Rw→List (Key×V)
 | .mark m=>putK kvs (Sum.inr m) (.int (i:Int))
 | _=>kvs
noncomputable def mkL(qs:List Rw):List (Key×V):=qs.zipIdx.foldl (λk p=>mkS k p.2 p.1) []
theorem qg{qs:List Rw}{i:Nat}{q:Rw}(h:qs[i]?=some q):mkL (qs.take (i+1))=mkS (mkL (qs.take i)) i q:=by
 have hi:=(NK.mp h).1;have e:(List.take i qs).length=i:=by rw[Oq];omega
 unfold mkL;rw[take_snoc h,List.zipIdx_append,List.foldl_append,e,Nat.zero_add];rfl
theorem Bm{kvs:List (Key×V)}{k:Key}{v:V}:(putK kvs k v).length≤kvs.length+1:=by
 cases e:bU kvs k with
 | none=>rw[iV v e,NX];exact NO _
 | some u=>unfold putK;rw[eT,e];rw[if_pos (show(some u).isSome=true from rfl),NI];omega
theorem xZ(qs:List Rw):∀ i,(mkL (qs.take i)).length≤i
 | 0=>NO _
 | i+1=>by
  have ih:=xZ qs i;cases h:qs[i]? with
  | none =>
   have:=List.getElem?_eq_none_iff.mp h
   rw[NZ (by omega),←NZ this];omega
  | some q =>
   rw[qg h];cases q with
   | mark m=>exact NW Bm (by omega)
   | _=>exact Nat.le_succ_of_le ih
theorem x8{qs:List Rw}{m:Str}:∀ i,(∃ j,j<i∧qs[j]?=some (.mark m))→∃ p,p<qs.length∧bU (mkL (qs.take i)) (Sum.inr m)=some (.int (p:Int))
 | 0,h=>by obtain⟨j,h,_⟩:=h;omega
 | i+1,⟨j,hj,e⟩=>by
  have ih:=x8 (qs:=qs) (m:=m) i;cases h:qs[i]? with
  | none =>
   have z:=List.getElem?_eq_none_iff.mp h
   have:=(NK.mp e).1
   rw[show qs.take (i+1)=qs.take i by rw[NZ (show qs.length≤i+1 by omega),NZ z]];exact ih #[j,by omega,e]
  | some q =>
   have hi:=(NK.mp h).1;rw[qg h];have old:(∃ j,j<i∧qs[j]?=some (.mark m))∨q=.mark m:=by
    by_cases c:j<i
    ·exact .inl #[j,c,e]
    ·have:j=i:=by omega
     subst this;rw[h]at e;exact .inr (Oh e)
   cases q with
   | mark m' =>
    show ∃ p,p<qs.length∧bU (putK _ (Sum.inr m') _) _=_;rw[Ah];by_cases c:m=m'
    ·rw[if_pos (by rw[c])]
     exact#[i,hi,rfl]
    ·rw[if_neg λz=>c (Sum.inr.inj z)]
     exact ih (old.resolve_right λz=>c (by cases z;rfl))
   | _=>exact ih (old.resolve_right λz=>nomatch z)
noncomputable def rY(qs:List Rw)(m:Str):Option Nat:=match bU (mkL qs) (Sum.inr m) with|some (.int p)=>some p.toNat|_=>none
theorem EJ{qs:List Rw}{m:Str}(h:∃ j:Nat,qs[j]?=some (.mark m)):∃ p,p<qs.length∧bU (mkL qs) (Sum.inr m)=some (.int (p:Int))∧rY qs m=some p:=by
 obtain⟨j,h⟩:=h;obtain⟨p,h1,h2⟩:=x8 (qs:=qs) (m:=m) qs.length #[j,(NK.mp h).1,h];rw[O3]at h2;exact#[p,h1,h2,by unfold rY;rw[h2];rfl]
noncomputable def F5:Sp:=λvs H Q E=>∃ x A s,∃ h:Int,vs=[.ref x,.int h]∧IH H x A s∧Gd s∧Sm h∧(match sR s h with|some d=>∀ a H',au H H'→H' a=some (.tup d.its)→Q (.ref a) H'|none=>Bad 65 H E)
noncomputable def JW(K:W.Frag):Sp:=λvs H Q _=>∃(t:Addr) (xs:List V) (p:Nat),vs=[.ref t,.int (p:Int)]∧SqT K H t xs∧Q (plV (nxP xs.length p)) H
noncomputable def JX:Sp:=λvs H Q _=>∃(t:Addr) (qs:List Rw),vs=[.ref t]∧Pm H t qs∧qs.length≤300∧∀ d H',au H H'→H d=none→H' d=some (.dK (mkL qs))→Q (.ref d) H'
noncomputable abbrev Bn:List Str:=["hall", "h", "kind"]
theorem rZ:ao Bn ["hall", "h"] (ag uL):=fsc
theorem zM(T:Txt w K mg):Ok P w K mg base 11 400 ["hall", "h"] (F5):=by
 refine T.o2 "spoken" rZ λcdv A' outer s' H vs Q E hr h=>?_;obtain⟨x,A,s,h,rfl,J,Gs,hs,k⟩:=h;refine#[_,(ak (aY (i:=2) rZ.nd rfl (Or.inl rfl) ((cO T).m T.af hr (pv 0) px (aa (pv 1) ah)))
  (ak (a6 (aH dB (pv 2) aw (aN _))
   (ai (aB (bY (aa aw (aa ((aZ T).m T.af hr (pv 0) px (aa (pv 1) ah)) ah)))))
   aK)
  (ak (a6 (aH dB (pv 2) aw (aN _))
   (ai (aB (bY (aa aw (aa ((iY T).m T.af hr (pv 0) px (aa (pv 1) ah)) ah)))))
   aK)
  (ai (aB (bY (aa aw ah))))))),?_]
 have G:=Gs.g;refine#[_,rfl,x,_,_,rfl,J.ax,(by kernel_rfl),_,rfl,x,A,s,h,rfl,J,G,hs,?_];cases e:wat s.aG h with
 | none=>simp only[sR,e]at k;exact k
 | some wd =>
  intro H1 s1;have J1:=J.same s1;cases wd with
  | num z =>
   simp only[sR,e]at k;refine#[_,rfl,rfl,_,rfl,lA (by kernel_rfl) #[_,rfl,x,_,_,rfl,J1.ax,(by kernel_rfl),_,rfl,x,A,s,h,rfl,J1,G,hs,?_]];rw[e];exact λH2 s2=>#[by show 2≤sizeLine;decide,λa ha=>k a _ ((s1.trans s2).trans (au.upd ha)) ae]
  | th t =>
   simp only[sR,e]at k;refine#[_,rfl,rfl,_,rfl,gA (by kernel_rfl) #[_,rfl,rfl,_,rfl,lA (by kernel_rfl) #[_,rfl,x,_,_,rfl,J1.ax,(by kernel_rfl),_,rfl,x,A,s,h,rfl,J1,G,hs,?_]]];rw[e];exact λH2 s2=>#[by show 2≤sizeLine;decide,λa ha=>k a _ ((s1.trans s2).trans (au.upd ha)) ae]
  | no =>
   simp only[sR,e]at k;exact#[_,rfl,rfl,_,rfl,gA (by kernel_rfl) #[_,rfl,rfl,_,rfl,gA (by kernel_rfl) #[by show 1≤sizeLine;decide,λa ha=>k a _ (s1.trans (au.upd ha)) ae]]]
noncomputable abbrev oA:List Str:=["rows", "place"]
theorem nJ:ao oA ["rows", "place"] (ag iD):=fsc
theorem hR(T:Txt w K mg):Ok P w K mg base 1 393 ["rows", "place"] (JW K):=by
 refine T.o2 "place_within" nJ λcdv A' outer s' H vs Q E hr h=>?_;obtain⟨t,xs,p,rfl,ht,k⟩:=h;refine#[_,(PSs.nox (ai (aB (eS (aH oQ (pv 1) (aX aT rfl T.z PyProof.Rows.Boot.«len» (aa (pv 0) ah)) (aN _)) (pv 1) bu)))),?_];refine#[_,rfl,_,rfl,t,xs,rfl,.inr ht,_,_,rfl,rfl,_,rfl,?_];unfold nxP at k;by_cases c:p<xs.length
 ·rw[if_pos c]at k
  exact lA (by simpa using c) #[_,rfl,k]
 ·rw[if_neg c]at k
  exact gA (by simpa using c) k
noncomputable abbrev qR:List Str:=["program", "places", "at", "row"]
theorem cS:ao qR ["program"] (ag jk):=fsc
theorem oB(T:Txt w K mg):Ok P w K mg base 1 386 ["program"] (JX):=by
 refine T.o1 "mark_places" cS λcdv A' outer s' H vs Q E hr h=>?_;obtain⟨t,qs,rfl,hp,few,k⟩:=h;have hu:=cY hr;refine#[_,(PSs.nox (ak (aY (i:=1) cS.nd rfl (Or.inl rfl) cA)
  (ak (eu OA rfl (Bl rfl T.z (aa (pv 0) ah)) (qi rfl (cz (bc (i:=2) cS.nd rfl (Or.inl rfl)) (cz (bc (i:=3) cS.nd rfl (Or.inl rfl)) lE)))
   (ai (a6 (aH dB (aP aL (pv 3) aq (λ_ _=>rfl)) aw (aN _))
    (ai (eN hu (pv 1) (aP aL (pv 3) aq (λ_ _=>rfl)) (pv 2) rfl))
    aK)))
  (ai (aB (pv 1)))))),?_]
 refine λd hd=>?_;have s0:=au.upd (o:=.dK ([]:List (Key×V))) hd;obtain⟨as,h1,h2,h3⟩:=id hp;refine#[_,rfl,t,rfl,#[_,SqT.of (s0 _ _ h1)],zJ (K:=K) (a:=t) (xs:=as.map V.ref) (λi σ H2=>∃ v2 v3,σ=[some (.ref t),some (.ref d),v2,v3]∧au H H2∧H2 d=some (.dK (mkL (qs.take i)))) #[none,none,rfl,s0,ae] (λi σ H2 _ ⟨_,_,_,s2,_⟩=>SqT.of (s2 _ _ h1)) ?_ ?_]
 ·rintro i y σ H2 tp hi ⟨v2,v3,rfl,s2,hd2⟩ htp
  rw[N0]at hi;obtain⟨a,ha,rfl⟩:=Ol.mp hi;have hlt:i<qs.length:=by rw[←h2];exact(NK.mp ha).1
  obtain⟨q,hq⟩:∃ q,qs[i]?=some q:=#[_,NJ hlt];have s3:=au.upd (o:=.tup [.int (i:Int),.ref a]) htp;have za:=s3 _ _ (s2 _ _ (h3 i a q ha hq));have zd:=s3 _ _ hd2;refine#[tp,_,rfl,SqT.of ae,rfl,_,_,rfl,_,_,rfl,rfl,?_];have no:mkL (qs.take (i+1))=mkL (qs.take i)→∃ v2 v3,[some (V.ref t),some (.ref d),some (.int (i:Int)),some (.ref a)]=[some (V.ref t),some (.ref d),v2,v3]∧au H (upd H2 tp (.tup [.int (i:Int),.ref a]))∧upd H2 tp (.tup [.int (i:Int),.ref a]) d=some (.dK (mkL (qs.take (i+1)))):=λe=>#[_,_,rfl,s2.trans s3,by rw[e];exact zd];refine#[_,rfl,a,_,0,.str q.wd,rfl,rfl,SqT.of za,K1 q,rfl,_,rfl,?_];rw[qg hq]at no ⊢;cases q with
  | mark m =>
   refine lA (by kernel_rfl) #[_,rfl,_,rfl,_,rfl,a,_,1,.str m,rfl,rfl,SqT.of za,rfl,d,_,rfl,pd.k (k:=Sum.inr m) zd (Ow (NW (xZ qs i) (by omega:i≤300)) (by decide)),_,_,rfl,λb u g=>?_,ae];rw[ab (aj g hd)];exact s3 _ _ (s2 _ _ g)
  | _=>exact gA (by kernel_rfl) (no rfl)
 ·rintro σ H2 ⟨v2,v3,rfl,s2,hd2⟩
  rw[NI,h2,O3]at hd2;exact#[_,rfl,k d H2 s2 hd hd2]
end
section
variable{P:Program}{w:World}{K:W.Frag}{mg:Str→Option Value}{base:Heap}
structure RA where
 dx:Addr
 t:Addr
 md:Addr
 sl:Addr
structure RS where
 pl:Option Nat
 aV:List Sd
 flt:Option Er
 dn:Nat
noncomputable def qS:Er→Str
 | .hand => "BadHand"
 | .name => "BadName"
 | .field => "BadField"
 | .count => "BadCount"
 | .room => "NoRoom"
 | .words => "TooManyWords"
 | .on => "RoundOn"
 | .no => "NoRound"
noncomputable def fnV:Option Er→V
 | none=>.non
 | some e=>.str (qS e)
noncomputable def rnF(B:RA)(x:Addr)(st:RS):List (Str×V):=[("rows",.ref B.t),("hall",.ref x),("marks",.ref B.md),("place",plV st.pl),("said_rows",.ref B.sl),("fault_name",fnV st.flt),("rows_done",.int (st.dn:Int))]
noncomputable def Sds(H:Hp)(sl:Addr)(ds:List Sd):Prop:=∃ us:List V,H sl=some (.lst us)∧us.length=ds.length∧∀(i:Nat) (u:V) (d:Sd),us[i]?=some u→ds[i]?=some d→∃ a,u=.ref a∧H a=some (.tup d.its)
theorem Sds.keep{H H':Hp}{sl:Addr}{ds:List Sd}(h:Sds H sl ds)(k:a8 H H')(e:∀ us,H sl=some (.lst us)→H' sl=some (.lst us)):Sds H' sl ds:=let ⟨us,h1,h2,h3⟩:=h;#[us,e _ h1,h2,λi u d e1 e2=>let ⟨a,z1,z2⟩:=h3 i u d e1 e2;#[a,z1,k _ _ z2]]
structure Rn(H:Hp)(rn:Addr)(B:RA)(x:Addr)(F:Addr→Prop)(qs:List Rw)(st:RS):Prop where
 o:H rn=some (.ins 368 B.dx (rnF B x st))
 p:Pm H B.t qs
 m:H B.md=some (.dK (mkL qs))
 s:Sds H B.sl st.aV
 n1:¬F rn
 n2:¬F B.md
 n3:¬F B.sl
noncomputable def FR(F:Addr→Prop)(rn sl:Addr)(b:Addr):Prop:=F b∨b=rn∨b=sl
section
variable{H H':Hp}{rn x:Addr}{B:RA}{F F':Addr→Prop}{qs:List Rw}{st:RS}
theorem Rn.fr(r:Rn H rn B x F qs st)(f:Fr F H F' H'):Rn H' rn B x F' qs st :=
 #[(f.out r.n1 r.o).1,r.p.keep f.tup,(f.out r.n2 r.m).1,r.s.keep f.tup (λus h=>(f.out r.n3 h).1),(f.out r.n1 r.o).2,(f.out r.n2 r.m).2,let ⟨us,h,_⟩:=r.s;(f.out r.n3 h).2]
theorem Rn.same(r:Rn H rn B x F qs st)(s:au H H'):Rn H' rn B x F qs st:=r.fr (Fr.same s)
theorem Fr.wide(f:Fr F H F' H'){rn sl:Addr}:Fr (FR F rn sl) H (FR F' rn sl) H':=#[λb u n q=>f.ext b u (λz=>n (.inl z)) q,λb z=>z.elim (λz=>(f.grow b z).imp .inl id) λz=>.inl (.inr z),f.all,f.tup]
theorem Fr.K2{b:Addr}{u o:HO}(f:F b)(hb:H b=some u)(n:∀ xs,u≠.tup xs):Fr F H F (upd H b o):=#[λc v nf q=>by rw[ab λe=>nf (by rw[e];exact f)];exact q,λc z=>.inl z,λc v q=>by
  by_cases e:c=b
  ·exact#[o,by rw[e];exact ae]
  ·exact#[v,by rw[ab e];exact q],a8.set hb n]
theorem Rn.sln(r:Rn H rn B x F qs st):B.sl≠rn∧B.md≠rn∧B.md≠B.sl:=by
 obtain⟨us,h,_⟩:=r.s;exact#[av h r.o (by intro z;cases z),av r.m r.o (by intro z;cases z),av r.m h (by intro z;cases z)]
theorem Rn.put(r:Rn H rn B x F qs st){fs:List (Str×V)}{st':RS}(e:fs=rnF B x st')(es:st'.aV=st.aV):Rn (upd H rn (.ins 368 B.dx fs)) rn B x F qs st'∧Fr (FR F rn B.sl) H (FR F rn B.sl) (upd H rn (.ins 368 B.dx fs)):=by
 have f:Fr (FR F rn B.sl) H (FR F rn B.sl) (upd H rn (.ins 368 B.dx fs)):=Fr.K2 (.inr (.inl rfl)) r.o (λ_ z=>nomatch z);obtain⟨z1,z2,z3⟩:=r.sln;refine#[#[by rw[ae,e],r.p.keep f.tup,by rw[ab z2];exact r.m,?_,r.n1,r.n2,r.n3],f];rw[es];exact r.s.keep f.tup λus h=>by rw[ab z1];exact h
theorem Rn.ih{H:Hp}{rn x:Addr}{A:HA}{s:HS}(J:IH H x A s){b:Addr}(n:¬aO x A s b){u o:HO}(hb:H b=some u)(t:∀ xs,u≠.tup xs):IH (upd H b o) x A s:=J.keep (λc v f q=>by rw[ab λe=>n (by rw[←e];exact f)];exact q) (a8.set hb t)
end
noncomputable def pbR(qs:List Rw)(p:Nat)(s:HS)(sd:List Sd):Rw→Option Er×HS×List Sd×Option Nat
 | .stop=>(none,s,sd,none)
 | .say h=>(match sR s h with|none=>(some .hand,s,sd,none)|some d=>(none,s,sd++[d],nxP qs.length (p+1)))
 | q=>if q.cl=1 then(match jR s q with|none=>(some .hand,s,sd,none)|some b=>(none,s,sd,if b=true then rY qs q.mk else nxP qs.length (p+1))) else((dR s q).1,(dR s q).2,sd,nxP qs.length (p+1))
noncomputable def Nc(x:Addr)(A:HA)(s:HS)(rn:Addr)(B:RA)(qs:List Rw)(st:RS)(H:Hp)(r:Option Er×HS×List Sd×Option Nat)(Q:VK)(E:XK):Prop:=∀ A' H',IH H' x A' r.2.1→Rn H' rn B x (aO x A' r.2.1) qs {st with aV:=r.2.2.1}→Fr (FR (aO x A s) rn B.sl) H (FR (aO x A' r.2.1) rn B.sl) H'→(match r.1 with|none=>Q (plV r.2.2.2) H'|some e=>E (.ref (erA e)) none H')
noncomputable def EL:Sp:=λvs H Q E=>∃ x A s rn B qs st q a,∃ p:Nat,vs=[.ref rn,.ref a]∧IH H x A s∧Gd s∧s.nxt<9000∧Nm s∧Rn H rn B x (aO x A s) qs st∧st.pl=some p∧H a=some (.tup q.its)∧q.ok∧qs.length≤300∧(∀ m∈R.M5,∃ j:Nat,qs[j]?=some (.mark m))∧st.aV.length≤3000∧Nc x A s rn B qs st H (pbR qs p s st.aV q) Q E
noncomputable def jF:Rw→Option Addr
 | .go _=>some 307|.same _ _ _=>some 286|.below _ _ _=>some 293|.iy _ _=>some 300|_=>none
noncomputable def dF:Rw→Option Addr
 | .make _ _=>some 195|.load _ _ _=>some 202|.store _ _ _=>some 209|.copy _ _=>some 216|.drop _=>some 223|.number _ _=>some 230|.name _ _=>some 237|.read _ _=>some 244|.word _ _=>some 251|.take _=>some 258|.held _=>some 265|.add _ _=>some 272|.less _ _=>some 279|_=>none
structure Nd(K:W.Frag)(P:Params)(mg:Str→Option Value):Prop where
 j:∃ a,mg "JUMPS" = some (.ref a)∧tO K P a∧∀ q:Rw,PySem.W.nsIn K a q.wd=some ((jF q).map Value.ref)
 d:∃ a,mg "DEEDS" = some (.ref a)∧tO K P a∧∀ q:Rw,PySem.W.nsIn K a q.wd=some ((dF q).map Value.ref)
 f:∃ a,mg "FORMS" = some (.ref a)∧R.zW K P a R.TB
 g3:∃ t,mg "FIGURES" = some (.str R.FIG t)
 g4:∃ t,mg "LETTERS" = some (.str R.LET t)
namespace R
noncomputable def EM(v:Value)(k:Kd):Bool:=match v with
 | .str z _=>decide (z=kdT k)
 | _=>false
noncomputable def pO:List Value→List Kd→Bool
 | [],[]=>true
 | v::vs,k::ks=>EM v k&&pO vs ks
 | _,_=>false
noncomputable def CV(K:W.Frag)(fa:Addr)(ks:List Kd):Bool:=match K.lookup fa with
 | some ⟨.type s,_,.seq its _,_⟩=>decide (s = "tuple")&&pO its.toList ks&&decide (its.size≤1000)
 | _=>false
noncomputable def EN(K:W.Frag)(aF:Addr)(p:Str×List Kd):Bool:=match PySem.W.nsIn K aF p.1 with
 | some (some (.ref fa))=>CV K fa p.2
 | _=>false
noncomputable def tabIn(K:W.Frag)(aF:Addr)(tb:List (Str×List Kd)):Bool:=tb.all (EN K aF)
theorem vm:∀ {vs:List Value} {ks:List Kd},pO vs ks=true→Vals (ks.map λk=>V.str (kdT k)) vs
 | [],[],_=>.nil
 | [],_::_,h=>absurd h NQ
 | _::_,[],h=>absurd h NQ
 | v::vs,k::ks,h=>by
  unfold pO at h;rw[OS]at h;refine .cons ?_ (vm h.2);have h1:=h.1;unfold EM at h1;split at h1
  ·exact#[_,by rw[←of_decide_eq_true h1]]
  ·cases h1
theorem F6{K:W.Frag}{fa:Addr}{ks:List Kd}(h:CV K fa ks=true)(H:Hp):SqT K H fa (ks.map λk=>V.str (kdT k)):=by
 unfold CV at h;split at h
 ·rename_i s d its n sl e
  rw[OS,OS]at h;obtain⟨⟨h1,h2⟩,h3⟩:=h;exact .inr #[_,its,n,e,congrArg Value.type (of_decide_eq_true h1),rfl,NW (of_decide_eq_true h3) (by decide),vm h2]
 ·cases h
theorem Bo{K:W.Frag}{P:Params}{aF:Addr}{es:Array DictEntry}{n:Nat}{tb:List (Str×List Kd)}(h1:K.lookup aF=some #[.type "dict",none,.dict es n,#[]])(h2:PySem.W.KeysLit P es.toList)(h3:(aF == sysModules)=false)(h4:tabIn K aF tb=true):zW K P aF tb:=by
 refine#[#[#[es,n,h1,h2],h3],λp hp=>?_];have h5:=O1.mp h4 p hp;unfold EN at h5;split at h5
 ·rename_i fa e
  exact#[fa,e,F6 h5]
 ·cases h5
end R
theorem kl{P:Params}:∀ l:List (Str×Tok×Value),PySem.W.KeysLit P (List.toArray (l.map λe=>(#[PyData.keyHash P e.1,.str e.1 e.2.1,e.2.2]:DictEntry))).toList
 | []=>trivial
 | e::r=>#[#[_,_,rfl,rfl],kl r]
theorem Txt.tabs{w:World}{K:W.Frag}{mg:Str→Option Value}(T:Txt w K mg):Nd K w.params mg:=by
 obtain rfl:=T.e;have l (a:Addr) (l:List (Str×Tok×Value)) (n:Nat) (h:∀ P,(hK P).lookup a=some (oD l n P)) (o:(a == sysModules)=false):tO (hK w.params) w.params a:=#[#[_,_,h _,kl l],o];exact#[#[309,T.m,l _ Eu 4 (λP=>by kernel_rfl) rfl,λq=>by cases q<;>kernel_rfl],#[308,T.m,l _ Et 13 (λP=>by kernel_rfl) rfl,λq=>by cases q<;>kernel_rfl],#[1003,T.m,R.Bo (n:=20) (by show _=some (oD wN 20 w.params);kernel_rfl) (kl wN) rfl (by kernel_rfl)],#[1428,T.m],#[1430,T.m]]
theorem D4(q:Rw):decide (V.str q.wd=V.str "stop")=decide (q.cl=0):=by cases q<;>kernel_rfl
theorem F7(q:Rw):decide (V.str q.wd=V.str "say")=decide (q.cl=3):=by cases q<;>kernel_rfl
theorem JY(q:Rw):((jF q).map Value.ref).isSome=decide (q.cl=1):=by cases q<;>rfl
theorem JZ(q:Rw):((dF q).map Value.ref).isSome=decide (q.cl=2):=by cases q<;>rfl
theorem F8{q:Rw}(h:q.cl=1):atI q.its (-1)=some (.str q.mk):=by cases q<;>first|rfl|cases h
theorem nU{qs:List Rw}{p:Nat}{s:HS}{sd:List Sd}{q:Rw}(h:q.cl=1):pbR qs p s sd q=(match jR s q with|none=>(some .hand,s,sd,none)|some b=>(none,s,sd,if b=true then rY qs q.mk else nxP qs.length (p+1))):=by cases q<;>first|rfl|cases h
theorem k7{qs:List Rw}{p:Nat}{s:HS}{sd:List Sd}{q:Rw}(h:q.cl=2∨q.cl=4):pbR qs p s sd q=((dR s q).1,(dR s q).2,sd,nxP qs.length (p+1)):=by cases q<;>first|rfl|(rcases h with h|h<;>cases h)
theorem F9(T:Txt w K mg){q:Rw}(h:q.cl=1):∃ f p,jF q=some f∧Ok P w K mg base 11 f ["hall", "row"] (qQ p)∧PySem.W.keepIn K (.ref f)=true∧p q:=by
 cases q with
 | go m=>exact#[_,_,rfl,(zH T),T.kp,#[_,rfl]]
 | same h g m=>exact#[_,_,rfl,(wC T),T.kp,#[_,_,_,rfl]]
 | below h g m=>exact#[_,_,rfl,(uv T),T.kp,#[_,_,_,rfl]]
 | iy h m=>exact#[_,_,rfl,(ux T),T.kp,#[_,_,rfl]]
 | _=>cases h
theorem Ga(T:Txt w K mg){q:Rw}(h:q.cl=2):∃ f p,dF q=some f∧Ok P w K mg base 11 f ["hall", "row"] (dw p)∧PySem.W.keepIn K (.ref f)=true∧p q:=by
 cases q with
 | make h n=>exact#[_,_,rfl,(vV T),T.kp,#[_,_,rfl]]
 | load h g k1=>exact#[_,_,rfl,(vX T),T.kp,#[_,_,_,rfl]]
 | store g k1 h=>exact#[_,_,rfl,(ur T),T.kp,#[_,_,_,rfl]]
 | copy h g=>exact#[_,_,rfl,(wa T),T.kp,#[_,_,rfl]]
 | drop h=>exact#[_,_,rfl,(we T),T.kp,#[_,rfl]]
 | number h z=>exact#[_,_,rfl,(sP T),T.kp,#[_,_,rfl]]
 | name w1 h=>exact#[_,_,rfl,(wj T),T.kp,#[_,_,rfl]]
 | read h w1=>exact#[_,_,rfl,(wo T),T.kp,#[_,_,rfl]]
 | word h g=>exact#[_,_,rfl,(wu T),T.kp,#[_,_,rfl]]
 | take h=>exact#[_,_,rfl,(wA T),T.kp,#[_,rfl]]
 | held h=>exact#[_,_,rfl,(wy T),T.kp,#[_,rfl]]
 | add h g=>exact#[_,_,rfl,(zD T),T.kp,#[_,_,rfl]]
 | less h g=>exact#[_,_,rfl,(wz T),T.kp,#[_,_,rfl]]
 | _=>cases h
end
section
variable{P:Program}{w:World}{K:W.Frag}{mg:Str→Option Value}{base:Heap}
noncomputable abbrev gG:List Str:=["self", "row", "word"]
theorem cy:ao gG ["self", "row"] (ag cF):=fsc
theorem fS(T:Txt w K mg):Ok P w K mg base 12 365 ["self", "row"] (EL):=by
 refine T.o2 "Running.place_behind" cy λcdv A' outer s' H vs Q E hr h=>?_;obtain⟨x,A,s,rn,B,qs,st,q,a,p,rfl,J,Gs,few,n,R,ep,ha,ok,lq,mks,lsd,k⟩:=h;have hu:=cY hr;obtain⟨aJ,gJ,kJ,tJ⟩:=T.tabs.j;obtain⟨aD,gD,kD,tD⟩:=T.tabs.d;refine#[_,(ak (aY (i:=2) cy.nd rfl (Or.inl rfl) (aP aL (pv 1) aq (λ_ _=>rfl)))
  (ak (a6 (aH dB (pv 2) aw (aN _))
   (ai (aB bu))
   aK)
  (ak (a6 (PW.pt (pw_and (aH wW (pv 2) (ba (v:=.ref aJ) rfl gJ rfl) (by with_unfolding_all rfl)) (pw_and1 (jg (BY (k:=11) (CX:=CXE P w) (pA (ba (v:=.ref aJ) rfl gJ rfl) (pv 2) (λ_ _=>rfl)) hr px (aa (az (pv 0) rfl) (aa (pv 1) ah)))))))
   (ai (aB (gk hu (az (pv 0) rfl) (aP aL (pv 1) (Ei Bt aq) (λ_ _=>rfl)) (λ_ _=>rfl))))
   aK)
  (ak (a6 (aH wW (pv 2) (ba (v:=.ref aD) rfl gD rfl) (by with_unfolding_all rfl))
   (ai (aC (BY (k:=11) (CX:=CXE P w) (pA (ba (v:=.ref aD) rfl gD rfl) (pv 2) (λ_ _=>rfl)) hr px (aa (az (pv 0) rfl) (aa (pv 1) ah)))))
   aK)
  (ak (a6 (aH dB (pv 2) aw (aN _))
   (ai (aC (m8 PySem.F.plainAttrs_list PySem.F.slot_list_append PySem.F.type_list_append ja (az (pv 0) rfl) (aa ((zM T).c hr px (aa (az (pv 0) rfl) (aa (aP aL (pv 1) aq (λ_ _=>rfl)) ah))) ah))))
   aK)
  (ai (aB ((hR T).c hr px (aa (az (pv 0) rfl) (aa (cb nR (az (pv 0) rfl) aq) ah)))))))))),?_]
 refine#[_,rfl,a,_,0,.str q.wd,rfl,rfl,SqT.of ha,K1 q,?_];simp only[gw];refine a9 λN1 h1=>?_;refine#[_,rfl,rfl,_,rfl,?_];rw[D4];by_cases c0:q.cl=0
 ·rw[decide_eq_true c0]
  have eq:q=.stop:=by cases q<;>first|rfl|cases c0
  subst eq;exact cZ (k A H J R (Fr.same λ_ _ q=>q))
 rw[decide_eq_false c0];refine b7 (h1 _ _ ?_);refine a9 λN2 h2=>?_;have tail:∀ H1,au H H1→(q.cl=1→jR s q=some false)→N2 [some (V.ref rn),some (.ref a),some (.str q.wd)] H1:=by
  intro H1 s1 hj;refine h2 _ _ ?_;refine a9 λN3 h3=>?_;have J1:=J.same s1;have R1:=R.same s1;have go:∀ A' H' s',IH H' x A' s'→Rn H' rn B x (aO x A' s') qs st→Fr (FR (aO x A s) rn B.sl) H (FR (aO x A' s') rn B.sl) H'→(q.cl≠3→pbR qs p s st.aV q=(none,s',st.aV,nxP qs.length (p+1)))→(q.cl=3→s'=s)→N3 [some (V.ref rn),some (.ref a),some (.str q.wd)] H':=by
   intro A' H' s' J' R' fr' hn hs;refine h3 _ _ ?_;refine a9 λN4 h4=>?_;have ret:∀ H2 sd2,IH H2 x A' s'→Rn H2 rn B x (aO x A' s') qs {st with aV:=sd2}→Fr (FR (aO x A s) rn B.sl) H (FR (aO x A' s') rn B.sl) H2→pbR qs p s st.aV q=(none,s',sd2,nxP qs.length (p+1))→N4 [some (V.ref rn),some (.ref a),some (.str q.wd)] H2:=by
    intro H2 sd2 J2 R2 fr2 e;refine h4 _ _ ?_;rw[e]at k;obtain⟨as,z1,z2,_⟩:=R2.p;refine#[_,rfl,rn,368,B.dx,_,.ref B.t,rfl,R2.o,T.ay,T.n,(by kernel_rfl),_,rfl,rn,368,B.dx,_,plV st.pl,rfl,R2.o,T.ay,T.n,(by kernel_rfl),(p:Int),1,by rw[ep];rfl,rfl,B.t,_,p+1,rfl,SqT.of z1,?_];rw[NI,z2];exact k A' H2 J2 R2 fr2
   refine#[_,rfl,rfl,_,rfl,?_];rw[F7];by_cases c3:q.cl=3
   ·rw[decide_eq_true c3]
    obtain⟨h,rfl⟩:∃ h,q=.say h:=(by cases q<;>first|exact#[_,rfl]|cases c3);obtain rfl:=hs rfl;have ha':=fr'.tup _ _ ha;obtain⟨us0,y0,_⟩:=id R'.s;refine cZ #[_,rfl,rn,368,B.dx,_,.ref B.sl,rfl,R'.o,T.ay,T.n,(by kernel_rfl),.inl #[rfl,_,SqL.of y0],_,rfl,rn,368,B.dx,_,.ref x,rfl,R'.o,T.ay,T.n,(by kernel_rfl),_,rfl,a,_,1,.int h,rfl,rfl,SqT.of ha',rfl,x,A',s',h,rfl,J',Gs,ok.sm,?_];cases e:sR s' h with
    | none =>
     have ek:pbR qs p s' st.aV (.say h)=(some .hand,s',st.aV,none):=by show(match sR s' h with|none=>_|some d=>_)=_;rw[e]
     rw[ek]at k;exact λH2 s2=>k A' H2 (J'.same s2) (R'.same s2) (fr'.trans (Fr.same s2))
    | some d =>
     have ek:pbR qs p s' st.aV (.say h)=(none,s',st.aV++[d],nxP qs.length (p+1)):=by show(match sR s' h with|none=>_|some d=>_)=_;rw[e]
     intro b H2 s2 hb;have R2:=R'.same s2;have J2:=J'.same s2;obtain⟨us,y1,y2,y3⟩:=R2.s;refine#[B.sl,us,.ref b,rfl,rfl,y1,by rw[y2];exact Ow lsd (by decide),?_];have f5:Fr (FR (aO x A' s') rn B.sl) H2 (FR (aO x A' s') rn B.sl) (upd H2 B.sl (.lst (us++[.ref b]))):=Fr.K2 (.inr (.inr rfl)) y1 (λ_ z=>nomatch z);obtain⟨w1,w2,w3⟩:=R2.sln;refine ret _ _ (Rn.ih (rn:=rn) J2 R2.n3 y1 (λ_ z=>nomatch z)) #[by rw[ab w1.symm];exact R2.o,R2.p.keep f5.tup,by rw[ab w3];exact R2.m,#[_,ae,by rw[NX,NX,y2];rfl,λi u dd e1 e2=>?_],R2.n1,R2.n2,R2.n3] ((fr'.trans (Fr.same s2)).trans f5) ek;rcases Pe i us.length with ci|ci
     ·rw[OC ci]at e1
      rw[OC (by omega)]at e2;obtain⟨b1,g1,g2⟩:=y3 i u dd e1 e2;exact#[b1,g1,f5.tup _ _ g2]
     ·rw[Ox ci]at e1
      rw[Ox (by omega),←y2]at e2;have i0:i-us.length=0:=by
       have:=(NK.mp e1).1
       rw[OV]at this;omega
      rw[i0]at e1 e2;cases e1;cases e2;exact#[b,rfl,f5.tup _ _ hb]
   ·rw[decide_eq_false c3]
    exact b7 (ret H' st.aV J' R' fr' (hn c3))
  refine#[_,rfl,aD,q.wd,_,rfl,rfl,kD,tD q,_,rfl,?_];rw[JZ];by_cases c2:q.cl=2
  ·rw[decide_eq_true c2]
   obtain⟨fa,pq,e1,G1,kf,pp⟩:=Ga (P:=P) (w:=w) (base:=base) T c2;have tq:=tD q;rw[e1]at tq;rw[k7 (.inl c2)]at k;refine cZ #[_,rfl,aD,q.wd,.ref fa,.ref fa,rfl,rfl,kD,tq,rfl,fa,_,_,_,rfl,G1.g,G1.b,kf,_,rfl,rn,368,B.dx,_,.ref x,rfl,R1.o,T.ay,T.n,(by kernel_rfl),_,rfl,x,A,s,q,a,rfl,J1,Gs,few,n,pp,ok,s1 _ _ ha,λA' H' J' fr=>?_];have R':=R1.fr fr;have fr2:=(Fr.same (F:=FR (aO x A s) rn B.sl) s1).trans (Fr.wide fr (rn:=rn) (sl:=B.sl));have kk:=k A' H' J' R' fr2;cases ee:(dR s q).1 with
   | none =>
    rw[ee]at kk;exact go A' H' _ J' R' fr2 (λ_=>by rw[k7 (.inl c2),ee]) (λz=>by omega)
   | some er =>
    rw[ee]at kk;exact kk
  ·rw[decide_eq_false c2]
   refine b7 (go A H1 s J1 R1 (Fr.same s1) (λc3=>?_) (λ_=>rfl));by_cases c1:q.cl=1
   ·rw[nU c1,hj c1]
    rfl
   ·have c4:q.cl=4:=by cases q<;>first|rfl|exact absurd rfl c0|exact absurd rfl c1|exact absurd rfl c2|exact absurd rfl c3
    rw[k7 (.inr c4)];cases q<;>first|rfl|cases c4
 refine#[_,rfl,aJ,q.wd,_,rfl,rfl,kJ,tJ q,_,rfl,?_];rw[JY];by_cases c1:q.cl=1
 ·rw[decide_eq_true c1]
  obtain⟨fa,pq,e1,G1,kf,pp⟩:=F9 (P:=P) (w:=w) (base:=base) T c1;have tq:=tJ q;rw[e1]at tq;refine cZ #[_,rfl,aJ,q.wd,.ref fa,.ref fa,rfl,rfl,kJ,tq,rfl,fa,_,_,_,rfl,G1.g,G1.b,kf,_,rfl,rn,368,B.dx,_,.ref x,rfl,R.o,T.ay,T.n,(by kernel_rfl),_,rfl,x,A,s,q,a,rfl,J,Gs,pp,ok,ha,?_];cases ej:jR s q with
  | none =>
   rw[nU c1,ej]at k;exact λH1 s1=>k A H1 (J.same s1) (R.same s1) (Fr.same s1)
  | some bb =>
   intro H1 s1;refine#[bb,rfl,?_];cases bb with
   | false=>exact b7 (tail H1 s1 λ_=>ej)
   | true =>
    have R1:=R.same s1;rw[nU c1,ej]at k;obtain⟨pm,hp1,hv,hm⟩:=EJ (mks _ (Rw.mk5 ok));have kk:Q (plV (rY qs q.mk)) H1:=k A H1 (J.same s1) R1 (Fr.same s1);rw[hm]at kk;exact cZ #[_,rfl,rn,368,B.dx,_,.ref B.md,rfl,R1.o,T.ay,T.n,(by kernel_rfl),_,rfl,1,rfl,a,_,-1,.str q.mk,rfl,rfl,SqT.of (s1 _ _ ha),F8 c1,B.md,_,rfl,.inl #[_,Sum.inr q.mk,.inl R1.m,rfl,hv.symm],kk]
 ·rw[decide_eq_false c1]
  exact b7 (tail H (λ_ _ q=>q) λz=>absurd z c1)
end
section
variable{P:Program}{w:World}{K:W.Frag}{mg:Str→Option Value}{base:Heap}
noncomputable def rs0(qs:List Rw):RS:=#[nxP qs.length 0,[],none,0]
noncomputable def Bp:Sp:=λvs H Q _=>∃ rn dx t x qs,vs=[.ref rn,.ref t,.ref x]∧H rn=some (.ins 368 dx [])∧Pm H t qs∧qs.length≤300∧∀ md sl H',But rn H H'→H md=none→H sl=none→H' rn=some (.ins 368 dx (rnF #[dx,t,md,sl] x (rs0 qs)))→H' md=some (.dK (mkL qs))→H' sl=some (.lst [])→a8 H H'→Q .non H'
noncomputable def bJ(qs:List Rw)(s:HS)(st:RS):HS×RS:=match st.pl with
 | none=>(s,st)
 | some p=>(match qs[p]? with
  | none=>(s,st)
  | some q=>((pbR qs p s st.aV q).2.1,(match (pbR qs p s st.aV q).1 with|none=>#[(pbR qs p s st.aV q).2.2.2,(pbR qs p s st.aV q).2.2.1,st.flt,st.dn+1]|some e=>#[none,(pbR qs p s st.aV q).2.2.1,some e,st.dn+1])))
structure Ru(qs:List Rw)(s:HS)(st:RS)(k:Nat):Prop where
 g:Gd s
 few:s.nxt≤(k:Int)
 n:Nm s
 pl:∀ p,st.pl=some p→p<qs.length
 sd:st.aV.length≤k
structure Qk(qs:List Rw):Prop where
 ok:∀ q∈qs,q.ok
 l:qs.length≤300
 mks:∀ m∈R.M5,∃ j:Nat,qs[j]?=some (.mark m)
noncomputable def D5:Sp:=λvs H Q _=>∃ x A s rn B qs st k,vs=[.ref rn]∧IH H x A s∧Rn H rn B x (aO x A s) qs st∧Ru qs s st k∧Qk qs∧k≤3000∧∀ A' H',IH H' x A' (bJ qs s st).1→Rn H' rn B x (aO x A' (bJ qs s st).1) qs (bJ qs s st).2→Fr (FR (aO x A s) rn B.sl) H (FR (aO x A' (bJ qs s st).1) rn B.sl) H'→Q (.bl (bJ qs s st).2.pl.isSome) H'
theorem tV{n p q:Nat}(h:nxP n p=some q):q<n:=by
 unfold nxP at h;split at h
 ·cases h;assumption
 ·cases h
theorem D6{qs:List Rw}{m:Str}{q:Nat}(h:∃ j:Nat,qs[j]?=some (.mark m))(e:rY qs m=some q):q<qs.length:=by
 obtain⟨p,h1,_,h3⟩:=EJ h;rw[h3]at e;cases e;exact h1
theorem J0{qs:List Rw}{s:HS}{p:Nat}{sd:List Sd}{q:Rw}{k:Nat}(d:Gd s)(few:s.nxt<9000)(n:Nm s)(K:Qk qs)(ok:q.ok):(Gd (pbR qs p s sd q).2.1∧(pbR qs p s sd q).2.1.nxt≤s.nxt+1)∧Nm (pbR qs p s sd q).2.1∧(∀ r,(pbR qs p s sd q).2.2.2=some r→r<qs.length)∧(pbR qs p s sd q).2.2.1.length≤sd.length+1:=by
 have same:(Gd s∧s.nxt≤s.nxt+1)∧Nm s:=#[#[d,by omega],n];by_cases c1:q.cl=1
 ·rw[nU c1]
  split
  ·exact#[same.1,n,(λr h=>nomatch h),OW _]
  ·rename_i b _
   refine#[same.1,n,λr h=>?_,OW _];dsimp only at h;split at h
   ·exact D6 (K.mks _ (Rw.mk5 ok)) h
   ·exact tV h
 ·by_cases c2:q.cl=2∨q.cl=4
  ·rw[k7 c2]
   have g:=FY d (by omega) q;exact#[#[g.1,g.2.2],n.row q,(λr h=>tV h),OW _]
  ·cases q with
   | stop=>exact#[same.1,n,(λr h=>nomatch h),OW _]
   | say h =>
    show(Gd (match sR s h with|none=>((some Er.hand,s,sd,none):Option Er×HS×List Sd×Option Nat)|some d=>(none,s,sd++[d],nxP qs.length (p+1))).2.1∧(match sR s h with|none=>((some Er.hand,s,sd,none):Option Er×HS×List Sd×Option Nat)|some d=>(none,s,sd++[d],nxP qs.length (p+1))).2.1.nxt≤_)∧Nm (match sR s h with|none=>((some Er.hand,s,sd,none):Option Er×HS×List Sd×Option Nat)|some d=>(none,s,sd++[d],nxP qs.length (p+1))).2.1∧(∀ r,(match sR s h with|none=>((some Er.hand,s,sd,none):Option Er×HS×List Sd×Option Nat)|some d=>(none,s,sd++[d],nxP qs.length (p+1))).2.2.2=some r→_)∧(match sR s h with|none=>((some Er.hand,s,sd,none):Option Er×HS×List Sd×Option Nat)|some d=>(none,s,sd++[d],nxP qs.length (p+1))).2.2.1.length≤_
    cases sR s h with
    | none=>exact#[same.1,n,(λr h=>nomatch h),OW _]
    | some dd=>exact#[same.1,n,(λr h=>tV h),by rw[NX];exact NO _]
   | _=>first|exact absurd rfl c1|exact absurd (.inl rfl) c2|exact absurd (.inr rfl) c2
theorem Ru.step{qs:List Rw}{s:HS}{st:RS}{k:Nat}(r:Ru qs s st k)(K:Qk qs)(hk:k<9000):Ru qs (bJ qs s st).1 (bJ qs s st).2 (k+1):=by
 have up:Ru qs s st (k+1):=#[r.g,by have:=r.few;omega,r.n,r.pl,by have:=r.sd;omega];unfold bJ;cases ep:st.pl with
 | none=>exact up
 | some p =>
  dsimp only;cases eq:qs[p]? with
  | none=>exact up
  | some q =>
   obtain⟨⟨g1,g2⟩,g3,g4,g5⟩:=J0 (p:=p) (sd:=st.aV) (q:=q) (k:=k) r.g (by have:=r.few;omega) r.n K (K.ok q (Of eq));dsimp only;have fw:=r.few;have sw:=r.sd;cases (pbR qs p s st.aV q).1 with
   | none=>exact#[g1,by omega,g3,g4,by show(pbR qs p s st.aV q).2.2.1.length≤_;omega]
   | some e=>exact#[g1,by omega,g3,(λp h=>nomatch h),by show(pbR qs p s st.aV q).2.2.1.length≤_;omega]
theorem J8{s:HS}{q:Rw}{e:Er}(h:(dR s q).1=some e):e≠.on∧e≠.no:=by
 cases q<;>simp only[dR,bZ,cn,bN,fG,eP,aU,dr,cD,cB,d2]at h<;>(repeat' split at h)<;>first|(cases h;exact#[(λz=>nomatch z),(λz=>nomatch z)])|cases h
theorem Ka{qs:List Rw}{p:Nat}{s:HS}{sd:List Sd}{q:Rw}{e:Er}(h:(pbR qs p s sd q).1=some e):e≠.on∧e≠.no:=by
 have ha:∀ {e:Er},some Er.hand=some e→e≠.on∧e≠.no:=λz=>by cases z;exact#[(λz=>nomatch z),(λz=>nomatch z)]
 by_cases c1:q.cl=1
 ·rw[nU c1]at h
  split at h
  ·exact ha h
  ·cases h
 ·by_cases c2:q.cl=2∨q.cl=4
  ·rw[k7 c2]at h
   exact J8 h
  ·cases q with
   | stop=>cases h
   | say h' =>
    replace h:(match sR s h' with|none=>((some Er.hand,s,sd,none):Option Er×HS×List Sd×Option Nat)|some d=>(none,s,sd++[d],nxP qs.length (p+1))).1=some e:=h
    split at h
    ·exact ha h
    ·cases h
   | _=>first|exact absurd rfl c1|exact absurd (.inl rfl) c2|exact absurd (.inr rfl) c2
end
section
variable{P:Program}{w:World}{K:W.Frag}{mg:Str→Option Value}{base:Heap}
noncomputable abbrev jO:List Str:=["self", "program", "hall"]
theorem i8:ao jO ["self", "program", "hall"] (ag dQ):=fsc
theorem dJ(T:Txt w K mg):Ok P w K mg base 2 323 ["self", "program", "hall"] (Bp):=by
 refine T.o3 "Running.__init__" i8 λcdv A' outer s' H vs Q E hr h=>?_;obtain⟨rn,dx,t,x,qs,rfl,h0,hp,few,k⟩:=h;refine#[_,(PSs.nox (ak (bo (pv 0) (cj zK rfl T.z PyProof.Rows.Boot.«tuple» (aa (pv 1) ah)) rfl)
  (ak (bo (pv 0) (pv 2) rfl)
  (ak (bo (pv 0) ((oB T).c hr b4 (aa (pv 1) ah)) rfl)
  (ak (bo (pv 0) ((hR T).c hr b4 (aa (az (pv 0) rfl) (aa aq ah))) rfl)
  (ak (bo (pv 0) (cC ah) rfl)
  (ak (bo (pv 0) bu rfl)
  (ai (bo (pv 0) aq rfl))))))))),?_]
 obtain⟨as,z1,z2,_⟩:=id hp;refine a9 λN1 h1=>?_;refine#[_,rfl,t,_,rfl,SqT.of z1,_,rfl,rn,368,dx,_,rfl,h0,T.ay,T.n,(by show 0<1000;decide),?_];refine h1 _ _ ?_;refine a9 λN2 h2=>?_;have go:∀ H2,But rn H H2→a8 H H2→H2 rn=some (.ins 368 dx [("rows",.ref t),("hall",.ref x)])→N2 [some (V.ref rn),some (.ref t),some (.ref x)] H2:=by
  intro H2 b2 k2 y2;refine h2 _ _ ?_;have p2:=hp.keep k2;refine#[_,rfl,t,qs,rfl,p2,few,λmd H3 s3 hmd zmd=>#[_,rfl,rn,368,dx,_,rfl,(s3 _ _ y2),T.ay,T.n,(by show 2<1000;decide),?_]];have md0:H md=none:=by
   cases e:H md with
   | none=>rfl
   | some u =>
    by_cases c:md=rn
    ·rw[c,y2]at hmd;cases hmd
    ·rw[b2 md u c e]at hmd;cases hmd
  have nmr:md≠rn:=λz=>by rw[z,y2]at hmd;cases hmd
  have t3:H3 t=some (.tup (as.map V.ref)):=s3 _ _ (k2 _ _ z1);have ntr:t≠rn:=av t3 (s3 _ _ y2) (by intro z;cases z);refine#[_,rfl,rn,368,dx,_,.ref t,rfl,ae,T.ay,T.n,(by kernel_rfl),t,_,0,rfl,SqT.of (by rw[ab ntr];exact t3),_,rfl,rn,368,dx,_,rfl,ae,T.ay,T.n,(by show 3<1000;decide),?_];rw[NI,z2];refine#[by show 0≤sizeLine;decide,λsl hsl=>#[_,rfl,rn,368,dx,_,rfl,(by rw[ab (λe=>by rw[←e,ae]at hsl;cases hsl)];exact ae),T.ay,T.n,(by show 4<1000;decide),_,rfl,rn,368,dx,_,rfl,ae,T.ay,T.n,(by show 5<1000;decide),_,rfl,rn,368,dx,_,rfl,ae,T.ay,T.n,(by show 6<1000;decide),?_]];have nsr:sl≠rn:=λe=>by rw[e,ae]at hsl;cases hsl
  have hs3:H3 sl=none:=by rw[ab nsr,ab nsr]at hsl;exact hsl
  have sl0:H sl=none:=by
   cases e:H sl with
   | none=>rfl
   | some u=>rw[s3 _ _ (b2 sl u nsr e)]at hs3;cases hs3
  have nsm:md≠sl:=λe=>by rw[e,hs3]at zmd;cases zmd
  refine k md sl _ (λb u nb q=>?_) md0 sl0 (by rw[ae];kernel_rfl) ?_ ?_ (λb xs q=>?_)
  ·rw[ab nb,ab nb,ab nb,ab (aj q sl0),ab nb,ab nb]
   exact s3 _ _ (b2 b u nb q)
  ·rw[ab nmr,ab nmr,ab nmr,ab nsm,ab nmr,ab nmr]
   exact zmd
  ·rw[ab nsr,ab nsr,ab nsr]
   exact ae
  ·have nb:b≠rn:=av q h0 (by intro z;cases z)
   rw[ab nb,ab nb,ab nb,ab (aj q sl0),ab nb,ab nb];exact s3 _ _ (b2 b _ nb q)
 refine#[_,rfl,_,rfl,rn,368,dx,_,rfl,ae,T.ay,T.n,(by show 1<1000;decide),?_];exact go _ (But.self.trans But.self) ((a8.set h0 (λ_ z=>nomatch z)).trans (a8.set ae (λ_ z=>nomatch z))) (by rw[ae];kernel_rfl)
noncomputable def zN:Sp:=λvs H Q _=>∃ rn B x F qs st,vs=[.ref rn]∧Rn H rn B x F qs st∧Q (fnV st.flt) H
noncomputable abbrev nK:List Str:=["self"]
theorem mB:ao nK ["self"] (ag gX):=fsc
theorem mE(T:Txt w K mg):Ok P w K mg base 1 351 ["self"] (zN):=by
 refine T.o1 "Running.fault" mB λcdv A' outer s' H vs Q E hr h=>?_;obtain⟨rn,B,x,F,qs,st,rfl,R,k⟩:=h;refine#[_,(PSs.nox (ai (aB (az (pv 0) rfl)))),?_];exact#[_,rfl,rn,368,B.dx,_,fnV st.flt,rfl,R.o,T.ay,T.n,(by kernel_rfl),k]
noncomputable def zO:Sp:=λvs H Q _=>∃ rn B x F qs st,vs=[.ref rn]∧Rn H rn B x F qs st∧Q (.int (st.dn:Int)) H
noncomputable abbrev nL:List Str:=["self"]
theorem mF:ao nL ["self"] (ag gY):=fsc
theorem gv(T:Txt w K mg):Ok P w K mg base 1 358 ["self"] (zO):=by
 refine T.o1 "Running.steps" mF λcdv A' outer s' H vs Q E hr h=>?_;obtain⟨rn,B,x,F,qs,st,rfl,R,k⟩:=h;refine#[_,(PSs.nox (ai (aB (az (pv 0) rfl)))),?_];exact#[_,rfl,rn,368,B.dx,_,.int (st.dn:Int),rfl,R.o,T.ay,T.n,(by kernel_rfl),k]
noncomputable def Bq:Sp:=λvs H Q _=>∃ rn B x F qs st,vs=[.ref rn]∧Rn H rn B x F qs st∧∀ l H',au H H'→H l=none→Sds H' l st.aV→Q (.ref l) H'
noncomputable abbrev oE:List Str:=["self"]
theorem nM:ao oE ["self"] (ag iC):=fsc
theorem nN(T:Txt w K mg):Ok P w K mg base 1 344 ["self"] (Bq):=by
 refine T.o1 "Running.told" nM λcdv A' outer s' H vs Q E hr h=>?_;obtain⟨rn,B,x,F,qs,st,rfl,R,k⟩:=h;refine#[_,(PSs.nox (ai (aB (cj gQ rfl T.z PyProof.Rows.Boot.«list» (aa (az (pv 0) rfl) ah))))),?_];obtain⟨us,y1,y2,y3⟩:=R.s;refine#[_,rfl,rn,368,B.dx,_,.ref B.sl,rfl,R.o,T.ay,T.n,(by kernel_rfl),B.sl,us,rfl,.inl (SqL.of y1),λl hl=>?_];have s1:=au.upd (o:=.lst us) hl;exact k l _ s1 hl #[us,ae,y2,λi u d e1 e2=>let ⟨a,g1,g2⟩:=y3 i u d e1 e2;#[a,g1,s1 _ _ g2]]
end
section
variable{P:Program}{w:World}{K:W.Frag}{mg:Str→Option Value}{base:Heap}
theorem D7(T:Txt w K mg){e:Er}(h:e≠.on∧e≠.no):(∃ cd,cG K (erA e) cd∧cd.mro.contains (.ref 45)=true)∧II K (erA e)∧BH P w K mg base (CXE P w) 1 "called" (erA e) (dG (qS e)):=by
 cases e with
 | hand=>exact#[(T.sub 65),(T.ec 65).get,#[_,_,_,(T.me (c:=65)),(fq T).g,(fq (P:=P) (base:=base) T).b]]
 | name=>exact#[(T.sub 84),(T.ec 84).get,#[_,_,_,(T.me (c:=84)),(ft T).g,(ft (P:=P) (base:=base) T).b]]
 | field=>exact#[(T.sub 103),(T.ec 103).get,#[_,_,_,(T.me (c:=103)),(dX T).g,(dX (P:=P) (base:=base) T).b]]
 | count=>exact#[(T.sub 122),(T.ec 122).get,#[_,_,_,(T.me (c:=122)),(dW T).g,(dW (P:=P) (base:=base) T).b]]
 | room=>exact#[(T.sub 141),(T.ec 141).get,#[_,_,_,(T.me (c:=141)),(gp T).g,(gp (P:=P) (base:=base) T).b]]
 | words=>exact#[(T.sub 160),(T.ec 160).get,#[_,_,_,(T.me (c:=160)),(cJ T).g,(cJ (P:=P) (base:=base) T).b]]
 | on=>exact absurd rfl h.1
 | no=>exact absurd rfl h.2
noncomputable abbrev oH:List Str:=["self", "e"]
theorem hU:ao oH ["self"] (ag iB):=fsc
theorem nO(T:Txt w K mg):Ok P w K mg base 13 330 ["self"] (D5):=by
 refine T.o1 "Running.step" hU λcdv A' outer s' H vs Q E hr h=>?_;obtain⟨x,A,s,rn,B,qs,st,kk,rfl,J,R,U,Z,hk,k⟩:=h;obtain⟨cdH,xH⟩:=(T.h 45);refine#[_,(ak (a6 (aH qm (az (pv 0) rfl) bu (aN _))
   (ai (aB k9))
   aK)
  (ak (yw (pv 0) aq E5)
  (ak (Fp (i:=1) rfl rfl rfl rfl T.m xH hU.nd rfl rfl (λpins E' EK hp=>ai (show PS _ _ (En K (uA 0) (vC 368 "place_behind" (EL) [] EK (uA 0) (gW (tOp (Gy K) (Em K (uA 0) "rows") (Em K (uA 0) "place")) uE)) "place") from bo (pv 0) ((fS T).m T.ay hr (pv 0) hp (aa (aP (r:=Gy K) aL (az (pv 0) rfl) (az (pv 0) rfl) (λ_ _=>rfl)) ah)) rfl)) (λea=>ak (show PS _ _ (En K (uA 0) (sZ P w K mg base (CXE P w) 1 "called" (λ_ _ _ _=>False) (uA 1)) "fault_name") from bo (pv 0) (show PE _ _ (sZ P w K mg base (CXE P w) 1 "called" (λ_ _ _ _=>False) (uA 1)) from yV (k:=1) (CX:=CXE P w) (pv 1) #[(hr.r0 (show 1≤12 by decide)).dp,(hr.r0 (show 1≤12 by decide)).un] qX) rfl) (ai (show PS _ _ (En K (uA 0) (tC .non) "place") from bo (pv 0) bu rfl))))
  (ai (aB (cc lF (az (pv 0) rfl) bu (aN _))))))),?_]
 refine a9 λN1 h1=>?_;cases ep:st.pl with
 | none =>
  have es:bJ qs s st=(s,st):=by unfold bJ;rw[ep]
  rw[es,ep]at k;refine#[_,rfl,rn,368,B.dx,_,plV st.pl,rfl,R.o,T.ay,T.n,(by kernel_rfl),rfl,_,rfl,lA (by rw[ep];rfl) ?_];exact k A H J R (Fr.same λ_ _ q=>q)
 | some p =>
  obtain⟨q,eq⟩:∃ q,qs[p]?=some q:=#[_,NJ (U.pl p ep)];have ok:=Z.ok q (Of eq);refine#[_,rfl,rn,368,B.dx,_,plV st.pl,rfl,R.o,T.ay,T.n,(by kernel_rfl),rfl,_,rfl,gA (by rw[ep];rfl) (h1 _ _ ?_)];have w1:=R.put (fs:=b8 "rows_done" (.int ((st.dn:Int)+1)) (rnF B x st)) (st':={st with dn:=st.dn+1}) (by kernel_rfl) rfl;refine a9 λN2 h2=>?_;refine#[_,rfl,rn,368,B.dx,_,.int (st.dn:Int),rfl,R.o,T.ay,T.n,(by kernel_rfl),_,1,rfl,rfl,_,_,R.o,(by show 7<1000;decide),h2 _ _ ?_];obtain⟨R1,f1⟩:=w1;obtain⟨H1,e1⟩:∃ H1,upd H rn (.ins 368 B.dx (b8 "rows_done" (.int ((st.dn:Int)+1)) (rnF B x st)))=H1:=#[_,rfl];rw[e1]at R1 f1;show uC _ _ _ _ (upd H rn (.ins 368 B.dx (b8 "rows_done" (.int ((st.dn:Int)+1)) (rnF B x st))));have J1:IH H1 x A s:=by rw[←e1];exact Rn.ih (rn:=rn) J R.n1 R.o (λ_ z=>nomatch z)
  rw[e1];clear e1;refine a9 λN3 h3=>?_;obtain⟨as,z1,z2,z3⟩:=id R1.p;have hl:p<as.length:=by rw[z2];exact U.pl p ep
  have ha:=z3 p as[p] q (NJ hl) eq;have es:bJ qs s st=((pbR qs p s st.aV q).2.1,(match (pbR qs p s st.aV q).1 with|none=>#[(pbR qs p s st.aV q).2.2.2,(pbR qs p s st.aV q).2.2.1,st.flt,st.dn+1]|some e=>#[none,(pbR qs p s st.aV q).2.2.1,some e,st.dn+1])):=by unfold bJ;simp only[ep,eq]<;>(cases (pbR qs p s st.aV q).1<;>rfl)
  rw[es]at k;have fin:∀ A' H' st',(match (pbR qs p s st.aV q).1 with|none=>(#[(pbR qs p s st.aV q).2.2.2,(pbR qs p s st.aV q).2.2.1,st.flt,st.dn+1]:RS)|some e=>#[none,(pbR qs p s st.aV q).2.2.1,some e,st.dn+1])=st'→IH H' x A' (pbR qs p s st.aV q).2.1→Rn H' rn B x (aO x A' (pbR qs p s st.aV q).2.1) qs st'→Fr (FR (aO x A s) rn B.sl) H (FR (aO x A' (pbR qs p s st.aV q).2.1) rn B.sl) H'→N3 [some (V.ref rn),none] H':=by
   intro A' H' st' e J' R' fr';refine h3 _ _ ?_;rw[e]at k;have kk:=k A' H' J' R' fr';refine#[_,rfl,rn,368,B.dx,_,plV st'.pl,rfl,R'.o,T.ay,T.n,(by kernel_rfl),rfl,?_];cases epl:st'.pl with
   | none=>rw[epl]at kk;exact kk
   | some r=>rw[epl]at kk;exact kk
  refine#[_,rfl,rn,B.dx,_,rfl,R1.o,(by kernel_rfl),_,rfl,rn,368,B.dx,_,.ref B.t,rfl,R1.o,T.ay,T.n,(by kernel_rfl),_,rfl,rn,368,B.dx,_,plV st.pl,rfl,R1.o,T.ay,T.n,(by kernel_rfl),B.t,_,(p:Int),.ref as[p],rfl,by rw[ep];rfl,SqT.of z1,cE (by rw[N0,NJ hl];rfl),x,A,s,rn,B,qs,_,q,as[p],p,rfl,J1,U.g,(by have:=U.few;omega),U.n,R1,ep,ha,ok,Z.l,Z.mks,(by show st.aV.length≤3000;have:=U.sd;omega),?_];intro A' H' J' R' fr';cases er:(pbR qs p s st.aV q).1 with
  | none =>
   refine#[_,rfl,rn,368,B.dx,_,rfl,R'.o,T.ay,T.n,(by show 7<1000;decide),?_];have w2:=R'.put (fs:=b8 "place" (plV (pbR qs p s st.aV q).2.2.2) (rnF B x {st with dn:=st.dn+1,aV:=(pbR qs p s st.aV q).2.2.1})) (st':=#[(pbR qs p s st.aV q).2.2.2,(pbR qs p s st.aV q).2.2.1,st.flt,st.dn+1]) (by kernel_rfl) rfl;exact fin A' _ _ (by rw[er]) (Rn.ih (rn:=rn) J' R'.n1 R'.o (λ_ z=>nomatch z)) w2.1 ((f1.trans fr').trans w2.2)
  | some e =>
   obtain⟨⟨cd,xc,hm⟩,gt,md⟩:=D7 (P:=P) (w:=w) (base:=base) T (Ka er);refine#[erA e,cd,rfl,xc,hm,λea hea=>?_];have s1:=au.upd (o:=exo false (erA e) ea none) hea;have R2:=R'.same s1;have J2:=J'.same s1;refine#[.ref ea,rfl,false,ea,erA e,dG (qS e),rfl,ae,gt,md,_,rfl,_,rfl,rn,368,B.dx,_,rfl,R2.o,T.ay,T.n,(by show 7<1000;decide),?_];have w2:=R2.put (fs:=b8 "fault_name" (.str (qS e)) (rnF B x {st with dn:=st.dn+1,aV:=(pbR qs p s st.aV q).2.2.1})) (st':={st with dn:=st.dn+1,aV:=(pbR qs p s st.aV q).2.2.1,flt:=some e}) (by kernel_rfl) rfl;have J3:=Rn.ih (rn:=rn) J2 R2.n1 R2.o (λ_ z=>nomatch z) (o:=.ins 368 B.dx (b8 "fault_name" (.str (qS e)) (rnF B x {st with dn:=st.dn+1,aV:=(pbR qs p s st.aV q).2.2.1})));refine#[_,rfl,rn,368,B.dx,_,rfl,w2.1.o,T.ay,T.n,(by show 7<1000;decide),?_];have w3:=w2.1.put (fs:=b8 "place" .non (rnF B x {st with dn:=st.dn+1,aV:=(pbR qs p s st.aV q).2.2.1,flt:=some e})) (st':=#[none,(pbR qs p s st.aV q).2.2.1,some e,st.dn+1]) (by kernel_rfl) rfl;exact fin A' _ _ (by rw[er]) (Rn.ih (rn:=rn) J3 w2.1.n1 w2.1.o (λ_ z=>nomatch z)) w3.1 ((((f1.trans fr').trans (Fr.same s1)).trans w2.2).trans w3.2)
end
section
variable{P:Program}{w:World}{K:W.Frag}{mg:Str→Option Value}{base:Heap}
noncomputable def goR(qs:List Rw):Nat→HS×RS→HS×RS
 | 0,z=>z
 | k+1,z=>match z.2.pl with|none=>z|some _=>goR qs k (bJ qs z.1 z.2)
theorem i9{qs:List Rw}{k:Nat}{z:HS×RS}(h:z.2.pl=none):goR qs k z=z:=by
 cases k with
 | zero=>rfl
 | succ k=>show(match z.2.pl with|none=>z|some _=>_)=z;rw[h]
theorem gP{qs:List Rw}{k p:Nat}{z:HS×RS}(h:z.2.pl=some p):goR qs (k+1) z=goR qs k (bJ qs z.1 z.2):=by
 show(match z.2.pl with|none=>z|some _=>_)=_;rw[h]
theorem zP{qs:List Rw}{s:HS}{st:RS}(h:st.pl=none):bJ qs s st=(s,st):=by unfold bJ;rw[h]
theorem D8{qs:List Rw}{s:HS}{st:RS}{p:Nat}(h:st.pl=some p)(hp:p<qs.length):(bJ qs s st).2.dn=st.dn+1:=by
 unfold bJ;rw[h];dsimp only;rw[NJ hp];dsimp only;cases (pbR qs p s st.aV qs[p]).1<;>rfl
structure Wy(H H2:Hp)(x rn:Addr)(A A':HA)(B:RA)(qs:List Rw)(s:HS)(n i:Nat)(s':HS)(st:RS):Prop where
 J:IH H2 x A' s'
 R:Rn H2 rn B x (aO x A' s') qs st
 U:Ru qs s' st i
 d:st.dn=i
 f:Fr (FR (aO x A s) rn B.sl) H (FR (aO x A' s') rn B.sl) H2
 e:goR qs (n-i) (s',st)=goR qs n (s,rs0 qs)
theorem Gb{F F':Addr→Prop}{H H1 H':Hp}{rn sl:Addr}(s:au H H1)(h1:H rn=none)(h2:H sl=none)(f:Fr (FR F rn sl) H1 (FR F' rn sl) H'):Fr F H F' H' where
 ext:=λb u n q=>f.ext b u (λz=>z.elim n λz=>z.elim (λz=>by rw[z,h1]at q;cases q) λz=>by rw[z,h2]at q;cases q) (s _ _ q)
 grow:=λb z=>(f.grow b (.inl z)).elim (λz=>z.elim .inl λz=>.inr (z.elim (λz=>by rw[z];exact h1) λz=>by rw[z];exact h2)) λz=>.inr (au.none s z)
 all:=λb u q=>f.all b u (s _ _ q)
 tup:=(a8.of s).trans f.tup
noncomputable def Ge:Sp:=λvs H Q _=>∃ x A s t qs,∃ n:Nat,vs=[.ref t,.ref x,.int (n:Int)]∧IH H x A s∧Pm H t qs∧Qk qs∧Ru qs s (rs0 qs) 0∧n≤2000∧∀ A' H' l tp,IH H' x A' (goR qs n (s,rs0 qs)).1→Fr (aO x A s) H (aO x A' (goR qs n (s,rs0 qs)).1) H'→H' tp=some (.tup [.ref l,fnV (goR qs n (s,rs0 qs)).2.flt,.int ((goR qs n (s,rs0 qs)).2.dn:Int)])→Sds H' l (goR qs n (s,rs0 qs)).2.aV→¬aO x A' (goR qs n (s,rs0 qs)).1 l→Gd (goR qs n (s,rs0 qs)).1→Q (.ref tp) H'
theorem Gf{H H1 H2:Hp}{rn dx t md sl x:Addr}{A:HA}{s:HS}{qs:List Rw}(J:IH H x A s)(hx:H rn=none)(hdx:H dx=none)(e1:H1=upd (upd H dx (.own rn)) rn (.ins 368 dx []))(b:But rn H1 H2)(hmd:H1 md=none)(hsl:H1 sl=none)(o:H2 rn=some (.ins 368 dx (rnF #[dx,t,md,sl] x (rs0 qs))))(m:H2 md=some (.dK (mkL qs)))(l:H2 sl=some (.lst []))(tu:a8 H1 H2)(p:Pm H t qs):au H H2∧H sl=none∧Rn H2 rn #[dx,t,md,sl] x (aO x A s) qs (rs0 qs):=by
 have s1:au H H1:=by rw[e1];exact λc u q=>by rw[ab (aj q hx),ab (aj q hdx)];exact q
 have s2:au H H2:=λc u q=>b c u (aj q hx) (s1 c u q);have sl0:=au.none s1 hsl;exact#[s2,sl0,o,p.keep (a8.of s2),m,#[[],l,rfl,λi u d e _=>nomatch e],J.fresh hx,J.fresh (au.none s1 hmd),J.fresh sl0]
theorem Wy.next{H H2 H3:Hp}{x rn:Addr}{A A' A3:HA}{B:RA}{qs:List Rw}{s s':HS}{n i:Nat}{st:RS}(w:Wy H H2 x rn A A' B qs s n i s' st)(Z:Qk qs)(hi:i<n)(hn:n≤2000)(J3:IH H3 x A3 (bJ qs s' st).1)(R3:Rn H3 rn B x (aO x A3 (bJ qs s' st).1) qs (bJ qs s' st).2)(f3:Fr (FR (aO x A' s') rn B.sl) H2 (FR (aO x A3 (bJ qs s' st).1) rn B.sl) H3){p:Nat}(hp:st.pl=some p):Wy H H3 x rn A A3 B qs s n (i+1) (bJ qs s' st).1 (bJ qs s' st).2 :=
 #[J3,R3,w.U.step Z (by omega),by rw[D8 hp (w.U.pl p hp),w.d],w.f.trans f3,by rw[←w.e,show n-i=(n-(i+1))+1 by omega,gP (z:=(s',st)) hp]]
noncomputable abbrev zQ:List Str:=["program", "hall", "most", "running"]
theorem pP:ao zQ ["program", "hall", "most"] (ag rH):=fsc
theorem pQ(T:Txt w K mg):Ok P w K mg base 14 379 ["program", "hall", "most"] (Ge):=by
 refine T.o3 "run_all" pP λcdv A' outer s' H vs Q E hr h=>?_;obtain⟨x,A,s,t,qs,n,rfl,J,hp,Z,U,hn,k⟩:=h;refine#[_,(PSs.nox (ak (aY (i:=3) pP.nd rfl (Or.inl rfl) (sS (T.mkk 368) (dJ T).g (hr.mono (by decide)) rfl T.m (dJ (P:=P) (base:=base) T).b .nil wX (aa (pv 0) (aa (pv 1) ah))))
  (ak (uD OA (PW.pt (pw_and (aH oQ ((gv T).m0 T.ay hr (pv 3) b4) (pv 2) (aN _)) (pw_and1 (jg ((nO T).m0 T.ay hr (pv 3) b4)))))
   aK)
  (ai (aB (bY (aa ((nN T).m0 T.ay hr (pv 3) b4) (aa ((mE T).m0 T.ay hr (pv 3) b4) (aa ((gv T).m0 T.ay hr (pv 3) b4) ah))))))))),?_]
 refine#[_,rfl,_,rfl,λrn dx hrn hdx nd=>?_];obtain⟨H1,e1⟩:∃ H1,upd (upd H dx (.own rn)) rn (.ins 368 dx [])=H1:=#[_,rfl];rw[e1];have y1:H1 rn=some (.ins 368 dx []):=by rw[←e1];exact ae
 have s1:au H H1:=by rw[←e1];exact λc u q=>by rw[ab (aj q hrn),ab (aj q hdx)];exact q
 refine#[rn,dx,t,x,qs,rfl,y1,hp.keep (a8.of s1),Z.l,λmd sl H2 b2 hmd hsl o2 m2 l2 t2=>#[rfl,?_]];obtain⟨s2,sl0,R2⟩:=Gf J hrn hdx e1.symm b2 hmd hsl o2 m2 l2 t2 hp;obtain⟨B,eB⟩:∃ B:RA,(⟨dx,t,md,sl⟩:RA)=B:=#[_,rfl];have eb:B.sl=sl:=by rw[←eB]
 rw[eB]at R2;have w0:Wy H2 H2 x rn A A B qs s n 0 s (rs0 qs):=#[J.same s2,R2,U,rfl,Fr.same λ_ _ q=>q,by rw[Nat.sub_zero]];simp only[gw];refine a9 λN hN=>?_;have fin:∀ A' s' st H3,Wy H2 H3 x rn A A' B qs s n 0 s' st∨(IH H3 x A' s'∧Rn H3 rn B x (aO x A' s') qs st∧Gd s'∧Fr (FR (aO x A s) rn B.sl) H2 (FR (aO x A' s') rn B.sl) H3)→(s',st)=goR qs n (s,rs0 qs)→N [some (V.ref t),some (.ref x),some (.int (n:Int)),some (.ref rn)] H3:=by
  intro A' s' st H3 ww e;obtain⟨J3,R3,G3,f3⟩:IH H3 x A' s'∧Rn H3 rn B x (aO x A' s') qs st∧Gd s'∧Fr (FR (aO x A s) rn B.sl) H2 (FR (aO x A' s') rn B.sl) H3:=ww.elim (λw=>#[w.J,w.R,w.U.g,w.f]) id;refine hN _ _ ?_;rw[←e]at k;refine#[_,rfl,rn,B.dx,_,rfl,R3.o,(by kernel_rfl),rn,B,x,_,qs,_,rfl,R3,λl H4 s4 hl zl=>?_];have R4:=R3.same s4;refine#[_,rfl,rn,B.dx,_,rfl,R4.o,(by kernel_rfl),rn,B,x,_,qs,_,rfl,R4,_,rfl,rn,B.dx,_,rfl,R4.o,(by kernel_rfl),rn,B,x,_,qs,_,rfl,R4,by show 3≤sizeLine;decide,λtp htp=>?_];have s5:=au.upd (o:=.tup [.ref l,fnV st.flt,.int (st.dn:Int)]) htp;refine k A' _ l tp ((J3.same s4).same s5) (((Gb s2 hrn (by rw[eb];exact sl0) f3).trans (Fr.same s4)).trans (Fr.same s5)) ae (zl.keep (a8.of s5) λus h=>s5 _ _ h) (J3.fresh hl) G3
 refine#[λm σ H3=>∃ A' s' st,∃ i:Nat,m=n-i∧i≤n∧σ=[some (V.ref t),some (.ref x),some (.int (n:Int)),some (.ref rn)]∧Wy H2 H3 x rn A A' B qs s n i s' st,#[n,A,s,rs0 qs,0,rfl,Oy _,rfl,w0],?_];rintro m σ H3 ⟨A',s',st,i,rfl,hi,rfl,w⟩;refine#[_,rfl,rn,B.dx,_,rfl,w.R.o,(by kernel_rfl),rn,B,x,_,qs,_,rfl,w.R,_,rfl,_,_,rfl,rfl,_,rfl,?_];have ed:=w.d;by_cases c:i<n
 ·refine lA (by simp[ed];omega) #[_,rfl,rn,B.dx,_,rfl,w.R.o,(by kernel_rfl),x,A',s',rn,B,qs,st,i,rfl,w.J,w.R,w.U,Z,by omega,λA3 H4 J3 R3 f3=>#[_,rfl,?_]]
  cases ep:st.pl with
  | none =>
   have es:=zP (qs:=qs) (s:=s') ep;rw[es]at J3 R3 f3 ⊢;refine gA (by show st.pl.isSome=false;rw[ep];rfl) (fin A3 s' st H4 (.inr #[J3,R3,w.U.g,w.f.trans f3]) ?_);rw[←w.e,i9 (z:=(s',st)) ep]
  | some p =>
   have w2:=w.next Z c hn J3 R3 f3 ep;cases eq:(bJ qs s' st).2.pl with
   | none =>
    refine gA rfl (fin A3 _ _ H4 (.inr #[J3,R3,w2.U.g,w2.f]) ?_);rw[←w2.e,i9 (z:=((bJ qs s' st).1,(bJ qs s' st).2)) eq]
   | some r=>exact lA rfl #[λσ' H'=>σ'=[some (V.ref t),some (.ref x),some (.int (n:Int)),some (.ref rn)]∧H'=H4,λσ' H' z=>#[n-(i+1),by omega,A3,(bJ qs s' st).1,(bJ qs s' st).2,i+1,rfl,by omega,z.1,by rw[z.2];exact w2],rfl,rfl]
 ·have:i=n:=by omega
  subst this;refine gA (by simp[ed]) (fin A' s' st H3 (.inr #[w.J,w.R,w.U.g,w.f]) ?_);rw[←w.e,Qd];rfl
end
section
variable{P:Program}{w:World}{K:W.Frag}{mg:Str→Option Value}{base:Heap}
theorem _root_.L2.cx.weak{P:Program}{w:World}{K:W.Frag}{mg:Str→Option Value}{base:Heap}{CX:CXT}{k:Nat}{f:Addr}{fd:FuncData}{ps:List Str}{sp sp':Sp}(h:∀ vs H Q E,sp' vs H Q E→sp vs H Q E)(g:cx P w K mg base CX k f fd ps sp):cx P w K mg base CX k f fd ps sp' where
 len:=λvs H Q E q=>g.len _ _ _ _ (h _ _ _ _ q)
 run:=λA outer s H args us vs Q E hr e b r q=>g.run A outer s H args us vs Q E hr e b r (h _ _ _ _ q)
noncomputable def Nf(K:W.Frag)(mg:Str→Option Value):Sp:=λvs H Q E=>∃ a,mg "FORMS" = some (.ref a)∧R.w8 K a R.TB vs H Q E
theorem Kb{q:Rw}{m:Str}(h:R.vh q.its=some m):q=.mark m:=by
 cases q with
 | mark m' =>
  have h:(if("mark" : Str)=R.MRK then some m' else none)=some m:=h;rw[if_pos rfl]at h;cases h;rfl
 | go m'=>have h:(if("go" : Str)=R.MRK then some m' else none)=some m:=h;rw[if_neg (by decide +kernel)]at h;cases h
 | _=>cases h
theorem Gg{qs:List Rw}(h:R.marks (qs.map Rw.its)=R.M5):∀ m∈R.M5,∃ j:Nat,qs[j]?=some (.mark m):=λm hm=>by
 rw[←h]at hm;obtain⟨r,hr,e⟩:=OJ.mp hm;obtain⟨q,hq,rfl⟩:=Og.mp hr;obtain⟨j,hj⟩:=PB.mp hq;exact#[j,by rw[hj,Kb e]]
theorem Kc{H:Hp}{t:Addr}{as:List Addr}{qs:List Rw}(g:R.Pg K H t as (qs.map Rw.its)):Pm H t qs:=by
 refine#[as,g.hl,by rw[g.hn,NI],λi a q e1 e2=>?_];have h1:=(NK.mp e1);have h2:=(NK.mp e2);have z:=g.hr i h1.1 (by rw[NI];exact h2.1);rw[List.getElem_map,h1.2,h2.2]at z;exact z
theorem dz(T:Txt w K mg):Ok P w K mg base 1 995 ["part", "signs"] (R.tS):=by
 have F:=T.fnn (st:=gS) (f:=995) "is_made_of" "is_made_of";exact#[#[T.e,T.mm,T.zz],R.DT F T.z,F.b2]
theorem m6(T:Txt w K mg):Ok P w K mg base 2 990 ["part"] (R.CS):=by
 have F:=T.fnn (st:=jS) (f:=990) "is_count" "is_count";obtain⟨aF,gF,fm⟩:=T.tabs.f;obtain⟨_,g3⟩:=T.tabs.g3;obtain⟨_,g4⟩:=T.tabs.g4;exact#[#[T.e,T.mm,T.zz],R.FK F T.z T.oa g3 (dz T).g T.m T.kp (dz (P:=P) (base:=base) T).b,F.b1]
theorem jx(T:Txt w K mg):Ok P w K mg base 3 983 ["part", "kind"] (R.IS):=by
 have F:=T.fnn (st:=gR) (f:=983) "is_written" "is_written";obtain⟨aF,gF,fm⟩:=T.tabs.f;obtain⟨_,g3⟩:=T.tabs.g3;obtain⟨_,g4⟩:=T.tabs.g4;exact#[#[T.e,T.mm,T.zz],R.JT F T.z T.og g4 (dz T).g T.m T.kp (dz (P:=P) (base:=base) T).b (m6 T).g T.m T.kp (m6 (P:=P) (base:=base) T).b,F.b2]
theorem kY(T:Txt w K mg):Ok P w K mg base 1 1002 ["part", "kind"] (R.tw):=by
 have F:=T.fnn (st:=iP) (f:=1002) "part_read" "part_read";exact#[#[T.e,T.mm,T.zz],R.Bd F T.z,F.b2]
theorem m7(T:Txt w K mg):Ok P w K mg base 4 976 ["words", "form"] (R.wZ K):=by
 have F:=T.fnn (st:=jQ) (f:=976) "row_read" "row_read";exact#[#[T.e,T.mm,T.zz],R.DV F T.z T.z T.z T.z (jx T).g T.m T.kp (jx (P:=P) (base:=base) T).b (kY T).g T.m T.kp (kY (P:=P) (base:=base) T).b,F.b2]
theorem iO(T:Txt w K mg):Ok P w K mg base 5 1036 ["line"] (Nf K mg):=by
 have F:=T.fnn (st:=fI) (f:=1036) "program_row" "program_row";obtain⟨aF,gF,fm⟩:=T.tabs.f;obtain⟨_,g3⟩:=T.tabs.g3;obtain⟨_,g4⟩:=T.tabs.g4;exact#[#[T.e,T.mm,T.zz],cx.weak (λvs H Q E ⟨a',e',q⟩=>by rw[gF]at e';cases e';exact q) (R.DW F fm gF (m7 T).g T.m T.kp (m7 (P:=P) (base:=base) T).b),F.b1]
theorem kZ(T:Txt w K mg):Ok P w K mg base 1 1043 ["rows"] (R.tE K):=by
 have F:=T.fnn (st:=iQ) (f:=1043) "marks_put" "marks_put";exact#[#[T.e,T.mm,T.zz],R.Bf F,F.b1]
theorem fF(T:Txt w K mg):Ok P w K mg base 1 1050 ["row", "marks", "ahead"] (R.tF K):=by
 have F:=T.fnn (st:=c7) (f:=1050) "has_right_mark" "has_right_mark";obtain⟨aF,gF,fm⟩:=T.tabs.f;obtain⟨_,g3⟩:=T.tabs.g3;obtain⟨_,g4⟩:=T.tabs.g4;exact#[#[T.e,T.mm,T.zz],R.Bh F fm gF,F.b3]
theorem nP(T:Txt w K mg):Ok P w K mg base 6 1029 ["text"] (R.xW K):=by
 have F:=T.fnn (st:=d9) (f:=1029) "read_program" "read_program";obtain⟨aF,gF,fm⟩:=T.tabs.f;obtain⟨_,g3⟩:=T.tabs.g3;obtain⟨_,g4⟩:=T.tabs.g4;exact#[#[T.e,T.mm,T.zz],R.Bi F T.z T.z T.ue (cx.weak (λvs H Q E q=>#[_,gF,q]) (iO T).g) T.m T.kp (iO (P:=P) (base:=base) T).b (kZ T).g T.m T.kp (kZ (P:=P) (base:=base) T).b (fF T).g T.m T.kp (fF (P:=P) (base:=base) T).b,F.b1]
end
section
theorem D9{n:Option Int}:nmG [] n=n:=by cases n<;>simp[nmG]
theorem Ea{ns:List (Option Int)}:ns.map (nmG [])=ns:=by rw[show(nmG [])=id from funext λn=>D9];simp
theorem Eb{bs:List (Int×Int)}:brG bs []=bs:=by unfold brG;simp
noncomputable def lw(ns:List Int)(j:Nat):List Wd:=[.num (ns.getD j 0),if j=0 then .no else .th ((j:Int)-1)]
noncomputable def fl(ns:List Int)(i:Nat):List (Int×List Wd):=(List.range i).map λj:Nat=>((j:Int),lw ns j)
theorem x9{ns:List Int}{i:Nat}:fl ns (i+1)=fl ns i++[((i:Int),lw ns i)]:=by unfold fl;rw[O8,N9];rfl
theorem Ec{ns:List Int}{i:Nat}:(fl ns i).map (·.1)=(List.range i).map λj:Nat=>(j:Int):=by unfold fl;rw[OD];rfl
theorem yc{ns:List Int}{i j:Nat}(h:i≤j):(fl ns i).lookup (j:Int)=none:=by
 cases e:(fl ns i).lookup (j:Int) with
 | none=>rfl
 | some v =>
  obtain⟨k,mk,ek⟩:=Og.mp (lookup_some e)
  have:=Px.mp mk
  cases ek;omega
theorem xb{ns:List Int}{i j:Nat}(h:j<i):(fl ns i).lookup (j:Int)=some (lw ns j):=by
 induction i with
 | zero=>omega
 | succ i ih =>
  rw[x9,List.lookup_append];by_cases c:j=i
  ·subst c
   rw[yc (NO _)];simp[List.lookup]
  ·rw[ih (by omega)]
   rfl
theorem Gh{s:HS}{ns:List Int}{i:Nat}(hf:s.aI=fl ns i)(hh:i≠0→Wd.th ((i:Int)-1)∈s.aG)(hy:∀ t∈s.yng,∃ j:Nat,j<i∧t=(j:Int)):du s=[]:=by
 have fd:∀ j:Nat,j<i→fld s (j:Int)=lw ns j:=λj hj=>by unfold fld;rw[hf,xb hj];rfl
 have key:∀ d j:Nat,j+d+1=i→(j:Int)∈s.yng→Led (pF s) (fld s) s.yng (j:Int):=by
  intro d;induction d with
  | zero =>
   intro j e m;refine .root (Ot _ ?_) m;rw[show(j:Int)=(i:Int)-1 by omega];exact hh (by omega)
  | succ d ih =>
   intro j e m;have th:Wd.th (j:Int)∈lw ns (j+1):=by
    unfold lw;rw[if_neg (Nat.succ_ne_zero j),show(((j+1:Nat):Int))-1=(j:Int) by omega];exact Oa _ NV
   by_cases c:((j+1:Nat):Int)∈s.yng
   ·exact .step (ih (j+1) (by omega) c) (by rw[fd (j+1) (by omega)];exact th) m
   ·refine .root (NS _ ?_) m
    unfold tm;refine Po.mpr #[(((j+1:Nat):Int),lw ns (j+1)),?_,?_]
    ·rw[hf]
     exact Og.mpr #[j+1,Px.mpr (by omega),rfl]
    ·simp only[c,if_false]
     exact th
 rw[List.eq_nil_iff_forall_not_mem];intro t m;obtain⟨my,nl⟩:=bP.mp m;obtain⟨j,hj,rfl⟩:=hy t my;exact nl (key (i-1-j) j (by omega) my)
theorem Ng{s:HS}{ns:List Int}{i:Nat}(hf:s.aI=fl ns i)(hh:i≠0→Wd.th ((i:Int)-1)∈s.aG)(hy:∀ t∈s.yng,∃ j:Nat,j<i∧t=(j:Int)):∃ y,mkR s 2={s with yng:=y}∧∀ t∈y,t∈s.yng:=by
 unfold mkR;split
 ·refine#[[],?_,λt m=>nomatch m]
  unfold eG;rw[Gh hf hh hy];unfold letGo;rw[tj,Ea,Eb,show sdG s.aS []=[] from rfl,OR]
 ·exact#[s.yng,rfl,λt m=>m]
theorem Ed{s:HS}{ns:List Int}{i:Nat}(hf:s.aI=fl ns i):held s=3*(i:Int):=by
 have fd:∀ j:Nat,j<i→fld s (j:Int)=lw ns j:=λj hj=>by unfold fld;rw[hf,xb hj];rfl
 have:∀ k:Nat,k≤i→wsum s ((List.range k).map λj:Nat=>(j:Int))=3*(k:Int):=by
  intro k;induction k with
  | zero=>intro _;rfl
  | succ k ih =>
   intro h;have e:=ih (by omega);unfold wsum at e ⊢;rw[O8,N9,N9,List.sum_append,e];show 3*(k:Int)+([((fld s (k:Int)).length:Int)+1].sum)=_;rw[fd k (by omega)];show 3*(k:Int)+((2:Int)+1+0)=3*((k+1:Nat):Int);omega
 unfold held keys;rw[hf,Ec];exact this i (NO _)
noncomputable def bS(my:Bool)(rm lm:Int)(fs:List (Int×List Wd))(nx:Int)(y:List Int)(hs:List Wd):HS:=#[my,hs,List.replicate 8 none,[],[],fs,y,nx,rm,lm,[],false]
noncomputable def h0(i:Nat):Wd:=if i=0 then .no else .th ((i:Int)-1)
theorem r6{ns:List Int}{i:Nat}{a b:List Wd}:fL (fl ns i++[((i:Int),a)]) (i:Int) b=fl ns i++[((i:Int),b)]:=by
 unfold fL;rw[N9];congr 1
 ·refine(ON λp hp=>?_).trans (List.map_id _)
  obtain⟨j,mj,rfl⟩:=Og.mp hp
  have:=Px.mp mj
  exact if_neg (by show ¬(j:Int)=(i:Int);omega)
 ·simp
theorem vo{my:Bool}{rm lm nx:Int}{y:List Int}{hs:List Wd}{ns:List Int}{i:Nat}{a:List Wd}:fld (bS my rm lm (fl ns i++[((i:Int),a)]) nx y hs) (i:Int)=a:=by
 unfold fld bS;dsimp only;rw[List.lookup_append,yc (NO _)];simp[List.lookup]
section
variable{my:Bool}{rm lm nx:Int}{y:List Int}{ns:List Int}{i:Nat}{a b c d e f g h:Wd}{fs:List (Int×List Wd)}{x:Int}
theorem Gi(hx:Num x):aU (bS my rm lm fs nx y [a,b,c,d,e,f,g,h]) 2 x=(none,bS my rm lm fs nx y [a,b,.num x,d,e,f,g,h]):=by unfold aU;rw[if_pos (by decide),if_pos hx];rfl
theorem Ke:dR (bS my rm lm (fl ns i++[((i:Int),[.no,.no])]) nx y [a,.th (i:Int),.num x,d,e,f,g,h]) (.store 1 0 2)=(none,bS my rm lm (fl ns i++[((i:Int),[.num x,.no])]) nx y [a,.th (i:Int),.num x,d,e,f,g,h]):=by
 simp only[dR];unfold bN;show(if(0:Int)≤0∧(0:Int)<((fld (bS my rm lm (fl ns i++[((i:Int),[.no,.no])]) nx y [a,.th (i:Int),.num x,d,e,f,g,h]) (i:Int)).length:Int) then _ else _)=_;rw[vo,if_pos (by decide)];show(none,bS my rm lm (fL (fl ns i++[((i:Int),[.no,.no])]) (i:Int) _) nx y _)=_;rw[r6];rfl
theorem Kf:dR (bS my rm lm (fl ns i++[((i:Int),[.num x,.no])]) nx y [a,.th (i:Int),c,d,e,f,g,h]) (.store 1 1 0)=(none,bS my rm lm (fl ns i++[((i:Int),[.num x,a])]) nx y [a,.th (i:Int),c,d,e,f,g,h]):=by
 simp only[dR];unfold bN;show(if(0:Int)≤1∧(1:Int)<((fld (bS my rm lm (fl ns i++[((i:Int),[.num x,.no])]) nx y [a,.th (i:Int),c,d,e,f,g,h]) (i:Int)).length:Int) then _ else _)=_;rw[vo,if_pos (by show(0:Int)≤1∧(1:Int)<2;decide)];show(none,bS my rm lm (fL (fl ns i++[((i:Int),[.num x,.no])]) (i:Int) _) nx y _)=_;rw[r6];rfl
theorem Nh:dR (bS my rm lm fs nx y [a,b,c,d,e,f,g,h]) (.copy 0 1)=(none,bS my rm lm fs nx y [b,b,c,d,e,f,g,h]):=rfl
theorem K3(hy:∀ t∈y,∃ j:Nat,j<i∧t=(j:Int))(b0:b=h0 i∨a=h0 i):∃ y2,(∀ t∈y2,∃ j:Nat,j<i+1∧t=(j:Int)) ∧
  (3*(i:Int)+3≤lm→bZ (bS my rm lm (fl ns i) i y [a,b,c,d,e,f,g,h]) 1 2=(none,bS my rm lm (fl ns i++[((i:Int),[.no,.no])]) ((i:Int)+1) y2 [a,.th (i:Int),c,d,e,f,g,h])) ∧
  (lm<3*(i:Int)+3→∃ s2,bZ (bS my rm lm (fl ns i) i y [a,b,c,d,e,f,g,h]) 1 2=(some .room,s2)):=by
 obtain⟨y1,e1,m1⟩:=Ng (s:=bS my rm lm (fl ns i) i y [a,b,c,d,e,f,g,h]) (ns:=ns) (i:=i) rfl (λn0=>by
  have:h0 i=.th ((i:Int)-1):=if_neg n0
  rcases b0 with z|z
  ·rw[z,this];exact Oa _ NV
  ·rw[z,this];exact NV) hy
 have hl:held (mkR (bS my rm lm (fl ns i) i y [a,b,c,d,e,f,g,h]) 2)=3*(i:Int):=by rw[e1];exact Ed rfl
 refine#[if my=true then y1++[(i:Int)] else y1,λt m=>?_,λle=>?_,λlt=>?_]
 ·split at m
  ·rcases Om.mp m with m|m
   ·obtain⟨j,hj,e⟩:=hy t (m1 t m);exact#[j,by omega,e]
   ·exact#[i,by omega,NN.mp m]
  ·obtain⟨j,hj,e⟩:=hy t (m1 t m);exact#[j,by omega,e]
 ·unfold bZ
  rw[if_pos (by decide),if_pos (by decide),if_neg (by rw[hl];show ¬(3*(i:Int)+(2+1)>lm);omega),e1];rfl
 ·unfold bZ
  rw[if_pos (by decide),if_pos (by decide),if_pos (by rw[hl];show 3*(i:Int)+(2+1)>lm;omega)];exact#[_,rfl]
end
end
section
noncomputable def bR(x:Int):List Rw:=[.make 1 2,.number 2 x,.store 1 0 2,.store 1 1 0,.copy 0 1]
noncomputable def tR:List Rw:=[.number 3 0,.number 4 0,.number 5 1,.copy 6 0,.mark "on",.iy 6 "in",.go "out",.mark "in",.load 7 6 0,.add 3 7,.add 4 5,.load 6 6 1,.go "on",.mark "out",.say 3,.say 4,.say 0,.same 0 6 "none",.say 6,.stop,.mark "none",.number 6 1,.say 6]
noncomputable def pR(ns:List Int):List Rw:=.drop 0::(ns.flatMap bR++tR)
theorem jy:∀ {ns:List Int},(ns.flatMap bR).length=5*ns.length
 | []=>rfl
 | x::r=>by rw[P1,NX,jy];show 5+_=5*(r.length+1);omega
theorem iA{ns:List Int}:(pR ns).length=5*ns.length+24:=by show(ns.flatMap bR++tR).length+1=_;rw[NX,jy];rfl
theorem EO:∀ {ns:List Int} {i r:Nat},i<ns.length→r<5→(ns.flatMap bR)[5*i+r]?=(bR (ns.getD i 0))[r]?
 | [],i,r,h,_=>by cases h
 | x::ns,0,r,_,hr=>by rw[P1,OC (by show 5*0+r<5;omega)];rw[Nat.mul_zero,Nat.zero_add];rfl
 | x::ns,i+1,r,h,hr=>by
  rw[P1,Ox (by show 5≤5*(i+1)+r;omega),show 5*(i+1)+r-(bR x).length=5*i+r by show 5*(i+1)+r-5=_;omega,EO (ns:=ns) (by simpa using h) hr];rfl
theorem BZ{ns:List Int}{i r:Nat}{q:Rw}(h:i<ns.length)(e:(bR (ns.getD i 0))[r]?=some q):(pR ns)[1+5*i+r]?=some q:=by
 have hr:r<5:=(NK.mp e).1;rw[show 1+5*i+r=(5*i+r)+1 by omega];show(ns.flatMap bR++tR)[5*i+r]?=_;rw[OC (by rw[jy];omega),EO h hr,e]
theorem ia{ns:List Int}{r:Nat}{q:Rw}(e:tR[r]?=some q):(pR ns)[1+5*ns.length+r]?=some q:=by
 rw[show 1+5*ns.length+r=(5*ns.length+r)+1 by omega];show(ns.flatMap bR++tR)[5*ns.length+r]?=_;rw[Ox (by rw[jy];omega),jy,show 5*ns.length+r-5*ns.length=r by omega,e]
theorem dA{qs:List Rw}{k p d:Nat}{s s2:HS}{sd:List Sd}{f:Option Er}{q:Rw}(hq:qs[p]?=some q)(c:q.cl=2∨q.cl=4)(h:dR s q=(none,s2))(hp:p+1<qs.length):goR qs (k+1) (s,#[some p,sd,f,d])=goR qs k (s2,#[some (p+1),sd,f,d+1]):=by
 rw[gP (p:=p) rfl];congr 1
 unfold bJ;dsimp only;rw[hq];dsimp only;rw[k7 c,h];dsimp only;rw[nxP,if_pos hp]
theorem Kg{qs:List Rw}{k p d:Nat}{s s2:HS}{sd:List Sd}{f:Option Er}{q:Rw}{er:Er}(hq:qs[p]?=some q)(c:q.cl=2∨q.cl=4)(h:dR s q=(some er,s2)):goR qs (k+1) (s,#[some p,sd,f,d])=(s2,#[none,sd,some er,d+1]):=by
 rw[gP (p:=p) rfl];have e:bJ qs s #[some p,sd,f,d]=(s2,#[none,sd,some er,d+1]):=by
  unfold bJ;dsimp only;rw[hq];dsimp only;rw[k7 c,h]
 rw[e,i9 rfl]
theorem tW{qs:List Rw}{k p d:Nat}{s:HS}{sd:List Sd}{f:Option Er}{q:Rw}{b:Bool}{t:Nat}(hq:qs[p]?=some q)(c:q.cl=1)(h:jR s q=some b)(ht:(if b=true then rY qs q.mk else nxP qs.length (p+1))=some t):goR qs (k+1) (s,#[some p,sd,f,d])=goR qs k (s,#[some t,sd,f,d+1]):=by
 rw[gP (p:=p) rfl];congr 1
 unfold bJ;dsimp only;rw[hq];dsimp only;rw[nU c,h];dsimp only;rw[ht]
theorem ER{qs:List Rw}{k p d:Nat}{s:HS}{sd:List Sd}{f:Option Er}{h:Int}{x:Sd}(hq:qs[p]?=some (.say h))(e:sR s h=some x):goR qs (k+1) (s,#[some p,sd,f,d])=goR qs k (s,#[nxP qs.length (p+1),sd++[x],f,d+1]):=by
 rw[gP (p:=p) rfl];congr 1
 unfold bJ;dsimp only;rw[hq];have e2:pbR qs p s sd (.say h)=(none,s,sd++[x],nxP qs.length (p+1)):=by
  show(match sR s h with|none=>(some Er.hand,s,sd,none)|some d=>(none,s,sd++[d],nxP qs.length (p+1)):Option Er×HS×List Sd×Option Nat)=_
  rw[e]
 dsimp only;rw[e2]
theorem Gj{qs:List Rw}{k p d:Nat}{s:HS}{sd:List Sd}{f:Option Er}(hq:qs[p]?=some .stop):goR qs (k+1) (s,#[some p,sd,f,d])=(s,#[none,sd,f,d+1]):=by
 rw[gP (p:=p) rfl];have e:bJ qs s #[some p,sd,f,d]=(s,#[none,sd,f,d+1]):=by
  unfold bJ;dsimp only;rw[hq];rfl
 rw[e,i9 rfl]
theorem yd:∀ {l:List Rw} {k:Nat} {kv:List (Key×V)},(∀ q∈l,∀ m,q≠.mark m)→(l.zipIdx k).foldl (λk p=>mkS k p.2 p.1) kv=kv
 | [],_,_,_=>rfl
 | q::r,k,kv,h=>by
  rw[PK,Qb];have e:mkS kv k q=kv:=by
   cases q with
   | mark m=>exact absurd rfl (h _ NV m)
   | _=>rfl
  show(r.zipIdx (k+1)).foldl _ (mkS kv k q)=kv;rw[e];exact yd λq m=>h q (Oa _ m)
theorem Kh{ns:List Int}:mkL (pR ns)=(tR.zipIdx (1+5*ns.length)).foldl (λk p=>mkS k p.2 p.1) []:=by
 unfold mkL pR;rw[PK,Qb];show((ns.flatMap bR++tR).zipIdx (0+1)).foldl _ []=_;rw[List.zipIdx_append,List.foldl_append,yd (l:=ns.flatMap bR) (λq m z e=>by
  obtain⟨x,_,hx⟩:=Po.mp m;rw[e]at hx;simp[bR]at hx),jy]
theorem K4{ns:List Int}:rY (pR ns) "on" = some (1+5*ns.length+4)∧rY (pR ns) "in" = some (1+5*ns.length+7)∧rY (pR ns) "out" = some (1+5*ns.length+13)∧rY (pR ns) "none" = some (1+5*ns.length+20):=by
 unfold rY;rw[Kh];generalize 1+5*ns.length=o;exact#[by kernel_rfl,by kernel_rfl,by kernel_rfl,by kernel_rfl]
end
section
theorem Ee{i:Nat}:h0 (i+1)=.th (i:Int):=by
 unfold h0;rw[if_neg (Nat.succ_ne_zero i),show((i+1:Nat):Int)-1=(i:Int) by omega]
theorem getD_mem{ns:List Int}{i:Nat}(h:i<ns.length):ns.getD i 0∈ns:=by
 rw[O0,NJ h];exact OB h
section
variable{my:Bool}{rm lm:Int}{ns:List Int}
theorem build(hN:∀ x∈ns,Num x):∀ i:Nat,i≤ns.length→3*(i:Int)≤lm→∀ k:Nat,∃ y c,(∀ t∈y,∃ j:Nat,j<i∧t=(j:Int))∧goR (pR ns) (k+(1+5*i)) (s0 my rm lm,rs0 (pR ns))=goR (pR ns) k (bS my rm lm (fl ns i) i y [h0 i,h0 i,c,.no,.no,.no,.no,.no],#[some (1+5*i),[],none,1+5*i]):=by
 intro i;induction i with
 | zero =>
  intro _ _ k;refine#[[],.no,(λt m=>nomatch m),?_];have e:rs0 (pR ns)=#[some 0,[],none,0]:=by unfold rs0 nxP;rw[if_pos (by rw[iA];omega)]
  rw[e];exact dA (q:=.drop 0) rfl (.inl rfl) rfl (by rw[iA];omega)
 | succ i ih =>
  intro hi hl k;obtain⟨y,c,hy,e⟩:=ih (by omega) (by omega) (k+5);obtain⟨y2,hy2,em,_⟩:=K3 (my:=my) (rm:=rm) (lm:=lm) (ns:=ns) (c:=c) (d:=.no) (e:=.no) (f:=.no) (g:=.no) (h:=.no) hy (.inl rfl:h0 i=h0 i∨h0 i=h0 i);refine#[y2,.num (ns.getD i 0),hy2,?_];rw[show k+(1+5*(i+1))=k+5+(1+5*i) by omega,e];have L:=iA (ns:=ns);have x:=hN _ (getD_mem (show i<ns.length by omega));refine(dA (k:=k+4) (p:=1+5*i) (BZ (i:=i) (r:=0) (by omega) rfl) (.inl rfl) (em (by omega)) (by rw[L];omega)).trans ?_;refine(dA (k:=k+3) (BZ (i:=i) (r:=1) (by omega) rfl) (.inl rfl) (Gi x) (by rw[L];omega)).trans ?_;refine(dA (k:=k+2) (BZ (i:=i) (r:=2) (by omega) rfl) (.inl rfl) Ke (by rw[L];omega)).trans ?_;refine(dA (k:=k+1) (BZ (i:=i) (r:=3) (by omega) rfl) (.inl rfl) Kf (by rw[L];omega)).trans ?_;refine(dA (k:=k) (BZ (i:=i) (r:=4) (by omega) rfl) (.inl rfl) Nh (by rw[L];omega)).trans ?_;rw[Ee,x9,show 1+5*(i+1)=1+5*i+5 by omega];rfl
theorem short{n:Nat}(hn:ns.length=n+1)(hN:∀ x∈ns,Num x)(h1:3*(n:Int)≤lm)(h2:lm<3*(n:Int)+3)(m:Nat)(hm:2+5*n≤m):∃ s2,goR (pR ns) m (s0 my rm lm,rs0 (pR ns))=(s2,#[none,[],some .room,1+5*n+1]):=by
 obtain⟨k,rfl⟩:∃ k,m=k+1+(1+5*n):=#[m-(2+5*n),by omega];obtain⟨y,c,hy,e⟩:=build (my:=my) (rm:=rm) (lm:=lm) hN n (by omega) h1 (k+1);obtain⟨y2,_,_,eb⟩:=K3 (my:=my) (rm:=rm) (lm:=lm) (ns:=ns) (c:=c) (d:=.no) (e:=.no) (f:=.no) (g:=.no) (h:=.no) hy (.inl rfl:h0 n=h0 n∨h0 n=h0 n);obtain⟨s2,eb⟩:=eb h2;exact#[s2,e.trans (Kg (p:=1+5*n) (BZ (i:=n) (r:=0) (by omega) rfl) (.inl rfl) eb)]
noncomputable def wS(my:Bool)(rm lm:Int)(ns:List Int)(y:List Int)(c:Wd)(A C:Int)(m:Nat)(z:Wd):HS:=bS my rm lm (fl ns ns.length) ns.length y [h0 ns.length,h0 ns.length,c,.num A,.num C,.num 1,h0 m,z]
theorem CW{y:List Int}{c z:Wd}{A C:Int}{m j:Nat}(h:j<ns.length):fld (wS my rm lm ns y c A C m z) (j:Int)=lw ns j:=by
 unfold fld wS bS;dsimp only;rw[xb h];rfl
theorem Ni{y:List Int}{c z:Wd}{A C:Int}{j:Nat}(h:j<ns.length):dR (wS my rm lm ns y c A C (j+1) z) (.load 7 6 0)=(none,wS my rm lm ns y c A C (j+1) (.num (ns.getD j 0))):=by
 have e:wat (wS my rm lm ns y c A C (j+1) z).aG 6=some (.th (j:Int)):=by show some (h0 (j+1))=_;rw[Ee]
 simp only[dR];unfold cn;rw[if_pos (by decide),e];dsimp only;rw[CW h,if_pos (by show(0:Int)≤0∧(0:Int)<2;decide)];rfl
theorem Nj{y:List Int}{c z:Wd}{A C:Int}{j:Nat}(h:j<ns.length):dR (wS my rm lm ns y c A C (j+1) z) (.load 6 6 1)=(none,wS my rm lm ns y c A C j z):=by
 have e:wat (wS my rm lm ns y c A C (j+1) z).aG 6=some (.th (j:Int)):=by show some (h0 (j+1))=_;rw[Ee]
 simp only[dR];unfold cn;rw[if_pos (by decide),e];dsimp only;rw[CW h,if_pos (by show(0:Int)≤1∧(1:Int)<2;decide)];rfl
theorem Nk{y:List Int}{c:Wd}{A C x:Int}{m:Nat}(h:Num (A+x)):dR (wS my rm lm ns y c A C m (.num x)) (.add 3 7)=(none,wS my rm lm ns y c (A+x) C m (.num x)):=by
 show aU (wS my rm lm ns y c A C m (.num x)) 3 (A+x)=_;unfold aU;rw[if_pos (by decide),if_pos h];rfl
theorem Nl{y:List Int}{c z:Wd}{A C:Int}{m:Nat}(h:Num (C+1)):dR (wS my rm lm ns y c A C m z) (.add 4 5)=(none,wS my rm lm ns y c A (C+1) m z):=by
 show aU (wS my rm lm ns y c A C m z) 4 (C+1)=_;unfold aU;rw[if_pos (by decide),if_pos h];rfl
theorem Gk{j:Nat}(h:j<ns.length):(ns.take (j+1)).sum=(ns.take j).sum+ns.getD j 0:=by
 rw[take_snoc (NJ h),List.sum_append,O0,NJ h];show _+(ns[j]+0)=_+ns[j];omega
noncomputable def Bg(b:Int)(m:Nat)(A:Int):Prop:=-((m:Int)*b)≤A∧A≤(m:Int)*b
theorem Ki(hb:∀ x∈ns,-(10 ^ 57)≤x∧x≤10 ^ 57)(hn:ns.length≤34){y:List Int}{c:Wd}:∀(m:Nat),m≤ns.length→∀(k d:Nat) (A C:Int) (z:Wd),Bg (10 ^ 57) (ns.length-m) A→0≤C∧C+m≤34→∃ z2,goR (pR ns) (k+8*m) (wS my rm lm ns y c A C m z,#[some (1+5*ns.length+4),[],none,d])=goR (pR ns) k (wS my rm lm ns y c (A+(ns.take m).sum) (C+m) 0 z2,#[some (1+5*ns.length+4),[],none,d+8*m]):=by
 intro m;induction m with
 | zero =>
  intro _ k d A C z _ _;refine#[z,?_];rw[O4,show([]:List Int).sum=0 from rfl,Int.add_zero,show C+((0:Nat):Int)=C by omega];rfl
 | succ j ih =>
  intro hm k d A C z hA hC;have hj:j<ns.length:=by omega
  have bx:=hb _ (getD_mem hj);have bA:Bg (10 ^ 57) (ns.length-j) (A+ns.getD j 0):=by
   obtain⟨a1,a2⟩:=hA;obtain⟨b1,b2⟩:=bx;have e:((ns.length-j:Nat):Int)=((ns.length-(j+1):Nat):Int)+1:=(by omega);unfold Bg;rw[e,Int.add_mul,Int.one_mul];omega
  have nA:Num (A+ns.getD j 0):=by
   obtain⟨a1,a2⟩:=bA
   have:((ns.length-j:Nat):Int)*10 ^ 57≤34*10 ^ 57:=Int.mul_le_mul_of_nonneg_right (by omega) (by decide +kernel)
   unfold Num;omega
  have nC:Num (C+1):=by unfold Num;omega
  obtain⟨z2,e⟩:=ih (by omega) k (d+8) (A+ns.getD j 0) (C+1) (.num (ns.getD j 0)) bA (by omega);refine#[z2,?_];have L:=iA (ns:=ns);obtain⟨mo,mi,_,_⟩:=K4 (ns:=ns);rw[show k+8*(j+1)=k+8*j+7+1 by omega];refine(dA (k:=k+8*j+7) (ia (r:=4) rfl) (.inr rfl) rfl (by rw[L];omega)).trans ?_;refine(tW (k:=k+8*j+6) (b:=true) (t:=1+5*ns.length+7) (ia (r:=5) rfl) rfl (by show some (decide ((h0 (j+1)).kind = "thing"))=_;rw[Ee];rfl) (by rw[if_pos rfl];exact mi)).trans ?_;refine(dA (k:=k+8*j+5) (ia (r:=7) rfl) (.inr rfl) rfl (by rw[L];omega)).trans ?_;refine(dA (k:=k+8*j+4) (ia (r:=8) rfl) (.inl rfl) (Ni hj) (by rw[L];omega)).trans ?_;refine(dA (k:=k+8*j+3) (ia (r:=9) rfl) (.inl rfl) (Nk nA) (by rw[L];omega)).trans ?_;refine(dA (k:=k+8*j+2) (ia (r:=10) rfl) (.inl rfl) (Nl nC) (by rw[L];omega)).trans ?_;refine(dA (k:=k+8*j+1) (ia (r:=11) rfl) (.inl rfl) (Nj hj) (by rw[L];omega)).trans ?_;refine(tW (k:=k+8*j) (b:=true) (t:=1+5*ns.length+4) (ia (r:=12) rfl) rfl rfl (by rw[if_pos rfl];exact mo)).trans ?_;show goR (pR ns) (k+8*j) (_,#[_,[],none,d+8])=_;rw[e,Gk hj,show A+ns.getD j 0+(ns.take j).sum=A+((ns.take j).sum+ns.getD j 0) by omega,show C+1+(j:Int)=C+((j+1:Nat):Int) by omega,show d+8+8*j=d+8*(j+1) by omega]
end
end
section
variable{my:Bool}{rm lm:Int}{ns:List Int}
theorem qU{k d r:Nat}{s:HS}{sd:List Sd}{f:Option Er}{h:Int}{x:Sd}(hq:tR[r]?=some (.say h))(hr:r<22)(e:sR s h=some x):goR (pR ns) (k+1) (s,#[some (1+5*ns.length+r),sd,f,d])=goR (pR ns) k (s,#[some (1+5*ns.length+r+1),sd++[x],f,d+1]):=by
 rw[ER (ia hq) e,nxP,if_pos (by rw[iA];omega)]
noncomputable def sdL(ns:List Int):List Sd:=if ns.length=0 then[.num 0,.num 0,.no,.num 1] else[.num ns.sum,.num (ns.length:Int),.th 2,.no]
theorem ES{x:Int}(h:0≤x∧x≤1):Num x:=by unfold Num;omega
theorem Nn{y:List Int}{a b c d e f g h:Wd}{fs:List (Int×List Wd)}{nx:Int}:dR (bS my rm lm fs nx y [a,b,c,d,e,f,g,h]) (.number 3 0)=(none,bS my rm lm fs nx y [a,b,c,.num 0,e,f,g,h]):=by simp only[dR];unfold aU;rw[if_pos (by decide),if_pos (ES (by decide))];rfl
theorem Np{y:List Int}{a b c d e f g h:Wd}{fs:List (Int×List Wd)}{nx:Int}:dR (bS my rm lm fs nx y [a,b,c,d,e,f,g,h]) (.number 4 0)=(none,bS my rm lm fs nx y [a,b,c,d,.num 0,f,g,h]):=by simp only[dR];unfold aU;rw[if_pos (by decide),if_pos (ES (by decide))];rfl
theorem Nq{y:List Int}{a b c d e f g h:Wd}{fs:List (Int×List Wd)}{nx:Int}:dR (bS my rm lm fs nx y [a,b,c,d,e,f,g,h]) (.number 5 1)=(none,bS my rm lm fs nx y [a,b,c,d,e,.num 1,g,h]):=by simp only[dR];unfold aU;rw[if_pos (by decide),if_pos (ES (by decide))];rfl
theorem Nr{y:List Int}{a b c d e f g h:Wd}{fs:List (Int×List Wd)}{nx:Int}:dR (bS my rm lm fs nx y [a,b,c,d,e,f,g,h]) (.number 6 1)=(none,bS my rm lm fs nx y [a,b,c,d,e,f,.num 1,h]):=by simp only[dR];unfold aU;rw[if_pos (by decide),if_pos (ES (by decide))];rfl
theorem Nu{y:List Int}{a b c d e f g h:Wd}{fs:List (Int×List Wd)}{nx:Int}:dR (bS my rm lm fs nx y [a,b,c,d,e,f,g,h]) (.copy 6 0)=(none,bS my rm lm fs nx y [a,b,c,d,e,f,a,h]):=rfl
theorem good(hb:∀ x∈ns,-(10 ^ 57)≤x∧x≤10 ^ 57)(hn:ns.length≤34)(hl:3*(ns.length:Int)≤lm)(m:Nat)(hm:13*ns.length+20≤m):∃ s2 d,goR (pR ns) m (s0 my rm lm,rs0 (pR ns))=(s2,#[none,sdL ns,none,d]):=by
 obtain⟨k,rfl⟩:∃ k,m=k+11+8*ns.length+4+(1+5*ns.length):=#[m-(13*ns.length+16),by omega];have hN:∀ x∈ns,Num x:=λx h=>by have:=hb x h;unfold Num;omega
 obtain⟨y,c,hy,e⟩:=build (my:=my) (rm:=rm) (lm:=lm) hN ns.length (NO _) hl (k+11+8*ns.length+4);have L:=iA (ns:=ns);obtain⟨mo,mi,mu,mn⟩:=K4 (ns:=ns);obtain⟨z,ew⟩:=Ki (my:=my) (rm:=rm) (lm:=lm) hb hn (y:=y) (c:=c) ns.length (NO _) (k+11) (1+5*ns.length+4) 0 0 .no (by rw[Qd];unfold Bg;omega) #[by decide,by omega];rw[O3,Int.zero_add,Int.zero_add]at ew;have E1:goR (pR ns) (k+11+8*ns.length+4) (bS my rm lm (fl ns ns.length) ns.length y [h0 ns.length,h0 ns.length,c,.no,.no,.no,.no,.no],#[some (1+5*ns.length),[],none,1+5*ns.length])=goR (pR ns) (k+11) (wS my rm lm ns y c ns.sum (ns.length:Int) 0 z,#[some (1+5*ns.length+4),[],none,1+5*ns.length+4+8*ns.length]):=by
  refine(dA (k:=k+11+8*ns.length+3) (p:=1+5*ns.length) (ia (r:=0) rfl) (.inl rfl) Nn (by rw[L];omega)).trans ?_;refine(dA (k:=k+11+8*ns.length+2) (ia (r:=1) rfl) (.inl rfl) Np (by rw[L];omega)).trans ?_;refine(dA (k:=k+11+8*ns.length+1) (ia (r:=2) rfl) (.inl rfl) Nq (by rw[L];omega)).trans ?_;refine(dA (k:=k+11+8*ns.length) (ia (r:=3) rfl) (.inl rfl) Nu (by rw[L];omega)).trans ?_;exact ew
 have E2:goR (pR ns) (k+11) (wS my rm lm ns y c ns.sum (ns.length:Int) 0 z,#[some (1+5*ns.length+4),[],none,1+5*ns.length+4+8*ns.length])=goR (pR ns) (k+5) (wS my rm lm ns y c ns.sum (ns.length:Int) 0 z,#[some (1+5*ns.length+16),[.num ns.sum,.num (ns.length:Int)],none,1+5*ns.length+4+8*ns.length+6]):=by
  refine(dA (k:=k+10) (ia (r:=4) rfl) (.inr rfl) rfl (by rw[L];omega)).trans ?_;refine(tW (k:=k+9) (b:=false) (t:=1+5*ns.length+6) (ia (r:=5) rfl) rfl rfl (by rw[if_neg NQ,nxP,if_pos (by rw[L];omega)])).trans ?_;refine(tW (k:=k+8) (b:=true) (t:=1+5*ns.length+13) (ia (r:=6) rfl) rfl rfl (by rw[if_pos rfl];exact mu)).trans ?_;refine(dA (k:=k+7) (ia (r:=13) rfl) (.inr rfl) rfl (by rw[L];omega)).trans ?_;refine(qU (k:=k+6) (r:=14) rfl (by decide) rfl).trans ?_;exact qU (k:=k+5) (r:=15) rfl (by decide) rfl
 rw[e,E1,E2];unfold sdL;by_cases n0:ns.length=0
 ·rw[if_pos n0]
  have hs:ns=[]:=List.length_eq_zero_iff.mp n0;have z0:ns.sum=0:=by rw[hs];rfl
  have h00:h0 ns.length=.no:=by rw[n0];rfl
  refine#[bS my rm lm (fl ns ns.length) ns.length y [h0 ns.length,h0 ns.length,c,.num ns.sum,.num (ns.length:Int),.num 1,.num 1,z],1+5*ns.length+4+8*ns.length+6+5,?_];refine(qU (k:=k+4) (r:=16) (x:=.no) rfl (by decide) (by show(match some (h0 ns.length) with|none=>none|some (.num x)=>some (Sd.num x)|some (.th t)=>some (.th (fld _ t).length)|some .no=>some .no)=some Sd.no;rw[h00])).trans ?_
  refine(tW (k:=k+3) (b:=true) (t:=1+5*ns.length+20) (ia (r:=17) rfl) rfl (by show some (decide (h0 ns.length=h0 0))=_;rw[h00];rfl) (by rw[if_pos rfl];exact mn)).trans ?_;refine(dA (k:=k+2) (ia (r:=20) rfl) (.inr rfl) rfl (by rw[L];omega)).trans ?_;refine(dA (k:=k+1) (ia (r:=21) rfl) (.inl rfl) Nr (by rw[L];omega)).trans ?_;refine(ER (k:=k) (x:=.num 1) (ia (r:=22) rfl) rfl).trans ?_;rw[nxP,if_neg (by rw[L];omega),i9 rfl,z0,n0];rfl
 ·rw[if_neg n0]
  obtain⟨j,hj⟩:∃ j,ns.length=j+1:=#[ns.length-1,by omega];have h01:h0 ns.length=.th (j:Int):=by rw[hj];exact Ee
  refine#[wS my rm lm ns y c ns.sum (ns.length:Int) 0 z,1+5*ns.length+4+8*ns.length+6+4,?_];refine(qU (k:=k+4) (r:=16) (x:=.th 2) rfl (by decide) (by show(match some (h0 ns.length) with|none=>none|some (.num x)=>some (Sd.num x)|some (.th t)=>some (.th (fld (wS my rm lm ns y c ns.sum (ns.length:Int) 0 z) t).length)|some .no=>some .no)=some (Sd.th 2);rw[h01];dsimp only;rw[CW (by omega)];rfl)).trans ?_
  refine(tW (k:=k+3) (b:=false) (t:=1+5*ns.length+18) (ia (r:=17) rfl) rfl (by show some (decide (h0 ns.length=h0 0))=_;rw[h01];rfl) (by rw[if_neg NQ,nxP,if_pos (by rw[L];omega)])).trans ?_;refine(qU (k:=k+2) (r:=18) (x:=.no) rfl (by decide) rfl).trans ?_;exact Gj (k:=k+1) (ia (r:=19) rfl)
end
section
variable{P:Program}{w:World}{K:W.Frag}{mg:Str→Option Value}{base:Heap}
theorem Nv(x:Int):(Str.ofString "number 2 ")++(toString x:Str)=R.dN (Rw.number 2 x).its:=R.pI (by
 show((Str.ofString "number 2 ").cps++(R.cK x).cps).toList=(Txt.join R.BLK [Str.ofString "number",R.cK 2,R.cK x]).cps.toList;rw[R.gN,R.gN,R.join_one,PX];rw[show(Str.ofString "number 2 ").cps.toList=(Str.ofString "number").cps.toList++(R.BLK.cps.toList++((R.cK 2).cps.toList++R.BLK.cps.toList)) by decide +kernel];simp only[O6])
theorem Nw(x:Int):[V.str "make 1 2",.str ((Str.ofString "number 2 ")++(toString x:Str)),.str "store 1 0 2",.str "store 1 1 0",.str "copy 0 1"]=(bR x).map λq=>V.str (R.dN q.its):=by
 rw[Nv];show _=[V.str (R.dN (Rw.make 1 2).its),V.str (R.dN (Rw.number 2 x).its),V.str (R.dN (Rw.store 1 0 2).its),V.str (R.dN (Rw.store 1 1 0).its),V.str (R.dN (Rw.copy 0 1).its)];rw[show R.dN (Rw.make 1 2).its=Str.ofString "make 1 2" by decide +kernel,show R.dN (Rw.store 1 0 2).its=Str.ofString "store 1 0 2" by decide +kernel,show R.dN (Rw.store 1 1 0).its=Str.ofString "store 1 1 0" by decide +kernel,show R.dN (Rw.copy 0 1).its=Str.ofString "copy 0 1" by decide +kernel]
theorem Ny:[V.str "number 3 0",.str "number 4 0",.str "number 5 1",.str "copy 6 0",.str "mark on",.str "thing 6 in",.str "go out",.str "mark in"]++([V.str "load 7 6 0",.str "add 3 7",.str "add 4 5",.str "load 6 6 1",.str "go on",.str "mark out",.str "say 3",.str "say 4",.str "say 0"]++[V.str "same 0 6 none",.str "say 6",.str "stop",.str "mark none",.str "number 6 1",.str "say 6"])=tR.map λq=>V.str (R.dN q.its):=by decide +kernel
noncomputable abbrev qT(q:Rw):V:=.str (R.dN q.its)
noncomputable def Ef(K:W.Frag):Sp:=λvs H Q _=>∃(a:Addr) (ns:List Int),vs=[.ref a]∧SqL K H a (ns.map V.int)∧ns.length≤34∧(∀ x∈ns,Num x)∧∀ l H',au H H'→H l=none→H' l=some (.lst ((pR ns).map qT))→Q (.ref l) H'
noncomputable abbrev bD:List Str:=["numbers", "rows", "number"]
theorem bp:ao bD ["numbers"] (ag ar):=fsc
theorem kE(T:Txt w K mg):Ok P w K mg base 1 1057 ["numbers"] (Ef K):=by
 refine T.o1 "_law_list_rows" bp λcdv A' outer s' H vs Q E hr h=>?_;obtain⟨a,ns,rfl,hS,hn,hN,k⟩:=h;have S0:PS (cxE P w K mg base bD "_law_list_rows" (ag ar) 1057 cdv A' outer s' H E).nox ((aA ar).getD 0 (.Pass #[0,0,0,0])) _:=(aY (i:=1) bp.nd rfl (Or.inl rfl) (cC (aa aw ah)));have S1:PS (cxE P w K mg base bD "_law_list_rows" (ag ar) 1057 cdv A' outer s' H E).nox ((aA ar).getD 1 (.Pass #[0,0,0,0])) _:=(eu OA rfl (dD (pv 0)) (bc (i:=2) bp.nd rfl (Or.inl rfl))
   (ai (aY (i:=1) bp.nd rfl (Or.inl rfl) (cb pw (pv 1) (cC (aa aw (aa (cb vt aw (cj r8 rfl T.z PyProof.Rows.Boot.«str» (aa (pv 2) ah))) (aa aw (aa aw (aa aw ah))))))))))
 have S2:PS (cxE P w K mg base bD "_law_list_rows" (ag ar) 1057 cdv A' outer s' H E).nox ((aA ar).getD 2 (.Pass #[0,0,0,0])) _:=(aY (i:=1) bp.nd rfl (Or.inl rfl) (cb pw (pv 1) (cC (aa aw (aa aw (aa aw (aa aw (aa aw (aa aw (aa aw (aa aw ah)))))))))));have S3:PS (cxE P w K mg base bD "_law_list_rows" (ag ar) 1057 cdv A' outer s' H E).nox ((aA ar).getD 3 (.Pass #[0,0,0,0])) _:=(aY (i:=1) bp.nd rfl (Or.inl rfl) (cb pw (pv 1) (cC (aa aw (aa aw (aa aw (aa aw (aa aw (aa aw (aa aw (aa aw (aa aw ah))))))))))));have S4:PS (cxE P w K mg base bD "_law_list_rows" (ag ar) 1057 cdv A' outer s' H E).nox ((aA ar).getD 4 (.Pass #[0,0,0,0])) _:=(aB (cb pw (pv 1) (cC (aa aw (aa aw (aa aw (aa aw (aa aw (aa aw ah)))))))));have hb:aA ar=[(aA ar).getD 0 (.Pass #[0,0,0,0]),(aA ar).getD 1 (.Pass #[0,0,0,0]),(aA ar).getD 2 (.Pass #[0,0,0,0]),(aA ar).getD 3 (.Pass #[0,0,0,0]),(aA ar).getD 4 (.Pass #[0,0,0,0])]:=rfl;generalize (aA ar).getD 0 (.Pass #[0,0,0,0])=st0 at S0 hb;generalize (aA ar).getD 1 (.Pass #[0,0,0,0])=st1 at S1 hb;generalize (aA ar).getD 2 (.Pass #[0,0,0,0])=st2 at S2 hb;generalize (aA ar).getD 3 (.Pass #[0,0,0,0])=st3 at S3 hb;generalize (aA ar).getD 4 (.Pass #[0,0,0,0])=st4 at S4 hb;generalize aA ar=bd at hb ⊢;subst hb;refine#[_,(PSs.nox (ak S0 (ak S1 (ak S2 (ak S3 (ai S4)))))),?_];simp only[gw];refine a9 λN1 h1=>?_;refine#[by show 1≤sizeLine;decide,λl0 hl0=>h1 _ _ ?_];have s1:=au.upd (o:=.lst [V.str "drop 0"]) hl0;refine a9 λN2 h2=>?_;refine#[_,rfl,a,rfl,#[_,s1.seq hS],iT (K:=K) (a:=a) (xs:=ns.map V.int) (λi σ Hx=>∃ l v,σ=[some (V.ref a),some (.ref l),v]∧au H Hx∧H l=none∧Hx l=some (.lst ((Rw.drop 0::(ns.take i).flatMap bR).map qT))) #[l0,none,rfl,s1,hl0,ae] (λi σ Hx _ ⟨_,_,_,s,_⟩=>s.seq hS) ?_ ?_]
 ·rintro i y σ Hx hi ⟨l,v,rfl,sx,hl,zl⟩
  rw[N0]at hi;obtain⟨x,hx,rfl⟩:=Ol.mp hi;have nx:=hN x (Of hx);have li:=(NK.mp hx).1;refine#[_,rfl,_,rfl,x,rfl,Num.sm nx,_,_,rfl,rfl,?_,by show 5≤sizeLine;decide,λp hp=>#[l,p,_,_,rfl,rfl,SqL.of (au.upd hp _ _ zl),SqL.of ae,?_,λq hq=>#[q,_,rfl,?_,?_,?_]]]
  ·have:=(R.qO (n:=x) nx).2
   show 9+(R.cK x).length≤sizeLine;exact NW (show 9+(R.cK x).length≤71 by omega) (by decide)
  ·rw[NI,Oi,jy]
   show 5*(ns.take i).length+1+5≤sizeLine;exact NW (show 5*(ns.take i).length+1+5≤200 by rw[Oq];omega) (by decide)
  ·exact(sx.trans (au.upd hp)).trans (au.upd hq)
  ·exact au.none (sx.trans (au.upd hp)) hq
  ·rw[ae,take_snoc hx,List.flatMap_append,←P9,N9]
   show some (HO.lst (_++_))=some (HO.lst (_++([x].flatMap bR).map qT));rw[show[x].flatMap bR=bR x from OR _,←Nw]
 ·rintro σ Hx ⟨l,v,rfl,sx,hl,zl⟩
  refine h2 _ _ ?_;rw[NI,O3]at zl;have ln:((Rw.drop 0::ns.flatMap bR).map qT).length≤175:=by rw[NI,Oi,jy];omega
  obtain⟨rs,er⟩:∃ rs,(Rw.drop 0::ns.flatMap bR).map qT=rs:=#[_,rfl];rw[er]at zl ln;refine a9 λN3 h3=>?_;refine#[_,rfl,by show 8≤sizeLine;decide,λp hp=>#[l,p,_,_,rfl,rfl,SqL.of (au.upd hp _ _ zl),SqL.of ae,NW (show rs.length+8≤200 by omega) (by decide),λq hq=>h3 _ _ ?_]];obtain⟨t1,e1⟩:∃ t1:List V,t1=[V.str "number 3 0",.str "number 4 0",.str "number 5 1",.str "copy 6 0",.str "mark on",.str "thing 6 in",.str "go out",.str "mark in"]:=#[_,rfl];rw[←e1]at hq ⊢;have sq:=(sx.trans (au.upd (o:=.lst t1) hp)).trans (au.upd (o:=.lst (rs++t1)) hq);have zq:(upd (upd Hx p (.lst t1)) q (.lst (rs++t1))) q=some (.lst (rs++t1)):=ae;have l1:t1.length=8:=by rw[e1];rfl
  generalize upd (upd Hx p (.lst t1)) q (.lst (rs++t1))=H4 at sq zq;refine a9 λN4 h4=>?_;refine#[_,rfl,by show 9≤sizeLine;decide,λp2 hp2=>#[q,p2,_,_,rfl,rfl,SqL.of (au.upd hp2 _ _ zq),SqL.of ae,NW (show(rs++t1).length+9≤200 by rw[NX];omega) (by decide),λq2 hq2=>h4 _ _ ?_]];obtain⟨t2,e2⟩:∃ t2:List V,t2=[V.str "load 7 6 0",.str "add 3 7",.str "add 4 5",.str "load 6 6 1",.str "go on",.str "mark out",.str "say 3",.str "say 4",.str "say 0"]:=#[_,rfl];rw[←e2]at hq2 ⊢;have sq2:=(sq.trans (au.upd (o:=.lst t2) hp2)).trans (au.upd (o:=.lst (rs++t1++t2)) hq2);have zq2:(upd (upd H4 p2 (.lst t2)) q2 (.lst (rs++t1++t2))) q2=some (.lst (rs++t1++t2)):=ae;have l2:t2.length=9:=by rw[e2];rfl
  generalize upd (upd H4 p2 (.lst t2)) q2 (.lst (rs++t1++t2))=H5 at sq2 zq2;refine#[_,rfl,by show 6≤sizeLine;decide,λp3 hp3=>#[q2,p3,_,_,rfl,rfl,SqL.of (au.upd hp3 _ _ zq2),SqL.of ae,NW (show(rs++t1++t2).length+6≤200 by rw[NX,NX];omega) (by decide),λq3 hq3=>?_]];have s6:=sq2.trans (au.upd (o:=.lst [V.str "same 0 6 none",.str "say 6",.str "stop",.str "mark none",.str "number 6 1",.str "say 6"]) hp3);refine k q3 _ (s6.trans (au.upd hq3)) (au.none s6 hq3) ?_;rw[ae,←er,e1,e2,O6,O6];show some (HO.lst (_++_))=some (HO.lst ((Rw.drop 0::(ns.flatMap bR++tR)).map qT));rw[←P9,N9];exact congrArg (λz=>some (HO.lst (_++z))) Ny
end
section
noncomputable def pc(a:Int):Prop:=0≤a∧a≤100
noncomputable instance {a:Int}:Decidable (pc a):=inferInstanceAs (Decidable (_∧_))
theorem pc.num{a:Int}(h:pc a):Num a:=by unfold Num;have:=h.1;have:=h.2;omega
theorem pc.pt{a:Int}(h:pc a):R.Pt R.M5 .cnt (.int a):=.cnt h.num h.1
noncomputable def cq:Rw→Prop
 | .make a b=>pc a∧pc b|.load a b c=>pc a∧pc b∧pc c|.store a b c=>pc a∧pc b∧pc c|.copy a b=>pc a∧pc b|.drop a=>pc a|.number a x=>pc a∧Num x|.add a b=>pc a∧pc b
 | .mark m=>m∈R.M5|.go m=>m∈R.M5|.same a b m=>pc a∧pc b∧m∈R.M5|.iy a m=>pc a∧m∈R.M5|.say a=>pc a|.stop=>True|_=>False
noncomputable instance {q:Rw}:Decidable (cq q):=by cases q<;>(unfold cq;infer_instance)
theorem cq.ok{q:Rw}(h:cq q):q.ok:=by
 cases q with
 | make a b=>exact#[h.1.num,h.2.num]
 | load a b c=>exact#[h.1.num,h.2.1.num,h.2.2.num]
 | store a b c=>exact#[h.1.num,h.2.1.num,h.2.2.num]
 | copy a b=>exact#[h.1.num,h.2.num]
 | drop a=>exact pc.num h
 | number a x=>exact#[h.1.num,h.2]
 | add a b=>exact#[h.1.num,h.2.num]
 | mark m=>exact h
 | go m=>exact h
 | same a b m=>exact#[h.1.num,h.2.1.num,h.2.2]
 | iy a m=>exact#[h.1.num,h.2]
 | say a=>exact pc.num h
 | stop=>exact trivial
 | _=>exact h.elim
theorem cq.gr{q:Rw}(h:cq q):R.Gr R.M5 q.its:=by
 have m:∀ {m:Str},m∈R.M5→R.Pt R.M5 .mrk (.str m):=λh=>.mrk h (R.JU _ h);cases q with
 | make a b=>exact#[_,[.cnt,.cnt],_,rfl,by decide +kernel,.cons h.1.pt (.cons h.2.pt .nil)]
 | load a b c=>exact#[_,[.cnt,.cnt,.cnt],_,rfl,by decide +kernel,.cons h.1.pt (.cons h.2.1.pt (.cons h.2.2.pt .nil))]
 | store a b c=>exact#[_,[.cnt,.cnt,.cnt],_,rfl,by decide +kernel,.cons h.1.pt (.cons h.2.1.pt (.cons h.2.2.pt .nil))]
 | copy a b=>exact#[_,[.cnt,.cnt],_,rfl,by decide +kernel,.cons h.1.pt (.cons h.2.pt .nil)]
 | drop a=>exact#[_,[.cnt],_,rfl,by decide +kernel,.cons (pc.pt h) .nil]
 | number a x=>exact#[_,[.cnt,.num],_,rfl,by decide +kernel,.cons h.1.pt (.cons (.num h.2) .nil)]
 | add a b=>exact#[_,[.cnt,.cnt],_,rfl,by decide +kernel,.cons h.1.pt (.cons h.2.pt .nil)]
 | mark z=>exact#[_,[.mrk],_,rfl,by decide +kernel,.cons (m h) .nil]
 | go z=>exact#[_,[.mrk],_,rfl,by decide +kernel,.cons (m h) .nil]
 | same a b z=>exact#[_,[.cnt,.cnt,.mrk],_,rfl,by decide +kernel,.cons h.1.pt (.cons h.2.1.pt (.cons (m h.2.2) .nil))]
 | iy a z=>exact#[_,[.cnt,.mrk],_,rfl,by decide +kernel,.cons h.1.pt (.cons (m h.2) .nil)]
 | say a=>exact#[_,[.cnt],_,rfl,by decide +kernel,.cons (pc.pt h) .nil]
 | stop=>exact#[_,[],_,rfl,by decide +kernel,.nil]
 | _=>exact h.elim
variable{ms:List Int}
theorem Nz:∀ q∈tR,cq q:=by decide +kernel
theorem IU(hN:∀ x∈ms,Num x):∀ q∈pR ms,cq q:=by
 intro q hq;rcases NY.mp hq with rfl|hq
 ·show pc 0;decide
 ·rcases Om.mp hq with hq|hq
  ·obtain⟨x,hx,hq⟩:=Po.mp hq
   simp only[bR,NY,OM,or_false]at hq;rcases hq with rfl|rfl|rfl|rfl|rfl
   ·show pc 1∧pc 2;decide
   ·exact#[by decide,hN x hx]
   ·show pc 1∧pc 0∧pc 2;decide
   ·show pc 1∧pc 1∧pc 0;decide
   ·show pc 0∧pc 1;decide
  ·exact Nz q hq
theorem tG:R.marks ((pR ms).map Rw.its)=R.M5:=by
 unfold R.marks pR;rw[Oo,N9,List.filterMap_cons];show List.filterMap R.vh ((ms.flatMap bR).map Rw.its++tR.map Rw.its)=R.M5;rw[Pd];have e:List.filterMap R.vh ((ms.flatMap bR).map Rw.its)=[]:=by
  rw[List.filterMap_eq_nil_iff];intro r hr;obtain⟨q,hq,rfl⟩:=Og.mp hr;obtain⟨x,hx,hq⟩:=Po.mp hq;simp only[bR,NY,OM,or_false]at hq;rcases hq with rfl|rfl|rfl|rfl|rfl<;>rfl
 rw[e,List.nil_append];decide +kernel
theorem Kj(hN:∀ x∈ms,Num x)(hl:ms.length≤34):R.Okp ((pR ms).map Rw.its):=R.FX (λr hr=>by obtain⟨q,hq,rfl⟩:=Og.mp hr;exact(IU hN q hq).gr) (λx h=>by rw[tG];exact h) (by rw[tG];decide +kernel) (λz=>by cases z) (by rw[NI,iA];omega)
theorem NA(hN:∀ x∈ms,Num x)(hl:ms.length≤34):Qk (pR ms):=#[λq hq=>(IU hN q hq).ok,by rw[iA];omega,Gg tG]
end
end K27
end
section
namespace L2
open PySem PySem.Spec PyProof.Rows LX
theorem Gm{X:Cx}{i:Nat}{x:Str}{st:Stmt}{t0 t1 t2 t3:TE}(hh:∃ es p q1 q2,st=.Assign [.Name x q1] (.List es p) q2∧∃ e0 e1 e2 e3,es=[e0,e1,e2,e3]∧(PE X e0 t0∧nsE e0=true)∧(PE X e1 t1∧nsE e1=true)∧(PE X e2 t2∧nsE e2=true)∧(PE X e3 t3∧nsE e3=true))(hN:X.N.Nodup)(hi:X.N[i]?=some x)(hx:Loc X.env.scope x)(hf:X.fn x=true∨X.env.scope.names.lookup x=some .local) :
  PS X st (zX (Kw (gW t0 (gW t1 (gW t2 (gW t3 uE))))) (gw i)):=by
 obtain⟨es,p,q1,q2,rfl,e0,e1,e2,e3,rfl,⟨h0,n0⟩,⟨h1,n1⟩,⟨h2,n2⟩,⟨h3,n3⟩⟩:=hh;exact Dx hN hi hx (cC (cU h0 (cU h1 (cU h2 (cU h3 ah n3) n2) n1) n0)) hf
end L2
end
section
namespace K27
open PySem L2 LX
section
variable{P:Program}{w:World}{K:W.Frag}{mg:Str→Option Value}{base:Heap}
theorem xg{H:Hp}{l:Addr}{ds:List Sd}(h:Sds H l ds):Rp H 2 (.ref l) (.l (ds.map λd=>.t (d.its.map Vl.a))):=by
 obtain⟨us,h1,h2,h3⟩:=h;refine#[l,us,rfl,h1,by rw[h2,NI],λi u x e1 e2=>?_];rw[N0]at e2;obtain⟨d,ed,rfl⟩:=Ol.mp e2;obtain⟨a,rfl,ha⟩:=h3 i u d e1 ed;refine#[a,d.its,rfl,ha,by rw[NI],λj v y f1 f2=>?_];rw[N0,f1]at f2;cases f2;have fl:∀ v∈d.its,cQ v=true:=by cases d<;>(intro v hv;simp[Sd.its]at hv;first|(rcases hv with rfl|rfl<;>rfl)|(rw[hv];rfl))
 exact Rp.flat (fl v (Of f1))
theorem Br(o:Option Er):cQ (fnV o)=true:=by cases o<;>rfl
theorem B7{H:Hp}{l tp:Addr}{ds:List Sd}{o:Option Er}{n:Int}(h:Sds H l ds)(z:H tp=some (.tup [.ref l,fnV o,.int n])):Rp H 3 (.ref tp) (.t [.l (ds.map λd=>.t (d.its.map Vl.a)),.a (fnV o),.a (.int n)]):=by
 refine#[tp,_,rfl,z,rfl,λi u x e1 e2=>?_]
 match i,e1,e2 with
 | 0,e1,e2=>cases e1;cases e2;exact xg h
 | 1,e1,e2=>cases e1;cases e2;exact Rp.flat (Br o)
 | 2,e1,e2=>cases e1;cases e2;exact Rp.flat rfl
 | i+3,e1,e2=>cases e1
theorem Ru.new{my:Bool}{y l:Int}{qs:List Rw}(hg:Gd (s0 my y l)):Ru qs (s0 my y l) (rs0 qs) 0:=#[hg,OF _,nm0,λp h=>tV h,NO _]
theorem ye{F F':Addr→Prop}{H H1 H':Hp}(s:au H H1)(n:∀ b,F b→H b=none)(f:Fr F H1 F' H'):au H H':=λb u q=>f.ext b u (λz=>by rw[n b z]at q;cases q) (s _ _ q)
noncomputable def nf(c:Int):Int:=c%10 ^ 57-10 ^ 56
theorem NB(c:Int):-(10 ^ 57)≤nf c∧nf c≤10 ^ 57:=by
 have a:=Int.emod_nonneg c (show(10 ^ 57:Int)≠0 by decide +kernel);have b:=Int.emod_lt_of_pos c (show(0:Int)<10 ^ 57 by decide +kernel);unfold nf;omega
theorem Kk{ns:List Int}:rf (ns.map V.int) none (some 34)=(ns.take 34).map V.int:=by
 unfold rf;rw[HT.uH,List.drop_zero,show HT.sIx (ns.map V.int).length (ns.map V.int).length (some 34)=min 34 (ns.map V.int).length from HT.xn _ _ 34,List.map_take,Nat.sub_zero];by_cases c:34≤(ns.map V.int).length
 ·rw[Nat.min_eq_left c]
 ·rw[Nat.min_eq_right (by omega),O3,NZ (by omega)]
theorem K5{H:Hp}{ls q0 q1 q2 q3:Addr}{d0 d1 d2 d3:Sd}(h:H ls=some (.lst [.ref q0,.ref q1,.ref q2,.ref q3]))(h0:H q0=some (.tup d0.its))(h1:H q1=some (.tup d1.its))(h2:H q2=some (.tup d2.its))(h3:H q3=some (.tup d3.its)):Sds H ls [d0,d1,d2,d3]:=#[_,h,rfl,λi u d e1 e2=>by
 match i,e1,e2 with
 | 0,e1,e2=>cases e1;cases e2;exact#[_,rfl,h0]
 | 1,e1,e2=>cases e1;cases e2;exact#[_,rfl,h1]
 | 2,e1,e2=>cases e1;cases e2;exact#[_,rfl,h2]
 | 3,e1,e2=>cases e1;cases e2;exact#[_,rfl,h3]
 | i+4,e1,e2=>cases e1]
noncomputable def ifW(x:Stmt):Stmt:=match (aA bL).getD 3 (.Pass #[0,0,0,0]) with|.If t _ o p=>.If t [x] o p|s=>s
noncomputable abbrev jd:List Str:=["script", "numbers", "program", "said", "young", "found", "short"]
theorem jz:ao jd ["script"] (ag bL):=fsc
theorem Gn(T:Txt w K mg):Ok P w K mg base 15 1062 ["script"] (CP K):=by
 refine T.o1 "law" jz λcdv A' outer s' H vs Q E hr h=>?_;obtain⟨a,ns,rfl,hS,hlen,k⟩:=h;have hu3:=Ow (PQ (by decide:3≤64) _) hr.units;have hu2:=Ow (PQ (by decide:2≤64) _) hr.units;have S0:PS (cxE P w K mg base jd "law" (ag bL) 1062 cdv A' outer s' H E).nox ((aA bL).getD 0 (.Pass #[0,0,0,0])) _:=(xB (cl:=[]) (x := "cell") (idx:=[]) (NC:=["cell"]) (i:=1) jz.nd rfl rfl (by exact gn (sc:=ag bL) (N:=jd) (ns:=[]) rfl rfl rfl (by decide +kernel) rfl rfl (by intro q hq;cases hq)) rfl (dD (pW xq (cj gQ rfl T.z PyProof.Rows.Boot.«list» (aa (pv 0) ah)) sT (sU aq))) (λC fp s₀ H₀=>(cb tI (cb E3 (pv 0) (cb wK aq aq)) (cb wK aq aq))));have S1:PS (cxE P w K mg base jd "law" (ag bL) 1062 cdv A' outer s' H E).nox ((aA bL).getD 1 (.Pass #[0,0,0,0])) _:=(aY (i:=2) jz.nd rfl (Or.inl rfl) ((nP T).c hr b4 (aa (m8 PySem.F.plainAttrs_str PySem.F.slot_str_join PySem.F.type_str_join Dn aw (aa ((kE T).c hr b4 (aa (pv 1) ah)) ah)) ah)));have S2:PS (cxE P w K mg base jd "law" (ag bL) 1062 cdv A' outer s' H E).nox ((aA bL).getD 2 (.Pass #[0,0,0,0])) _:=(aY (i:=3) jz.nd rfl (Or.inl rfl) (cC (cU (bY (aa aw (aa (aX (rO rfl) rfl T.z PyProof.Rows.Boot.«sum» (aa (pv 1) ah)) ah))) (cU (bY (aa aw (aa (aX aT rfl T.z PyProof.Rows.Boot.«len» (aa (pv 1) ah)) ah))) (cU (bY (aa aw (aa aq ah))) (cU (bY (aa aw ah)) ah))))));obtain⟨inr,eI,hI⟩:∃ inr,(aA bL).getD 3 (.Pass ⟨0,0,0,0⟩)=ifW inr∧∃ es p q1 q2,inr=.Assign [.Name "said" q1] (.List es p) q2∧∃ e0 e1 e2 e3,es=[e0,e1,e2,e3]∧(PE (cxE P w K mg base jd "law" (ag bL) 1062 cdv A' outer s' H E).nox e0 (C2 (gW (tC (.str "number")) (gW (tC (.int 0)) uE)))∧nsE e0=true)∧(PE (cxE P w K mg base jd "law" (ag bL) 1062 cdv A' outer s' H E).nox e1 (C2 (gW (tC (.str "number")) (gW (tC (.int 0)) uE)))∧nsE e1=true)∧(PE (cxE P w K mg base jd "law" (ag bL) 1062 cdv A' outer s' H E).nox e2 (C2 (gW (tC (.str "none")) uE))∧nsE e2=true)∧(PE (cxE P w K mg base jd "law" (ag bL) 1062 cdv A' outer s' H E).nox e3 (C2 (gW (tC (.str "number")) (gW (tC (.int 1)) uE)))∧nsE e3=true):=#[_,rfl,_,_,_,_,rfl,_,_,_,_,rfl,#[bY (cU aw (cU aq ah)),rfl],#[bY (cU aw (cU aq ah)),rfl],#[bY (cU aw ah),rfl],#[bY (cU aw (cU aq ah)),rfl]];have S3:PS (cxE P w K mg base jd "law" (ag bL) 1062 cdv A' outer s' H E).nox (ifW inr) _:=a6 (aH dB (aX aT rfl T.z PyProof.Rows.Boot.«len» (aa (pv 1) ah)) aq (aN _)) (ai (Gm (i:=3) hI jz.nd rfl (Or.inl rfl) (.inl rfl))) aK;have S4:PS (cxE P w K mg base jd "law" (ag bL) 1062 cdv A' outer s' H E).nox ((aA bL).getD 4 (.Pass #[0,0,0,0])) _:=(eu OA rfl (dD (cC (aa aq (aa aq (aa aq ah))))) (bc (i:=4) jz.nd rfl (Or.inl rfl))
   (ak (aY (i:=5) jz.nd rfl (Or.inl rfl) ((pQ T).c hr b4 (aa (pv 2) (aa (sS (T.mkk 969) (bI T).g (hr.mono (by decide)) rfl T.m (bI (P:=P) (base:=base) T).b .nil wX (aa (pv 4) (aa (aX (yr rfl) rfl T.z PyProof.Rows.Boot.«max» (aa aq (aa (cb wJ aq (aX aT rfl T.z PyProof.Rows.Boot.«len» (aa (pv 1) ah))) ah))) ah))) (aa aq ah)))))
   (ak (a6 (PW.pt (pw_or (aH (BE (n:=2) hu2) (aP aL (pv 5) aq (λ_ _=>rfl)) (pv 3) (aN _)) (pw_or1 (aH lF (aP aL (pv 5) aq (λ_ _=>rfl)) bu (aN _)))))
    (ai (aB k9))
    aK)
   (ai (a6 (aH tK (aX aT rfl T.z PyProof.Rows.Boot.«len» (aa (pv 1) ah)) aq (aN _))
    (ak (aY (i:=6) jz.nd rfl (Or.inl rfl) ((pQ T).c hr b4 (aa (pv 2) (aa (sS (T.mkk 969) (bI T).g (hr.mono (by decide)) rfl T.m (bI (P:=P) (base:=base) T).b .nil wX (aa (pv 4) (aa (cb tI (cb wJ aq (aX aT rfl T.z PyProof.Rows.Boot.«len» (aa (pv 1) ah))) aq) ah))) (aa aq ah)))))
    (ai (a6 (aH (BE (n:=3) hu3) (pv 6) (bY (aa (cC ah) (aa aw (aa (cb tI (cb wJ aq (aX aT rfl T.z PyProof.Rows.Boot.«len» (aa (pv 1) ah))) aq) ah)))) (aN _))
     (ai (aB k9))
     aK)))
    aK)))))
 have S5:PS (cxE P w K mg base jd "law" (ag bL) 1062 cdv A' outer s' H E).nox ((aA bL).getD 5 (.Pass #[0,0,0,0])) _:=(aB k9);have hb:aA bL=[(aA bL).getD 0 (.Pass #[0,0,0,0]),(aA bL).getD 1 (.Pass #[0,0,0,0]),(aA bL).getD 2 (.Pass #[0,0,0,0]),(aA bL).getD 3 (.Pass #[0,0,0,0]),(aA bL).getD 4 (.Pass #[0,0,0,0]),(aA bL).getD 5 (.Pass #[0,0,0,0])]:=rfl;generalize (aA bL).getD 0 (.Pass #[0,0,0,0])=st0 at S0 hb;generalize (aA bL).getD 1 (.Pass #[0,0,0,0])=st1 at S1 hb;generalize (aA bL).getD 2 (.Pass #[0,0,0,0])=st2 at S2 hb;rw[eI]at hb;generalize ifW inr=st3 at S3 hb;generalize (aA bL).getD 4 (.Pass #[0,0,0,0])=st4 at S4 hb;generalize (aA bL).getD 5 (.Pass #[0,0,0,0])=st5 at S5 hb;generalize aA bL=bd at hb ⊢;subst hb;refine#[_,(PSs.nox (ak S0 (ak S1 (ak S2 (ak S3 (ak S4 (ai S5))))))),?_];simp only[gw];refine a9 λN1 h1=>?_;refine#[_,rfl,a,_,rfl,.inl hS,λp hp=>#[34,rfl,p,_,rfl,SqL.of ae,λp1 hp1=>#[p1,rfl,#[_,SqL.of ae],λL hL=>?_]]];have sA0:=(au.upd (o:=.lst (ns.map V.int)) hp).trans (au.upd (o:=.lst (rf (ns.map V.int) none (some 34))) hp1);have z0:upd (upd H p (.lst (ns.map V.int))) p1 (.lst (rf (ns.map V.int) none (some 34))) p1=some (.lst (rf (ns.map V.int) none (some 34))):=ae;generalize upd (upd H p (.lst (ns.map V.int))) p1 (.lst (rf (ns.map V.int) none (some 34)))=H0 at sA0 z0 hL ⊢;rw[Kk]at z0;have l34:(ns.take 34).length≤34:=by rw[Oq];omega
 refine gB (K:=K) (a:=p1) (xs:=(ns.take 34).map V.int) (λi ys Hc=>ys=(((ns.take 34).take i).map nf).map V.int∧au H0 Hc∧Hc L=some (.lst ys)) #[rfl,au.upd hL,ae] (λi ys Hc hi ⟨e,_,z⟩=>#[z,by rw[e,NI,NI,Oq];rw[NI]at hi;omega]) (λi ys Hc _ ⟨_,sc,_⟩=>SqL.of (sc _ _ z0)) (qG (by rw[NI];omega)) (λi v ys Hc hi ⟨e,sc,z⟩=>?_) (λys H1 ⟨e,s1,z1⟩=>?_)
 ·rw[N0]at hi
  obtain⟨x,hx,rfl⟩:=Ol.mp hi;refine#[_,rfl,10,57,rfl,rfl,#[by decide,by decide,by decide],x,_,rfl,rfl,(by decide +kernel),10,56,rfl,rfl,#[by decide,by decide,by decide],_,_,rfl,rfl,z,?_,?_,ae]
  ·rw[e,take_snoc hx,N9,N9]
   rfl
  ·exact λb u q=>by rw[ab (λz2=>by rw[z2,hL]at q;cases q)];exact sc _ _ q
 rw[NI,O3]at e;obtain⟨ms,em⟩:∃ ms,(ns.take 34).map nf=ms:=#[_,rfl];have lm:ms.length≤34:=by rw[←em,NI];exact l34
 have bm:∀ x∈ms,-(10 ^ 57)≤x∧x≤10 ^ 57:=λx hx=>by rw[←em]at hx;obtain⟨c,_,rfl⟩:=Og.mp hx;exact NB c
 rw[em]at e;subst e;have nm:∀ x∈ms,Num x:=λx h=>by have:=bm x h;unfold Num;omega
 clear l34 em z0 hL;have sH:=sA0.trans s1;refine h1 _ _ ?_;refine a9 λN2 h2=>?_;refine#[rfl,_,rfl,L,ms,rfl,SqL.of z1,lm,nm,λl H2 s2 hl zl=>#[_,l,(pR ms).map (λq=>R.dN q.its),rfl,rfl,SqL.of (by rw[zl,OD];rfl),?_,#[(pR ms).map Rw.its,?_,Kj nm lm,λt as H3 s3 ht pg=>h2 _ _ ?_]]]
 ·have h1:=R.tT (b:=2000) (xs:=(pR ms).map (λq=>R.dN q.its)) λx hx=>by
   obtain⟨q,hq,rfl⟩:=Og.mp hx;exact R.qd (IU nm q hq).gr.rok
  rw[NI,iA]at h1 ⊢;rw[R.CT];show _+(5*ms.length+24)*1≤_;omega
 ·rw[R.CT]
  unfold R.Aa;rw[OD];rfl
 have pm:=Kc pg;have Z:=NA nm lm;have sH3:=(sH.trans s2).trans s3;have zL:H3 L=some (.lst (ms.map V.int)):=s3 _ _ (s2 _ _ z1);clear pg ht zl hl z1;refine a9 λN3 h3=>?_;refine#[_,rfl,L,ms,rfl,SqL.of zL,by show 2≤sizeLine;decide,λq0 hq0=>?_];have a0:=au.upd (o:=.tup [.str "number",.int ms.sum]) hq0;refine#[_,rfl,L,_,rfl,.inl (SqL.of (a0 _ _ zL)),by show 2≤sizeLine;decide,λq1 hq1=>#[by show 2≤sizeLine;decide,λq2 hq2=>#[by show 1≤sizeLine;decide,λq3 hq3=>#[by show 4≤sizeLine;decide,λls hls=>h3 _ _ ?_]]]];have c1:=au.upd (o:=.tup [.str "number",.int ((ms.map V.int).length:Int)]) hq1;have c2:=au.upd (o:=.tup [.str "thing",.int 2]) hq2;have c3:=au.upd (o:=.tup [.str "none"]) hq3;have c4:=au.upd (o:=.lst [V.ref q0,.ref q1,.ref q2,.ref q3]) hls;have z4:=K5 (d0:=.num ms.sum) (d1:=.num (ms.length:Int)) (d2:=.th 2) (d3:=.no) (ae (o:=.lst [V.ref q0,.ref q1,.ref q2,.ref q3]) (a:=ls)) (c4 _ _ (c3 _ _ (c2 _ _ (c1 _ _ ae)))) (c4 _ _ (c3 _ _ (c2 _ _ (by rw[ae,NI];rfl)))) (c4 _ _ (c3 _ _ ae)) (c4 _ _ ae);have bS:=(((a0.trans c1).trans c2).trans c3).trans c4;generalize upd _ ls _=HS at z4 bS ⊢;refine a9 λN4 h4=>?_;have rest:∀ l5 H5,au H3 H5→Sds H5 l5 (sdL ms)→N4 [some (V.ref a),some (.ref L),some (.ref t),some (.ref l5),none,none,none] H5:=by
  intro l5 H5 s5 z5;refine h4 _ _ ?_;refine a9 λN5 h5=>?_;refine#[by show 3≤sizeLine;decide,λlp hlp=>?_];have s6:=au.upd (o:=.lst [V.int 0,.int 7,.int 30]) hlp;refine#[lp,rfl,#[_,SqL.of ae],iT (K:=K) (a:=lp) (xs:=[V.int 0,.int 7,.int 30]) (λi σ Hx=>∃ v4 v5 v6,σ=[some (V.ref a),some (.ref L),some (.ref t),some (.ref l5),v4,v5,v6]∧au (upd H5 lp (.lst [V.int 0,.int 7,.int 30])) Hx) #[_,_,_,rfl,λ_ _ q=>q] (λi σ Hx _ ⟨_,_,_,_,s7⟩=>SqL.of (s7 _ _ ae)) ?_ ?_]
  ·rintro i yv σ Hx hi ⟨v4,v5,v6,rfl,s7⟩
   obtain⟨yo,hy,rfl⟩:∃ yo:Int,(yo=0∨(7≤yo∧yo≤64))∧yv=.int yo:=by
    match i,hi with
    | 0,hi=>cases hi;exact#[0,.inl rfl,rfl]
    | 1,hi=>cases hi;exact#[7,.inr (by decide),rfl]
    | 2,hi=>cases hi;exact#[30,.inr (by decide),rfl]
    | i+3,hi=>cases hi
   have s8:=s6.trans s7;have zL5:Hx L=some (.lst (ms.map V.int)):=s8 _ _ (s5 _ _ zL);have pm5:Pm Hx t (pR ms):=pm.keep (a8.of (s5.trans s8));have z5x:Sds Hx l5 (sdL ms):=z5.keep (a8.of s8) λus h=>s8 _ _ h;simp only[gw];refine a9 λN6 h6=>?_;refine#[_,rfl,_,rfl,_,rfl,L,_,rfl,.inl (SqL.of zL5),3,_,rfl,rfl,.inl #[by decide,by decide],7,_,rfl,λx dx hx hdx nd=>?_];rw[NI];obtain⟨lim,el⟩:∃ lim:Int,(if 3*(ms.length:Int)>7 then 3*(ms.length:Int) else 7)=lim:=#[_,rfl];rw[el];have b1:7≤lim∧lim≤400∧3*(ms.length:Int)≤lim:=(by rw[←el];split<;>omega);refine#[x,dx,yo,lim,rfl,ae,hy,b1.1,b1.2.1,λA H6 J B0 F0=>#[rfl,?_]];have s9:au Hx H6:=λb u q=>B0 b u (aj q hx) (by rw[ab (aj q hx),ab (aj q hdx)];exact q);have f9:∀ b,aO x A (s0 (decide (yo>0)) yo lim) b→Hx b=none:=λb fb=>by
    rcases F0 b fb with e|e
    ·rw[e];exact hx
    ·cases qb:Hx b with
     | none=>rfl
     | some u=>rw[ab (aj qb hx),ab (aj qb hdx),qb]at e;cases e
   obtain⟨s2',d',eg⟩:=good (my:=decide (yo>0)) (rm:=yo) (lm:=lim) bm lm b1.2.2 2000 (by omega);refine#[x,A,_,t,pR ms,2000,rfl,J,pm5.keep (a8.of s9),Z,Ru.new gd0,NO _,?_];rw[eg];intro A' H7 l tp J7 f7 ztp zs nl G7;have s10:au Hx H7:=ye s9 f9 f7;clear J7 nl G7 f7 f9 J F0 B0;refine h6 _ _ ?_;have r1:=xg zs;have r2:=xg (z5x.keep (a8.of s10) λus h=>s10 _ _ h);have zL7:H7 L=some (.lst (ms.map V.int)):=s10 _ _ zL5;refine a9 λN7 h7=>?_;refine#[_,rfl,tp,_,0,.ref l,rfl,rfl,SqT.of ztp,rfl,_,rfl,_,_,r1,r2,_,rfl,gA (by rw[lh r1 r1];rfl) #[_,rfl,tp,_,1,.non,rfl,rfl,SqT.of ztp,rfl,rfl,_,rfl,gA (by rfl) (h7 _ _ ?_)]];refine#[_,rfl,L,_,rfl,.inl (SqL.of zL7),_,_,rfl,rfl,_,rfl,?_];rw[NI];by_cases c:2<ms.length
   ·refine lA (decide_eq_true (by omega)) ?_
    obtain⟨n,en⟩:∃ n,ms.length=n+1:=#[ms.length-1,by omega];refine a9 λN8 h8=>?_;refine#[_,rfl,_,rfl,_,rfl,L,_,rfl,.inl (SqL.of zL7),3,_,rfl,rfl,.inl #[by decide,by decide],_,_,rfl,rfl,λx2 dx2 hx2 hdx2 nd2=>?_];rw[NI];refine#[x2,dx2,yo,3*(ms.length:Int)-1,rfl,ae,hy,by omega,by omega,λA2 H8 J2 B2 F2=>#[rfl,?_]];have s11:au H7 H8:=λb u q=>B2 b u (aj q hx2) (by rw[ab (aj q hx2),ab (aj q hdx2)];exact q);have f11:∀ b,aO x2 A2 (s0 (decide (yo>0)) yo (3*(ms.length:Int)-1)) b→H7 b=none:=λb fb=>by
     rcases F2 b fb with e|e
     ·rw[e];exact hx2
     ·cases qb:H7 b with
      | none=>rfl
      | some u=>rw[ab (aj qb hx2),ab (aj qb hdx2),qb]at e;cases e
    obtain⟨s3',eg2⟩:=short (my:=decide (yo>0)) (rm:=yo) (lm:=3*(ms.length:Int)-1) (n:=n) en nm (by omega) (by omega) 2000 (by omega);refine#[x2,A2,_,t,pR ms,2000,rfl,J2,(pm5.keep (a8.of s10)).keep (a8.of s11),Z,Ru.new gd0,NO _,?_];rw[eg2];intro A3 H9 l2 tp2 J9 f9 ztp2 zs2 nl2 G9;have s12:au H7 H9:=ye s11 f11 f9;clear J9 nl2 G9 f9 f11 J2 F2 B2;refine h8 _ _ ?_;refine#[_,rfl,by show 0≤sizeLine;decide,λe0 he0=>#[_,rfl,L,_,rfl,.inl (SqL.of (au.upd he0 _ _ (s12 _ _ zL7))),5,_,rfl,rfl,.inl #[by decide,by decide],_,_,rfl,rfl,by show 3≤sizeLine;decide,λe1 he1=>?_]];rw[NI];have g0:=au.upd (o:=.lst []) he0;have g1:=au.upd (o:=.tup [.ref e0,.str "NoRoom",.int (5*(ms.length:Int)-3)]) he1;have r3:=B7 (zs2.keep (a8.of (g0.trans g1)) λus h=>(g0.trans g1) _ _ h) ((g0.trans g1) _ _ ztp2);have r4:=B7 (l:=e0) (tp:=e1) (ds:=[]) (o:=some .room) (n:=5*(ms.length:Int)-3) #[[],g1 _ _ ae,rfl,λi u d h=>by cases h] ae;rw[show((1+5*n+1:Nat):Int)=5*(ms.length:Int)-3 by omega]at r3;exact#[_,_,r3,r4,_,rfl,gA (by rw[lh r3 r3];rfl) #[_,_,_,rfl,(((s7.trans s10).trans s12).trans g0).trans g1]]
   ·exact gA (decide_eq_false (by omega)) #[_,_,_,rfl,s7.trans s10]
  ·rintro σ Hx ⟨v4,v5,v6,rfl,s7⟩
   exact h5 _ _ (k Hx)
 clear h4;refine#[_,rfl,L,_,rfl,.inl (SqL.of (bS _ _ zL)),rfl,_,rfl,?_];by_cases c:ms.length=0
 ·refine bw (λ_=>?_) (λh=>absurd (by rw[NI,c];rfl) h)
  refine#[by show 2≤sizeLine;decide,λr0 hr0=>#[by show 2≤sizeLine;decide,λr1 hr1=>#[by show 1≤sizeLine;decide,λr2 hr2=>#[by show 2≤sizeLine;decide,λr3 hr3=>#[by show 4≤sizeLine;decide,λl5 hl5=>?_]]]]];have d0:=au.upd (o:=.tup [.str "number",.int 0]) hr0;have d1:=au.upd (o:=.tup [.str "number",.int 0]) hr1;have d2:=au.upd (o:=.tup [.str "none"]) hr2;have d3:=au.upd (o:=.tup [.str "number",.int 1]) hr3;have d4:=au.upd (o:=.lst [V.ref r0,.ref r1,.ref r2,.ref r3]) hl5;refine rest l5 _ (bS.trans ((((d0.trans d1).trans d2).trans d3).trans d4)) ?_;unfold sdL;rw[if_pos c];exact K5 (d0:=.num 0) (d1:=.num 0) (d2:=.no) (d3:=.num 1) ae (d4 _ _ (d3 _ _ (d2 _ _ (d1 _ _ ae)))) (d4 _ _ (d3 _ _ (d2 _ _ ae))) (d4 _ _ (d3 _ _ ae)) (d4 _ _ ae)
 ·refine bw (λh=>absurd (of_decide_eq_true h) ?_) (λ_=>rest ls HS bS ?_)
  ·intro z
   injection z with z;rw[NI]at z;omega
  ·unfold sdL
   rw[if_neg c];exact z4
end
end K27
end
section
namespace K27
open PySem L2 LX
open PySem.W
theorem all_mk{l:OpenLaw}{w:World}{h:Heap}{mg:Str→Option Value}{fa:Addr}(X:(hK w.params).In h)(G:h.Ns mainGlobals mg)(hfa:mg "law" = some (.ref fa)):∃ fd:FuncData,(∀(s:Shared) (v:Value),BindsTo s fd #[[v],[]] [("script",v)])∧∀ base:Heap,(hK w.params).In base→base.Ns mainGlobals mg→cx l.prog w (hK w.params) mg base (CXE l.prog w) 15 fa fd ["script"] (CP (hK w.params)):=by
 have T:Txt w (hK w.params) mg:=#[rfl,λh=>mg_of X G h,λh=>mg_none_of X G h];have e:=(T.m (na := "law") (v:=.ref 1062)).symm.trans hfa;cases e;refine#[fdA w.params 1062,λs v=>?_,λbase _ _=>(Gn (P:=l.prog) (base:=base) T).g];obtain⟨_,_,_,_,_,_,_,_,_,e,_⟩:=(T.fn (st:=bL) (f:=1062) "law").ex;rw[e];exact .of_eq rfl
theorem walk{l:OpenLaw}{q:Program}{loose:List Str}{XP:(Str→Option Value)→Heap→Prop}{YP:World→Heap→Prop}{d:DefRec}(hn:l.most=some 63)(hdf:d.params.defaults=[])(hd:d.name = "law")(hY:∀(w:World) (h:Heap),YP w h→(hK w.params).In h):WalkO q loose XP YP l.row.toRowW d [] (λf vs=>PySem.call f vs) :=
 L2.C8 (n:=63) (k:=15) (x := "script") (CX:=λw=>CXE l.prog w) (sp:=λw=>CP (hK w.params)) hn (by decide) hdf #[rfl,by decide,by decide] hY (λw mg fa h KX G hmg=>all_mk KX G (hd ▸ hmg)) (λ_ _ a ns hl _ hS=>#[a,ns,rfl,hS,hl,λ_=>rfl]) λ_ _ _ _ _ z=>Ju z
end K27
open PySem PySem.W PyProof.Rows
set_option maxRecDepth 100000 in
set_option maxHeartbeats 0 in
theorem PySem.Challenge.cw_stillheap_k27_whole_lists_added_up_holds : PySem.Challenge.rw_stillheap_k27_whole_lists_added_up.Holds := by
 w_on;refine holds_law K27.wsd λaV=>?_
 refine holds_open (q:=K27.hQ) (loose:=K27.hLo) (Xt:=λs=>xlAt K27.hQ [] s&&recOk (RowW.records (OpenRow.toRowW (OpenLaw.row PySem.Challenge.rw_stillheap_k27_whole_lists_added_up))) s)
  (XP:=XL K27.hQ []) (Yf:=Hook.obs (kHook K27.hK K27.hAs K27.fJ)) (Ya:=Hook.val (kHook K27.hK K27.hAs K27.fJ)) (YP:=Hook.says (kHook K27.hK K27.hAs K27.fJ)) (N:=15278)
  K27.Jj (Hook.of (kHook K27.hK K27.hAs K27.fJ)) (Hook.keeps (kHook K27.hK K27.hAs K27.fJ))
  (λs e=>xl_of s (Bool.and_eq_true_iff.mp e).1) XL.keeps (by rfl) (by rfl) (by rfl)
  (λs e=>recFacts_of (Bool.and_eq_true_iff.mp e).2) (by rfl) (by first|assumption|decide +kernel)
  (by decide +kernel) #[rfl,rfl,rfl,rfl,rfl,by decide +kernel] ?hw ?hc
 (case hw=>w_witness2)
 refine K27.walk (l:=PySem.Challenge.rw_stillheap_k27_whole_lists_added_up) rfl rfl rfl (λw h Y=>PySem.W.kIn_of Y)
end
