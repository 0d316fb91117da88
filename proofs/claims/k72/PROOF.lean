import PyProof.Rows.All
import Wide.All
import OpenK.AllK
import Wide.FinOn
import PyProof.EqAt
import PyProof.EqKinds
import PyProof.TupleCall
import OpenK.KCls
import PyProof.ExcClass2
import PyProof.ExcBaseAll.ValueError
import PyProof.ExcArgs
import PyProof.Rows.Exc
import KE.KIsAll
import PyProof.StationsW
import PyProof.EnumFor
import PyProof.EnumStmt
import PyProof.EnumMake
import PyProof.NeKinds
import PyProof.Rows.SumAny
import KE.KDictSum
import PyProof.Rows.SortWalk
import PyProof.Rows.Range3
import PyProof.Rows.SetFrom
import KE.KEqDict
import PyProof.Rows.DictUnroll
import KE.KRevSl
import PyProof.AutoListH
import PyProof.AttrMiss
import KE.KRevIter
import PyProof.SeqI3
import Wide.Seal
import PySem.Challenge.RW_stillheap_k72_whole_just_these_went
set_option Elab.async false
set_option linter.all false
set_option maxRecDepth 100000
set_option maxHeartbeats 4000000
set_option exponentiation.threshold 4000
section
open PySem PySem.W PySem.Spec PyProof.Rows
noncomputable def MN:=@List.length_map
noncomputable def MO:=@List.mem_singleton
noncomputable def MP:=@List.getElem?_eq_getElem
noncomputable def MQ:=@List.getElem?_eq_some_iff
noncomputable def MR:=@Nat.le_refl
noncomputable def MS:=@List.mem_append
noncomputable def MT:=@List.take_succ_eq_append_getElem
noncomputable def MU:=@Heap.get?_push_of_some
noncomputable def MV:=@List.map_append
noncomputable def MW:=@List.take_of_length_le
noncomputable def MX:=@List.mem_append_right
noncomputable def MY:=@List.getElem?_map
noncomputable def MZ:=@List.length_take
noncomputable def M0:=@List.size_toArray
noncomputable def M4:=@Bool.false_ne_true
noncomputable def M8:=@List.length_append
noncomputable def Na:=@List.mem_of_getElem?
noncomputable def Nb:=@Heap.lt_size
noncomputable def Nc:=@List.mem_map
noncomputable def Nd:=@List.mem_append_left
noncomputable def Nf:=@Option.some.inj
noncomputable def Ng:=@Option.map_eq_some_iff
noncomputable def Nh:=@Nat.le_trans
noncomputable def Ni:=@List.append_assoc
noncomputable def Nj:=@Array.length_toList
noncomputable def Nk:=@List.mem_cons
noncomputable def Nl:=@PassesOwn.never
noncomputable def Nn:=@List.mem_cons_of_mem
noncomputable def Np:=@List.take_append_drop
noncomputable def Nq:=@List.pairwise_append
noncomputable def Nr:=@Nat.lt_of_lt_of_le
noncomputable def Nu:=@List.mem_cons_self
noncomputable def Nv:=@Ne.symm
noncomputable def Nw:=@Nat.ne_of_lt
noncomputable def Nx:=@Bool.false_eq_true
noncomputable def Ny:=@List.map_map
noncomputable def Nz:=@List.map_cons
noncomputable def NA:=@List.mem_filter
noncomputable def NB:=@Heap.get?_push_size
noncomputable def ND:=@List.length_drop
noncomputable def NF:=@List.length_filter_le
noncomputable def NG:=@List.map_congr_left
noncomputable def NH:=@Nat.zero_le
noncomputable def NJ:=@List.filter_append
noncomputable def NK:=@List.getElem_mem
noncomputable def NL:=@Int.le_refl
noncomputable def NM:=@Bool.eq_false_iff
noncomputable def NN:=@List.lookup_cons
noncomputable def NO:=@Int.emod_lt_of_pos
noncomputable def NP:=@Array.getElem?_eq_some_iff
noncomputable def NQ:=@Nat.lt_of_le_of_lt
noncomputable def NR:=@Array.toList_append
noncomputable def NS:=@Array.getElem?_eq_getElem
noncomputable def NU:=@List.length_cons
noncomputable def NV:=@List.length_singleton
noncomputable def NW:=@List.filter_sublist
noncomputable def NX:=@Int.emod_nonneg
noncomputable def NY:=@List.drop_eq_getElem_cons
noncomputable def NZ:=@Int.le_of_lt
noncomputable def N2:=@Heap.get?_update_other
noncomputable def N3:=@List.append_nil
noncomputable def N4:=@List.Pairwise.sublist
noncomputable def N5:=@List.perm_append_comm
noncomputable def N6:=@List.mem_filterMap
noncomputable def N7:=@Classical.byContradiction
noncomputable def N8:=@PySem.mem_of_lookup
noncomputable def N9:=@List.replicate_succ
noncomputable def Oa:=@Nat.lt_or_ge
noncomputable def Ob:=@List.eq_of_mem_replicate
noncomputable def Oc:=@List.nodup_cons
noncomputable def Oe:=@List.getElem?_append_right
noncomputable def Of:=@List.nodup_append
noncomputable def Og:=@Nat.lt_irrefl
noncomputable def Oh:=@List.getElem?_append_left
noncomputable def Oi:=@List.length_set
noncomputable def Oj:=@List.mem_of_mem_take
noncomputable def Ol:=@List.mem_of_mem_drop
noncomputable def Om:=@List.take_sublist
noncomputable def Oo:=@List.filter_congr
noncomputable def Oq:=@List.all_eq_true
noncomputable def Ot:=@Array.getElem?_toList
noncomputable def Ou:=@Calls.call_function_entry
noncomputable def Ov:=@List.pairwise_iff_getElem
noncomputable def Ow:=@Option.isSome_map
noncomputable def Ox:=@List.drop_sublist
noncomputable def Oy:=@List.map_nil
noncomputable def Oz:=@List.pairwise_singleton
noncomputable def OA:=@List.nodup_nil
noncomputable def OB:=@List.take_zero
noncomputable def OC:=@List.length_pos_of_mem
noncomputable def OD:=@List.drop_of_length_le
noncomputable def OE:=@Bool.eq_iff_iff
noncomputable def OF:=@Nat.le_succ
noncomputable def OG:=@List.find?_cons
noncomputable def OH:=@List.flatten_cons
noncomputable def OI:=@Nat.lt_succ_of_lt
noncomputable def OJ:=@List.getD_eq_getElem?_getD
noncomputable def OK:=@Array.perm_iff_toList_perm
noncomputable def OL:=@Array.toList_extract
noncomputable def OM:=@Heap.size_push
noncomputable def ON:=@List.mem_map_of_mem
noncomputable def OP:=@Nat.le_of_lt
noncomputable def OQ:=@Nat.ne_of_gt
noncomputable def OR:=@List.getElem?_take_of_lt
noncomputable def OS:=@List.length_erase_of_mem
noncomputable def OT:=@List.length_filterMap_le
noncomputable def OU:=@List.any_cons
noncomputable def OV:=@List.getElem?_set_self
noncomputable def OW:=@List.mem_range
noncomputable def OX:=@Int.le_trans
noncomputable def OY:=@Bool.and_eq_true
noncomputable def OZ:=@List.not_mem_nil
noncomputable def O0:=@List.take_append_of_le_length
noncomputable def O1:=@List.getElem?_set_ne
noncomputable def O2:=@List.mem_erase_of_ne
noncomputable def O3:=@Array.toList_reverse
noncomputable def O4:=@Option.map_some
noncomputable def O5:=@Nat.not_lt_zero
noncomputable def O6:=@Array.Perm.refl
noncomputable def O7:=@Nat.min_eq_left
noncomputable def O8:=@List.getElem_of_mem
noncomputable def O9:=@Calls.Name_function_global
noncomputable def Pa:=@Array.toList_setIfInBounds
noncomputable def Pb:=@List.pairwise_cons
noncomputable def Pc:=@Bool.and_false
noncomputable def Pd:=@Array.size_map
noncomputable def Pe:=@Array.toList_push
noncomputable def Pf:=@Nat.lt_succ_self
noncomputable def Pg:=@List.Sublist.map
noncomputable def Ph:=@List.of_mem_zip
noncomputable def Pj:=@List.nil_append
noncomputable def Pk:=@List.length_nil
noncomputable def Pl:=@List.filter_map
noncomputable def Pm:=@Int.not_lt
end
section
namespace L2
open PySem PySem.Spec PyProof.Rows
noncomputable abbrev Key:=Sum Int Str
noncomputable def gH:Key→Value→Bool
  | .inl k,v=>Value.isInt k v
  | .inr x,v=>Value.isStrOf x v
noncomputable def JS(w:World):Key→Int
  | .inl k=>hashInt k
  | .inr x=>hashStr w x
theorem aS:∀ {k:Key} {v:Value},gH k v=true→(∃ i t,k=Sum.inl i∧v=Value.int i t)∨(∃ x t,k=Sum.inr x∧v=Value.str x t)
  | .inl i,v,h=>by
    obtain⟨t,e⟩:=Value.isInt_shape (k:=i) (v:=v) h;exact .inl ⟨i,t,rfl,e⟩
  | .inr x,v,h=>by
    obtain⟨t,e⟩:=Value.isStrOf_shape (x:=x) (v:=v) h;exact .inr ⟨x,t,rfl,e⟩
theorem y8(i:Int)(t:Tok):gH (.inl i) (.int i t)=true:=by simp[gH,Value.isInt]
theorem y9(x:Str)(t:Tok):gH (.inr x) (.str x t)=true:=by simp[gH,Value.isStrOf]
theorem EH(a b:Int):decide ((Sum.inl a:Key)=Sum.inl b)=(a == b):=by
  by_cases e:a=b
  · subst e;simp
  · have h:¬(Sum.inl a:Key)=Sum.inl b:=λq=>e (Sum.inl.inj q)
    rw[decide_eq_false h];exact(beq_eq_false_iff_ne.mpr e).symm
theorem EI(a b:Str):decide ((Sum.inr a:Key)=Sum.inr b)=decide (a=b):=by
  by_cases e:a=b
  · subst e;simp
  · have h:¬(Sum.inr a:Key)=Sum.inr b:=λq=>e (Sum.inr.inj q)
    rw[decide_eq_false h,decide_eq_false e]
theorem EJ(a:Int)(b:Str):decide ((Sum.inl a:Key)=Sum.inr b)=false:=decide_eq_false (λq=>nomatch q)
theorem EL(a:Str)(b:Int):decide ((Sum.inr a:Key)=Sum.inl b)=false:=decide_eq_false (λq=>nomatch q)
noncomputable def a5(prog:Program)(w:World):PySem.KeyKind prog w Key where
  is:=gH
  hash:=JS w
  inj:=λv a b ha hb=>by
    rcases aS ha with⟨i,t,rfl,rfl⟩|⟨x,t,rfl,rfl⟩
    · rcases aS hb with⟨j,u,rfl,e⟩|⟨y,u,rfl,e⟩
      · injection e with e1 _;rw[e1]
      · exact nomatch e
    · rcases aS hb with⟨j,u,rfl,e⟩|⟨y,u,rfl,e⟩
      · exact nomatch e
      · injection e with e1 _;rw[e1]
  byValue:=λk v h=>by
    rcases aS h with⟨i,t,rfl,rfl⟩|⟨x,t,rfl,rfl⟩<;>rfl
  pyHash:=λhv h=>by
    rcases aS hv with⟨i,t,rfl,rfl⟩|⟨x,t,rfl,rfl⟩
    · exact wpAny_pyHash_int h
    · exact wpAny_pyHash_str h
  eqBool:=λhu hv h=>by
    rcases aS hu with⟨i,t,rfl,rfl⟩|⟨x,t,rfl,rfl⟩
    · rcases aS hv with⟨j,u,rfl,rfl⟩|⟨y,u,rfl,rfl⟩
      · rw[EH]at h;exact wpAny_eqBool_int h
      · rw[EJ]at h;exact SeqAt.EqAt.int_str i t y u _ _ _ _ h
    · rcases aS hv with⟨j,u,rfl,rfl⟩|⟨y,u,rfl,rfl⟩
      · rw[EL]at h;exact SeqAt.EqAt.str_int x t j u _ _ _ _ h
      · rw[EI]at h;exact wpAny_eqBool_str h
  «strs» := λk x t v h=>by
    rcases aS h with⟨i,u,rfl,e⟩|⟨y,u,rfl,e⟩
    · exact nomatch e
    · injection e with e1 _
      subst e1;cases v<;>rfl
theorem vh(prog:Program)(w:World)(i:Int)(t:Tok):(a5 prog w).is (.inl i) (.int i t)=true:=y8 i t
theorem vi(prog:Program)(w:World)(x:Str)(t:Tok):(a5 prog w).is (.inr x) (.str x t)=true:=y9 x t
end L2
namespace L2
open PySem PySem.Spec PyProof.Rows
inductive V where
  | non|bl (b:Bool)|int (i:Int)|str (x:Str)|byt (b:Array UInt8)|flt (b:UInt64)|ref (a:Addr)|ty (n:String)
  deriving DecidableEq
noncomputable def RelV:V→Value→Prop
  | .non,u=>u=Value.none
  | .bl b,u=>u=Value.bool b
  | .int i,u=>∃ t,u=Value.int i t
  | .str x,u=>∃ t,u=Value.str x t
  | .byt b,u=>∃ t,u=Value.bytes b t
  | .flt b,u=>∃ t,u=Value.float b t
  | .ref a,u=>u=Value.ref a
  | .ty n,u=>u=Value.type n
noncomputable abbrev Vals:List V→List Value→Prop:=Paired RelV
theorem Vals.length{xs:List V}{us:List Value}(r:Vals xs us):xs.length=us.length:=Paired.length r
theorem Vals.get:∀ {xs:List V} {us:List Value} {i:Nat} {x:V},Vals xs us→xs[i]?=some x→∃ u,us[i]?=some u∧RelV x u
  | _,_,_,_,.nil,e=>by simp at e
  | _,_,0,_,.cons r _,e=>by simp at e;subst e;exact⟨_,rfl,r⟩
  | _,_,i+1,x,.cons _ t,e=>by
    obtain⟨u,h1,h2⟩:=Vals.get (i:=i) (x:=x) t (by simpa using e);exact⟨u,by simpa using h1,h2⟩
theorem Vals.set{x:V}{u:Value}(r:RelV x u):∀ {xs:List V} {us:List Value} (i:Nat),Vals xs us→Vals (xs.set i x) (us.set i u)
  | _,_,_,.nil=>.nil
  | _,_,0,.cons _ t=>.cons r t
  | _,_,i+1,.cons q t=>.cons q (Vals.set r i t)
theorem Vals.append:∀ {xs ys:List V} {us ws:List Value},Vals xs us→Vals ys ws→Vals (xs++ys) (us++ws)
  | _,_,_,_,.nil,s=>s
  | _,_,_,_,.cons r t,s=>.cons r (Vals.append t s)
theorem Vals.take:∀ {xs:List V} {us:List Value} (n:Nat),Vals xs us→Vals (xs.take n) (us.take n)
  | _,_,0,_=>.nil
  | _,_,_+1,.nil=>.nil
  | _,_,n+1,.cons r t=>.cons r (Vals.take n t)
theorem Vals.drop:∀ {xs:List V} {us:List Value} (n:Nat),Vals xs us→Vals (xs.drop n) (us.drop n)
  | _,_,0,r=>r
  | _,_,_+1,.nil=>.nil
  | _,_,n+1,.cons _ t=>Vals.drop n t
noncomputable def nj:Option V→Option Value→Prop
  | some v,some u=>RelV v u
  | none,none=>True
  | _,_=>False
noncomputable def KV{κ:Type}:List (κ×V)→List (κ×Value)→Prop:=Paired λ(p:κ×V) (q:κ×Value)=>p.1=q.1∧RelV p.2 q.2
noncomputable def kV:Key→V
  | .inl i=>.int i
  | .inr x=>.str x
inductive HO where
  | lst (xs:List V)
  | tup (xs:List V)
  | dK (kvs:List (Key×V))|dT (kvs:List (List Key×V))
  | set (S:Int→Bool) (n:Nat)
  | ins (C dx:Addr) (fs:List (Str×V))
  | own (x:Addr)
  | xd (fs:List (Str×V))
  | met (f x:Addr)
  | rng (lo hi:Int)
  | frz (o:Obj) (u:HO)
  | tbl (ps:Array Value)
  | ext (φ:Heap→Prop)
noncomputable abbrev Hp:=Addr→Option HO
noncomputable def upd(H:Hp)(a:Addr)(o:HO):Hp:=λb=>if b=a then some o else H b
theorem ag{H:Hp}{a:Addr}{o:HO}:upd H a o a=some o:=by unfold upd;rw[if_pos rfl]
theorem ab{H:Hp}{a b:Addr}{o:HO}(h:b≠a):upd H a o b=H b:=by unfold upd;rw[if_neg h]
theorem av{H:Hp}{a b:Addr}{o u:HO}(h:H a=some o)(h':H b=some u)(d:o≠u):a≠b:=by
  intro e;subst e;rw[h]at h';exact d (Nf h')
theorem ao{H:Hp}{a b:Addr}{o:HO}(h:H a=some o)(h':H b=none):a≠b:=by
  intro e;subst e;rw[h]at h';cases h'
section
variable(P:Program)(w:World)
noncomputable def cu(H:Hp)(h:Heap)(a:Addr):HO→Prop
  | .lst xs=>xs.length≤sizeLine∧∃(its:List Value) (n:Nat),Vals xs its∧h.get? a=some {cls:=.type "list",data:=.seq its.toArray n}
  | .tup xs=>xs.length≤sizeLine∧∃ its:List Value,Vals xs its∧IsTup h a its.toArray
  | .dK kvs=>kvs.length≤sizeLine∧(a == sysModules)=false∧∃ vs,KV kvs vs∧h.DictOf (a5 P w) a vs
  | .dT kvs=>kvs.length≤sizeLine∧(a == sysModules)=false∧∃ xs:List (List Key×Addr×Value),
      Paired (λ(p:List Key×V) (q:List Key×Addr×Value)=>p.1=q.1∧H q.2.1=some (.tup (p.1.map kV))∧RelV p.2 q.2.2) kvs xs ∧
      ∃ o es ep,h.get? a=some o∧o.ExactDict∧o.data=.dict es ep∧es.toList=xs.map (entryOfKey (tupleKind (a5 P w)))∧(xs.map (·.1)).Nodup
  | .set S n=>h.SetOf (intKind P w) a S n
  | .ins C dx fs=>H dx=some (.own a)∧fs.length≤1000∧dx≠a∧h.get? a=some (PySem.W.instObj C dx) ∧
      ∃ mA,h.Ns1 dx mA∧(∀ f,nj (fs.lookup f) (mA f))∧PySem.Within mA (fs.map (·.1))
  | .own _=>∃ o,h.get? a=some o
  | .xd fs=>∃ mA,h.Ns1 a mA∧∀ f,nj (fs.lookup f) (mA f)
  | .rng lo hi=>∃ t u v,h.get? a=some {cls:=.type "range",data:=.fields #[.int lo t,.int hi u,.int 1 v]}
  | .frz o u=>h.get? a=some o∧cu H h a u
  | .tbl ps=>h.get? a=some {cls:=.none,data:=.fields ps}
  | .met f x=>h.get? a=some (PySem.W.methodObj (.ref f) (.ref x))
  | .ext φ=>φ h∧(∃ o,h.get? a=some o)∧∀ h1 h2:Heap,φ h1→(∀ o,h1.get? a=some o→h2.get? a=some o)→φ h2
noncomputable def HOk(H:Hp)(h:Heap):Prop:=∀ a o,H a=some o→cu P w H h a o
end
section
variable{P:Program}{w:World}{H H':Hp}{h h':Heap}{a:Addr}{o:HO}
theorem cu.lt(x:cu P w H h a o):a<h.objs.size:=by
  cases o with
  | lst xs=>obtain⟨_,_,_,_,e⟩:=x;exact Nb e
  | tup xs=>obtain⟨_,_,_,p⟩:=x;exact p.lt
  | dK kvs=>obtain⟨_,_,_,_,o,_,_,e,_⟩:=x;exact Nb e
  | dT kvs=>obtain⟨_,_,_,_,o,_,_,e,_⟩:=x;exact Nb e
  | set S n=>obtain⟨o,_,_,_,e,_⟩:=x;exact Nb e
  | ins C dx fs=>obtain⟨_,_,_,e,_⟩:=x;exact Nb e
  | own y=>obtain⟨_,e⟩:=x;exact Nb e
  | xd fs=>obtain⟨_,⟨_,_,_,e,_⟩,_⟩:=x;exact Nb e
  | rng lo hi=>obtain⟨_,_,_,e⟩:=x;exact Nb e
  | frz ob u=>obtain⟨e,_⟩:=x;exact Nb e
  | tbl ps=>exact Nb (show h.get? a=some _ from x)
  | met f y=>exact Nb (show h.get? a=some _ from x)
  | ext φ=>obtain⟨_,⟨_,e⟩,_⟩:=x;exact Nb e
theorem Paired.FP{α β:Type}{F G:α→β→Prop}:∀ {l₁:List α} {l₂:List β},Paired F l₁ l₂→(∀ a b,F a b→G a b)→Paired G l₁ l₂
  | _,_,.nil,_=>.nil
  | _,_,.cons r t,f=>.cons (f _ _ r) (Paired.FP t f)
theorem cu.wg(x:cu P w H h a o)(k:∀ b u,(b=a∨H b=some (.own a))→h.get? b=some u→h'.get? b=some u)
    (ho:∀ b,H b=some (.own a)→H' b=some (.own a)) (ht:∀ b xs,H b=some (.tup xs)→H' b=some (.tup xs)):cu P w H' h' a o:=by
  induction o with
  | lst xs=>obtain⟨z,its,n,r,e⟩:=x;exact⟨z,its,n,r,k _ _ (.inl rfl) e⟩
  | tup xs=>obtain⟨z,its,r,ob,e,c⟩:=x;exact⟨z,its,r,ob,k _ _ (.inl rfl) e,c⟩
  | dK kvs=>obtain⟨z,y,vs,r,ob,es,ep,e,c⟩:=x;exact⟨z,y,vs,r,ob,es,ep,k _ _ (.inl rfl) e,c⟩
  | dT kvs =>
    obtain⟨z,y,xs,r,ob,es,ep,e,c⟩:=x;exact⟨z,y,xs,Paired.FP r λp q z=>⟨z.1,ht _ _ z.2.1,z.2.2⟩,ob,es,ep,k _ _ (.inl rfl) e,c⟩
  | set S n=>obtain⟨ob,es,ep,t,e,c⟩:=x;exact⟨ob,es,ep,t,k _ _ (.inl rfl) e,c⟩
  | ins C dx fs =>
    obtain⟨d,z,ne,e,mA,⟨od,es,ep,e2,c⟩,r⟩:=x;exact⟨ho _ d,z,ne,k _ _ (.inl rfl) e,mA,⟨od,es,ep,k _ _ (.inr d) e2,c⟩,r⟩
  | own y=>obtain⟨ob,e⟩:=x;exact⟨ob,k _ _ (.inl rfl) e⟩
  | xd fs=>obtain⟨mA,⟨od,es,ep,e,c⟩,r⟩:=x;exact⟨mA,⟨od,es,ep,k _ _ (.inl rfl) e,c⟩,r⟩
  | rng lo hi=>obtain⟨t,u,v,e⟩:=x;exact⟨t,u,v,k _ _ (.inl rfl) e⟩
  | frz ob u ih=>obtain⟨e,q⟩:=x;exact⟨k _ _ (.inl rfl) e,ih q⟩
  | tbl ps =>
    have e:h.get? a=some {cls:=.none,data:=.fields ps}:=x;show h'.get? a=some {cls:=.none,data:=.fields ps};exact k a _ (.inl rfl) e
  | met f y =>
    have e:h.get? a=some (PySem.W.methodObj (.ref f) (.ref y)):=x;show h'.get? a=some (PySem.W.methodObj (.ref f) (.ref y));exact k a _ (.inl rfl) e
  | ext φ=>obtain⟨p,⟨o,e⟩,st⟩:=x;exact⟨st _ _ p λo q=>k _ _ (.inl rfl) q,⟨o,k _ _ (.inl rfl) e⟩,st⟩
theorem HOk.lt(x:HOk P w H h)(e:H a=some o):a<h.objs.size:=(x a o e).lt
theorem HOk.fresh(x:HOk P w H h)(e:h.objs.size≤a):H a=none:=by
  cases q:H a with
  | none=>rfl
  | some u=>exact absurd (Nr (x.lt q) e) (Og _)
theorem HOk.kept(x:HOk P w H h)(k:∀ b u,h.get? b=some u→h'.get? b=some u):HOk P w H h':=λa o e =>
  (x a o e).wg (λb u _ q=>k b u q) (λ_ q=>q) λ_ _ q=>q
theorem HOk.laid(x:HOk P w H h)(k:∀ b u,h.get? b=some u→h'.get? b=some u)(hp:h.objs.size≤a)(new:cu P w (upd H a o) h' a o):HOk P w (upd H a o) h':=λb u e=>by
  have hn:=x.fresh hp;by_cases hb:b=a
  · subst hb;rw[ag]at e;cases e;exact new
  · rw[ab hb]at e
    exact(x b u e).wg (λc v _ q=>k c v q) (λc q=>by rw[ab (ao q hn)];exact q) λc xs q=>by rw[ab (ao q hn)];exact q
end
noncomputable def Rd(H:Hp)(a:Addr)(u:HO):Prop:=H a=some u∨∃ o,H a=some (.frz o u)
theorem Rd.ok{P:Program}{w:World}{H:Hp}{h:Heap}{a:Addr}{u:HO}(r:Rd H a u)(x:HOk P w H h):cu P w H h a u:=by
  rcases r with r|⟨o,r⟩
  · exact x a u r
  · obtain⟨_,q⟩:=x a _ r
    exact q
noncomputable def Mut:Option HO→Prop
  | some (.lst _)=>True
  | some (.dK _)=>True
  | some (.dT _)=>True
  | some (.set _ _)=>True
  | some (.ins _ _ _)=>True
  | some (.ext _)=>True
  | _=>False
section
variable{P:Program}{w:World}{H:Hp}{h h':Heap}{x e:Addr}{o':HO}
theorem HOk.write(ok:HOk P w H h)(mu:Mut (H x))(he:e=x∨H e=some (.own x))(k:∀ b u,b≠e→h.get? b=some u→h'.get? b=some u)(heo:∃ u,h'.get? e=some u)
    (new:cu P w (upd H x o') h' x o'):HOk P w (upd H x o') h':=λb u q=>by
  have JT:∀ c y,H c=some (.own y)→c≠x:=λc y r z=>by subst z;rw[r]at mu;exact mu
  have KC:∀ c xs,H c=some (.tup xs)→c≠x:=λc xs r z=>by subst z;rw[r]at mu;exact mu
  by_cases hb:b=x
  · subst hb;rw[ag]at q;cases q;exact new
  · rw[ab hb]at q
    by_cases hbe:b=e
    · have q':H b=some (.own x):=by
        rcases he with z|z
        · exact absurd (hbe.trans z) hb
        · rw[hbe];exact z
      rw[q]at q';cases q';obtain⟨v,hv⟩:=heo;exact⟨v,by rw[hbe];exact hv⟩
    · refine(ok b u q).wg (λc v hc r=>k c v ?_ r) (λc r=>by rw[ab (JT c b r)];exact r) λc xs r=>by rw[ab (KC c xs r)];exact r
      rcases hc with rfl|hc
      · exact hbe
      · rintro rfl
        rcases he with z|z
        · exact JT c b hc z
        · rw[hc]at z;cases z;exact hb rfl
end
structure Un(fs ex:List Addr)(H H':Hp)(h h':Heap):Prop where
  keep:∀ b o,h.get? b=some o→H b=none→b∉fs→b∉ex→h'.get? b=some o
  slot:∀ b o,h.get? b=some o→H b=none→b∈fs→b∉ex→∃ sl,h'.get? b=some {o with slots:=sl}
  free:∀ b o,h.get? b=some o→H b=none→b∉ex→H' b=none
  there:∀ b o,h.get? b=some o→b∉ex→∃ o',h'.get? b=some o'
  sU:∀ b xs,H b=some (.tup xs)→H' b=some (.tup xs)
  rM:∀ b o u,H b=some (.frz o u)→H' b=some (.frz o u)
  sV:∀ b ps,H b=some (.tbl ps)→∃ more,H' b=some (.tbl (ps++more))
section
variable{fs fs' ex ex':List Addr}{H H1 H2:Hp}{h h1 h2 h':Heap}{a x e:Addr}{o:HO}
theorem Un.any(u:Un fs ex H H1 h h1){b:Addr}{ob:Obj}(q:h.get? b=some ob)(n:H b=none)(hx:b∉ex):∃ sl,h1.get? b=some {ob with slots:=sl}:=by
  by_cases hb:b∈fs
  · exact u.slot b ob q n hb hx
  · exact⟨ob.slots,u.keep b ob q n hb hx⟩
theorem Un.kept(k:∀ b u,h.get? b=some u→h'.get? b=some u):Un fs ex H H h h' :=
  ⟨λb ob q _ _ _=>k b ob q,λb ob q _ _ _=>⟨ob.slots,k b ob q⟩,λ_ _ _ n _=>n,λb ob q _=>⟨ob,k b ob q⟩,λ_ _ q=>q,λ_ _ _ q=>q,λ_ ps q=>⟨#[],by rw[q];simp⟩⟩
theorem Un.refl:Un fs ex H H h h:=Un.kept λ_ _ q=>q
theorem Un.laid(k:∀ b u,h.get? b=some u→h'.get? b=some u)(hp:h.objs.size≤a)(hn:H a=none):Un fs ex H (upd H a o) h h' where
  keep:=λb u q _ _ _=>k b u q
  slot:=λb u q _ _ _=>⟨u.slots,k b u q⟩
  free:=λb u q n _=>by rw[ab (Nw (Nr (Nb q) hp))];exact n
  there:=λb u q _=>⟨u,k b u q⟩
  sU:=λb xs q=>by rw[ab (ao q hn)];exact q
  rM:=λb u xs q=>by rw[ab (ao q hn)];exact q
  sV:=λb ps q=>⟨#[],by rw[ab (ao q hn),q];simp⟩
theorem Un.write(mu:Mut (H x))(he:e=x∨H e=some (.own x))(k:∀ b u,b≠e→h.get? b=some u→h'.get? b=some u)(heo:∃ u,h'.get? e=some u):Un fs ex H (upd H x o) h h':=by
  have hx:∀ b,H b=none→b≠x:=λb n z=>by subst z;rw[n]at mu;exact mu
  have hb:∀ b,H b=none→b≠e:=λb n z=>by
    subst z;rcases he with r|r
    · exact hx b n r
    · rw[n]at r;cases r
  have hm:∀ b u,H b=some u→¬Mut (some u)→b≠x:=λb u q nm z=>by subst z;rw[q]at mu;exact nm mu
  refine⟨λb u q n _ _=>k b u (hb b n) q,λb u q n _ _=>⟨u.slots,k b u (hb b n) q⟩,λb u q n _=>by rw[ab (hx b n)];exact n,λb u q _=>?_,
    λb xs q=>by rw[ab (hm b _ q λz=>z)];exact q,λb u xs q=>by rw[ab (hm b _ q λz=>z)];exact q,λb ps q=>⟨#[],by rw[ab (hm b _ q λz=>z),q];simp⟩⟩
  by_cases hbe:b=e
  · subst hbe;exact heo
  · exact⟨u,k b u hbe q⟩
end
noncomputable def trk(h:Heap)(H:Hp):List Addr:=(List.range h.objs.size).filter λa=>(H a).isSome
noncomputable def xg(h:Heap)(H:Hp):Heap:=PySem.W.hideAll h (trk h H)
theorem zb(h:Heap)(H:Hp):(xg h H).objs.size=h.objs.size:=PySem.W.hideAll_size _ _
theorem Av{h:Heap}{H:Hp}{b:Addr}{o:Obj}(e:h.get? b=some o)(n:H b=none):(xg h H).get? b=some o :=
  PySem.W.hideAll_get _ e λhm=>by
    have q:(H b).isSome=true:=(NA.mp hm).2;rw[n]at q;simp at q
theorem CK{h:Heap}{H:Hp}{b:Addr}{o:Obj}(e:(xg h H).get? b=some o):h.get? b=some o∧H b=none:=by
  have e':h.get? b=some o:=PySem.W.of_hideAll (trk h H) e;refine⟨e',?_⟩;cases q:H b with
  | none=>rfl
  | some x =>
    have hm:b∈trk h H:=NA.mpr ⟨OW.mpr (Nb e'),by simp[q]⟩;have z:(xg h H).get? b=none:=PySem.W.hideAll_none (trk h H) hm;rw[z]at e;cases e
end L2
namespace L2
open PySem PySem.Spec PyProof.Rows
structure Mod(K:W.Frag)(mg:Str→Option Value)(base:Heap):Prop where
  kin:K.In base
  glob:base.Ns mainGlobals mg
  blt:∃ mb,base.Ns builtinsNs mb∧∀ x:Str,x ≠ "__name__" → mb x=bootBuiltins x
  nolimit:base.NoLimit
structure Cx where
  prog:Program
  w:World
  K:W.Frag
  mg:Str→Option Value
  base:Heap
  A:Around
  N:List Str
  s₀:Shared
  H₀:Hp
  env:Env
  outer:List Env
  stack:List Env
  ex:List Addr
  fn:Str→Bool
  calm:Bool
  pn:List (Addr×Obj)
  xe:Value→Shared→Prop
noncomputable def frs(l:List Env):List Addr:=l.filterMap (·.frame)
noncomputable abbrev Cx.fs(X:Cx):List Addr:=frs X.outer
noncomputable def Vis(sc:Scope)(x:Str):Prop:=sc.names.lookup x=some .local∨sc.names.lookup x=some .cell∨sc.names.lookup x=some .free
noncomputable def Loc(sc:Scope)(x:Str):Prop:=sc.names.lookup x=some .local∨sc.names.lookup x=some .cell
noncomputable def Look(env:Env)(h:Heap)(m:Str→Option Value)(x:Str)(u:Value):Prop :=
  (env.kindOf x=some .local∧m x=some u)∨((env.kindOf x=some .cell∨env.kindOf x=some .free)∧∃ c,env.cells.lookup x=some c∧h.IsCell c (some u))
structure Cx.Ok(X:Cx):Prop where
  mod:Mod X.K X.mg X.base
  kind:X.env.scope.kind=.function
  glob:X.env.globals=mainGlobals
  blt:X.env.builtins=builtinsNs
  above:X.s₀.heap.objs.size≤X.env.locals
  inj:∀ x y c,X.env.cells.lookup x=some c→X.env.cells.lookup y=some c→x=y
  has:∀ x,(X.env.kindOf x=some .cell∨X.env.kindOf x=some .free)→∃ c,X.env.cells.lookup x=some c
  cab:∀ x c,X.fn x=true→X.env.cells.lookup x=some c→X.s₀.heap.objs.size≤c
  hd:X.calm=true→X.A.handled=none
  frames:X.A.frames=some X.stack
  stk:X.stack=X.outer∨(X.stack=X.env::X.outer∧X.env.frame=some X.env.locals)
  exf:∀ b∈X.ex,b≠X.env.locals∧∀ x c,X.env.cells.lookup x=some c→c≠b
  bs:∀ b o,X.base.get? b=some o→X.s₀.heap.get? b=some o∧X.H₀ b=none
  bsz:X.base.objs.size≤X.s₀.heap.objs.size
  yi:∀ b o,X.base.get? b=some o→b∉X.ex
  An:∀ b∈X.ex,b∉X.fs
  qf:X.s₀.heap.FunFrames X.base X.outer
  frf:∀ b∈X.fs,X.H₀ b=none
structure Inv(X:Cx)(pins:List (Addr×Obj))(σ:List (Option V))(H:Hp)(s:Shared):Prop where
  ok:X.Ok
  os:s.os=X.s₀.os
  bare:AllBare s.gens
  base:Un X.fs X.ex X.H₀ H X.s₀.heap s.heap
  loc:∃ m,s.heap.Ns X.env.locals m∧∀(i:Nat) (x:Str) (v:V),X.N[i]?=some x→σ[i]?=some (some v)→Vis X.env.scope x→∃ u,RelV v u∧Look X.env s.heap m x u
  cell:∀ x c,X.env.cells.lookup x=some c→∃ v,s.heap.IsCell c v
  free:H X.env.locals=none
  fK:∀ x c,X.env.cells.lookup x=some c→H c=none
  pin:∀ p∈X.pn++pins,s.heap.get? p.1=some p.2∧H p.1=none∧p.1≠X.env.locals∧p.1∉X.fs∧∀ v,p.2.data≠.cell v
  hok:HOk X.prog X.w H s.heap
  len:σ.length=X.N.length
section
variable{X:Cx}{pins:List (Addr×Obj)}{σ:List (Option V)}{H H':Hp}{s:Shared}{h':Heap}
theorem Cx.Ok.KD(ok:X.Ok){b:Addr}{o:Obj}(e:X.base.get? b=some o):b∉X.fs:=λhb=>by
  have:=(ok.qf.mem hb).1
  rw[e]at this;cases this
theorem Inv.bs(I:Inv X pins σ H s):∀ b o,X.base.get? b=some o→s.heap.get? b=some o∧H b=none:=λb o e =>
  ⟨I.base.keep b o (I.ok.bs b o e).1 (I.ok.bs b o e).2 (I.ok.KD e) (I.ok.yi b o e),I.base.free b o (I.ok.bs b o e).1 (I.ok.bs b o e).2 (I.ok.yi b o e)⟩
theorem Inv.bk(I:Inv X pins σ H s):∀ b o,X.base.get? b=some o→s.heap.get? b=some o:=λb o e=>(I.bs b o e).1
theorem Inv.mod(I:Inv X pins σ H s):Mod X.K X.mg X.base:=I.ok.mod
theorem Inv.kIn(I:Inv X pins σ H s):X.K.In s.heap:=I.ok.mod.kin.keeps I.bk
theorem Inv.lt(I:Inv X pins σ H s):X.env.locals<s.heap.objs.size:=let ⟨_,hn,_⟩:=I.loc;hn.lt
theorem Inv.sz(I:Inv X pins σ H s):X.s₀.heap.objs.size≤s.heap.objs.size:=Nh I.ok.above (OP I.lt)
theorem Inv.KG(I:Inv X pins σ H s){a:Addr}(h:s.heap.objs.size≤a):a∉X.fs:=λhb=>by
  obtain⟨_,o,ho,_⟩:=I.ok.qf.mem hb;exact absurd (Nr (Nb ho) (Nh I.sz h)) (Og _)
theorem Inv.cne(I:Inv X pins σ H s):∀ x c,X.env.cells.lookup x=some c→c≠X.env.locals:=λx c e z=>by
  obtain⟨v,o,ho,hd⟩:=I.cell x c e;obtain⟨m,⟨o',es,ep,ho',hd',_⟩,_⟩:=I.loc;rw[z,ho']at ho;cases ho;rw[hd']at hd;cases hd
theorem Inv.qf(I:Inv X pins σ H s):s.heap.FunFrames X.base X.outer:=by
  have all:∀(l:List Env),(∀ b∈frs l,b∈X.fs)→X.s₀.heap.FunFrames X.base l→s.heap.FunFrames X.base l:=by
    intro l;induction l with
    | nil=>intro _ _;trivial
    | cons env r ih =>
      intro hs hl;obtain⟨hk,⟨L,o,hf,hn,ho,hd⟩,hr⟩:=hl;have hL:L∈X.fs:=hs L (by unfold frs;rw[List.filterMap_cons,hf];exact Nu);obtain⟨sl,e⟩:=I.base.slot L o ho (I.ok.frf L hL) hL λz=>I.ok.An L z hL;exact⟨hk,⟨L,_,hf,hn,e,hd⟩,ih (λb hb=>hs b (by unfold frs;rw[List.filterMap_cons,hf];exact Nn _ hb)) hr⟩
  exact all X.outer (λ_ hb=>hb) I.ok.qf
theorem Inv.stack(I:Inv X pins σ H s):s.heap.FunFrames X.base X.stack:=by
  rcases I.ok.stk with e|⟨e,hf⟩
  · rw[e];exact I.qf
  · rw[e]
    obtain⟨m,hn,_⟩:=I.loc;refine .cons (by rw[I.ok.kind];decide) hf hn ?_ I.qf;exact Heap.get?_none_of_le (Nh I.ok.bsz I.ok.above)
theorem Inv.mG(I:Inv X pins σ H s):∀ b∈frs X.stack,b∈X.env.locals::X.fs:=λb hb=>by
  rcases I.ok.stk with e|⟨e,hf⟩
  · rw[e]at hb;exact Nn _ hb
  · rw[e]at hb
    unfold frs at hb;rw[List.filterMap_cons,hf]at hb;exact hb
theorem Inv.nk(I:Inv X pins σ H s):∀ b∈frs X.stack,H b=none:=λb hb=>by
  rcases Nk.mp (I.mG b hb) with e|hb
  · rw[e];exact I.free
  · obtain⟨_,o,ho,_⟩:=I.ok.qf.mem hb
    exact I.base.free b o ho (I.ok.frf b hb) λz=>I.ok.An b z hb
theorem Inv.step{g':Array GenState}{t':Nat}{d':Drawn}{ch:List Addr}(I:Inv X pins σ H s)
    (hch:∀ b∈ch,(b∈X.ex∨X.s₀.heap.objs.size≤b)∧b≠X.env.locals∧(∀ x c,X.env.cells.lookup x=some c→c≠b)∧∀ p∈X.pn++pins,p.1≠b)
    (keep:∀ b o,b≠X.env.locals→b∉X.fs→b∉ch→s.heap.get? b=some o→H b=none→h'.get? b=some o)
    (slot:∀ b o,b≠X.env.locals→b∈X.fs→b∉ch→s.heap.get? b=some o→H b=none→∃ sl,h'.get? b=some {o with slots:=sl}) (free:∀ b o,b∉ch→s.heap.get? b=some o→H b=none→H' b=none)
    (there:∀ b o,b∉ch→s.heap.get? b=some o→∃ o',h'.get? b=some o')
    (sU:∀ b xs,H b=some (.tup xs)→H' b=some (.tup xs)) (rM:∀ b o u,H b=some (.frz o u)→H' b=some (.frz o u)) (sV:∀ b ps,H b=some (.tbl ps)→∃ more,H' b=some (.tbl (ps++more)))
    (ns:∀ m,s.heap.Ns X.env.locals m→h'.Ns X.env.locals m) (hok:HOk X.prog X.w H' h') (hg:AllBare g') :
    Inv X pins σ H' {s with heap:=h',gens:=g',drawn:=d',toks:=t'}:=by
  have neL:∀ b o,X.s₀.heap.get? b=some o→b≠X.env.locals:=λb o e=>Nw (Nr (Nb e) I.ok.above);have neC:∀ b o,X.s₀.heap.get? b=some o→b∉X.ex→b∉ch:=λb o e hx hb=>by
    rcases(hch b hb).1 with z|z
    · exact hx z
    · exact absurd (Nr (Nb e) z) (Og _)
  have cellK:∀ x c,X.env.cells.lookup x=some c→∀ v,s.heap.IsCell c v→h'.IsCell c v:=λx c e v ⟨o,ho,hd⟩=>by
    have nch:c∉ch:=λz=>(hch c z).2.2.1 x c e rfl;by_cases hc:c∈X.fs
    · obtain⟨sl,q⟩:=slot c o (I.cne x c e) hc nch ho (I.fK x c e)
      exact⟨_,q,hd⟩
    · exact⟨o,keep c o (I.cne x c e) hc nch ho (I.fK x c e),hd⟩
  refine⟨I.ok,I.os,hg,⟨λb o e n hb hx=>?_,λb o e n hb hx=>?_,λb o e n hx=>?_,λb o e hx=>?_,λb xs e=>sU b xs (I.base.sU b xs e),λb o xs e=>rM b o xs (I.base.rM b o xs e),λb ps e=>?_⟩,?_,λx c e=>?_,?_,λx c e=>?_,λp hp=>?_,hok,I.len⟩
  · exact keep b o (neL b o e) hb (neC b o e hx) (I.base.keep b o e n hb hx) (I.base.free b o e n hx)
  · obtain⟨sl,e1⟩:=I.base.slot b o e n hb hx
    obtain⟨sl',e2⟩:=slot b _ (neL b o e) hb (neC b o e hx) e1 (I.base.free b o e n hx);exact⟨sl',e2⟩
  · obtain⟨o',e1⟩:=I.base.there b o e hx
    exact free b o' (neC b o e hx) e1 (I.base.free b o e n hx)
  · obtain⟨o',e1⟩:=I.base.there b o e hx
    exact there b o' (neC b o e hx) e1
  · obtain⟨m1,e1⟩:=I.base.sV b ps e
    obtain⟨m2,e2⟩:=sV b _ e1;exact⟨m1++m2,by rw[e2,Array.append_assoc]⟩
  · obtain⟨m,hn,hl⟩:=I.loc
    refine⟨m,ns m hn,λi x v e1 e2 e3=>?_⟩;obtain⟨u,r,l⟩:=hl i x v e1 e2 e3;refine⟨u,r,?_⟩;rcases l with l|⟨k,c,e,z⟩
    · exact .inl l
    · exact .inr ⟨k,c,e,cellK x c e _ z⟩
  · obtain⟨v,z⟩:=I.cell x c e
    exact⟨v,cellK x c e v z⟩
  · obtain⟨m,⟨o,_,_,ho,_⟩,_⟩:=I.loc
    exact free _ o (λz=>(hch _ z).2.1 rfl) ho I.free
  · obtain⟨v,o,ho,hd⟩:=I.cell x c e
    exact free c o (λz=>(hch c z).2.2.1 x c e rfl) ho (I.fK x c e)
  · obtain⟨e,n,ne,nf,d⟩:=I.pin p hp
    have nch:p.1∉ch:=λz=>(hch p.1 z).2.2.2 p hp rfl;exact⟨keep p.1 p.2 ne nf nch e n,free p.1 p.2 nch e n,ne,nf,d⟩
theorem Inv.un{t':Nat}(I:Inv X pins σ H s)(u:Un X.fs [] H H' s.heap h')(hok:HOk X.prog X.w H' h'):Inv X pins σ H' {s with heap:=h',toks:=t'}:=by
  obtain⟨m,⟨o,es,ep,ho,r⟩,_⟩:=id I.loc;obtain⟨sl,hL⟩:=u.any ho I.free (by simp);exact I.step (g':=s.gens) (d':=s.drawn) (ch:=[]) (λ_ z=>nomatch z) (λb o _ hb _ e n=>u.keep b o e n hb (by simp)) (λb o _ hb _ e n=>u.slot b o e n hb (by simp)) (λb o _ e n=>u.free b o e n (by simp)) (λb o _ e=>u.there b o e (by simp)) u.sU u.rM u.sV (λm' hm=>by
    obtain⟨o',es',ep',ho',r'⟩:=hm;rw[ho]at ho';cases ho';exact⟨_,es',ep',hL,r'⟩) hok I.bare
theorem Inv.call{g':Array GenState}{t':Nat}{d':Drawn}{ch:List Addr}(I:Inv X pins σ H s)(u:Un (frs X.stack) ch H H' s.heap h')(hok:HOk X.prog X.w H' h')(hg:AllBare g')
    (hch:∀ b∈ch,(b∈X.ex∨X.s₀.heap.objs.size≤b)∧b≠X.env.locals∧(∀ x c,X.env.cells.lookup x=some c→c≠b)∧∀ p∈X.pn++pins,p.1≠b) :
    Inv X pins σ H' {s with heap:=h',gens:=g',drawn:=d',toks:=t'}:=by
  obtain⟨m,⟨o,es,ep,ho,r⟩,_⟩:=id I.loc;obtain⟨sl,hL⟩:=u.any ho I.free λz=>(hch _ z).2.1 rfl;exact I.step (ch:=ch) hch (λb o hL hb hc e n=>u.keep b o e n (λz=>(Nk.mp (I.mG b z)).elim hL hb) hc) (λb o _ _ hc e n=>u.any e n hc) (λb o hc e n=>u.free b o e n hc) (λb o hc e=>u.there b o e hc) u.sU u.rM u.sV (λm' hm=>by
    obtain⟨o',es',ep',ho',r'⟩:=hm;rw[ho]at ho';cases ho';exact⟨_,es',ep',hL,r'⟩) hok hg
theorem Inv.turned{t':Nat}{it:Addr}(I:Inv X pins σ H s)(k:∀ b o,b≠it→s.heap.get? b=some o→h'.get? b=some o)(hn:H it=none)(hL:it≠X.env.locals)
    (h1:it∈X.ex∨X.s₀.heap.objs.size≤it) (h2:∀ x c,X.env.cells.lookup x=some c→c≠it) (h3:∀ p∈X.pn++pins,p.1≠it):Inv X pins σ H {s with heap:=h',toks:=t'}:=by
  have nit:∀ b u,H b=some u→b≠it:=λb u e z=>by rw[z,hn]at e;cases e
  refine I.step (g':=s.gens) (d':=s.drawn) (ch:=[it]) (λb hb=>?_) (λb o _ _ hc e _=>k b o (λz=>hc (by simp[z])) e) (λb o _ _ hc e _=>⟨o.slots,k b o (λz=>hc (by simp[z])) e⟩) (λ_ _ _ _ n=>n)
    (λb o hc e=>⟨o,k b o (λz=>hc (by simp[z])) e⟩) (λ_ _ e=>e) (λ_ _ _ e=>e) (λb ps e=>⟨#[],by rw[e];simp⟩) (λm hm=>?_) (λb u e=>?_) I.bare
  · have e:b=it:=by simpa using hb
    subst e;exact⟨h1,hL,h2,h3⟩
  · obtain⟨o,es,ep,ho,r⟩:=hm
    exact⟨o,es,ep,k _ o (Nv hL) ho,r⟩
  · refine(I.hok b u e).wg (λc v hc q=>k c v ?_ q) (λ_ q=>q) λ_ _ q=>q
    rcases hc with z|z
    · rw[z];exact nit b u e
    · exact nit c _ z
theorem Inv.tok(I:Inv X pins σ H s)(t:Nat):Inv X pins σ H {s with toks:=t}:=I.un (h':=s.heap) (t':=t) Un.refl I.hok
theorem Inv.kept{t':Nat}(I:Inv X pins σ H s)(k:∀ b u,s.heap.get? b=some u→h'.get? b=some u):Inv X pins σ H {s with heap:=h',toks:=t'}:=I.un (Un.kept k) (I.hok.kept k)
theorem Inv.laid{a:Addr}{o:HO}{t':Nat}(I:Inv X pins σ H s)(k:∀ b u,s.heap.get? b=some u→h'.get? b=some u)(hp:s.heap.objs.size≤a)(new:cu X.prog X.w (upd H a o) h' a o) :
    Inv X pins σ (upd H a o) {s with heap:=h',toks:=t'}:=I.un (Un.laid k hp (I.hok.fresh hp)) (I.hok.laid k hp new)
theorem Inv.write{x e:Addr}{o:HO}{t':Nat}(I:Inv X pins σ H s)(mu:Mut (H x))(he:e=x∨H e=some (.own x))(k:∀ b u,b≠e→s.heap.get? b=some u→h'.get? b=some u)(heo:∃ u,h'.get? e=some u)
    (new:cu X.prog X.w (upd H x o) h' x o):Inv X pins σ (upd H x o) {s with heap:=h',toks:=t'}:=I.un (Un.write mu he k heo) (I.hok.write mu he k heo new)
theorem Inv.yj{xh:List (Addr×Obj)}(I:Inv X pins σ H s)(h:∀ p∈xh,s.heap.get? p.1=some p.2∧H p.1=none∧p.1≠X.env.locals∧p.1∉X.fs∧∀ v,p.2.data≠.cell v):Inv X xh σ H s :=
  ⟨I.ok,I.os,I.bare,I.base,I.loc,I.cell,I.free,I.fK,λp hp=>(MS.mp hp).elim (λz=>I.pin p (Nd _ z)) (h p),I.hok,I.len⟩
theorem wk{N:List Str}(hN:N.Nodup){i j:Nat}{x:Str}(a:N[i]?=some x)(b:N[j]?=some x):i=j:=by
  obtain⟨h1,e1⟩:=MQ.mp a;obtain⟨h2,e2⟩:=MQ.mp b;exact(List.getElem_inj hN).mp (e1.trans e2.symm)
theorem zh{M:Model}{A:Around}{E:Value→Shared→Prop}{i:Nat}{x:Str}{v:V}{u:Value}{Q:Unit→Shared→Prop}(I:Inv X pins σ H s)(hN:X.N.Nodup)(hi:X.N[i]?=some x)(hx:Loc X.env.scope x)(r:RelV v u)
    (h:∀ s',Inv X pins (σ.set i (some v)) H s'→(∃ a,Heap.SameBut a s.heap s'.heap∧(a=X.env.locals∨X.env.cells.lookup x=some a))→Q () s') (hf:X.fn x=true∨X.env.scope.names.lookup x=some .local:=by first|exact .inl rfl|exact .inr rfl|assumption):wpAny M A (storeName X.env x u) Q E s:=by
  obtain⟨m,hn,hl⟩:=id I.loc;have KH:(X.env.scope.kind == .class||(X.env.scope.kind == .module&&X.env.locals != X.env.globals))=false:=by rw[I.ok.kind];rfl
  have hiσ:i<σ.length:=by rw[I.len];exact(MQ.mp hi).1
  have cne:=I.cne;have tracked:∀ {a:Addr} {h':Heap},(∃ o,s.heap.get? a=some o∧H a=none)→Heap.SameBut a s.heap h'→HOk X.prog X.w H h':=λ{a h'} ha hs b ob e=>by
    obtain⟨_,_,D7⟩:=ha;refine(I.hok b ob e).wg (λc w' hc q=>(hs.2 c ?_).trans q) (λ_ q=>q) λ_ _ q=>q;rintro rfl;rcases hc with rfl|hc
    · rw[D7]at e;cases e
    · rw[D7]at hc;cases hc
  rcases hx with hk|hk
  · refine wpAny_storeName_local hk hn (λh' hn' hs=>?_) KH
    obtain⟨oL,_,_,hoL,_⟩:=id hn;refine h _ ⟨I.ok,I.os,I.bare,⟨λb o e n hb hx=>?_,λb o e n hb hx=>?_,I.base.free,λb o e hx=>?_,I.base.sU,I.base.rM,I.base.sV⟩,⟨_,hn',λj y v' e1 e2 e3=>?_⟩,λy c e=>?_,I.free,I.fK,λp hp=>?_,tracked ⟨oL,hoL,I.free⟩ hs,by simpa using I.len⟩ ⟨_,hs,.inl rfl⟩
    · exact(hs.2 b (Nw (Nr (Nb e) I.ok.above))).trans (I.base.keep b o e n hb hx)
    · obtain⟨sl,e1⟩:=I.base.slot b o e n hb hx
      exact⟨sl,(hs.2 b (Nw (Nr (Nb e) I.ok.above))).trans e1⟩
    · obtain⟨o',e1⟩:=I.base.there b o e hx
      exact⟨o',(hs.2 b (Nw (Nr (Nb e) I.ok.above))).trans e1⟩
    · by_cases hj:j=i
      · subst hj
        rw[hi]at e1;cases e1;rw[OV hiσ]at e2;cases e2;exact⟨u,r,.inl ⟨hk,by simp⟩⟩
      · rw[O1 (Nv hj)]at e2
        obtain⟨u',r',q⟩:=hl j y v' e1 e2 e3;refine⟨u',r',?_⟩;rcases q with⟨k,e⟩|⟨k,c,e,z⟩
        · refine .inl ⟨k,?_⟩
          have:y≠x:=λe=>hj (wk hN e1 (e ▸ hi))
          simp[this,e]
        · exact .inr ⟨k,c,e,z.sameBut hs (cne y c e)⟩
    · obtain⟨w',z⟩:=I.cell y c e
      exact⟨w',z.sameBut hs (cne y c e)⟩
    · obtain⟨e,n,ne,nf,d⟩:=I.pin p hp
      exact⟨(hs.2 p.1 ne).trans e,n,ne,nf,d⟩
  · have hfn:X.fn x=true:=by
      rcases hf with z|z
      · exact z
      · rw[z]at hk;cases hk
    obtain⟨c,hc⟩:=I.ok.has x (.inl hk);obtain⟨w',z⟩:=I.cell x c hc;refine wpAny_storeName_cell I.ok.kind hk hc z (λh' hc' hs=>?_);obtain⟨oc,hoc,KI⟩:=id z;refine h {s with heap:=h'} ⟨I.ok,I.os,I.bare,⟨λb o e n hb hx=>?_,λb o e n hb hx=>?_,I.base.free,λb o e hx=>?_,I.base.sU,I.base.rM,I.base.sV⟩,⟨m,hn.sameBut hs (Nv (cne x c hc)),λj y v' e1 e2 e3=>?_⟩,λy c' e=>?_,I.free,I.fK,λp hp=>?_,tracked ⟨oc,hoc,I.fK x c hc⟩ hs,by simpa using I.len⟩ ⟨c,hs,.inr hc⟩
    · exact(hs.2 b (Nw (Nr (Nb e) (I.ok.cab x c hfn hc)))).trans (I.base.keep b o e n hb hx)
    · obtain⟨sl,e1⟩:=I.base.slot b o e n hb hx
      exact⟨sl,(hs.2 b (Nw (Nr (Nb e) (I.ok.cab x c hfn hc)))).trans e1⟩
    · obtain⟨o',e1⟩:=I.base.there b o e hx
      exact⟨o',(hs.2 b (Nw (Nr (Nb e) (I.ok.cab x c hfn hc)))).trans e1⟩
    · by_cases hj:j=i
      · subst hj
        rw[hi]at e1;cases e1;rw[OV hiσ]at e2;cases e2;exact⟨u,r,.inr ⟨.inl hk,c,hc,hc'⟩⟩
      · rw[O1 (Nv hj)]at e2
        obtain⟨u',r',q⟩:=hl j y v' e1 e2 e3;refine⟨u',r',?_⟩;rcases q with q|⟨k,c',e,z'⟩
        · exact .inl q
        · refine .inr ⟨k,c',e,z'.sameBut hs ?_⟩
          rintro rfl;exact hj (wk hN e1 (I.ok.inj _ _ _ e hc ▸ hi))
    · by_cases hcc:c'=c
      · subst hcc;exact⟨_,hc'⟩
      · obtain⟨w2,z2⟩:=I.cell y c' e
        exact⟨w2,z2.sameBut hs hcc⟩
    · obtain⟨e,n,ne,nf,d⟩:=I.pin p hp
      refine⟨(hs.2 p.1 ?_).trans e,n,ne,nf,d⟩;intro q;rw[q,hoc]at e;have q':oc=p.2:=Nf e;exact d w' (by rw[←q'];exact KI)
theorem rm{M:Model}{A:Around}{E:Value→Shared→Prop}{i:Nat}{x:Str}{v:V}{u:Value}{Q:Unit→Shared→Prop}(I:Inv X pins σ H s)(hN:X.N.Nodup)(hi:X.N[i]?=some x)(hx:Loc X.env.scope x)(r:RelV v u)
    (h:∀ s',Inv X pins (σ.set i (some v)) H s'→Q () s') (hf:X.fn x=true∨X.env.scope.names.lookup x=some .local:=by first|exact .inl rfl|exact .inr rfl|assumption):wpAny M A (storeName X.env x u) Q E s :=
  zh I hN hi hx r (λs' I' _=>h s' I') hf
theorem Inv.xi{s':Shared}{ch:List Addr}(I:Inv X pins σ H s)(ho:s'.os=s.os)(u:Un (frs X.stack) ch H H' s.heap s'.heap)(hok:HOk X.prog X.w H' s'.heap)(hg:AllBare s'.gens)
    (hch:∀ b∈ch,(b∈X.ex∨X.s₀.heap.objs.size≤b)∧b≠X.env.locals∧(∀ x c,X.env.cells.lookup x=some c→c≠b)∧∀ p∈X.pn++pins,p.1≠b):Inv X pins σ H' s':=by
  obtain⟨h',g',d',t',o'⟩:=s';have e:o'=s.os:=ho;subst e;exact I.call (g':=g') (t':=t') (d':=d') u hok hg hch
end
noncomputable abbrev XK:=Value→Option Addr→Hp→Prop
noncomputable abbrev St:=List (Option V)
noncomputable abbrev VK:=V→Hp→Prop
noncomputable abbrev TE:=St→Hp→VK→Prop
noncomputable abbrev TT:=St→Hp→(Bool→Hp→Prop)→Prop
noncomputable abbrev TA:=St→Hp→(List V→Hp→Prop)→Prop
structure Ends where
  nx:St→Hp→Prop
  rt:VK
  bk:St→Hp→Prop:=λ_ _=>False
  ct:St→Hp→Prop:=λ_ _=>False
noncomputable abbrev TS:=Ends→St→Hp→Prop
noncomputable def EP(X:Cx)(pins:List (Addr×Obj))(σ:St)(Q:VK)(u:Value)(s':Shared):Prop:=∃ v H',Inv X pins σ H' s'∧RelV v u∧Q v H'
noncomputable def TP(X:Cx)(pins:List (Addr×Obj))(σ:St)(Q:Bool→Hp→Prop)(b:Bool)(s':Shared):Prop:=∃ H',Inv X pins σ H' s'∧Q b H'
noncomputable def AP(X:Cx)(pins:List (Addr×Obj))(σ:St)(Q:List V→Hp→Prop)(us:List Value)(s':Shared):Prop:=∃ vs H',Inv X pins σ H' s'∧Vals vs us∧Q vs H'
noncomputable def SP(X:Cx)(pins:List (Addr×Obj))(D:Ends)(f:Flow)(s':Shared):Prop :=
  match f with
  | .next=>∃ σ' H',Inv X pins σ' H' s'∧D.nx σ' H'
  | .brk=>∃ σ' H',Inv X pins σ' H' s'∧D.bk σ' H'
  | .cont=>∃ σ' H',Inv X pins σ' H' s'∧D.ct σ' H'
  | .ret u=>∃ v σ' H',Inv X pins σ' H' s'∧RelV v u∧D.rt v H'
noncomputable def PE(X:Cx)(e:Expr)(t:TE):Prop :=
  ∀(pins:List (Addr×Obj)) (s:Shared) (σ:St) (H:Hp) (Q:VK),Inv X pins σ H s→t σ H Q→wpAny (model X.prog X.w) X.A (eval e X.env) (EP X pins σ Q) X.xe s
noncomputable def PT(X:Cx)(e:Expr)(t:TT):Prop :=
  ∀(pins:List (Addr×Obj)) (s:Shared) (σ:St) (H:Hp) (Q:Bool→Hp→Prop),Inv X pins σ H s→t σ H Q→wpAny (model X.prog X.w) X.A (isTrue e X.env (eval e X.env)) (TP X pins σ Q) X.xe s
noncomputable def PW(X:Cx)(e:Expr)(t:TT):Prop :=
  ∀(whole:Sem Value) (pins:List (Addr×Obj)) (s:Shared) (σ:St) (H:Hp) (Q:Bool→Hp→Prop),Inv X pins σ H s→t σ H Q→wpAny (model X.prog X.w) X.A (isTrue e X.env whole) (TP X pins σ Q) X.xe s
theorem PW.pt{X:Cx}{e:Expr}{t:TT}(h:PW X e t):PT X e t:=h _
noncomputable def PA(X:Cx)(es:List Expr)(t:TA):Prop :=
  ∀(pos:Pos) (pins:List (Addr×Obj)) (s:Shared) (σ:St) (H:Hp) (Q:List V→Hp→Prop),Inv X pins σ H s→t σ H Q→wpAny (model X.prog X.w) X.A (spliced (backTo pos (starEach es X.env))) (AP X pins σ Q) X.xe s
noncomputable def PS(X:Cx)(st:Stmt)(t:TS):Prop :=
  ∀(pins:List (Addr×Obj)) (s:Shared) (σ:St) (H:Hp) (D:Ends),Inv X pins σ H s→t D σ H→wpAny (model X.prog X.w) X.A (exec st X.env) (SP X pins D) X.xe s
noncomputable def PSs(X:Cx)(st:List Stmt)(t:TS):Prop :=
  ∀(pins:List (Addr×Obj)) (s:Shared) (σ:St) (H:Hp) (D:Ends),Inv X pins σ H s→t D σ H→wpAny (model X.prog X.w) X.A (execs st X.env) (SP X pins D) X.xe s
theorem thn{α:Type}{t:Sem α}{Q Q':α→Shared→Prop}{M:Model}{A:Around}{E:Value→Shared→Prop}{s:Shared}(h:wpAny M A t Q E s)(hQ:∀ a s,Q a s→Q' a s):wpAny M A t Q' E s:=wpAny_mono h hQ λ_ _ x=>x
end L2
namespace L2
open PySem PySem.Spec PyProof.Rows
section
variable{X:Cx}
inductive JU(o:Option (Option V))(H:Hp)(Q:VK):Prop where
  | mk (v:V):o=some (some v)→Q v H→JU o H Q
noncomputable def JV(i:Nat):TE:=λσ H Q=>JU σ[i]? H Q
noncomputable def tC(v:V):TE:=λ_ H Q=>Q v H
theorem EM{i:Nat}{x:Str}{pos:Pos}(hN:X.N[i]?=some x)(hv:Vis X.env.scope x)(hd:(x == ("__debug__" : Str))=false:=by decide)(hcd:(x == ("__classdict__" : Str))=false:=by decide):PE X (.Name x pos) (JV i):=by
  intro pins s σ H Q I h;obtain⟨v,e,h⟩:=h;obtain⟨m,hn,hl⟩:=I.loc;obtain⟨u,r,l⟩:=hl i x v hN e hv;have fin:EP X pins σ Q u s:=⟨v,H,I,r,h⟩;rcases l with⟨hk,hm⟩|⟨hk,c,hc,Ac⟩
  · exact wpAny_Name (wpAny_loadName_local I.ok.kind hk hn hm fin) hd
  · rcases hk with hk|hk
    · exact wpAny_Name (wpAny_loadName_cell I.ok.kind hk hc Ac fin) hd
    · exact wpAny_Name (wpAny_loadName_free I.ok.kind hk hc Ac fin hcd) hd
theorem ar{i j pos}:PE X (.Constant (.int i) j pos) (tC (.int i)):=λ_ _ _ H _ I h=>wpAny_Constant_int ⟨.int i,H,I.tok _,⟨_,rfl⟩,h⟩
theorem dR{b j pos}:PE X (.Constant (.bool b) j pos) (tC (.bl b)):=λ_ _ _ H _ I h=>Constant_bool ⟨.bl b,H,I,rfl,h⟩
theorem bK{j pos}:PE X (.Constant .none j pos) (tC .non):=λ_ _ _ H _ I h=>Constant_none ⟨.non,H,I,rfl,h⟩
theorem fM{x j pos}:PE X (.Constant (.str x) j pos) (tC (.str x)):=λ_ _ _ H _ I h=>Calls.Constant_str ⟨.str x,H,I.tok _,⟨_,rfl⟩,h⟩
noncomputable def Gl(X:Cx)(x:Str):Prop:=X.env.kindOf x=some .globalImplicit
theorem g8{E:Value→Shared→Prop}{pins:List (Addr×Obj)}{s:Shared}{σ:St}{H:Hp}{x:Str}{u:Value}{pos:Pos}{Q:Value→Shared→Prop}(I:Inv X pins σ H s)(hg:Gl X x)(hm:X.mg x=some u)(h:Q u s)
    (hd:(x == ("__debug__" : Str))=false:=by decide):wpAny (model X.prog X.w) X.A (eval (.Name x pos) X.env) Q E s :=
  O9 I.ok.kind hg (Calls.loadGlobal_global (by rw[I.ok.glob];exact I.mod.glob.keeps I.bk) hm h) hd
theorem rN{E:Value→Shared→Prop}{pins:List (Addr×Obj)}{s:Shared}{σ:St}{H:Hp}{x:Str}{u:Value}{pos:Pos}{Q:Value→Shared→Prop}(I:Inv X pins σ H s)(hg:Gl X x)(hm:X.mg x=none)(hv:bootBuiltins x=some u)(h:Q u s)
    (hn:x ≠ "__name__" := by decide) (hd:(x == ("__debug__" : Str))=false:=by decide):wpAny (model X.prog X.w) X.A (eval (.Name x pos) X.env) Q E s:=by
  obtain⟨mb,h1,h2⟩:=I.mod.blt;exact O9 I.ok.kind hg (Calls.loadGlobal_builtin (by rw[I.ok.glob];exact I.mod.glob.keeps I.bk) hm (by rw[I.ok.blt];exact h1.keeps I.bk) ((h2 x hn).trans hv) h) hd
theorem dN{x:Str}{v:V}{u:Value}{pos:Pos}(hg:Gl X x)(hm:X.mg x=some u)(r:RelV v u)(hd:(x == ("__debug__" : Str))=false:=by decide):PE X (.Name x pos) (tC v) :=
  λ_ _ _ H _ I h=>g8 I hg hm ⟨v,H,I,r,h⟩ hd
variable{a b:Expr}{ta tb:TE}{pos:Pos}
noncomputable def PC(X:Cx)(op:CmpOp)(a b:Expr)(t:TE):Prop :=
  ∀(pins:List (Addr×Obj)) (s:Shared) (σ:St) (H:Hp) (Q:VK),Inv X pins σ H s→t σ H Q →
    wpAny (model X.prog X.w) X.A (eval a X.env) (λv s₁=>wpAny (model X.prog X.w) X.A (eval b X.env) (λu s₂=>wpAny (model X.prog X.w) X.A (compareOp op v u) (EP X pins σ Q) X.xe s₂) X.xe s₁) X.xe s
inductive FQ(x:V)(H:Hp)(Q:Bool→Hp→Prop):Prop where
  | mk (k:Bool):x=.bl k→Q k H→FQ x H Q
noncomputable def tB(t:TE):TT:=λσ H Q=>t σ H λx H1=>FQ x H1 Q
theorem Bv{op:CmpOp}{t:TE}(h:PC X op a b t)(h1:behindInMarks op b=false:=by first|exact nobehind _ (by decide) (by decide)|rfl):PE X (.Compare a [op] [b] pos) t:=λpins s σ H Q I hw=>wpAny_Compare1 (h pins s σ H Q I hw) h1
theorem cR{op:CmpOp}{t:TE}(h:PC X op a b t)(h1:behindInMarks op b=false:=by first|exact nobehind _ (by decide) (by decide)|rfl):PT X (.Compare a [op] [b] pos) (tB t):=by
  intro pins s σ H Q I hw;refine wpAny_isTrue_Compare1 (thn (h pins s σ H _ I hw) λv s1 h1=>thn h1 λu s2 h2=>thn h2 λc s3 ⟨x,H1,I1,r1,q1⟩=>?_) h1;obtain⟨d,rfl,q⟩:=q1;cases r1;exact wpAny_truthy_bool ⟨H1,I1,q⟩
theorem fN{e:Expr}{t:TE}(h:PE X e t)(he:∀ whole,isTrue e X.env whole=(do let v ←whole;standAt e.pos;holding [v] (truthy v)):=by intro _;rfl):PT X e (tB t):=by
  intro pins s σ H Q I hw;refine isTrue_plain (thn (h pins s σ H _ I hw) λv s1 ⟨x,H1,I1,r1,q1⟩=>?_) (he _);obtain⟨d,rfl,q⟩:=q1;cases r1;exact wpAny_truthy_bool ⟨H1,I1,q⟩
variable{tA tB':TT}{rest:List Expr}
noncomputable def KJ(t u:TT):TT:=λσ H Q=>t σ H λc H1=>if c=true then u σ H1 Q else Q false H1
noncomputable def tOr(t u:TT):TT:=λσ H Q=>t σ H λc H1=>if c=true then Q true H1 else u σ H1 Q
noncomputable def KL(t:TT):TT:=λσ H Q=>t σ H λc H1=>Q (!c) H1
theorem pw_and1(ha:PT X a tA):PW X (.BoolOp .And [a] pos) tA:=by
  intro wh pins s σ H Q I h;refine isTrue_and (thn (ha pins s σ H Q I h) λc s1 e=>?_);cases c with
  | true=>exact isTrue_and_nil e
  | false=>exact e
theorem pw_or1(ha:PT X a tA):PW X (.BoolOp .Or [a] pos) tA:=by
  intro wh pins s σ H Q I h;refine isTrue_or (thn (ha pins s σ H Q I h) λc s1 e=>?_);cases c with
  | false=>exact isTrue_or_nil e
  | true=>exact e
theorem pw_and(ha:PT X a tA)(hb:PW X (.BoolOp .And (b::rest) pos) tB'):PW X (.BoolOp .And (a::b::rest) pos) (KJ tA tB'):=by
  intro wh pins s σ H Q I h;refine isTrue_and (thn (ha pins s σ H _ I h) λc s1 ⟨H1,I1,q1⟩=>?_);cases c with
  | true=>exact hb wh pins s1 σ H1 Q I1 q1
  | false=>exact⟨H1,I1,q1⟩
theorem pw_or(ha:PT X a tA)(hb:PW X (.BoolOp .Or (b::rest) pos) tB'):PW X (.BoolOp .Or (a::b::rest) pos) (tOr tA tB'):=by
  intro wh pins s σ H Q I h;refine isTrue_or (thn (ha pins s σ H _ I h) λc s1 ⟨H1,I1,q1⟩=>?_);cases c with
  | true=>exact⟨H1,I1,q1⟩
  | false=>exact hb wh pins s1 σ H1 Q I1 q1
theorem gy(ha:PT X a tA):PT X (.UnaryOp .Not a pos) (KL tA):=by
  intro pins s σ H Q I h;exact isTrue_not (ha pins s σ H (λc H1=>Q (!c) H1) I h)
noncomputable def ID(ta tb:TE):TE:=λσ H Q=>ta σ H λx H1=>∃ c,x=.bl c∧if c=true then tb σ H1 Q else Q (.bl false) H1
noncomputable def KN(ta tb:TE):TE:=λσ H Q=>ta σ H λx H1=>∃ c,x=.bl c∧if c=true then Q (.bl true) H1 else tb σ H1 Q
noncomputable def IE(ta:TE):TE:=λσ H Q=>ta σ H λx H1=>∃ c,x=.bl c∧Q (.bl (!c)) H1
theorem rO{op}{t:TE}(h:PE X a t):PE X (.BoolOp op [a] pos) t:=λpins s σ H Q I hw=>BoolOp_one (h pins s σ H Q I hw)
theorem rP(ha:PE X a ta)(hb:PE X (.BoolOp .And (b::rest) pos) tb):PE X (.BoolOp .And (a::b::rest) pos) (ID ta tb):=by
  intro pins s σ H Q I h;refine BoolOp_and (thn (ha pins s σ H _ I h) λv s1 ⟨x,H1,I1,r1,q1⟩=>?_);obtain⟨c,rfl,q1⟩:=q1;cases r1;refine wpAny_truthy_bool ?_;cases c with
  | true=>exact hb pins s1 σ H1 Q I1 q1
  | false=>exact⟨.bl false,H1,I1,rfl,q1⟩
theorem IF(ha:PE X a ta)(hb:PE X (.BoolOp .Or (b::rest) pos) tb):PE X (.BoolOp .Or (a::b::rest) pos) (KN ta tb):=by
  intro pins s σ H Q I h;refine BoolOp_or (thn (ha pins s σ H _ I h) λv s1 ⟨x,H1,I1,r1,q1⟩=>?_);obtain⟨c,rfl,q1⟩:=q1;cases r1;refine wpAny_truthy_bool ?_;cases c with
  | false=>exact hb pins s1 σ H1 Q I1 q1
  | true=>exact⟨.bl true,H1,I1,rfl,q1⟩
theorem EN(ha:PE X a ta):PE X (.UnaryOp .Not a pos) (IE ta):=by
  intro pins s σ H Q I h;refine UnaryOp_ (thn (ha pins s σ H _ I h) λv s1 ⟨x,H1,I1,r1,q1⟩=>?_);obtain⟨c,rfl,q1⟩:=q1;cases r1;exact not_of (wpAny_truthy_bool ⟨.bl (!c),H1,I1,rfl,q1⟩)
noncomputable def tIf(t:TT)(ta tb:TE):TE:=λσ H Q=>t σ H λc H1=>if c=true then ta σ H1 Q else tb σ H1 Q
theorem iY{c:Expr}(hc:PT X c tA)(ha:PE X a ta)(hb:PE X b tb):PE X (.IfExp c a b pos) (tIf tA ta tb):=by
  intro pins s σ H Q I h;refine wpAny_IfExp (thn (hc pins s σ H _ I h) λd s1 ⟨H1,I1,q1⟩=>?_);cases d with
  | true=>exact ha pins s1 σ H1 Q I1 q1
  | false=>exact hb pins s1 σ H1 Q I1 q1
end
end L2
namespace L2
open PySem PySem.Spec PyProof.Rows
noncomputable def SqL(K:W.Frag)(H:Hp)(a:Addr)(xs:List V):Prop :=
  Rd H a (.lst xs) ∨
    ∃(o:Obj) (its:Array Value) (n:Nat),K.lookup a=some o∧o.cls=.type "list" ∧ o.dict=none∧o.data=.seq its n∧its.size≤sizeLine∧Vals xs its.toList
noncomputable def SqT(K:W.Frag)(H:Hp)(a:Addr)(xs:List V):Prop :=
  Rd H a (.tup xs) ∨
    ∃(o:Obj) (its:Array Value) (n:Nat),K.lookup a=some o∧o.cls=.type "tuple" ∧ o.data=.seq its n∧its.size≤sizeLine∧Vals xs its.toList
noncomputable def KO:Value→Option V
  | .none=>some .non
  | .bool b=>some (.bl b)
  | .int i _=>some (.int i)
  | .str x _=>some (.str x)
  | .bytes b _=>some (.byt b)
  | .float b _=>some (.flt b)
  | .ref a=>some (.ref a)
  | .type n=>some (.ty n)
  | _=>none
theorem RelV.abs{x:V}{u:Value}(r:RelV x u):KO u=some x:=by
  cases x with
  | non=>cases r;rfl
  | bl _=>cases r;rfl
  | int _=>obtain⟨t,rfl⟩:=r;rfl
  | str _=>obtain⟨t,rfl⟩:=r;rfl
  | byt _=>obtain⟨t,rfl⟩:=r;rfl
  | flt _=>obtain⟨t,rfl⟩:=r;rfl
  | ref _=>cases r;rfl
  | ty _=>cases r;rfl
theorem RelV.inj{x y:V}{u:Value}(r:RelV x u)(q:RelV y u):x=y:=Nf (r.abs.symm.trans q.abs)
theorem Vals.inj:∀ {xs ys:List V} {us:List Value},Vals xs us→Vals ys us→xs=ys
  | _,_,_,.nil,.nil=>rfl
  | _,_,_,.cons r t,.cons r' t'=>by rw[r.inj r',Vals.inj t t']
section
variable{X:Cx}{pins:List (Addr×Obj)}{σ:St}{H:Hp}{s:Shared}{a:Addr}{xs ys:List V}
theorem SqL.of{K:W.Frag}(h:H a=some (.lst xs)):SqL K H a xs:=.inl (.inl h)
theorem SqT.of{K:W.Frag}(h:H a=some (.tup xs)):SqT K H a xs:=.inl (.inl h)
theorem Inv.list(I:Inv X pins σ H s)(h:SqL X.K H a xs):∃ its:List Value,Vals xs its∧PlainL s.heap a its.toArray∧xs.length≤sizeLine:=by
  rcases h with h|⟨o,its,n,hk,hc,hd,hs,hz,r⟩
  · obtain⟨z,its,n,r,e⟩:=h.ok I.hok
    exact⟨its,r,⟨_,n,e,rfl,rfl,rfl⟩,z⟩
  · refine⟨its.toList,r,⟨o,n,I.kIn a o hk,hc,hd,by simpa using hs⟩,?_⟩
    have e:=r.length;simp only[Nj]at e;omega
theorem Inv.tuple(I:Inv X pins σ H s)(h:SqT X.K H a xs):∃ its:List Value,Vals xs its∧IsTup s.heap a its.toArray∧xs.length≤sizeLine:=by
  rcases h with h|⟨o,its,n,hk,hc,hs,hz,r⟩
  · obtain⟨z,its,r,p⟩:=h.ok I.hok
    exact⟨its,r,p,z⟩
  · refine⟨its.toList,r,⟨o,I.kIn a o hk,hc,n,by simpa using hs⟩,?_⟩
    have e:=r.length;simp only[Nj]at e;omega
theorem Inv.wo(I:Inv X pins σ H s)(h:SqL X.K H a xs)(h':SqL X.K H a ys):xs=ys:=by
  obtain⟨its,r,⟨o,n,e,_,_,d⟩,_⟩:=I.list h;obtain⟨sW,r',⟨o',n',e',_,_,d'⟩,_⟩:=I.list h';rw[e]at e';cases e';rw[d]at d';injection d' with d1 _
  have:its=sW:=by simpa using congrArg Array.toList d1
  subst this;exact r.inj r'
end
noncomputable abbrev Cx.uv(X:Cx)(E:Value→Shared→Prop):Cx:={X with xe:=E}
noncomputable abbrev Cx.nox(X:Cx):Cx:=X.uv λ_ _=>False
theorem Cx.Ok.uv{X:Cx}(ok:X.Ok)(E:Value→Shared→Prop):(X.uv E).Ok :=
  ⟨ok.mod,ok.kind,ok.glob,ok.blt,ok.above,ok.inj,ok.has,ok.cab,ok.hd,ok.frames,ok.stk,ok.exf,ok.bs,ok.bsz,ok.yi,ok.An,ok.qf,ok.frf⟩
theorem Cx.Ok.hX{X:Cx}{E:Value→Shared→Prop}(ok:(X.uv E).Ok):X.Ok :=
  ⟨ok.mod,ok.kind,ok.glob,ok.blt,ok.above,ok.inj,ok.has,ok.cab,ok.hd,ok.frames,ok.stk,ok.exf,ok.bs,ok.bsz,ok.yi,ok.An,ok.qf,ok.frf⟩
section
variable{X:Cx}{pins:List (Addr×Obj)}{σ:St}{H:Hp}{s:Shared}{E:Value→Shared→Prop}
theorem Inv.uv(I:Inv X pins σ H s)(E:Value→Shared→Prop):Inv (X.uv E) pins σ H s:=⟨I.ok.uv E,I.os,I.bare,I.base,I.loc,I.cell,I.free,I.fK,I.pin,I.hok,I.len⟩
theorem Inv.hX(I:Inv (X.uv E) pins σ H s):Inv X pins σ H s:=⟨I.ok.hX,I.os,I.bare,I.base,I.loc,I.cell,I.free,I.fK,I.pin,I.hok,I.len⟩
theorem SP.hX{D:Ends}{f:Flow}{s':Shared}(h:SP (X.uv E) pins D f s'):SP X pins D f s':=by
  cases f with
  | next=>obtain⟨σ',H',I,q⟩:=h;exact⟨σ',H',I.hX,q⟩
  | brk=>obtain⟨σ',H',I,q⟩:=h;exact⟨σ',H',I.hX,q⟩
  | cont=>obtain⟨σ',H',I,q⟩:=h;exact⟨σ',H',I.hX,q⟩
  | ret u=>obtain⟨v,σ',H',I,r,q⟩:=h;exact⟨v,σ',H',I.hX,r,q⟩
theorem PSs.nox{st:List Stmt}{t:TS}(h:PSs X.nox st t):PSs X st t:=λpins s σ H D I hw =>
  wpAny_mono (h pins s σ H D (I.uv _) hw) (λ_ _ q=>q.hX) λ_ _ z=>False.elim z
end
section
variable{X:Cx}{st:Stmt}{rest:List Stmt}{t u:TS}{e:Expr}{te:TE}{pos:Pos}
noncomputable def IG:TS:=λD σ H=>D.nx σ H
noncomputable def uw(t u:TS):TS:=λD σ H=>t {D with nx:=u D} σ H
theorem aI:PSs X [] IG:=λ_ _ σ H _ I h=>wpAny_execs_nil ⟨σ,H,I,h⟩
theorem ai(h1:PS X st t)(h2:PSs X rest u):PSs X (st::rest) (uw t u):=by
  intro pins s σ H D I h;refine wpAny_execs_cons (thn (h1 pins s σ H {D with nx:=u D} I h) λf s1 q=>?_);cases f with
  | next =>
    obtain⟨σ',H',I',q⟩:=q;exact h2 pins s1 σ' H' D I' q
  | ret v=>exact q
  | brk=>exact q
  | cont=>exact q
theorem ak(h1:PS X st t):PSs X [st] t:=by
  intro pins s σ H D I h;refine wpAny_execs_cons (thn (h1 pins s σ H D I h) λf s1 q=>?_);cases f with
  | next=>exact wpAny_execs_nil q
  | ret v=>exact q
  | brk=>exact q
  | cont=>exact q
theorem Inv.quiet{pins:List (Addr×Obj)}{σ:St}{H:Hp}{s:Shared}(I:Inv X pins σ H s):interactive X.env=false:=by simp[interactive,I.ok.kind]
noncomputable def II(te:TE):TS:=λD σ H=>te σ H λ_ H1=>D.nx σ H1
theorem az(he:PE X e te)(hs:swapsWith e none pos.line X.env=pure false:=by rfl):PS X (.Expr e pos) (II te):=by
  intro pins s σ H D I h;exact wpAny_Expr_any (thn (he pins s σ H _ I h) λv s1 ⟨x,H1,I1,r1,q1⟩=>⟨σ,H1,I1,q1⟩) I.quiet hs
noncomputable def KP(te:TE):TS:=λD σ H=>te σ H D.rt
theorem aG(he:PE X e te):PS X (.Return (some e) pos) (KP te):=by
  intro pins s σ H D I h;exact wpAny_Return_some (thn (he pins s σ H _ I h) λv s1 ⟨x,H1,I1,r1,q1⟩=>⟨x,σ,H1,I1,r1,q1⟩)
noncomputable def KQ(c:TT)(t u:TS):TS:=λD σ H=>c σ H λb H1=>if b=true then t D σ H1 else u D σ H1
theorem a6{c:Expr}{a b:List Stmt}{tc:TT}(hc:PT X c tc)(ha:PSs X a t)(hb:PSs X b u):PS X (.If c a b pos) (KQ tc t u):=by
  intro pins s σ H D I h;refine wpAny_If (thn (hc pins s σ H _ I h) λd s1 ⟨H1,I1,q1⟩=>?_);cases d with
  | true=>exact ha pins s1 σ H1 D I1 q1
  | false=>exact hb pins s1 σ H1 D I1 q1
end
noncomputable abbrev TG:=V→St→Hp→(St→Hp→Prop)→Prop
noncomputable abbrev TGs:=List V→St→Hp→(St→Hp→Prop)→Prop
noncomputable def PG(X:Cx)(target:Expr)(t:TG):Prop :=
  ∀(pins:List (Addr×Obj)) (s:Shared) (σ:St) (H:Hp) (v:V) (u:Value) (Q:St→Hp→Prop),Inv X pins σ H s→RelV v u→t v σ H Q →
    wpAny (model X.prog X.w) X.A (assign target X.env u) (λ_ s'=>∃ σ' H',Inv X pins σ' H' s'∧Q σ' H') X.xe s
noncomputable def PGs(X:Cx)(ts:List Expr)(t:TGs):Prop :=
  ∀(pins:List (Addr×Obj)) (s:Shared) (σ:St) (H:Hp) (vs:List V) (us:List Value) (Q:St→Hp→Prop),Inv X pins σ H s→Vals vs us→t vs σ H Q →
    wpAny (model X.prog X.w) X.A (assignInOrder ((assignEach ts X.env).map (·.2)) us) (λ_ s'=>∃ σ' H',Inv X pins σ' H' s'∧Q σ' H') X.xe s
noncomputable abbrev FR:=V→V→V→Hp→(Hp→Prop)→Prop
noncomputable def JW(X:Cx)(t:FR):Prop :=
  ∀(pins:List (Addr×Obj)) (s:Shared) (σ:St) (H:Hp) (o i v:V) (ov iv u:Value) (Q:Hp→Prop),Inv X pins σ H s→RelV o ov→RelV i iv→RelV v u→t o i v H Q →
    wpAny (model X.prog X.w) X.A (setItem ov iv u) (λ_ s'=>∃ H',Inv X pins σ H' s'∧Q H') X.xe s
noncomputable abbrev TIp:=V→V→Hp→VK→Prop
noncomputable def PIp(X:Cx)(op:Operator)(t:TIp):Prop :=
  ∀(pins:List (Addr×Obj)) (s:Shared) (σ:St) (H:Hp) (x y:V) (v u:Value) (Q:VK),Inv X pins σ H s→RelV x v→RelV y u→t x y H Q →
    wpAny (model X.prog X.w) X.A (inplaceOp op v u) (EP X pins σ Q) X.xe s
section
variable{X:Cx}{pos:Pos}
noncomputable def mP(i:Nat):TG:=λv σ H Q=>Q (σ.set i (some v)) H
theorem aN{i:Nat}{x:Str}(hN:X.N.Nodup)(hi:X.N[i]?=some x)(hx:Loc X.env.scope x)(hf:X.fn x=true∨X.env.scope.names.lookup x=some .local:=by first|exact .inl rfl|exact .inr rfl|assumption):PG X (.Name x pos) (mP i):=by
  intro pins s σ H v u Q I r h;exact wpAny_assign_Name (rm I hN hi hx r (λs' I'=>⟨_,H,I',h⟩) hf)
noncomputable def KR:TGs:=λvs σ H Q=>vs=[]∧Q σ H
noncomputable def IJ(t:TG)(u:TGs):TGs:=λvs σ H Q=>∃ v r,vs=v::r∧t v σ H λσ' H'=>u r σ' H' Q
theorem nu:PGs X [] KR:=by
  intro pins s σ H vs us Q I r h;obtain⟨e,h⟩:=h;subst e;cases r;exact assignInOrder_nil ⟨σ,H,I,h⟩
theorem dc{e:Expr}{es:List Expr}{t:TG}{u:TGs}(h1:PG X e t)(h2:PGs X es u)
    (hs:(assignEach (e::es) X.env).map (·.2)=assign e X.env::(assignEach es X.env).map (·.2):=by rfl):PGs X (e::es) (IJ t u):=by
  intro pins s σ H vs us Q I r h;obtain⟨v,vr,e1,h⟩:=h;subst e1;cases r with
  | cons r rr =>
    rw[hs];refine assignInOrder_cons (thn (h1 pins s σ H _ _ _ I r h) λ_ s1 ⟨σ1,H1,I1,q1⟩=>?_);exact h2 pins s1 σ1 H1 _ _ Q I1 rr q1
noncomputable def KS(K:W.Frag)(n:Nat)(t:TGs):TG:=λv σ H Q=>∃ a xs,v=.ref a∧SqT K H a xs∧xs.length=n∧t xs σ H Q
theorem rQ{es:List Expr}{k:Nat}{t:TGs}{n:Nat}(hc:X.calm=true)(h:PGs X es t)
    (hn:(assignEach es X.env).length=n:=by rfl) (hst:(assignEach es X.env).findIdx? (·.1)=none:=by rfl):PG X (.Tuple es k pos) (KS X.K n t):=by
  intro pins s σ H v u Q I r hw;obtain⟨a,xs,e1,hq,hl,hw⟩:=hw;subst e1;cases r;obtain⟨its,rv,ht,hz⟩:=I.tuple hq;refine assign_Tuple_tuple (I.ok.hd hc) ht (by simp[hn,←hl,rv.length]) hst λh' hx=>?_;have I1:Inv X pins σ H {s with heap:=h'}:=I.kept (t':=s.toks) λb o e=>hx b o (Nw (Nb e)) e;exact h pins _ σ H xs _ Q I1 (by simpa using rv) hw
noncomputable def KU(to ti:TE)(t:FR):TG:=λv σ H Q=>to σ H λo H1=>ti σ H1 λi H2=>t o i v H2 λH3=>Q σ H3
theorem rR{o i:Expr}{to ti:TE}{t:FR}(ho:PE X o to)(hi:PE X i ti)(hs:JW X t)
    (ha:∀ v,assign (.Subscript o i pos) X.env v=(do
      let ov ←holding [v] (eval o X.env)
      let iv ←holding [v,ov] (eval i X.env)
      standAt pos
      holding [v,ov,iv] (setItem ov iv v)
      release [v,ov,iv] []):=by intro _;rfl):PG X (.Subscript o i pos) (KU to ti t):=by
  intro pins s σ H v u Q I r h;rw[ha];refine wpAny_bind (wpAny_holding (thn (ho pins s σ H _ I h) λov s1 ⟨x,H1,I1,r1,q1⟩=>?_));refine wpAny_bind (wpAny_holding (thn (hi pins s1 σ H1 _ I1 q1) λiv s2 ⟨y,H2,I2,r2,q2⟩=>?_));refine wpAny_bind (wpAny_standAt (wpAny_bind (wpAny_holding (thn (hs pins s2 σ H2 x y v ov iv u _ I2 r1 r2 r q2) λ_ s3 ⟨H3,I3,q3⟩=>?_))));exact wpAny_release ⟨σ,H3,I3,q3⟩
noncomputable def D8(te:TE)(g:TG):TS:=λD σ H=>te σ H λx H1=>g x σ H1 D.nx
theorem qc{tg e:Expr}{te:TE}{g:TG}(he:PE X e te)(hg:PG X tg g)(hs:swapsWithSole [tg] e pos.line X.env=pure false:=by rfl)(hw:swappedStores [tg] e X.env=pure none:=by rfl)
    (h1:(assignEach [tg] X.env).map (·.2)=[assign tg X.env]:=by rfl):PS X (.Assign [tg] e pos) (D8 te g):=by
  intro pins s σ H D I h;refine wpAny_Assign_stores (thn (he pins s σ H _ I h) λv s1 ⟨x,H1,I1,r1,q1⟩=>?_) hs hw;rw[h1];exact thn (hg pins s1 σ H1 x v _ I1 r1 q1) λ_ s2 q=>q
theorem aD{i:Nat}{x:Str}{e:Expr}{te:TE}{pos':Pos}(hN:X.N.Nodup)(hi:X.N[i]?=some x)(hx:Loc X.env.scope x)(he:PE X e te)(hs:swapsWith e (some (.Name x pos')) pos.line X.env=pure false:=by rfl)(hf:X.fn x=true∨X.env.scope.names.lookup x=some .local:=by first|exact .inl rfl|exact .inr rfl|assumption) :
    PS X (.Assign [.Name x pos'] e pos) (D8 te (mP i)):=by
  intro pins s σ H D I h;refine wpAny_Assign_Name (thn (he pins s σ H _ I h) λv s1 ⟨y,H1,I1,r1,q1⟩=>?_) hs;exact rm I1 hN hi hx r1 (λs2 I2=>⟨_,H1,I2,q1⟩) hf
noncomputable def KW(i:Nat)(te:TE)(ti:TIp):TS:=λD σ H=>∃ x,σ[i]?=some (some x)∧te σ H λy H1=>ti x y H1 λz H2=>D.nx (σ.set i (some z)) H2
theorem Bw{i:Nat}{x:Str}{e:Expr}{te:TE}{op:Operator}{ti:TIp}{pos':Pos}(hN:X.N.Nodup)(hi:X.N[i]?=some x)(hx:Loc X.env.scope x)(he:PE X e te)(ho:PIp X op ti)(hf:X.fn x=true∨X.env.scope.names.lookup x=some .local:=by first|exact .inl rfl|exact .inr rfl|assumption) :
    PS X (.AugAssign (.Name x pos') op e pos) (KW i te ti):=by
  intro pins s σ H D I h;obtain⟨v,e1,h⟩:=h;obtain⟨m,hn,hl⟩:=I.loc;have vis:Vis X.env.scope x:=by rcases hx with k|k;exact .inl k;exact .inr (.inl k)
  obtain⟨u,r,l⟩:=hl i x v hi e1 vis;refine wpAny_AugAssign_Name ?_;have go:wpAny (model X.prog X.w) X.A (eval e X.env) (λw s₂=>wpAny (model X.prog X.w) X.A (inplaceOp op u w) (λr s₃=>wpAny (model X.prog X.w) X.A (storeName X.env x r) (λ_=>SP X pins D .next) X.xe s₃) X.xe s₂) X.xe s:=by
    refine thn (he pins s σ H _ I h) λw s1 ⟨y,H1,I1,r1,q1⟩=>?_;refine thn (ho pins s1 σ H1 v y u w _ I1 r r1 q1) λz s2 ⟨zv,H2,I2,r2,q2⟩=>?_;exact rm I2 hN hi hx r2 (λs3 I3=>⟨_,H2,I3,q2⟩) hf
  rcases l with⟨hk,hm⟩|⟨hk,c,hc,Ac⟩
  · exact wpAny_loadName_local I.ok.kind hk hn hm go
  · rcases hk with hk|hk
    · exact wpAny_loadName_cell I.ok.kind hk hc Ac go
    · rcases hx with k|k
      · have:X.env.scope.names.lookup x=some .free:=hk
        rw[k]at this;cases this
      · have:X.env.scope.names.lookup x=some .free:=hk
        rw[k]at this;cases this
noncomputable def ipI(f:Int→Int→Int):TIp:=λx y H Q=>∃ i j,x=.int i∧y=.int j∧Q (.int (f i j)) H
theorem Bx:PIp X .Add (ipI λi j=>i+j):=by
  intro pins s σ H x y v u Q I r1 r2 h;obtain⟨i,j,e1,e2,q⟩:=h;subst e1;subst e2;obtain⟨t,rfl⟩:=r1;obtain⟨t',rfl⟩:=r2;exact iadd_int ⟨.int _,H,I.tok _,⟨_,rfl⟩,q⟩
end
section
variable{X:Cx}{pos:Pos}
noncomputable def EO(c:TT)(tb:TS):TS:=λD σ H=>∃ W:Nat→St→Hp→Prop,(∃ m,W m σ H)∧∀ m σ H,W m σ H →
  c σ H λb H1=>if b=true then ∃ N:St→Hp→Prop,(∀ σ' H',N σ' H'→∃ m',m'<m∧W m' σ' H')∧tb {D with nx:=N,ct:=N,bk:=D.nx} σ H1 else D.nx σ H1
theorem wq{c:Expr}{body:List Stmt}{tc:TT}{tb:TS}(hp:PassesOwn (model X.prog X.w) X.A X.env X.xe)(hc:PT X c tc)(hb:PSs X body tb):PS X (.While c body [] pos) (EO tc tb):=by
  intro pins s σ H D I h;obtain⟨W,⟨m0,w0⟩,turn⟩:=h;refine wpAny_While (codeAny_whileLoop (λn s'=>∃ σ' H',Inv X pins σ' H' s'∧W n σ' H') ?_ m0 ⟨σ,H,I,w0⟩);rintro n s1 ⟨σ1,H1,I1,w1⟩;refine wpAny_passesOwn hp (thn (hc pins s1 σ1 H1 _ I1 (turn n σ1 H1 w1)) λb s2 ⟨H2,I2,q2⟩=>?_);cases b with
  | true =>
    obtain⟨N,hN,q2⟩:=q2;rw[if_pos rfl];refine wpAny_passesOwn hp (thn (hb pins s2 σ1 H2 _ I2 q2) λf s3 q3=>?_);cases f with
    | next =>
      obtain⟨σ3,H3,I3,n3⟩:=q3;obtain⟨m',hm,w3⟩:=hN σ3 H3 n3;exact⟨m',hm,σ3,H3,I3,w3⟩
    | cont =>
      obtain⟨σ3,H3,I3,n3⟩:=q3;obtain⟨m',hm,w3⟩:=hN σ3 H3 n3;exact⟨m',hm,σ3,H3,I3,w3⟩
    | brk=>exact q3
    | ret v=>exact q3
  | false =>
    rw[if_neg M4];exact wpAny_execs_nil ⟨σ1,H2,I2,q2⟩
end
structure It where
  go:Nat→Hp→Prop
  yld:Nat→Hp→V→Hp→Prop
  stop:Nat→Hp→Prop
noncomputable def qF(X:Cx)(pins:List (Addr×Obj))(H:Hp)(b:Addr):Prop :=
  H b=none∧b≠X.env.locals∧b∉X.fs∧(b∈X.ex∨X.s₀.heap.objs.size≤b)∧(∀ x c,X.env.cells.lookup x=some c→c≠b)∧∀ p∈X.pn++pins,p.1≠b
theorem Inv.CL{X:Cx}{pins:List (Addr×Obj)}{σ:St}{H H':Hp}{s:Shared}{b:Addr}(I:Inv X pins σ H s)(hb:s.heap.objs.size≤b)(hn:H' b=none):qF X pins H' b:=by
  refine⟨hn,OQ (Nr I.lt hb),I.KG hb,.inr (Nh I.sz hb),λx c e z=>?_,λp hp z=>?_⟩
  · obtain⟨v,q⟩:=I.cell x c e
    exact absurd (Nr q.lt (by rw[z];exact hb)) (Og _)
  · exact absurd (Nr (Nb (I.pin p hp).1) (by rw[z];exact hb)) (Og _)
structure Turn(P:Program)(w:World)(K:W.Frag)(tg:Expr)(J:It)(fp:List Addr)(it:Addr)(tn:Nat→Heap→Prop):Prop where
  mem:it∈fp
  obj:∀ i h,tn i h→∀ b∈fp,∃ o,h.get? b=some o∧∀ v,o.data≠.cell v
  keep:∀ i h h',tn i h→(∀ b∈fp,∀ o,h.get? b=some o→h'.get? b=some o)→tn i h'
  item:∀(X:Cx),X.prog=P→X.w=w→X.K=K→X.calm=true→∀(i:Nat) (pins:List (Addr×Obj)) (s:Shared) (σ:St) (H:Hp) (E:Value→Shared→Prop),Inv X pins σ H s→(∀ b∈fp,qF X pins H b)→tn i s.heap→J.go i H →
    wpAny (model P w) X.A (pyNext (.ref it)) (λr s1=>∃ u,r=some u ∧
      wpAny (model P w) X.A (letOwnedTupleGo tg (.ref it) u) (λ_ s2=>∃ x H',Inv X pins σ H' s2∧RelV x u∧J.yld i H x H'∧tn (i+1) s2.heap∧∀ b∈fp,H' b=none) E s1) E s
  done:∀(X:Cx),X.prog=P→X.w=w→X.K=K→X.calm=true→∀(i:Nat) (pins:List (Addr×Obj)) (s:Shared) (σ:St) (H:Hp) (E:Value→Shared→Prop),Inv X pins σ H s→(∀ b∈fp,qF X pins H b)→tn i s.heap→J.stop i H →
    wpAny (model P w) X.A (pyNext (.ref it)) (λr s1=>r=none∧Inv X pins σ H s1) E s
  self:∀(A:Around) (i:Nat) (s:Shared) (Q:Value→Shared→Prop) (E:Value→Shared→Prop),tn i s.heap→Q (.ref it) s→wpAny (model P w) A (pyIter (.ref it)) Q E s
noncomputable abbrev TI:=St→Hp→(It→Hp→Prop)→Prop
noncomputable def PIE(X:Cx)(pins:List (Addr×Obj))(σ:St)(tg:Expr)(R:It→Hp→Prop)(itv:Value)(s2:Shared):Prop :=
  ∃(it:Addr) (fp:List Addr) (tn:Nat→Heap→Prop) (J:It) (H':Hp),itv=.ref it∧Inv X pins σ H' s2∧Turn X.prog X.w X.K tg J fp it tn∧tn 0 s2.heap∧(∀ b∈fp,qF X pins H' b)∧R J H'
noncomputable def PI(X:Cx)(tg iter:Expr)(wi:TI):Prop :=
  ∀(pins:List (Addr×Obj)) (s:Shared) (σ:St) (H:Hp) (R:It→Hp→Prop),Inv X pins σ H s→wi σ H R →
    wpAny (model X.prog X.w) X.A (eval iter X.env) (λv s1=>wpAny (model X.prog X.w) X.A (pyIter v) (PIE X pins σ tg R) X.xe s1) X.xe s
theorem D9{M:Model}{A:Around}{E:Value→Shared→Prop}{s:Shared}{tg:Expr}{it:Addr}{u:Value}{o:Obj}{n:String}{vs:Array Value}{Q:Unit→Shared→Prop}(ho:s.heap.get? it=some o)(hc:o.cls=.type n)(hd:o.data=.fields vs)
    (hn:["enumerate", "zip", "dict_itemiterator", "dict_reverseitemiterator", "odict_iterator", "itertools.zip_longest", "itertools.pairwise"].contains n=false) (hQ:Q () s):wpAny M A (letOwnedTupleGo tg (.ref it) u) Q E s:=by
  unfold letOwnedTupleGo;cases tg<;>first
    | exact wpAny_pure hQ
    | (cases u<;>first
        | exact wpAny_pure hQ
        | (refine wpAny_bind (wpAny_load ho ?_)
           rw[hc,hd];show wpAny M A (if(["enumerate", "zip", "dict_itemiterator", "dict_reverseitemiterator", "odict_iterator", "itertools.zip_longest", "itertools.pairwise"].contains n&&vs[0]? == some (rawInt _))=true then _ else _) Q E s;rw[if_neg (by intro h;rw[hn,Bool.false_and]at h;cases h)];exact wpAny_pure hQ))
noncomputable def Itl(K:W.Frag)(a:Addr):It :=
  ⟨λi H=>∃ xs x,SqL K H a xs∧xs[i]?=some x,λi H x H'=>H'=H∧∀ xs,SqL K H a xs→xs[i]?=some x,λi H=>∃ xs,SqL K H a xs∧xs.length≤i⟩
noncomputable def Itr(lo:Int)(n:Nat):It:=⟨λi _=>i<n,λi H x H'=>H'=H∧x=.int (lo+i),λi _=>n≤i⟩
theorem zi{P:Program}{w:World}{K:W.Frag}{tg:Expr}(a it:Addr):Turn P w K tg (Itl K a) [it] it (λi h=>h.IsListIter it a i) where
  mem:=by simp
  obj:=λi h st b hb=>by
    have e:b=it:=(by simpa using hb);subst e;obtain⟨o,e,c,d⟩:=st;exact⟨o,e,λv z=>by rw[d]at z;cases z⟩
  keep:=λi h h' st k=>st.at λo e=>k it (by simp) o e
  item:=by
    intro X hP hw hK hc i pins s σ H E I hf st hg;subst hP hw hK;obtain⟨xs,x,hq,hx⟩:=hg;obtain⟨its,rv,p,hz⟩:=I.list hq;obtain⟨u,hu,ru⟩:=rv.get hx;obtain⟨f0,f1,f2,f3,f4,f5⟩:=hf it (by simp);refine wpAny_pyNext_list_item st p.isList (x:=u) (by simpa using hu) λh' st' sb=>?_;have I1:Inv X pins σ H {s with heap:=h'}:=I.turned (t':=s.toks) (λb o hb e=>(sb.2 b hb).trans e) f0 f1 f3 f4 f5;obtain⟨o,e,c,d⟩:=id st';exact⟨u,rfl,D9 (s:={s with heap:=h'}) e c d (by decide) ⟨x,H,I1,ru,⟨rfl,λys hy=>by rw[I.wo hy hq];exact hx⟩,st',λb hb=>(hf b hb).1⟩⟩
  done:=by
    intro X hP hw hK hc i pins s σ H E I hf st hg;subst hP hw hK;obtain⟨xs,hq,hx⟩:=hg;obtain⟨its,rv,p,hz⟩:=I.list hq;obtain⟨f0,f1,f2,f3,f4,f5⟩:=hf it (by simp);have hl:=rv.length;exact wpAny_pyNext_list_end (I.ok.hd hc) st p.isList (by simp;omega) λh' eb=>⟨rfl,I.turned (t':=s.toks) (λb o hb e=>eb b o hb e) f0 f1 f3 f4 f5⟩
  self:=λ_ _ _ _ _ st h=>wpAny_pyIter_listiter st h
theorem xj{P:Program}{w:World}{K:W.Frag}{tg:Expr}(it:Addr)(lo:Int)(n:Nat):Turn P w K tg (Itr lo n) [it] it (λi h=>IsRangeIter h it (lo+(i:Nat)*1) ((n:Int)-(i:Nat)) 1) where
  mem:=by simp
  obj:=λi h st b hb=>by
    have e:b=it:=(by simpa using hb);subst e;exact⟨_,st,λv z=>by
      have z':Data.fields _=Data.cell v:=z;cases z'⟩
  keep:=λi h h' st k=>k it (by simp) _ st
  item:=by
    intro X hP hw hK hc i pins s σ H E I hf st hg;subst hP hw hK;obtain⟨f0,f1,f2,f3,f4,f5⟩:=hf it (by simp);have W:=Walks.range (prog:=X.prog) (w:=X.w) (I.ok.hd hc) it lo 1 n;refine W.item i s _ _ hg st λv h' tk hv st' kk=>?_;obtain⟨t,rfl⟩:=hv;have I1:Inv X pins σ H {s with heap:=h',toks:=tk}:=I.turned (λb o hb e=>kk b o (by simpa using hb) e) f0 f1 f3 f4 f5;refine⟨_,rfl,D9 (s:={s with heap:=h',toks:=tk}) (n := "range_iterator") st' rfl rfl (by decide) ⟨.int (lo+i),H,I1,⟨t,?_⟩,⟨rfl,rfl⟩,st',λb hb=>(hf b hb).1⟩⟩;rw[Int.mul_one]
  done:=by
    intro X hP hw hK hc i pins s σ H E I hf st hg;subst hP hw hK;obtain⟨f0,f1,f2,f3,f4,f5⟩:=hf it (by simp);exact wpAny_pyNext_range_end (I.ok.hd hc) st (by have:n≤i:=hg;omega) λh' eb=>⟨rfl,I.turned (t':=s.toks) (λb o hb e=>eb b o hb e) f0 f1 f3 f4 f5⟩
  self:=λ_ _ _ _ _ st h=>wpAny_pyIter_rangeiter st h
end L2
namespace L2
open PySem PySem.Spec PyProof.Rows
section
variable{X:Cx}{tg:Expr}
inductive JX(K:W.Frag)(x:V)(H:Hp)(R:It→Hp→Prop):Prop where
  | mk (a:Addr):x=.ref a→(∃ xs,SqL K H a xs)→R (Itl K a) H→JX K x H R
noncomputable def IK(K:W.Frag)(tl:TE):TI:=λσ H R=>tl σ H λx H1=>JX K x H1 R
theorem a9{l:Expr}{tl:TE}(hl:PE X l tl):PI X tg l (IK X.K tl):=by
  intro pins s σ H R I h;refine thn (hl pins s σ H _ I h) λv s1 ⟨x,H1,I1,r1,q1⟩=>?_;obtain⟨a,e,⟨xs,hq⟩,q⟩:=q1;subst e;cases r1;obtain⟨its,rv,p,hz⟩:=I1.list hq;refine wpAny_pyIter_list p.isList ?_;refine⟨s1.heap.objs.size,[s1.heap.objs.size],_,_,H1,rfl,I1.kept (t':=s1.toks) λb o e=>MU _ e,zi a _,⟨_,NB _ rfl,rfl,rfl⟩,λb hb=>?_,q⟩;have e:b=s1.heap.objs.size:=by simpa using hb
  subst e;exact I1.CL (MR _) (I1.hok.fresh (MR _))
theorem Aw{pins:List (Addr×Obj)}{σ:St}{H:Hp}{s:Shared}{R:It→Hp→Prop}{E:Value→Shared→Prop}{lo hi:Int}{t u v:Tok}{tk:Nat}(I:Inv X pins σ H s)(h1:-(2 ^ 62)≤lo)(h2:lo<2 ^ 62)(h3:-(2 ^ 62)≤hi)(h4:hi<2 ^ 62)
    (q:R (Itr lo (hi-lo).toNat) H):wpAny (model X.prog X.w) X.A (pyIter (.ref s.heap.objs.size)) (PIE X pins σ tg R) E {s with heap:=s.heap.push {cls:=.type "range",data:=.fields #[.int lo t,.int hi u,.int 1 v]},toks:=tk}:=by
  refine wpAny_pyIter_range (IsRange.new ..) (small_one h1 h2 h3 h4) ?_;have I1:Inv X pins σ H {s with heap:=s.heap.push {cls:=.type "range",data:=.fields #[.int lo t,.int hi u,.int 1 v]},toks:=tk}:=I.kept λb o e=>MU _ e;refine⟨(s.heap.push {cls:=.type "range",data:=.fields #[.int lo t,.int hi u,.int 1 v]}).objs.size,[(s.heap.push {cls:=.type "range",data:=.fields #[.int lo t,.int hi u,.int 1 v]}).objs.size],_,_,H,rfl,
    I1.kept (t':=tk) λb o e=>MU _ e,xj _ lo (hi-lo).toNat,?_,λb hb=>?_,q⟩
  · have e1:lo+((0:Nat):Int)*1=lo:=by simp
    have e2:(((hi-lo).toNat:Nat):Int)-((0:Nat):Int)=Builtin.Range.rangeSize lo hi 1:=(by rw[rangeSize_one];split<;>omega);show IsRangeIter _ _ (lo+((0:Nat):Int)*1) ((((hi-lo).toNat:Nat):Int)-((0:Nat):Int)) 1;rw[e1,e2];exact NB _ rfl
  · have e:b=(s.heap.push {cls:=.type "range",data:=.fields #[.int lo t,.int hi u,.int 1 v]}).objs.size:=by simpa using hb
    subst e;exact I1.CL (MR _) (I1.hok.fresh (MR _))
noncomputable def IL(ta:TA):TI:=λσ H R=>ta σ H λvs H1=>∃ j:Int,vs=[.int j]∧-(2 ^ 62)≤j∧j<2 ^ 62∧R (Itr 0 j.toNat) H1
theorem oA{a:Expr}{ta:TA}{p pos:Pos}(hg:Gl X "range")(hm:X.mg "range" = none)(ha:PA X [a] ta)(hs:starEach [a] X.env=[(false,eval a X.env)]:=by rfl):PI X tg (.Call (.Name "range" p) [a] [] pos) (IL ta):=by
  intro pins s σ H R I h;refine Call_ (rN I hg hm boot_range (PyProof.Rows.callWith_type1 (thn (ha pos pins s σ H _ I h) λus s1 ⟨vs,H1,I1,r1,q1⟩=>?_) hs rfl));obtain⟨j,e,q1,q2,q⟩:=q1;subst e;cases r1 with
  | cons r rr =>
    cases rr;obtain⟨t,rfl⟩:=r;exact call_range_1 (Aw I1 (by omega) (by omega) q1 q2 (by simpa using q))
noncomputable def KY(wi:TI)(g:TG)(tb:TS):TS:=λD σ H=>wi σ H λJ H1=>∃ W:Nat→Nat→St→Hp→Prop,(∃ m,W 0 m σ H1)∧∀ i m σ H,W i m σ H →
  (J.stop i H∧D.nx σ H)∨(J.go i H∧∃ N:St→Hp→Prop,(∀ σ' H',N σ' H'→∃ m',m'<m∧W (i+1) m' σ' H')∧∀ x H',J.yld i H x H'→g x σ H' λσ2 H2=>tb {D with nx:=N,ct:=N,bk:=D.nx} σ2 H2)
noncomputable def qd(fp:List Addr)(h:Heap):List (Addr×Obj):=fp.filterMap λb=>(h.get? b).map λo=>(b,o)
theorem cv{fp:List Addr}{h:Heap}{b:Addr}{o:Obj}(hb:b∈fp)(e:h.get? b=some o):(b,o)∈qd fp h:=N6.mpr ⟨b,hb,by rw[e];rfl⟩
theorem zj{fp:List Addr}{h:Heap}{p:Addr×Obj}(hp:p∈qd fp h):p.1∈fp∧h.get? p.1=some p.2:=by
  obtain⟨b,hb,e⟩:=N6.mp hp;cases q:h.get? b with
  | none=>rw[q]at e;cases e
  | some o =>
    rw[q]at e;have e':(b,o)=p:=Nf e;subst e';exact⟨hb,q⟩
theorem Inv.pinned{pins:List (Addr×Obj)}{σ:St}{H:Hp}{s:Shared}{fp:List Addr}(I:Inv X pins σ H s)(hf:∀ b∈fp,qF X pins H b)(ho:∀ b∈fp,∃ o,s.heap.get? b=some o∧∀ v,o.data≠.cell v):Inv X (pins++qd fp s.heap) σ H s :=
  I.yj λp hp=>(MS.mp hp).elim (λz=>I.pin p (MX _ z)) λz=>by
    obtain⟨hb,e⟩:=zj z;obtain⟨f0,f1,f2,_⟩:=hf p.1 hb;obtain⟨o,e',d⟩:=ho p.1 hb;rw[e]at e';cases e';exact⟨e,f0,f1,f2,d⟩
theorem Inv.fz{pins pl:List (Addr×Obj)}{σ:St}{H:Hp}{s:Shared}(I:Inv X (pins++pl) σ H s):Inv X pins σ H s:=I.yj λp hp=>I.pin p (MX _ (Nd _ hp))
theorem bF{iter:Expr}{body:List Stmt}{wi:TI}{g:TG}{tb:TS}{pos:Pos}(hp:PassesOwn (model X.prog X.w) X.A X.env X.xe)(hc:X.calm=true)(hi:PI X tg iter wi)(hg:PG X tg g)(hb:PSs X body tb)
    (hs:∀ x,foldedSetIterable iter X.env x=pure x:=by intro _;rfl):PS X (.For tg iter body [] pos) (KY wi g tb):=by
  intro pins s σ H D I h;refine wpAny_For (thn (hi pins s σ H _ I h) λv s1 h1=>thn h1 λitv s2 h2=>?_) hs;obtain⟨it,fp,tn,J,H2,e,I2,T,st2,f2,W,⟨m0,w0⟩,turn⟩:=h2;subst e;have qg:∀ {H':Hp},(∀ b∈fp,H' b=none)→∀ b∈fp,qF X pins H' b:=λhn b hb=>⟨hn b hb,(f2 b hb).2⟩;refine codeAny_forLoop_any (λn s'=>∃ i σ' H',Inv X pins σ' H' s'∧tn i s'.heap∧(∀ b∈fp,H' b=none)∧W i n σ' H') ?_ m0 ⟨0,σ,H2,I2,st2,λb hb=>(f2 b hb).1,w0⟩;rintro n s3 ⟨i,σ3,H3,I3,st3,fr3,w3⟩;rcases turn i n σ3 H3 w3 with⟨stop,qn⟩|⟨go,N,hN,step⟩
  · refine wpAny_passesOwn hp (thn (T.done X rfl rfl rfl hc i pins s3 σ3 H3 X.xe I3 (qg fr3) st3 stop) λr s4 ⟨hr,I4⟩=>?_)
    subst hr;exact wpAny_execs_nil ⟨σ3,H3,I4,qn⟩
  · refine wpAny_passesOwn hp (thn (T.item X rfl rfl rfl hc i pins s3 σ3 H3 X.xe I3 (qg fr3) st3 go) λr s4 ⟨u,hr,h4⟩=>?_)
    subst hr;refine wpAny_passesOwn hp (thn h4 λ_ s5 ⟨x,H5,I5,r5,y5,st5,fr5⟩=>?_);have I5':=I5.pinned (qg fr5) (T.obj _ _ st5);refine wpAny_passesOwn hp (thn (hg _ s5 σ3 H5 x u _ I5' r5 (step x H5 y5)) λ_ s6 ⟨σ6,H6,I6,q6⟩=>?_);refine wpAny_passesOwn hp (thn (hb _ s6 σ6 H6 _ I6 q6) λf s7 q7=>?_);have again:∀ {σ7:St} {H7:Hp},Inv X (pins++qd fp s5.heap) σ7 H7 s7→N σ7 H7→∃ m,m<n∧∃ i σ' H',Inv X pins σ' H' s7∧tn i s7.heap∧(∀ b∈fp,H' b=none)∧W i m σ' H':=λ{σ7 H7} I7 n7=>by
      obtain⟨m',hm,w7⟩:=hN σ7 H7 n7;refine⟨m',hm,i+1,σ7,H7,I7.fz,T.keep _ _ _ st5 λb hb o e=>(I7.pin (b,o) (MX _ (MX _ (cv hb e)))).1,λb hb=>?_,w7⟩;obtain⟨o,e,d⟩:=T.obj _ _ st5 b hb;exact(I7.pin (b,o) (MX _ (MX _ (cv hb e)))).2.1
    cases f with
    | next=>obtain⟨σ7,H7,I7,n7⟩:=q7;exact again I7 n7
    | cont=>obtain⟨σ7,H7,I7,n7⟩:=q7;exact again I7 n7
    | brk=>obtain⟨σ7,H7,I7,q7⟩:=q7;exact⟨σ7,H7,I7.fz,q7⟩
    | ret v=>obtain⟨x7,σ7,H7,I7,r7,q7⟩:=q7;exact⟨x7,σ7,H7,I7.fz,r7,q7⟩
end
theorem cg{K:W.Frag}{a:Addr}{xs:List V}{g:TG}{tb:TS}{D:Ends}{σ:St}{H:Hp}(Pv:Nat→St→Hp→Prop)(h0:Pv 0 σ H)(hl:∀ i σ H,i≤xs.length→Pv i σ H→SqL K H a xs)
    (hs:∀ i x σ H,xs[i]?=some x→Pv i σ H→g x σ H λσ2 H2=>tb {D with nx:=Pv (i+1),ct:=Pv (i+1),bk:=D.nx} σ2 H2) (hd:∀ σ H,Pv xs.length σ H→D.nx σ H) :
    ∃ W:Nat→Nat→St→Hp→Prop,(∃ m,W 0 m σ H)∧∀ i m σ H,W i m σ H →
      ((Itl K a).stop i H∧D.nx σ H)∨((Itl K a).go i H∧∃ N:St→Hp→Prop,(∀ σ' H',N σ' H'→∃ m',m'<m∧W (i+1) m' σ' H')∧∀ x H',(Itl K a).yld i H x H'→g x σ H' λσ2 H2=>tb {D with nx:=N,ct:=N,bk:=D.nx} σ2 H2):=by
  refine⟨λi m σ H=>m=xs.length-i∧i≤xs.length∧Pv i σ H,⟨xs.length,by simp,NH _,h0⟩,?_⟩;rintro i m σ H ⟨rfl,hi,p⟩;have q:=hl i σ H hi p;by_cases hlt:i<xs.length
  · refine .inr ⟨⟨xs,xs[i],q,by simp[hlt]⟩,Pv (i+1),λσ' H' p'=>⟨xs.length-(i+1),by omega,rfl,hlt,p'⟩,λx H' y=>?_⟩
    obtain⟨e,y⟩:=y;subst e;exact hs i x σ _ (y xs q) p
  · have e:i=xs.length:=by omega
    subst e;exact .inl ⟨⟨xs,q,MR _⟩,hd σ H p⟩
theorem oB{lo:Int}{n:Nat}{g:TG}{tb:TS}{D:Ends}{σ:St}{H:Hp}(Pv:Nat→St→Hp→Prop)(h0:Pv 0 σ H)
    (hs:∀ i σ H,i<n→Pv i σ H→g (.int (lo+i)) σ H λσ2 H2=>tb {D with nx:=Pv (i+1),ct:=Pv (i+1),bk:=D.nx} σ2 H2) (hd:∀ σ H,Pv n σ H→D.nx σ H) :
    ∃ W:Nat→Nat→St→Hp→Prop,(∃ m,W 0 m σ H)∧∀ i m σ H,W i m σ H →
      ((Itr lo n).stop i H∧D.nx σ H)∨((Itr lo n).go i H∧∃ N:St→Hp→Prop,(∀ σ' H',N σ' H'→∃ m',m'<m∧W (i+1) m' σ' H')∧∀ x H',(Itr lo n).yld i H x H'→g x σ H' λσ2 H2=>tb {D with nx:=N,ct:=N,bk:=D.nx} σ2 H2):=by
  refine⟨λi m σ H=>m=n-i∧i≤n∧Pv i σ H,⟨n,by simp,NH _,h0⟩,?_⟩;rintro i m σ H ⟨rfl,hi,p⟩;by_cases hlt:i<n
  · refine .inr ⟨hlt,Pv (i+1),λσ' H' p'=>⟨n-(i+1),by omega,rfl,hlt,p'⟩,λx H' y=>?_⟩
    obtain⟨e,y⟩:=y;subst e y;exact hs i σ _ hlt p
  · have e:i=n:=by omega
    subst e;exact .inl ⟨MR _,hd σ H p⟩
end L2
namespace L2
open PySem PySem.Spec PyProof.Rows
noncomputable abbrev R2:=V→V→Hp→VK→Prop
noncomputable def OpR(X:Cx)(f:Value→Value→Sem Value)(r:R2):Prop :=
  ∀(pins:List (Addr×Obj)) (s:Shared) (σ:St) (H:Hp) (x y:V) (v u:Value) (Q:VK),Inv X pins σ H s→RelV x v→RelV y u→r x y H Q →
    wpAny (model X.prog X.w) X.A (f v u) (EP X pins σ Q) X.xe s
noncomputable def gI(X:Cx)(f:Value)(r:List V→Hp→VK→Prop):Prop :=
  ∀(pins:List (Addr×Obj)) (s:Shared) (σ:St) (H:Hp) (xs:List V) (us:List Value) (Q:VK),Inv X pins σ H s→Vals xs us→r xs H Q →
    wpAny (model X.prog X.w) X.A (call f us) (EP X pins σ Q) X.xe s
noncomputable def tOp(r:R2)(ta tb:TE):TE:=λσ H Q=>ta σ H λx H1=>tb σ H1 λy H2=>r x y H2 Q
inductive IrI(C:Int→Int→Prop)(g:Int→Int→V)(x y:V)(H:Hp)(Q:VK):Prop where
  | mk (i j:Int):x=.int i→y=.int j→C i j→Q (g i j) H→IrI C g x y H Q
noncomputable def rI(C:Int→Int→Prop)(g:Int→Int→V):R2:=λx y H Q=>IrI C g x y H Q
inductive JY(g:Int→Int→V)(x y:V)(H:Hp)(Q:VK):Prop where
  | mk (i j:Int):x=.int i→y=.int j→Q (g i j) H→JY g x y H Q
noncomputable def rI0(g:Int→Int→V):R2:=λx y H Q=>JY g x y H Q
section
variable{X:Cx}{a b c:Expr}{ta tb tc:TE}{pos:Pos}
theorem FT(ha:PE X a ta)(hb:PE X b tb){pins:List (Addr×Obj)}{s:Shared}{σ:St}{H:Hp}{R:V→V→Hp→Prop}(I:Inv X pins σ H s)
    (h:ta σ H λx H1=>tb σ H1 λy H2=>R x y H2) {Q:Value→Shared→Prop} {f:Value→Value→Sem Value}
    (hf:∀ v u s2 x y H2,Inv X pins σ H2 s2→RelV x v→RelV y u→R x y H2→wpAny (model X.prog X.w) X.A (f v u) Q X.xe s2) :
    wpAny (model X.prog X.w) X.A (eval a X.env) (λv s₁=>wpAny (model X.prog X.w) X.A (eval b X.env) (λu s₂=>wpAny (model X.prog X.w) X.A (f v u) Q X.xe s₂) X.xe s₁) X.xe s:=by
  refine thn (ha pins s σ H _ I h) λv s1 ⟨x,H1,I1,r1,q1⟩=>?_;refine thn (hb pins s1 σ H1 _ I1 q1) λu s2 ⟨y,H2,I2,r2,q2⟩=>?_;exact hf v u s2 x y H2 I2 r1 r2 q2
theorem aT{op:Operator}{r:R2}(ho:OpR X (binaryOp op) r)(ha:PE X a ta)(hb:PE X b tb):PE X (.BinOp a op b pos) (tOp r ta tb):=by
  intro pins s σ H Q I h;exact wpAny_BinOp (FT ha hb I h λv u s2 x y H2 I2 rx ry q=>ho pins s2 σ H2 x y v u Q I2 rx ry q)
theorem opI{f:Value→Value→Sem Value}{C:Int→Int→Prop}{g:Int→Int→Int}
    (rule:∀(i j:Int) (t u:Tok) (s:Shared) (Q:Value→Shared→Prop) (E:Value→Shared→Prop),C i j→Q (.int (g i j) s.toks) {s with toks:=s.toks+1}→wpAny (model X.prog X.w) X.A (f (.int i t) (.int j u)) Q E s) :
    OpR X f (rI C λi j=>.int (g i j)):=by
  intro pins s σ H x y v u Q I rx ry h;obtain⟨i,j,rfl,rfl,hc,q⟩:=h;obtain⟨t,rfl⟩:=rx;obtain⟨t',rfl⟩:=ry;exact rule i j t t' s _ _ hc ⟨.int (g i j),H,I.tok _,⟨_,rfl⟩,q⟩
theorem JZ{f:Value→Value→Sem Value}{g:Int→Int→Int}
    (rule:∀(i j:Int) (t u:Tok) (s:Shared) (Q:Value→Shared→Prop) (E:Value→Shared→Prop),Q (.int (g i j) s.toks) {s with toks:=s.toks+1}→wpAny (model X.prog X.w) X.A (f (.int i t) (.int j u)) Q E s) :
    OpR X f (rI0 λi j=>.int (g i j)):=by
  intro pins s σ H x y v u Q I rx ry h;obtain⟨i,j,rfl,rfl,q⟩:=h;obtain⟨t,rfl⟩:=rx;obtain⟨t',rfl⟩:=ry;exact rule i j t t' s _ _ ⟨.int (g i j),H,I.tok _,⟨_,rfl⟩,q⟩
theorem Ea{f:Value→Value→Sem Value}{g:Int→Int→Bool}
    (rule:∀(i j:Int) (t u:Tok) (s:Shared) (Q:Value→Shared→Prop) (E:Value→Shared→Prop),Q (.bool (g i j)) s→wpAny (model X.prog X.w) X.A (f (.int i t) (.int j u)) Q E s) :
    OpR X f (rI0 λi j=>.bl (g i j)):=by
  intro pins s σ H x y v u Q I rx ry h;obtain⟨i,j,rfl,rfl,q⟩:=h;obtain⟨t,rfl⟩:=rx;obtain⟨t',rfl⟩:=ry;exact rule i j t t' s _ _ ⟨.bl (g i j),H,I,rfl,q⟩
noncomputable def KZ(i j:Int):Prop:=0<j∧j<1073741824
noncomputable def K0(i j:Int):Prop:=0≤j∧j≤1000000∧i.natAbs<2 ^ 64
noncomputable def FU(i j:Int):Prop:=(-(2 ^ 64)<i∧i<2 ^ 64)∨(-(2 ^ 64)<j∧j<2 ^ 64)
theorem FU.ok{i j:Int}(h:FU i j):IntMulOk i j:=by
  rcases h with⟨h1,h2⟩|⟨h1,h2⟩
  · exact .of_left (intBits_le_64 h1 h2)
  · exact .of_right (intBits_le_64 h1 h2)
theorem fO:OpR X (binaryOp .Add) (rI0 λi j=>.int (i+j)):=JZ λ_ _ _ _ _ _ _ q=>add_int q
theorem ER:OpR X (binaryOp .Sub) (rI0 λi j=>.int (i-j)):=JZ λ_ _ _ _ _ _ _ q=>sub_int q
theorem rS:OpR X (binaryOp .Mult) (rI FU λi j=>.int (i*j)):=opI λ_ _ _ _ _ _ _ hc q=>mul_int q hc.ok
theorem dq:OpR X (binaryOp .FloorDiv) (rI KZ λi j=>.int (i/j)):=opI λi j _ _ _ _ _ hc q=>by
  have h1:(0:Int)<j:=hc.1;have h2:j<1073741824:=hc.2;exact floordiv_int (by omega) (by rw[Int.fdiv_eq_ediv_of_nonneg i (by omega)];exact q) (.inl (PyProof.noPylong_small (by omega)))
theorem cy:OpR X (binaryOp .Mod) (rI (λ_ j=>0<j) λi j=>.int (i%j)):=opI λi j _ _ _ _ _ hc q=>by
  have h1:(0:Int)<j:=hc;exact mod_int' (by omega) (by rw[Int.fmod_eq_emod_of_nonneg i (by omega)];exact q)
theorem ES:OpR X (binaryOp .Pow) (rI K0 λi j=>.int (i ^ j.toNat)):=opI λ_ _ _ _ _ _ _ hc q=>pow_int_small hc.1 hc.2.1 hc.2.2 q
end
noncomputable def J9:V→V→Bool
  | .non,.non=>true|.non,.int _=>true|.int _,.non=>true|.non,.bl _=>true|.bl _,.non=>true|.non,.str _=>true|.str _,.non=>true
  | .int _,.int _=>true|.bl _,.bl _=>true|.str _,.str _=>true|.byt _,.byt _=>true
  | .int _,.str _=>true|.str _,.int _=>true|.bl _,.str _=>true|.str _,.bl _=>true
  | _,_=>false
noncomputable def rEq:R2:=λx y H Q=>J9 x y=true∧Q (.bl (decide (x=y))) H
noncomputable def rNe:R2:=λx y H Q=>J9 x y=true∧Q (.bl (!decide (x=y))) H
theorem yl{i j:Int}:decide (V.int i=V.int j)=(i == j):=by
  rw[OE];simp
theorem By{i j:Bool}:decide (V.bl i=V.bl j)=(i == j):=by
  rw[OE];simp
theorem ym{i j:Str}:decide (V.str i=V.str j)=(i == j):=by
  rw[OE];simp
theorem yo{i j:Array UInt8}:decide (V.byt i=V.byt j)=(i.toList == j.toList):=by
  rw[OE];cases i;cases j;simp
section
variable{X:Cx}{a b c:Expr}{ta tb tc:TE}{pos:Pos}
theorem bg{pins:List (Addr×Obj)}{σ:St}{H:Hp}{s:Shared}{Q:VK}{k k':Bool}(I:Inv X pins σ H s)(q:Q (.bl k) H)(e:k=k'):EP X pins σ Q (.bool k') s:=by
  subst e;exact⟨.bl k,H,I,rfl,q⟩
theorem kh:OpR X (compareOp .Eq) rEq:=by
  intro pins s σ H x y v u Q I rx ry h;obtain⟨hs,q⟩:=h;cases x with
  | non =>
    cases rx;cases y with
    | non=>cases ry;exact PySem.EqNone.eq_none_none (bg I q (by simp))
    | bl j=>cases ry;exact PySem.EqNone.eq_none_bool (bg I q (by simp))
    | int j=>obtain⟨t',rfl⟩:=ry;exact PySem.EqNone.eq_none_int (bg I q (by simp))
    | str j=>obtain⟨t',rfl⟩:=ry;exact PySem.EqNone.eq_none_str (bg I q (by simp))
    | _=>exact absurd (show false=true from hs) M4
  | bl i =>
    cases rx;cases y with
    | non=>cases ry;exact PySem.EqNone.eq_bool_none (bg I q (by simp))
    | bl j=>cases ry;exact eq_bool (bg I q By)
    | str j=>obtain⟨t',rfl⟩:=ry;exact PySem.EqMixed.eq_bool_str (bg I q (by simp))
    | _=>exact absurd (show false=true from hs) M4
  | int i =>
    obtain⟨t,rfl⟩:=rx;cases y with
    | non=>cases ry;exact PySem.EqNone.eq_int_none (bg I q (by simp))
    | int j=>obtain⟨t',rfl⟩:=ry;exact eq_int (bg I q yl)
    | str j=>obtain⟨t',rfl⟩:=ry;exact PySem.EqMixed.eq_int_str (bg I q (by simp))
    | _=>exact absurd (show false=true from hs) M4
  | str i =>
    obtain⟨t,rfl⟩:=rx;cases y with
    | non=>cases ry;exact PySem.EqNone.eq_str_none (bg I q (by simp))
    | bl j=>cases ry;exact PySem.EqMixed.eq_str_bool (bg I q (by simp))
    | int j=>obtain⟨t',rfl⟩:=ry;exact PySem.EqMixed.eq_str_int (bg I q (by simp))
    | str j=>obtain⟨t',rfl⟩:=ry;exact eq_str (bg I q ym)
    | _=>exact absurd (show false=true from hs) M4
  | byt i =>
    obtain⟨t,rfl⟩:=rx;cases y with
    | byt j=>obtain⟨t',rfl⟩:=ry;exact PySem.W.eq_bytes (bg I q yo)
    | _=>exact absurd (show false=true from hs) M4
  | _=>cases y<;>exact absurd (show false=true from hs) M4
theorem Co:OpR X (compareOp .NotEq) rNe:=by
  intro pins s σ H x y v u Q I rx ry h;obtain⟨hs,q⟩:=h;cases x with
  | non =>
    cases rx;cases y with
    | non=>cases ry;exact PySem.EqNone.ne_none_none (bg I q (by simp))
    | bl j=>cases ry;exact PySem.EqNone.ne_none_bool (bg I q (by simp))
    | int j=>obtain⟨t',rfl⟩:=ry;exact PySem.EqNone.ne_none_int (bg I q (by simp))
    | str j=>obtain⟨t',rfl⟩:=ry;exact PySem.EqNone.ne_none_str (bg I q (by simp))
    | _=>exact absurd (show false=true from hs) M4
  | bl i =>
    cases rx;cases y with
    | non=>cases ry;exact PySem.EqNone.ne_bool_none (bg I q (by simp))
    | bl j=>cases ry;exact ne_bool (bg I q (congrArg not By))
    | str j=>obtain⟨t',rfl⟩:=ry;exact PySem.EqMixed.ne_bool_str (bg I q (by simp))
    | _=>exact absurd (show false=true from hs) M4
  | int i =>
    obtain⟨t,rfl⟩:=rx;cases y with
    | non=>cases ry;exact PySem.EqNone.ne_int_none (bg I q (by simp))
    | int j=>obtain⟨t',rfl⟩:=ry;exact ne_int (bg I q (congrArg not yl))
    | str j=>obtain⟨t',rfl⟩:=ry;exact PySem.EqMixed.ne_int_str (bg I q (by simp))
    | _=>exact absurd (show false=true from hs) M4
  | str i =>
    obtain⟨t,rfl⟩:=rx;cases y with
    | non=>cases ry;exact PySem.EqNone.ne_str_none (bg I q (by simp))
    | bl j=>cases ry;exact PySem.EqMixed.ne_str_bool (bg I q (by simp))
    | int j=>obtain⟨t',rfl⟩:=ry;exact PySem.EqMixed.ne_str_int (bg I q (by simp))
    | str j=>obtain⟨t',rfl⟩:=ry;exact ne_str (bg I q (congrArg not ym))
    | _=>exact absurd (show false=true from hs) M4
  | byt i =>
    obtain⟨t,rfl⟩:=rx;cases y with
    | byt j=>obtain⟨t',rfl⟩:=ry;exact PySem.W.ne_bytes (bg I q (congrArg not yo))
    | _=>exact absurd (show false=true from hs) M4
  | _=>cases y<;>exact absurd (show false=true from hs) M4
theorem km:OpR X (compareOp .Lt) (rI0 λi j=>.bl (decide (i<j))):=Ea λ_ _ _ _ _ _ _ q=>lt_int q
theorem ko:OpR X (compareOp .LtE) (rI0 λi j=>.bl (decide (i≤j))):=Ea λ_ _ _ _ _ _ _ q=>le_int q
theorem Ae:OpR X (compareOp .Gt) (rI0 λi j=>.bl (decide (j<i))):=Ea λ_ _ _ _ _ _ _ q=>gt_int q
theorem IM:OpR X (compareOp .GtE) (rI0 λi j=>.bl (decide (j≤i))):=Ea λ_ _ _ _ _ _ _ q=>ge_int q
theorem rT:OpR X (compareOp .Is) (λx y H Q=>y=.non∧Q (.bl (decide (x=.non))) H):=by
  intro pins s σ H x y v u Q I rx ry h;obtain⟨rfl,q⟩:=h;cases ry;refine is_none_gen (bg I q ?_);cases x<;>first
    | (cases rx;rfl)
    | (obtain⟨t,rfl⟩:=rx;rfl)
theorem fY:OpR X (compareOp .IsNot) (λx y H Q=>y=.non∧Q (.bl (!decide (x=.non))) H):=by
  intro pins s σ H x y v u Q I rx ry h;obtain⟨rfl,q⟩:=h;cases ry;refine isnot_none_gen (bg I q ?_);cases x<;>first
    | (cases rx;rfl)
    | (obtain⟨t,rfl⟩:=rx;rfl)
theorem aO(b:Expr){op:CmpOp}(h:op≠.In:=by decide)(h2:op≠.NotIn:=by decide):behindInMarks op b=false:=by
  have e1:(op == CmpOp.In)=false:=by cases op<;>first|rfl|exact absurd rfl h
  have e2:(op == CmpOp.NotIn)=false:=by cases op<;>first|rfl|exact absurd rfl h2
  cases b<;>simp[behindInMarks,e1,e2]
theorem jv{op:CmpOp}{r:R2}(ho:OpR X (compareOp op) r)(ha:PE X a ta)(hb:PE X b tb)(hm:behindInMarks op b=false):PE X (.Compare a [op] [b] pos) (tOp r ta tb):=by
  intro pins s σ H Q I h;exact wpAny_Compare1 (FT ha hb I h λv u s2 x y H2 I2 rx ry q=>ho pins s2 σ H2 x y v u Q I2 rx ry q) hm
noncomputable def Eb(t:TE):TT:=λσ H Q=>t σ H λx H'=>FQ x H' Q
theorem aE{op:CmpOp}{r:R2}(ho:OpR X (compareOp op) r)(ha:PE X a ta)(hb:PE X b tb)(hm:behindInMarks op b=false):PT X (.Compare a [op] [b] pos) (Eb (tOp r ta tb)):=by
  intro pins s σ H Q I h;refine wpAny_isTrue_Compare1 (thn (ha pins s σ H _ I h) λv s1 ⟨x,H1,I1,r1,q1⟩=>thn (hb pins s1 σ H1 _ I1 q1) λu s2 ⟨y,H2,I2,r2,q2⟩ =>
    thn (ho pins s2 σ H2 x y v u _ I2 r1 r2 q2) λc s3 ⟨z,H3,I3,r3,k,e,q3⟩=>?_) hm
  subst e;cases r3;exact wpAny_truthy_bool ⟨H3,I3,q3⟩
noncomputable def Bz(r r':R2)(ta tb tc:TE):TE:=λσ H Q=>ta σ H λx H1=>tb σ H1 λy H2=>r x y H2 λz H3=>∃ k,z=.bl k ∧
  (if k=true then tc σ H3 λw' H4=>r' y w' H4 Q else Q (.bl false) H3)
theorem Ax{op op':CmpOp}{r r':R2}(ho:OpR X (compareOp op) r)(ho':OpR X (compareOp op') r')(ha:PE X a ta)(hb:PE X b tb)(hc:PE X c tc)
    (hm:lastMarks [op,op'] [b,c]=false:=by with_unfolding_all rfl):PE X (.Compare a [op,op'] [b,c] pos) (Bz r r' ta tb tc):=by
  intro pins s σ H Q I h;refine Compare_chain (thn (ha pins s σ H _ I h) λv s1 ⟨x,H1,I1,r1,q1⟩=>chain_link (thn (hb pins s1 σ H1 _ I1 q1) λu s2 ⟨y,H2,I2,r2,q2⟩ =>
    thn (ho pins s2 σ H2 x y v u _ I2 r1 r2 q2) λd s3 ⟨z,H3,I3,r3,k,e,q3⟩=>?_)) hm
  subst e;cases r3;refine wpAny_truthy_bool ?_;cases k with
  | false=>exact ite_ff ⟨.bl false,H3,I3,rfl,q3⟩
  | true=>exact ite_tt (chain_last (thn (hc pins s3 σ H3 _ I3 q3) λw' s4 ⟨z',H4,I4,r4,q4⟩=>ho' pins s4 σ H4 y z' u w' Q I4 r2 r4 q4))
theorem gz{op op':CmpOp}{r r':R2}(ho:OpR X (compareOp op) r)(ho':OpR X (compareOp op') r')(ha:PE X a ta)(hb:PE X b tb)(hc:PE X c tc)
    (hm:lastMarks [op,op'] [b,c]=false:=by with_unfolding_all rfl):PT X (.Compare a [op,op'] [b,c] pos) (Eb (Bz r r' ta tb tc)):=by
  intro pins s σ H Q I h;refine isTrue_chain (thn (ha pins s σ H _ I h) λv s1 ⟨x,H1,I1,r1,q1⟩=>test_link (thn (hb pins s1 σ H1 _ I1 q1) λu s2 ⟨y,H2,I2,r2,q2⟩ =>
    thn (ho pins s2 σ H2 x y v u _ I2 r1 r2 q2) λd s3 ⟨z,H3,I3,r3,k,e,q3⟩=>?_)) hm
  subst e;cases r3;refine wpAny_truthy_bool ?_;cases k with
  | false =>
    obtain⟨k',e',q'⟩:=q3;cases e';exact ite_ff ⟨H3,I3,q'⟩
  | true =>
    refine ite_tt (test_last (thn (hc pins s3 σ H3 _ I3 q3) λw' s4 ⟨z',H4,I4,r4,q4⟩=>thn (ho' pins s4 σ H4 y z' u w' _ I4 r2 r4 q4) λd' s5 ⟨z2,H5,I5,r5,k2,e2,q5⟩=>?_));subst e2;cases r5;exact wpAny_truthy_bool ⟨H5,I5,q5⟩
theorem uR:(sizeLine:Nat)<2 ^ 63:=by rw[sizeLine_eq];decide
theorem vals1{x:V}{us:List Value}(r:Vals [x] us):∃ u,us=[u]∧RelV x u:=by
  cases r with
  | cons r1 r2=>cases r2;exact⟨_,rfl,r1⟩
theorem Ay:gI X (.builtin "abs") (λxs H Q=>∃ i,xs=[.int i]∧Q (.int (if i<0 then -i else i)) H):=by
  intro pins s σ H xs us Q I r h;obtain⟨i,rfl,q⟩:=h;obtain⟨u,rfl,t,rfl⟩:=vals1 r;exact call_abs_int λu tk=>⟨.int (if i<0 then -i else i),H,I.tok _,⟨_,rfl⟩,q⟩
end
end L2
namespace L2
open PySem PySem.Spec PyProof.Rows
structure Ao(h:Heap)(x dx C:Addr)(mA:Str→Option Value):Prop where
  obj:h.get? x=some (PySem.W.instObj C dx)
  ns:h.Ns1 dx mA
  ne:dx≠x
theorem zk{h:Heap}{dx:Addr}{mA:Str→Option Value}(n:h.Ns1 dx mA):∃ od,h.get? dx=some od∧∀ name,PySem.W.lookIn name od=some (mA name):=by
  obtain⟨o,es,ep,ho,hd,hk,_,hm⟩:=n;refine⟨o,ho,λname=>?_⟩;have e:=hm name;unfold nsFind findBy at e;rw[←Array.find?_toList]at e;unfold PySem.W.lookIn;rw[hd];dsimp only;split
  · rename_i y q
    rw[q]at e;exact congrArg some e
  · rename_i q
    rw[q]at e;have a:es.toList.any (·.refKey)=false:=by
      rw[List.any_eq_false];intro y hy;obtain⟨z,t,K1⟩:=hk y (Array.mem_toList_iff.mp hy);simp[DictEntry.refKey,K1]
    have a':¬es.toList.any (·.refKey)=true:=(by rw[a];exact M4);rw[if_neg a'];exact congrArg some e
theorem Ao.look{h:Heap}{x dx C:Addr}{mA:Str→Option Value}(I:Ao h x dx C mA):∃ od,PySem.W.InstAt h x (PySem.W.instObj C dx) C (some od)∧∀ name,PySem.W.lookIn name od=some (mA name) :=
  let ⟨od,ho,hl⟩:=zk I.ns
  ⟨od,⟨I.obj,rfl,rfl,ho⟩,hl⟩
section
variable{prog:Program}{w:World}{A:Around}{E:Value→Shared→Prop}{s:Shared}{K:W.Frag}{x dx C f:Addr}{mA:Str→Option Value}{name:Str}{v:Value}
theorem get_map{expr:Bool}{Q:Value→Shared→Prop}(X:K.In s.heap)(I:Ao s.heap x dx C mA)(hg:PySem.W.plainGet K C name=true)(hh:PySem.W.hasDictIn K C=true)
    (ha:PySem.W.findIn K (.ref C) name=some none) (hv:mA name=some v) (hv':PySem.W.handedIn v=true) (h:Q v {s with toks:=s.toks+1}) :
    wpAny (model prog w) A (getAttr (.ref x) name expr) Q E s:=by
  obtain⟨od,J,hl⟩:=I.look;exact PySem.W.get_value X J (PySem.W.plainGet_of hg).1 (PySem.W.findObj_own hh ha rfl (by rw[hl,hv])) hv' h
theorem Az{pl:Sem Bool}{Q:Value×List Value→Shared→Prop}(X:K.In s.heap)(I:Ao s.heap x dx C mA)(hg:PySem.W.plainGet K C name=true)
    (hf:PySem.W.findIn K (.ref C) name=some (some (.ref f))) (ht:PySem.W.isFn K (.ref f)=true) (hv:mA name=none) (h:Q (.ref f,[.ref x]) s) :
    wpAny (model prog w) A (getMethod (.ref x) name pl) Q E s:=by
  obtain⟨od,J,hl⟩:=I.look;exact PySem.W.method_fn X J (PySem.W.plainGet_of hg).1 (PySem.W.plainGet_of hg).2 hf (beq_iff_eq.mp ht) (by show(PySem.W.lookIn name od).map (·.isSome)=some false;rw[hl,hv];rfl) h
theorem ux{ns:List Str}{Q:Unit→Shared→Prop}(X:K.In s.heap)(I:Ao s.heap x dx C mA)
    (hs:PySem.W.findIn K (.ref C) "__setattr__" = some (some (.builtin "object.__setattr__"))) (hp:PySem.W.plainOver K C=true) (ht:PySem.W.takerIn K C name=some none) (hh:PySem.W.hasDictIn K C=true)
    (hw:PySem.Within mA ns) (hsz:ns.length≤sizeLine)
    (h:∀ h',Ao h' x dx C (λy=>if y=name then some v else mA y)→Heap.SameBut dx s.heap h'→Q () {s with heap:=h',toks:=s.toks+2}) :
    wpAny (model prog w) A (setAttr (.ref x) name v) Q E s:=by
  obtain⟨od,J,hl⟩:=I.look;refine PySem.W.set_plain X J hs (PySem.W.osa_open (s:={s with toks:=s.toks+1}) (r:=none) X J hp ht λb=>?_);obtain⟨cd,hc,hd'⟩:=PySem.W.any_some hh;have hx:s.heap.get? x=some ⟨.ref C,some dx,.plain,#[]⟩:=I.obj;refine wpAny_bind (wpAny_pure (wpAny_bind (wpAny_bind (wpAny_loadPart hx (wpAny_bind (PySem.W.Looks.here (s:={s with toks:=s.toks+1}) (PySem.W.looks_clsIn X hc) ?_))))));rw[hd'];refine wpAny_pure (a:=some dx) (wpAny_bind (wpAny_pure (wpAny_bind ?_)));refine wpAny_nsSet1 (s:={s with toks:=s.toks+1}) I.ns λh' hn2 hs2=>?_;obtain⟨oD,esD,epD,hoD,hdD,hcD⟩:=hn2.count (PySem.Within.cons name v hw);refine wpAny_bind (wpAny_lookBehind hoD (by rw[hdD];exact pastItsLine_dict (Nh hcD (by rw[NU];omega))) ?_);exact wpAny_pure (h _ ⟨(hs2.2 _ (Nv I.ne)).trans I.obj,hn2,I.ne⟩ hs2)
theorem AA{R:Result→Shared→Prop}{vs:List Value}{kw:List (Str×Value)}(X:K.In s.heap)(hm:PySem.W.makesIn K C=true)
    (hi:PySem.W.findIn K (.ref C) "__init__" = some (some (.ref f))) (hf:PySem.W.typeIn K (.ref f)=some (.type "function"))
    (h:codeAny (model prog w) (A.under (.builtin "type.__call__" ⟨.ref C::vs,kw⟩)) (.call (.ref f) ⟨.ref (s.heap.objs.size+1)::vs,kw⟩) (PySem.W.InitBack (s.heap.objs.size+1) R)
      {s with heap:=(s.heap.push PySem.W.emptyDict).push (PySem.W.instObj C s.heap.objs.size)}) :
    codeAny (model prog w) A (.call (.ref C) ⟨vs,kw⟩) R s:=by
  obtain⟨hh,g,d,t,os⟩:=s;exact PySem.W.make_core (PySem.W.makes_of X hm) (PySem.W.looks_findIn X hi) (λself=>PySem.W.bind_fn X self hf) (.inl rfl) h
end
noncomputable def cw(f:Str)(v:V):List (Str×V)→List (Str×V)
  | []=>[(f,v)]
  | (g,x)::r=>if g=f then(g,v)::r else(g,x)::cw f v r
theorem o6(f g:Str)(v:V):∀ fs:List (Str×V),(cw f v fs).lookup g=if g=f then some v else fs.lookup g
  | []=>by
    show List.lookup g [(f,v)]=_;by_cases h:g=f
    · have hb:(g == f)=true:=beq_iff_eq.mpr h
      simp only[List.lookup,hb,if_pos h]
    · have hb:(g == f)=false:=beq_eq_false_iff_ne.mpr h
      simp only[List.lookup,hb,if_neg h]
  | (k,x)::r=>by
    have ih:=o6 f g v r;rw[show cw f v ((k,x)::r)=(if k=f then(k,v)::r else(k,x)::cw f v r) from rfl];by_cases hk:k=f
    · rw[if_pos hk]
      by_cases h:g=k
      · have hb:(g == k)=true:=beq_iff_eq.mpr h
        simp only[List.lookup,hb,if_pos (h.trans hk)]
      · have hb:(g == k)=false:=beq_eq_false_iff_ne.mpr h
        simp only[List.lookup,hb,if_neg (λe:g=f=>h (e.trans hk.symm))]
    · rw[if_neg hk]
      by_cases h:g=k
      · have hb:(g == k)=true:=beq_iff_eq.mpr h
        simp only[List.lookup,hb,if_neg (λe:g=f=>hk (h.symm.trans e))]
      · have hb:(g == k)=false:=beq_eq_false_iff_ne.mpr h
        simp only[List.lookup,hb];exact ih
theorem oE(f:Str)(v:V):∀ fs:List (Str×V),f∈(cw f v fs).map (·.1)∧∀ g,g∈fs.map (·.1)→g∈(cw f v fs).map (·.1)
  | []=>⟨by simp[cw],λg h=>by simp at h⟩
  | (k,x)::r=>by
    obtain⟨i1,i2⟩:=oE f v r;rw[show cw f v ((k,x)::r)=(if k=f then(k,v)::r else(k,x)::cw f v r) from rfl];by_cases hk:k=f
    · rw[if_pos hk]
      subst hk;exact⟨by simp,λg h=>by simpa using h⟩
    · rw[if_neg hk]
      refine⟨?_,λg h=>?_⟩
      · rw[Nz]
        exact Nn _ i1
      · rw[Nz]at h ⊢
        rcases Nk.mp h with e|e
        · exact Nk.mpr (.inl e)
        · exact Nn _ (i2 g e)
theorem o9(f:Str)(v:V):∀ fs:List (Str×V),(cw f v fs).length≤fs.length+1
  | []=>by simp[cw]
  | (k,x)::r=>by
    have ih:=o9 f v r;rw[show cw f v ((k,x)::r)=(if k=f then(k,v)::r else(k,x)::cw f v r) from rfl];by_cases hk:k=f
    · rw[if_pos hk,NU,NU];omega
    · rw[if_neg hk,NU,NU];omega
theorem nj.some_of{v:V}{o:Option Value}(r:nj (some v) o):∃ u,o=some u∧RelV v u:=by
  cases o with
  | none=>exact(show False from r).elim
  | some u=>exact⟨u,rfl,r⟩
theorem nj.none_of{o:Option Value}(r:nj none o):o=none:=by
  cases o with
  | none=>rfl
  | some u=>exact(show False from r).elim
theorem zo{v:V}{u:Value}(r:RelV v u):PySem.W.handedIn u=true:=by
  cases v with
  | non=>cases (show u=Value.none from r);rfl
  | bl b=>cases (show u=Value.bool b from r);rfl
  | int i=>obtain⟨t,e⟩:=(show ∃ t,u=Value.int i t from r);cases e;rfl
  | str x=>obtain⟨t,e⟩:=(show ∃ t,u=Value.str x t from r);cases e;rfl
  | byt b=>obtain⟨t,e⟩:=(show ∃ t,u=Value.bytes b t from r);cases e;rfl
  | flt b=>obtain⟨t,e⟩:=(show ∃ t,u=Value.float b t from r);cases e;rfl
  | ref a=>cases (show u=Value.ref a from r);rfl
  | ty n=>cases (show u=Value.type n from r);rfl
section
variable{P:Program}{w:World}{H H':Hp}{h h':Heap}{a C dx:Addr}{fs fs':List (Str×V)}
theorem uy(hok:HOk P w H h)(e:H a=some (.ins C dx fs)):∃ mA,Ao h a dx C mA∧(∀ f,nj (fs.lookup f) (mA f))∧PySem.Within mA (fs.map (·.1))∧fs.length≤1000∧H dx=some (.own a):=by
  obtain⟨d,z,ne,ob,mA,n,r,q⟩:=(show cu P w H h a (.ins C dx fs) from hok a _ e);exact⟨mA,⟨ob,n,ne⟩,r,q,z,d⟩
end
structure Cls(K:W.Frag)(C:Addr):Prop where
  pg:PySem.W.plainGet K C Str.empty=true
  hd:PySem.W.hasDictIn K C=true
  po:PySem.W.plainOver K C=true
  sa:PySem.W.findIn K (.ref C) "__setattr__" = some (some (.builtin "object.__setattr__"))
theorem Cls.get{K:W.Frag}{C:Addr}(c:Cls K C)(f:Str):PySem.W.plainGet K C f=true:=c.pg
noncomputable def mH(K:W.Frag)(C:Addr)(f:Str):Prop:=PySem.W.findIn K (.ref C) f=some none
theorem mH.IP{K:W.Frag}{C:Addr}{f:Str}(n:mH K C f):PySem.W.takerIn K C f=some none:=by
  unfold PySem.W.takerIn;rw[show PySem.W.findIn K (.ref C) f=some none from n];rfl
structure Meth(K:W.Frag)(C:Addr)(m:Str)(f:Addr):Prop where
  at_:PySem.W.findIn K (.ref C) m=some (some (.ref f))
  fn:PySem.W.isFn K (.ref f)=true
  kp:PySem.W.keepIn K (.ref f)=true
section
variable{X:Cx}{pins:List (Addr×Obj)}{σ:St}{H:Hp}{s:Shared}{a C dx:Addr}{fs:List (Str×V)}{f:Str}{v:V}{A:Around}{E:Value→Shared→Prop}
theorem xk{b:Bool}{Q:Value→Shared→Prop}(I:Inv X pins σ H s)(e:H a=some (.ins C dx fs))(c:Cls X.K C)(n:mH X.K C f)(l:fs.lookup f=some v)
    (h:∀ u s',Inv X pins σ H s'→RelV v u→Q u s'):wpAny (model X.prog X.w) A (getAttr (.ref a) f b) Q E s:=by
  obtain⟨mA,O,r,_,_,_⟩:=uy I.hok e;obtain⟨u,hu,ru⟩:=nj.some_of (v:=v) (o:=mA f) (by rw[←l];exact r f);exact get_map I.kIn O (c.get f) c.hd n hu (zo ru) (h u _ (I.tok _) ru)
theorem qG{m:Str}{g:Addr}{pl:Sem Bool}{Q:Value×List Value→Shared→Prop}(I:Inv X pins σ H s)(e:H a=some (.ins C dx fs))(c:Cls X.K C)(k:Meth X.K C m g)(l:fs.lookup m=none)
    (h:Q (.ref g,[.ref a]) s):wpAny (model X.prog X.w) A (getMethod (.ref a) m pl) Q E s:=by
  obtain⟨mA,O,r,_,_,_⟩:=uy I.hok e;have hn:mA m=none:=nj.none_of (by rw[←l];exact r m);exact Az I.kIn O (c.get m) k.at_ k.fn hn h
theorem xm{y:V}{u:Value}{Q:Unit→Shared→Prop}(I:Inv X pins σ H s)(e:H a=some (.ins C dx fs))(c:Cls X.K C)(n:mH X.K C f)(hl:fs.length<1000)(ry:RelV y u)
    (h:∀ s',Inv X pins σ (upd H a (.ins C dx (cw f y fs))) s'→Q () s'):wpAny (model X.prog X.w) A (setAttr (.ref a) f u) Q E s:=by
  obtain⟨mA,O,r,wi,_,ho⟩:=uy I.hok e;have hz:(fs.map (·.1)).length≤sizeLine:=by rw[MN,sizeLine_eq];omega
  refine ux I.kIn O c.sa c.po n.IP c.hd wi hz λh' O' sb=>h _ ?_;have hd:∃ o,h'.get? dx=some o:=let ⟨o,_,_,e',_⟩:=O'.ns;⟨o,e'⟩;refine I.write (x:=a) (e:=dx) (by rw[e];exact True.intro) (.inr ho) (λb q hb z=>(sb.2 b hb).trans z) hd ?_;refine⟨by rw[ab O.ne];exact ho,?_,O.ne,O'.obj,_,O'.ns,λg=>?_,λg hg=>?_⟩
  · have:=o9 f y fs;omega
  · show nj ((cw f y fs).lookup g) (if g=f then some u else mA g)
    rw[o6];by_cases q:g=f
    · rw[if_pos q,if_pos q];exact ry
    · rw[if_neg q,if_neg q];exact r g
  · by_cases q:g=f
    · rw[q];exact(oE f y fs).1
    · refine(oE f y fs).2 g (wi g λz=>hg ?_)
      show(if g=f then some u else mA g)=none;rw[if_neg q];exact z
theorem Inv.made(I:Inv X pins σ H s):Inv X pins σ (upd (upd H s.heap.objs.size (.own (s.heap.objs.size+1))) (s.heap.objs.size+1) (.ins C s.heap.objs.size []))
    {s with heap:=(s.heap.push PySem.W.emptyDict).push (PySem.W.instObj C s.heap.objs.size)}:=by
  have e1:(s.heap.push PySem.W.emptyDict).get? s.heap.objs.size=some PySem.W.emptyDict:=NB s.heap rfl;have e2:((s.heap.push PySem.W.emptyDict).push (PySem.W.instObj C s.heap.objs.size)).get? (s.heap.objs.size+1)=some (PySem.W.instObj C s.heap.objs.size):=by
    have:=NB (s.heap.push PySem.W.emptyDict) (o:=PySem.W.instObj C s.heap.objs.size) rfl
    rwa[OM]at this
  have e3:(s.heap.push PySem.W.emptyDict).Ns s.heap.objs.size (λ_=>none):=⟨PySem.W.emptyDict,#[],_,e1,rfl,(λe he=>absurd he (by simp)),λ_=>rfl⟩;have I1:=I.laid (a:=s.heap.objs.size) (o:=.own (s.heap.objs.size+1)) (h':=s.heap.push PySem.W.emptyDict) (t':=s.toks) (λb u q=>MU _ q) (MR _) ⟨_,e1⟩;refine I1.laid (a:=s.heap.objs.size+1) (o:=.ins C s.heap.objs.size []) (t':=s.toks) (λb u q=>MU _ q) (Nat.le_of_eq (OM _ _)) ?_;have ne:s.heap.objs.size≠s.heap.objs.size+1:=Nw (Pf _);refine⟨by rw[ab ne,ag],NH _,ne,e2,λ_=>none,(Heap.Ns1.of_empty e3).at λo q=>MU _ q,λ_=>True.intro,λy hy=>absurd rfl hy⟩
theorem CM{prog:Program}{w:World}{env:Env}{e:Expr}{f:Str}{pos:Pos}{s:Shared}{Q:Value→Shared→Prop}(hb:attributeBase e f env (eval e env)=eval e env)
    (h:wpAny (model prog w) A (eval e env) (λo s₁=>wpAny (model prog w) A (getAttr o f true) Q E s₁) E s):wpAny (model prog w) A (eval (.Attribute e f pos) env) Q E s :=
  Attribute_any_ h (by rw[arm_eval_Attribute,hb])
end
inductive Ka(K:W.Frag)(f:Str)(x:V)(H:Hp)(Q:VK):Prop where
  | mk (a C dx:Addr) (fs:List (Str×V)) (v:V):x=.ref a→H a=some (.ins C dx fs)→Cls K C→mH K C f→fs.lookup f=some v→Q v H→Ka K f x H Q
noncomputable def Kb(K:W.Frag)(ta:TE)(f:Str):TE:=λσ H Q=>ta σ H λx H1=>Ka K f x H1 Q
noncomputable def K2(K:W.Frag)(ta tv:TE)(f:Str):TS:=λD σ H=>tv σ H λy H1=>ta σ H1 λx H2=>∃ a C dx fs,x=.ref a∧H2 a=some (.ins C dx fs)∧Cls K C∧mH K C f∧fs.length<1000 ∧
  D.nx σ (upd H2 a (.ins C dx (cw f y fs)))
section
variable{X:Cx}{o e value:Expr}{f:Str}{pos pos' K3:Pos}{ta tv:TE}
theorem aB(he:PE X e ta)(hb:attributeBase e f X.env (eval e X.env)=eval e X.env):PE X (.Attribute e f pos) (Kb X.K ta f):=by
  intro pins s σ H Q I h;refine CM hb (thn (he pins s σ H _ I h) λu s1 ⟨x,H1,I1,rx,a,C,dx,fs,v,ex,ea,c,n,l,q⟩=>?_);subst ex;obtain rfl:u=Value.ref a:=rx;exact xk I1 ea c n l λu' s2 I2 ru=>⟨v,H1,I2,ru,q⟩
theorem cj(ha:PE X o ta)(hv:PE X value tv)(hs:swapsWith value (some (.Attribute o f pos')) pos.line X.env=pure false):PS X (.Assign [.Attribute o f pos'] value pos) (K2 X.K ta tv f):=by
  intro pins s σ H D I h;refine plainObj_wpAny_Assign_Attribute (thn (hv pins s σ H _ I h) λu s1 ⟨y,H1,I1,ry,q⟩=>thn (ha pins s1 σ H1 _ I1 q) λov s2 ⟨x,H2,I2,rx,a,C,dx,fs,ex,ea,c,n,l,q2⟩=>?_) hs;subst ex;obtain rfl:ov=Value.ref a:=rx;exact xm I2 ea c n l ry λs3 I3=>⟨σ,_,I3,q2⟩
end
section
variable{X:Cx}{pins:List (Addr×Obj)}{σ:St}{H:Hp}{s:Shared}{A:Around}{E:Value→Shared→Prop}{Q:Value→Shared→Prop}{c:Value}{b:Bool}
end
end L2
namespace L2
open PySem PySem.Spec PyProof.Rows
structure dS(k:Nat)(A:Around):Prop where
  hd:A.handled=none
  dp:A.depth+3*k+5<recursionLimit
  un:A.units+16*k+200<cLine
theorem dS.mono{j k:Nat}{A:Around}(r:dS k A)(h:j≤k):dS j A:=⟨r.hd,by have:=r.dp;omega,by have:=r.un;omega⟩
theorem dS.deeper{k:Nat}{A:Around}(r:dS (k+1) A)(env:Env):dS k (A.deeper env) :=
  ⟨r.hd,by have:=r.dp;show A.depth+1+3*k+5<_;omega,by have:=r.un;show A.units+3+16*k+200<_;omega⟩
theorem xo{A:Around}{C:Addr}{us:List Value}{kw:List (Str×Value)}:(A.under (.builtin "type.__call__" ⟨.ref C::us,kw⟩)).depth=A.depth+1:=by
  first|rfl|simp[Around.under,Code.weight,Code.isCreation,Code.isGuard,Code.isCaller,Code.frames,Code.isFrame,guardIds]
theorem xq{A:Around}{C:Addr}{us:List Value}{kw:List (Str×Value)}:(A.under (.builtin "type.__call__" ⟨.ref C::us,kw⟩)).units=A.units+1:=by
  first|rfl|simp[Around.under,Code.cUnits,Code.frames,Code.isFrame]
theorem dS.make{k:Nat}{A:Around}(r:dS (k+1) A)(C:Addr)(us:List Value)(kw:List (Str×Value)):dS k (A.under (.builtin "type.__call__" ⟨.ref C::us,kw⟩)) :=
  ⟨r.hd,by have:=r.dp;rw[xo];omega,by have:=r.un;rw[xq];omega⟩
theorem dS.depth{k:Nat}{A:Around}(r:dS k A):A.depth<recursionLimit:=by have:=r.dp;omega
theorem dS.units{k:Nat}{A:Around}(r:dS k A):A.units+64<cLine:=by have:=r.un;omega
noncomputable def Ec:TA:=λ_ H Q=>Q [] H
noncomputable def IQ(ta:TE)(tr:TA):TA:=λσ H Q=>ta σ H λx H1=>tr σ H1 λxs H2=>Q (x::xs) H2
section
variable{X:Cx}{e:Expr}{es:List Expr}{te:TE}{t:TA}{pos:Pos}
theorem aq:PA X [] Ec:=λ_ _ _ _ H Q I h=>Calls.spliced_nil ⟨[],H,I,.nil,h⟩
theorem aa(ha:PE X e te)(hr:PA X es t)(hs:starEach (e::es) X.env=(false,eval e X.env)::starEach es X.env:=by rfl):PA X (e::es) (IQ te t):=by
  intro pos pins s σ H Q I h;rw[hs];show wpAny _ _ (spliced ((false,eval e X.env)::backTo pos (starEach es X.env))) _ _ s;refine Calls.spliced_cons (thn (ha pins s σ H _ I h) λu s1 ⟨x,H1,I1,r1,q1⟩=>?_);exact thn (hr pos pins s1 σ H1 _ I1 q1) λus s2 ⟨xs,H2,I2,r2,q2⟩=>⟨x::xs,H2,I2,.cons r1 r2,q2⟩
noncomputable def K4(t:TA):TE:=λσ H Q=>t σ H λxs H1=>xs.length≤sizeLine∧∀ p,H1 p=none→Q (.ref p) (upd H1 p (.tup xs))
noncomputable def K5(t:TA):TE:=λσ H Q=>t σ H λxs H1=>xs.length≤sizeLine∧∀ p,H1 p=none→Q (.ref p) (upd H1 p (.lst xs))
theorem dU{x1}(h:PA X es t):PE X (.Tuple es x1 pos) (K4 t):=by
  intro pins s σ H Q I hq;refine wpAny_Tuple_spliced (thn (h pos pins s σ H _ I hq) λus s1 ⟨xs,H1,I1,r,z,q⟩=>⟨by rw[←r.length];exact z,?_⟩);have hf:H1 s1.heap.objs.size=none:=I1.hok.fresh (MR _);refine⟨.ref s1.heap.objs.size,upd H1 s1.heap.objs.size (.tup xs),I1.laid (t':=s1.toks) (λb u e=>MU _ e) (MR _) ?_,rfl,q _ hf⟩;exact⟨z,us,r,⟨_,NB _ rfl,rfl,_,rfl⟩⟩
theorem fP(h:PA X es t):PE X (.List es pos) (K5 t):=by
  intro pins s σ H Q I hq;refine wpAny_List_spliced (thn (h pos pins s σ H _ I hq) λus s1 ⟨xs,H1,I1,r,z,q⟩=>⟨by rw[←r.length];exact z,?_⟩);have hf:H1 s1.heap.objs.size=none:=I1.hok.fresh (MR _);refine⟨.ref s1.heap.objs.size,upd H1 s1.heap.objs.size (.lst xs),I1.laid (t':=s1.toks) (λb u e=>MU _ e) (MR _) ?_,rfl,q _ hf⟩;exact⟨z,us,0,r,NB _ rfl⟩
end
noncomputable abbrev Sp:=List V→Hp→VK→XK→Prop
noncomputable abbrev CXT:=List Env→Hp→Shared→XK→Value→Shared→Prop
structure Ap(P:Program)(w:World)(K:W.Frag)(mg:Str→Option Value)(base:Heap)(A:Around)(outer:List Env)(s:Shared)(H:Hp):Prop where
  frames:A.frames=some outer
  mod:Mod K mg base
  bs:∀ b o,base.get? b=some o→s.heap.get? b=some o∧H b=none
  bsz:base.objs.size≤s.heap.objs.size
  qf:s.heap.FunFrames base outer
  frf:∀ b∈frs outer,H b=none
  hok:HOk P w H s.heap
  bare:AllBare s.gens
noncomputable def CE(outer:List Env)(P:Program)(w:World)(H:Hp)(s:Shared)(Q:VK)(u:Value)(s':Shared):Prop :=
  ∃ v H',s'.os=s.os∧AllBare s'.gens∧Un (frs outer) [] H H' s.heap s'.heap∧HOk P w H' s'.heap∧RelV v u∧Q v H'
noncomputable def CR(CX:CXT)(outer:List Env)(P:Program)(w:World)(H:Hp)(s:Shared)(Q:VK)(E:XK)(r:Result)(s':Shared):Prop :=
  match r with
  | .ok (.ret u)=>CE outer P w H s Q u s'
  | .ok _=>False
  | .error e=>CX outer H s E e s'
structure cL(P:Program)(w:World)(K:W.Frag)(mg:Str→Option Value)(base:Heap)(CX:CXT)(k:Nat)(f:Addr)(fd:FuncData)(ps:List Str)(sp:Sp):Prop where
  len:∀ vs H Q E,sp vs H Q E→vs.length=ps.length
  run:∀(A:Around) (outer:List Env) (s:Shared) (H:Hp) (args:Args) (us:List Value) (vs:List V) (Q:VK) (E:XK),dS k A→Ap P w K mg base A outer s H→BindsTo s fd args (ps.zip us)→Vals vs us→sp vs H Q E →
    codeAny (model P w) A (.call (.ref f) args) (CR CX outer P w H s Q E) s
theorem Ap.make{P:Program}{w:World}{K:W.Frag}{mg:Str→Option Value}{base:Heap}{A:Around}{outer:List Env}{s:Shared}{H:Hp}(e:Ap P w K mg base A outer s H)(C:Addr)(us:List Value)(kw:List (Str×Value)) :
    Ap P w K mg base (A.under (.builtin "type.__call__" ⟨.ref C::us,kw⟩)) outer s H:=⟨by first|exact e.frames|(simpa[Around.under,Code.envs,Code.isFrame,pushEnvs] using e.frames),e.mod,e.bs,e.bsz,e.qf,e.frf,e.hok,e.bare⟩
section
variable{X:Cx}{pins:List (Addr×Obj)}{σ:St}{H:Hp}{s s':Shared}
theorem Inv.FV(I:Inv X pins σ H s):Ap X.prog X.w X.K X.mg X.base X.A X.stack s H :=
  ⟨I.ok.frames,I.ok.mod,I.bs,Nh I.ok.bsz I.sz,I.stack,I.nk,I.hok,I.bare⟩
theorem Inv.after{Q:VK}{u:Value}(I:Inv X pins σ H s)(h:CE X.stack X.prog X.w H s Q u s'):EP X pins σ Q u s':=by
  obtain⟨v,H',os,bare,un,hok,r,q⟩:=h;obtain⟨hh,g,d,t,os'⟩:=s';obtain rfl:os'=s.os:=os;exact⟨v,H',I.call (h':=hh) (g':=g) (d':=d) (t':=t) (ch:=[]) un hok bare (λb z=>absurd z (by simp)),r,q⟩
end
noncomputable def Ed(C:Addr)(sp:Sp)(dvs:List V)(E:XK)(t:TA):TE:=λσ H Q=>t σ H λvs H1=>∀ x dx,H1 x=none→H1 dx=none→dx≠x →
  sp (.ref x::(vs++dvs)) (upd (upd H1 dx (.own x)) x (.ins C dx [])) (λv H2=>v=.non∧Q (.ref x) H2) E
noncomputable def Binds(K:W.Frag)(fd:FuncData)(ps:List Str)(ds:List Value):Prop :=
  ∀(s:Shared) (us:List Value),K.In s.heap→(us++ds).length=ps.length→BindsTo s fd ⟨us,[]⟩ (ps.zip (us++ds))
theorem Binds.all{K:W.Frag}{fd:FuncData}{ps:List Str}(h:∀ us:List Value,us.length=ps.length→bindArgs fd ⟨us,[]⟩=pure (ps.zip us)):Binds K fd ps []:=λs us _ hl=>by
  rw[N3]at hl ⊢;exact .of_eq (h us hl)
noncomputable def Passes(CX:CXT)(X:Cx)(E:XK):Prop:=∀(pins:List (Addr×Obj)) (σ:St) (H:Hp) (s:Shared) (e:Value) (s':Shared),Inv X pins σ H s→CX X.stack H s E e s'→X.xe e s'
section
variable{X:Cx}{CX:CXT}{k:Nat}{f C:Addr}{fd:FuncData}{ps:List Str}{sp:Sp}{dvs:List V}{ds:List Value}{E:XK}{x m:Str}{p pos apos:Pos}{e o:Expr}{es:List Expr}{ta:TE}{t:TA}
structure Mk(K:W.Frag)(C f:Addr):Prop where
  makes:PySem.W.makesIn K C=true
  init:PySem.W.findIn K (.ref C) "__init__" = some (some (.ref f))
  fn:PySem.W.isFn K (.ref f)=true
  kp:PySem.W.keepIn K (.ref C)=true
theorem wu{pins:List (Addr×Obj)}{σ:St}{H:Hp}{s:Shared}{Q:VK}{us:List Value}{vs:List V}(M:Mk X.K C f)(F:cL X.prog X.w X.K X.mg X.base CX k f fd ps sp)(hr:dS (k+1) X.A)(hb:Binds X.K fd ps ds)(hd:Vals dvs ds)
    (hx:Passes CX X E) (I:Inv X pins σ H s) (r:Vals vs us)
    (h:∀ x dx,H x=none→H dx=none→dx≠x→sp (.ref x::(vs++dvs)) (upd (upd H dx (.own x)) x (.ins C dx [])) (λv H2=>v=.non∧Q (.ref x) H2) E) :
    wpAny (model X.prog X.w) X.A (call (.ref C) us) (EP X pins σ Q) X.xe s:=by
  have hq:=h (s.heap.objs.size+1) s.heap.objs.size (I.hok.fresh (OF _)) (I.hok.fresh (MR _)) (Nw (Pf _));have I2:=Inv.made (C:=C) I;have r2:Vals (V.ref (s.heap.objs.size+1)::(vs++dvs)) (Value.ref (s.heap.objs.size+1)::(us++ds)):=.cons rfl (r.append hd);have hl:(Value.ref (s.heap.objs.size+1)::us++ds).length=ps.length:=by
    have e:=r2.length;rw[F.len _ _ _ _ hq]at e;exact e.symm
  refine wpAny_call (AA (f:=f) I.kIn M.makes M.init (beq_iff_eq.mp M.fn) (codeAny_mono (F.run _ X.stack _ _ ⟨Value.ref (s.heap.objs.size+1)::us,[]⟩ (Value.ref (s.heap.objs.size+1)::(us++ds)) _ _ E (hr.make C us [])
    (I2.FV.make C us []) (hb _ (Value.ref (s.heap.objs.size+1)::us) I2.kIn hl) r2 hq) λr s' hq'=>?_))
  cases r with
  | error e=>exact hx pins σ _ _ e s' I2 hq'
  | ok fl =>
    cases fl with
    | ret u =>
      obtain⟨v,H',I3,rv,ev,q3⟩:=I2.after hq';subst ev;exact⟨rv,⟨V.ref (s.heap.objs.size+1),H',I3,rfl,q3⟩⟩
    | next=>exact False.elim hq'
    | brk=>exact False.elim hq'
    | cont=>exact False.elim hq'
theorem CN(M:Mk X.K C f)(F:cL X.prog X.w X.K X.mg X.base CX k f fd ps sp)(hr:dS (k+1) X.A)(hg:Gl X x)(hm:X.mg x=some (.ref C))(hb:Binds X.K fd ps ds)(hd:Vals dvs ds)(hx:Passes CX X E)
    (ha:PA X (e::es) t) (hdb:(x == ("__debug__" : Str))=false:=by decide) (he:starEach (e::es) X.env=(false,eval e X.env)::starEach es X.env:=by rfl) (hpl:(backTo pos (starEach es X.env)).any (·.1)=false:=by rfl) :
    PE X (.Call (.Name x p) (e::es) [] pos) (Ed C sp dvs E t):=by
  intro pins s σ H Q I h;refine wpAny_Call_Name_kw (g8 I hg hm ?_ hdb);refine PySem.W.callWith_K (h₀:=X.base) I.ok.mod.kin M.kp (thn (ha pos pins s σ H _ I h) λus s1 ⟨vs,H1,I1,r,q⟩=>⟨I1.kIn,?_⟩) he hpl;exact wu M F hr hb hd hx I1 r q
theorem rp(M:Mk X.K C f)(F:cL X.prog X.w X.K X.mg X.base CX k f fd ps sp)(hr:dS (k+1) X.A)(hg:Gl X x)(hm:X.mg x=some (.ref C))(hb:Binds X.K fd ps ds)(hd:Vals dvs ds)(hx:Passes CX X E)
    (hdb:(x == ("__debug__" : Str))=false:=by decide):PE X (.Call (.Name x p) [] [] pos) (Ed C sp dvs E Ec):=by
  intro pins s σ H Q I h;refine wpAny_Call_Name_kw (g8 I hg hm ?_ hdb);exact PySem.W.callWith_K0 I.kIn M.kp (wu (us:=[]) M F hr hb hd hx I .nil h)
end
section
variable{X:Cx}{CX:CXT}{k:Nat}{f C:Addr}{fd:FuncData}{ps ks:List Str}{sp:Sp}{E:XK}{x m:Str}{p pos apos MM:Pos}{e o:Expr}{es:List Expr}{kws:List Keyword}{te ta:TE}{t tk:TA}{nm:Option Str}
variable{g:List Value→List Value→List Value}{gV:List V→List V→List V}
end
structure au(N P:List Str)(sc:Scope):Prop where
  kind:sc.kind=.function
  co:sc.isCoroutine=false
  gen:sc.isGenerator=false
  nd:N.Nodup
  pre:N.take P.length=P
  par:∀ x∈P,sc.names.lookup x=some .local∨sc.names.lookup x=some .cell
  ET:∀ y∈sc.names,y.2≠.free
theorem sZ{kindOf:Str→Option NameKind}{x:Str}:∀ {binds:List (Str×Value)} {m:Str→Option Value},(∀ v,(x,v)∉binds)→bindL kindOf binds m x=m x
  | [],_,_=>rfl
  | (n,v)::r,m,h=>by
    unfold bindL;rw[sZ λw hw=>h w (Nn _ hw)];split
    · have:x≠n:=by rintro rfl;exact h v Nu
      simp[this]
    · rfl
theorem tq{kindOf:Str→Option NameKind}{x:Str}:∀ {binds:List (Str×Value)} {m:Str→Option Value},(∀ v,(x,v)∉binds)→bindC kindOf binds m x=m x
  | [],_,_=>rfl
  | (n,v)::r,m,h=>by
    unfold bindC;rw[tq λw hw=>h w (Nn _ hw)];split
    · rfl
    · have:x≠n:=by rintro rfl;exact h v Nu
      simp[this]
theorem tu{kindOf:Str→Option NameKind}{x:Str}{v:Value}:∀ {P:List Str} {vs:List Value} {i:Nat} {m:Str→Option Value},P.Nodup→P[i]?=some x→vs[i]?=some v→kindOf x=some .local →
    bindL kindOf (P.zip vs) m x=some v
  | [],_,_,_,_,h,_,_=>by simp at h
  | _::_,[],_,_,_,_,h,_=>by simp at h
  | p::P,w::vs,0,m,nd,h1,h2,hk=>by
    simp at h1 h2;subst h1;subst h2;show bindL kindOf ((p,w)::P.zip vs) m p=_;unfold bindL;rw[sZ λv hv=>(Oc.mp nd).1 (Ph hv).1,if_pos hk];simp
  | p::P,w::vs,i+1,m,nd,h1,h2,hk=>by
    show bindL kindOf ((p,w)::P.zip vs) m x=_;unfold bindL;exact tu (i:=i) (Oc.mp nd).2 (by simpa using h1) (by simpa using h2) hk
theorem tw{kindOf:Str→Option NameKind}{x:Str}{v:Value}:∀ {P:List Str} {vs:List Value} {i:Nat} {m:Str→Option Value},P.Nodup→P[i]?=some x→vs[i]?=some v→kindOf x≠some .local →
    bindC kindOf (P.zip vs) m x=some v
  | [],_,_,_,_,h,_,_=>by simp at h
  | _::_,[],_,_,_,_,h,_=>by simp at h
  | p::P,w::vs,0,m,nd,h1,h2,hk=>by
    simp at h1 h2;subst h1;subst h2;show bindC kindOf ((p,w)::P.zip vs) m p=_;unfold bindC;rw[tq λv hv=>(Oc.mp nd).1 (Ph hv).1,if_neg hk];simp
  | p::P,w::vs,i+1,m,nd,h1,h2,hk=>by
    show bindC kindOf ((p,w)::P.zip vs) m x=_;unfold bindC;exact tw (i:=i) (Oc.mp nd).2 (by simpa using h1) (by simpa using h2) hk
noncomputable def start(N:List Str)(vs:List V):St:=vs.map some++List.replicate (N.length-vs.length) none
noncomputable def BA(CX:CXT)(P:Program)(w:World)(K:W.Frag)(mg:Str→Option Value)(base:Heap)(N:List Str)(qual:Str)(scope:Scope)(f:Addr)(cd:Value)(A:Around)(outer:List Env)(s:Shared)(H:Hp)(E:XK):Cx where
  prog:=P
  w:=w
  K:=K
  mg:=mg
  base:=base
  A:=A.deeper (envOfC qual scope s.heap.objs.size f cd)
  N:=N
  s₀:=s
  H₀:=H
  env:=envOfC qual scope s.heap.objs.size f cd
  outer:=outer
  stack:=envOfC qual scope s.heap.objs.size f cd::outer
  ex:=[]
  calm:=true
  fn:=λ_=>true
  pn:=[]
  xe:=λe s'=>wpAny (model P w) (A.deeper (envOfC qual scope s.heap.objs.size f cd)) (leaving (envOfC qual scope s.heap.objs.size f cd) e) (λ_ s''=>CX outer H s E e s'') (λe' s''=>CX outer H s E e' s'') s'
theorem wx{sc:Scope}{n:Nat}{x:Str}(h:sc.names.lookup x=some .cell):∃ c,(cellsFrom n sc.names []).lookup x=some c:=by
  have q:=PySem.W.cellsFrom_some sc.names n [] (.inl h);exact Option.isSome_iff_exists.mp q
theorem zq{CX:CXT}{P:Program}{w:World}{K:W.Frag}{mg:Str→Option Value}{base:Heap}{N ps:List Str}{qual:Str}{scope:Scope}{f:Addr}{cd:Value}{A:Around}{outer:List Env}{s s1:Shared}{H:Hp}{E:XK}{us:List Value}{vs:List V}
    (S:au N ps scope) (hd:A.handled=none) (e0:Ap P w K mg base A outer s H) (hl:vs.length=ps.length) (r:Vals vs us)
    (x:InCallC s s.heap.objs.size (bindL (envOfC qual scope s.heap.objs.size f cd).kindOf (ps.zip us) λ_=>none) (cellsFrom (s.heap.objs.size+1) scope.names []) (bindC (envOfC qual scope s.heap.objs.size f cd).kindOf (ps.zip us) λ_=>none) s1) :
    Inv (BA CX P w K mg base N qual scope f cd A outer s H E) [] (start N vs) H s1:=by
  have hpl:ps.length≤N.length:=by have:=congrArg List.length S.pre;rw[MZ]at this;omega
  obtain⟨h1,tk,rfl,hk⟩:=x.done;have noA:∀ b:Addr,b∉(BA CX P w K mg base N qual scope f cd A outer s H E).ex:=λb z=>absurd (show b∈([]:List Addr) from z) (by simp);refine⟨⟨e0.mod,S.kind,rfl,rfl,MR _,λy z c h1 h2=>?_,λy hy=>?_,λy c _ h=>?_,λ_=>hd,Around.frames_deeper e0.frames,.inr ⟨rfl,rfl⟩,λb z=>absurd z (noA b),e0.bs,e0.bsz,λb _ _=>noA b,λb z=>absurd z (noA b),e0.qf,e0.frf⟩,
    rfl,e0.bare,Un.kept hk,⟨_,x.toInCall.ns,λi y v h1 h2 h3=>?_⟩,λy c h=>⟨_,x.cell y c h⟩,e0.hok.fresh (MR _),λy c h=>?_,λp hp=>absurd (show p∈([]:List (Addr×Obj)) from hp) (by simp),e0.hok.kept hk,?_⟩
  · exact name_of_addr x.apart (N8 h1) (N8 h2)
  · have hy:scope.names.lookup y=some .cell∨scope.names.lookup y=some .free:=hy
    rcases hy with hy|hy
    · exact wx hy
    · exact absurd rfl (S.ET _ (N8 hy))
  · exact OP (x.above y c (N8 h))
  · have hi:i<vs.length:=by
      unfold start at h2;by_cases hi:i<vs.length
      · exact hi
      · rw[Oe (by simpa using hi)]at h2
        rw[List.getElem?_replicate]at h2;split at h2<;>cases h2
    have ha:vs[i]?=some v:=by
      unfold start at h2;rw[Oh (by simpa using hi),MY]at h2;cases e:vs[i]? with
      | none=>rw[e]at h2;cases h2
      | some a=>rw[e]at h2;cases h2;rfl
    obtain⟨u,hu,rv⟩:=r.get ha;have hp:ps[i]?=some y:=by
      rw[←S.pre,OR (by omega)];exact h1
    have ndP:ps.Nodup:=(by rw[←S.pre];exact S.nd.sublist (Om _ _));refine⟨u,rv,?_⟩;rcases S.par y (Na hp) with k|k
    · exact .inl ⟨k,tu ndP hp hu k⟩
    · obtain⟨c,e⟩:=wx (n:=s.heap.objs.size+1) k
      refine .inr ⟨.inl k,c,e,?_⟩;have q:=x.cell y c e;rw[tw ndP hp hu (by show scope.names.lookup y≠_;rw[k];decide)]at q;exact q
  · exact e0.hok.fresh (OP (x.above y c (N8 h)))
  · unfold start
    show _=N.length;rw[M8,MN,List.length_replicate];omega
theorem IS{CX:CXT}{P:Program}{w:World}{K:W.Frag}{mg:Str→Option Value}{base:Heap}{k:Nat}{f:Addr}{name qual:Str}{params:Arguments}{body:List Stmt}{scope:Scope}{dV kV doc pm cdv ct oc:Value}{an od:Option Addr}
    {osl:Array (Option Value)} {N ps:List Str} {sp:Sp} (lk:K.lookup f=some ⟨oc,od,.func (PySem.W.fnOf name qual params body scope dV kV doc pm an cdv ct),osl⟩) (hcd:PySem.W.codeIn K cdv qual=true) (S:au N ps scope)
    (len:∀ vs H Q E,sp vs H Q E→vs.length=ps.length)
    (kq:∀(A:Around) (outer:List Env) (s:Shared) (H:Hp) (vs:List V) (Q:VK) (E:XK),dS k (A.deeper (envOfC qual scope s.heap.objs.size f cdv))→sp vs H Q E →
      ∃ t,PSs (BA CX P w K mg base N qual scope f cdv A outer s H E) body t∧t {nx:=λ_ H'=>Q .non H',rt:=Q} (start N vs) H) :
    cL P w K mg base CX (k+1) f (PySem.W.fnOf name qual params body scope dV kV doc pm an cdv ct) ps sp:=by
  refine⟨len,λA outer s H args us vs Q E hr e0 hb r hsp=>?_⟩;have hl:=len _ _ _ _ hsp;have KX:K.In s.heap:=e0.mod.kin.keeps λb o e=>(e0.bs b o e).1;have lim:s.heap.NoLimit:=e0.mod.nolimit.keeps λb o e=>(e0.bs b o e).1;have IT:∀ y∈ps.zip us,scope.names.lookup y.1=some .local∨(scope.names.lookup y.1=some .cell∧((cellsFrom (s.heap.objs.size+1) scope.names []).lookup y.1).isSome=true):=λ⟨n,v⟩ hy=>by
    rcases S.par n (Ph hy).1 with q|q
    · exact .inl q
    · exact .inr ⟨q,PySem.W.cellsFrom_some _ _ _ (.inl q)⟩
  refine codeAny_call_function hr.depth (KX _ _ lk) rfl S.co S.gen rfl (PySem.W.codeRec_of KX hcd) (hb _ _ _ _ ?_);refine wpAny_newFunctionEnv_cells S.kind IT λenv he s1 x=>?_;subst he;refine⟨lim.keeps x.toInCall.keep,codeAny_func ?_⟩;obtain⟨t,ht,hq⟩:=kq A outer s H vs Q E (hr.deeper _) hsp;have I:Inv (BA CX P w K mg base N qual scope f cdv A outer s H E) [] (start N vs) H s1:=zq S hr.hd e0 hl r x;refine wpAny_mono (ht [] s1 (start N vs) H _ I hq) (λfl s' hs=>?_) λe s' hs=>hs;have fin:∀ {σ':St} {H':Hp} {v:V} {u:Value},Inv (BA CX P w K mg base N qual scope f cdv A outer s H E) [] σ' H' s'→RelV v u→Q v H'→CE outer P w H s Q u s' :=
    λ{σ' H' v u} J rv q=>⟨v,H',J.os,J.bare,J.base,J.hok,rv,q⟩
  cases fl with
  | ret u =>
    obtain⟨v,σ',H',J,rv,q⟩:=hs;exact fin J rv q
  | next =>
    obtain⟨σ',H',J,q⟩:=hs;exact fin (v:=V.non) (u:=Value.none) J rfl q
  | brk =>
    obtain⟨_,_,_,q⟩:=hs;exact False.elim q
  | cont =>
    obtain⟨_,_,_,q⟩:=hs;exact False.elim q
end L2
namespace L2
open PySem PySem.Spec PyProof.Rows
section
variable{X:Cx}{x:Str}{p pos:Pos}{e:Expr}{es:List Expr}{t:TA}{id T:String}{r:List V→Hp→VK→Prop}
noncomputable def tCB(r:List V→Hp→VK→Prop)(t:TA):TE:=λσ H Q=>t σ H λvs H1=>r vs H1 Q
theorem aP(hc:gI X (.builtin id) r)(hg:Gl X x)(hm:X.mg x=none)(hv:bootBuiltins x=some (.builtin id))(ha:PA X (e::es) t)(hn:x ≠ "__name__" := by decide)(hdb:(x == ("__debug__" : Str))=false:=by decide)
    (he:starEach (e::es) X.env=(false,eval e X.env)::starEach es X.env:=by rfl) (hpl:(backTo pos (starEach es X.env)).any (·.1)=false:=by rfl):PE X (.Call (.Name x p) (e::es) [] pos) (tCB r t):=by
  intro pins s σ H Q I h;refine wpAny_Call_Name_kw (rN I hg hm hv ?_ hn hdb);exact PyProof.Rows.callWith_builtin1 (thn (ha pos pins s σ H _ I h) λus s1 ⟨vs,H1,I1,r1,q1⟩=>hc pins s1 σ H1 vs us Q I1 r1 q1) he hpl
theorem cM(hc:gI X (.type T) r)(hg:Gl X x)(hm:X.mg x=none)(hv:bootBuiltins x=some (.type T))(ha:PA X (e::es) t)(hn:x ≠ "__name__" := by decide)(hdb:(x == ("__debug__" : Str))=false:=by decide)
    (he:starEach (e::es) X.env=(false,eval e X.env)::starEach es X.env:=by rfl) (hpl:(backTo pos (starEach es X.env)).any (·.1)=false:=by rfl):PE X (.Call (.Name x p) (e::es) [] pos) (tCB r t):=by
  intro pins s σ H Q I h;refine wpAny_Call_Name_kw (rN I hg hm hv ?_ hn hdb);exact PyProof.Rows.callWith_type1 (thn (ha pos pins s σ H _ I h) λus s1 ⟨vs,H1,I1,r1,q1⟩=>hc pins s1 σ H1 vs us Q I1 r1 q1) he hpl
end
end L2
namespace HT
open PySem PyProof.Rows
section
open PySem.SeqAt
open PySem.AutoSeq1 (wpAny_loadPart')
open PySem.MeetsSeq PySem.MeetsSeq2 PySem.MeetsSeq3
end
section
variable{prog:Program}{w:World}{A:Around}{E:Value→Shared→Prop}{s:Shared}
noncomputable def sIx(n d:Nat):Option Int→Nat
  | none=>d
  | some v=>if v<0 then(v+(n:Int)).toNat else min v.toNat n
theorem wy(n d:Nat):sIx n d none=d:=rfl
end
end HT
namespace L2
open PySem PySem.Spec PyProof.Rows
noncomputable abbrev TO:=St→Hp→(Option Int→Hp→Prop)→Prop
noncomputable def PO(X:Cx)(e:Option Expr)(t:TO):Prop :=
  ∀(pins:List (Addr×Obj)) (s:Shared) (σ:St) (H:Hp) (Q:Option Int→Hp→Prop),Inv X pins σ H s→t σ H Q →
    wpAny (model X.prog X.w) X.A (evalPart e X.env) (λu s'=>∃ o H',Inv X pins σ H' s'∧IsPart u o∧Q o H') X.xe s
noncomputable def CO:TO:=λ_ H Q=>Q none H
noncomputable def IU(t:TE):TO:=λσ H Q=>t σ H λx H1=>∃ i,x=.int i∧Q (some i) H1
theorem intsAre_of{ns:List Int}:∀ {us:List Value},Vals (ns.map V.int) us→IntsAre us ns:=by
  induction ns with
  | nil=>intro us r;rw[Oy]at r;cases r;exact .nil
  | cons n ns ih =>
    intro us r;rw[Nz]at r;cases r with
    | cons r1 r2 =>
      obtain⟨t,e⟩:=r1;subst e;exact .cons n t (ih r2)
section
variable{X:Cx}{e:Expr}{te:TE}{lo hi:Option Expr}{tl th:TO}{pos p2:Pos}
theorem g9:PO X none CO:=by
  intro pins s σ H Q I h;rw[evalPart_none];exact wpAny_pure ⟨none,H,I,.none,h⟩
theorem hJ(h:PE X e te):PO X (some e) (IU te):=by
  intro pins s σ H Q I hw;rw[evalPart_some];refine thn (h pins s σ H _ I hw) λu s1 ⟨x,H1,I1,r1,q1⟩=>?_;obtain⟨i,rfl,q⟩:=q1;obtain⟨t,rfl⟩:=r1;exact⟨some i,H1,I1,.int i t,q⟩
noncomputable def SlR(X:Cx)(r:V→Option Int→Option Int→Hp→VK→Prop):Prop :=
  ∀(pins:List (Addr×Obj)) (s:Shared) (σ:St) (H:Hp) (x:V) (v vl vu:Value) (lo hi:Option Int) (sl:Addr) (Q:VK),Inv X pins σ H s→RelV x v→s.heap.IsSliceOf sl vl vu .none→IsPart vl lo→IsPart vu hi→r x lo hi H Q →
    ∃ T id,typeLookup (.type T) "__getitem__" = pure (some (.builtin id))∧s.TypeIs v T∧wpAny (model X.prog X.w) X.A (getItem v (.ref sl)) (EP X pins σ Q) X.xe s
noncomputable def tSl(r:V→Option Int→Option Int→Hp→VK→Prop)(te:TE)(tl th:TO):TE:=λσ H Q=>te σ H λx H1=>tl σ H1 λl H2=>th σ H2 λu H3=>r x l u H3 Q
theorem fA{r:V→Option Int→Option Int→Hp→VK→Prop}(hr:SlR X r)(he:PE X e te)(hl:PO X lo tl)(hu:PO X hi th):PE X (.Subscript e (.Slice lo hi none p2) pos) (tSl r te tl th):=by
  intro pins s σ H Q I h;refine Subscript_ (thn (he pins s σ H _ I h) λv s1 ⟨x,H1,I1,r1,q1⟩=>?_);refine wpAny_Slice (thn (hl pins s1 σ H1 _ I1 q1) λvl s2 ⟨l,H2,I2,pl,q2⟩=>thn (hu pins s2 σ H2 _ I2 q2) λvu s3 ⟨u,H3,I3,pu,q3⟩=>?_);rw[evalPart_none];refine wpAny_pure ?_;have I4:Inv X pins σ H3 {s3 with heap:=s3.heap.push {cls:=.type "slice",data:=.fields #[vl,vu,.none]}}:=I3.kept (t':=s3.toks) λb ob q=>MU _ q;obtain⟨T,id,hT,ht,hg⟩:=hr pins {s3 with heap:=s3.heap.push {cls:=.type "slice",data:=.fields #[vl,vu,.none]}} σ H3 x v vl vu l u s3.heap.objs.size Q I4 r1 (Heap.IsSliceOf.new ..) pl pu q3;show wpAny (model X.prog X.w) X.A (subscriptTail e (.Slice lo hi none p2) v (.ref s3.heap.objs.size)) (EP X pins σ Q) X.xe {s3 with heap:=s3.heap.push {cls:=.type "slice",data:=.fields #[vl,vu,.none]}};exact tail_any (ops:=[.ref s3.heap.objs.size,v]) ht hT hg (by with_unfolding_all rfl)
noncomputable def wz(xs:List V)(lo hi:Option Int):List V:=(xs.drop (HT.sIx xs.length 0 lo)).take (HT.sIx xs.length xs.length hi-HT.sIx xs.length 0 lo)
theorem vj(xs:List V)(lo hi:Option Int):(wz xs lo hi).length≤xs.length:=by
  unfold wz;rw[MZ,ND];omega
end
end L2
namespace L2
open PySem PySem.Spec PyProof.Rows
noncomputable def ixN(n:Nat)(i:Int):Option Nat:=if 0≤i then(if i<n then some i.toNat else none) else if -(n:Int)≤i then some (i+n).toNat else none
noncomputable def atI{α:Type}(xs:List α)(i:Int):Option α:=(ixN xs.length i).bind λj=>xs[j]?
theorem yp{n:Nat}{i:Int}{j:Nat}(h:ixN n i=some j):seqIndex? i n=some j∧j<n∧-(n:Int)≤i∧i<n:=by
  unfold ixN at h;by_cases h0:0≤i
  · rw[if_pos h0]at h
    by_cases h1:i<n
    · rw[if_pos h1]at h
      have e:i.toNat=j:=Nf h;exact⟨by rw[seqIndex_of h0 h1,e],by omega,by omega,h1⟩
    · rw[if_neg h1]at h;cases h
  · rw[if_neg h0]at h
    by_cases h1:-(n:Int)≤i
    · rw[if_pos h1]at h
      have e:(i+n).toNat=j:=Nf h;exact⟨by rw[seqIndex_neg (by omega) h1,e],by omega,h1,by omega⟩
    · rw[if_neg h1]at h;cases h
theorem yq{α:Type}{xs:List α}{i:Int}{v:α}(h:atI xs i=some v):∃ j,seqIndex? i xs.length=some j∧xs[j]?=some v∧j<xs.length∧-(xs.length:Int)≤i∧i<xs.length:=by
  unfold atI at h;cases e:ixN xs.length i with
  | none=>rw[e]at h;cases h
  | some j =>
    rw[e]at h;obtain⟨h1,h2,h3,h4⟩:=yp e;exact⟨j,h1,h,h2,h3,h4⟩
theorem jw{α:Type}{xs:List α}{j:Nat}{v:α}(h:xs[j]?=some v):atI xs (j:Int)=some v:=by
  have hj:j<xs.length:=(MQ.mp h).1;have e:ixN xs.length (j:Int)=some j:=by
    unfold ixN;rw[if_pos (by omega),if_pos (by omega)];simp
  unfold atI;rw[e];exact h
noncomputable def CP(b:Expr):Prop:=∀ o i,subscripted b false o i=operate [o,i] (getItem o i)
noncomputable def IxR(X:Cx)(r:R2):Prop :=
  ∀(value slice:Expr) (pins:List (Addr×Obj)) (s:Shared) (σ:St) (H:Hp) (x y:V) (v u:Value) (Q:VK),Inv X pins σ H s→RelV x v→RelV y u→r x y H Q →
    subscripted slice false v u=operate [v,u] (getItem v u)→wpAny (model X.prog X.w) X.A (subscriptTail value slice v u) (EP X pins σ Q) X.xe s
noncomputable def MtR(X:Cx)(id:String)(r:V→List V→Hp→VK→Prop):Prop :=
  ∀(pins:List (Addr×Obj)) (s:Shared) (σ:St) (H:Hp) (x:V) (xs:List V) (v:Value) (us:List Value) (Q:VK),Inv X pins σ H s→RelV x v→Vals xs us→r x xs H Q →
    wpAny (model X.prog X.w) X.A (call (.builtin id) (v::us)) (EP X pins σ Q) X.xe s
section
variable{X:Cx}{a b:Expr}{ta tb:TE}{pos:Pos}
theorem a7{r:R2}(hr:IxR X r)(ha:PE X a ta)(hb:PE X b tb)(hs:CP b):PE X (.Subscript a b pos) (tOp r ta tb):=by
  intro pins s σ H Q I h;exact Subscript_ (FT ha hb I h λv u s2 x y H2 I2 rx ry q=>hr a b pins s2 σ H2 x y v u Q I2 rx ry q (hs _ _))
inductive Kc(K:W.Frag)(x y:V)(H:Hp)(Q:VK):Prop where
  | mk (p:Addr) (xs:List V) (i:Int) (v:V):x=.ref p→y=.int i→SqL K H p xs→atI xs i=some v→Q v H→Kc K x y H Q
noncomputable def K6(K:W.Frag):R2:=λx y H Q=>Kc K x y H Q
inductive Kd(K:W.Frag)(x y:V)(H:Hp)(Q:VK):Prop where
  | mk (p:Addr) (xs:List V) (i:Int) (v:V):x=.ref p→y=.int i→SqT K H p xs→atI xs i=some v→Q v H→Kd K x y H Q
noncomputable def Ee(K:W.Frag):R2:=λx y H Q=>Kd K x y H Q
theorem dr:IxR X (K6 X.K):=by
  intro value slice pins s σ H x y v u Q I rx ry h hs;obtain⟨p,xs,i,z,rfl,rfl,hq,he,q⟩:=h;cases rx;obtain⟨t,rfl⟩:=ry;obtain⟨its,r,pl,hz⟩:=I.list hq;obtain⟨j,h1,h2,h3,h4,h5⟩:=yq he;obtain⟨w,ew,rw'⟩:=r.get h2;have hl:=r.length;have hn:=uR;have fin:EP X pins σ Q w s:=⟨z,H,I,rw',q⟩;by_cases h0:0≤i
  · have hj:i.toNat=j:=by
      rw[seqIndex_of h0 h5]at h1;exact Nf h1
    exact item_listR pl.isList h0 (by omega) (by rw[hj];simpa using ew) fin hs
  · have hj:(i+(its.toArray.size:Int)).toNat=j:=by
      rw[seqIndex_neg (by omega) h4]at h1;rw[M0,←hl];exact Nf h1
    exact subscriptTail_builtinR (x:=w) pl.isList.typeIs slot_list_getitem.lookup
      (wpAny_getItem_list_neg (Q:=λr s'=>r=w∧EP X pins σ Q r s') pl.isList (by omega) (by rw[M0]<;>omega) (by omega) (by rw[hj];simpa using ew) ⟨rfl,fin⟩) hs
theorem aX:IxR X (Ee X.K):=by
  intro value slice pins s σ H x y v u Q I rx ry h hs;obtain⟨p,xs,i,z,rfl,rfl,hq,he,q⟩:=h;cases rx;obtain⟨t,rfl⟩:=ry;obtain⟨its,r,pl,hz⟩:=I.tuple hq;obtain⟨j,h1,h2,h3,h4,h5⟩:=yq he;obtain⟨w,ew,rw'⟩:=r.get h2;have hl:=r.length;have hn:=uR;have fin:EP X pins σ Q w s:=⟨z,H,I,rw',q⟩;exact subscriptTail_builtinR (x:=w) pl.typeIs slot_tuple_getitem.lookup
    (getItem_tuple (j:=j) (Q:=λr s'=>r=w∧EP X pins σ Q r s') pl (by omega) (by omega) (by rw[M0,←hl];exact h1) (by simpa using ew) ⟨rfl,fin⟩) hs
theorem xr(its:List Value)(n j:Nat)(u:Value):Obj.mapSeq (·.setIfInBounds j u) {cls:=.type "list",data:=.seq its.toArray n}={cls:=.type "list",data:=.seq (its.set j u).toArray n}:=by
  simp[Obj.mapSeq]
theorem Inv.lst{pins:List (Addr×Obj)}{σ:St}{H:Hp}{s:Shared}{p:Addr}{xs:List V}(I:Inv X pins σ H s)(h:H p=some (.lst xs)) :
    ∃(its:List Value) (n:Nat),Vals xs its∧s.heap.get? p=some {cls:=.type "list",data:=.seq its.toArray n}∧xs.length≤sizeLine:=by
  obtain⟨z,its,n,r,e⟩:=I.hok p _ h;exact⟨its,n,r,e,z⟩
theorem Inv.EU{pins:List (Addr×Obj)}{σ:St}{H:Hp}{s:Shared}{p:Addr}{xs ys:List V}{its sW:List Value}{n n':Nat}{f:Obj→Obj}(I:Inv X pins σ H s)(h:H p=some (.lst xs))
    (ho:s.heap.get? p=some {cls:=.type "list",data:=.seq its.toArray n}) (hf:f {cls:=.type "list",data:=.seq its.toArray n}={cls:=.type "list",data:=.seq sW.toArray n'}) (r:Vals ys sW) (hz:ys.length≤sizeLine) (t:Nat) :
    Inv X pins σ (upd H p (.lst ys)) {s with heap:=s.heap.update p f,toks:=t}:=by
  have e:(s.heap.update p f).get? p=some {cls:=.type "list",data:=.seq sW.toArray n'}:=by
    rw[Heap.get?_update_self f ho (by rw[hf]<;>rfl),hf]
  refine I.write (x:=p) (e:=p) (by rw[h];trivial) (.inl rfl) (λb u hb q=>(N2 _ _ (Nv hb)).trans q) ⟨_,e⟩ ?_;exact⟨hz,sW,n',r,e⟩
noncomputable def IV:V→V→V→Hp→(Hp→Prop)→Prop:=λo i v H Q=>∃ p xs k j,o=.ref p∧i=.int k∧H p=some (.lst xs)∧ixN xs.length k=some j∧Q (upd H p (.lst (xs.set j v)))
theorem set_list:JW X IV:=by
  intro pins s σ H o i v ov iv u Q I ro ri rv h;obtain⟨p,xs,k,j,rfl,rfl,hp,hj,q⟩:=h;cases ro;obtain⟨t,rfl⟩:=ri;obtain⟨its,n,r,ho,hz⟩:=I.lst hp;obtain⟨h1,h2,h3,h4⟩:=yp hj;have hl:=r.length;have hn:=uR;have I':Inv X pins σ (upd H p (.lst (xs.set j v))) {s with heap:=s.heap.update p (Obj.mapSeq (·.setIfInBounds j u))} :=
    I.EU hp ho (xr its n j u) (r.set rv j) (by rw[Oi];exact hz) s.toks
  by_cases h0:0≤k
  · have hk:k.toNat=j:=by
      rw[seqIndex_of h0 h4]at h1;exact Nf h1
    exact PySem.W.ki_setAt ho h0 (by omega) (by rw[M0,←hl];exact h4) (by rw[hk];exact⟨_,I',q⟩)
  · have hk:(k+(its.toArray.size:Int)).toNat=j:=by
      rw[seqIndex_neg (by omega) h3]at h1;rw[M0,←hl];exact Nf h1
    exact PySem.W.ki_setBack ho (by omega) (by rw[M0,←hl];exact h3) (by omega) (by rw[hk];exact⟨_,I',q⟩)
theorem tN(lo hi:Option Int)(n:Nat):(sliceBounds lo hi none n).1=((HT.sIx n 0 lo:Nat):Int)∧(sliceBounds lo hi none n).2.1=((HT.sIx n n hi:Nat):Int)∧(sliceBounds lo hi none n).2.2=1:=by
  refine⟨?_,?_,rfl⟩
  · cases lo with
    | none=>simp[sliceBounds,HT.sIx]
    | some i =>
      simp only[sliceBounds,HT.sIx,Option.getD_none,show(1:Int)>0 by decide,if_true];by_cases h:i<0
      · simp only[h,if_true]<;>omega
      · simp only[h,if_false]<;>omega
  · cases hi with
    | none=>simp[sliceBounds,HT.sIx]
    | some i =>
      simp only[sliceBounds,HT.sIx,Option.getD_none,show(1:Int)>0 by decide,if_true];by_cases h:i<0
      · simp only[h,if_true]<;>omega
      · simp only[h,if_false]<;>omega
theorem rU(its:List Value)(lo hi:Option Int):slicePick its.toArray lo hi none=((its.drop (HT.sIx its.length 0 lo)).take (HT.sIx its.length its.length hi-HT.sIx its.length 0 lo)).toArray:=by
  obtain⟨h1,h2,h3⟩:=tN lo hi its.toArray.size;unfold slicePick;rw[h1,h2,h3];simp only[sliceRange_one,pick_run,M0]<;>rfl
noncomputable def K7(K:W.Frag):V→Option Int→Option Int→Hp→VK→Prop:=λx lo hi H Q=>∃ a xs,x=.ref a∧SqL K H a xs∧∀ p,H p=none→Q (.ref p) (upd H p (.lst (wz xs lo hi)))
theorem hU:SlR X (K7 X.K):=by
  intro pins s σ H x v vl vu lo hi sl Q I rx hs pl pu h;obtain⟨a,xs,rfl,hx,q⟩:=h;cases rx;obtain⟨its,r,ht,hz⟩:=I.list hx;have hlen:=r.length;refine⟨"list",_,slot_list_getitem.lookup,ht.isList.typeIs,?_⟩;refine wpAny_getItem_list_slice ht.isList hs pl pu .none (by simp) ?_ (by rw[M0]<;>omega);rw[rU,←hlen];refine⟨.ref s.heap.objs.size,_,I.laid (t':=s.toks) (o:=.lst (wz xs lo hi)) (λb ob q=>MU _ q) (MR _) ?_,rfl,q _ (I.hok.fresh (MR _))⟩;exact⟨Nh (vj xs lo hi) hz,_,0,(r.drop (HT.sIx xs.length 0 lo)).take (HT.sIx xs.length xs.length hi-HT.sIx xs.length 0 lo),NB _ rfl⟩
noncomputable def dj:V→Bool
  | .non=>true
  | .bl _=>true
  | .int _=>true
  | .str _=>true
  | _=>false
noncomputable def eqV:V→V→Bool
  | .non,.non=>true
  | .bl a,.bl b=>a == b
  | .bl a,.int b=>(if a then 1 else 0) == b
  | .int a,.bl b=>a == (if b then 1 else 0)
  | .int a,.int b=>a == b
  | .str a,.str b=>a == b
  | _,_=>false
theorem uS{A:Around}{s:Shared}{y x:V}{u v:Value}(ry:RelV y u)(rx:RelV x v)(fy:dj y=true)(fx:dj x=true):SeqAt.EqAt A s u v (eqV y x):=by
  cases y with
  | non =>
    cases ry;cases x with
    | non=>cases rx;exact SeqAt.EqAt.same _
    | bl b=>cases rx;exact SeqAt.EqAt.none_bool b
    | int b=>obtain⟨t,rfl⟩:=rx;exact SeqAt.EqAt.none_int b t
    | str b=>obtain⟨t,rfl⟩:=rx;exact SeqAt.EqAt.none_str b t
    | _=>exact absurd (show false=true from fx) M4
  | bl a =>
    cases ry;cases x with
    | non=>cases rx;exact SeqAt.EqAt.bool_none a
    | bl b=>cases rx;exact SeqAt.EqAt.bool_bool a b
    | int b=>obtain⟨t,rfl⟩:=rx;exact SeqAt.EqAt.bool_int a b t
    | str b=>obtain⟨t,rfl⟩:=rx;exact SeqAt.EqAt.bool_str a b t
    | _=>exact absurd (show false=true from fx) M4
  | int a =>
    obtain⟨t',rfl⟩:=ry;cases x with
    | non=>cases rx;exact SeqAt.EqAt.int_none a t'
    | bl b=>cases rx;exact SeqAt.EqAt.int_bool a t' b
    | int b=>obtain⟨t,rfl⟩:=rx;exact SeqAt.EqAt.int_int a t' b t
    | str b=>obtain⟨t,rfl⟩:=rx;exact SeqAt.EqAt.int_str a t' b t
    | _=>exact absurd (show false=true from fx) M4
  | str a =>
    obtain⟨t',rfl⟩:=ry;cases x with
    | non=>cases rx;exact SeqAt.EqAt.str_none a t'
    | bl b=>cases rx;exact SeqAt.EqAt.str_bool a t' b
    | int b=>obtain⟨t,rfl⟩:=rx;exact SeqAt.EqAt.str_int a t' b t
    | str b=>obtain⟨t,rfl⟩:=rx;exact SeqAt.EqAt.str_str a t' b t
    | _=>exact absurd (show false=true from fx) M4
  | _=>exact absurd (show false=true from fy) M4
noncomputable def eqU(x:V)(u:Value):Bool:=match u with
  | .none=>eqV .non x
  | .bool b=>eqV (.bl b) x
  | .int i _=>eqV (.int i) x
  | .str z _=>eqV (.str z) x
  | _=>false
theorem BB{x y:V}{u:Value}(r:RelV y u)(f:dj y=true):eqU x u=eqV y x:=by
  cases y with
  | non=>cases r;rfl
  | bl b=>cases r;rfl
  | int i=>obtain⟨t,rfl⟩:=r;rfl
  | str z=>obtain⟨t,rfl⟩:=r;rfl
  | _=>exact absurd (show false=true from f) M4
theorem ny{x:V}:∀ {xs:List V} {us:List Value},Vals xs us→xs.all dj=true→us.any (eqU x)=xs.any λy=>eqV y x
  | _,_,.nil,_=>rfl
  | y::xs,u::us,.cons r t,f=>by
    rw[List.all_cons,OY]at f;rw[OU,OU,BB r f.1,ny t f.2]
theorem iZ{A:Around}{s:Shared}{x:V}{v:Value}(rx:RelV x v)(fx:dj x=true):∀ {xs:List V} {us:List Value},Vals xs us→xs.all dj=true→∀ u∈us,SeqAt.EqAt A s u v (eqU x u)
  | _,_,.nil,_=>λu hu=>by cases hu
  | y::xs,u::us,.cons r t,f=>λu' hu=>by
    rw[List.all_cons,OY]at f;rcases Nk.mp hu with rfl|hu
    · rw[BB r f.1];exact uS r rx f.1 fx
    · exact iZ rx fx t f.2 u' hu
noncomputable def inV(x:V)(xs:List V):Bool:=xs.any λy=>eqV y x
noncomputable def rIn(K:W.Frag)(neg:Bool):R2:=λx y H Q=>∃ p xs,y=.ref p∧(SqL K H p xs∨SqT K H p xs)∧dj x=true∧xs.all dj=true∧Q (.bl (if neg then !inV x xs else inV x xs)) H
theorem tD:OpR X (compareOp .In) (rIn X.K false):=by
  intro pins s σ H x y v u Q I rx ry h;obtain⟨p,xs,rfl,hq,fx,fs,q⟩:=h;cases ry;rcases hq with hq|hq
  · obtain⟨its,r,pl,hz⟩:=I.list hq
    refine SeqAt.in_listAt (eqU x) pl.isList (λw hw=>iZ rx fx r fs w (by simpa using hw)) ⟨.bl _,H,I,rfl,?_⟩;rw[show its.toArray.any (eqU x)=its.any (eqU x) by simp,ny r fs];exact q
  · obtain⟨its,r,pl,hz⟩:=I.tuple hq
    refine SeqAt.in_tupleAt (eqU x) pl (λw hw=>iZ rx fx r fs w (by simpa using hw)) ⟨.bl _,H,I,rfl,?_⟩;rw[show its.toArray.any (eqU x)=its.any (eqU x) by simp,ny r fs];exact q
theorem lX:OpR X (compareOp .NotIn) (rIn X.K true):=by
  intro pins s σ H x y v u Q I rx ry h;obtain⟨p,xs,rfl,hq,fx,fs,q⟩:=h;cases ry;rcases hq with hq|hq
  · obtain⟨its,r,pl,hz⟩:=I.list hq
    refine SeqAt.notIn_listAt (eqU x) pl.isList (λw hw=>iZ rx fx r fs w (by simpa using hw)) ⟨.bl _,H,I,rfl,?_⟩;rw[show its.toArray.any (eqU x)=its.any (eqU x) by simp,ny r fs];exact q
  · obtain⟨its,r,pl,hz⟩:=I.tuple hq
    refine SeqAt.notIn_tupleAt (eqU x) pl (λw hw=>iZ rx fx r fs w (by simpa using hw)) ⟨.bl _,H,I,rfl,?_⟩;rw[show its.toArray.any (eqU x)=its.any (eqU x) by simp,ny r fs];exact q
theorem bM:gI X (.builtin "len") (λxs H Q=>∃ p ys,xs=[.ref p]∧(SqL X.K H p ys∨SqT X.K H p ys)∧Q (.int ys.length) H):=by
  intro pins s σ H xs us Q I r h;obtain⟨p,ys,rfl,hq,q⟩:=h;obtain⟨u,rfl,rx⟩:=vals1 r;cases rx;have hn:=uR;rcases hq with hq|hq
  · obtain⟨its,r',pl,hz⟩:=I.list hq
    have hlen:=r'.length;exact Calls.call_len_list pl.isList (by simp only[M0]<;>omega) ⟨.int ys.length,H,I.tok _,⟨s.toks+1,by rw[M0,hlen]⟩,q⟩
  · obtain⟨its,r',pl,hz⟩:=I.tuple hq
    have hlen:=r'.length;exact len_tuple pl (by simp only[M0]<;>omega) ⟨.int ys.length,H,I.tok _,⟨s.toks+1,by rw[M0,hlen]⟩,q⟩
theorem cK:gI X (.type "list") (λxs H Q=>∃ p ys,xs=[.ref p]∧(SqL X.K H p ys∨SqT X.K H p ys)∧∀ l,H l=none→Q (.ref l) (upd H l (.lst ys))):=by
  intro pins s σ H xs us Q I r h;obtain⟨p,ys,rfl,hq,q⟩:=h;obtain⟨u,rfl,rx⟩:=vals1 r;cases rx;have fin:∀(its:List Value),Vals ys its→ys.length≤sizeLine→∀(h':Heap) (c':Nat),(∀ b o',s.heap.get? b=some o'→h'.get? b=some o') →
      h'.get? s.heap.objs.size=some {cls:=.type "list",dict:=none,data:=.seq its.toArray c',slots:=#[]}→EP X pins σ Q (.ref s.heap.objs.size) {s with heap:=h'}:=λits r' hz h' c' kp e =>
    ⟨.ref s.heap.objs.size,_,I.laid (t':=s.toks) kp (MR _) (show cu X.prog X.w _ h' _ (.lst ys) from⟨hz,its,c',r',e⟩),rfl,q _ (I.hok.fresh (MR _))⟩
  rcases hq with hq|hq
  · obtain⟨its,r',pl,hz⟩:=I.list hq
    have hlen:=r'.length;obtain⟨o,ho,hc,n,hd⟩:=pl.isList;exact call_list_seq p (.inl rfl) ho hc hd (λh' c' kp e=>fin its r' hz h' c' kp e) (by simp only[M0]<;>omega)
  · obtain⟨its,r',pl,hz⟩:=I.tuple hq
    have hlen:=r'.length;obtain⟨o,ho,hc,n,hd⟩:=pl;exact call_list_seq p (.inr rfl) ho hc hd (λh' c' kp e=>fin its r' hz h' c' kp e) (by simp only[M0]<;>omega)
noncomputable def tyV(K:W.Frag)(T:String)(x:V)(H:Hp):Prop:=match x with
  | .str _=>T = "str"
  | .int _=>T = "int"
  | .ref p=>(T = "list" ∧ ∃ xs,SqL K H p xs)∨(T = "tuple" ∧ ∃ o,K.lookup p=some o∧o.cls=.type "tuple" ∧ o.dict=none) ∨
      (T = "dict" ∧ ((∃ kvs,H p=some (.dK kvs))∨∃ kvs,H p=some (.dT kvs)))∨(T = "set" ∧ ∃ S n,H p=some (.set S n))
  | _=>False
theorem EV{pins:List (Addr×Obj)}{σ:St}{H:Hp}{s:Shared}{T:String}{x:V}{v:Value}(I:Inv X pins σ H s)(r:RelV x v)(ty:tyV X.K T x H) :
    s.TypeIs v T∧∀ a,v=.ref a→∃ ob,s.heap.get? a=some ob∧ob.dict=none:=by
  cases x with
  | str z =>
    obtain⟨t,rfl⟩:=r;cases (show T = "str" from ty);exact⟨typeIs_str s z t,λ_ e=>nomatch e⟩
  | int i =>
    obtain⟨t,rfl⟩:=r;cases (show T = "int" from ty);exact⟨typeIs_int s i t,λ_ e=>nomatch e⟩
  | ref p =>
    cases r;rcases ty with⟨rfl,xs,hq⟩|⟨rfl,o,hk,hc,hd⟩|⟨rfl,hk⟩|⟨rfl,S,n,hk⟩
    · obtain⟨its,_,pl,_⟩:=I.list hq
      refine⟨pl.isList.typeIs,λa e=>?_⟩;cases e;obtain⟨o,n,e,c,hd,_⟩:=pl;exact⟨o,e,hd⟩
    · refine⟨⟨o,I.kIn p o hk,hc⟩,λa e=>?_⟩
      cases e;exact⟨o,I.kIn _ o hk,hd⟩
    · have z:∃ o,s.heap.get? p=some o∧o.ExactDict:=by
        rcases hk with⟨kvs,hk⟩|⟨kvs,hk⟩
        · obtain⟨_,_,_,_,o,_,_,e,ex,_⟩:=I.hok p _ hk
          exact⟨o,e,ex⟩
        · obtain⟨_,_,_,_,o,_,_,e,ex,_⟩:=I.hok p _ hk
          exact⟨o,e,ex⟩
      obtain⟨o,e,ex⟩:=z;refine⟨⟨o,e,ex.1⟩,λa e2=>?_⟩;cases e2;exact⟨o,e,ex.2.1⟩
    · obtain⟨o,_,_,_,e,ex,_⟩:=I.hok p _ hk
      refine⟨⟨o,e,ex.1⟩,λa e2=>?_⟩;cases e2;exact⟨o,e,ex.2.1⟩
  | _=>exact False.elim ty
noncomputable def tBM(K:W.Frag)(T:String)(r:V→List V→Hp→VK→Prop)(to:TE)(t:TA):TE:=λσ H Q=>to σ H λx H1=>tyV K T x H1∧t σ H1 λxs H2=>r x xs H2 Q
variable{o e:Expr}{es:List Expr}{to:TE}{t:TA}{name:Str}{apos qh:Pos}{T id:String}{r:V→List V→Hp→VK→Prop}
theorem uT(pa:PlainAttrs T)(slot:Slot T name id)(hty:typeOf (.builtin id)=pure (.type "method_descriptor"))(hm:MtR X id r)(ho:PE X o to)(ha:PA X (e::es) t)
    (IW:attributeBase o name X.env (eval o X.env)=eval o X.env:=by rfl)
    (CQ:((backTo qh (starEach (e::es) X.env)).all (λx=>!x.1)&&(backToKw qh (keywordEach [] X.env)).all (λx=>x.1.isSome)
      && decide ((e::es).length+([]:List Keyword).length+(if([]:List Keyword).isEmpty then 0 else 1)<30))=true:=by rfl)
    (IX:(apos.endLine == qh.line)=true:=by rfl) (hs:starEach (e::es) X.env=(false,eval e X.env)::starEach es X.env:=by rfl) (EW:(backTo qh (starEach es X.env)).any (·.1)=false:=by rfl) :
    PE X (.Call (.Attribute o name apos) (e::es) [] qh) (tBM X.K T r to t):=by
  intro pins s σ H Q I h;refine wpAny_Call_method_late IW CQ IX rfl (thn (ho pins s σ H _ I h) λv s1 ⟨x,H1,I1,r1,ty,q1⟩=>?_);obtain⟨h1,h2⟩:=EV I1 r1 ty;refine⟨T,id,pa,slot,hty,h1,h2,?_⟩;have hA:=ha qh pins s1 σ H1 _ I1 q1;rw[hs]at hA ⊢;refine Calls.callWith_builtin (by show(false||(backTo qh (starEach es X.env)).any (·.1))=false;rw[EW]<;>rfl) (Calls.evalArgs_plain ?_);exact thn hA λus s2 ⟨vs,H2,I2,r2,q2⟩=>hm pins s2 σ H2 x vs v us Q I2 r1 r2 q2
end
end L2
namespace L2
open PySem PySem.Spec PyProof.Rows
noncomputable def MtM(X:Cx)(id:String)(r:V→List V→Hp→VK→Prop):Prop :=
  ∀(pins:List (Addr×Obj)) (s:Shared) (σ:St) (H:Hp) (x:V) (xs:List V) (v:Value) (us:List Value) (Q:VK),Inv X pins σ H s→RelV x v→Vals xs us→r x xs H Q →
    wpAny (model X.prog X.w) X.A (call (.builtin id) (v::us)) (EP X pins σ Q) X.xe s
theorem Vals.one:∀ {x:V} {us:List Value},Vals [x] us→∃ u,us=[u]∧RelV x u
  | _,_,.cons r .nil=>⟨_,rfl,r⟩
theorem Vals.rep{xs:List V}{us:List Value}(h:Vals xs us):∀ k:Nat,Vals (List.replicate k xs).flatten (List.replicate k us).flatten
  | 0=>.nil
  | k+1=>by
    rw[N9,N9,OH,OH];exact Vals.append h (Vals.rep h k)
theorem foldl_rep(its:List Value):∀(k:Nat) (acc:List Value),
    List.foldl (λx1 x2=>x1++x2) acc.toArray (List.replicate k its.toArray)=(acc++(List.replicate k its).flatten).toArray
  | 0,acc=>by simp
  | k+1,acc=>by
    have e:acc.toArray++its.toArray=(acc++its).toArray:=(by simp);have e2:(acc++its)++(List.replicate k its).flatten=acc++(List.replicate (k+1) its).flatten:=by
      rw[N9,OH,Ni]
    rw[←e2,←foldl_rep its k (acc++its),←e,N9,List.foldl_cons]
section
variable{X:Cx}{pins:List (Addr×Obj)}{σ:St}{H:Hp}{s:Shared}{l b:Addr}{xs ys zs:List V}
theorem Inv.Ke{its sW:List Value}{n:Nat}{f:Array Value→Array Value}{t':Nat}(I:Inv X pins σ H s)(hH:H l=some (.lst xs))
    (e:s.heap.get? l=some {cls:=.type "list",data:=.seq its.toArray n}) (hf:f its.toArray=sW.toArray) (hv:Vals ys sW) (hz:ys.length≤sizeLine) :
    Inv X pins σ (upd H l (.lst ys)) {s with heap:=s.heap.update l (Obj.mapSeq f),toks:=t'}:=by
  have q:=PySem.IsL.update e f;rw[hf]at q;refine I.write (x:=l) (e:=l) (by rw[hH];exact trivial) (.inl rfl) (λb' u hb hu=>(N2 s.heap (Obj.mapSeq f) (Nv hb)).trans hu) ⟨_,q⟩ ?_;exact⟨hz,sW,_,hv,q⟩
theorem Inv.BC{its:List Value}{t':Nat}(I:Inv X pins σ H s)(hv:Vals ys its)(hz:ys.length≤sizeLine) :
    Inv X pins σ (upd H s.heap.objs.size (.lst ys)) {s with heap:=s.heap.push {cls:=.type "list",data:=.seq its.toArray},toks:=t'} :=
  I.laid (λ_ _ q=>MU _ q) (MR _) ⟨hz,its,0,hv,NB _ rfl⟩
theorem Inv.fresh(I:Inv X pins σ H s):H s.heap.objs.size=none:=I.hok.fresh (MR _)
theorem Inv.BD(I:Inv X pins σ H s)(hH:H l=some (.lst xs)):xs.length≤sizeLine∧∃(its:List Value) (n:Nat),Vals xs its∧xs.length=its.length∧s.heap.get? l=some {cls:=.type "list",data:=.seq its.toArray n}:=by
  obtain⟨z,its,n,r,e⟩:=I.hok l _ hH;exact⟨z,its,n,r,r.length,e⟩
theorem wB{n:Nat}(h:n≤sizeLine):Builtin.List.listTooLong n=false:=by
  unfold Builtin.List.listTooLong;exact decide_eq_false (by omega)
end
section
variable{X:Cx}
noncomputable def CS:V→List V→Hp→VK→Prop:=λx vs H Q=>∃ l xs y,x=.ref l∧vs=[y]∧H l=some (.lst xs)∧xs.length<sizeLine∧Q .non (upd H l (.lst (xs++[y])))
theorem gp:MtM X "list.append" CS:=by
  intro pins s σ H x vs v us Q I rx rv h;obtain⟨l,xs,y,rfl,rfl,hH,hz,q⟩:=h;cases rx;obtain⟨u,rfl,ru⟩:=rv.one;obtain⟨z,its,n,r,hl,e⟩:=I.BD hH;refine call_meets F.slot_list_append ⟨_,e,rfl⟩ F.entry_list_append (F.args_list_append_2 _ _) (PySem.list_append l its.toArray n u (by rw[M0];omega)) ⟨e,?_⟩;refine⟨.non,_,I.Ke (sW:=its++[u]) hH e (by simp) (r.append (.cons ru .nil)) ?_,rfl,q⟩;rw[M8,NV];omega
noncomputable def CT:V→List V→Hp→VK→Prop:=λx vs H Q=>∃ l b xs zs,x=.ref l∧vs=[.ref b]∧H l=some (.lst xs)∧H b=some (.lst zs)∧xs.length+zs.length≤sizeLine∧Q .non (upd H l (.lst (xs++zs)))
theorem tE:MtM X "list.extend" CT:=by
  intro pins s σ H x vs v us Q I rx rv h;obtain⟨l,b,xs,zs,rfl,rfl,hH,hB,hz,q⟩:=h;cases rx;obtain⟨u,rfl,ru⟩:=rv.one;cases ru;obtain⟨z,its,n,r,hl,e⟩:=I.BD hH;obtain⟨z2,Aq,n2,r2,hl2,e2⟩:=I.BD hB;have hsz:its.toArray.size+Aq.toArray.size≤sizeLine:=by rw[M0,M0];omega
  have Cp:¬(!its.toArray.isEmpty&&Builtin.List.listTooLong (its.toArray.size+Aq.toArray.size))=true:=by
    rw[wB hsz,Pc];exact M4
  refine call_meets F.slot_list_extend ⟨_,e,rfl⟩ F.entry_list_extend (F.args_list_extend_2 _ _)
    (AutoSeq1.list_extend_list_list_0 l its.toArray n b Aq.toArray n2 Cp (by rw[M0];omega) (by omega)) ⟨e,e2,?_⟩
  refine⟨.non,_,I.Ke (sW:=its++Aq) hH e (by simp) (r.append r2) ?_,rfl,q⟩;rw[M8];omega
noncomputable def K8:R2:=λx y H Q=>∃ l b xs zs,x=.ref l∧y=.ref b∧H l=some (.lst xs)∧H b=some (.lst zs)∧xs.length+zs.length≤sizeLine∧∀ p,H p=none→Q (.ref p) (upd H p (.lst (xs++zs)))
theorem EX:OpR X (binaryOp .Add) K8:=by
  intro pins s σ H x y v u Q I rx ry h;obtain⟨l,b,xs,zs,rfl,rfl,hH,hB,hz,q⟩:=h;cases rx;cases ry;obtain⟨z,its,n,r,hl,e⟩:=I.BD hH;obtain⟨z2,Aq,n2,r2,hl2,e2⟩:=I.BD hB;refine PySem.P.add_list e e2 ?_ (by rw[M0,M0];omega);have ea:its.toArray++Aq.toArray=(its++Aq).toArray:=by simp
  rw[ea];exact⟨.ref _,_,I.BC (t':=s.toks) (r.append r2) (by rw[M8];omega),rfl,q _ I.fresh⟩
noncomputable def K9:R2:=λx y H Q=>∃ l k xs,x=.ref l∧y=.int k∧H l=some (.lst xs)∧-(2 ^ 63)≤k∧k<2 ^ 63∧xs.length*k.toNat≤sizeLine ∧
  ∀ p,H p=none→Q (.ref p) (upd H p (.lst (List.replicate k.toNat xs).flatten))
theorem len_rep{α:Type}(xs:List α)(k:Nat):(List.replicate k xs).flatten.length=k*xs.length:=by
  induction k with
  | zero=>simp
  | succ k ih=>rw[N9,OH,M8,ih,Nat.succ_mul,Nat.add_comm]
theorem xX:OpR X (binaryOp .Mult) K9:=by
  intro pins s σ H x y v u Q I rx ry h;obtain⟨l,k,xs,rfl,rfl,hH,h1,h2,hz,q⟩:=h;cases rx;obtain⟨t,rfl⟩:=ry;obtain⟨z,its,n,r,hl,e⟩:=I.BD hH;have hlen:its.toArray.size*k.toNat≤sizeLine:=by rw[M0,←hl];exact hz
  have La:¬its.toArray.size*k.toNat>(2 ^ 63-1)/8:=by
    have:(sizeLine:Nat)≤(2 ^ 63-1)/8:=by decide
    omega
  have Lb:¬(!Builtin.List.listFitsIndex k)=true:=by
    rw[fitsIndex_both h1 h2];exact M4
  have Cp:¬Builtin.List.listTooLong (its.toArray.size*k.toNat)=true:=by
    rw[wB hlen];exact M4
  have Lc:List.foldl (λx1 x2=>x1++x2) #[] (List.replicate (if its.toArray.isEmpty=true then 0 else k.toNat) its.toArray)=(List.replicate k.toNat its).flatten.toArray:=by
    have f0:∀ m:Nat,List.foldl (λx1 x2=>x1++x2) #[] (List.replicate m its.toArray)=(List.replicate m its).flatten.toArray:=λm=>by
      have:=foldl_rep its m []
      rw[Pj]at this;exact this
    rw[f0];cases its with
    | nil=>simp
    | cons a r'=>rw[if_neg (by simp)]
  refine wpAny_binaryOp_repeat_ref (T := "list") (U := "int") (by decide) ⟨_,e,rfl⟩ (λs'=>typeIs_int s' k t) noFill_list_mul F.fills_int_mul F.slot_int_rmul repeat_list F.slot_int_index.lookup
    (call_meets F.slot_int_rmul (typeIs_int s k t) F.entry_int_rmul (F.args_int_rmul_2 _ _) (int___rmul___int_list k t l its.toArray n)
      ⟨e,rfl,⟨_,e,rfl⟩,call_meets F.slot_list_mul ⟨_,e,rfl⟩ F.entry_list_mul (F.args_list_mul_2 _ _) (AutoListH.list___mul___list_int_3 l its.toArray n k t Lb La Cp) ⟨e,?_⟩⟩)
  rw[Lc];exact⟨.ref _,_,I.BC (t':=s.toks) (r.rep k.toNat) (by rw[len_rep,Nat.mul_comm];exact hz),rfl,q _ I.fresh⟩
end
section
variable{prog:Program}{w:World}{A:Around}{E:Value→Shared→Prop}{s:Shared}
end
section
variable{X:Cx}
end
end L2
namespace Att
open PySem PySem.W PySem.Calls PyProof.Rows
theorem pF{P:Params}{h:Heap}:∀(ns:List Int) (vs:List Value),WellAll P h vs (ns.map WData.int)→IntsAre vs ns:=by
  intro ns;induction ns with
  | nil =>
    intro vs w;rw[Oy]at w;cases w;exact .nil
  | cons n ns ih =>
    intro vs w;rw[Nz]at w;cases w with
    | cons a b =>
      cases a;exact .cons _ _ (ih _ b)
theorem zr{l:OpenLaw}{n:Nat}(hn:l.most=some n){P:Params}{h:Heap}{args:List WData}{vals:List Value}
    (Ef:l.row.toRowW.claim.pre args=true) (hwl:WellAll P h vals args) :
    ∃ a vs ns,vals=[Value.ref a]∧args=[WData.list (ns.map WData.int)]∧h.get? a=some {cls:=.type "list",data:=.seq vs.toArray}∧IntsAre vs ns∧ns.length≤n:=by
  have hsh:WShape.hasAll [] args [.list .int]=true:=(pre_splitW Ef).1;have hc:l.pre.holds [] {args:=args}=true:=(pre_splitW Ef).2;obtain⟨d,r,rfl,h1,h2⟩:=hasAllW_cons hsh;obtain rfl:=hasAllW_nil h2;obtain⟨xs,rfl,h3⟩:=hasW_list h1;obtain⟨ns,rfl⟩:=items_int h3;have hlen:ns.length≤n:=by
    unfold OpenLaw.pre at hc;have h4:(WTm.not (.lt (.lit (.int (n:Int))) (.len (.arg 0)))).holds [] {args:=[.list (ns.map .int)]}=true:=by
      have h4:=(holds_andW hc).1;rw[hn]at h4;exact h4
    have h5:=condW_of h4 (w_not (w_lt w_lit (w_len_list (w_arg rfl))));rw[MN]at h5;refine Nat.le_of_not_lt λq=>?_;have q':(n:Int)<((ns.length:Nat):Int):=by omega
    first
      | (rw[decide_eq_true q']at h5;exact absurd h5 (by decide))
      | (simp at h5;omega)
  cases hwl with
  | cons w1 w2 =>
    cases w2;cases w1 with
    | list ho eN=>exact⟨_,_,ns,rfl,rfl,ho,pF ns _ eN,hlen⟩
theorem zt(l:OpenLaw)(args:List WData):l.row.toRowW.claim.post args (.bool true) args=true :=
  postW_of (r:=l.row.toRowW) (X:=(true == true))
    (show WShape.has [] (.bool true) .bool=true by first|rfl|decide|simp[WShape.has,WShape.arms,WShape.armsAll])
    (show(WTm.eq .res (.lit (.bool true))).value [] {args:=args,res:=some (.bool true),after:=args}=some (.bool (true == true)) from w_eq_bool (w_res rfl) w_lit) rfl
theorem vk{l:OpenLaw}{n:Nat}{q:Program}{loose:List Str}{XP:(Str→Option Value)→Heap→Prop}{YP:World→Heap→Prop}{d:DefRec}
    (hn:l.most=some n) (hdf:d.params.defaults=[])
    (call:∀(w:World) (s₀ s₁:Shared) (mg mb:Str→Option Value) (fa:Addr) (o:Obj) (pm cd doc:Value) (a:Addr) (vs:List Value) (ns:List Int),
      Ground q loose [] XP w s₀ mg mb s₁.heap→YP w s₁.heap →
      s₁.heap.get? fa=some o→o.data=.func (docDef d.name d.params d.body d.scope pm cd doc)→s₁.heap.CodeRec cd d.name→mg d.name=some (.ref fa) →
      s₁.heap.get? a=some {cls:=.type "list",data:=.seq vs.toArray}→IntsAre vs ns→ns.length≤n→s₁.gens=#[] →
      codeAny (model l.prog w) callerA (.call (.ref fa) ⟨[.ref a],[]⟩) (λr s'=>r=.ok (.ret (.bool true))∧OldK s₁.heap s'.heap∧s'.os=s₁.os∧AllBare s'.gens) s₁) :
    WalkO q loose XP YP l.row.toRowW d [] (λf vs=>PySem.call f vs):=by
  intro w s₀ s₁ mg mb G Y fa o pm cd doc dV kV ho hd hcd hD hmg hg args vals as Ef hlay hrd hwl hlo;obtain rfl:dV=.none:=Dflts.none hD hdf;obtain rfl:kV=.none:=Dflts.noKw hD;obtain⟨a,vs,ns,rfl,rfl,FW,hints,hlen⟩:=zr hn Ef hwl;refine enter_call (codeAny_mono (call w s₀ s₁ mg mb fa o pm cd doc a vs ns G Y ho (fd_plain hd) hcd hmg FW hints hlen hg) λr s' hq=>?_);obtain⟨rfl,h2,h3,h4⟩:=hq;exact⟨.inl ⟨.bool true,.bool true,[],rfl,λ_=>rfl,.bool true,zt l _,λ_=>⟨List.Pairwise.nil,λ_ hm=>(nomatch hm)⟩⟩,h2,h3,h4⟩
section
variable{prog:Program}{w:World}{A:Around}{E:Value→Shared→Prop}{s:Shared}{K:Frag}
end
end Att
namespace L2
open PySem PySem.Spec PyProof.Rows
theorem dZ:∀ {vs:List Value} {ns:List Int},IntsAre vs ns→Vals (ns.map V.int) vs
  | _,_,.nil=>.nil
  | _,_,.cons n t h=>.cons ⟨t,rfl⟩ (dZ h)
noncomputable def FX(H:Hp):Prop:=∀ b,H b=none∨∃ o xs,H b=some (.frz o (.lst xs))
theorem AB{P:Program}{w:World}{K:W.Frag}{mg mb:Str→Option Value}{CX:CXT}{k:Nat}{fa a:Addr}{fd:FuncData}{x:Str}{sp:Sp}{s₁:Shared}{vs:List Value}{ns:List Int}
    (KX:K.In s₁.heap) (hns:s₁.heap.Ns mainGlobals mg) (hb:s₁.heap.Ns builtinsNs mb) (hbb:∀ x:Str,x ≠ "__name__" → mb x=bootBuiltins x) (Ld:s₁.heap.NoLimit) (hg:s₁.gens=#[])
    (ha:s₁.heap.get? a=some {cls:=.type "list",data:=.seq vs.toArray}) (hi:IntsAre vs ns) (hl:ns.length≤sizeLine) (hr:dS k callerA)
    (F:∀ base:Heap,K.In base→base.Ns mainGlobals mg→cL P w K mg base CX k fa fd [x] sp) (IY:∀(s:Shared) (u:Value),BindsTo s fd ⟨[u],[]⟩ [(x,u)])
    (hsp:∀ H:Hp,FX H→SqL K H a (ns.map V.int)→sp [.ref a] H (λv _=>v=.bl true) λ_ _ _=>False)
    (hCX:∀ H e s',CX [] H s₁ (λ_ _ _=>False) e s'→False) :
    codeAny (model P w) callerA (.call (.ref fa) ⟨[.ref a],[]⟩) (λr s'=>r=.ok (.ret (.bool true))∧OldK s₁.heap s'.heap∧s'.os=s₁.os∧AllBare s'.gens) s₁:=by
  have rv:=dZ hi;have Le:=hi.length;have core:∀ H:Hp,FX H→SqL K H a (ns.map V.int)→HOk P w H s₁.heap→(∀ b,H b≠none→b=a)→(H a≠none→K.lookup a=none) →
      codeAny (model P w) callerA (.call (.ref fa) ⟨[.ref a],[]⟩) (λr s'=>r=.ok (.ret (.bool true))∧OldK s₁.heap s'.heap∧s'.os=s₁.os∧AllBare s'.gens) s₁:=by
    intro H hO hS hok hA hK;have yr:∀ {b:Addr} {o:Obj},s₁.heap.get? b=some o→H b=none→(xg s₁.heap H).get? b=some o:=λe n=>Av e n;have noA:∀ {b:Addr} {o:Obj} {es:Array DictEntry} {ep:Nat},s₁.heap.get? b=some o→o.data=.dict es ep→H b=none:=λ{b o es ep} e d=>by
      cases q:H b with
      | none=>rfl
      | some u =>
        have e':b=a:=hA b (by rw[q];simp);subst e';rw[ha]at e;cases e;have d':Data.seq vs.toArray _=Data.dict es ep:=d;cases d'
    have nsK:∀ {b:Addr} {m:Str→Option Value},s₁.heap.Ns b m→(xg s₁.heap H).Ns b m:=λ{b m} ⟨o,es,ep,e,d,r⟩=>⟨o,es,ep,yr e (noA e d),d,r⟩;have hKb:K.In (xg s₁.heap H):=λb o e=>yr (KX b o e) (by
      cases q:H b with
      | none=>rfl
      | some u =>
        have e':b=a:=hA b (by rw[q];simp);subst e';rw[hK (by rw[q];simp)]at e;cases e)
    have hM:Mod K mg (xg s₁.heap H):=⟨hKb,nsK hns,⟨mb,nsK hb,hbb⟩,let ⟨mc,h1,h2⟩:=Ld;⟨mc,nsK h1,h2⟩⟩;have e0:Ap P w K mg (xg s₁.heap H) callerA [] s₁ H:=⟨rfl,hM,λb o e=>CK e,Nat.le_of_eq (zb _ _),trivial,λb hb=>absurd (show b∈([]:List Addr) from hb) (by simp),hok,.of_eq hg⟩;refine codeAny_mono ((F _ hKb (nsK hns)).run callerA [] s₁ H ⟨[.ref a],[]⟩ [.ref a] [.ref a] _ _ hr e0 (IY s₁ (.ref a)) (.cons rfl .nil) (hsp H hO hS)) λr s' h=>?_;cases r with
    | error e=>exact(hCX H e s' h).elim
    | ok fl =>
      cases fl with
      | next=>exact False.elim h
      | brk=>exact False.elim h
      | cont=>exact False.elim h
      | ret u =>
        obtain⟨v,H',os,bare,un,Lf,r',q⟩:=h;have q':v=.bl true:=q;subst q';obtain rfl:u=Value.bool true:=r';refine⟨rfl,OldK.of_keep λb o e=>?_,os,bare⟩;cases q:H b with
        | none=>exact un.keep b o e q (by intro z;exact absurd (show b∈([]:List Addr) from z) (by simp)) (by simp)
        | some u =>
          rcases hO b with z|⟨ob,xs,z⟩
          · rw[q]at z;cases z
          · have z2:=un.rM b ob _ z
            obtain⟨e1,_⟩:=hok b _ z;obtain⟨e2,_⟩:=Lf b _ z2;rw[e]at e1;cases e1;exact e2
  cases hk:K.lookup a with
  | some o =>
    have e:=KX a o hk;rw[ha]at e;cases e;refine core (λ_=>none) (λ_=>.inl rfl) (.inr ⟨_,vs.toArray,_,hk,rfl,rfl,rfl,by rw[M0,Le];exact hl,by simpa using rv⟩) (λb u z=>by have z':(none:Option HO)=some u:=z;cases z') (λb z=>absurd rfl z) λz=>absurd rfl z
  | none =>
    refine core (λb=>if b=a then some (.frz {cls:=.type "list",data:=.seq vs.toArray} (.lst (ns.map V.int))) else none) (λb=>?_) (.inl (.inr ⟨{cls:=.type "list",data:=.seq vs.toArray},if_pos rfl⟩)) (λb u z=>?_) (λb z=>?_) λ_=>hk
    · by_cases hb:b=a
      · exact .inr ⟨_,_,if_pos hb⟩
      · exact .inl (if_neg hb)
    · by_cases hb:b=a
      · have z':=(if_pos hb).symm.trans z
        cases z';subst hb;exact⟨ha,by rw[MN];exact hl,vs,_,rv,ha⟩
      · have z':=(if_neg hb).symm.trans z
        cases z'
    · by_cases hb:b=a
      · exact hb
      · exact absurd (if_neg hb) z
end L2
namespace L2
open PySem PySem.Spec PyProof.Rows
theorem CU{l:PySem.W.OpenLaw}{n k:Nat}{q:Program}{loose:List Str}{XP:(Str→Option Value)→Heap→Prop}{YP:World→Heap→Prop}{d:DefRec}{K:Params→W.Frag}{CX:World→CXT}{sp:World→Sp}{x:Str}
    (hn:l.most=some n) (hn2:n≤sizeLine) (hdf:d.params.defaults=[]) (hr:dS k callerA)
    (hY:∀(w:World) (h:Heap),YP w h→(K w.params).In h)
    (F:∀(w:World) (mg:Str→Option Value) (fa:Addr) (h:Heap),(K w.params).In h→h.Ns mainGlobals mg→mg d.name=some (.ref fa) →
      ∃ fd:FuncData,(∀(s:Shared) (u:Value),BindsTo s fd ⟨[u],[]⟩ [(x,u)]) ∧
        ∀ base:Heap,(K w.params).In base→base.Ns mainGlobals mg→cL l.prog w (K w.params) mg base (CX w) k fa fd [x] (sp w))
    (hsp:∀(w:World) (H:Hp) (a:Addr) (ns:List Int),ns.length≤n→FX H→SqL (K w.params) H a (ns.map V.int)→sp w [.ref a] H (λv _=>v=.bl true) λ_ _ _=>False)
    (hCX:∀(w:World) (H:Hp) (s:Shared) (e:Value) (s':Shared),CX w [] H s (λ_ _ _=>False) e s'→False) :
    PySem.W.WalkO q loose XP YP l.row.toRowW d [] (λf vs=>PySem.call f vs):=by
  refine Att.vk hn hdf λw s₀ s₁ mg mb fa o pm cd doc a vs ns G Y ho hd hcd hmg FW hints hlen hg=>?_;have KX:=hY w _ Y;obtain⟨fd,hb,hF⟩:=F w mg fa _ KX G.T.g hmg;exact AB KX G.T.g G.T.b G.T.builtins G.T.nolimit hg FW hints (Nh hlen hn2) hr hF hb (λH hO hS=>hsp w H a ns hlen hO hS) λH e s'=>hCX w H s₁ e s'
end L2
namespace L2
open PySem PySem.Spec PyProof.Rows
noncomputable def inClass(s:Stmt)(j:Nat):Stmt:=match s with
  | .ClassDef _ _ _ body _ _ _ _ _ _ _=>body.getD j (.Pass ⟨0,0,0,0⟩)
  | _=>.Pass ⟨0,0,0,0⟩
noncomputable def bN(s:Stmt):Arguments:=match s with
  | .FunctionDef _ a _ _ _ _ _ _ _ _=>a
  | _=>{posonlyargs:=[],args:=[],vararg:=none,kwonlyargs:=[],kw_defaults:=[],kwarg:=none,defaults:=[]}
noncomputable def aw(s:Stmt):List Stmt:=match s with
  | .FunctionDef _ _ b _ _ _ _ _ _ _=>b
  | _=>[]
noncomputable def aj(s:Stmt):Scope:=match s with
  | .FunctionDef _ _ _ _ _ _ sc _ _ _=>sc
  | _=>{kind:=.function,names:=[],isGenerator:=false,isCoroutine:=false}
structure Fun(K:W.Frag)(x qual:Str)(st:Stmt)(f:Addr)(fd:FuncData):Prop where
  ex:∃(oc:Value) (od:Option Addr) (kV doc pm:Value) (an:Option Addr) (cdv ct:Value) (osl:Array (Option Value)),
    fd=PySem.W.fnOf x qual (bN st) (aw st) (aj st) .none kV doc pm an cdv ct∧K.lookup f=some ⟨oc,od,.func fd,osl⟩∧PySem.W.codeIn K cdv qual=true
  kp:PySem.W.keepIn K (.ref f)=true
section
variable{P:Program}{w:World}{K:W.Frag}{mg:Str→Option Value}{base:Heap}
theorem Fun.binds{x qual:Str}{st:Stmt}{f:Addr}{fd:FuncData}{ps:List Str}(F:Fun K x qual st f fd)
    (h:∀(kV doc pm:Value) (an:Option Addr) (cdv ct:Value) (us:List Value),us.length=ps.length→bindArgs (PySem.W.fnOf x qual (bN st) (aw st) (aj st) .none kV doc pm an cdv ct) ⟨us,[]⟩=pure (ps.zip us)):Binds K fd ps []:=by
  obtain⟨oc,od,kV,doc,pm,an,cdv,ct,osl,rfl,lk,hcd⟩:=F.ex;exact .all (h kV doc pm an cdv ct)
end
theorem b7{A:Around}{k:Nat}(hr:dS k A):A.units+1<cLine:=NQ (Nat.add_le_add_left (by decide:1≤64) _) hr.units
section
variable{X:Cx}
theorem pv(i:Nat){x:Str}{pos:Pos}(hN:X.N[i]?=some x:=by rfl)(hv:Vis X.env.scope x:=by first|exact Or.inl rfl|exact Or.inr (Or.inl rfl)|exact Or.inr (Or.inr rfl))(hd:(x == ("__debug__" : Str))=false:=by decide)
    (hcd:(x == ("__classdict__" : Str))=false:=by decide):PE X (.Name x pos) (JV i):=EM hN hv hd hcd
end
theorem b8{A B:Prop}(h:B):if false=true then A else B:=by
  rw[if_neg M4];exact h
theorem dt{A B:Prop}(h:A):if true=true then A else B:=by
  rw[if_pos rfl];exact h
theorem bu{c A B:Prop}[Decidable c](h1:c→A)(h2:¬c→B):if c then A else B:=by
  by_cases h:c
  · rw[if_pos h]
    exact h1 h
  · rw[if_neg h]
    exact h2 h
noncomputable def ay(H H':Hp):Prop:=∀ b o,H b=some o→H' b=some o
theorem ay.refl(H:Hp):ay H H:=λ_ _ h=>h
theorem ay.trans{H H1 H2:Hp}(a:ay H H1)(b:ay H1 H2):ay H H2:=λc o h=>b c o (a c o h)
theorem ay.free{H H':Hp}(e:ay H H'){l:Addr}(h:H' l=Option.none):H l=Option.none:=by
  cases q:H l with
  | none=>rfl
  | some o =>
    rw[e l o q]at h;cases h
theorem ay.seq{K:W.Frag}{H H':Hp}{a:Addr}{xs:List V}(e:ay H H')(h:SqL K H a xs):SqL K H' a xs:=by
  rcases h with(h|⟨o,h⟩)|h
  · exact .inl (.inl (e _ _ h))
  · exact .inl (.inr ⟨o,e _ _ h⟩)
  · exact .inr h
end L2
end
section
namespace K72
open PySem PySem.W L2 PySem.PyData
noncomputable def top(i:Nat):Stmt:=PySem.Challenge.pw_stillheap_k72_whole_just_these_went.main.body.getD i (.Pass ⟨0,0,0,0⟩)
noncomputable section
abbrev OO:=Params→Obj
abbrev FN:=Str×Str×Stmt
noncomputable def oF(f:FN)(m:Value)(r:Addr):OO:=λ_=>⟨.type "function",none,.func (fnOf f.1 f.2.1 (bN f.2.2) (aw f.2.2) (aj f.2.2) .none .none .none m none (.ref r) .none),#[]⟩
noncomputable def oG(f:FN):OO:=λ_=>⟨.none,none,.func ⟨f.1,f.2.1,bN f.2.2,.stmts (aw f.2.2),aj f.2.2,0,[],.none,.none,.none,.none,none,.none,.none,0⟩,#[]⟩
noncomputable def oT(l:List Value):OO:=λ_=>⟨.type "tuple",none,.seq (List.toArray l) 0,#[]⟩
def oS:List Str→Tok→List Value
 | [],_=>[]
 | x::r,k=>.str x k::oS r (k+1)
noncomputable def oD(l:List (Str×Tok×Value))(n:Nat):OO:=λP=>⟨.type "dict",none,.dict (List.toArray (l.map λe=>⟨keyHash P e.1,.str e.1 e.2.1,e.2.2⟩)) n,#[]⟩
def zB:List String→Tok→List (Str×Tok×Value)
 | [],_=>[]
 | x::r,k=>(Str.ofString x,k,.builtin x)::zB r (k+1)
def zT:List String→Tok→List (Str×Tok×Value)
 | [],_=>[]
 | x::r,k=>(Str.ofString x,k,.type x)::zT r (k+1)
def ap(a b:List (Str×Tok×Value)):List (Str×Tok×Value):=a++b
noncomputable def oC(f:FN)(t:Tok)(l a b c d:Int)(r:Addr)(e:Int)(g h i j:Addr)(z:Int)(u:Tok):OO:=λ_=>⟨.type "code",none,.fields (List.toArray [.str f.1 t,.str f.2.1 (t+1),.str "/claim/cut.py" (t+2),.int l 0,.int a 0,.int b 0,.int c 0,.int d 0,.ref r,.bool true,.int e 0,.ref g,.none,.ref h,.ref i,.ref j,.int z 0,.int l 0,.str "/claim/cut.py" u]),#[]⟩
noncomputable def oN(f:FN)(t:Tok)(l a b c d:Int)(r:Addr)(e:Int)(g j:Addr)(z:Int)(u:Tok):OO:=λ_=>⟨.type "code",none,.fields (List.toArray [.str f.1 t,.str f.2.1 (t+1),.str "/claim/cut.py" (t+2),.int l 0,.int a 0,.int b 0,.int c 0,.int d 0,.ref r,.bool true,.int e 0,.ref g,.none,.none,.none,.ref j,.int z 0,.int l 0,.str "/claim/cut.py" u]),#[]⟩
noncomputable def oM(n:Str)(t:Tok)(l:Int)(r:Addr)(e:Int)(f:Addr)(z:Int)(u:Tok):OO:=λ_=>⟨.type "code",none,.fields (List.toArray [.str n t,.str n (t+1),.str "/claim/cut.py" (t+2),.int l 0,.int 0 0,.int 0 0,.int 0 0,.int 0 0,.ref r,.bool false,.int e 0,.ref f,.none,.none,.none,.none,.int z 0,.int l 0,.str "/claim/cut.py" u]),#[]⟩
def oI:List Nat→List Value
 | a::b::c::r=>.int a 0::.int b 0::.ref c::oI r
 | _=>[]
noncomputable def oX(l:List Nat):OO:=λ_=>⟨.none,none,.fields (List.toArray (oI l)),#[]⟩
noncomputable def oR(a b c:Addr)(m:Value):OO:=λ_=>⟨.type "frame",none,.plain,List.toArray [some (.ref a),some (.ref b),some (.ref c),none,some m,none,some (.ref 0)]⟩
noncomputable def oP(a b:Value):OO:=λ_=>⟨.type "builtin_function_or_method",none,.fields (List.toArray [a,b]),#[]⟩
noncomputable def oY(n:Str)(b m:List Value)(d:Addr)(u:List Value)(k:Option Value)(t1 t2:Tok)(w:Value):OO:=λ_=>⟨.type "type",none,.cls ⟨n,b,m,d,n,true,[],u,false,none,false⟩,List.toArray [k,none,some (.str n t1),some (.str n t2),some w,some (.bool true)]⟩
noncomputable def oU(a:Addr):OO:=λ_=>⟨.type "super",none,.fields (List.toArray [.ref a,.ref a,.ref a]),#[]⟩
def spl:List OO→List OO×List OO
 | []=>([],[])
 | [a]=>([a],[])
 | a::b::r=>(a::(spl r).1,b::(spl r).2)
noncomputable def mkT(P:Params):Nat→List OO→BT
 | 0,_=>.nil
 | _+1,[]=>.nil
 | n+1,x::r=>.node (x P) (mkT P n (spl r).1) (mkT P n (spl r).2)
def stT(l:List OO)(c:List (Nat×OO)):List OO:=c.foldl (λl p=>l.set p.1 p.2) l
def fn0:FN:=("_wall","_wall",top 0)
def fn1:FN:=("__init__","HeapError.__init__",inClass (top 2) 0)
def fn2:FN:=("called","HeapError.called",inClass (top 2) 1)
def fn3:FN:=("called","BadHand.called",inClass (top 3) 0)
def fn4:FN:=("called","BadName.called",inClass (top 4) 0)
def fn5:FN:=("called","BadField.called",inClass (top 5) 0)
def fn6:FN:=("called","BadCount.called",inClass (top 6) 0)
def fn7:FN:=("called","NoRoom.called",inClass (top 7) 0)
def fn8:FN:=("called","TooManyWords.called",inClass (top 8) 0)
def fn9:FN:=("called","RoundOn.called",inClass (top 9) 0)
def FY:FN:=("called","NoRound.called",inClass (top 10) 0)
def FZ:FN:=("called","BadView.called",inClass (top 11) 0)
def F5:FN:=("number_value","number_value",top 19)
def F6:FN:=("thing_value","thing_value",top 20)
def F7:FN:=("kind_of","kind_of",top 21)
def F8:FN:=("words_of","words_of",top 22)
def F9:FN:=("look_at_number","look_at_number",top 23)
def Ga:FN:=("look_at_hand","look_at_hand",top 24)
def Ge:FN:=("look_at_name","look_at_name",top 25)
def Gf:FN:=("look_at_field","look_at_field",top 26)
def Gg:FN:=("look_at_limits","look_at_limits",top 27)
def Gh:FN:=("view_of","view_of",top 29)
def Gi:FN:=("thing_in","thing_in",top 30)
def Gj:FN:=("look_at_view","look_at_view",top 31)
def Gk:FN:=("look_at_told","look_at_told",top 32)
def Gm:FN:=("last_steps","last_steps",top 33)
def Gp:FN:=("reach_paper","reach_paper",top 35)
def Gq:FN:=("paper_judged","paper_judged",top 36)
def Gr:FN:=("closed_in","closed_in",top 37)
def Gu:FN:=("tells_within","tells_within",top 38)
def Gv:FN:=("is_step","is_step",top 39)
def Gw:FN:=("tells_at","tells_at",top 40)
def Gx:FN:=("round_paper","round_paper",top 42)
def Gy:FN:=("round_judged","round_judged",top 43)
def Gz:FN:=("rooted_view","rooted_view",top 44)
def GA:FN:=("things_without","things_without",top 45)
def GB:FN:=("__init__","Hands.__init__",inClass (top 47) 0)
def GC:FN:=("word_in","Hands.word_in",inClass (top 47) 1)
def GD:FN:=("all_words","Hands.all_words",inClass (top 47) 2)
def GF:FN:=("put","Hands.put",inClass (top 47) 3)
def GG:FN:=("copy","Hands.copy",inClass (top 47) 4)
def GH:FN:=("number","Hands.number",inClass (top 47) 5)
def GK:FN:=("kind","Hands.kind",inClass (top 47) 6)
def GN:FN:=("value","Hands.value",inClass (top 47) 7)
def GO:FN:=("same","Hands.same",inClass (top 47) 8)
def GP:FN:=("thing_due","Hands.thing_due",inClass (top 47) 9)
def GQ:FN:=("__init__","WordTable.__init__",inClass (top 50) 0)
def GU:FN:=("bear","WordTable.bear",inClass (top 50) 1)
def GV:FN:=("word_of","WordTable.word_of",inClass (top 50) 2)
def GX:FN:=("bearers","WordTable.bearers",inClass (top 50) 3)
def GY:FN:=("settle","WordTable.settle",inClass (top 50) 4)
def GZ:FN:=("take","WordTable.take",inClass (top 50) 5)
def G0:FN:=("said","WordTable.said",inClass (top 50) 6)
def G4:FN:=("__init__","NameTable.__init__",inClass (top 52) 0)
def G5:FN:=("name","NameTable.name",inClass (top 52) 1)
def G6:FN:=("named","NameTable.named",inClass (top 52) 2)
def G7:FN:=("all_named","NameTable.all_named",inClass (top 52) 3)
def G9:FN:=("settle","NameTable.settle",inClass (top 52) 4)
def He:FN:=("__init__","Heap.__init__",inClass (top 54) 0)
def Hg:FN:=("add_thing","Heap.add_thing",inClass (top 54) 1)
def Hh:FN:=("load","Heap.load",inClass (top 54) 2)
def Hi:FN:=("store","Heap.store",inClass (top 54) 3)
def Hj:FN:=("copy","Heap.copy",inClass (top 54) 4)
def Hk:FN:=("drop","Heap.drop",inClass (top 54) 5)
def Hl:FN:=("number","Heap.number",inClass (top 54) 6)
def Hm:FN:=("name","Heap.name",inClass (top 54) 7)
def Ho:FN:=("read_thing","Heap.read_thing",inClass (top 54) 8)
def Hq:FN:=("word","Heap.word",inClass (top 54) 9)
def Hr:FN:=("small_round","Heap.small_round",inClass (top 54) 10)
def Ht:FN:=("let_go","Heap.let_go",inClass (top 54) 11)
def Hu:FN:=("look_at_held","Heap.look_at_held",inClass (top 54) 12)
def Hv:FN:=("field_value","Heap.field_value",inClass (top 54) 13)
def Hw:FN:=("counts_held","Heap.counts_held",inClass (top 54) 14)
def HB:FN:=("words_among","Heap.words_among",inClass (top 54) 15)
def HC:FN:=("led_among","Heap.led_among",inClass (top 54) 16)
def HD:FN:=("thing_among","thing_among",top 55)
def HE:FN:=("__init__","IdealHeap.__init__",inClass (top 57) 0)
def HF:FN:=("make","IdealHeap.make",inClass (top 57) 1)
def HG:FN:=("read","IdealHeap.read",inClass (top 57) 2)
def HH:FN:=("take","IdealHeap.take",inClass (top 57) 3)
def HI:FN:=("kind","IdealHeap.kind",inClass (top 57) 4)
def HJ:FN:=("value","IdealHeap.value",inClass (top 57) 5)
def HK:FN:=("fields","IdealHeap.fields",inClass (top 57) 6)
def HL:FN:=("same","IdealHeap.same",inClass (top 57) 7)
def HM:FN:=("held","IdealHeap.held",inClass (top 57) 8)
def HN:FN:=("small","IdealHeap.small",inClass (top 57) 9)
def HP:FN:=("begin","IdealHeap.begin",inClass (top 57) 10)
def HQ:FN:=("end","IdealHeap.end",inClass (top 57) 11)
def HR:FN:=("round_on","IdealHeap.round_on",inClass (top 57) 12)
def HU:FN:=("hands","IdealHeap.hands",inClass (top 57) 13)
def HV:FN:=("names","IdealHeap.names",inClass (top 57) 14)
def HW:FN:=("things","IdealHeap.things",inClass (top 57) 15)
def HX:FN:=("fields_of","IdealHeap.fields_of",inClass (top 57) 16)
def HY:FN:=("is_old","IdealHeap.is_old",inClass (top 57) 17)
def HZ:FN:=("word_of","IdealHeap.word_of",inClass (top 57) 18)
def Ia:FN:=("doomed","IdealHeap.doomed",inClass (top 57) 19)
def Ib:FN:=("said","IdealHeap.said",inClass (top 57) 20)
def Ic:FN:=("made","IdealHeap.made",inClass (top 57) 21)
def Ie:FN:=("spare","IdealHeap.spare",inClass (top 57) 22)
def Ig:FN:=("_law_codes","_law_codes",top 59)
def Cq:FN:=("_law_done","_law_done",top 60)
def Cr:FN:=("_law_tried","_law_tried",top 61)
def Cs:FN:=("_law_read","_law_read",top 62)
def Ct:FN:=("_law_wrong_told","_law_wrong_told",top 63)
def Cu:FN:=("law","law",top 64)
def xs0:List Nat:=[1,0,20,5,0,27,12,0,54,16,0,73,20,0,92,24,0,111,28,0,130,32,0,149,36,0,168,40,0,187,44,0,206,55,0,225,58,0,232,62,0,239,64,0,246,68,0,253,71,0,260,74,0,267,77,0,274,80,0,281,86,0,286,91,0,293,93,0,300,100,0,307,104,0,314,119,0,319,123,0,326,131,0,331,141,0,336,143,0,343,151,0,350,154,0,357,158,0,364,161,0,371,166,0,376,172,0,383,214,0,467,242,0,530,261,0,577,351,0,704,356,0,711,455,0,884,468,0,891,493,0,898,500,0,905,506,0,910,520,0,915]
def v0:Value:=.str "stillheap.ideal" 1079
def v1:Value:=.type "object"
def v2:Value:=.str "stillheap.errors" 194
def v3:Value:=.str "stillheap.heaps" 894
def v4:Value:=.builtin "object.__init_subclass__"
def v5:Value:=.type "ValueError"
def v6:Value:=.type "Exception"
def v7:Value:=.type "BaseException"
def v8:Value:=.builtin "ValueError.__new__"
def v9:Value:=.str "stillheap.hands" 648
def v10:Value:=.type "getset_descriptor"
def v11:Value:=.str "stillheap.values" 436
def v12:Value:=.str "stillheap.lastwords" 754
def v13:Value:=.str "stillheap.cuts" 560
def v14:Value:=.builtin "object.__new__"
def v15:Value:=.str "stillheap.weaknames" 834
def v16:Value:=.str "law_stillheap_k72_whole_just_these_went" 1284
def v17:Value:=.builtin "ExceptionGroup.__weakref__"
def v18:Value:=.str "stillheap.reach" 515
def v19:Value:=.str "stillheap.gonepapers" 610
def v20:Value:=.builtin "function.__dict__"
def v21:Value:=.builtin "function.__dict__#set"
def v22:Value:=.str "__main__" 164
def o3:OO:=oD [("__name__",165,.str "__main__" 164),("__doc__",166,.none),("__package__",167,.none),("__loader__",168,.builtin "__main__.__loader__#opaque"),("__spec__",169,.none),("__annotations__",170,.ref 6),("__builtins__",171,.ref 4),("__file__",173,.str "/claim/cut.py" 172),("__cached__",174,.none)] 9
def o7:OO:=λ_=>⟨(.type "tuple"),none,(.seq #[] 0),#[]⟩
def o8:OO:=λ_=>⟨.none,none,(.fields #[]),#[]⟩
def o13:OO:=oD [("__name__",165,.str "stillheap.errors" 194),("__doc__",166,.none),("__package__",167,.none),("__loader__",168,.builtin "__main__.__loader__#opaque"),("__spec__",169,.none),("__annotations__",170,.ref 6),("__builtins__",171,.ref 4),("__file__",173,.str "/claim/cut.py" 172),("__cached__",174,.none),("_wall",193,.ref 21),("HeapError",228,.ref 45),("BadHand",251,.ref 65),("BadName",274,.ref 84),("BadField",297,.ref 103),("BadCount",320,.ref 122),("NoRoom",343,.ref 141),("TooManyWords",366,.ref 160),("RoundOn",389,.ref 179)] 18
def o14:OO:=oX (xs0.take 27)
def o20:OO:=oP (.builtin "type.__prepare__") (.type "type")
def o34:OO:=oY "HeapError" [v5] [(.ref 45),v5,v6,v7,v1] 44 [(.ref 65),(.ref 84),(.ref 103),(.ref 122),(.ref 141),(.ref 160),(.ref 179)] (.some (.ref 22)) 196 204 v8
def o38:OO:=oT [(.ref 45)]
def Lg:OO:=oD (ap [("__name__",165,.str "stillheap.lastwords" 754),("__doc__",166,.none),("__package__",167,.none),("__loader__",168,.builtin "__main__.__loader__#opaque"),("__spec__",169,.none),("__annotations__",170,.ref 6),("__builtins__",171,.ref 4),("__file__",173,.str "/claim/cut.py" 172),("__cached__",174,.none),("_wall",193,.ref 21),("HeapError",228,.ref 45),("BadHand",251,.ref 65),("BadName",274,.ref 84),("BadField",297,.ref 103),("BadCount",320,.ref 122),("NoRoom",343,.ref 141),("TooManyWords",366,.ref 160),("RoundOn",389,.ref 179),("NoRound",412,.ref 198),("BadView",435,.ref 217),("HANDS",439,.int 8 438),("WEAK_NAMES",441,.int 8 440),("MOST_FIELDS",443,.int 6 442),("LEAST_ROOM",445,.int 7 444),("MOST_YOUNG",447,.int 64 446),("MOST_LIMIT",449,.int 400 448),("number_value",456,.ref 226),("thing_value",463,.ref 233)] [("kind_of",470,.ref 240),("words_of",477,.ref 247),("look_at_number",484,.ref 254),("look_at_hand",491,.ref 261),("look_at_name",498,.ref 268),("look_at_field",506,.ref 275),("look_at_limits",514,.ref 282),("view_of",522,.ref 287),("thing_in",529,.ref 294),("look_at_view",538,.ref 301),("look_at_told",547,.ref 308),("last_steps",559,.ref 315),("reach_paper",567,.ref 320),("paper_judged",577,.ref 327),("closed_in",583,.ref 332),("tells_within",589,.ref 337),("is_step",600,.ref 344),("tells_at",609,.ref 351),("round_paper",621,.ref 358),("round_judged",631,.ref 365),("rooted_view",641,.ref 372),("things_without",647,.ref 377),("Hands",753,.ref 457),("MOST_BEARERS",757,.int 12 756)]) 52
def Lh:OO:=oX (xs0.take 108)
def Li:OO:=oD (ap [("__name__",165,.str "stillheap.ideal" 1079),("__doc__",166,.none),("__package__",167,.none),("__loader__",168,.builtin "__main__.__loader__#opaque"),("__spec__",169,.none),("__annotations__",170,.ref 6),("__builtins__",171,.ref 4),("__file__",173,.str "/claim/cut.py" 172),("__cached__",174,.none),("_wall",193,.ref 21),("HeapError",228,.ref 45),("BadHand",251,.ref 65),("BadName",274,.ref 84),("BadField",297,.ref 103),("BadCount",320,.ref 122),("NoRoom",343,.ref 141),("TooManyWords",366,.ref 160),("RoundOn",389,.ref 179),("NoRound",412,.ref 198),("BadView",435,.ref 217),("HANDS",439,.int 8 438),("WEAK_NAMES",441,.int 8 440),("MOST_FIELDS",443,.int 6 442),("LEAST_ROOM",445,.int 7 444),("MOST_YOUNG",447,.int 64 446),("MOST_LIMIT",449,.int 400 448),("number_value",456,.ref 226),("thing_value",463,.ref 233)] [("kind_of",470,.ref 240),("words_of",477,.ref 247),("look_at_number",484,.ref 254),("look_at_hand",491,.ref 261),("look_at_name",498,.ref 268),("look_at_field",506,.ref 275),("look_at_limits",514,.ref 282),("view_of",522,.ref 287),("thing_in",529,.ref 294),("look_at_view",538,.ref 301),("look_at_told",547,.ref 308),("last_steps",559,.ref 315),("reach_paper",567,.ref 320),("paper_judged",577,.ref 327),("closed_in",583,.ref 332),("tells_within",589,.ref 337),("is_step",600,.ref 344),("tells_at",609,.ref 351),("round_paper",621,.ref 358),("round_judged",631,.ref 365),("rooted_view",641,.ref 372),("things_without",647,.ref 377),("Hands",753,.ref 457),("MOST_BEARERS",757,.int 12 756),("WordTable",833,.ref 520),("NameTable",893,.ref 567),("Heap",1070,.ref 694),("thing_among",1078,.ref 705)]) 56
def Lj:OO:=oX (xs0.take 120)
def Lk:OO:=oY "Heap" [v1] [(.ref 694),v1] 693 [] none 896 904 v14
def hl0:List OO:=[oD (ap [("__name__",1,.str "builtins" 160),("__doc__",2,.builtin "builtins.__doc__:str#opaque"),("__package__",3,.builtin "builtins.__package__:str#opaque"),("__loader__",4,.builtin "builtins.__loader__:shared#opaque"),("__spec__",5,.builtin "builtins.__spec__#opaque")] (ap (zB ["__build_class__","__import__","abs","all","any","ascii","bin","breakpoint","callable","chr","compile","delattr","dir","divmod","eval","exec","format","getattr","globals","hasattr","hash","hex","id","input","isinstance","issubclass","iter","aiter","len","locals","max","min","next","anext","oct","ord","pow","print","repr","round","setattr","sorted","sum","vars"] 6) (ap [("None",50,.none),("Ellipsis",51,.ellipsis),("NotImplemented",52,.notImplemented),("False",53,.bool false),("True",54,.bool true)] (ap (zT ["bool","memoryview","bytearray","bytes","classmethod","complex","dict","enumerate","filter","float","frozenset","property","int","list","map","object","range","reversed","set","slice","staticmethod","str","super","tuple","type","zip"] 55) (ap [("__debug__",81,.bool true)] (ap (zT ["BaseException","BaseExceptionGroup","Exception","GeneratorExit","KeyboardInterrupt","SystemExit","ArithmeticError","AssertionError","AttributeError","BufferError","EOFError","ImportError","LookupError","MemoryError","NameError","OSError","ReferenceError","RuntimeError","StopAsyncIteration","StopIteration","SyntaxError","SystemError","TypeError","ValueError","Warning","FloatingPointError","OverflowError","ZeroDivisionError","BytesWarning","DeprecationWarning","EncodingWarning","FutureWarning","ImportWarning","PendingDeprecationWarning","ResourceWarning","RuntimeWarning","SyntaxWarning","UnicodeWarning","UserWarning","BlockingIOError","ChildProcessError","ConnectionError","FileExistsError","FileNotFoundError","InterruptedError","IsADirectoryError","NotADirectoryError","PermissionError","ProcessLookupError","TimeoutError","IndentationError","_IncompleteInputError","IndexError","KeyError","ModuleNotFoundError","NotImplementedError","PythonFinalizationError","RecursionError","UnboundLocalError","UnicodeError"] 82) (ap (zT ["BrokenPipeError","ConnectionAbortedError","ConnectionRefusedError","ConnectionResetError","TabError","UnicodeDecodeError","UnicodeEncodeError","UnicodeTranslateError","ExceptionGroup"] 142) [("EnvironmentError",151,.type "OSError"),("IOError",152,.type "OSError"),("open",153,.builtin "open"),("quit",154,.builtin "builtins.quit#opaque"),("exit",155,.builtin "builtins.exit#opaque"),("copyright",156,.builtin "builtins.copyright#opaque"),("credits",157,.builtin "builtins.credits#opaque"),("license",158,.builtin "builtins.license#opaque"),("help",159,.builtin "builtins.help#opaque")]))))))) 159,oD [("builtins",162,.ref 4),("__main__",163,.ref 5)] 2,λ_=>⟨.none,none,(.dict #[] 0),#[]⟩,oD (ap [("__name__",165,.str "law_stillheap_k72_whole_just_these_went" 1284),("__doc__",166,.none),("__package__",167,.none),("__loader__",168,.builtin "__main__.__loader__#opaque"),("__spec__",169,.none),("__annotations__",170,.ref 6),("__builtins__",171,.ref 4),("__file__",173,.str "/claim/cut.py" 172),("__cached__",174,.none),("_wall",193,.ref 21),("HeapError",228,.ref 45),("BadHand",251,.ref 65),("BadName",274,.ref 84),("BadField",297,.ref 103),("BadCount",320,.ref 122),("NoRoom",343,.ref 141),("TooManyWords",366,.ref 160),("RoundOn",389,.ref 179),("NoRound",412,.ref 198),("BadView",435,.ref 217),("HANDS",439,.int 8 438),("WEAK_NAMES",441,.int 8 440),("MOST_FIELDS",443,.int 6 442),("LEAST_ROOM",445,.int 7 444),("MOST_YOUNG",447,.int 64 446),("MOST_LIMIT",449,.int 400 448),("number_value",456,.ref 226),("thing_value",463,.ref 233)] (ap [("kind_of",470,.ref 240),("words_of",477,.ref 247),("look_at_number",484,.ref 254),("look_at_hand",491,.ref 261),("look_at_name",498,.ref 268),("look_at_field",506,.ref 275),("look_at_limits",514,.ref 282),("view_of",522,.ref 287),("thing_in",529,.ref 294),("look_at_view",538,.ref 301),("look_at_told",547,.ref 308),("last_steps",559,.ref 315),("reach_paper",567,.ref 320),("paper_judged",577,.ref 327),("closed_in",583,.ref 332),("tells_within",589,.ref 337),("is_step",600,.ref 344),("tells_at",609,.ref 351),("round_paper",621,.ref 358),("round_judged",631,.ref 365),("rooted_view",641,.ref 372),("things_without",647,.ref 377),("Hands",753,.ref 457),("MOST_BEARERS",757,.int 12 756),("WordTable",833,.ref 520),("NameTable",893,.ref 567),("Heap",1070,.ref 694),("thing_among",1078,.ref 705)] [("IdealHeap",1283,.ref 876),("_law_codes",1299,.ref 885),("_law_done",1311,.ref 892),("_law_tried",1320,.ref 899),("_law_read",1330,.ref 906),("_law_wrong_told",1336,.ref 911),("law",1342,.ref 916)])) 63,λ_=>⟨(.type "module"),(.some 0),.plain,#[]⟩,λ_=>⟨(.type "module"),(.some 3),.plain,#[]⟩,λ_=>⟨(.type "dict"),none,(.dict #[] 0),#[]⟩,o7,o8,oM "<module>" 176 1 7 175 8 179 180,oR 9 3 3 v22,o7,oX (xs0.take 141),oM "<module>" 182 1 11 181 12 185 186,oR 13 3 3 v22,o7,o8,oT (oS ["k"] 190),o7,oG fn0,oC fn0 187 1 1 0 0 3 15 181 16 17 18 19 191 192,oF fn0 v22 20,oT [v5],o20]
def hl1:List OO:=[oD [("__module__",203,.str "stillheap.errors" 194),("__qualname__",205,.str "HeapError" 204),("__firstlineno__",207,.int 5 206),("__init__",215,.ref 35),("called",222,.ref 42),("__static_attributes__",223,.ref 43)] 6,o7,oX [7,4,34,10,4,41],oM "HeapError" 198 5 25 181 26 201 202,oR 27 3 24 v2,o7,o8,oT (oS ["self","text"] 211),o7,oG fn1,oC fn1 208 7 2 0 0 3 29 181 30 31 32 33 213 214,oF fn1 v2 34,o7,o8,oT (oS ["self"] 219),o7,oG fn2,oC fn2 216 10 1 0 0 3 36 181 37 38 39 40 220 221,oF fn2 v2 41,o7,oD [("__module__",203,.str "stillheap.errors" 194),("__firstlineno__",207,.int 5 206),("__init__",215,.ref 35),("called",222,.ref 42),("__static_attributes__",223,.ref 43),("__weakref__",225,.ref 46),("__doc__",226,.none)] 3,oY "HeapError" [v5] [(.ref 45),v5,v6,v7,v1] 44 [(.ref 65),(.ref 84),(.ref 103),(.ref 122),(.ref 141),(.ref 160),(.ref 179),(.ref 198),(.ref 217)] (.some (.ref 22)) 196 204 v8,λ_=>⟨v10,none,(.fields (List.toArray [(.str "__weakref__" 224),(.ref 45),v17,.none])),#[]⟩,oU 45]
def hl2:List OO:=[oP v4 (.ref 45),o38,o20,oD [("__module__",236,.str "stillheap.errors" 194),("__qualname__",238,.str "BadHand" 237),("__firstlineno__",240,.int 12 239),("called",247,.ref 62),("__static_attributes__",248,.ref 63)] 5,o7,oX [14,4,61],oM "BadHand" 231 12 52 181 53 234 235,oR 54 3 51 v2,o7,o8,oT (oS ["self"] 244),o7,oG fn3,oC fn3 241 14 1 0 0 3 56 181 57 58 59 60 245 246,oF fn3 v2 61,o7,oD [("__module__",236,.str "stillheap.errors" 194),("__firstlineno__",240,.int 12 239),("called",247,.ref 62),("__static_attributes__",248,.ref 63),("__doc__",249,.none)] 2,oY "BadHand" [(.ref 45)] [(.ref 65),(.ref 45),v5,v6,v7,v1] 64 [] (.some (.ref 49)) 229 237 v8,oU 65,oP v4 (.ref 65),o38,o20,oD [("__module__",259,.str "stillheap.errors" 194),("__qualname__",261,.str "BadName" 260),("__firstlineno__",263,.int 16 262),("called",270,.ref 81),("__static_attributes__",271,.ref 82)] 5,o7]
def hl3:List OO:=[oX [18,4,80],oM "BadName" 254 16 71 181 72 257 258,oR 73 3 70 v2,o7,o8,oT (oS ["self"] 267),o7,oG fn4,oC fn4 264 18 1 0 0 3 75 181 76 77 78 79 268 269,oF fn4 v2 80,o7,oD [("__module__",259,.str "stillheap.errors" 194),("__firstlineno__",263,.int 16 262),("called",270,.ref 81),("__static_attributes__",271,.ref 82),("__doc__",272,.none)] 2,oY "BadName" [(.ref 45)] [(.ref 84),(.ref 45),v5,v6,v7,v1] 83 [] (.some (.ref 68)) 252 260 v8,oU 84,oP v4 (.ref 84),o38,o20,oD [("__module__",282,.str "stillheap.errors" 194),("__qualname__",284,.str "BadField" 283),("__firstlineno__",286,.int 20 285),("called",293,.ref 100),("__static_attributes__",294,.ref 101)] 5,o7,oX [22,4,99],oM "BadField" 277 20 90 181 91 280 281,oR 92 3 89 v2,o7,o8]
def hl4:List OO:=[oT (oS ["self"] 290),o7,oG fn5,oC fn5 287 22 1 0 0 3 94 181 95 96 97 98 291 292,oF fn5 v2 99,o7,oD [("__module__",282,.str "stillheap.errors" 194),("__firstlineno__",286,.int 20 285),("called",293,.ref 100),("__static_attributes__",294,.ref 101),("__doc__",295,.none)] 2,oY "BadField" [(.ref 45)] [(.ref 103),(.ref 45),v5,v6,v7,v1] 102 [] (.some (.ref 87)) 275 283 v8,oU 103,oP v4 (.ref 103),o38,o20,oD [("__module__",305,.str "stillheap.errors" 194),("__qualname__",307,.str "BadCount" 306),("__firstlineno__",309,.int 24 308),("called",316,.ref 119),("__static_attributes__",317,.ref 120)] 5,o7,oX [26,4,118],oM "BadCount" 300 24 109 181 110 303 304,oR 111 3 108 v2,o7,o8,oT (oS ["self"] 313),o7,oG fn6,oC fn6 310 26 1 0 0 3 113 181 114 115 116 117 314 315,oF fn6 v2 118]
def hl5:List OO:=[o7,oD [("__module__",305,.str "stillheap.errors" 194),("__firstlineno__",309,.int 24 308),("called",316,.ref 119),("__static_attributes__",317,.ref 120),("__doc__",318,.none)] 2,oY "BadCount" [(.ref 45)] [(.ref 122),(.ref 45),v5,v6,v7,v1] 121 [] (.some (.ref 106)) 298 306 v8,oU 122,oP v4 (.ref 122),o38,o20,oD [("__module__",328,.str "stillheap.errors" 194),("__qualname__",330,.str "NoRoom" 329),("__firstlineno__",332,.int 28 331),("called",339,.ref 138),("__static_attributes__",340,.ref 139)] 5,o7,oX [30,4,137],oM "NoRoom" 323 28 128 181 129 326 327,oR 130 3 127 v2,o7,o8,oT (oS ["self"] 336),o7,oG fn7,oC fn7 333 30 1 0 0 3 132 181 133 134 135 136 337 338,oF fn7 v2 137,o7,oD [("__module__",328,.str "stillheap.errors" 194),("__firstlineno__",332,.int 28 331),("called",339,.ref 138),("__static_attributes__",340,.ref 139),("__doc__",341,.none)] 2,oY "NoRoom" [(.ref 45)] [(.ref 141),(.ref 45),v5,v6,v7,v1] 140 [] (.some (.ref 125)) 321 329 v8,oU 141,oP v4 (.ref 141)]
def hl6:List OO:=[o38,o20,oD [("__module__",351,.str "stillheap.errors" 194),("__qualname__",353,.str "TooManyWords" 352),("__firstlineno__",355,.int 32 354),("called",362,.ref 157),("__static_attributes__",363,.ref 158)] 5,o7,oX [34,4,156],oM "TooManyWords" 346 32 147 181 148 349 350,oR 149 3 146 v2,o7,o8,oT (oS ["self"] 359),o7,oG fn8,oC fn8 356 34 1 0 0 3 151 181 152 153 154 155 360 361,oF fn8 v2 156,o7,oD [("__module__",351,.str "stillheap.errors" 194),("__firstlineno__",355,.int 32 354),("called",362,.ref 157),("__static_attributes__",363,.ref 158),("__doc__",364,.none)] 2,oY "TooManyWords" [(.ref 45)] [(.ref 160),(.ref 45),v5,v6,v7,v1] 159 [] (.some (.ref 144)) 344 352 v8,oU 160,oP v4 (.ref 160),o38,o20,oD [("__module__",374,.str "stillheap.errors" 194),("__qualname__",376,.str "RoundOn" 375),("__firstlineno__",378,.int 36 377),("called",385,.ref 176),("__static_attributes__",386,.ref 177)] 5,o7,oX [38,4,175]]
def hl7:List OO:=[oM "RoundOn" 369 36 166 181 167 372 373,oR 168 3 165 v2,o7,o8,oT (oS ["self"] 382),o7,oG fn9,oC fn9 379 38 1 0 0 3 170 181 171 172 173 174 383 384,oF fn9 v2 175,o7,oD [("__module__",374,.str "stillheap.errors" 194),("__firstlineno__",378,.int 36 377),("called",385,.ref 176),("__static_attributes__",386,.ref 177),("__doc__",387,.none)] 2,oY "RoundOn" [(.ref 45)] [(.ref 179),(.ref 45),v5,v6,v7,v1] 178 [] (.some (.ref 163)) 367 375 v8,oU 179,oP v4 (.ref 179),o38,o20,oD [("__module__",397,.str "stillheap.errors" 194),("__qualname__",399,.str "NoRound" 398),("__firstlineno__",401,.int 40 400),("called",408,.ref 195),("__static_attributes__",409,.ref 196)] 5,o7,oX [42,4,194],oM "NoRound" 392 40 185 181 186 395 396,oR 187 3 184 v2,o7,o8,oT (oS ["self"] 405)]
def hl8:List OO:=[o7,oG FY,oC FY 402 42 1 0 0 3 189 181 190 191 192 193 406 407,oF FY v2 194,o7,oD [("__module__",397,.str "stillheap.errors" 194),("__firstlineno__",401,.int 40 400),("called",408,.ref 195),("__static_attributes__",409,.ref 196),("__doc__",410,.none)] 2,oY "NoRound" [(.ref 45)] [(.ref 198),(.ref 45),v5,v6,v7,v1] 197 [] (.some (.ref 182)) 390 398 v8,oU 198,oP v4 (.ref 198),o38,o20,oD [("__module__",420,.str "stillheap.errors" 194),("__qualname__",422,.str "BadView" 421),("__firstlineno__",424,.int 44 423),("called",431,.ref 214),("__static_attributes__",432,.ref 215)] 5,o7,oX [46,4,213],oM "BadView" 415 44 204 181 205 418 419,oR 206 3 203 v2,o7,o8,oT (oS ["self"] 428),o7,oG FZ,oC FZ 425 46 1 0 0 3 208 181 209 210 211 212 429 430,oF FZ v2 213,o7]
def hl9:List OO:=[oD [("__module__",420,.str "stillheap.errors" 194),("__firstlineno__",424,.int 44 423),("called",431,.ref 214),("__static_attributes__",432,.ref 215),("__doc__",433,.none)] 2,oY "BadView" [(.ref 45)] [(.ref 217),(.ref 45),v5,v6,v7,v1] 216 [] (.some (.ref 201)) 413 421 v8,oU 217,oP v4 (.ref 217),o7,o8,oT (oS ["x"] 453),o7,oG F5,oC F5 450 55 1 0 0 3 220 181 221 222 223 224 454 455,oF F5 v11 225,o7,o8,oT (oS ["t"] 460),o7,oG F6,oC F6 457 58 1 0 0 3 227 181 228 229 230 231 461 462,oF F6 v11 232,o7,o8,oT (oS ["value"] 467),o7,oG F7,oC F7 464 62 1 0 0 3 234 181 235 236 237 238 468 469]
def Ll:List OO:=[oF F7 v11 239,o7,o8,oT (oS ["fields"] 474),o7,oG F8,oC F8 471 64 1 0 0 3 241 181 242 243 244 245 475 476,oF F8 v11 246,o7,o8,oT (oS ["x"] 481),o7,oG F9,oC F9 478 68 1 0 0 3 248 181 249 250 251 252 482 483,oF F9 v11 253,o7,o8,oT (oS ["h"] 488),o7,oG Ga,oC Ga 485 71 1 0 0 3 255 181 256 257 258 259 489 490,oF Ga v11 260,o7,o8]
def Lm:List OO:=[oT (oS ["w"] 495),o7,oG Ge,oC Ge 492 74 1 0 0 3 262 181 263 264 265 266 496 497,oF Ge v11 267,o7,o8,oT (oS ["k","fields"] 502),o7,oG Gf,oC Gf 499 77 2 0 0 3 269 181 270 271 272 273 504 505,oF Gf v11 274,o7,o8,oT (oS ["young","limit"] 510),o7,oG Gg,oC Gg 507 80 2 0 0 3 276 181 277 278 279 280 512 513,oF Gg v11 281,o7,o8,oG Gh,oN Gh 517 86 1 0 0 3 283 181 284 285 520 521,oF Gh v18 286]
def Ln:List OO:=[o7,o8,oT (oS ["value"] 526),o7,oG Gi,oC Gi 523 91 1 0 0 3 288 181 289 290 291 292 527 528,oF Gi v18 293,o7,o8,oT (oS ["view","fields","t"] 533),o7,oG Gj,oC Gj 530 93 1 0 0 3 295 181 296 297 298 299 536 537,oF Gj v18 300,o7,o8,oT (oS ["told","fields","t"] 542),o7,oG Gk,oC Gk 539 100 2 0 0 3 302 181 303 304 305 306 545 546,oF Gk v18 307,o7,o8,oT (oS ["view","steps","place","thing","met","done"] 551)]
def Lo:List OO:=[o7,oG Gm,oC Gm 548 104 1 0 0 3 309 181 310 311 312 313 557 558,oF Gm v18 314,o7,o8,oG Gp,oN Gp 562 119 1 0 0 3 316 181 317 318 565 566,oF Gp v13 319,o7,o8,oT (oS ["view","triples","ahead","triple"] 571),o7,oG Gq,oC Gq 568 123 2 0 0 3 321 181 322 323 324 325 575 576,oF Gq v13 326,o7,o8,oG Gr,oN Gr 578 131 2 0 0 3 328 181 329 330 581 582,oF Gr v13 331,o7,o8,oG Gu]
def Lp:List OO:=[oN Gu 584 141 2 0 0 3 333 181 334 335 587 588,oF Gu v13 336,o7,o8,oT (oS ["view","ahead","triple","thing","origin"] 593),o7,oG Gv,oC Gv 590 143 3 0 0 3 338 181 339 340 341 342 598 599,oF Gv v13 343,o7,o8,oT (oS ["told","place","thing"] 604),o7,oG Gw,oC Gw 601 151 3 0 0 3 345 181 346 347 348 349 607 608,oF Gw v13 350,o7,o8,oT (oS ["view","read","rooted","triples"] 615),o7,oG Gx,oC Gx 612 154 2 0 0 3 352 181 353 354 355 356 619 620,oF Gx v19 357,o7]
def Lq:List OO:=[o8,oT (oS ["view","read","paper","rooted"] 625),o7,oG Gy,oC Gy 622 158 3 0 0 3 359 181 360 361 362 363 629 630,oF Gy v19 364,o7,o8,oT (oS ["view","read","given_back","thing"] 635),o7,oG Gz,oC Gz 632 161 2 0 0 3 366 181 367 368 369 370 639 640,oF Gz v19 371,o7,o8,oG GA,oN GA 642 166 2 0 0 3 373 181 374 375 645 646,oF GA v19 376,o7,o20,oD [("__module__",657,.str "stillheap.hands" 648),("__qualname__",659,.str "Hands" 658),("__firstlineno__",661,.int 172 660),("__init__",668,.ref 391),("word_in",676,.ref 398),("all_words",683,.ref 405),("put",692,.ref 412),("copy",701,.ref 419),("number",710,.ref 426),("kind",719,.ref 433),("value",727,.ref 440),("same",736,.ref 447),("thing_due",744,.ref 454),("__static_attributes__",746,.ref 455)] 14,o7,oX [174,4,390,177,4,397,181,4,404,184,4,411,188,4,418,192,4,425,196,4,432,200,4,439,205,4,446,208,4,453],oM "Hands" 652 172 381 181 382 655 656]
def Lr:List OO:=[oR 383 3 380 v9,o7,o8,oT (oS ["self"] 665),o7,oG GB,oC GB 662 174 1 0 0 3 385 181 386 387 388 389 666 667,oF GB v9 390,o7,o8,oT (oS ["self","h"] 672),o7,oG GC,oC GC 669 177 2 0 0 3 392 181 393 394 395 396 674 675,oF GC v9 397,o7,o8,oT (oS ["self"] 680),o7,oG GD,oC GD 677 181 1 0 0 3 399 181 400 401 402 403 681 682,oF GD v9 404,o7,o8]
def Ls:List OO:=[oT (oS ["self","h","word"] 687),o7,oG GF,oC GF 684 184 3 0 0 3 406 181 407 408 409 410 690 691,oF GF v9 411,o7,o8,oT (oS ["self","h","g"] 696),o7,oG GG,oC GG 693 188 3 0 0 3 413 181 414 415 416 417 699 700,oF GG v9 418,o7,o8,oT (oS ["self","h","x"] 705),o7,oG GH,oC GH 702 192 3 0 0 3 420 181 421 422 423 424 708 709,oF GH v9 425,o7,o8,oT (oS ["self","h","kind"] 714),o7,oG GK]
def Lu:List OO:=[oC GK 711 196 2 0 0 3 427 181 428 429 430 431 717 718,oF GK v9 432,o7,o8,oT (oS ["self","h"] 723),o7,oG GN,oC GN 720 200 2 0 0 3 434 181 435 436 437 438 725 726,oF GN v9 439,o7,o8,oT (oS ["self","h","g"] 731),o7,oG GO,oC GO 728 205 3 0 0 3 441 181 442 443 444 445 734 735,oF GO v9 446,o7,o8,oT (oS ["self","h"] 740),o7,oG GP,oC GP 737 208 2 0 0 3 448 181 449 450 451 452 742 743,oF GP v9 453,oT (oS ["words_held"] 745)]
def Lv:List OO:=[oD [("__module__",657,.str "stillheap.hands" 648),("__firstlineno__",661,.int 172 660),("__init__",668,.ref 391),("word_in",676,.ref 398),("all_words",683,.ref 405),("put",692,.ref 412),("copy",701,.ref 419),("number",710,.ref 426),("kind",719,.ref 433),("value",727,.ref 440),("same",736,.ref 447),("thing_due",744,.ref 454),("__static_attributes__",746,.ref 455),("__dict__",748,.ref 458),("__weakref__",750,.ref 459),("__doc__",751,.none)] 4,oY "Hands" [v1] [(.ref 457),v1] 456 [] none 650 658 v14,λ_=>⟨v10,none,(.fields (List.toArray [(.str "__dict__" 747),(.ref 457),v20,v21])),#[]⟩,λ_=>⟨v10,none,(.fields (List.toArray [(.str "__weakref__" 749),(.ref 457),v17,.none])),#[]⟩,oU 457,oP v4 (.ref 457),o7,o20,oD [("__module__",765,.str "stillheap.lastwords" 754),("__qualname__",767,.str "WordTable" 766),("__firstlineno__",769,.int 214 768),("__init__",776,.ref 475),("bear",785,.ref 482),("word_of",793,.ref 489),("bearers",800,.ref 496),("settle",809,.ref 503),("take",816,.ref 510),("said",823,.ref 517),("__static_attributes__",826,.ref 518)] 11,o7,oX [216,4,474,220,4,481,225,4,488,228,4,495,231,4,502,236,4,509,239,4,516],oM "WordTable" 760 214 465 181 466 763 764,oR 467 3 464 v12,o7,o8,oT (oS ["self"] 773),o7,oG GQ,oC GQ 770 216 1 0 0 3 469 181 470 471 472 473 774 775,oF GQ v12 474,o7,o8,oT (oS ["self","t","x"] 780),o7]
def Lw:List OO:=[oG GU,oC GU 777 220 3 0 0 3 476 181 477 478 479 480 783 784,oF GU v12 481,o7,o8,oT (oS ["self","t"] 789),o7,oG GV,oC GV 786 225 2 0 0 3 483 181 484 485 486 487 791 792,oF GV v12 488,o7,o8,oT (oS ["self"] 797),o7,oG GX,oC GX 794 228 1 0 0 3 490 181 491 492 493 494 798 799,oF GX v12 495,o7,o8,oT (oS ["self","things","t"] 804),o7,oG GY,oC GY 801 231 2 0 0 3 497 181 498 499 500 501 807 808,oF GY v12 502]
def Lx:List OO:=[o7,o8,oT (oS ["self"] 813),o7,oG GZ,oC GZ 810 236 1 0 0 3 504 181 505 506 507 508 814 815,oF GZ v12 509,o7,o8,oT (oS ["self"] 820),o7,oG G0,oC G0 817 239 1 0 0 3 511 181 512 513 514 515 821 822,oF G0 v12 516,oT (oS ["words_borne","words_said"] 824),oD [("__module__",765,.str "stillheap.lastwords" 754),("__firstlineno__",769,.int 214 768),("__init__",776,.ref 475),("bear",785,.ref 482),("word_of",793,.ref 489),("bearers",800,.ref 496),("settle",809,.ref 503),("take",816,.ref 510),("said",823,.ref 517),("__static_attributes__",826,.ref 518),("__dict__",828,.ref 521),("__weakref__",830,.ref 522),("__doc__",831,.none)] 4,oY "WordTable" [v1] [(.ref 520),v1] 519 [] none 758 766 v14,λ_=>⟨v10,none,(.fields (List.toArray [(.str "__dict__" 827),(.ref 520),v20,v21])),#[]⟩,λ_=>⟨v10,none,(.fields (List.toArray [(.str "__weakref__" 829),(.ref 520),v17,.none])),#[]⟩,oU 520,oP v4 (.ref 520),o7,o20,oD [("__module__",843,.str "stillheap.weaknames" 834),("__qualname__",845,.str "NameTable" 844),("__firstlineno__",847,.int 242 846),("__init__",854,.ref 538),("name",863,.ref 545),("named",871,.ref 552),("all_named",878,.ref 559),("settle",884,.ref 564),("__static_attributes__",886,.ref 565)] 9]
def Ly:List OO:=[o7,oX [244,4,537,247,4,544,251,4,551,255,4,558,258,4,563],oM "NameTable" 838 242 528 181 529 841 842,oR 530 3 527 v15,o7,o8,oT (oS ["self"] 851),o7,oG G4,oC G4 848 244 1 0 0 3 532 181 533 534 535 536 852 853,oF G4 v15 537,o7,o8,oT (oS ["self","w","t"] 858),o7,oG G5,oC G5 855 247 3 0 0 3 539 181 540 541 542 543 861 862,oF G5 v15 544,o7,o8,oT (oS ["self","w"] 867),o7,oG G6,oC G6 864 251 2 0 0 3 546 181 547 548 549 550 869 870]
def Lz:List OO:=[oF G6 v15 551,o7,o8,oT (oS ["self"] 875),o7,oG G7,oC G7 872 255 1 0 0 3 553 181 554 555 556 557 876 877,oF G7 v15 558,o7,o8,oG G9,oN G9 879 258 2 0 0 3 560 181 561 562 882 883,oF G9 v15 563,oT (oS ["things_named"] 885),oD [("__module__",843,.str "stillheap.weaknames" 834),("__firstlineno__",847,.int 242 846),("__init__",854,.ref 538),("name",863,.ref 545),("named",871,.ref 552),("all_named",878,.ref 559),("settle",884,.ref 564),("__static_attributes__",886,.ref 565),("__dict__",888,.ref 568),("__weakref__",890,.ref 569),("__doc__",891,.none)] 4,oY "NameTable" [v1] [(.ref 567),v1] 566 [] none 836 844 v14,λ_=>⟨v10,none,(.fields (List.toArray [(.str "__dict__" 887),(.ref 567),v20,v21])),#[]⟩,λ_=>⟨v10,none,(.fields (List.toArray [(.str "__weakref__" 889),(.ref 567),v17,.none])),#[]⟩,oU 567,oP v4 (.ref 567),o7,o20,oD [("__module__",903,.str "stillheap.heaps" 894),("__qualname__",905,.str "Heap" 904),("__firstlineno__",907,.int 261 906),("__init__",915,.ref 585),("add_thing",925,.ref 592),("load",936,.ref 599),("store",948,.ref 606),("copy",957,.ref 613),("drop",965,.ref 620),("number",974,.ref 627),("name",984,.ref 634),("read_thing",994,.ref 641),("word",1004,.ref 648),("small_round",1010,.ref 653),("let_go",1019,.ref 660),("look_at_held",1027,.ref 667),("field_value",1036,.ref 674),("counts_held",1043,.ref 681),("words_among",1049,.ref 686),("led_among",1055,.ref 691),("__static_attributes__",1063,.ref 692)] 21,o7]
def LA:List OO:=[oX [263,4,584,272,4,591,280,4,598,286,4,605,292,4,612,295,4,619,298,4,626,301,4,633,305,4,640,311,4,647,316,4,652,327,4,659,333,4,666,337,4,673,340,4,680,343,4,685,346,4,690],oM "Heap" 898 261 575 181 576 901 902,oR 577 3 574 v3,o7,o8,oT (oS ["self","makes_young"] 911),o7,oG He,oC He 908 263 2 0 0 3 579 181 580 581 582 583 913 914,oF He v3 584,o7,o8,oT (oS ["self","h","n","t"] 919),o7,oG Hg,oC Hg 916 272 3 0 0 3 586 181 587 588 589 590 923 924,oF Hg v3 591,o7,o8,oT (oS ["self","h","g","k","fields"] 929),o7,oG Hh,oC Hh 926 280 4 0 0 3 593 181 594 595 596 597 934 935,oF Hh v3 598]
def LB:List OO:=[o7,o8,oT (oS ["self","g","k","h","fields","value"] 940),o7,oG Hi,oC Hi 937 286 4 0 0 3 600 181 601 602 603 604 946 947,oF Hi v3 605,o7,o8,oT (oS ["self","h","g"] 952),o7,oG Hj,oC Hj 949 292 3 0 0 3 607 181 608 609 610 611 955 956,oF Hj v3 612,o7,o8,oT (oS ["self","h"] 961),o7,oG Hk,oC Hk 958 295 2 0 0 3 614 181 615 616 617 618 963 964,oF Hk v3 619,o7,o8,oT (oS ["self","h","x"] 969)]
def LC:List OO:=[o7,oG Hl,oC Hl 966 298 3 0 0 3 621 181 622 623 624 625 972 973,oF Hl v3 626,o7,o8,oT (oS ["self","w","h","t"] 978),o7,oG Hm,oC Hm 975 301 3 0 0 3 628 181 629 630 631 632 982 983,oF Hm v3 633,o7,o8,oT (oS ["self","h","w","t"] 988),o7,oG Ho,oC Ho 985 305 3 0 0 3 635 181 636 637 638 639 992 993,oF Ho v3 640,o7,o8,oT (oS ["self","h","x","t"] 998),o7,oG Hq,oC Hq 995 311 3 0 0 3 642 181 643 644 645 646 1002 1003]
def LD:List OO:=[oF Hq v3 647,o7,o8,oG Hr,oN Hr 1005 316 1 0 0 3 649 181 650 651 1008 1009,oF Hr v3 652,o7,o8,oT (oS ["self","gone","t"] 1014),o7,oG Ht,oC Ht 1011 327 2 0 0 3 654 181 655 656 657 658 1017 1018,oF Ht v3 659,o7,o8,oT (oS ["self","t"] 1023),o7,oG Hu,oC Hu 1020 333 2 0 0 3 661 181 662 663 664 665 1025 1026,oF Hu v3 666,o7,o8,oT (oS ["self","t","k"] 1031),o7]
def LF:List OO:=[oG Hv,oC Hv 1028 337 3 0 0 3 668 181 669 670 671 672 1034 1035,oF Hv v3 673,o7,o8,oT (oS ["self"] 1040),o7,oG Hw,oC Hw 1037 340 1 0 0 3 675 181 676 677 678 679 1041 1042,oF Hw v3 680,o7,o8,oG HB,oN HB 1044 343 2 0 0 3 682 181 683 684 1047 1048,oF HB v3 685,o7,o8,oG HC,oN HC 1050 346 3 0 0 3 687 181 688 689 1053 1054,oF HC v3 690,oT (oS ["fields_held","in_hands","last_words","makes_young","next_thing","weak_names","young_things"] 1056),oD [("__module__",903,.str "stillheap.heaps" 894),("__firstlineno__",907,.int 261 906),("__init__",915,.ref 585),("add_thing",925,.ref 592),("load",936,.ref 599),("store",948,.ref 606),("copy",957,.ref 613),("drop",965,.ref 620),("number",974,.ref 627),("name",984,.ref 634),("read_thing",994,.ref 641),("word",1004,.ref 648),("small_round",1010,.ref 653),("let_go",1019,.ref 660),("look_at_held",1027,.ref 667),("field_value",1036,.ref 674),("counts_held",1043,.ref 681),("words_among",1049,.ref 686),("led_among",1055,.ref 691),("__static_attributes__",1063,.ref 692),("__dict__",1065,.ref 695),("__weakref__",1067,.ref 696),("__doc__",1068,.none)] 4,oY "Heap" [v1] [(.ref 694),v1] 693 [(.ref 876)] none 896 904 v14,λ_=>⟨v10,none,(.fields (List.toArray [(.str "__dict__" 1064),(.ref 694),v20,v21])),#[]⟩]
def LG:List OO:=[λ_=>⟨v10,none,(.fields (List.toArray [(.str "__weakref__" 1066),(.ref 694),v17,.none])),#[]⟩,oU 694,oP v4 (.ref 694),o7,o8,oT (oS ["value","things"] 1074),o7,oG HD,oC HD 1071 351 2 0 0 3 699 181 700 701 702 703 1076 1077,oF HD v3 704,oT [(.ref 694)],o20,oD [("__module__",1088,.str "stillheap.ideal" 1079),("__qualname__",1090,.str "IdealHeap" 1089),("__firstlineno__",1092,.int 356 1091),("__init__",1101,.ref 719),("make",1111,.ref 726),("read",1121,.ref 733),("take",1128,.ref 740),("kind",1136,.ref 747),("value",1144,.ref 754),("fields",1152,.ref 761),("same",1161,.ref 768),("held",1168,.ref 775),("small",1175,.ref 782),("begin",1184,.ref 789),("end",1192,.ref 796),("round_on",1199,.ref 803),("hands",1206,.ref 810),("names",1213,.ref 817),("things",1220,.ref 824),("fields_of",1228,.ref 831),("is_old",1236,.ref 838),("word_of",1244,.ref 845),("doomed",1251,.ref 852),("said",1258,.ref 859),("made",1265,.ref 866),("spare",1275,.ref 873),("__static_attributes__",1280,.ref 874)] 27,o7,oX [358,4,718,366,4,725,375,4,732,380,4,739,383,4,746,386,4,753,389,4,760,392,4,767,395,4,774,398,4,781,401,4,788,411,4,795,419,4,802,422,4,809,425,4,816,428,4,823,431,4,830,435,4,837,438,4,844,441,4,851,444,4,858,447,4,865,450,4,872],oM "IdealHeap" 1083 356 709 181 710 1086 1087,oR 711 3 708 v0,o7,o8,oT (oS ["self","young","limit"] 1096),o7,oG HE,oC HE 1093 358 3 0 0 3 713 181 714 715 716 717 1099 1100,oF HE v0 718]
def LH:List OO:=[o7,o8,oT (oS ["self","h","n","size"] 1105),o7,oG HF,oC HF 1102 366 3 0 0 3 720 181 721 722 723 724 1109 1110,oF HF v0 725,o7,o8,oT (oS ["self","h","w","t"] 1115),o7,oG HG,oC HG 1112 375 3 0 0 3 727 181 728 729 730 731 1119 1120,oF HG v0 732,o7,o8,oT (oS ["self"] 1125),o7,oG HH,oC HH 1122 380 1 0 0 3 734 181 735 736 737 738 1126 1127,oF HH v0 739,o7,o8,oT (oS ["self","h"] 1132)]
def LI:List OO:=[o7,oG HI,oC HI 1129 383 2 0 0 3 741 181 742 743 744 745 1134 1135,oF HI v0 746,o7,o8,oT (oS ["self","h"] 1140),o7,oG HJ,oC HJ 1137 386 2 0 0 3 748 181 749 750 751 752 1142 1143,oF HJ v0 753,o7,o8,oT (oS ["self","h"] 1148),o7,oG HK,oC HK 1145 389 2 0 0 3 755 181 756 757 758 759 1150 1151,oF HK v0 760,o7,o8,oT (oS ["self","h","g"] 1156),o7,oG HL,oC HL 1153 392 3 0 0 3 762 181 763 764 765 766 1159 1160]
def LJ:List OO:=[oF HL v0 767,o7,o8,oT (oS ["self"] 1165),o7,oG HM,oC HM 1162 395 1 0 0 3 769 181 770 771 772 773 1166 1167,oF HM v0 774,o7,o8,oT (oS ["self"] 1172),o7,oG HN,oC HN 1169 398 1 0 0 3 776 181 777 778 779 780 1173 1174,oF HN v0 781,o7,o8,oT (oS ["self","kept","t"] 1179),o7,oG HP,oC HP 1176 401 1 0 0 3 783 181 784 785 786 787 1182 1183,oF HP v0 788,o7,o8]
def LK:List OO:=[oT (oS ["self","gone"] 1188),o7,oG HQ,oC HQ 1185 411 1 0 0 3 790 181 791 792 793 794 1190 1191,oF HQ v0 795,o7,o8,oT (oS ["self"] 1196),o7,oG HR,oC HR 1193 419 1 0 0 3 797 181 798 799 800 801 1197 1198,oF HR v0 802,o7,o8,oT (oS ["self"] 1203),o7,oG HU,oC HU 1200 422 1 0 0 3 804 181 805 806 807 808 1204 1205,oF HU v0 809,o7,o8,oT (oS ["self"] 1210),o7,oG HV]
def LL:List OO:=[oC HV 1207 425 1 0 0 3 811 181 812 813 814 815 1211 1212,oF HV v0 816,o7,o8,oT (oS ["self"] 1217),o7,oG HW,oC HW 1214 428 1 0 0 3 818 181 819 820 821 822 1218 1219,oF HW v0 823,o7,o8,oT (oS ["self","t"] 1224),o7,oG HX,oC HX 1221 431 2 0 0 3 825 181 826 827 828 829 1226 1227,oF HX v0 830,o7,o8,oT (oS ["self","t"] 1232),o7,oG HY,oC HY 1229 435 2 0 0 3 832 181 833 834 835 836 1234 1235,oF HY v0 837,o7]
def LM:List OO:=[o8,oT (oS ["self","t"] 1240),o7,oG HZ,oC HZ 1237 438 2 0 0 3 839 181 840 841 842 843 1242 1243,oF HZ v0 844,o7,o8,oT (oS ["self"] 1248),o7,oG Ia,oC Ia 1245 441 1 0 0 3 846 181 847 848 849 850 1249 1250,oF Ia v0 851,o7,o8,oT (oS ["self"] 1255),o7,oG Ib,oC Ib 1252 444 1 0 0 3 853 181 854 855 856 857 1256 1257,oF Ib v0 858,o7,o8,oT (oS ["self"] 1262),o7]
def LN:List OO:=[oG Ic,oC Ic 1259 447 1 0 0 3 860 181 861 862 863 864 1263 1264,oF Ic v0 865,o7,o8,oT (oS ["self","t","spared","other"] 1269),o7,oG Ie,oC Ie 1266 450 2 0 0 3 867 181 868 869 870 871 1273 1274,oF Ie v0 872,oT (oS ["doomed_things","in_round","limit","young_room"] 1276),oD [("__module__",1088,.str "stillheap.ideal" 1079),("__firstlineno__",1092,.int 356 1091),("__init__",1101,.ref 719),("make",1111,.ref 726),("read",1121,.ref 733),("take",1128,.ref 740),("kind",1136,.ref 747),("value",1144,.ref 754),("fields",1152,.ref 761),("same",1161,.ref 768),("held",1168,.ref 775),("small",1175,.ref 782),("begin",1184,.ref 789),("end",1192,.ref 796),("round_on",1199,.ref 803),("hands",1206,.ref 810),("names",1213,.ref 817),("things",1220,.ref 824),("fields_of",1228,.ref 831),("is_old",1236,.ref 838),("word_of",1244,.ref 845),("doomed",1251,.ref 852),("said",1258,.ref 859),("made",1265,.ref 866),("spare",1275,.ref 873),("__static_attributes__",1280,.ref 874),("__doc__",1281,.none)] 2,oY "IdealHeap" [(.ref 694)] [(.ref 876),(.ref 694),v1] 875 [] (.some (.ref 706)) 1081 1089 v14,oU 876,oP v4 (.ref 876),o7,o8,oT (oS ["script","many","codes","mixed","k","rest","step","j"] 1289),o7,oG Ig,oC Ig 1286 455 2 0 0 3 879 181 880 881 882 883 1297 1298,oF Ig v16 884,o7,o8]
def LO:List OO:=[oT (oS ["heap","code","kind","h","g","k"] 1303),o7,oG Cq,oC Cq 1300 468 2 0 0 3 886 181 887 888 889 890 1309 1310,oF Cq v16 891,o7,o8,oT (oS ["heap","code","refused"] 1315),o7,oG Cr,oC Cr 1312 493 2 0 0 3 893 181 894 895 896 897 1318 1319,oF Cr v16 898,o7,o8,oT (oS ["heap","code","thing","refused"] 1324),o7,oG Cs,oC Cs 1321 500 2 0 0 3 900 181 901 902 903 904 1328 1329,oF Cs v16 905,o7,o8,oG Ct,oN Ct 1331 506 3 0 0 3 907 181 908 909 1334 1335,oF Ct v16 910]
def LP:List OO:=[o7,o8,oG Cu,oN Cu 1337 520 1 0 0 3 912 181 913 914 1340 1341,oF Cu v16 915]
def hL:List OO:=hl0++(hl1++(hl2++(hl3++(hl4++(hl5++(hl6++(hl7++(hl8++(hl9++(Ll++(Lm++(Ln++(Lo++(Lp++(Lq++(Lr++(Ls++(Lu++(Lv++(Lw++(Lx++(Ly++(Lz++(LA++(LB++(LC++(LD++(LF++(LG++(LH++(LI++(LJ++(LK++(LL++(LM++(LN++(LO++(LP++([])))))))))))))))))))))))))))))))))))))))
def hAs:List Addr:=[2,3,15,17,18,20,21,22,29,31,32,34,35,36,38,39,41,42,43,44,45,46,49,56,58,59,61,62,63,64,65,68,75,77,78,80,81,82,83,84,87,94,96,97,99,100,101,102,103,106,113,115,116,118,119,120,121,122,125,132,134,135,137,138,139,140,141,144,151,153,154,156,157,158,159,160,163,170,172,173,175,176,177,178,179,182,189,191,192,194,195,196,197,198,201,208,210,211,213,214,215,216,217,220,222,223,225,226,227,229,230,232,233,234,236,237,239,240,241,243,244,246,247,248,250,251,253,254,255,257,258,260,261,262,264,265,267,268,269,271,272,274,275,276,278,279,281,282,283,286,287,288,290,291,293,294,295,297,298,300,301,302,304,305,307,308,309,311,312,314,315,316,319,320,321,323,324,326,327,328,331,332,333,336,337,338,340,341,343,344,345,347,348,350,351,352,354,355,357,358,359,361,362,364,365,366,368,369,371,372,373,376,377,385,387,388,390,391,392,394,395,397,398,399,401,402,404,405,406,408,409,411,412,413,415,416,418,419,420,422,423,425,426,427,429,430,432,433,434,436,437,439,440,441,443,444,446,447,448,450,451,453,454,455,456,457,458,459,469,471,472,474,475,476,478,479,481,482,483,485,486,488,489,490,492,493,495,496,497,499,500,502,503,504,506,507,509,510,511,513,514,516,517,518,519,520,521,522,532,534,535,537,538,539,541,542,544,545,546,548,549,551,552,553,555,556,558,559,560,563,564,565,566,567,568,569,579,581,582,584,585,586,588,589,591,592,593,595,596,598,599,600,602,603,605,606,607,609,610,612,613,614,616,617,619,620,621,623,624,626,627,628,630,631,633,634,635,637,638,640,641,642,644,645,647,648,649,652,653,654,656,657,659,660,661,663,664,666,667,668,670,671,673,674,675,677,678,680,681,682,685,686,687,690,691,692,693,694,695,696,699,701,702,704,705,706,713,715,716,718,719,720,722,723,725,726,727,729,730,732,733,734,736,737,739,740,741,743,744,746,747,748,750,751,753,754,755,757,758,760,761,762,764,765,767,768,769,771,772,774,775,776,778,779,781,782,783,785,786,788,789,790,792,793,795,796,797,799,800,802,803,804,806,807,809,810,811,813,814,816,817,818,820,821,823,824,825,827,828,830,831,832,834,835,837,838,839,841,842,844,845,846,848,849,851,852,853,855,856,858,859,860,862,863,865,866,867,869,870,872,873,874,875,876,879,881,882,884,885,886,888,889,891,892,893,895,896,898,899,900,902,903,905,906,907,910,911,912,915,916]
def hK(P:Params):Frag:=hAs.map λa=>(a,hL.getD a (oT []) P)
theorem fQ(P:Params):hAs=(hK P).map (·.1):=by kernel_rfl
end
noncomputable section
noncomputable def hTa(P:Params):BT:=mkT P 12 (stT (hL.take 15) [(3,o3),(12,o8)])
noncomputable def hSa(w:World)(os:OsState):SharedT:=⟨hTa w.params,15,⟨[],[],[],0,[],[],false,(List.toArray []),[],0,false,false,false,0,[2000,10,10],false,0,true,[],[],0,false⟩,#[],⟨0,0,0,0⟩,187,os⟩
noncomputable def hTb(P:Params):BT:=mkT P 12 (stT (hL.take 15) [(3,o3),(12,o8)])
noncomputable def hSb(w:World)(os:OsState):SharedT:=⟨hTb w.params,15,⟨[],[],[],0,[],[],false,(List.toArray []),[],0,false,false,false,0,[2000,10,10],false,0,true,[],[],0,false⟩,#[],⟨0,0,0,0⟩,187,os⟩
noncomputable def hT0(P:Params):BT:=mkT P 12 (stT (hL.take 182) [(3,o13),(12,o14),(45,o34)])
noncomputable def hS0(w:World)(os:OsState):SharedT:=⟨hT0 w.params,182,⟨[],[],[],0,[],[],false,(List.toArray []),[],0,false,false,false,0,[2000,10,10],false,0,true,[],[],0,false⟩,#[],⟨0,0,0,0⟩,390,os⟩
noncomputable def hT1(P:Params):BT:=mkT P 12 (stT (hL.take 462) [(3,Lg),(12,Lh)])
noncomputable def hS1(w:World)(os:OsState):SharedT:=⟨hT1 w.params,462,⟨[],[],[],0,[],[],false,(List.toArray []),[],0,false,false,false,0,[2000,10,10],false,0,true,[],[],0,false⟩,#[],⟨0,0,0,0⟩,758,os⟩
noncomputable def hT2(P:Params):BT:=mkT P 12 (stT (hL.take 706) [(3,Li),(12,Lj),(694,Lk)])
noncomputable def hS2(w:World)(os:OsState):SharedT:=⟨hT2 w.params,706,⟨[],[],[],0,[],[],false,(List.toArray []),[],0,false,false,false,0,[2000,10,10],false,0,true,[],[],0,false⟩,#[],⟨0,0,0,0⟩,1081,os⟩
noncomputable def hT3(P:Params):BT:=mkT P 12 hL
noncomputable def hS3(w:World)(os:OsState):SharedT:=⟨hT3 w.params,917,⟨[],[],[],0,[],[],false,(List.toArray []),[],0,false,false,false,0,[2000,10,10],false,0,true,[],[],0,false⟩,#[],⟨0,0,0,0⟩,1343,os⟩
noncomputable def hTf(P:Params):BT:=mkT P 12 hL
noncomputable def hSf(w:World)(os:OsState):SharedT:=⟨hTf w.params,917,⟨[],[],[],0,[],[],false,(List.toArray []),[],0,false,false,false,0,[2000,10,10],false,0,true,[],[],0,false⟩,#[],⟨0,0,0,0⟩,1343,os⟩
noncomputable def BE:Env:={scope:=(PySem.Challenge.pw_stillheap_k72_whole_just_these_went).main.scope,locals:=mainNs,globals:=mainNs,cells:=[],code:=(.ref 13),frame:=some 14}
noncomputable def hG0:List Stmt:=[top 0,top 1,top 2,top 3,top 4,top 5,top 6,top 7,top 8,top 9]
noncomputable def hG1:List Stmt:=[top 10,top 11,top 12,top 13,top 14,top 15,top 16,top 17,top 18,top 19,top 20,top 21,top 22,top 23,top 24,top 25,top 26,top 27,top 28,top 29,top 30,top 31,top 32,top 33,top 34,top 35,top 36,top 37,top 38,top 39,top 40,top 41,top 42,top 43,top 44,top 45,top 46,top 47,top 48,top 49]
noncomputable def hG2:List Stmt:=[top 50,top 51,top 52,top 53,top 54,top 55,top 56]
noncomputable def hG3:List Stmt:=[top 57,top 58,top 59,top 60,top 61,top 62,top 63,top 64]
noncomputable def hB:List Stmt:=hG0++(hG1++(hG2++(hG3++[])))
noncomputable def hC:Code:=.body hB BE
noncomputable abbrev hF:List Frame:=[topFrame ⟨0,0,0,0⟩]
theorem LQ(w:World)(os:OsState):topGo treeTable PySem.Challenge.pw_stillheap_k72_whole_just_these_went w 11 (.some (.ref 6)) 12 ⟨boot_heap w.params,#[],boot_drawn,boot_toks,os⟩ (topStub PySem.Challenge.pw_stillheap_k72_whole_just_these_went)=some ((hSa w os).abs,⟨denote treeTable hC,hC,⟨0,0,0,0⟩,hF⟩):=by kernel_rfl
theorem LR(w:World)(os:OsState):segRun treeTable PySem.Challenge.pw_stillheap_k72_whole_just_these_went w 11 (.some (.ref 6)) 1 1 (hSa w os).abs (blockOf hB BE hC ⟨0,0,0,0⟩ hF)=some (.next,(hSb w os).abs,hC,⟨0,0,0,0⟩):=by kernel_rfl
theorem hR0(w:World)(os:OsState):segRunT treeTable PySem.Challenge.pw_stillheap_k72_whole_just_these_went w 11 (.some (.ref 6)) 1 1988 (hSb w os) (piecesOf hG0 BE hC ⟨0,0,0,0⟩ hF)=some (.next,hS0 w os,hC,⟨36,0,39,16⟩):=by kernel_rfl
theorem hR1(w:World)(os:OsState):segRunT treeTable PySem.Challenge.pw_stillheap_k72_whole_just_these_went w 11 (.some (.ref 6)) 1 1827 (hS0 w os) (piecesOf hG1 BE hC ⟨36,0,39,16⟩ hF)=some (.next,hS1 w os,hC,⟨213,0,213,12⟩):=by kernel_rfl
theorem hR2(w:World)(os:OsState):segRunT treeTable PySem.Challenge.pw_stillheap_k72_whole_just_these_went w 11 (.some (.ref 6)) 1 1562 (hS1 w os) (piecesOf hG2 BE hC ⟨213,0,213,12⟩ hF)=some (.next,hS2 w os,hC,⟨355,0,355,8⟩):=by kernel_rfl
theorem hR3(w:World)(os:OsState):segRunT treeTable PySem.Challenge.pw_stillheap_k72_whole_just_these_went w 11 (.some (.ref 6)) 1 1146 (hS2 w os) (piecesOf hG3 BE hC ⟨355,0,355,8⟩ hF)=some (.next,hS3 w os,hC,⟨520,0,542,49⟩):=by kernel_rfl
theorem LS(w:World)(os:OsState):topRun treeTable PySem.Challenge.pw_stillheap_k72_whole_just_these_went w 11 (.some (.ref 6)) 2 (hS3 w os).abs ⟨doneF .next,hC,⟨520,0,542,49⟩,hF⟩=some (hSf w os).abs:=by kernel_rfl
theorem LU(w:World)(os:OsState):topRun treeTable PySem.Challenge.pw_stillheap_k72_whole_just_these_went w 11 (.some (.ref 6)) (12+(1+(1988+(1827+(1562+(1146+2)))))) ⟨boot_heap w.params,#[],boot_drawn,boot_toks,os⟩ (topStub PySem.Challenge.pw_stillheap_k72_whole_just_these_went)=some (hSf w os).abs:=go_top (LQ w os) (piece_block (LR w os) (piece_app (segRun_of (hR0 w os)) (piece_app (segRun_of (hR1 w os)) (piece_app (segRun_of (hR2 w os)) (piece_app (segRun_of (hR3 w os)) (LS w os))))))
noncomputable def hQ:Program:={PySem.Challenge.pw_stillheap_k72_whole_just_these_went with main:={(PySem.Challenge.pw_stillheap_k72_whole_just_these_went).main with body:=[top 0,top 2,top 3,top 4,top 5,top 6,top 7,top 8,top 9,top 10,top 11,top 13,top 14,top 15,top 16,top 17,top 18,top 19,top 20,top 21,top 22,top 23,top 24,top 25,top 26,top 27,top 29,top 30,top 31,top 32,top 33,top 35,top 36,top 37,top 38,top 39,top 40,top 42,top 43,top 44,top 45,top 47,top 49,top 50,top 52,top 54,top 55,top 57,top 59,top 60,top 61,top 62,top 63,top 64]}}
noncomputable def hLo:List Str:=[]
theorem IZ(w:World):(fencedOpening treeTable PySem.Challenge.pw_stillheap_k72_whole_just_these_went w 13164).map (λs=>(s.heap,s.gens,s.drawn,s.toks))=some (boot_heap w.params,#[],boot_drawn,boot_toks):=by kernel_rfl
theorem I0(w:World):((boot_heap w.params).isNs mainGlobals&&(#[]:Array GenState).size == 0,(boot_heap w.params).objs.size,(boot_heap w.params).nsMap mainGlobals "__annotations__")=(true,11,((.some (.ref 6)):Option Value)):=by kernel_rfl
noncomputable abbrev hXt(s:Shared):Bool:=xlAt hQ [] s&&recOk (RowW.records (OpenRow.toRowW (OpenLaw.row PySem.Challenge.rw_stillheap_k72_whole_just_these_went))) s
noncomputable abbrev hFH(w:World):Heap:=(absHeap (hTf w.params) 917 ⟨[],[],[],0,[],[],false,(List.toArray []),[],0,false,false,false,0,[2000,10,10],false,0,true,[],[],0,false⟩)
noncomputable abbrev hFS(w:World)(os:OsState):Shared:=⟨hFH w,#[],⟨0,0,0,0⟩,1343,os⟩
theorem hK1(w:World)(os:OsState):staticsOk (importedModules (PySem.Challenge.pw_stillheap_k72_whole_just_these_went).main.body) (boot_heap w.params) (hFH w)=true:=by kernel_rfl
theorem hK2(w:World)(os:OsState):namesBound PySem.Challenge.pw_stillheap_k72_whole_just_these_went (hFH w)=true:=by kernel_rfl
theorem hK3(w:World)(os:OsState):gensDone (hFS w os)=true:=by kernel_rfl
theorem hK4(w:World)(os:OsState):laidKept (boot_heap w.params) (hFH w)=true:=by kernel_rfl
theorem hK5(w:World)(os:OsState):openSeen hQ hLo (importedModules (PySem.Challenge.pw_stillheap_k72_whole_just_these_went).main.body) hXt true (hFS w os)=openGood hQ hLo:=by kernel_rfl
theorem hK6(w:World)(os:OsState):Hook.obs (kHook hK hAs fQ) (hFS w os)=Hook.val (kHook hK hAs fQ) w:=by kernel_rfl
theorem EY(w:World):(λos:OsState=>((staticsOk (importedModules (PySem.Challenge.pw_stillheap_k72_whole_just_these_went).main.body) (boot_heap w.params) (hFH w)&&namesBound PySem.Challenge.pw_stillheap_k72_whole_just_these_went (hFH w)&&gensDone (hFS w os)&&laidKept (boot_heap w.params) (hFH w)),
  openSeen hQ hLo (importedModules (PySem.Challenge.pw_stillheap_k72_whole_just_these_went).main.body) hXt true (hFS w os),Hook.obs (kHook hK hAs fQ) (hFS w os)))=λ_=>(true,openGood hQ hLo,Hook.val (kHook hK hAs fQ) w):=by
 funext os
 rw[hK1 w os,hK2 w os,hK3 w os,hK4 w os,hK5 w os,hK6 w os];rfl
theorem Ja:LeftO PySem.Challenge.pw_stillheap_k72_whole_just_these_went hQ hLo hXt (Hook.obs (kHook hK hAs fQ)) (Hook.val (kHook hK hAs fQ)) 13164 :=
 LeftO.of_pieces (H₁:=λP=>absHeap (hTf P) 917 ⟨[],[],[],0,[],[],false,(List.toArray []),[],0,false,false,false,0,[2000,10,10],false,0,true,[],[],0,false⟩) IZ I0 LU (by rfl) EY
end
end K72
end
section
namespace L2
open PySem PySem.Spec PyProof.Rows
section
variable{κ:Type}[DecidableEq κ]
noncomputable def cE(kvs:List (κ×V))(k:κ):Option V:=(kvs.find? λkv=>decide (kv.1=k)).map (·.2)
noncomputable def putK(kvs:List (κ×V))(k:κ)(v:V):List (κ×V) :=
  if(kvs.any λkv=>decide (kv.1=k))=true then kvs.map (λkv=>if kv.1=k then(kv.1,v) else kv) else kvs++[(k,v)]
noncomputable def hZ(kvs:List (κ×V))(k:κ):List (κ×V):=kvs.filter λkv=>decide (kv.1≠k)
theorem de{p:κ×V}{r:List (κ×V)}{k:κ}(e:p.1=k):cE (p::r) k=some p.2:=by simp[cE,OG,e]
theorem di{p:κ×V}{r:List (κ×V)}{k:κ}(e:¬p.1=k):cE (p::r) k=cE r k:=by simp[cE,OG,e]
theorem gA(k:κ):∀ kvs:List (κ×V),(kvs.any λkv=>decide (kv.1=k))=(cE kvs k).isSome
  | []=>rfl
  | p::r=>by
    rw[OU];by_cases e:p.1=k
    · simp only[de e,decide_eq_true e,Bool.true_or,Option.isSome_some]
    · rw[di e,decide_eq_false e,Bool.false_or];exact gA k r
theorem pb(kvs:List (κ×V))(k:κ)(v:V):(putK kvs k v).length≤kvs.length+1:=by
  unfold putK;split
  · rw[MN];omega
  · rw[M8,NU,Pk];omega
theorem dM{kvs:List (κ×V)}{k:κ}(v:V)(h:cE kvs k=none):putK kvs k v=kvs++[(k,v)]:=by
  unfold putK;rw[gA,h];exact if_neg (by decide)
theorem nj.eY{o:Option V}{u:Option Value}(r:nj o u):o.isSome=u.isSome:=by
  cases o with
  | none=>cases u with
    | none=>rfl
    | some _=>exact(show False from r).elim
  | some _=>cases u with
    | none=>exact(show False from r).elim
    | some _=>rfl
theorem KV.val{kvs:List (κ×V)}{vs:List (κ×Value)}(r:KV kvs vs)(k:κ):nj (cE kvs k) (valueAt vs k):=by
  unfold KV at r;induction r with
  | nil=>exact True.intro
  | @cons p q ps qs h t ih =>
    obtain⟨h1,h2⟩:=h;by_cases e:p.1=k
    · have e':q.1=k:=h1.symm.trans e
      have b:valueAt (q::qs) k=some q.2:=(by simp[valueAt,OG,e']);rw[de e,b];exact h2
    · have e':¬q.1=k:=λz=>e (h1.trans z)
      have b:valueAt (q::qs) k=valueAt qs k:=(by simp[valueAt,OG,e']);rw[di e,b];exact ih
theorem KV.any{kvs:List (κ×V)}{vs:List (κ×Value)}(r:KV kvs vs)(k:κ):(kvs.any λkv=>decide (kv.1=k))=vs.any λkv=>decide (kv.1=k):=by
  unfold KV at r;induction r with
  | nil=>rfl
  | cons h t ih=>rw[OU,OU,ih,h.1]
theorem KV.Ih{kvs:List (κ×V)}{vs:List (κ×Value)}(r:KV kvs vs)(k:κ){y:V}{u:Value}(ry:RelV y u) :
    KV (kvs.map λkv=>if kv.1=k then(kv.1,y) else kv) (vs.map λkv=>if kv.1=k then(kv.1,u) else kv):=by
  unfold KV at r ⊢;induction r with
  | nil=>exact .nil
  | @cons p q ps qs h t ih =>
    rw[Nz,Nz];refine .cons ?_ ih;obtain⟨h1,h2⟩:=h;by_cases e:p.1=k
    · rw[if_pos e,if_pos (h1.symm.trans e)];exact⟨h1,ry⟩
    · rw[if_neg e,if_neg (λz=>e (h1.trans z))];exact⟨h1,h2⟩
theorem KV.put{kvs:List (κ×V)}{vs:List (κ×Value)}(r:KV kvs vs)(k:κ){y:V}{u:Value}(ry:RelV y u):KV (putK kvs k y) (stored vs k u):=by
  unfold putK stored;rw[r.any k];by_cases e:(vs.any λkv=>decide (kv.1=k))=true
  · rw[if_pos e,if_pos e];exact r.Ih k ry
  · rw[if_neg e,if_neg e];exact Paired.snoc r ⟨rfl,ry⟩
theorem KV.drop{kvs:List (κ×V)}{vs:List (κ×Value)}(r:KV kvs vs)(k:κ):KV (hZ kvs k) (without vs k):=by
  unfold KV at r ⊢;unfold hZ without;induction r with
  | nil=>exact .nil
  | @cons p q ps qs h t ih =>
    obtain⟨h1,h2⟩:=h;rw[List.filter_cons,List.filter_cons];by_cases e:p.1=k
    · have a:¬decide (p.1≠k)=true:=by simp[e]
      have b:¬decide (q.1≠k)=true:=(by simp[h1.symm.trans e]);rw[if_neg a,if_neg b];exact ih
    · have e':¬q.1=k:=λz=>e (h1.trans z)
      have a:decide (p.1≠k)=true:=(by simp[e]);have b:decide (q.1≠k)=true:=(by simp[e']);rw[if_pos a,if_pos b];exact .cons ⟨h1,h2⟩ ih
theorem KV.keys{kvs:List (κ×V)}{vs:List (κ×Value)}(r:KV kvs vs):kvs.map (·.1)=vs.map (·.1):=by
  unfold KV at r;induction r with
  | nil=>rfl
  | cons h t ih=>rw[Nz,Nz,ih,h.1]
theorem KV.length{kvs:List (κ×V)}{vs:List (κ×Value)}(r:KV kvs vs):kvs.length=vs.length:=Paired.length r
theorem AD(kvs:List (κ×V))(k:κ):(hZ kvs k).length≤kvs.length:=NF _ _
end
theorem sQ{P:Program}{w:World}{k:Key}{u:Value}(r:RelV (kV k) u):(a5 P w).is k u=true:=by
  cases k with
  | inl i=>obtain⟨t,e⟩:=(show ∃ t,u=Value.int i t from r);subst e;exact vh P w i t
  | inr x=>obtain⟨t,e⟩:=(show ∃ t,u=Value.str x t from r);subst e;exact vi P w x t
theorem tF{P:Program}{w:World}:∀ {ks:List Key} {us:List Value},Vals (ks.map kV) us→ItemsAre (a5 P w) ks us
  | [],_,r=>by rw[Oy]at r;cases r;exact .nil
  | k::ks,_,r=>by
    rw[Nz]at r;cases r with
    | cons h t=>exact .cons (sQ h) (tF t)
noncomputable abbrev KT(H:Hp):List (List Key×V)→List (List Key×Addr×Value)→Prop:=Paired λp q=>p.1=q.1∧H q.2.1=some (.tup (p.1.map kV))∧RelV p.2 q.2.2
theorem KT.val{H:Hp}{kvs:List (List Key×V)}{xs:List (List Key×Addr×Value)}(r:KT H kvs xs)(k:List Key):nj (cE kvs k) ((atKey xs k).map (·.2)):=by
  induction r with
  | nil=>exact True.intro
  | @cons p q ps qs h t ih =>
    obtain⟨h1,_,h2⟩:=h;by_cases e:p.1=k
    · have e':q.1=k:=h1.symm.trans e
      have b:atKey (q::qs) k=some q.2:=(by simp[atKey,OG,e']);rw[de e,b];exact h2
    · have e':¬q.1=k:=λz=>e (h1.trans z)
      have b:atKey (q::qs) k=atKey qs k:=(by simp[atKey,OG,e']);rw[di e,b];exact ih
theorem KT.Ih{H:Hp}{kvs:List (List Key×V)}{xs:List (List Key×Addr×Value)}(r:KT H kvs xs)(k:List Key){y:V}{u:Value}(ry:RelV y u) :
    KT H (kvs.map λkv=>if kv.1=k then(kv.1,y) else kv) (xs.map (putAt k u)):=by
  induction r with
  | nil=>exact .nil
  | @cons p q ps qs h t ih =>
    rw[Nz,Nz];refine .cons ?_ ih;obtain⟨h1,h2,h3⟩:=h;unfold putAt;by_cases e:p.1=k
    · rw[if_pos e,if_pos (h1.symm.trans e)];exact⟨h1,h2,ry⟩
    · rw[if_neg e,if_neg (λz=>e (h1.trans z))];exact⟨h1,h2,h3⟩
theorem KT.put{H:Hp}{kvs:List (List Key×V)}{xs:List (List Key×Addr×Value)}(r:KT H kvs xs)(k:List Key){b:Addr}{y:V}{u:Value}(hb:H b=some (.tup (k.map kV)))(ry:RelV y u) :
    KT H (putK kvs k y) (storedH xs k b u):=by
  have e:(kvs.any λkv=>decide (kv.1=k))=(atKey xs k).isSome:=by
    rw[gA,(r.val k).eY,Ow]
  unfold putK storedH;rw[e];by_cases q:(atKey xs k).isSome=true
  · rw[if_pos q,if_pos q];exact r.Ih k ry
  · rw[if_neg q,if_neg q];exact Paired.snoc r ⟨rfl,hb,ry⟩
theorem KT.keeps{H H':Hp}{kvs:List (List Key×V)}{xs:List (List Key×Addr×Value)}(r:KT H kvs xs)(ht:∀ b ys,H b=some (.tup ys)→H' b=some (.tup ys)):KT H' kvs xs :=
  Paired.FP r λ_ _ z=>⟨z.1,ht _ _ z.2.1,z.2.2⟩
section
variable{P:Program}{w:World}{H:Hp}{h:Heap}{a:Addr}
theorem Eg{u:HO}(ok:HOk P w H h)(e:Rd H a u):cu P w H h a u:=e.ok ok
theorem kr{kvs:List (Key×V)}(ok:HOk P w H h)(e:Rd H a (.dK kvs)):kvs.length≤sizeLine∧(a == sysModules)=false∧∃ vs,KV kvs vs∧h.DictOf (a5 P w) a vs :=
  show cu P w H h a (.dK kvs) from Eg ok e
theorem Cw{kvs:List (Key×V)}(ok:HOk P w H h)(e:H a=some (.dK kvs)):kvs.length≤sizeLine∧(a == sysModules)=false∧∃ vs,KV kvs vs∧h.DictOf (a5 P w) a vs:=kr ok (.inl e)
theorem rV{ks:List Key}(ok:HOk P w H h)(e:H a=some (.tup (ks.map kV))):(tupleKind (a5 P w)).is h ks a:=by
  obtain⟨_,its,r,o,h1,h2,n,h3⟩:=(show cu P w H h a (.tup (ks.map kV)) from ok a _ e);exact⟨o,its.toArray,n,h1,h2,h3,by simpa using tF r⟩
theorem uU{kvs:List (List Key×V)}(ok:HOk P w H h)(e:Rd H a (.dT kvs)):kvs.length≤sizeLine∧(a == sysModules)=false ∧
    ∃ xs,KT H kvs xs∧h.DictOfH (tupleKind (a5 P w)) a xs:=by
  obtain⟨z,y,xs,r,o,es,ep,h1,h2,h3,h4,h5⟩:=(show cu P w H h a (.dT kvs) from Eg ok e);refine⟨z,y,xs,r,o,es,ep,h1,h2,h3,h4,λx hx=>?_,h5⟩;have all:∀ {l:List (List Key×V)} {m:List (List Key×Addr×Value)},KT H l m→∀ x∈m,(tupleKind (a5 P w)).is h x.1 x.2.1:=by
    intro l m q;induction q with
    | nil=>intro x hx;exact nomatch hx
    | @cons p q ps qs hq t ih =>
      intro x hx;rcases Nk.mp hx with e|hx
      · subst e
        exact rV ok (by rw[←hq.1];exact hq.2.1)
      · exact ih x hx
  exact all r x hx
theorem Jb{kvs:List (List Key×V)}(ok:HOk P w H h)(e:H a=some (.dT kvs)):kvs.length≤sizeLine∧(a == sysModules)=false ∧
    ∃ xs,KT H kvs xs∧h.DictOfH (tupleKind (a5 P w)) a xs:=uU ok (.inl e)
end
noncomputable def eK(H:Hp)(a:Addr)(y:V)(r:Option V):Prop :=
  (∃ kvs k,Rd H a (.dK kvs)∧y=kV k∧r=cE kvs k)∨∃ kvs k b,Rd H a (.dT kvs)∧y=.ref b∧H b=some (.tup (k.map kV))∧r=cE kvs k
noncomputable def jx(H:Hp)(a:Addr)(y v:V)(H':Hp):Prop :=
  (∃ kvs k,H a=some (.dK kvs)∧y=kV k∧kvs.length<sizeLine∧H'=upd H a (.dK (putK kvs k v))) ∨
  ∃ kvs k b,H a=some (.dT kvs)∧y=.ref b∧H b=some (.tup (k.map kV))∧kvs.length<sizeLine∧H'=upd H a (.dT (putK kvs k v))
theorem eK.k{H:Hp}{a:Addr}{kvs:List (Key×V)}{k:Key}(e:H a=some (.dK kvs)):eK H a (kV k) (cE kvs k):=.inl ⟨kvs,k,.inl e,rfl,rfl⟩
theorem jx.k{H:Hp}{a:Addr}{kvs:List (Key×V)}{k:Key}{v:V}(e:H a=some (.dK kvs))(hl:kvs.length<sizeLine):jx H a (kV k) v (upd H a (.dK (putK kvs k v))):=.inl ⟨kvs,k,e,rfl,hl,rfl⟩
section
variable{X:Cx}{pins:List (Addr×Obj)}{σ:St}{H:Hp}{s:Shared}{a:Addr}{y v:V}{u r:Value}{o:Option V}{A:Around}{E:Value→Shared→Prop}
theorem Inv.big(I:Inv X pins σ H s):sysModules<s.heap.objs.size:=by
  have h:mainGlobals<s.heap.objs.size:=(I.mod.glob.keeps I.bk).lt;exact Nat.lt_trans (by decide) h
theorem zu{Q:Value→Shared→Prop}(hu:A.units+1<cLine)(I:Inv X pins σ H s)(g:eK H a y (some v))(ry:RelV y u)(h:∀ w' s',Inv X pins σ H s'→RelV v w'→Q w' s') :
    wpAny (model X.prog X.w) A (getItem (.ref a) u) Q E s:=by
  rcases g with⟨kvs,k,e,ey,l⟩|⟨kvs,k,b,e,ey,eb,l⟩
  · subst ey
    obtain⟨z,hd,vs,rel,dd⟩:=kr I.hok e;obtain⟨w',hw,rw'⟩:=nj.some_of (v:=v) (o:=valueAt vs k) (by rw[l];exact rel.val k);exact wpAny_getItem_of (sQ ry) dd.mapOf hw (h w' _ (I.tok _) rw')
  · subst ey
    cases (show u=Value.ref b from ry);obtain⟨z,hd,xs,rel,dd⟩:=uU I.hok e;obtain⟨w',hw,rw'⟩:=nj.some_of (v:=v) (o:=(atKey xs k).map (·.2)) (by rw[l];exact rel.val k);obtain⟨p,hp,hp2⟩:=Ng.mp hw;refine wpAny_getItem_heap (tupleKind_room_in1 hu) (rV I.hok eb) dd hp ?_;rw[hp2];exact h w' _ (I.tok _) rw'
theorem LV{Q:Value→Shared→Prop}(hu:A.units+1<cLine)(I:Inv X pins σ H s)(g:eK H a y o)(ry:RelV y u)(h:∀ s',Inv X pins σ H s'→Q (.bool o.isSome) s') :
    wpAny (model X.prog X.w) A (compareOp .In u (.ref a)) Q E s:=by
  rcases g with⟨kvs,k,e,ey,l⟩|⟨kvs,k,b,e,ey,eb,l⟩
  · subst ey
    obtain⟨z,hd,vs,rel,dd⟩:=kr I.hok e;refine wpAny_in_of (sQ ry) hd dd.mapOf ?_;rw[←(rel.val k).eY,←l];exact h _ (I.tok _)
  · subst ey
    cases (show u=Value.ref b from ry);obtain⟨z,hd,xs,rel,dd⟩:=uU I.hok e;refine wpAny_in_heap (tupleKind_room_in1 hu) (rV I.hok eb) hd dd ?_;have q:=(rel.val k).eY;rw[Ow]at q;rw[←q,←l];exact h _ (I.tok _)
theorem CV{Q:Value→Shared→Prop}(hu:A.units+1<cLine)(I:Inv X pins σ H s)(g:eK H a y o)(ry:RelV y u)(h:∀ s',Inv X pins σ H s'→Q (.bool (!o.isSome)) s') :
    wpAny (model X.prog X.w) A (compareOp .NotIn u (.ref a)) Q E s:=by
  rcases g with⟨kvs,k,e,ey,l⟩|⟨kvs,k,b,e,ey,eb,l⟩
  · subst ey
    obtain⟨z,hd,vs,rel,dd⟩:=kr I.hok e;refine wpAny_notIn_of (sQ ry) hd dd.mapOf ?_;rw[←(rel.val k).eY,←l];exact h _ (I.tok _)
  · subst ey
    cases (show u=Value.ref b from ry);obtain⟨z,hd,xs,rel,dd⟩:=uU I.hok e;refine wpAny_notIn_heap (tupleKind_room_in1 hu) (rV I.hok eb) hd dd ?_;have q:=(rel.val k).eY;rw[Ow]at q;rw[←q,←l];exact h _ (I.tok _)
theorem uA{h':Heap}{t':Nat}{ob:HO}(I:Inv X pins σ H s)(mu:Mut (H a))(hs:Heap.SameBut a s.heap h')(he:∃ q,h'.get? a=some q)(new:cu X.prog X.w (upd H a ob) h' a ob) :
    Inv X pins σ (upd H a ob) {s with heap:=h',toks:=t'} :=
  I.write (x:=a) (e:=a) mu (.inl rfl) (λb q hb z=>(hs.2 b hb).trans z) he new
theorem BF{P:Program}{w:World}{H':Hp}{h':Heap}{kvs:List (Key×V)}{vs:List (Key×Value)}(z:kvs.length≤sizeLine)(hd:(a == sysModules)=false)(rel:KV kvs vs)(dd:h'.DictOf (a5 P w) a vs) :
    cu P w H' h' a (.dK kvs):=⟨z,hd,vs,rel,dd⟩
theorem zw{H':Hp}{Q:Unit→Shared→Prop}(hu:A.units+1<cLine)(I:Inv X pins σ H s)(g:jx H a y v H')(ry:RelV y u)(rv:RelV v r)(h:∀ s',Inv X pins σ H' s'→Q () s') :
    wpAny (model X.prog X.w) A (setItem (.ref a) u r) Q E s:=by
  rcases g with⟨kvs,k,e,ey,l,eH⟩|⟨kvs,k,b,e,ey,eb,l,eH⟩
  · subst ey eH
    obtain⟨z,hd,vs,rel,dd⟩:=Cw I.hok e;have hz:vs.length≤sizeLine:=(by rw[←rel.length];exact z);have hl:(putK kvs k v).length≤sizeLine:=(by have:=pb kvs k v;omega);refine wpAny_setItem_pairs (hsz:=hz) (sQ ry) dd λh' dd' hs=>h _ ?_;have he:∃ q,h'.get? a=some q:=let ⟨q,_,_,hq,_⟩:=dd';⟨q,hq⟩;exact uA I (by rw[e];exact True.intro) hs he (BF hl hd (rel.put k rv) dd')
  · subst ey eH
    cases (show u=Value.ref b from ry);obtain⟨z,hd,xs,rel,dd⟩:=Jb I.hok e;have hz:xs.length≤sizeLine:=(by rw[←Paired.length rel];exact z);have hl:(putK kvs k v).length≤sizeLine:=(by have:=pb kvs k v;omega);refine wpAny_setItem_heap (hsz:=hz) (tupleKind_room_in1 hu) (rV I.hok eb) dd λh' dd' hs=>h _ ?_;obtain⟨q,es,ep,hq,h2,h3,h4,_,h5⟩:=dd';refine uA I (by rw[e];exact True.intro) hs ⟨q,hq⟩ ⟨hl,hd,_,(rel.put k eb rv).keeps λc ys ec=>?_,q,es,ep,hq,h2,h3,h4,h5⟩;rw[ab (av ec e (λz=>nomatch z))];exact ec
end
section
variable{X:Cx}{pins:List (Addr×Obj)}{σ:St}{H:Hp}{s:Shared}{a:Addr}{kvs:List (Key×V)}{k:Key}{u:Value}{A:Around}{E:Value→Shared→Prop}
theorem Je{v:V}{more:List Value}{Q:Value→Shared→Prop}(I:Inv X pins σ H s)(e:H a=some (.dK kvs))(ry:RelV (kV k) u)(l:cE kvs k=some v)(hm:more=[]∨∃ x,more=[x])
    (h:∀ w' s',Inv X pins σ (upd H a (.dK (hZ kvs k))) s'→RelV v w'→Q w' s'):wpAny (model X.prog X.w) A (call (.builtin "dict.pop") (.ref a::u::more)) Q E s:=by
  obtain⟨z,hd,vs,rel,dd⟩:=Cw I.hok e;obtain⟨w',hw,rw'⟩:=nj.some_of (v:=v) (o:=valueAt vs k) (by rw[←l];exact rel.val k);have hp:(keyPart u).isSome=true:=by
    cases k with
    | inl i=>obtain⟨t,q⟩:=(show ∃ t,u=Value.int i t from ry);subst q;rfl
    | inr x=>obtain⟨t,q⟩:=(show ∃ t,u=Value.str x t from ry);subst q;rfl
  have ha:argsOk "dict.pop" ⟨.ref a::u::more,[]⟩:=by
    rcases hm with q|⟨x,q⟩
    · subst q;exact PySem.F.args_dict_pop_2 _ _
    · subst q;exact PySem.F.args_dict_pop_3 _ _ _
  refine call_meetsIn PySem.F.slot_dict_pop dd.typeIs PySem.F.entry_dict_pop ha (meets_dict_pop_there (a5 X.prog X.w) a (sQ ry) more hm hp)
    ⟨vs,w',dd,by rw[←rel.length];exact z,hw,λh' dd' hs=>h w' _ ?_ rw'⟩
  have he:∃ q,h'.get? a=some q:=let ⟨q,_,_,hq,_⟩:=dd';⟨q,hq⟩;exact uA I (by rw[e];exact True.intro) hs he (BF (Nh (AD kvs k) z) hd (rel.drop k) dd')
theorem Jf{Q:Value→Shared→Prop}(I:Inv X pins σ H s)(e:Rd H a (.dK kvs))(h:∀ t s',Inv X pins σ H s'→Q (.int kvs.length t) s'):wpAny (model X.prog X.w) A (call (.builtin "len") [.ref a]) Q E s:=by
  obtain⟨z,hd,vs,rel,dd⟩:=kr I.hok e;refine call_len_dict hd dd (by rw[←rel.length];rw[sizeLine_eq]at z;omega) ?_;rw[←rel.length];exact h _ _ (I.tok _)
end
noncomputable def Kg(i:Expr):Prop:=∀ ov iv,subscripted i false ov iv=operate [ov,iv] (getItem ov iv)
theorem CW{prog:Program}{w:World}{A:Around}{E:Value→Shared→Prop}{s:Shared}{env:Env}{value slice:Expr}{pos:Pos}{T id:String}{Q:Value→Shared→Prop}
    (hl:typeLookup (.type T) "__getitem__" = pure (some (.builtin id))) (hs:Kg slice)
    (h:wpAny (model prog w) A (eval value env) (λo s₁=>wpAny (model prog w) A (eval slice env) (λi s₂=>s₂.TypeIs o T∧wpAny (model prog w) A (getItem o i) Q E s₂) E s₁) E s) :
    wpAny (model prog w) A (eval (.Subscript value slice pos) env) Q E s:=by
  refine Subscript_ (wpAny_mono h (λo s₁ h₁=>wpAny_mono h₁ (λi s₂ h₂=>?_) λ_ _ x=>x) λ_ _ x=>x);obtain⟨hT,h₂⟩:=h₂;unfold subscriptTail;refine wpAny_bind ?_;rw[getitemInPython_of_ne hT.not_modules];refine wpAny_bind (wpAny_specialOf hT hl ?_);have fin:wpAny (model prog w) A (subscripted slice false o i) (λr s₃=>wpAny (model prog w) A (letTemporaryGo value o r >>= λ_=>pure r) Q E s₃) E s₂:=by
    rw[hs o i];exact wpAny_operating (wpAny_mono h₂ (λr s₃ h₃=>wpAny_bind (wpAny_letTemporaryGo (wpAny_pure h₃))) λ_ _ x=>x)
  first
    | exact wpAny_pure (wpAny_bind fin)
    | exact wpAny_bind (wpAny_pure (wpAny_bind fin))
    | exact wpAny_bind fin
theorem vm{X:Cx}{pins:List (Addr×Obj)}{σ:St}{H:Hp}{s:Shared}{a:Addr}{y:V}{o:Option V}(I:Inv X pins σ H s)(g:eK H a y o):s.TypeIs (.ref a) "dict" := by
  rcases g with⟨kvs,k,e,_,_⟩|⟨kvs,k,b,e,_,_,_⟩
  · obtain⟨_,_,vs,_,dd⟩:=kr I.hok e
    exact dd.typeIs
  · obtain⟨_,_,xs,_,dd⟩:=uU I.hok e
    exact dd.typeIs
noncomputable def Jg(td ty:TE):TE:=λσ H Q=>td σ H λx H1=>ty σ H1 λy H2=>∃ a v,x=.ref a∧eK H2 a y (some v)∧Q v H2
noncomputable def LW(ty td:TE):TE:=λσ H Q=>ty σ H λy H1=>td σ H1 λx H2=>∃ a o,x=.ref a∧eK H2 a y o∧Q (.bl o.isSome) H2
noncomputable def CY(ty td:TE):TE:=λσ H Q=>ty σ H λy H1=>td σ H1 λx H2=>∃ a o,x=.ref a∧eK H2 a y o∧Q (.bl (!o.isSome)) H2
noncomputable def Jh(td ty tv:TE):TS:=λD σ H=>tv σ H λv H1=>td σ H1 λx H2=>ty σ H2 λy H3=>∃ a H4,x=.ref a∧jx H3 a y v H4∧D.nx σ H4
section
variable{X:Cx}{o i e value:Expr}{pos pos' K3:Pos}{td ty tv:TE}
theorem cS(hu:X.A.units+1<cLine)(ho:PE X o td)(hi:PE X i ty)(hs:Kg i):PE X (.Subscript o i pos) (Jg td ty):=by
  intro pins s σ H Q I h;refine CW PySem.F.slot_dict_getitem.lookup hs (thn (ho pins s σ H _ I h) λu s1 ⟨x,H1,I1,rx,q1⟩=>thn (hi pins s1 σ H1 _ I1 q1) λiv s2 ⟨y,H2,I2,ry,a,v,ex,g,q2⟩=>?_);subst ex;obtain rfl:u=Value.ref a:=rx;exact⟨vm I2 g,zu hu I2 g ry λw' s3 I3 rw'=>⟨v,H2,I3,rw',q2⟩⟩
theorem qe(hu:X.A.units+1<cLine)(hi:PE X i ty)(ho:PE X o td):PC X .In i o (LW ty td):=by
  intro pins s σ H Q I h;refine thn (hi pins s σ H _ I h) λiv s1 ⟨y,H1,I1,ry,q1⟩=>thn (ho pins s1 σ H1 _ I1 q1) λu s2 ⟨x,H2,I2,rx,a,ov,ex,g,q2⟩=>?_;subst ex;obtain rfl:u=Value.ref a:=rx;exact LV hu I2 g ry λs3 I3=>⟨.bl ov.isSome,H2,I3,rfl,q2⟩
theorem bV(hu:X.A.units+1<cLine)(hi:PE X i ty)(ho:PE X o td):PC X .NotIn i o (CY ty td):=by
  intro pins s σ H Q I h;refine thn (hi pins s σ H _ I h) λiv s1 ⟨y,H1,I1,ry,q1⟩=>thn (ho pins s1 σ H1 _ I1 q1) λu s2 ⟨x,H2,I2,rx,a,ov,ex,g,q2⟩=>?_;subst ex;obtain rfl:u=Value.ref a:=rx;exact CV hu I2 g ry λs3 I3=>⟨.bl (!ov.isSome),H2,I3,rfl,q2⟩
theorem cH(hu:X.A.units+1<cLine)(ho:PE X o td)(hi:PE X i ty)(hv:PE X value tv)(hs:swapsWith value (some (.Subscript o i pos')) pos.line X.env=pure false) :
    PS X (.Assign [.Subscript o i pos'] value pos) (Jh td ty tv):=by
  intro pins s σ H D I h;refine wpAny_Assign_Subscript (thn (hv pins s σ H _ I h) λr s1 ⟨v,H1,I1,rv,q1⟩=>thn (ho pins s1 σ H1 _ I1 q1) λu s2 ⟨x,H2,I2,rx,q2⟩=>thn (hi pins s2 σ H2 _ I2 q2) λiv s3 ⟨y,H3,I3,ry,a,H4,ex,g,q3⟩=>?_) hs;subst ex;obtain rfl:u=Value.ref a:=rx;exact zw hu I3 g ry rv λs4 I4=>⟨σ,H4,I4,q3⟩
end
theorem AE{P:Program}{w:World}{H:Hp}(h:Heap)(hb:sysModules<h.objs.size):cu P w H (h.push {cls:=.type "dict",data:=.dict #[]}) h.objs.size (.dK []) :=
  ⟨NH _,beq_eq_false_iff_ne.mpr (Nv (Nw hb)),[],.nil,Heap.DictOf.new h⟩
noncomputable def EZ:TE:=λ_ H Q=>∀ p,H p=none→Q (.ref p) (upd H p (.dK []))
section
variable{X:Cx}{pos:Pos}
theorem bY:PE X (.Dict [] [] pos) EZ:=λpins s σ H Q I h =>
  wpAny_Dict_empty ⟨.ref s.heap.objs.size,_,I.laid (a:=s.heap.objs.size) (o:=.dK []) (t':=s.toks) (λ_ _ q=>MU _ q) (MR _) (AE s.heap I.big),rfl,h _ (I.hok.fresh (MR _))⟩
end
structure M1(X:Cx)(o:Expr)(m:Str)(apos:Pos)(e:Expr)(qh:Pos):Prop where
  base:attributeBase o m X.env (eval o X.env)=eval o X.env
  few:((backTo qh (starEach [e] X.env)).all (λx=>!x.1)&&(backToKw qh (keywordEach [] X.env)).all (λx=>x.1.isSome)
    && decide (([e]:List Expr).length+([]:List Keyword).length+(if([]:List Keyword).isEmpty then 0 else 1)<30))=true
  line:(apos.endLine == qh.line)=true
  trees:backTo qh (starEach [e] X.env)=[(false,eval e X.env)]
noncomputable def IsD(H:Hp)(a:Addr):Prop:=(∃ kvs,Rd H a (.dK kvs))∨∃ kvs,Rd H a (.dT kvs)
theorem E0{X:Cx}{pins:List (Addr×Obj)}{σ:St}{H:Hp}{s:Shared}{a:Addr}(I:Inv X pins σ H s)(d:IsD H a) :
    s.TypeIs (.ref a) "dict" ∧ (∀ b,Value.ref a=.ref b→∃ ob,s.heap.get? b=some ob∧ob.dict=none)∧(a == sysModules)=false:=by
  rcases d with⟨kvs,e⟩|⟨kvs,e⟩
  · obtain⟨_,hd,vs,_,dd⟩:=kr I.hok e
    refine⟨dd.typeIs,λb q=>?_,hd⟩;cases q;obtain⟨ob,_,_,h1,h2,_⟩:=dd;exact⟨ob,h1,h2.2.1⟩
  · obtain⟨_,hd,xs,_,dd⟩:=uU I.hok e
    refine⟨dd.typeIs,λb q=>?_,hd⟩;cases q;obtain⟨ob,_,_,h1,h2,_⟩:=dd;exact⟨ob,h1,h2.2.1⟩
section
variable{X:Cx}{pins:List (Addr×Obj)}{σ:St}{H:Hp}{s:Shared}{a:Addr}{y d:V}{u r:Value}{o:Option V}{A:Around}{E:Value→Shared→Prop}
end
noncomputable def E1(td ty:TE):TE:=λσ H Q=>td σ H λx H1=>∃ a,x=.ref a∧IsD H1 a∧ty σ H1 λy H2=>∃ kvs k v,H2 a=some (.dK kvs)∧y=kV k∧cE kvs k=some v∧Q v (upd H2 a (.dK (hZ kvs k)))
section
variable{X:Cx}{o e f:Expr}{apos qh:Pos}{td ty tx:TE}
theorem rq(ho:PE X o td)(he:PE X e ty)(m:M1 X o "pop" apos e qh):PE X (.Call (.Attribute o "pop" apos) [e] [] qh) (E1 td ty):=by
  intro pins s σ H Q I h;refine wpAny_Call_method m.base m.few m.line PySem.F.plainAttrs_dict PySem.F.slot_dict_pop PySem.F.type_dict_pop (thn (ho pins s σ H _ I h) λu s1 ⟨x,H1,I1,rx,a,ex,d,q1⟩=>?_);subst ex;obtain rfl:u=Value.ref a:=rx;obtain⟨t1,t2,_⟩:=E0 I1 d;refine⟨t1,t2,?_⟩;rw[m.trees];refine Calls.callWith_builtin rfl (Calls.evalArgs_plain (Calls.spliced_cons (thn (he pins s1 σ H1 _ I1 q1) λiv s2 ⟨y,H2,I2,ry,kvs,k,v,ea,ey,l,q2⟩=>Calls.spliced_nil ?_)));subst ey;exact Je I2 ea ry l (.inl rfl) λw' s3 I3 rw'=>⟨v,_,I3,rw',q2⟩
end
section
variable{X:Cx}{pins:List (Addr×Obj)}{σ:St}{H:Hp}{s:Shared}{a:Addr}{kvs:List (Key×V)}{A:Around}{E:Value→Shared→Prop}
end
section
variable{X:Cx}{pins:List (Addr×Obj)}{σ:St}{H:Hp}{s:Shared}{a:Addr}{y:V}{u:Value}{A:Around}{E:Value→Shared→Prop}
end
end L2
namespace L2
open PySem PySem.Spec PyProof.Rows
section
variable{X:Cx}
theorem zA:gI X (.builtin "len") (λxs H Q=>∃ a kvs,xs=[V.ref a]∧H a=some (.dK kvs)∧Q (.int kvs.length) H):=by
  intro pins s σ H xs us Q I r h;obtain⟨a,kvs,rfl,ha,q⟩:=h;obtain⟨u,rfl,ru⟩:=vals1 r;cases ru;exact Jf I (.inl ha) λt s' I'=>⟨.int kvs.length,H,I',⟨t,rfl⟩,q⟩
end
end L2
end
section
namespace LX
open PySem PySem.W
noncomputable def bX(c:Value)(od:Option Addr)(fs:Array Value)(sl:Array (Option Value)):Obj:={cls:=c,dict:=od,data:=.fields fs,slots:=sl}
noncomputable def E3(dd:Option Addr)(cd:ClassData)(k0 k1 k2 k3 k5:Option Value):Obj:={cls:=.type "type",dict:=dd,data:=.cls cd,slots:=#[k0,k1,k2,k3,some (.builtin "ValueError.__new__"),k5]}
structure du(K:Frag)(C:Addr)(cd:ClassData):Prop where
 ob:∃ dd k0 k1 k2 k3 k5,K.lookup C=some (E3 dd cd k0 k1 k2 k3 k5)
 del:cd.hasDel=false
 line:∃ r,cd.mro=.ref C::r
 val:cd.mro.contains (.type "ValueError")=true
 bas:cd.mro.contains (.type "BaseException")=true
 obj:cd.mro.contains (.type "object")=true
 atr:cd.mro.contains (.type "AttributeError")=false
 nam:cd.mro.contains (.type "NameError")=false
noncomputable def h9(K:Frag)(C:Addr):Bool:=match K.lookup C with
 | some ⟨.type "type",_,.cls cd,sl⟩=>(match cd.mro,sl.toList with
  | .ref D::_,[_,_,_,_,some (.builtin n),_]=>D == C&&n == "ValueError.__new__" && !cd.hasDel&&cd.mro.contains (.type "ValueError")&&cd.mro.contains (.type "BaseException") &&
    cd.mro.contains (.type "object")&&!cd.mro.contains (.type "AttributeError")&&!cd.mro.contains (.type "NameError")
  | _,_=>false)
 | _=>false
theorem yt{K:Frag}{C:Addr}(e:h9 K C=true):∃ cd,clsIn K C=some cd∧du K C cd:=by
 unfold h9 at e;split at e
 ·rename_i dd cd sl ho
  split at e
  ·rename_i D r k0 k1 k2 k3 n k5 hm hs
   simp only[OY,beq_iff_eq,Bool.not_eq_true']at e;obtain⟨⟨⟨⟨⟨⟨⟨rfl,rfl⟩,e1⟩,e2⟩,e3⟩,e4⟩,e5⟩,e6⟩:=e;obtain⟨sl⟩:=sl;simp only at hs;subst hs;exact⟨cd,by unfold clsIn;rw[ho],⟨dd,k0,k1,k2,k3,k5,ho⟩,e1,⟨r,hm⟩,e2,e3,e4,e5,e6⟩
  ·cases e
 ·cases e
section
variable{K:Frag}{C:Addr}{cd:ClassData}{M:Model}{h:Heap}
theorem du.cls(x:du K C cd):clsIn K C=some cd:=by
 obtain⟨dd,k0,k1,k2,k3,k5,e⟩:=x.ob;unfold clsIn;rw[e];rfl
theorem du.rz(x:du K C cd):cd.mro.isEmpty=false:=by
 obtain⟨r,e⟩:=x.line;rw[e];rfl
theorem du.sub(x:du K C cd)(X:K.In h)(v:Value):Looks M h (isSubtype (.ref C) v) (cd.mro.contains v) :=
 looks_mroIn X (by unfold mroIn;rw[x.cls,Option.bind_some,if_neg (by rw[x.rz];decide)])
theorem du.mro(x:du K C cd)(X:K.In h):Looks M h (mroOf (.ref C)) cd.mro:=(looks_clsIn X x.cls).andThen .now
theorem du.typ(x:du K C cd)(X:K.In h):Looks M h (typeOf (.ref C)) (.type "type"):=by
 obtain⟨dd,k0,k1,k2,k3,k5,e⟩:=x.ob;exact(Looks.ld (X _ _ e)).andThen .now
theorem du.Kh(x:du K C cd)(X:K.In h):Looks M h (isType (.ref C)) true:=by
 obtain⟨dd,k0,k1,k2,k3,k5,e⟩:=x.ob;intro A Q E s k q;unfold isType loadHead;exact wpAny_bind (wpAny_loadPart (k _ _ (X _ _ e)) (wpAny_pure q))
theorem du.madeBy(x:du K C cd)(X:K.In h):Looks M h (Bind.madeBy (.ref C)) (some "ValueError.__new__"):=by
 obtain⟨dd,k0,k1,k2,k3,k5,e⟩:=x.ob;obtain⟨r,hr⟩:=x.line;intro A Q E s k q;unfold Bind.madeBy;refine wpAny_bind (x.mro X A _ E s k ?_);rw[hr,List.forIn_cons];refine wpAny_bind (wpAny_bind (wpAny_bind (wpAny_bind (wpAny_loadPart (k _ _ (X _ _ e)) (wpAny_pure ?_)))));exact wpAny_pure (wpAny_pure (wpAny_pure q))
theorem du.static(x:du K C cd)(X:K.In h):Looks M h (Bind.staticBase (.ref C)) (.ref C):=by
 obtain⟨r,hr⟩:=x.line;intro A Q E s k q;unfold Bind.staticBase;refine wpAny_bind (x.mro X A _ E s k ?_);rw[hr,List.forIn_cons];exact wpAny_bind (wpAny_bind (wpAny_bind (x.madeBy X A _ E s k (wpAny_pure (wpAny_pure (wpAny_pure q))))))
theorem CZ:Manifest.canonical "ValueError.__new__" = Manifest.canonical "BaseException.__new__" := PySem.F.excBase_ValueError.canon
theorem du.here(x:du K C cd)(X:K.In h):Looks M h (Bind.madeHere "BaseException.__new__" (.ref C)) () :=
 (x.static X).andThen ((x.madeBy X).andThen (Looks.of_pure (by simp only[O4,CZ,bne_self_eq_false,Nx,if_false])))
end
noncomputable def Back(x:Addr)(R:Result→Shared→Prop)(r:Result)(s':Shared):Prop:=match r with
 | .ok (.ret v)=>v=.none∧R (.ok (.ret (.ref x))) s'
 | .ok _=>False
 | .error e=>R (.error e) s'
noncomputable abbrev xY(C t:Addr):Obj:=bX (.ref C) none #[.ref t,.none,.none,.none,.bool false,.none] #[]
noncomputable abbrev jy(vs:List Value):Obj:={cls:=.type "tuple",data:=.seq vs.toArray}
noncomputable abbrev fZ(h:Heap)(C:Addr)(vs:List Value):Heap:=(h.push (jy vs)).push (xY C h.objs.size)
section
variable{prog:Program}{w:World}{A:Around}{R:Result→Shared→Prop}{h:Heap}{g:Array GenState}{d:Drawn}{t:Nat}{os:OsState}{K:Frag}{C:Addr}{cd:ClassData}{vs:List Value}
theorem AF(x:du K C cd)(X:K.In h)(hv:vs.length≤sizeLine)(k:R (.ok (.ret (.ref (h.objs.size+1)))) ⟨fZ h C vs,g,d,t,os⟩) :
  codeAny (model prog w) A (.call (.builtin "ValueError.__new__") ⟨.ref C::vs,[]⟩) R ⟨h,g,d,t,os⟩:=by
 have F:=PySem.F.excBase_ValueError;have st:=x.static (M:=model prog w) X;have ty:=x.Kh (M:=model prog w) X;have mb:=x.madeBy (M:=model prog w) X;have hh:=x.here (M:=model prog w) X;have s1:=x.sub (M:=model prog w) X (.type "ValueError");rw[x.val]at s1;have s2:=x.sub (M:=model prog w) X (.type "AttributeError");rw[x.atr]at s2;have s3:=x.sub (M:=model prog w) X (.type "NameError");rw[x.nam]at s3;refine codeAny_call_builtin_code (Code.quiet_builtin _ F.quiet) ?_;have star:=F.noStar;simp only[checkBuiltinCall,F.newKind,F.newSplit,F.newRow]
 repeat (first|simp only[bne_self_eq_false,Nx,if_false,Bool.not_true]|lk)
 refine codeAny_builtinAt F.entry ?_;unfold Builtin.«BaseException.__new__»;refine wpAt_bind ?_;show wpAt _ _ _ (stack >>= _) _ _ _;refine wpAt_bind (wpAt_stack λp below=>wpAt_of_wpAny ?_);have ML:=F.ends;wp_walk
 refine wpAt_of_wpAny ?_;rw[F.owner]
 repeat (first|simp only[bne_self_eq_false,Nx,if_false,Bool.not_true]|lk)
 rw[if_neg (by rw[M0];omega)];obtain⟨dd,k0,k1,k2,k3,k5,ho⟩:=x.ob
 repeat lk
 refine nd_load (MU _ (MU _ (X _ _ ho))) (wpAny_pure (wpAny_pure ?_));rw[x.del,if_neg M4];refine wpAny_pure (wpAny_pure ?_);show R _ _;rw[OM];exact k
theorem AG{f:Addr}(x:du K C cd)(X:K.In h)(hi:findIn K (.ref C) "__init__" = some (some (.ref f)))(hf:typeIn K (.ref f)=some (.type "function"))(hv:vs.length≤sizeLine)
  (k:codeAny (model prog w) (A.under (.builtin "type.__call__" ⟨.ref C::vs,[]⟩)) (.call (.ref f) ⟨.ref (h.objs.size+1)::vs,[]⟩) (Back (h.objs.size+1) R) ⟨fZ h C vs,g,d,t,os⟩) :
  codeAny (model prog w) A (.call (.ref C) ⟨vs,[]⟩) R ⟨h,g,d,t,os⟩:=by
 obtain⟨dd,k0,k1,k2,k3,k5,ho⟩:=x.ob;have hC:=X _ _ ho;have ht:=x.typ (M:=model prog w) X;refine codeAny_of_tree ?_;show wpAny _ _ (callAny (.ref C) _) _ _ _;refine nd_load hC ?_;show wpAny _ _ (callAny.viaDunder (.ref C) _) _ _ _;unfold callAny.viaDunder;have sp:Looks (model prog w) h (specialOf (.ref C) "__call__") (some (.builtin "type.__call__")):=ht.andThen (Looks.of_pure tc_lookup);refine wpAny_bind (sp.at ?_);dsimp only;rw[tc_bind];refine wpAny_bind (wpAny_pure (wpAny_bind (wpAny_pure ?_)));refine wpAny_pure (a:=Fin.again (.call (.builtin "type.__call__") ⟨.ref C::vs,[]⟩)) (And.intro rfl ?_);refine codeAny_call_builtin_at (Code.quiet_builtin _ (by decide +kernel)) entry_typeCall (check_slot tc_kind tc_split (ht.andThen (Looks.of_pure tc_sub)) (tc_args _ _ _) ?_);unfold Builtin.«type.__call__»;have hm:=x.mro (M:=model prog w) X;have em:=x.rz;have mb:=x.madeBy (M:=model prog w) X
 repeat (first|simp only[em,Nx,if_false]|with_reducible refine wpAny_call ?_|lk)
 refine AF x X hv ?_;have kp:∀ b o,h.get? b=some o→(fZ h C vs).get? b=some o:=λb o e=>MU _ (MU _ e);have X1:K.In (fZ h C vs):=X.keeps kp;have hx:(fZ h C vs).get? (h.objs.size+1)=some (xY C h.objs.size):=by heap_get
 have t1:Looks (model prog w) (fZ h C vs) (typeOf (.ref (h.objs.size+1))) (.ref C):=(Looks.ld hx).andThen .now;have s1:=x.sub (M:=model prog w) X1 (.ref C);obtain⟨r,hr⟩:=x.line;rw[show cd.mro.contains (.ref C)=true by rw[hr];simp]at s1;have i1:=looks_findIn (M:=model prog w) X1 hi;have b1:=bind_fn (M:=model prog w) X1 (.ref (h.objs.size+1)) hf;unfold isInstance callSpecial? specialOf
 repeat (first|with_reducible refine wpAny_call ?_|lk)
 refine codeAny_mono k λr s' z=>?_;rcases r with e|(v|_|_|_)<;>first|exact z|exact z.elim|skip;obtain⟨rfl,z⟩:=z;exact wpAny_pure (wpAny_pure z)
end
section
variable{prog:Program}{w:World}{A:Around}{E:Value→Shared→Prop}{h:Heap}{g:Array GenState}{d:Drawn}{t:Nat}{os:OsState}{K:Frag}{C e t0:Addr}{cd:ClassData}{vs:List Value}{od:Option Addr}{fs:Array Value}{sl:Array (Option Value)}
theorem rA{M:Model}(he:h.get? e=some (bX (.ref C) od fs sl)):Looks M h (typeOf (.ref e)) (.ref C):=(Looks.ld he).andThen .now
theorem vo{Q:Value→Shared→Prop}(x:du K C cd)(X:K.In h)(he:h.get? e=some (bX (.ref C) od fs sl))(h0:fs[0]?=some (.ref t0))(hv:vs.length≤sizeLine)
  (k:Q .none ⟨(h.push (jy vs)).update e (Obj.mapFields (·.setIfInBounds 0 (.ref h.objs.size))),g,d,t,os⟩) :
  wpAny (model prog w) A (call (.builtin "ValueError.__init__") (.ref e::vs)) Q E ⟨h,g,d,t,os⟩:=by
 have F:=PySem.F.excBase_ValueError;have ty:=rA (M:=model prog w) he;have s1:=x.sub (M:=model prog w) X (.type "ValueError");rw[x.val]at s1;obtain⟨dd,k0,k1,k2,k3,k5,ho⟩:=x.ob;have hC:h.get? C=some ⟨.type "type",dd,.cls cd,#[k0,k1,k2,k3,some (.builtin "ValueError.__new__"),k5]⟩:=X _ _ ho;have star:=F.noStar;refine wpAny_call (codeAny_call_builtin F.init.plain F.initEntry ?_);simp only[checkBuiltinCall,F.initKind,F.initSplit,F.initRow];unfold isInstance Bind.checkArgs;refine wpAny_bind (wpAny_bind (ty.at (s1.at ?_)));simp only[Nx,if_false,Bool.not_true];refine wpAny_bind (m:=Bind.printed "*" true _ _) ?_;unfold Bind.printed Bind.receiverType typeNameWhole;rw[if_neg (by decide)];dsimp only;rw[if_neg (by decide)];refine wpAny_bind (ty.at ?_);refine wpAny_bind (wpAny_bind ((looks_clsIn X x.cls).at (wpAny_pure (wpAny_pure ?_))));refine wpAny_bind (m:=if("ValueError" != "*")=true then pure "ValueError" else _) ?_;rw[if_pos star];refine wpAny_pure (wpAny_onRaise ?_);show wpAny _ _ (Bind.check _ _ _ _ []) _ _ _;rw[PyProof.Rows.check_varPos];refine wpAny_pure ?_;unfold Builtin.«BaseException.__init__»;dsimp only;rw[if_neg (by simp)];unfold newTuple Builtin.BaseException.bexcPut;have hsz:0<fs.size:=(NP.mp h0).1;have e1:=MU (h:=h) (jy vs) he;refine wpAny_bind (wpAny_newObj_type ?_ (by show vs.toArray.size≤sizeLine;rw[M0];exact hv));refine wpAny_bind (wpAny_bind (wpAny_field (s:=⟨h.push (jy vs),g,d,t,os⟩) e1 rfl h0 ?_));refine wpAny_bind (wpAny_setField (s:=⟨h.push (jy vs),g,d,t,os⟩) e1 rfl hsz ?_);exact wpAny_letGo (wpAny_pure k)
end
section
variable{prog:Program}{w:World}{A:Around}{E:Value→Shared→Prop}{s:Shared}{K:Frag}
theorem C0:findCls K (.type "ValueError") (.type "type") "__init__" = some (.val (.builtin "ValueError.__init__")):=by kernel_rfl
theorem Eh:findIn K (.type "type") "__getattribute__" = some (some (.builtin "type.__getattribute__")):=by kernel_rfl
theorem BG{M:Model}{h:Heap}:Looks M h (typeOf (.type "ValueError")) (.type "type"):=Looks.of_pure (by kernel_rfl)
theorem E4:subIn K (.type "type") (.type "type")=some true:=by kernel_rfl
theorem E5{M:Model}{h:Heap}:Looks M h (opaqueClassAbove (.type "ValueError")) none:=Looks.of_pure (by kernel_rfl)
theorem C1{pl:Sem Bool}{Q:Value×List Value→Shared→Prop}(X:K.In s.heap)(k:Q (.builtin "ValueError.__init__",[]) {s with toks:=s.toks+1}) :
  wpAny (model prog w) A (getMethod (.type "ValueError") "__init__" pl) Q E s:=by
 have sp:Looks (model prog w) s.heap (specialOf (.type "ValueError") "__getattribute__") (some (.builtin "type.__getattribute__")):=BG.andThen (looks_findIn X Eh);unfold getMethod;refine wpAny_bind (sp.here ?_);dsimp only;rw[if_pos canon_tga];refine wpAny_bind (cls_open (hook:=none) X E5 BG Eh (Looks.of_pure (by kernel_rfl)) E4 C0 ?_);refine wpAny_pure ?_;show wpAny _ _ (handedOut _) _ _ _;rw[handedOut_of (by kernel_rfl)];exact wpAny_pure (wpAny_pure k)
end
section
variable{prog:Program}{w:World}{A:Around}{E:Value→Shared→Prop}{s:Shared}{K:Frag}{env:Env}
noncomputable def zC(K:Frag)(E:Value→Shared→Prop)(v:Value)(s1:Shared):Prop :=
 ∃(ea C:Addr) (cd:ClassData) (od:Option Addr) (fs:Array Value) (sl:Array (Option Value)),v=.ref ea∧s1.heap.get? ea=some (bX (.ref C) od fs sl)∧fs[1]?=some .none∧du K C cd∧K.In s1.heap∧E (.ref ea) s1
theorem zD{e:Expr}{pos:Pos}{Q:Flow→Shared→Prop}(hh:A.handled=none)(k:wpAny (model prog w) A (eval e env) (zC K E) E s) :
  wpAny (model prog w) A (exec (.Raise (some e) none pos) env) Q E s:=by
 show wpAny (model prog w) A (do standAt pos;raiseStmt env (some (do let v ←eval e env;standAt pos;pure v)) none) Q E s
 refine wpAny_bind (wpAny_standAt ?_);unfold raiseStmt;dsimp only;refine wpAny_bind (wpAny_bind (wpAny_mono k (λv s1 q=>wpAny_bind (wpAny_standAt (wpAny_pure ?_))) λ_ _ z=>z));obtain⟨ea,C,cd,od,fs,sl,rfl,he,h1,x,X,hE⟩:=q;obtain⟨hp,g,d,tk,os⟩:=s1;have ty:=rA (M:=model prog w) he;have nt:Looks (model prog w) hp (isType (.ref ea)) false:=by
  intro A' Q' E' s' kk q;unfold isType loadHead;exact wpAny_bind (wpAny_loadPart (kk _ _ he) (wpAny_pure q))
 have sb:=x.sub (M:=model prog w) X (.type "BaseException");rw[x.bas]at sb;have ct:=x.typ (M:=model prog w) X;have f1:Looks (model prog w) hp (field (.ref ea) 1) .none:=looks_field he 1 h1;refine wpAny_bind (wpAny_pure ?_);dsimp only;refine wpAny_bind (wpAny_holding ?_);unfold excFromValue isExcClass isInstance
 repeat (first|simp only[Nx,if_false,if_true]|lk)
 show wpAny _ _ handled _ _ _;refine wpAny_handled ?_;rw[hh];exact wpAny_throw hE
theorem vp{ea C D:Addr}{cd cd':ClassData}{od:Option Addr}{fs:Array Value}{sl:Array (Option Value)}{h:Heap}{g:Array GenState}{d:Drawn}{t:Nat}{os:OsState}{Q:Bool→Shared→Prop}{M:Model}(x:du K C cd)(y:du K D cd')(X:K.In h)
  (he:h.get? ea=some (bX (.ref C) od fs sl)) (q:Q (cd.mro.contains (.ref D)) ⟨h,g,d,t,os⟩):wpAny M A (excMatches (.ref ea) (.ref D)) Q E ⟨h,g,d,t,os⟩:=by
 have ty:=rA (M:=M) he;have td:=y.typ (M:=M) X;have ti:=y.Kh (M:=M) X;have tn:Looks M h (isSubtype (.type "type") (.type "tuple")) false:=Looks.of_pure tc_notTuple;have yb:=y.sub (M:=M) X (.type "BaseException");rw[y.bas]at yb;have xs:=x.sub (M:=M) X (.ref D);unfold excMatches isInstance isExcClass
 repeat (first|simp only[Nx,if_false,if_true,Bool.not_true]|lk)
 cases hb:cd.mro.contains (.ref D) with
 | true =>
  rw[hb]at q;simp only[if_true]
  repeat lk
  exact q
 | false =>
  rw[hb]at q;simp only[Nx,if_false]
  repeat lk
  exact q
end
structure LY(K:Frag)(C:Addr):Prop where
 ga:findIn K (.ref C) "__getattribute__" = some (some (.builtin "BaseException.__getattribute__"))
 gt:findIn K (.ref C) "__getattr__" = some none
section
variable{prog:Program}{w:World}{A:Around}{E:Value→Shared→Prop}{h:Heap}{g:Array GenState}{d:Drawn}{t:Nat}{os:OsState}{K:Frag}{C ea:Addr}{cd:ClassData}{ox:Obj}{od:Option Obj}{name:Str}
end
section
variable{prog:Program}{w:World}{A:Around}{E:Value→Shared→Prop}{h:Heap}{g:Array GenState}{d:Drawn}{t:Nat}{os:OsState}{K:Frag}{C CH ea:Addr}{cd:ClassData}{fs:Array Value}{sl:Array (Option Value)}{name:Str}{v:Value}
end
end LX
end
section
namespace LX
open PySem
structure Kept(fr xs:List Addr)(h k:Heap):Prop where
 plain:∀ b o,h.get? b=some o→b∉fr→b∉xs→k.get? b=some o
 frame:∀ b o,h.get? b=some o→b∈fr→b∉xs→∃ sl,k.get? b=some {o with slots:=sl}
theorem Kept.trans{fr xs ys:List Addr}{h k m:Heap}(x:Kept fr xs h k)(y:Kept fr ys k m):Kept fr (xs++ys) h m where
 plain:=λb o e hb hx=>y.plain b o (x.plain b o e hb λz=>hx (Nd _ z)) hb λz=>hx (MX _ z)
 frame:=λb o e hb hx=>by
  obtain⟨sl,e1⟩:=x.frame b o e hb λz=>hx (Nd _ z);obtain⟨sm,e2⟩:=y.frame b _ e1 hb λz=>hx (MX _ z);exact⟨sm,e2⟩
theorem Kept.weak{fr xs ys:List Addr}{h k:Heap}(x:Kept fr xs h k)(s:∀ b o,h.get? b=some o→b∈xs→b∈ys):Kept fr ys h k :=
 ⟨λb o e hb hy=>x.plain b o e hb λz=>hy (s b o e z),λb o e hb hy=>x.frame b o e hb λz=>hy (s b o e z)⟩
noncomputable abbrev bZ(l:List Env):List Addr:=l.filterMap (·.frame)
section
variable{M:Model}{A:Around}{E:Value→Shared→Prop}{s:Shared}{base:Heap}{env:Env}{outer:List Env}{L e:Addr}{c:Value}{od:Option Addr}{fs:Array Value}{sl:Array (Option Value)}
theorem wC{l:List Env}(F:s.heap.FunFrames base l)(he:s.heap.get? e=some (bX c od fs sl)):e∉bZ l:=λz=>by
 obtain⟨_,o,ho,hn⟩:=F.mem z;rw[he]at ho;cases ho;exact hn fs rfl
theorem qH{h:Heap}{a:Addr}{i:Nat}{x:Value}(ha:h.get? a=some (bX c od fs sl)) :
  (h.update a (Obj.mapFields (·.setIfInBounds i x))).get? a=some (bX c od (fs.setIfInBounds i x) sl):=Heap.get?_update_self _ ha rfl
theorem qI{head:Value}{had:Bool}{Q:Unit→Shared→Prop}(hA:A.frames=some (env::outer))(F:s.heap.FunFrames base (env::outer))(hL:env.frame=some L)
  (he:s.heap.get? e=some (bX c od fs sl)) (h1:1<fs.size)
  (k:∀ m T oc ts,s.heap.objs.size≤T→Kept (bZ (env::outer)) [e] s.heap m→m.get? e=some (bX c od (fs.setIfInBounds 1 (.ref T)) sl)→m.get? T=some (bX oc none ts #[])→ts[3]?=some (rawInt L)→Q () {s with heap:=m}) :
  wpAny M A (do let a ←frameOf env;let pl ←entryPlaceOf L had;let b ←EntryCells.newEntry head a .none (rawInt L) .none pl;setField (.ref e) 1 b) Q E s:=by
 have ne:=wC F he;refine wpAny_bind (wpAny_frameOf_fun hA F hL λg hg=>?_);obtain⟨g0,g1,g2⟩:=hg;refine wpAny_bind (wpAny_entryPlaceOf λpl hp=>?_);unfold EntryCells.newEntry newFields;refine wpAny_bind (wpAny_newObj_type ?_ (hp.sizeOk5 _ _ _ _ _));have e1:g.get? e=some (bX c od fs sl):=(g1 e ne).trans he;have e2:=MU (h:=g) {cls:=.type "traceback",dict:=none,data:=.fields ([head,.ref L,.none,rawInt L,.none]++(if pl.isEmpty then List.replicate 6 Value.none else pl)).toArray} e1;refine wpAny_setField e2 rfl h1 ?_;have Te:g.objs.size≠e:=OQ (Nb e1);refine k _ g.objs.size (.type "traceback") ([head,.ref L,.none,rawInt L,.none]++(if pl.isEmpty then List.replicate 6 Value.none else pl)).toArray (Nat.le_of_eq g0.symm) ⟨λb o q hb hx=>?_,λb o q hb hx=>?_⟩ (qH e2) ?_ ?_
 ·have be:b≠e:=λz=>hx (by rw[z];exact MO.mpr rfl)
  rw[N2 _ _ (Nv be)];exact MU _ ((g1 b hb).trans q)
 ·have be:b≠e:=λz=>hx (by rw[z];exact MO.mpr rfl)
  obtain⟨sm,q2⟩:=g2 b o q;refine⟨sm,?_⟩;rw[N2 _ _ (Nv be)];exact MU _ q2
 ·rw[N2 _ _ (Nv Te)]
  exact NB g rfl
 ·first|(simp;done)|(rcases hp with rfl|⟨_,_,_,_,_,_,_,rfl⟩<;>simp)
inductive pG(h:Heap)(e:Addr)(fs:Array Value):Option Addr→Prop where
 | none (h1:fs[1]?=some .none):pG h e fs none
 | some {T:Addr} {oc:Value} {ts:Array Value} {d:Option Addr} {sl:Array (Option Value)} (h1:fs[1]?=some (.ref T)) (ne:T≠e) (hT:h.get? T=some (bX oc d ts sl)) (h3:ts[3]?=some .none):pG h e fs (some T)
theorem pG.size{h:Heap}{fs:Array Value}{T:Option Addr}(t:pG h e fs T):1<fs.size:=by
 cases t with
 | none h1=>exact(NP.mp h1).1
 | some h1=>exact(NP.mp h1).1
theorem yu{T0:Option Addr}{Q:Unit→Shared→Prop}(hA:A.frames=some (env::outer))(F:s.heap.FunFrames base (env::outer))(hL:env.frame=some L)(he:s.heap.get? e=some (bX c od fs sl))(t:pG s.heap e fs T0)
  (k:∀ m T oc ts,s.heap.objs.size≤T→Kept (bZ (env::outer)) (e::T0.toList) s.heap m→m.get? e=some (bX c od (fs.setIfInBounds 1 (.ref T)) sl)→m.get? T=some (bX oc none ts #[])→ts[3]?=some (rawInt L)→Q () {s with heap:=m}) :
  wpAny M A (noteFrame (.ref e) env) Q E s:=by
 unfold noteFrame;simp only[hL];have h1s:=t.size;cases t with
 | none h1 =>
  refine wpAny_bind (wpAny_field he rfl h1 ?_);rw[if_neg (by decide)];exact qI hA F hL he h1s k
 | @some T oc ts d sm h1 ne hT h3 =>
  refine wpAny_bind (wpAny_field he rfl h1 ?_);rw[if_pos (show(Value.ref T != Value.none)=true by simp)];refine wpAny_bind (wpAny_field hT rfl h3 ?_);rw[if_neg (show ¬((Value.none == rawInt L)=true) by simp[rawInt])];have h3s:3<ts.size:=(NP.mp h3).1;refine wpAny_bind (wpAny_setField hT rfl h3s ?_);have oth:∀ b,b≠T→(s.heap.update T (Obj.mapFields (·.setIfInBounds 3 Value.none))).get? b=s.heap.get? b:=λb hb=>N2 _ _ (Nv hb);have nT:=wC F hT;have F1:(s.heap.update T (Obj.mapFields (·.setIfInBounds 3 Value.none))).FunFrames base (env::outer):=F.of_keeps λb o hb hn=>⟨o,(oth b λz=>by rw[z,hT]at hb;cases hb;exact hn ts rfl).trans hb,rfl⟩;refine qI (s:={s with heap:=s.heap.update T (Obj.mapFields (·.setIfInBounds 3 Value.none))}) hA F1 hL ((oth e (Nv ne)).trans he) h1s λm T' oc' ts' z1 z2 z3 z4 z5=>k m T' oc' ts' ?_ ?_ z3 z4 z5
  ·have zz:(s.heap.update T (Obj.mapFields (·.setIfInBounds 3 Value.none))).objs.size=s.heap.objs.size:=(Heap.SameBut.update (h:=s.heap) (a:=T) (f:=Obj.mapFields (·.setIfInBounds 3 Value.none))).1
   rw[←zz];exact z1
  ·have kk:Kept (bZ (env::outer)) [T] s.heap (s.heap.update T (Obj.mapFields (·.setIfInBounds 3 Value.none))) :=
    ⟨λb o q _ hx=>(oth b λz=>hx (by rw[z];exact MO.mpr rfl)).trans q,λb o q _ hx=>⟨o.slots,(oth b λz=>hx (by rw[z];exact MO.mpr rfl)).trans q⟩⟩
   refine(kk.trans z2).weak λb o _ q=>?_;simp only[MS,MO]at q;simp only[Option.toList_some,Nk,OZ,or_false];exact q.symm
theorem ku{T:Addr}{oc:Value}{ts:Array Value}{d:Option Addr}{sm:Array (Option Value)}{Q:Unit→Shared→Prop}(he:s.heap.get? e=some (bX c od fs sl))(h1:fs[1]?=some (.ref T))(ne:T≠e)
  (hT:s.heap.get? T=some (bX oc d ts sm)) (h3:3<ts.size)
  (k:∀ m,(∀ b o,b≠T→s.heap.get? b=some o→m.get? b=some o)→pG m e fs (some T)→m.get? e=some (bX c od fs sl)→Q () {s with heap:=m}):wpAny M A (setFlight (.ref e) none) Q E s:=by
 unfold setFlight;refine wpAny_bind (wpAny_field he rfl h1 ?_);rw[if_pos (show(Value.ref T != Value.none)=true by simp)];have oth:∀ b o,b≠T→s.heap.get? b=some o→(s.heap.update T (Obj.mapFields (·.setIfInBounds 3 Value.none))).get? b=some o:=λb o hb q=>(N2 _ _ (Nv hb)).trans q;exact wpAny_setField hT rfl h3 (k _ oth (.some h1 ne (qH hT) (by simp[h3])) (oth e _ (Nv ne) he))
theorem BH{T0:Option Addr}{Q:Unit→Shared→Prop}(hA:A.frames=some (env::outer))(F:s.heap.FunFrames base (env::outer))(hL:env.frame=some L)(he:s.heap.get? e=some (bX c od fs sl))(t:pG s.heap e fs T0)
  (k:∀ m T fs',s.heap.objs.size≤T→Kept (bZ (env::outer)) (e::T0.toList) s.heap m→m.get? e=some (bX c od fs' sl)→fs'[0]?=fs[0]?→pG m e fs' (some T)→Q () {s with heap:=m}) :
  wpAny M A (leaving env (.ref e)) Q E s:=by
 unfold leaving;refine wpAny_bind (yu hA F hL he t λm T oc ts z1 z2 z3 z4 z5=>?_);have Te:T≠e:=OQ (Nr (Nb he) z1);have f1:(fs.setIfInBounds 1 (Value.ref T))[1]?=some (.ref T):=by
  have:=t.size
  simp[this]
 refine ku (s:={s with heap:=m}) z3 f1 Te z4 (NP.mp z5).1 λm' q1 q2 q3=>k m' T _ z1 ⟨λb o q hb hx=>?_,λb o q hb hx=>?_⟩ q3 (by simp) q2
 ·exact q1 b o (Nw (Nr (Nb q) z1)) (z2.plain b o q hb hx)
 ·obtain⟨sm,r⟩:=z2.frame b o q hb hx
  exact⟨sm,q1 b _ (Nw (Nr (Nb q) z1)) r⟩
end
end LX
end
section
namespace L2
open PySem PySem.Spec PyProof.Rows LX
noncomputable def ExP(fresh:Bool)(C e:Addr)(od:Option Addr)(h:Heap):Prop:=∃ fs sl t0,h.get? e=some (bX (.ref C) od fs sl)∧fs[0]?=some (.ref t0)∧(fresh=true→fs[1]?=some .none)
noncomputable def exo(fresh:Bool)(C e:Addr)(od:Option Addr):HO:=.ext (ExP fresh C e od)
section
variable{P:Program}{w:World}{H:Hp}{h:Heap}{b:Bool}{C e:Addr}{od:Option Addr}
theorem BI(x:ExP b C e od h):cu P w H h e (exo b C e od):=by
 refine⟨x,?_,λh1 h2 p k=>?_⟩
 ·obtain⟨fs,sl,t0,z,_⟩:=x
  exact⟨_,z⟩
 ·obtain⟨fs,sl,t0,z,r⟩:=p
  exact⟨fs,sl,t0,k _ z,r⟩
theorem uB(ok:HOk P w H h)(z:H e=some (exo b C e od)):ExP b C e od h:=(show cu P w H h e (exo b C e od) from ok e _ z).1
end
noncomputable def del(H:Hp)(a:Addr):Hp:=λb=>if b=a then none else H b
theorem wD{H:Hp}{a:Addr}:del H a a=none:=by unfold del;rw[if_pos rfl]
theorem jz{H:Hp}{a b:Addr}(h:b≠a):del H a b=H b:=by unfold del;rw[if_neg h]
theorem wF{H:Hp}{a b:Addr}{o:HO}(h:del H a b=some o):H b=some o∧b≠a:=by
 unfold del at h;by_cases q:b=a
 ·rw[if_pos q]at h;cases h
 ·rw[if_neg q]at h;exact⟨h,q⟩
section
variable{P:Program}{w:World}{H H':Hp}{h h':Heap}{a:Addr}
theorem HOk.keeps(ok:HOk P w H h)(k:∀ b u o,H b=some u→h.get? b=some o→h'.get? b=some o):HOk P w H h':=λb u q =>
 (ok b u q).wg (λc v hc r=>by
  rcases hc with rfl|hc
  ·exact k c u v q r
  ·exact k c _ v hc r) (λ_ z=>z) λ_ _ z=>z
theorem HOk.del(ok:HOk P w H h)(ha:∀ y,H a≠some (.own y))(hb:∀ xs,H a≠some (.tup xs)):HOk P w (del H a) h:=λb u q=>by
 obtain⟨q1,q2⟩:=wF q;refine(ok b u q1).wg (λ_ _ _ r=>r) (λc z=>?_) λc xs z=>?_
 ·rw[jz λe=>ha b (by rw[←e];exact z)];exact z
 ·rw[jz λe=>hb xs (by rw[←e];exact z)];exact z
end
theorem iH{h k base:Heap}:∀ {l:List Env},h.FunFrames base l→(∀ b∈frs l,∀ o,h.get? b=some o→∃ sl,k.get? b=some {o with slots:=sl})→k.FunFrames base l
 | [],_,_=>True.intro
 | env::r,⟨h1,⟨L,o,e1,e2,e3,e4⟩,h2⟩,q=>by
  have hm:L∈frs (env::r):=N6.mpr ⟨env,Nu,e1⟩;obtain⟨sl,z⟩:=q L hm o e3;refine⟨h1,⟨L,_,e1,e2,z,e4⟩,iH h2 λb hb o' z'=>q b ?_ o' z'⟩;obtain⟨x,hx,hy⟩:=N6.mp hb;exact N6.mpr ⟨x,Nn _ hx,hy⟩
structure Lies(P:Program)(w:World)(outer:List Env)(H H':Hp)(s:Shared)(ea C T:Addr)(od:Option Addr)(fs:Array Value)(sl:Array (Option Value))(s':Shared):Prop where
 os:s'.os=s.os
 bare:AllBare s'.gens
 un:Un (frs outer) [] H H' s.heap s'.heap
 hok:HOk P w H' s'.heap
 Ki:s.heap.get? ea=none
 LZ:s.heap.get? T=none
 Ei:H' ea=none
 Ji:H' T=none
 at_:s'.heap.get? ea=some (bX (.ref C) od fs sl)
 args:∃ t0,fs[0]?=some (.ref t0)
 trail:pG s'.heap ea fs (some T)
noncomputable def CXE(P:Program)(w:World):CXT:=λouter H s E e s'=>∃ ea C T od fs sl H',e=.ref ea∧Lies P w outer H H' s ea C T od fs sl s'∧E (.ref C) od H'
section
variable{X:Cx}{pins:List (Addr×Obj)}{σ:St}{H H':Hp}{s s':Shared}{ea C T:Addr}{od:Option Addr}{fs:Array Value}{sl:Array (Option Value)}
theorem Lies.frames(I:Inv X pins σ H s)(l:Lies X.prog X.w X.stack H H' s ea C T od fs sl s'):s'.heap.FunFrames X.base X.stack :=
 iH I.stack λb hb o z=>l.un.any z (I.nk b hb) (by simp)
theorem Lies.on{m:Heap}{t':Nat}(I:Inv X pins σ H s)(l:Lies X.prog X.w X.stack H H' s ea C T od fs sl s')(k:Kept (bZ X.stack) [ea,T] s'.heap m) :
  Un (frs X.stack) [] H H' s.heap m∧HOk X.prog X.w H' m:=by
 have fr:∀ b,b∈frs X.stack→H' b=none:=λb hb=>by
  obtain⟨_,o,z,_⟩:=I.stack.mem hb;exact l.un.free b o z (I.nk b hb) (by simp)
 have ne:∀ b o,s.heap.get? b=some o→b∉[ea,T]:=λb o z q=>by
  rcases Nk.mp q with e|q
  ·rw[e,l.Ki]at z;cases z
  ·rw[MO.mp q,l.LZ]at z;cases z
 refine⟨⟨λb o z n hb hx=>?_,λb o z n hb hx=>?_,l.un.free,λb o z hx=>?_,l.un.sU,l.un.rM,l.un.sV⟩,?_⟩
 ·exact k.plain b o (l.un.keep b o z n hb hx) hb (ne b o z)
 ·obtain⟨s1,z1⟩:=l.un.slot b o z n hb hx
  obtain⟨s2,z2⟩:=k.frame b _ z1 hb (ne b o z);exact⟨s2,z2⟩
 ·obtain⟨o1,z1⟩:=l.un.there b o z hx
  by_cases hb:b∈bZ X.stack
  ·obtain⟨s2,z2⟩:=k.frame b _ z1 hb (ne b o z)
   exact⟨_,z2⟩
  ·exact⟨_,k.plain b _ z1 hb (ne b o z)⟩
 ·refine l.hok.keeps λb u o z q=>k.plain b o q (λhb=>?_) λhx=>?_
  ·rw[fr b hb]at z;cases z
  ·rcases Nk.mp hx with e|hx
   ·rw[e,l.Ei]at z;cases z
   ·rw[MO.mp hx,l.Ji]at z;cases z
end
section
variable{P:Program}{w:World}{K:W.Frag}{mg:Str→Option Value}{base:Heap}{N:List Str}{qual:Str}{scope:Scope}{f:Addr}{cdv:Value}{A:Around}{outer:List Env}{s₀:Shared}{H₀:Hp}{E₀:XK}
noncomputable abbrev cxE(P:Program)(w:World)(K:W.Frag)(mg:Str→Option Value)(base:Heap)(N:List Str)(qual:Str)(scope:Scope)(f:Addr)(cdv:Value)(A:Around)(outer:List Env)(s₀:Shared)(H₀:Hp)(E₀:XK):Cx :=
 BA (CXE P w) P w K mg base N qual scope f cdv A outer s₀ H₀ E₀
theorem xt{pins:List (Addr×Obj)}{σ:St}{H H':Hp}{s s':Shared}{ea C T:Addr}{od:Option Addr}{fs:Array Value}{sl:Array (Option Value)}(I:Inv (cxE P w K mg base N qual scope f cdv A outer s₀ H₀ E₀) pins σ H s)
  (l:Lies P w (cxE P w K mg base N qual scope f cdv A outer s₀ H₀ E₀).stack H H' s ea C T od fs sl s') (hE:E₀ (.ref C) od H'):(cxE P w K mg base N qual scope f cdv A outer s₀ H₀ E₀).xe (.ref ea) s':=by
 refine BH I.ok.frames (Lies.frames I l) rfl l.at_ l.trail λm T' fs' z1 z2 z3 z4 z5=>?_;obtain⟨un,hok⟩:=l.on (t':=s'.toks) I z2;have J:Inv (cxE P w K mg base N qual scope f cdv A outer s₀ H₀ E₀) pins σ H' {s' with heap:=m}:=I.xi l.os un hok l.bare (λb z=>absurd z (by simp));have old:∀ b o,s₀.heap.get? b=some o→∃ o',s.heap.get? b=some o':=λb o z=>I.base.there b o z (OZ);have e0:s₀.heap.get? ea=none:=by
  cases q:s₀.heap.get? ea with
  | none=>rfl
  | some o =>
   obtain⟨o',z⟩:=old ea o q;rw[l.Ki]at z;cases z
 have t0:s₀.heap.get? T'=none:=by
  cases q:s₀.heap.get? T' with
  | none=>rfl
  | some o =>
   obtain⟨o1,y1⟩:=old T' o q;obtain⟨o2,y2⟩:=l.un.there T' o1 y1 (by simp);exact absurd (Nb y2) (Nat.not_lt.mpr z1)
 obtain⟨a0,ha⟩:=l.args;exact⟨ea,C,T',od,fs',sl,H',rfl,⟨J.os,J.bare,J.base,J.hok,e0,t0,l.Ei,l.hok.fresh z1,z3,⟨a0,by rw[z4];exact ha⟩,z5⟩,hE⟩
theorem Af{E:XK}(hE:∀ c od H',E c od H'→E₀ c od H'):Passes (CXE P w) (cxE P w K mg base N qual scope f cdv A outer s₀ H₀ E₀) E:=λpins σ H s e s' I h=>by
 obtain⟨ea,C,T,od,fs,sl,H',rfl,l,q⟩:=h;exact xt I l (hE _ _ _ q)
theorem leave_new{pins:List (Addr×Obj)}{σ:St}{H:Hp}{s:Shared}{ea C:Addr}{od:Option Addr}(I:Inv (cxE P w K mg base N qual scope f cdv A outer s₀ H₀ E₀) pins σ H s)(h1:H ea=some (exo true C ea od))(h0:H₀ ea=none)
  (hE:E₀ (.ref C) od (del H ea)):(cxE P w K mg base N qual scope f cdv A outer s₀ H₀ E₀).xe (.ref ea) s:=by
 obtain⟨fs,sl,a0,z,ha,hf⟩:=uB I.hok h1;have frz:∀ b,b∈frs (cxE P w K mg base N qual scope f cdv A outer s₀ H₀ E₀).stack→H b=none:=I.nk;have e0:s₀.heap.get? ea=none:=by
  cases q:s₀.heap.get? ea with
  | none=>rfl
  | some o =>
   have:=I.base.free ea o q h0 OZ
   rw[h1]at this;cases this
 refine BH I.ok.frames I.stack rfl z (.none (hf rfl)) λm T' fs' z1 z2 z3 z4 z5=>?_;have hd:HOk P w (del H ea) s.heap:=I.hok.del (λy q=>by rw[h1]at q;cases q) λxs q=>by rw[h1]at q;cases q
 have hm:HOk P w (del H ea) m:=hd.keeps λb u o q r=>by
  obtain⟨q1,q2⟩:=wF q;exact z2.plain b o r (λhb=>by rw[frz b hb]at q1;cases q1) (by simpa using q2)
 have neE:∀ b o,s₀.heap.get? b=some o→b≠ea:=λb o q r=>by rw[r,e0]at q;cases q
 have t0:s₀.heap.get? T'=none:=by
  cases q:s₀.heap.get? T' with
  | none=>rfl
  | some o =>
   obtain⟨o2,y2⟩:=I.base.there T' o q OZ;exact absurd (Nb y2) (Nat.not_lt.mpr z1)
 have neL:∀ b o,s₀.heap.get? b=some o→b∈bZ (cxE P w K mg base N qual scope f cdv A outer s₀ H₀ E₀).stack→b∈frs outer:=λb o q hb=>by
  rcases Nk.mp (I.mG b hb) with r|r
  ·exact absurd (Nb q) (by rw[r];exact Nat.not_lt.mpr I.ok.above)
  ·exact r
 have sub:∀ b,b∈frs outer→b∈bZ (cxE P w K mg base N qual scope f cdv A outer s₀ H₀ E₀).stack:=λb hb=>by
  obtain⟨x,hx,hy⟩:=N6.mp hb;exact N6.mpr ⟨x,Nn _ hx,hy⟩
 refine⟨ea,C,T',od,fs',sl,del H ea,rfl,⟨I.os,I.bare,⟨λb o q n hb hx=>?_,λb o q n hb hx=>?_,λb o q n hx=>?_,λb o q hx=>?_,λb xs q=>?_,λb o u q=>?_,λb ps q=>?_⟩,hm,e0,t0,wD,?_,z3,⟨a0,by rw[z4];exact ha⟩,z5⟩,hE⟩
 ·exact z2.plain b o (I.base.keep b o q n hb hx) (λz=>hb (neL b o q z)) (by simpa using neE b o q)
 ·obtain⟨s1,y1⟩:=I.base.slot b o q n hb hx
  obtain⟨s2,y2⟩:=z2.frame b _ y1 (sub b hb) (by simpa using neE b o q);exact⟨s2,y2⟩
 ·rw[jz (neE b o q)]
  exact I.base.free b o q n hx
 ·obtain⟨o1,y1⟩:=I.base.there b o q hx
  by_cases hb:b∈bZ (cxE P w K mg base N qual scope f cdv A outer s₀ H₀ E₀).stack
  ·obtain⟨s2,y2⟩:=z2.frame b _ y1 hb (by simpa using neE b o q)
   exact⟨_,y2⟩
  ·exact⟨_,z2.plain b _ y1 hb (by simpa using neE b o q)⟩
 ·have r:=I.base.sU b xs q
  rw[jz λe=>by rw[e,h1]at r;cases r];exact r
 ·have r:=I.base.rM b o u q
  rw[jz λe=>by rw[e,h1]at r;cases r];exact r
 ·obtain⟨more,r⟩:=I.base.sV b ps q
  exact⟨more,by rw[jz λe=>by rw[e,h1]at r;cases r];exact r⟩
 ·by_cases q:T'=ea
  ·rw[q];exact wD
  ·rw[jz q];exact I.hok.fresh z1
end
theorem Fun.okE{P:Program}{w:World}{K:W.Frag}{mg:Str→Option Value}{base:Heap}{x qual:Str}{st:Stmt}{f:Addr}{fd:FuncData}{N ps:List Str}{k:Nat}{sp:Sp}(F:Fun K x qual st f fd)(S:au N ps (aj st))(len:∀ vs H Q E,sp vs H Q E→vs.length=ps.length)
  (kq:∀(cdv:Value) (A:Around) (outer:List Env) (s:Shared) (H:Hp) (vs:List V) (Q:VK) (E:XK),dS k (A.deeper (envOfC qual (aj st) s.heap.objs.size f cdv))→sp vs H Q E →
   ∃ t,PSs (cxE P w K mg base N qual (aj st) f cdv A outer s H E) (aw st) t∧t {nx:=λ_ H'=>Q .non H',rt:=Q} (start N vs) H):cL P w K mg base (CXE P w) (k+1) f fd ps sp:=by
 obtain⟨oc,od,kV,doc,pm,an,cdv,ct,osl,rfl,lk,hcd⟩:=F.ex;exact IS lk hcd S len λA outer s H vs Q E hr hsp=>kq cdv A outer s H vs Q E hr hsp
noncomputable def wG(X:Cx)(E:XK):Prop:=∀(pins:List (Addr×Obj)) (σ:St) (H:Hp) (s:Shared) (ea C:Addr) (od:Option Addr),Inv X pins σ H s→H ea=some (exo true C ea od)→X.H₀ ea=none→E (.ref C) od (del H ea)→X.xe (.ref ea) s
theorem dW{P:Program}{w:World}{K:W.Frag}{mg:Str→Option Value}{base:Heap}{N:List Str}{qual:Str}{scope:Scope}{f:Addr}{cdv:Value}{A:Around}{outer:List Env}{s₀:Shared}{H₀:Hp}{E₀:XK} :
  wG (cxE P w K mg base N qual scope f cdv A outer s₀ H₀ E₀) E₀:=λ_ _ _ _ _ _ _ I h1 h0 q=>leave_new I h1 h0 q
noncomputable def E6(H₀:Hp)(K:W.Frag)(E:XK)(te:TE):TS:=λ_ σ H=>te σ H λv H1=>∃ ea C od,v=.ref ea∧H1 ea=some (exo true C ea od)∧(∃ cd,du K C cd)∧H₀ ea=none∧E (.ref C) od (del H1 ea)
section
variable{X:Cx}
theorem b0{e:Expr}{te:TE}{pos:Pos}{E:XK}(hc:X.calm=true)(hx:wG X E)(he:PE X e te):PS X (.Raise (some e) none pos) (E6 X.H₀ X.K E te):=by
 intro pins s σ H D I h;refine zD (K:=X.K) (I.ok.hd hc) (thn (he pins s σ H _ I h) λu s1 ⟨v,H1,I1,r,ea,C,od,ev,h1,⟨cd,xc⟩,h0,q⟩=>?_);subst ev;obtain rfl:u=Value.ref ea:=r;obtain⟨fs,sl,a0,z,ha,hf⟩:=uB I1.hok h1;exact⟨ea,C,cd,od,fs,sl,rfl,z,hf rfl,xc,I1.kIn,hx pins σ H1 s1 ea C od I1 h1 h0 q⟩
noncomputable def cq(CX:CXT)(X:Cx)(EK:St→XK):Prop:=∀(pins:List (Addr×Obj)) (σ:St) (H:Hp) (s:Shared) (e:Value) (s':Shared),Inv X pins σ H s→CX X.stack H s (EK σ) e s'→X.xe e s'
theorem Passes.x{CX:CXT}{E:XK}(h:Passes CX X E):cq CX X (λ_=>E):=λpins σ H s e s' I q=>h pins σ H s e s' I q
noncomputable def Cy(sp:Sp)(dvs:List V)(EK:St→XK)(t:TA):TE:=λσ H Q=>t σ H λvs H1=>sp (vs++dvs) H1 Q (EK σ)
inductive Ej(C:Addr)(m:Str)(x:V)(H:Hp)(k:Prop):Prop where
 | mk (a dx:Addr) (fs:List (Str×V)):x=.ref a→H a=some (.ins C dx fs)→fs.lookup m=none→k→Ej C m x H k
noncomputable def Ag(C:Addr)(m:Str)(sp:Sp)(dvs:List V)(EK:St→XK)(ta:TE)(t:TA):TE:=λσ H Q=>ta σ H λx H1=>Ej C m x H1
 (t σ H1 λvs H2=>sp (x::(vs++dvs)) H2 Q (EK σ))
noncomputable def Kj(C:Addr)(sp:Sp)(EK:St→XK)(t:TA):TE:=λσ H Q=>t σ H λvs H1=>∀ ea,H1 ea=none→sp (.ref ea::vs) (upd H1 ea (exo true C ea none)) (λv H2=>v=.non∧Q (.ref ea) H2) (EK σ)
variable{CX:CXT}{k:Nat}{f C:Addr}{fd:FuncData}{ps:List Str}{sp:Sp}{dvs:List V}{ds:List Value}{EK:St→XK}{x m:Str}{p pos apos:Pos}{e o:Expr}{es:List Expr}{ta:TE}{t:TA}
theorem Ek{pins:List (Addr×Obj)}{σ:St}{H:Hp}{s:Shared}{Q:VK}{us:List Value}{vs:List V}(F:cL X.prog X.w X.K X.mg X.base CX k f fd ps sp)(hr:dS k X.A)(hb:Binds X.K fd ps ds)(hd:Vals dvs ds)(hx:cq CX X EK)
  (I:Inv X pins σ H s) (r:Vals vs us) (h:sp (vs++dvs) H Q (EK σ)):wpAny (model X.prog X.w) X.A (call (.ref f) us) (EP X pins σ Q) X.xe s:=by
 have r2:Vals (vs++dvs) (us++ds):=r.append hd;have hl:(us++ds).length=ps.length:=by rw[←r2.length];exact F.len _ _ _ _ h
 refine wpAny_call (codeAny_mono (F.run X.A X.stack s H ⟨us,[]⟩ (us++ds) (vs++dvs) Q (EK σ) hr I.FV (hb s us I.kIn hl) r2 h) λr s' hq=>?_);cases r with
 | error e=>exact hx pins σ H s e s' I hq
 | ok fl =>
  cases fl with
  | ret u=>exact I.after hq
  | _=>exact False.elim hq
theorem bG(F:cL X.prog X.w X.K X.mg X.base CX k f fd ps sp)(hr:dS k X.A)(hg:Gl X x)(hm:X.mg x=some (.ref f))(hk:PySem.W.keepIn X.K (.ref f)=true)(hb:Binds X.K fd ps ds)(hd:Vals dvs ds)(hx:cq CX X EK)
  (ha:PA X (e::es) t) (hdb:(x == ("__debug__" : Str))=false:=by decide) (he:starEach (e::es) X.env=(false,eval e X.env)::starEach es X.env:=by rfl) (hpl:(backTo pos (starEach es X.env)).any (·.1)=false:=by rfl) :
  PE X (.Call (.Name x p) (e::es) [] pos) (Cy sp dvs EK t):=by
 intro pins s σ H Q I h;refine wpAny_Call_Name_kw (g8 I hg hm ?_ hdb);exact PySem.W.callWith_K (h₀:=X.base) I.ok.mod.kin hk (thn (ha pos pins s σ H _ I h) λus s1 ⟨vs,H1,I1,r,q⟩=>⟨I1.kIn,Ek F hr hb hd hx I1 r q⟩) he hpl
theorem C2{pl:Sem Bool}(he:PE X o ta)(c:Cls X.K C)(hm:Meth X.K C m f)(F:cL X.prog X.w X.K X.mg X.base CX k f fd ps sp)(hr:dS k X.A)(hb:Binds X.K fd ps ds)(hd:Vals dvs ds)(hx:cq CX X EK)(ha:PA X (e::es) t)
  (hst:starEach (e::es) X.env=(false,eval e X.env)::starEach es X.env:=by rfl) (hpl:(backTo pos (starEach es X.env)).any (·.1)=false:=by rfl)
  (ht:eval (.Call (.Attribute o m apos) (e::es) [] pos) X.env=(do
   let ov ←eval o X.env
   standAt apos.atName
   let (f,first) ←holding [ov] (getMethod ov m pl)
   callWith pos f first (backTo pos (starEach (e::es) X.env)) (backToKw pos (keywordEach [] X.env))):=by rfl) :
  PE X (.Call (.Attribute o m apos) (e::es) [] pos) (Ag C m sp dvs EK ta t):=by
 intro pins s σ H Q I h;refine PySem.W.methodCall_KW (pl:=pl) (thn (he pins s σ H _ I h) λu s1 ⟨x,H1,I1,rx,a,dx,fs,ex,ea,l,q⟩=>?_) ht;subst ex;obtain rfl:u=Value.ref a:=rx;refine qG I1 ea c hm l ?_;exact PySem.W.callWith_K (first:=[.ref a]) (h₀:=X.base) I.ok.mod.kin hm.kp (thn (ha pos pins s1 σ H1 _ I1 q) λus s2 ⟨vs,H2,I2,r,q2⟩=>⟨I2.kIn,Ek (us:=.ref a::us) (vs:=.ref a::vs) F hr hb hd hx I2 (.cons rfl r) q2⟩) hst hpl
theorem AH{pl:Sem Bool}(he:PE X o ta)(c:Cls X.K C)(hm:Meth X.K C m f)(F:cL X.prog X.w X.K X.mg X.base CX k f fd ps sp)(hr:dS k X.A)(hb:Binds X.K fd ps ds)(hd:Vals dvs ds)(hx:cq CX X EK)
  (ht:eval (.Call (.Attribute o m apos) [] [] pos) X.env=(do
   let ov ←eval o X.env
   standAt apos.atName
   let (f,first) ←holding [ov] (getMethod ov m pl)
   callWith pos f first (backTo pos (starEach [] X.env)) (backToKw pos (keywordEach [] X.env))):=by rfl) :
  PE X (.Call (.Attribute o m apos) [] [] pos) (Ag C m sp dvs EK ta Ec):=by
 intro pins s σ H Q I h;refine PySem.W.methodCall_KW (pl:=pl) (thn (he pins s σ H _ I h) λu s1 ⟨x,H1,I1,rx,a,dx,fs,ex,ea,l,q⟩=>?_) ht;subst ex;obtain rfl:u=Value.ref a:=rx;refine qG I1 ea c hm l ?_;exact PySem.W.callWith_K0 (first:=[.ref a]) I1.kIn hm.kp (Ek (us:=[.ref a]) (vs:=[.ref a]) F hr hb hd hx I1 (.cons rfl .nil) q)
structure MkX(K:W.Frag)(C f:Addr):Prop where
 cls:∃ cd,du K C cd
 init:PySem.W.findIn K (.ref C) "__init__" = some (some (.ref f))
 fn:PySem.W.isFn K (.ref f)=true
 kp:PySem.W.keepIn K (.ref C)=true
theorem C3{pins:List (Addr×Obj)}{σ:St}{H:Hp}{s:Shared}{Q:VK}{us:List Value}{vs:List V}(M:MkX X.K C f)(F:cL X.prog X.w X.K X.mg X.base CX k f fd ps sp)(hr:dS (k+1) X.A)(hb:Binds X.K fd ps [])(hx:cq CX X EK)(hps:ps.length≤1000)
  (I:Inv X pins σ H s) (r:Vals vs us) (h:∀ ea,H ea=none→sp (.ref ea::vs) (upd H ea (exo true C ea none)) (λv H2=>v=.non∧Q (.ref ea) H2) (EK σ)) :
  wpAny (model X.prog X.w) X.A (call (.ref C) us) (EP X pins σ Q) X.xe s:=by
 have hq:=h (s.heap.objs.size+1) (I.hok.fresh (OF _));obtain⟨cd,xc⟩:=M.cls;have r2:Vals (V.ref (s.heap.objs.size+1)::vs) (Value.ref (s.heap.objs.size+1)::us):=.cons rfl r;have hl:(Value.ref (s.heap.objs.size+1)::us).length=ps.length:=by rw[←r2.length];exact F.len _ _ _ _ hq
 have hz:us.length≤sizeLine:=by rw[NU]at hl;rw[sizeLine_eq];omega
 have I2:Inv X pins σ (upd H (s.heap.objs.size+1) (exo true C (s.heap.objs.size+1) none)) {s with heap:=fZ s.heap C us}:=by
  refine I.laid (t':=s.toks) (λb u q=>MU _ (MU _ q)) (OF _) (BI ⟨#[.ref s.heap.objs.size,.none,.none,.none,.bool false,.none],#[],s.heap.objs.size,?_,rfl,λ_=>rfl⟩);show(fZ s.heap C us).get? (s.heap.objs.size+1)=some (xY C s.heap.objs.size);heap_get
 obtain⟨hh,g,d,tk,os⟩:=s;refine wpAny_call (AG xc I.kIn M.init (beq_iff_eq.mp M.fn) hz (codeAny_mono (F.run _ X.stack _ _ ⟨Value.ref (hh.objs.size+1)::us,[]⟩ (Value.ref (hh.objs.size+1)::us) _ _ (EK σ) (hr.make C us []) (I2.FV.make C us [])
  (by have:=hb _ (Value.ref (hh.objs.size+1)::us) I2.kIn (by rw[N3];exact hl);rw[N3]at this;exact this) r2 hq) λr s' hq'=>?_))
 cases r with
 | error e=>exact hx pins σ _ _ e s' I2 hq'
 | ok fl =>
  cases fl with
  | ret u =>
   obtain⟨v,H',I3,rv,ev,q3⟩:=I2.after hq';subst ev;exact⟨rv,⟨V.ref (hh.objs.size+1),H',I3,rfl,q3⟩⟩
  | _=>exact False.elim hq'
theorem E7(M:MkX X.K C f)(F:cL X.prog X.w X.K X.mg X.base CX k f fd ps sp)(hr:dS (k+1) X.A)(hg:Gl X x)(hm:X.mg x=some (.ref C))(hb:Binds X.K fd ps [])(hx:cq CX X EK)
  (ha:PA X (e::es) t) (hps:ps.length≤1000:=by decide) (hdb:(x == ("__debug__" : Str))=false:=by decide) (he:starEach (e::es) X.env=(false,eval e X.env)::starEach es X.env:=by rfl) (hpl:(backTo pos (starEach es X.env)).any (·.1)=false:=by rfl) :
  PE X (.Call (.Name x p) (e::es) [] pos) (Kj C sp EK t):=by
 intro pins s σ H Q I h;refine wpAny_Call_Name_kw (g8 I hg hm ?_ hdb);exact PySem.W.callWith_K (h₀:=X.base) I.ok.mod.kin M.kp (thn (ha pos pins s σ H _ I h) λus s1 ⟨vs,H1,I1,r,q⟩=>⟨I1.kIn,C3 M F hr hb hx hps I1 r q⟩) he hpl
end
theorem AI{H:Hp}{a:Addr}{o:HO}(h:H a=some o):upd H a o=H:=by
 funext b
 by_cases e:b=a
 ·rw[e,ag,h]
 ·rw[ab e]
section
variable{X:Cx}
noncomputable def tVe(K:W.Frag)(t:TA):TE:=λσ H Q=>t σ H λvs H1=>∃ ea C od r,vs=.ref ea::r∧r.length≤1000∧H1 ea=some (exo true C ea od)∧(∃ cd,du K C cd)∧Q .non H1
theorem Jj{p apos pos:Pos}{e:Expr}{es:List Expr}{t:TA}{pl:Sem Bool}(hg:Gl X "ValueError")(hm:X.mg "ValueError" = none)(ha:PA X (e::es) t)
  (hst:starEach (e::es) X.env=(false,eval e X.env)::starEach es X.env:=by rfl) (hpl:(backTo pos (starEach es X.env)).any (·.1)=false:=by rfl)
  (ht:eval (.Call (.Attribute (.Name "ValueError" p) "__init__" apos) (e::es) [] pos) X.env=(do
   let ov ←eval (.Name "ValueError" p) X.env
   standAt apos.atName
   let (f,first) ←holding [ov] (getMethod ov "__init__" pl)
   callWith pos f first (backTo pos (starEach (e::es) X.env)) (backToKw pos (keywordEach [] X.env))):=by rfl) :
  PE X (.Call (.Attribute (.Name "ValueError" p) "__init__" apos) (e::es) [] pos) (tVe X.K t):=by
 intro pins s σ H Q I h;refine PySem.W.methodCall_KW (pl:=pl) (rN I hg hm PyProof.Rows.Boot.«ValueError» ?_) ht;refine C1 I.kIn ?_;refine PyProof.Rows.callWith_builtin1 (thn (ha pos pins _ σ H _ (I.tok _) h) λus s1 ⟨vs,H1,I1,r,ea,C,od,rr,ev,hl,h1,⟨cd,xc⟩,q⟩=>?_) hst hpl;subst ev;cases r with
 | @cons _ u _ us' r1 r2 =>
 obtain rfl:u=Value.ref ea:=r1;obtain⟨fs,sl,a0,z,ha,hf⟩:=uB I1.hok h1;have hz:us'.length≤sizeLine:=by rw[←r2.length,sizeLine_eq];omega
 have I2:Inv X pins σ H1 {s1 with heap:=s1.heap.push (jy us')}:=I1.kept (t':=s1.toks) λb u q=>MU _ q;have z2:=MU (h:=s1.heap) (jy us') z;have hs0:0<fs.size:=(NP.mp ha).1;have I3:Inv X pins σ (upd H1 ea (exo true C ea od)) {s1 with heap:=(s1.heap.push (jy us')).update ea (Obj.mapFields (·.setIfInBounds 0 (.ref s1.heap.objs.size)))}:=by
  refine I2.write (x:=ea) (e:=ea) (t':=s1.toks) (by rw[h1];exact True.intro) (.inl rfl) (λb u hb q=>(N2 _ _ (Nv hb)).trans q) ⟨_,qH z2⟩ (BI ⟨_,_,s1.heap.objs.size,qH z2,by simp[hs0],λ_=>?_⟩)
  have:=hf rfl
  simpa using this
 rw[AI h1]at I3;obtain⟨hh,g,d,tk,os⟩:=s1;exact vo xc I1.kIn z ha hz ⟨.non,H1,I3,rfl,q⟩
noncomputable abbrev TF:=St→Hp→(Hp→Prop)→Prop
noncomputable def PF(X:Cx)(e:Expr)(t:TF):Prop :=
 ∀(pins:List (Addr×Obj)) (s:Shared) (σ:St) (H:Hp) (Q:Hp→Prop),Inv X pins σ H s→t σ H Q→wpAny (model X.prog X.w) X.A (eval e X.env) (λv s1=>∃ y tk H1,v=.str y tk∧y.length≤2000∧Inv X pins σ H1 s1∧Q H1) X.xe s
noncomputable def PFs(X:Cx)(es:List Expr)(t:TF):Prop :=
 ∀(out:Str) (pins:List (Addr×Obj)) (s:Shared) (σ:St) (H:Hp) (Q:V→Hp→Prop),out.length+2000*es.length≤100000→Inv X pins σ H s→t σ H (λH1=>∀ y,y.length≤100000→Q (.str y) H1) →
  wpAny (model X.prog X.w) X.A (joinParts out (evalEach es X.env)) (EP X pins σ Q) X.xe s
noncomputable def El:TF:=λ_ H Q=>Q H
noncomputable def L0(te:TE):TF:=λσ H Q=>te σ H λv H1=>∃ i,v=.int i∧i.natAbs.log2<1920∧Q H1
noncomputable def E8(t u:TF):TF:=λσ H Q=>t σ H λH1=>u σ H1 Q
theorem wH:(100000:Nat)≤sizeLine:=by rw[sizeLine_eq];omega
theorem cJ{x j pos}(hl:x.length≤2000:=by decide +kernel):PF X (.Constant (.str x) j pos) El:=λ_ _ _ H _ I h=>Calls.Constant_str ⟨_,_,H,rfl,hl,I.tok _,h⟩
theorem eJ{e:Expr}{te:TE}{pos:Pos}(he:PE X e te):PF X (.FormattedValue e (-1) none pos) (L0 te):=by
 intro pins s σ H Q I h;refine FormattedValue_plain (thn (he pins s σ H _ I h) λu s1 ⟨v,H1,I1,r,i,ev,hi,q⟩=>?_);subst ev;obtain⟨t,rfl⟩:=(show ∃ t,u=Value.int i t from r);exact formatField_int_small hi ⟨_,_,H1,rfl,Nh (int_text_len_1921 hi) (by decide),I1.tok _,q⟩
theorem dv:PFs X [] El:=λout pins s σ H Q hl I h =>
 joinParts_nil ⟨.str out,H,I.tok _,⟨_,rfl⟩,h out (by simpa using hl)⟩ (Nh (by simpa using hl) wH)
theorem aQ{e:Expr}{es:List Expr}{t u:TF}(h1:PF X e t)(h2:PFs X es u):PFs X (e::es) (E8 t u):=by
 intro out pins s σ H Q hl I h;rw[NU]at hl;refine joinParts_consE (joinParts_cons (thn (h1 pins s σ H _ I h) λv s1 ⟨y,tk,H1,ev,hy,I1,q⟩=>?_));subst ev;have hz:(out++y).length+2000*es.length≤100000:=by rw[strLen_append];omega
 exact⟨Nh (by omega) wH,h2 (out++y) pins s1 σ H1 Q hz I1 q⟩
noncomputable def Jk(t:TF):TE:=λσ H Q=>t σ H λH1=>∀ y,y.length≤100000→Q (.str y) H1
theorem dw{e e':Expr}{es:List Expr}{t:TF}{pos:Pos}(h:PFs X (e::e'::es) t)(hl:2000*(e::e'::es).length≤100000:=by decide):PE X (.JoinedStr (e::e'::es) pos) (Jk t) :=
 λpins s σ H Q I q=>JoinedStr_many (h Str.empty pins s σ H Q (by have z:Str.empty.length=0:=rfl;rw[z];omega) I q)
end
noncomputable abbrev Cx.uV(X:Cx)(pins:List (Addr×Obj))(E:Value→Shared→Prop):Cx:={X with xe:=E,pn:=X.pn++pins}
noncomputable abbrev Cx.mK(X:Cx)(ea:Addr):Cx:={X with A:=X.A.mark (some (.ref ea)),calm:=false,xe:=λ_ _=>False}
section
variable{X:Cx}{pins:List (Addr×Obj)}{σ:St}{H:Hp}{s:Shared}{E:Value→Shared→Prop}{ea:Addr}
theorem Inv.uV(I:Inv X pins σ H s)(E:Value→Shared→Prop):Inv (X.uV pins E) [] σ H s :=
 ⟨⟨I.ok.mod,I.ok.kind,I.ok.glob,I.ok.blt,I.ok.above,I.ok.inj,I.ok.has,I.ok.cab,I.ok.hd,I.ok.frames,I.ok.stk,I.ok.exf,I.ok.bs,I.ok.bsz,I.ok.yi,I.ok.An,I.ok.qf,I.ok.frf⟩,
  I.os,I.bare,I.base,I.loc,I.cell,I.free,I.fK,λp hp=>I.pin p (by simpa using hp),I.hok,I.len⟩
theorem Inv.nz{xh:List (Addr×Obj)}(I:Inv (X.uV pins E) xh σ H s):Inv X pins σ H s :=
 ⟨⟨I.ok.mod,I.ok.kind,I.ok.glob,I.ok.blt,I.ok.above,I.ok.inj,I.ok.has,I.ok.cab,I.ok.hd,I.ok.frames,I.ok.stk,I.ok.exf,I.ok.bs,I.ok.bsz,I.ok.yi,I.ok.An,I.ok.qf,I.ok.frf⟩,
  I.os,I.bare,I.base,I.loc,I.cell,I.free,I.fK,λp hp=>I.pin p (Nd _ hp),I.hok,I.len⟩
theorem Inv.mK(I:Inv X pins σ H s)(ea:Addr):Inv (X.mK ea) pins σ H s :=
 ⟨⟨I.ok.mod,I.ok.kind,I.ok.glob,I.ok.blt,I.ok.above,I.ok.inj,I.ok.has,I.ok.cab,(λz=>nomatch z),I.ok.frames,I.ok.stk,I.ok.exf,I.ok.bs,I.ok.bsz,I.ok.yi,I.ok.An,I.ok.qf,I.ok.frf⟩,
  I.os,I.bare,I.base,I.loc,I.cell,I.free,I.fK,I.pin,I.hok,I.len⟩
theorem Inv.uncaught{Y:Cx}(I:Inv (Y.mK ea) pins σ H s)(ok:Y.Ok):Inv Y pins σ H s:=⟨ok,I.os,I.bare,I.base,I.loc,I.cell,I.free,I.fK,I.pin,I.hok,I.len⟩
end
section
variable{X:Cx}
end
section
variable{X:Cx}
noncomputable def Jl(K:W.Frag):R2:=λx y H Q=>∃ l b xs zs,x=.ref l∧y=.ref b∧SqL K H l xs∧SqL K H b zs∧xs.length+zs.length≤sizeLine∧∀ p,H p=none→Q (.ref p) (upd H p (.lst (xs++zs)))
theorem C4:OpR X (binaryOp .Add) (Jl X.K):=by
 intro pins s σ H x y v u Q I rx ry h;obtain⟨l,b,xs,zs,rfl,rfl,hx,hy,hz,q⟩:=h;cases rx;cases ry;obtain⟨vs,r1,⟨⟨c1,d1,da1,s1⟩,n1,e1,f1,_,g1⟩,_⟩:=I.list hx;obtain⟨ws,r2,⟨⟨c2,d2,da2,s2⟩,n2,e2,f2,_,g2⟩,_⟩:=I.list hy;simp only at f1 g1 f2 g2;subst f1 g1 f2 g2;have hl:vs.length+ws.length≤sizeLine:=by rw[←r1.length,←r2.length];exact hz
 have ea:vs.toArray++ws.toArray=(vs++ws).toArray:=by simp
 refine concat_meets ⟨_,e1,rfl⟩ ⟨_,e2,rfl⟩ noFill_list_add seq_list_add PySem.F.slot_list_add PySem.F.entry_list_add (PySem.F.args_list_add_2 _ _) (list_addW l b vs.toArray ws.toArray n1 n2 d1 d2 s1 s2 (by simpa using hl)) ⟨e1,e2,?_⟩;rw[ea];exact⟨.ref _,_,I.BC (t':=s.toks) (r1.append r2) (by rw[M8];exact hz),rfl,q _ I.fresh⟩
end
theorem ay.upd{H:Hp}{a:Addr}{o:HO}(h:H a=none):ay H (L2.upd H a o):=λb u q=>by rw[ab λe=>by rw[e,h]at q;cases q];exact q
structure Kk(K:W.Frag)(C:Addr):Prop where
 cls:∃ cd,du K C cd
 get:LY K C
 own:PySem.W.findIn K (.ref C) "__class__" = some (some (.builtin "object.__class__"))
noncomputable def Kl(K:W.Frag):Sp:=λvs H Q _=>∃ ea C od x,vs=[.ref ea,x]∧H ea=some (exo true C ea od)∧(∃ cd,du K C cd)∧Q .non H
theorem aV{P:Program}{w:World}{X:Cx}:cq (CXE P w) X.nox (λ_ _ _ _=>False):=λ_ _ _ _ _ _ _ ⟨_,_,_,_,_,_,_,_,_,q⟩=>q.elim
theorem zE{n:Int}(h:n.natAbs<2 ^ 1920):n.natAbs.log2<1920:=by
 by_cases z:n.natAbs=0
 ·rw[z];decide
 ·exact(Nat.log2_lt z).mpr h
theorem Jm{P:Program}{w:World}{outer:List Env}{H:Hp}{s:Shared}{e:Value}{s':Shared}(h:CXE P w outer H s (λ_ _ _=>False) e s'):False:=by
 obtain⟨_,_,_,_,_,_,_,_,_,q⟩:=h;exact q
noncomputable def Cz(xs ys:List V):Bool:=(List.range xs.length).all λj=>eqV (xs.getD j .non) (ys.getD j .non)
noncomputable def L1(K:W.Frag):R2:=λx y H Q=>∃ a b xs ys,x=.ref a∧y=.ref b∧SqL K H a xs∧SqL K H b ys∧xs.length=ys.length∧xs.all dj=true∧ys.all dj=true∧Q (.bl (Cz xs ys)) H
theorem E9{X:Cx}(hu:X.A.units<cLine):OpR X (compareOp .Eq) (L1 X.K):=by
 intro pins s σ H x y v u Q I rx ry h;obtain⟨a,b,xs,ys,rfl,rfl,ha,hb,hl,fx,fy,q⟩:=h;cases rx;cases ry;obtain⟨vs,r1,⟨o1,n1,e1,c1,_,g1⟩,_⟩:=I.list ha;obtain⟨ws,r2,⟨o2,n2,e2,c2,_,g2⟩,_⟩:=I.list hb;have l1:=r1.length;have l2:=r2.length;refine SeqAt.eq_listAt (e:=λj=>eqV (xs.getD j .non) (ys.getD j .non)) ⟨o1,e1,c1,n1,g1⟩ ⟨o2,e2,c2,n2,g2⟩ (by simp only[M0];omega) hu (λj h1 h2=>?_) ⟨.bl _,H,I,rfl,?_⟩
 ·simp only[M0]at h1 h2
  obtain⟨w1,z1,rz1⟩:=r1.get (i:=j) (x:=xs[j]'(by omega)) (MP (by omega));obtain⟨w2,z2,rz2⟩:=r2.get (i:=j) (x:=ys[j]'(by omega)) (MP (by omega));have a1:vs.toArray[j]=w1:=by
   have:=(MQ.mp z1).2
   simpa using this
  have a2:ws.toArray[j]=w2:=by
   have:=(MQ.mp z2).2
   simpa using this
  rw[a1,a2];have d1:xs.getD j .non=xs[j]'(by omega):=by simp[List.getD,MP (show j<xs.length by omega)]
  have d2:ys.getD j .non=ys[j]'(by omega):=by simp[List.getD,MP (show j<ys.length by omega)]
  show SeqAt.EqAt _ _ _ _ (eqV (xs.getD j .non) (ys.getD j .non));rw[d1,d2];exact uS rz1 rz2 (Oq.mp fx _ (NK _)) (Oq.mp fy _ (NK _))
 ·have:vs.toArray.size=xs.length:=by simp only[M0];omega
  rw[this];exact q
section
variable{X:Cx}
variable{o e value:Expr}{f:Str}{pos pos':Pos}{ta tv:TE}
structure Em(K:W.Frag)(C:Addr)(m:Str)(f:Addr):Prop where
 rd:PySem.W.readsIn K C (.type "type")=true
 fc:PySem.W.findCls K (.ref C) (.type "type") m=some (.val (.ref f))
 ga:PySem.W.specialIn K (.ref C) "__getattribute__" = some (some (.builtin "type.__getattribute__"))
 kp:PySem.W.keepIn K (.ref f)=true
theorem Fb{CX:CXT}{k:Nat}{f C:Addr}{fd:FuncData}{ps:List Str}{sp:Sp}{EK:St→XK}{x m:Str}{p apos pos:Pos}{e:Expr}{es:List Expr}{t:TA}{pl:Sem Bool}(hg:Gl X x)(hm:X.mg x=some (.ref C))(c:Em X.K C m f)(F:cL X.prog X.w X.K X.mg X.base CX k f fd ps sp)(hr:dS k X.A)(hb:Binds X.K fd ps [])
  (hx:cq CX X EK) (ha:PA X (e::es) t) (hdb:(x == ("__debug__" : Str))=false:=by decide) (hst:starEach (e::es) X.env=(false,eval e X.env)::starEach es X.env:=by rfl) (hpl:(backTo pos (starEach es X.env)).any (·.1)=false:=by rfl)
  (ht:eval (.Call (.Attribute (.Name x p) m apos) (e::es) [] pos) X.env=(do
   let ov ←eval (.Name x p) X.env
   standAt apos.atName
   let (f,first) ←holding [ov] (getMethod ov m pl)
   callWith pos f first (backTo pos (starEach (e::es) X.env)) (backToKw pos (keywordEach [] X.env))):=by rfl) :
  PE X (.Call (.Attribute (.Name x p) m apos) (e::es) [] pos) (Cy sp [] EK t):=by
 intro pins s σ H Q I h;refine PySem.W.methodCall_KW (pl:=pl) (g8 I hg hm ?_ hdb) ht;refine PySem.W.method_cls I.kIn c.ga (PySem.W.cls_value I.kIn c.rd c.fc rfl ?_);exact PySem.W.callWith_K (first:=[]) (h₀:=X.base) I.ok.mod.kin c.kp (thn (ha pos pins _ σ H _ (I.tok _) h) λus s1 ⟨vs,H1,I1,r,q⟩=>⟨I1.kIn,Ek F hr hb .nil hx I1 r q⟩) hst hpl
end
theorem tO{prog:Program}{w:World}{A:Around}{R:Result→Shared→Prop}{s:Shared}{elt target iter:Expr}{scope:Scope}{pos:Pos}{it acc:Value}{env:Env}(I:Nat→Shared→Prop)
  (turn:∀ n s,I n s→wpAny (model prog w) A (pyNext it) (λr s₁=>match r with
   | none=>R (.ok .next) s₁
   | some v=>wpAny (model prog w) A (letOwnedTupleGo target it v) (λ_ s5=>wpAny (model prog w) A (assign target env v) (λ_ s₂=>wpAny (model prog w) A (eval elt env) (λx s₃ =>
     wpAny (model prog w) A (call (.builtin "list.append") [acc,x]) (λ_ s₄=>∃ m,m<n∧I m s₄) (notedBy (model prog w) A env λe s'=>R (.error e) s') s₃)
     (notedBy (model prog w) A env λe s'=>R (.error e) s') s₂) (notedBy (model prog w) A env λe s'=>R (.error e) s') s5) (notedBy (model prog w) A env λe s'=>R (.error e) s') s₁) (notedBy (model prog w) A env λe s'=>R (.error e) s') s)
  (n:Nat) (h:I n s):codeAny (model prog w) A (.compLoop (.ListComp elt [⟨target,iter,[],0⟩] scope pos) 0 it acc env) R s:=by
 refine codeAny_loop rfl I (λn s hI=>?_) n h;show wpAny _ _ ((compTurn (.ListComp elt [⟨target,iter,[],0⟩] scope pos) 0 it acc env).onRaise (λx=>do noteFrame x env;theTreesLotGoes x)) _ _ s
 refine wpAny_noted ?_;rw[compTurn_list1];refine wpAny_bind (wpAny_standAt (wpAny_bind (wpAny_mono (turn n s hI) (λr s₁ h₁=>?_) λ_ _ h'=>h')));cases r with
 | none=>exact wpAny_pure h₁
 | some v =>
  refine wpAny_bind (wpAny_mono h₁ (λ_ s5 h5=>?_) λ_ _ h'=>h');exact wpAny_bind (wpAny_mono h5 (λ_ s₂ h₂=>wpAny_bind (wpAny_bind (wpAny_mono h₂ (λx s₃ h₃=>wpAny_bind (wpAny_mono h₃
   (λ_ s₄ h₄=>wpAny_pure (wpAny_pure ⟨rfl,h₄⟩)) λ_ _ h'=>h')) λ_ _ h'=>h'))) λ_ _ h'=>h')
noncomputable abbrev cxC(X:Cx)(scope:Scope)(cl:List (Str×Addr))(NC:List Str)(C:Addr)(fp:List Addr)(s₀:Shared)(H₀:Hp):Cx :=
 {X with N:=NC,s₀:=s₀,H₀:=H₀,env:=compEnvC scope cl C X.env,outer:=X.stack,ex:=fp,fn:=λ_=>false,pn:=[],xe:=λ_ _=>False}
noncomputable def i3(σ:St)(idx:List Nat):St:=idx.map λi=>(σ[i]?).getD none
structure fU(X:Cx)(scope:Scope)(cl:List (Str×Addr))(x:Str)(idx:List Nat)(NC:List Str):Prop where
 Ii:closureFor scope X.env=pure cl
 sub:∀ y c,cl.lookup y=some c→X.env.cells.lookup y=some c
 has:∀ y,((relabel scope X.env).names.lookup y=some .cell∨(relabel scope X.env).names.lookup y=some .free)→∃ c,cl.lookup y=some c
 xZ:∀ y∈scope.names,y.2≠.cell
 kind:scope.kind=.function
 loc:∀ y∈scope.names,y.2=.local→scope.names.lookup y.1=some .local
 xl:scope.names.lookup x=some .local
 nc:NC=x::idx.map λi=>X.N.getD i x
 nd:NC.Nodup
 cap:∀ i∈idx,i<X.N.length∧((X.env.scope.names.lookup (X.N.getD i x)=some .cell∨X.env.scope.names.lookup (X.N.getD i x)=some .free)∧((relabel scope X.env).names.lookup (X.N.getD i x)=some .cell∨(relabel scope X.env).names.lookup (X.N.getD i x)=some .free))
section
variable{X:Cx}{scope:Scope}{cl:List (Str×Addr)}{x:Str}{idx:List Nat}{NC:List Str}{C:Addr}{fp:List Addr}{pins:List (Addr×Obj)}{σ:St}{H:Hp}{s:Shared}
theorem rB{h1:Heap}{t':Nat}(c:fU X scope cl x idx NC)(I:Inv X pins σ H s)(hf:∀ b∈fp,qF X pins H b)(hlt:∀ b∈fp,b<s.heap.objs.size)(ns:h1.Ns s.heap.objs.size (λ_=>none))
  (k:∀ b o,s.heap.get? b=some o→h1.get? b=some o):Inv (cxC X scope cl NC s.heap.objs.size fp s H) [] (none::i3 σ idx) H {s with heap:=h1,toks:=t'}:=by
 have sub:∀ b,b∈frs X.stack→b∈X.env.locals::X.fs:=I.mG;refine⟨⟨I.ok.mod,c.kind,I.ok.glob,I.ok.blt,MR _,λy z a h1 h2=>I.ok.inj y z a (c.sub _ _ h1) (c.sub _ _ h2),c.has,λy a z=>(by cases z),I.ok.hd,I.ok.frames,.inl rfl,λb hb=>⟨Nw (hlt b hb),λy a q=>(hf b hb).2.2.2.2.1 y a (c.sub _ _ q)⟩,
  λb o q=>I.bs b o q,Nh I.ok.bsz I.sz,λb o q hb=>?_,λb hb z=>?_,I.stack,I.nk⟩,rfl,I.bare,Un.kept k,⟨_,ns,λi y v e1 e2 e3=>?_⟩,λy a q=>?_,I.hok.fresh (MR _),λy a q=>I.fK _ _ (c.sub _ _ q),λp hp=>(by cases hp),I.hok.keeps λb u o _ q=>k b o q,?_⟩
 ·rcases(hf b hb).2.2.2.1 with z|z
  ·exact I.ok.yi b o q z
  ·exact absurd (Nr (Nb (I.ok.bs b o q).1) z) (Og _)
 ·rcases Nk.mp (sub b z) with r|r
  ·exact(hf b hb).2.1 r
  ·exact(hf b hb).2.2.1 r
 ·cases i with
  | zero=>cases e2
  | succ j =>
   have e1':(idx.map λi=>X.N.getD i x)[j]?=some y:=by
    have:(cxC X scope cl NC s.heap.objs.size fp s H).N=NC:=rfl
    rw[this,c.nc]at e1;exact e1
   have e2':(i3 σ idx)[j]?=some (some v):=e2;rw[MY]at e1';unfold i3 at e2';rw[MY]at e2';cases ei:idx[j]? with
   | none=>rw[ei]at e1';cases e1'
   | some i =>
    rw[ei]at e1' e2';simp only[O4,Option.some.injEq]at e1' e2';obtain⟨hi,h2,h3⟩:=c.cap i (Na ei);rw[e1']at h2 h3;have hN:X.N[i]?=some y:=by
     rw[←e1'];simp[List.getD,MP hi]
    have hσ:σ[i]?=some (some v):=by
     cases q:σ[i]? with
     | none=>rw[q]at e2';cases e2'
     | some o=>rw[q]at e2';simp only[Option.getD_some]at e2';rw[e2']
    obtain⟨m,hn,hl⟩:=I.loc;obtain⟨u,r,l⟩:=hl i y v hN hσ (h2.elim (λz=>.inr (.inl z)) λz=>.inr (.inr z));refine⟨u,r,.inr ⟨h3,?_⟩⟩;rcases l with⟨l,_⟩|⟨_,a,ha,hc⟩
    ·exfalso
     have l':X.env.scope.names.lookup y=some .local:=l;rcases h2 with z|z<;>(rw[l']at z;cases z)
    ·obtain⟨a',ha'⟩:=c.has y h3
     have:=c.sub _ _ ha'
     rw[ha]at this;cases this;exact⟨a,ha',hc.keeps k⟩
 ·obtain⟨v,z⟩:=I.cell _ _ (c.sub _ _ q)
  exact⟨v,z.keeps k⟩
 ·show _=NC.length
  rw[c.nc];simp[i3]
noncomputable def uW(J:It)(D:Addr)(τ:St)(te:TE)(Q:VK)(H:Hp):Prop:=∃ W:Nat→Nat→List V→Hp→Prop,(∃ m,W 0 m [] H)∧∀ i m ys H2,W i m ys H2→H2 D=some (.lst ys) ∧
 ((J.stop i H2∧Q (.ref D) H2)∨(J.go i H2∧ys.length<sizeLine∧∃ N:List V→Hp→Prop,(∀ zs H',N zs H'→∃ m',m'<m∧W (i+1) m' zs H')∧∀ y H3,J.yld i H2 y H3→te (some y::τ) H3 λv H4=>H4 D=some (.lst ys)∧N (ys++[v]) (upd H4 D (.lst (ys++[v])))))
noncomputable def Jn(wi:TI)(idx:List Nat)(te:TE):TE:=λσ H Q=>wi σ H λJ H1=>∀ D,H1 D=none→uW J D (i3 σ idx) te Q (upd H1 D (.lst []))
theorem rC{X:Cx}{pins:List (Addr×Obj)}{σ:St}{H:Hp}{s:Shared}{D:Addr}{ys:List V}{v:V}{u:Value}(I:Inv X pins σ H s)(h:H D=some (.lst ys))(hz:ys.length<sizeLine)(r:RelV v u) :
  wpAny (model X.prog X.w) X.A (call (.builtin "list.append") [.ref D,u]) (λ_ s'=>Inv X pins σ (upd H D (.lst (ys++[v]))) s') X.xe s:=by
 refine thn (gp pins s σ H (.ref D) [v] (.ref D) [u] (λ_ H'=>H'=upd H D (.lst (ys++[v]))) I rfl (.cons r .nil) ⟨D,ys,v,rfl,rfl,h,hz,rfl⟩) λw s' ⟨_,H',I',_,e⟩=>?_;rw[←e];exact I'
theorem ft{elt iter:Expr}{px pos:Pos}{wi:TI}{te:TE}(c:fU X scope cl x idx NC)(hc:X.calm=true)(hi:PI X (.Name x px) iter wi)(he:∀ C fp s₀ H₀,PE (cxC X scope cl NC C fp s₀ H₀) elt te)
  (hs:∀ x,foldedSetIterable iter X.env x=pure x:=by intro _;rfl):PE X (.ListComp elt [⟨.Name x px,iter,[],0⟩] scope pos) (Jn wi idx te):=by
 intro pins s σ H Q I h;rw[eval_ListComp];refine wpAny_comprehension_free (use:=none) rfl hs c.Ii c.kind c.loc (thn (hi pins s σ H _ I h) λv s1 h1=>thn h1 λitv s2 h2=>?_);obtain⟨it,fp,tn,J,H2,rfl,I2,T,st2,f2,q⟩:=h2;refine wpAny_newObj_type (wpAny_newFunctionEnv c.xZ (by intro y hy;simp at hy) (λh₁ hns₁ hsb₁=>?_) c.kind);dsimp only at hns₁ hsb₁ ⊢;have I3:Inv X pins σ (upd H2 s2.heap.objs.size (.lst [])) {s2 with heap:=s2.heap.push {cls:=.type "list",data:=.seq ([]:List Value).toArray},toks:=s2.toks}:=I2.BC (ys:=[]) (its:=[]) .nil (NH _);obtain⟨W,⟨m0,w0⟩,turn⟩:=q s2.heap.objs.size I2.fresh;generalize hD:s2.heap.objs.size=D at *;generalize hH:s2.heap.push {cls:=.type "list",data:=.seq ([]:List Value).toArray}=h3 at *;have yv:∀ b∈fp,b<D:=λb hb=>by
  obtain⟨o,e,_⟩:=T.obj _ _ st2 b hb;rw[←hD];exact Nb e
 have hlt:∀ b∈fp,b<h3.objs.size:=λb hb=>by
  rw[←hH,OM,hD];exact OI (yv b hb)
 have hf:∀ b∈fp,qF X pins (upd H2 D (.lst [])) b:=λb hb=>⟨by rw[ab (Nw (yv b hb))];exact(f2 b hb).1,(f2 b hb).2⟩;have kp:∀ b o,h3.get? b=some o→h₁.get? b=some o:=λb o e=>hsb₁.extBut b o (Nw (Nb e)) (MU _ e);have I4:Inv (cxC X scope cl NC h3.objs.size fp {s2 with heap:=h3,toks:=s2.toks} (upd H2 D (.lst []))) [] (none::i3 σ idx) (upd H2 D (.lst [])) {s2 with heap:=h₁,toks:=s2.toks+([]:List (Str×Value)).length} :=
  rB (s:={s2 with heap:=h3,toks:=s2.toks}) c I3 hf hlt hns₁ kp
 have qg:∀ {H':Hp},(∀ b∈fp,H' b=none)→∀ b∈fp,qF (cxC X scope cl NC h3.objs.size fp {s2 with heap:=h3,toks:=s2.toks} (upd H2 D (.lst []))) [] H' b:=λhn b hb =>
  ⟨hn b hb,Nw (hlt b hb),λz=>(Nk.mp (I3.mG b z)).elim (hf b hb).2.1 (hf b hb).2.2.1,.inl hb,λy a q=>(hf b hb).2.2.2.2.1 y a (c.sub _ _ q),λp hp=>(by cases hp)⟩
 have st1:tn 0 h₁:=T.keep 0 _ _ st2 λb hb o e=>kp b o (by rw[←hH];exact MU _ e);have loop:∀ s4:Shared,s4={s2 with heap:=h₁,toks:=s2.toks+([]:List (Str×Value)).length} →
   codeAny (model X.prog X.w) X.A (.compLoop (.ListComp elt [⟨.Name x px,iter,[],0⟩] scope pos) 0 (.ref it) (.ref D) (compEnvC scope cl h3.objs.size X.env)) (compPost (model X.prog X.w) X.A X.xe none (EP X pins σ Q) (.ref D) h3.objs.size) s4:=by
  rintro s4 rfl;refine tO (λn s'=>∃ i ys H' v0,Inv (cxC X scope cl NC h3.objs.size fp {s2 with heap:=h3,toks:=s2.toks} (upd H2 D (.lst []))) [] (v0::i3 σ idx) H' s'∧tn i s'.heap∧(∀ b∈fp,H' b=none)∧W i n ys H')
   ?_ m0 ⟨0,[],_,none,I4,st1,λb hb=>(hf b hb).1,w0⟩
  rintro n s5 ⟨i,ys,H5,v0,I5,st5,fr5,w5⟩;obtain⟨hDl,alt⟩:=turn i n ys H5 w5;rcases alt with⟨stop,qn⟩|⟨go,hz,N,hN,step⟩
  ·refine thn (T.done (cxC X scope cl NC h3.objs.size fp {s2 with heap:=h3,toks:=s2.toks} (upd H2 D (.lst []))) rfl rfl rfl hc i [] s5 _ H5 _ I5 (qg fr5) st5 stop) λr s6 ⟨hr,I6⟩=>?_
   subst hr;obtain⟨m,ns6,_⟩:=id I6.loc;refine⟨m,ns6,λh' hs'=>⟨.ref D,H5,?_,rfl,qn⟩⟩;have J6:Inv X pins σ H5 s6:=I3.xi (ch:=fp) I6.os I6.base I6.hok I6.bare λb hb=>⟨(hf b hb).2.2.2.1,(hf b hb).2.1,(hf b hb).2.2.2.2.1,(hf b hb).2.2.2.2.2⟩;refine J6.turned (t':=s6.toks) (it:=h3.objs.size) (λb o hb e=>hs'.extBut b o hb e) I6.free (OQ I3.lt) (.inr I3.sz) (λy a q z=>?_) (λp hp z=>?_)
   ·obtain⟨v,q'⟩:=I3.cell y a q
    exact absurd q'.lt (by rw[z];exact Og _)
   ·exact absurd (Nb (I3.pin p hp).1) (by rw[z];exact Og _)
  ·refine thn (T.item (cxC X scope cl NC h3.objs.size fp {s2 with heap:=h3,toks:=s2.toks} (upd H2 D (.lst []))) rfl rfl rfl hc i [] s5 _ H5 _ I5 (qg fr5) st5 go) λr s6 ⟨u,hr,h6⟩=>?_
   subst hr;refine thn h6 λ_ s7 ⟨y,H7,I7,r7,y7,st7,fr7⟩=>?_;have I7':=I7.pinned (qg fr7) (T.obj _ _ st7);have hnl:(relabel scope X.env).names.lookup x=some .local:=lookup_relabel_local c.xl;refine wpAny_mono (aN (X:=cxC X scope cl NC h3.objs.size fp {s2 with heap:=h3,toks:=s2.toks} (upd H2 D (.lst []))) (i:=0) (x:=x) (pos:=px) c.nd (by show NC[0]?=some x;rw[c.nc];rfl) (.inl hnl) (.inr hnl) _ s7 _ H7 y u
    (λσ' H'=>σ'=some y::i3 σ idx∧H'=H7) I7' r7 ⟨rfl,rfl⟩) (λ_ s8 ⟨σ8,H8,I8,e8,e8'⟩=>?_) λ_ _ z=>z.elim
   subst e8 e8';refine wpAny_mono (he _ _ _ _ _ s8 _ H8 _ I8 (step y H8 y7)) (λw s9 ⟨v,H9,I9,r9,hD9,n9⟩=>?_) λ_ _ z=>z.elim;obtain⟨m',hm,w9⟩:=hN _ _ n9;refine wpAny_mono (rC (X:=(cxC X scope cl NC h3.objs.size fp {s2 with heap:=h3,toks:=s2.toks} (upd H2 D (.lst [])))) I9 hD9 hz r9) (λ_ s10 I10=>?_) λ_ _ z=>z.elim;refine⟨m',hm,i+1,ys++[v],_,some y,I10.fz,T.keep _ _ _ st7 λb hb o e=>(I10.pin (b,o) (MX _ (MX _ (cv hb e)))).1,λb hb=>?_,w9⟩;obtain⟨o,e,d⟩:=T.obj _ _ st7 b hb;exact(I10.pin (b,o) (MX _ (MX _ (cv hb e)))).2.1
 exact codeAny_compStart_list (loop _ rfl) (T.self _ 0 _ _ _ st1 (loop _ rfl))
end
section
variable{X:Cx}
theorem wI:∀ {bs:List Bool} {us:List Value},Vals (bs.map V.bl) us→us=bs.map Value.bool
 | [],_,.nil=>rfl
 | b::r,_,.cons h t=>by
  cases h;rw[wI t];rfl
noncomputable def L3(K:W.Frag):List V→Hp→VK→Prop:=λvs H Q=>∃(p:Addr) (bs:List Bool),vs=[.ref p]∧SqL K H p (bs.map V.bl)∧Q (.bl (bs.all id)) H
theorem wJ(hc:X.calm=true):gI X (.builtin "all") (L3 X.K):=by
 rintro pins s σ H xs us Q I r ⟨p,bs,rfl,hq,q⟩;obtain⟨u,rfl,ru⟩:=r.one;cases (show u=Value.ref p from ru);obtain⟨its,rv,⟨o,n,e1,e2,e3,e4⟩,hz⟩:=I.list hq;have e:=wI rv;have hl:s.heap.IsList p (bs.map Value.bool).toArray:=by
  rw[←e];exact⟨o,e1,e2,n,e4⟩
 have hlt:p<s.heap.objs.size:=Nb e1;refine call_all_walk (wpAny_pyIter_list hl ?_);refine⟨s.heap.objs.size,[s.heap.objs.size,p],[s.heap.objs.size],(bs.map Value.bool).toArray.size,_,_,λi=>(bs[i]?).getD true,rfl,Walks.list (A:=X.A.in1) (I.ok.hd hc) _ p (Nw hlt) _,
  ⟨⟨_,NB _ rfl,rfl,rfl⟩,hl.push _⟩,λi v s' Q' E' hP hQ=>?_,λh' tk hk=>?_⟩
 ·simp only[List.getElem?_toArray,MY]at hP
  cases eb:bs[i]? with
  | none=>rw[eb]at hP;cases hP
  | some b =>
   rw[eb]at hP;cases hP;simp only[eb,Option.getD_some]at hQ;exact wpAny_truthy_bool hQ
 ·have e:((List.range (bs.map Value.bool).toArray.size).all λi=>(bs[i]?).getD true)=bs.all id:=by
   rw[M0,MN];exact LSm.range_all bs
  rw[e];refine⟨.bl _,H,I.kept (t':=tk) λb x q=>hk b x (λhm=>?_) (MU _ q),rfl,q⟩;rw[MO.mp hm]at q;exact Og _ (Nb q)
theorem jA{prog:Program}{w:World}{A:Around}{R:Result→Shared→Prop}{s:Shared}{elt target iter c:Expr}{scope:Scope}{pos:Pos}{it acc:Value}{env:Env}(I:Nat→Shared→Prop)
  (turn:∀ n s,I n s→wpAny (model prog w) A (pyNext it) (λr s₁=>match r with
   | none=>R (.ok .next) s₁
   | some v=>wpAny (model prog w) A (letOwnedTupleGo target it v) (λ_ s5=>wpAny (model prog w) A (assign target env v) (λ_ s₂=>wpAny (model prog w) A (isTrue c env (eval c env)) (λok s6=>if ok=true then wpAny (model prog w) A (eval elt env) (λx s₃ =>
     wpAny (model prog w) A (call (.builtin "list.append") [acc,x]) (λ_ s₄=>∃ m,m<n∧I m s₄) (notedBy (model prog w) A env λe s'=>R (.error e) s') s₃)
     (notedBy (model prog w) A env λe s'=>R (.error e) s') s6 else ∃ m,m<n∧I m s6) (notedBy (model prog w) A env λe s'=>R (.error e) s') s₂) (notedBy (model prog w) A env λe s'=>R (.error e) s') s5) (notedBy (model prog w) A env λe s'=>R (.error e) s') s₁) (notedBy (model prog w) A env λe s'=>R (.error e) s') s)
  (n:Nat) (h:I n s):codeAny (model prog w) A (.compLoop (.ListComp elt [⟨target,iter,[c],0⟩] scope pos) 0 it acc env) R s:=by
 refine codeAny_loop rfl I (λn s hI=>?_) n h;show wpAny _ _ ((compTurn (.ListComp elt [⟨target,iter,[c],0⟩] scope pos) 0 it acc env).onRaise (λx=>do noteFrame x env;theTreesLotGoes x)) _ _ s
 refine wpAny_noted ?_;rw[compTurn_list];refine wpAny_bind (wpAny_standAt (wpAny_bind (wpAny_mono (turn n s hI) (λr s₁ h₁=>?_) λ_ _ h'=>h')));cases r with
 | none=>exact wpAny_pure h₁
 | some v =>
  refine wpAny_bind (wpAny_mono h₁ (λ_ s5 h5=>?_) λ_ _ h'=>h');refine wpAny_bind (wpAny_mono h5 (λ_ s₂ h₂=>wpAny_bind (wpAny_mono (wpAny_tests_one h₂) (λok s₃ h₃=>?_) λ_ _ h'=>h')) λ_ _ h'=>h');cases ok with
  | false=>exact wpAny_pure ⟨rfl,h₃⟩
  | true =>
   exact wpAny_bind (wpAny_bind (wpAny_mono h₃ (λx s₄ h₄=>wpAny_bind (wpAny_mono h₄ (λ_ s₅ h₅=>wpAny_pure (wpAny_pure ⟨rfl,h₅⟩)) λ_ _ h'=>h')) λ_ _ h'=>h'))
variable{scope:Scope}{cl:List (Str×Addr)}{x:Str}{idx:List Nat}{NC:List Str}{C:Addr}{fp:List Addr}{pins:List (Addr×Obj)}{σ:St}{H:Hp}{s:Shared}
noncomputable def BJ(wi:TI)(idx:List Nat)(tc:TT)(te:TE):TE:=λσ H Q=>wi σ H λJ H1=>∀ D,H1 D=none→∃ W:Nat→Nat→List V→Hp→Prop,(∃ m,W 0 m [] (upd H1 D (.lst [])))∧∀ i m ys H2,W i m ys H2→H2 D=some (.lst ys) ∧
 ((J.stop i H2∧Q (.ref D) H2)∨(J.go i H2∧ys.length<sizeLine∧∃ N:List V→Hp→Prop,(∀ zs H',N zs H'→∃ m',m'<m∧W (i+1) m' zs H')∧∀ y H3,J.yld i H2 y H3→tc (some y::i3 σ idx) H3 λb H4=>if b=true then te (some y::i3 σ idx) H4 λv H5=>H5 D=some (.lst ys)∧N (ys++[v]) (upd H5 D (.lst (ys++[v])))
  else N ys H4))
theorem AJ{elt iter ct:Expr}{px pos:Pos}{wi:TI}{tc:TT}{te:TE}(c:fU X scope cl x idx NC)(hc:X.calm=true)(hi:PI X (.Name x px) iter wi)(ht:∀ C fp s₀ H₀,PT (cxC X scope cl NC C fp s₀ H₀) ct tc)(he:∀ C fp s₀ H₀,PE (cxC X scope cl NC C fp s₀ H₀) elt te)
  (hs:∀ x,foldedSetIterable iter X.env x=pure x:=by intro _;rfl):PE X (.ListComp elt [⟨.Name x px,iter,[ct],0⟩] scope pos) (BJ wi idx tc te):=by
 intro pins s σ H Q I h;rw[eval_ListComp];refine wpAny_comprehension_free (use:=none) rfl hs c.Ii c.kind c.loc (thn (hi pins s σ H _ I h) λv s1 h1=>thn h1 λitv s2 h2=>?_);obtain⟨it,fp,tn,J,H2,rfl,I2,T,st2,f2,q⟩:=h2;refine wpAny_newObj_type (wpAny_newFunctionEnv c.xZ (by intro y hy;simp at hy) (λh₁ hns₁ hsb₁=>?_) c.kind);dsimp only at hns₁ hsb₁ ⊢;have I3:Inv X pins σ (upd H2 s2.heap.objs.size (.lst [])) {s2 with heap:=s2.heap.push {cls:=.type "list",data:=.seq ([]:List Value).toArray},toks:=s2.toks}:=I2.BC (ys:=[]) (its:=[]) .nil (NH _);obtain⟨W,⟨m0,w0⟩,turn⟩:=q s2.heap.objs.size I2.fresh;generalize hD:s2.heap.objs.size=D at *;generalize hH:s2.heap.push {cls:=.type "list",data:=.seq ([]:List Value).toArray}=h3 at *;have yv:∀ b∈fp,b<D:=λb hb=>by
  obtain⟨o,e,_⟩:=T.obj _ _ st2 b hb;rw[←hD];exact Nb e
 have hlt:∀ b∈fp,b<h3.objs.size:=λb hb=>by
  rw[←hH,OM,hD];exact OI (yv b hb)
 have hf:∀ b∈fp,qF X pins (upd H2 D (.lst [])) b:=λb hb=>⟨by rw[ab (Nw (yv b hb))];exact(f2 b hb).1,(f2 b hb).2⟩;have kp:∀ b o,h3.get? b=some o→h₁.get? b=some o:=λb o e=>hsb₁.extBut b o (Nw (Nb e)) (MU _ e);have I4:Inv (cxC X scope cl NC h3.objs.size fp {s2 with heap:=h3,toks:=s2.toks} (upd H2 D (.lst []))) [] (none::i3 σ idx) (upd H2 D (.lst [])) {s2 with heap:=h₁,toks:=s2.toks+([]:List (Str×Value)).length} :=
  rB (s:={s2 with heap:=h3,toks:=s2.toks}) c I3 hf hlt hns₁ kp
 have qg:∀ {H':Hp},(∀ b∈fp,H' b=none)→∀ b∈fp,qF (cxC X scope cl NC h3.objs.size fp {s2 with heap:=h3,toks:=s2.toks} (upd H2 D (.lst []))) [] H' b:=λhn b hb =>
  ⟨hn b hb,Nw (hlt b hb),λz=>(Nk.mp (I3.mG b z)).elim (hf b hb).2.1 (hf b hb).2.2.1,.inl hb,λy a q=>(hf b hb).2.2.2.2.1 y a (c.sub _ _ q),λp hp=>(by cases hp)⟩
 have st1:tn 0 h₁:=T.keep 0 _ _ st2 λb hb o e=>kp b o (by rw[←hH];exact MU _ e);have loop:∀ s4:Shared,s4={s2 with heap:=h₁,toks:=s2.toks+([]:List (Str×Value)).length} →
   codeAny (model X.prog X.w) X.A (.compLoop (.ListComp elt [⟨.Name x px,iter,[ct],0⟩] scope pos) 0 (.ref it) (.ref D) (compEnvC scope cl h3.objs.size X.env)) (compPost (model X.prog X.w) X.A X.xe none (EP X pins σ Q) (.ref D) h3.objs.size) s4:=by
  rintro s4 rfl;refine jA (λn s'=>∃ i ys H' v0,Inv (cxC X scope cl NC h3.objs.size fp {s2 with heap:=h3,toks:=s2.toks} (upd H2 D (.lst []))) [] (v0::i3 σ idx) H' s'∧tn i s'.heap∧(∀ b∈fp,H' b=none)∧W i n ys H')
   ?_ m0 ⟨0,[],_,none,I4,st1,λb hb=>(hf b hb).1,w0⟩
  rintro n s5 ⟨i,ys,H5,v0,I5,st5,fr5,w5⟩;obtain⟨hDl,alt⟩:=turn i n ys H5 w5;rcases alt with⟨stop,qn⟩|⟨go,hz,N,hN,step⟩
  ·refine thn (T.done (cxC X scope cl NC h3.objs.size fp {s2 with heap:=h3,toks:=s2.toks} (upd H2 D (.lst []))) rfl rfl rfl hc i [] s5 _ H5 _ I5 (qg fr5) st5 stop) λr s6 ⟨hr,I6⟩=>?_
   subst hr;obtain⟨m,ns6,_⟩:=id I6.loc;refine⟨m,ns6,λh' hs'=>⟨.ref D,H5,?_,rfl,qn⟩⟩;have J6:Inv X pins σ H5 s6:=I3.xi (ch:=fp) I6.os I6.base I6.hok I6.bare λb hb=>⟨(hf b hb).2.2.2.1,(hf b hb).2.1,(hf b hb).2.2.2.2.1,(hf b hb).2.2.2.2.2⟩;refine J6.turned (t':=s6.toks) (it:=h3.objs.size) (λb o hb e=>hs'.extBut b o hb e) I6.free (OQ I3.lt) (.inr I3.sz) (λy a q z=>?_) (λp hp z=>?_)
   ·obtain⟨v,q'⟩:=I3.cell y a q
    exact absurd q'.lt (by rw[z];exact Og _)
   ·exact absurd (Nb (I3.pin p hp).1) (by rw[z];exact Og _)
  ·refine thn (T.item (cxC X scope cl NC h3.objs.size fp {s2 with heap:=h3,toks:=s2.toks} (upd H2 D (.lst []))) rfl rfl rfl hc i [] s5 _ H5 _ I5 (qg fr5) st5 go) λr s6 ⟨u,hr,h6⟩=>?_
   subst hr;refine thn h6 λ_ s7 ⟨y,H7,I7,r7,y7,st7,fr7⟩=>?_;have I7':=I7.pinned (qg fr7) (T.obj _ _ st7);have hnl:(relabel scope X.env).names.lookup x=some .local:=lookup_relabel_local c.xl;refine wpAny_mono (aN (X:=cxC X scope cl NC h3.objs.size fp {s2 with heap:=h3,toks:=s2.toks} (upd H2 D (.lst []))) (i:=0) (x:=x) (pos:=px) c.nd (by show NC[0]?=some x;rw[c.nc];rfl) (.inl hnl) (.inr hnl) _ s7 _ H7 y u
    (λσ' H'=>σ'=some y::i3 σ idx∧H'=H7) I7' r7 ⟨rfl,rfl⟩) (λ_ s8 ⟨σ8,H8,I8,e8,e8'⟩=>?_) λ_ _ z=>z.elim
   subst e8 e8';refine wpAny_mono (ht _ _ _ _ _ s8 _ H8 _ I8 (step y H8 y7)) (λbb s11 ⟨H11,I11,q11⟩=>?_) λ_ _ z=>z.elim;have fin:∀ {H12:Hp} {s12:Shared} {zs:List V} {m':Nat},Inv (cxC X scope cl NC h3.objs.size fp {s2 with heap:=h3,toks:=s2.toks} (upd H2 D (.lst []))) ([]++qd fp s7.heap) (some y::i3 σ idx) H12 s12→m'<n→W (i+1) m' zs H12 →
     ∃ m,m<n∧∃ i ys H' v0,Inv (cxC X scope cl NC h3.objs.size fp {s2 with heap:=h3,toks:=s2.toks} (upd H2 D (.lst []))) [] (v0::i3 σ idx) H' s12∧tn i s12.heap∧(∀ b∈fp,H' b=none)∧W i m ys H':=λ{H12 s12 zs m'} I12 hm w12=>by
    refine⟨m',hm,i+1,zs,_,some y,I12.fz,T.keep _ _ _ st7 λb hb o e=>(I12.pin (b,o) (MX _ (MX _ (cv hb e)))).1,λb hb=>?_,w12⟩;obtain⟨o,e,d⟩:=T.obj _ _ st7 b hb;exact(I12.pin (b,o) (MX _ (MX _ (cv hb e)))).2.1
   cases bb with
   | false =>
    obtain⟨m',hm,w9⟩:=hN _ _ q11;exact fin I11 hm w9
   | true =>
    refine wpAny_mono (he _ _ _ _ _ s11 _ H11 _ I11 q11) (λw s9 ⟨v,H9,I9,r9,hD9,n9⟩=>?_) λ_ _ z=>z.elim;obtain⟨m',hm,w9⟩:=hN _ _ n9;refine wpAny_mono (rC (X:=(cxC X scope cl NC h3.objs.size fp {s2 with heap:=h3,toks:=s2.toks} (upd H2 D (.lst [])))) I9 hD9 hz r9) (λ_ s10 I10=>?_) λ_ _ z=>z.elim;exact fin I10 hm w9
 exact codeAny_compStart_list (loop _ rfl) (T.self _ 0 _ _ _ st1 (loop _ rfl))
end
noncomputable def Ite(K:W.Frag)(a:Addr):It :=
 ⟨λi H=>∃ xs x,SqL K H a xs∧xs[i]?=some x,λi H y H'=>∃ t x,H t=none∧y=.ref t∧(∀ xs,SqL K H a xs→xs[i]?=some x)∧H'=upd H t (.tup [.int (i:Int),x]),λi H=>∃ xs,SqL K H a xs∧xs.length≤i⟩
theorem zF{P:Program}{w:World}{K:W.Frag}{es:List Expr}{x1:Nat}{pos:Pos}(a it e:Addr)(hne:e≠it) :
  Turn P w K (.Tuple es x1 pos) (Ite K a) [e,it] e (λi h=>∃ old,IsEnum h e it i old∧h.IsListIter it a i) where
 mem:=by simp
 obj:=λi h st b hb=>by
  obtain⟨old,h1,o,q,c,d⟩:=st;rcases Nk.mp hb with z|z
  ·rw[z]
   exact⟨_,h1,λv z=>by
    have z':Data.fields _=Data.cell v:=z;cases z'⟩
  ·rw[MO.mp z]
   exact⟨o,q,λv z=>by rw[d]at z;cases z⟩
 keep:=λi h h' st k=>by
  obtain⟨old,h1,h2⟩:=st;exact⟨old,k e (by simp) _ h1,h2.at λo q=>k it (by simp) o q⟩
 item:=by
  intro X hP hw hK hc i pins s σ H E I hf st hg;subst hP hw hK;obtain⟨xs,x,hq,hx⟩:=hg;obtain⟨its,rv,p,hz⟩:=I.list hq;obtain⟨u,hu,ru⟩:=rv.get hx;obtain⟨old,he,hit⟩:=st;have fr:H s.heap.objs.size=none:=I.hok.fresh (MR _);refine wpAny_pyNext_enum_item he hit p.isList (x:=u) (by simpa using hu) hne λh1 heo hit1 ht1 hz1 hk1=>⟨_,rfl,wpAny_letOwnedTupleGo_enum heo λh2 he2 hs2=>?_⟩;replace hs2:Heap.SameBut e h1 h2:=hs2;have hel:e<s.heap.objs.size:=Nb he;have k2:∀ b o,b≠e→b≠it→s.heap.get? b=some o→h2.get? b=some o:=λb o z1 z2 q=>(hs2.2 b z1).trans (hk1 b o z1 z2 q);have ht2:h2.get? s.heap.objs.size=some {cls:=.type "tuple",data:=.seq #[.int i s.toks,u]}:=(hs2.2 _ (OQ hel)).trans ht1;have L4:h2.IsListIter it a (i+1):=hit1.extBut hs2.extBut (Nv hne);have nt:∀ b o,s.heap.get? b=some o→b≠s.heap.objs.size:=λb o q=>Nw (Nb q);have nh:∀ b v,H b=some v→b≠s.heap.objs.size:=λb v q=>ao q fr;have ne':∀ b v,H b=some v→b≠e∧b≠it:=λb v q=>⟨ao q (hf e (by simp)).1,ao q (hf it (by simp)).1⟩;refine⟨.ref s.heap.objs.size,upd H s.heap.objs.size (.tup [.int (i:Int),x]),?_,rfl,⟨_,x,fr,rfl,λys hy=>by rw[I.wo hy hq];exact hx,rfl⟩,⟨_,he2,L4⟩,λb hb=>?_⟩
  ·refine Inv.step (s:=s) (h':=h2) (t':=s.toks+1) (H:=H) (g':=s.gens) (d':=s.drawn) (ch:=[e,it]) I (λb hb=>⟨(hf b hb).2.2.2.1,(hf b hb).2.1,(hf b hb).2.2.2.2.1,(hf b hb).2.2.2.2.2⟩)
    (λb o _ _ z q _=>k2 b o (λy=>z (by simp[y])) (λy=>z (by simp[y])) q) (λb o _ _ z q _=>⟨o.slots,k2 b o (λy=>z (by simp[y])) (λy=>z (by simp[y])) q⟩)
    (λb o _ q n=>by rw[ab (nt b o q)];exact n) (λb o z q=>⟨o,k2 b o (λy=>z (by simp[y])) (λy=>z (by simp[y])) q⟩)
    (λb xs q=>by rw[ab (nh b _ q)];exact q) (λb o v q=>by rw[ab (nh b _ q)];exact q) (λb ps q=>⟨#[],by rw[ab (nh b _ q),q];simp⟩) (λm hm=>?_) (λb v q=>?_) I.bare
   ·obtain⟨o,es',ep,ho,r⟩:=hm
    exact⟨o,es',ep,k2 _ o (Nv (hf e (by simp)).2.1) (Nv (hf it (by simp)).2.1) ho,r⟩
   ·by_cases z:b=s.heap.objs.size
    ·subst z
     rw[ag]at q;cases q;exact⟨by show 2≤sizeLine;decide,[.int i s.toks,u],.cons ⟨_,rfl⟩ (.cons ru .nil),_,ht2,rfl,_,rfl⟩
    ·rw[ab z]at q
     refine(I.hok b v q).wg (λc o hc w=>?_) (λc w=>by rw[ab (nh c _ w)];exact w) λc xs w=>by rw[ab (nh c _ w)];exact w
     rcases hc with y|y
     ·rw[y]at w ⊢
      exact k2 b o (ne' b v q).1 (ne' b v q).2 w
     ·exact k2 c o (ne' c _ y).1 (ne' c _ y).2 w
  ·have hb':b<s.heap.objs.size:=by
    rcases Nk.mp hb with z|z
    ·rw[z];exact hel
    ·rw[MO.mp z]
     obtain⟨o,q,_⟩:=hit;exact Nb q
   rw[ab (Nw hb')];exact(hf b hb).1
 done:=by
  intro X hP hw hK hc i pins s σ H E I hf st hg;subst hP hw hK;obtain⟨xs,hq,hx⟩:=hg;obtain⟨its,rv,p,hz⟩:=I.list hq;obtain⟨f0,f1,f2,f3,f4,f5⟩:=hf it (by simp);have hl:=rv.length;obtain⟨old,he,hit⟩:=st;exact wpAny_pyNext_enum_end (I.ok.hd hc) he hit p.isList (by simp;omega) λh' eb=>⟨rfl,I.turned (t':=s.toks) (λb o hb q=>eb b o hb q) f0 f1 f3 f4 f5⟩
 self:=λA i s Q E st h=>by
  obtain⟨old,he,hit⟩:=st;exact wpAny_pyIter_enum he h
section
variable{X:Cx}{es:List Expr}{x1:Nat}{tp:Pos}
noncomputable def Jo(K:W.Frag)(ta:TA):TI:=λσ H R=>ta σ H λvs H1=>∃ a,vs=[.ref a]∧(∃ xs,SqL K H1 a xs)∧R (Ite K a) H1
theorem qJ{a:Expr}{ta:TA}{p pos:Pos}(hg:Gl X "enumerate")(hm:X.mg "enumerate" = none)(ha:PA X [a] ta)(hs:starEach [a] X.env=[(false,eval a X.env)]:=by rfl):PI X (.Tuple es x1 tp) (.Call (.Name "enumerate" p) [a] [] pos) (Jo X.K ta):=by
 intro pins s σ H R I h;refine Call_ (rN I hg hm PyProof.Rows.Boot.«enumerate» (PyProof.Rows.callWith_type1 (thn (ha pos pins s σ H _ I h) λus s1 ⟨vs,H1,I1,r1,q1⟩=>?_) hs rfl));obtain⟨l,e,⟨xs,hq⟩,q⟩:=q1;subst e;cases r1 with
 | cons r rr =>
  cases rr;cases r;obtain⟨its,rv,pl,hz⟩:=I1.list hq;refine call_enumerate_list pl.isList λh' he hit hsz hk=>?_;refine wpAny_pyIter_enum he ?_;refine⟨s1.heap.objs.size+1,[s1.heap.objs.size+1,s1.heap.objs.size],_,_,H1,rfl,I1.kept (t':=s1.toks) hk,zF l s1.heap.objs.size (s1.heap.objs.size+1) (Nat.succ_ne_self _),⟨_,he,hit⟩,λb hb=>?_,q⟩;have hb':s1.heap.objs.size≤b:=by
   rcases Nk.mp hb with z|z
   ·rw[z];exact OF _
   ·rw[MO.mp z]
    exact MR _
  exact I1.CL hb' (I1.hok.fresh hb')
end
theorem mQ{K:W.Frag}{a:Addr}{xs:List V}{g:TG}{tb:TS}{D:Ends}{σ:St}{H:Hp}(Pv:Nat→St→Hp→Prop)(h0:Pv 0 σ H)(hl:∀ i σ H,i≤xs.length→Pv i σ H→SqL K H a xs)
  (hs:∀ i x σ H t,xs[i]?=some x→Pv i σ H→H t=none→g (.ref t) σ (upd H t (.tup [.int (i:Int),x])) λσ2 H2=>tb {D with nx:=Pv (i+1),ct:=Pv (i+1),bk:=D.nx} σ2 H2) (hd:∀ σ H,Pv xs.length σ H→D.nx σ H) :
  ∃ W:Nat→Nat→St→Hp→Prop,(∃ m,W 0 m σ H)∧∀ i m σ H,W i m σ H →
   ((Ite K a).stop i H∧D.nx σ H)∨((Ite K a).go i H∧∃ N:St→Hp→Prop,(∀ σ' H',N σ' H'→∃ m',m'<m∧W (i+1) m' σ' H')∧∀ x H',(Ite K a).yld i H x H'→g x σ H' λσ2 H2=>tb {D with nx:=N,ct:=N,bk:=D.nx} σ2 H2):=by
 refine⟨λi m σ H=>m=xs.length-i∧i≤xs.length∧Pv i σ H,⟨xs.length,by simp,NH _,h0⟩,?_⟩;rintro i m σ H ⟨rfl,hi,p⟩;by_cases hlt:i<xs.length
 ·refine .inr ⟨⟨xs,xs[i],hl i σ H hi p,MP hlt⟩,Pv (i+1),λσ' H' p'=>⟨xs.length-(i+1),by omega,rfl,hlt,p'⟩,λx H' y=>?_⟩
  obtain⟨t,v,e1,e2,e3,e4⟩:=y;subst e2 e4;exact hs i v σ H t (e3 xs (hl i σ H hi p)) p e1
 ·have e:i=xs.length:=by omega
  subst e;exact .inl ⟨⟨xs,hl _ σ H hi p,MR _⟩,hd σ H p⟩
end L2
namespace L2
open PySem
theorem d7{K:W.Frag}{a:Addr}{xs:List V}{te:TE}{Q:VK}{D:Addr}{τ:St}{H:Hp}(Pv:Nat→List V→Hp→Prop)(h0:Pv 0 [] H)(hD:∀ i ys H,i≤xs.length→Pv i ys H→H D=some (.lst ys)∧ys.length=i)(hl:∀ i ys H,i≤xs.length→Pv i ys H→SqL K H a xs)(hn:xs.length≤sizeLine)
  (hs:∀ i x ys H,xs[i]?=some x→Pv i ys H→te (some x::τ) H λv H4=>H4 D=some (.lst ys)∧Pv (i+1) (ys++[v]) (upd H4 D (.lst (ys++[v])))) (hd:∀ ys H,Pv xs.length ys H→Q (.ref D) H):uW (Itl K a) D τ te Q H:=by
 refine⟨λi m ys H=>m=xs.length-i∧i≤xs.length∧Pv i ys H,⟨xs.length,by simp,NH _,h0⟩,?_⟩;rintro i m ys H2 ⟨rfl,hi,p⟩;obtain⟨hd1,hd2⟩:=hD i ys H2 hi p;refine⟨hd1,?_⟩;by_cases hlt:i<xs.length
 ·refine .inr ⟨⟨xs,xs[i],hl i ys H2 hi p,MP hlt⟩,by omega,Pv (i+1),λzs H' p'=>⟨xs.length-(i+1),by omega,rfl,hlt,p'⟩,λy H3 e=>?_⟩
  obtain⟨e1,e2⟩:=e;subst e1;exact hs i y ys _ (e2 xs (hl i ys _ hi p)) p
 ·have e:i=xs.length:=by omega
  subst e;exact .inl ⟨⟨xs,hl _ ys H2 hi p,MR _⟩,hd ys H2 p⟩
end L2
end
section
namespace L2
open PySem PySem.Spec PyProof.Rows LX
noncomputable def En(sc:Scope)(names:List (Str×NameKind)):List (Str×NameKind):=names.map λ(n,k)=>if(k == .free&&sc.kind == .function&&sc.names.lookup n == some .cell) then(n,.cell) else(n,k)
noncomputable def sR(sc scope:Scope)(x:Str)(ns N:List Str)(idx:List Nat):Prop :=
 (∀ y∈scope.names,y.2≠.cell)∧(∀ y∈scope.names,y.2=.local→scope.names.lookup y.1=some .local)∧scope.names.lookup x=some .local∧(∀ p∈En sc scope.names,p.2=.cell∨p.2=.free→p.1∈ns)∧(x::idx.map λi=>N.getD i x).Nodup ∧
 ∀ i∈idx,i<N.length∧((sc.names.lookup (N.getD i x)=some .cell∨sc.names.lookup (N.getD i x)=some .free)∧((En sc scope.names).lookup (N.getD i x)=some .cell∨(En sc scope.names).lookup (N.getD i x)=some .free))
noncomputable instance (sc scope:Scope) (x:Str) (ns N:List Str) (idx:List Nat):Decidable (sR sc scope x ns N idx):=by unfold sR;infer_instance
theorem ph{y:Str}:∀ {cl:List (Str×Addr)},y∈cl.map (·.1)→∃ c,cl.lookup y=some c
 | [],h=>by simp at h
 | (n,c)::r,h=>by
  by_cases e:y=n
  ·exact⟨c,by simp[List.lookup,e]⟩
  ·have h':y∈r.map (·.1):=by
    rw[Nz]at h;rcases Nk.mp h with z|z
    ·exact absurd z e
    ·exact z
   obtain⟨c',q⟩:=ph h';have hb:(y == n)=false:=beq_eq_false_iff_ne.mpr e;exact⟨c',by simp only[List.lookup,hb];exact q⟩
theorem cB{X:Cx}{sc scope:Scope}{cl:List (Str×Addr)}{x:Str}{ns N:List Str}{idx:List Nat}(hsc:X.env.scope=sc)(hN:X.N=N)(hk:scope.kind=.function)(p:sR sc scope x ns N idx)(hn:cl.map (·.1)=ns)
  (Jp:closureFor scope X.env=pure cl) (L5:∀ q∈cl,X.env.cells.lookup q.1=some q.2):fU X scope cl x idx (x::idx.map λi=>N.getD i x):=by
 obtain⟨p1,p2,p3,p4,p5,p6⟩:=p;have re:(relabel scope X.env).names=En sc scope.names:=by subst hsc;rfl
 subst hsc hN hn;refine⟨Jp,λy c q=>L5 (y,c) (N8 q),λy h=>?_,p1,hk,p2,p3,rfl,p5,λi hi=>?_⟩
 ·rw[re]at h
  refine ph ?_;rcases h with h|h
  ·exact p4 (y,.cell) (N8 h) (.inl rfl)
  ·exact p4 (y,.free) (N8 h) (.inr rfl)
 ·rw[re]
  exact p6 i hi
theorem uX{P:Program}{w:World}{X:Cx}:cq (CXE P w) X (λ_ _ _ _=>False):=λ_ _ _ _ _ _ _ ⟨_,_,_,_,_,_,_,_,_,q⟩=>q.elim
section
variable{X:Cx}{scope:Scope}{cl:List (Str×Addr)}{x:Str}{idx:List Nat}{NC:List Str}{pins:List (Addr×Obj)}{σ:St}{H:Hp}{s:Shared}
end
theorem yw:∀ {us:List Value} {ks:List Int},us.length=ks.length→(∀(j:Nat) (v:Value),us[j]?=some v→∃ t,v=Value.int (ks.getD j 0) t)→IntsAre us ks
 | [],[],_,_=>.nil
 | [],_::_,h,_=>by simp at h
 | _::_,[],h,_=>by simp at h
 | u::us,k::ks,h,f=>by
  obtain⟨t,e⟩:=f 0 u rfl;subst e;exact .cons k t (yw (by simpa using h) λj v q=>f (j+1) v q)
section
variable{X:Cx}
theorem oH{P:Program}{w:World}{vs:List (Key×Value)}{ks:List Int}{acc:Array Value}(hk:vs.map (·.1)=ks.map Sum.inl)(ha:acc.size=vs.length)(h:∀(j:Nat) (v:Value),acc[j]?=some v→∃ k x,vs[j]?=some (k,x)∧(a5 P w).is k v=true):IntsAre acc.toList ks:=by
 have hl:vs.length=ks.length:=by
  have:=congrArg List.length hk
  simpa using this
 refine yw (by rw[Nj];omega) λj v e=>?_;obtain⟨k,x,h1,h2⟩:=h j v (by rw[←Ot];exact e);have h3:(vs.map (·.1))[j]?=some k:=by rw[MY,h1];rfl
 rw[hk,MY]at h3;obtain⟨i,hi,rfl⟩:=Ng.mp h3;have h4:gH (.inl i) v=true:=h2;rcases aS h4 with⟨i',t,e1,e2⟩|⟨y,t,e1,_⟩
 ·injection e1 with e1
  subst e1;exact⟨t,by rw[e2];simp[List.getD,hi]⟩
 ·cases e1
end
theorem oJ{xs ys:List Int}(p:xs.Perm ys)(hx:xs.Pairwise (·≤·))(hy:ys.Pairwise (·≤·)):xs=ys :=
 p.eq_of_pairwise (λa b _ _ h1 h2=>Int.le_antisymm h1 h2) hx hy
theorem BK{v:V}(h:dj v=true):eqV v v=true:=by
 cases v with
 | non=>rfl
 | bl b=>cases b<;>rfl
 | int n=>simp[eqV]
 | str z=>simp[eqV]
 | _=>exact absurd (show false=true from h) M4
section
variable{X:Cx}
end
section
variable{X:Cx}{tg:Expr}
theorem PS.nox{st:Stmt}{t:TS}(h:PS X.nox st t):PS X st t:=λpins s σ H D I hw =>
 wpAny_mono (h pins s σ H D (I.uv _) hw) (λ_ _ q=>q.hX) λ_ _ z=>False.elim z
end
section
variable{X:Cx}{scope:Scope}{cl:List (Str×Addr)}{x:Str}{idx:List Nat}{NC:List Str}{pins:List (Addr×Obj)}{σ:St}{H:Hp}{s:Shared}
theorem AK{i:Nat}{y:Str}{elt iter ct:Expr}{px py pos C5:Pos}{wi:TI}{tc:TT}{te:TE}(hN:X.N.Nodup)(hi':X.N[i]?=some y)(hx:X.env.scope.names.lookup y=some .local)(c:fU X scope cl x idx NC)(hc:X.calm=true)(hi:PI X (.Name x px) iter wi)
  (ht:∀ C fp s₀ H₀,PT (cxC X scope cl NC C fp s₀ H₀) ct tc) (he:∀ C fp s₀ H₀,PE (cxC X scope cl NC C fp s₀ H₀) elt te) (hsw:swapsWith (.ListComp elt [⟨.Name x px,iter,[ct],0⟩] scope pos) (some (.Name y py)) C5.line X.env=pure true:=by rfl)
  (hs:∀ x,foldedSetIterable iter X.env x=pure x:=by intro _;rfl):PS X (.Assign [.Name y py] (.ListComp elt [⟨.Name x px,iter,[ct],0⟩] scope pos) C5) (D8 (BJ wi idx tc te) (mP i)):=by
 intro pins s σ H D0 I h;rw[exec_Assign_Name_used _ _ _ _ hsw];refine wpAny_bind (wpAny_standAt (wpAny_bind ?_));show wpAny _ _ (do let _ ←comprehension (.ListComp elt [⟨.Name x px,iter,[ct],0⟩] scope pos) scope X.env _ (newList []) false (eval iter X.env) (some (assign (.Name y py) X.env))) _ _ s
 refine wpAny_bind (wpAny_mono (wpAny_comprehension_free (use:=some (assign (.Name y py) X.env)) (Q:=λ_ s'=>SP X pins D0 .next s') rfl hs c.Ii c.kind c.loc
  (thn (hi pins s σ H _ I h) λv s1 h1=>thn h1 λitv s2 h2=>?_)) (λ_ s' hq=>wpAny_pure (wpAny_pure hq)) λ_ _ e=>e)
 obtain⟨it,fp,tn,J,H2,rfl,I2,T,st2,f2,q⟩:=h2;refine wpAny_newObj_type (wpAny_newFunctionEnv c.xZ (by intro y hy;simp at hy) (λh₁ hns₁ hsb₁=>?_) c.kind);dsimp only at hns₁ hsb₁ ⊢;have I3:Inv X pins σ (upd H2 s2.heap.objs.size (.lst [])) {s2 with heap:=s2.heap.push {cls:=.type "list",data:=.seq ([]:List Value).toArray},toks:=s2.toks}:=I2.BC (ys:=[]) (its:=[]) .nil (NH _);obtain⟨W,⟨m0,w0⟩,turn⟩:=q s2.heap.objs.size I2.fresh;generalize hD:s2.heap.objs.size=D at *;generalize hH:s2.heap.push {cls:=.type "list",data:=.seq ([]:List Value).toArray}=h3 at *;have yv:∀ b∈fp,b<D:=λb hb=>by
  obtain⟨o,e,_⟩:=T.obj _ _ st2 b hb;rw[←hD];exact Nb e
 have hlt:∀ b∈fp,b<h3.objs.size:=λb hb=>by
  rw[←hH,OM,hD];exact OI (yv b hb)
 have hf:∀ b∈fp,qF X pins (upd H2 D (.lst [])) b:=λb hb=>⟨by rw[ab (Nw (yv b hb))];exact(f2 b hb).1,(f2 b hb).2⟩;have kp:∀ b o,h3.get? b=some o→h₁.get? b=some o:=λb o e=>hsb₁.extBut b o (Nw (Nb e)) (MU _ e);have I4:Inv (cxC X scope cl NC h3.objs.size fp {s2 with heap:=h3,toks:=s2.toks} (upd H2 D (.lst []))) [] (none::i3 σ idx) (upd H2 D (.lst [])) {s2 with heap:=h₁,toks:=s2.toks+([]:List (Str×Value)).length} :=
  rB (s:={s2 with heap:=h3,toks:=s2.toks}) c I3 hf hlt hns₁ kp
 have qg:∀ {H':Hp},(∀ b∈fp,H' b=none)→∀ b∈fp,qF (cxC X scope cl NC h3.objs.size fp {s2 with heap:=h3,toks:=s2.toks} (upd H2 D (.lst []))) [] H' b:=λhn b hb =>
  ⟨hn b hb,Nw (hlt b hb),λz=>(Nk.mp (I3.mG b z)).elim (hf b hb).2.1 (hf b hb).2.2.1,.inl hb,λy a q=>(hf b hb).2.2.2.2.1 y a (c.sub _ _ q),λp hp=>(by cases hp)⟩
 have st1:tn 0 h₁:=T.keep 0 _ _ st2 λb hb o e=>kp b o (by rw[←hH];exact MU _ e);have loop:∀ s4:Shared,s4={s2 with heap:=h₁,toks:=s2.toks+([]:List (Str×Value)).length} →
   codeAny (model X.prog X.w) X.A (.compLoop (.ListComp elt [⟨.Name x px,iter,[ct],0⟩] scope pos) 0 (.ref it) (.ref D) (compEnvC scope cl h3.objs.size X.env)) (compPost (model X.prog X.w) X.A X.xe (some (assign (.Name y py) X.env)) (λ_ s'=>SP X pins D0 .next s') (.ref D) h3.objs.size) s4:=by
  rintro s4 rfl;refine jA (λn s'=>∃ i ys H' v0,Inv (cxC X scope cl NC h3.objs.size fp {s2 with heap:=h3,toks:=s2.toks} (upd H2 D (.lst []))) [] (v0::i3 σ idx) H' s'∧tn i s'.heap∧(∀ b∈fp,H' b=none)∧W i n ys H')
   ?_ m0 ⟨0,[],_,none,I4,st1,λb hb=>(hf b hb).1,w0⟩
  rintro n s5 ⟨i5,ys,H5,v0,I5,st5,fr5,w5⟩;obtain⟨hDl,alt⟩:=turn i5 n ys H5 w5;rcases alt with⟨stop,qn⟩|⟨go,hz,N,hN',step⟩
  ·refine thn (T.done (cxC X scope cl NC h3.objs.size fp {s2 with heap:=h3,toks:=s2.toks} (upd H2 D (.lst []))) rfl rfl rfl hc i5 [] s5 _ H5 _ I5 (qg fr5) st5 stop) λr s6 ⟨hr,I6⟩=>?_
   subst hr;obtain⟨m,ns6,_⟩:=id I6.loc;have J6:Inv X pins σ H5 s6:=I3.xi (ch:=fp) I6.os I6.base I6.hok I6.bare λb hb=>⟨(hf b hb).2.2.2.1,(hf b hb).2.1,(hf b hb).2.2.2.2.1,(hf b hb).2.2.2.2.2⟩;have fC:qF X pins H5 h3.objs.size:=I3.CL (MR _) I6.free;obtain⟨o,es,ep,ho,rr⟩:=ns6;have od:∀ v,o.data≠.cell v:=λv z=>by
    rw[rr.1]at z;cases z
   show wpAny _ _ (assign (.Name y py) X.env (.ref D)) (λ_ s''=>∃ m,s''.heap.Ns h3.objs.size m∧∀ h',Heap.SameBut h3.objs.size s''.heap h'→SP X pins D0 .next {s'' with heap:=h'}) X.xe s6;have J7:=J6.pinned (fp:=[h3.objs.size]) (λb hb=>by rw[MO.mp hb];exact fC) (λb hb=>by rw[MO.mp hb];exact⟨o,ho,od⟩);refine wpAny_mono (aN (pos:=py) hN hi' (.inl hx) (.inr hx) _ s6 _ H5 (.ref D) (.ref D) D0.nx J7 rfl qn) (λ_ s7 ⟨σ7,H7,I7,q7⟩=>?_) (λ_ _ z=>z);have pC:=I7.pin (h3.objs.size,o) (MX _ (MX _ (cv (MO.mpr rfl) ho)));refine⟨m,⟨o,es,ep,pC.1,rr⟩,λh' hs'=>⟨σ7,H7,?_,q7⟩⟩;exact I7.fz.turned (t':=s7.toks) (it:=h3.objs.size) (λb o hb e=>hs'.extBut b o hb e) pC.2.1 fC.2.1 fC.2.2.2.1 fC.2.2.2.2.1 fC.2.2.2.2.2
  ·refine thn (T.item (cxC X scope cl NC h3.objs.size fp {s2 with heap:=h3,toks:=s2.toks} (upd H2 D (.lst []))) rfl rfl rfl hc i5 [] s5 _ H5 _ I5 (qg fr5) st5 go) λr s6 ⟨u,hr,h6⟩=>?_
   subst hr;refine thn h6 λ_ s7 ⟨y,H7,I7,r7,y7,st7,fr7⟩=>?_;have I7':=I7.pinned (qg fr7) (T.obj _ _ st7);have hnl:(relabel scope X.env).names.lookup x=some .local:=lookup_relabel_local c.xl;refine wpAny_mono (aN (X:=cxC X scope cl NC h3.objs.size fp {s2 with heap:=h3,toks:=s2.toks} (upd H2 D (.lst []))) (i:=0) (x:=x) (pos:=px) c.nd (by show NC[0]?=some x;rw[c.nc];rfl) (.inl hnl) (.inr hnl) _ s7 _ H7 y u
    (λσ' H'=>σ'=some y::i3 σ idx∧H'=H7) I7' r7 ⟨rfl,rfl⟩) (λ_ s8 ⟨σ8,H8,I8,e8,e8'⟩=>?_) λ_ _ z=>z.elim
   subst e8 e8';refine wpAny_mono (ht _ _ _ _ _ s8 _ H8 _ I8 (step y H8 y7)) (λbb s11 ⟨H11,I11,q11⟩=>?_) λ_ _ z=>z.elim;have fin:∀ {H12:Hp} {s12:Shared} {zs:List V} {m':Nat},Inv (cxC X scope cl NC h3.objs.size fp {s2 with heap:=h3,toks:=s2.toks} (upd H2 D (.lst []))) ([]++qd fp s7.heap) (some y::i3 σ idx) H12 s12→m'<n→W (i5+1) m' zs H12 →
     ∃ m,m<n∧∃ i ys H' v0,Inv (cxC X scope cl NC h3.objs.size fp {s2 with heap:=h3,toks:=s2.toks} (upd H2 D (.lst []))) [] (v0::i3 σ idx) H' s12∧tn i s12.heap∧(∀ b∈fp,H' b=none)∧W i m ys H':=λ{H12 s12 zs m'} I12 hm w12=>by
    refine⟨m',hm,i5+1,zs,_,some y,I12.fz,T.keep _ _ _ st7 λb hb o e=>(I12.pin (b,o) (MX _ (MX _ (cv hb e)))).1,λb hb=>?_,w12⟩;obtain⟨o,e,d⟩:=T.obj _ _ st7 b hb;exact(I12.pin (b,o) (MX _ (MX _ (cv hb e)))).2.1
   cases bb with
   | false =>
    obtain⟨m',hm,w9⟩:=hN' _ _ q11;exact fin I11 hm w9
   | true =>
    refine wpAny_mono (he _ _ _ _ _ s11 _ H11 _ I11 q11) (λw s9 ⟨v,H9,I9,r9,hD9,n9⟩=>?_) λ_ _ z=>z.elim;obtain⟨m',hm,w9⟩:=hN' _ _ n9;refine wpAny_mono (rC (X:=(cxC X scope cl NC h3.objs.size fp {s2 with heap:=h3,toks:=s2.toks} (upd H2 D (.lst [])))) I9 hD9 hz r9) (λ_ s10 I10=>?_) λ_ _ z=>z.elim;exact fin I10 hm w9
 exact codeAny_compStart_list (loop _ rfl) (T.self _ 0 _ _ _ st1 (loop _ rfl))
noncomputable def uC(J:It)(D:Addr)(τ:St)(tc:TT)(te:TE)(Q:VK)(H:Hp):Prop:=∃ W:Nat→Nat→List V→Hp→Prop,(∃ m,W 0 m [] H)∧∀ i m ys H2,W i m ys H2→H2 D=some (.lst ys) ∧
 ((J.stop i H2∧Q (.ref D) H2)∨(J.go i H2∧ys.length<sizeLine∧∃ N:List V→Hp→Prop,(∀ zs H',N zs H'→∃ m',m'<m∧W (i+1) m' zs H')∧∀ y H3,J.yld i H2 y H3→tc (some y::τ) H3 λb H4=>if b=true then te (some y::τ) H4 λv H5=>H5 D=some (.lst ys)∧N (ys++[v]) (upd H5 D (.lst (ys++[v])))
  else N ys H4))
noncomputable def BL(wi:TI)(idx:List Nat)(tc:TT)(te:TE):TE:=λσ H Q=>wi σ H λJ H1=>∀ D,H1 D=none→uC J D (i3 σ idx) tc te Q (upd H1 D (.lst []))
theorem rD{i:Nat}{y:Str}{elt iter ct:Expr}{px py pos C5:Pos}{wi:TI}{tc:TT}{te:TE}(hN:X.N.Nodup)(hi':X.N[i]?=some y)(hx:X.env.scope.names.lookup y=some .local)(c:fU X scope cl x idx NC)(hc:X.calm=true)(hi:PI X (.Name x px) iter wi)
  (ht:∀ C fp s₀ H₀,PT (cxC X scope cl NC C fp s₀ H₀) ct tc) (he:∀ C fp s₀ H₀,PE (cxC X scope cl NC C fp s₀ H₀) elt te) (hsw:swapsWith (.ListComp elt [⟨.Name x px,iter,[ct],0⟩] scope pos) (some (.Name y py)) C5.line X.env=pure true:=by rfl)
  (hs:∀ x,foldedSetIterable iter X.env x=pure x:=by intro _;rfl):PS X (.Assign [.Name y py] (.ListComp elt [⟨.Name x px,iter,[ct],0⟩] scope pos) C5) (D8 (BL wi idx tc te) (mP i)) :=
 AK hN hi' hx c hc hi ht he hsw hs
theorem rE{elt iter ct:Expr}{px pos:Pos}{wi:TI}{tc:TT}{te:TE}(c:fU X scope cl x idx NC)(hc:X.calm=true)(hi:PI X (.Name x px) iter wi)(ht:∀ C fp s₀ H₀,PT (cxC X scope cl NC C fp s₀ H₀) ct tc)(he:∀ C fp s₀ H₀,PE (cxC X scope cl NC C fp s₀ H₀) elt te)
  (hs:∀ x,foldedSetIterable iter X.env x=pure x:=by intro _;rfl):PE X (.ListComp elt [⟨.Name x px,iter,[ct],0⟩] scope pos) (BL wi idx tc te) :=
 AJ c hc hi ht he hs
end
theorem fu{K:W.Frag}{a:Addr}{xs:List V}{tc:TT}{te:TE}{Q:VK}{D:Addr}{τ:St}{H:Hp}(Pv:Nat→List V→Hp→Prop)(h0:Pv 0 [] H)(hD:∀ i ys H,i≤xs.length→Pv i ys H→H D=some (.lst ys)∧ys.length≤i)(hl:∀ i ys H,i≤xs.length→Pv i ys H→SqL K H a xs)(hn:xs.length≤sizeLine)
  (hs:∀ i x ys H,xs[i]?=some x→Pv i ys H→tc (some x::τ) H λb H4=>if b=true then te (some x::τ) H4 λv H5=>H5 D=some (.lst ys)∧Pv (i+1) (ys++[v]) (upd H5 D (.lst (ys++[v]))) else Pv (i+1) ys H4)
  (hd:∀ ys H,Pv xs.length ys H→Q (.ref D) H):uC (Itl K a) D τ tc te Q H:=by
 refine⟨λi m ys H=>m=xs.length-i∧i≤xs.length∧Pv i ys H,⟨xs.length,by simp,NH _,h0⟩,?_⟩;rintro i m ys H2 ⟨rfl,hi,p⟩;obtain⟨d1,d2⟩:=hD i ys H2 hi p;refine⟨d1,?_⟩;have hS:=hl i ys H2 hi p;by_cases hlt:i<xs.length
 ·refine .inr ⟨⟨xs,xs[i],hS,MP hlt⟩,by omega,Pv (i+1),λzs H' p'=>⟨xs.length-(i+1),by omega,rfl,hlt,p'⟩,λy H3 q=>?_⟩
  obtain⟨e1,e2⟩:=q;subst e1;exact hs i y ys _ (e2 xs (hl i ys _ hi p)) p
 ·have e:i=xs.length:=by omega
  subst e;exact .inl ⟨⟨xs,hS,MR _⟩,hd ys H2 p⟩
end L2
end
section
namespace L2
open PySem PySem.Spec PyProof.Rows LX
section
variable{P:Program}{w:World}{A:Around}{E:Value→Shared→Prop}{s:Shared}{a:Addr}{S:Int→Bool}{n:Nat}
end
end L2
end
section
namespace L2
open PySem PySem.Spec PyProof.Rows LX
section
variable{P:Program}{w:World}{A:Around}{R:Result→Shared→Prop}{I:Addr}{fp wr:List Addr}{G:Array GenState→Array GenState→Prop}{n:Nat}{p:Nat→Value→Prop}{St:Nat→Shared→Prop}
end
section
variable{P:Program}{w:World}{A:Around}{E:Value→Shared→Prop}{s:Shared}
end
section
variable{P:Program}{w:World}{A:Around}{E:Value→Shared→Prop}{s:Shared}{it a:Addr}{first:Value}{i n ep:Nat}
end
section
variable{P:Program}{w:World}{A:Around}{E:Value→Shared→Prop}{s:Shared}{it a:Addr}{first:Value}{i n ep:Nat}{es:Array (Int×Value)}{t:SetTable}
end
section
variable{P:Program}{w:World}{A:Around}{E:Value→Shared→Prop}{s:Shared}{I a:Addr}{ep:Nat}{es:Array (Int×Value)}{t:SetTable}{sl:Nat→Nat}{vs:List Value}
end
end L2
end
section
namespace L2
open PySem PySem.Spec PyProof.Rows LX PySem.W
section
variable{P:Program}{w:World}{A:Around}{E:Value→Shared→Prop}{s:Shared}{a:Addr}{ep:Nat}{es:Array (Int×Value)}{t:SetTable}
end
section
variable{P:Program}{w:World}{A:Around}{E:Value→Shared→Prop}{s:Shared}{a:Addr}{ep:Nat}{es:Array (Int×Value)}{t:SetTable}
end
theorem jo:∀ {l m:List Int},l.Nodup→(∀ k∈l,k∈m)→l.length≤m.length
 | [],m,_,_=>NH _
 | x::l,m,h,s=>by
  have hx:x∈m:=s x (.head _);have hl:=Oc.mp h
  have:=jo (l:=l) (m:=m.erase x) hl.2 λk hk=>(O2 λe=>hl.1 (by rw[←e];exact hk)).mpr (s k (.tail _ hk))
  rw[OS hx]at this
  have:0<m.length:=OC hx
  simp only[NU];omega
theorem qK:∀ {l m:List Int},l.Nodup→(∀ k∈l,k∈m)→m.length≤l.length→l.Perm m
 | [],m,_,_,h=>by
  have:m=[]:=List.length_eq_zero_iff.mp (Nat.le_zero.mp h)
  subst this;exact .nil
 | x::l,m,h,s,z=>by
  have hx:x∈m:=s x (.head _);have hl:=Oc.mp h
  have:=qK (l:=l) (m:=m.erase x) hl.2 (λk hk=>(O2 λe=>hl.1 (by rw[←e];exact hk)).mpr (s k (.tail _ hk))) (by rw[OS hx];simp only[NU]at z;omega)
  exact(List.Perm.cons x this).trans (List.perm_cons_erase hx).symm
theorem gB{l m:List Int}(hl:l.Pairwise (·< ·))(hm:m.Pairwise (·< ·))(h:∀ k,k∈l↔k∈m):l=m:=by
 have nl:l.Nodup:=hl.imp λh=>Int.ne_of_lt h;have nm:m.Nodup:=hm.imp λh=>Int.ne_of_lt h;refine oJ (qK nl (λk=>(h k).mp) (jo nm λk=>(h k).mpr)) (hl.imp NZ) (hm.imp NZ)
section
variable{X:Cx}
end
end L2
end
section
namespace L2
open PySem PySem.Spec PyProof.Rows LX
section
variable{X:Cx}{pins:List (Addr×Obj)}{σ:St}{H:Hp}{s:Shared}{d:Addr}{kvs:List (Key×V)}
theorem Inv.frozen(I:Inv X pins σ H s)(hd:H d=some (.dK kvs)):∃ o,Inv X pins σ (upd H d (.frz o (.dK kvs))) s:=by
 obtain⟨hz,h0,vs,rel,o,es,ep,ho,r⟩:=Cw I.hok hd;have nn:∀ {b:Addr},H b=none→upd H d (.frz o (.dK kvs)) b=none:=λ{b} q=>by
  rw[ab λz=>by rw[z,hd]at q;cases q];exact q
 have ns:∀ {b:Addr} {u:HO},H b=some u→u≠.dK kvs→upd H d (.frz o (.dK kvs)) b=some u:=λ{b u} q n=>by
  rw[ab λz=>n (by rw[z,hd]at q;exact(Nf q).symm)];exact q
 refine⟨o,I.ok,I.os,I.bare,⟨I.base.keep,I.base.slot,λb ob q n e=>nn (I.base.free b ob q n e),I.base.there,λb xs q=>ns (I.base.sU b xs q) (by intro z;cases z),λb ob u q=>ns (I.base.rM b ob u q) (by intro z;cases z),λb ps q=>?_⟩,I.loc,I.cell,nn I.free,λx c q=>nn (I.fK x c q),λp hp=>?_,λa u q=>?_,I.len⟩
 ·obtain⟨more,q'⟩:=I.base.sV b ps q
  exact⟨more,ns q' (by intro z;cases z)⟩
 ·obtain⟨p1,p2,p3⟩:=I.pin p hp
  exact⟨p1,nn p2,p3⟩
 ·have st:∀ {a:Addr} {u:HO},cu X.prog X.w H s.heap a u→cu X.prog X.w (upd H d (.frz o (.dK kvs))) s.heap a u:=λx=>x.wg (λ_ _ _ z=>z) (λb z=>ns z (by intro y;cases y)) λb xs z=>ns z (by intro y;cases y)
  by_cases e:a=d
  ·subst e
   rw[ag]at q;cases q;exact⟨ho,st (I.hok a _ hd)⟩
  ·rw[ab e]at q
   exact st (I.hok a u q)
noncomputable def L6(te:TE):TE:=λσ H Q=>te σ H λv H1=>∃ d kvs,H1 d=some (.dK kvs)∧∀ o,Q v (upd H1 d (.frz o (.dK kvs)))
theorem jB{e:Expr}{te:TE}(h:PE X e te):PE X e (L6 te):=by
 intro pins s σ H Q I t;refine wpAny_mono (h pins s σ H _ I t) (λu s1 ⟨v,H1,I1,r,q⟩=>?_) λ_ _ z=>z;obtain⟨d,kvs,hd,q⟩:=q;obtain⟨o,I2⟩:=I1.frozen hd;exact⟨v,_,I2,r,q o⟩
noncomputable def Itd(d:Addr)(o:Obj)(kvs:List (Key×V)):It :=
 ⟨λi H=>H d=some (.frz o (.dK kvs))∧i<kvs.length,λi H x H'=>H'=H∧∃ p,kvs[i]?=some p∧x=kV p.1,λi H=>H d=some (.frz o (.dK kvs))∧kvs.length≤i⟩
theorem Fc{P:Program}{w:World}{k:Key}{u:Value}(h:(a5 P w).is k u=true):RelV (kV k) u:=by
 have h4:gH k u=true:=h;rcases aS h4 with⟨i,t,e1,e2⟩|⟨y,t,e1,e2⟩
 ·subst e1 e2
  exact⟨t,rfl⟩
 ·subst e1 e2
  exact⟨t,rfl⟩
theorem x8{o:Obj}(I:Inv X pins σ H s)(hd:H d=some (.frz o (.dK kvs))){es:Array DictEntry}{ep:Nat}(eo:o.data=.dict es ep):kvs.length≤sizeLine∧(d == sysModules)=false∧∃ vs,KV kvs vs∧s.heap.DictAt (a5 X.prog X.w) d vs ep:=by
 obtain⟨ho,hz,h0,vs,rel,o',es',ep',ho',c1,c2,c3⟩:=(show cu X.prog X.w H s.heap d (.frz o (.dK kvs)) from I.hok d _ hd);have e:o'=o:=Nf (ho'.symm.trans ho);subst e;rw[eo]at c2;injection c2 with e1 e2;subst e1 e2;exact⟨hz,h0,vs,rel,o',es,ho',c1,eo,c3⟩
theorem AL{o:Obj}(I:Inv X pins σ H s)(hd:H d=some (.frz o (.dK kvs))):∃ es ep,o.data=.dict es ep:=by
 obtain⟨ho,hz,h0,vs,rel,o',es',ep',ho',c1,c2,c3⟩:=(show cu X.prog X.w H s.heap d (.frz o (.dK kvs)) from I.hok d _ hd);have e:o'=o:=Nf (ho'.symm.trans ho);subst e;exact⟨es',ep',c2⟩
theorem BM:∀ {kvs:List (Key×V)} {vs:List (Key×Value)},KV kvs vs→∀ {i:Nat} {p:Key×V},kvs[i]?=some p→∃ x,vs[i]?=some (p.1,x)
 | _,_,.nil,_,_,h=>by simp at h
 | (k,v)::_,(k',x)::_,.cons a r,0,p,h=>by
  have h1:(k,v)=p:=by simpa using h
  subst h1;obtain⟨e,_⟩:=a;have e':k=k':=e;subst e';exact⟨x,rfl⟩
 | _::_,_::_,.cons _ r,i+1,p,h=>by
  have:=BM r (i:=i) (p:=p) (by simpa using h)
  simpa using this
theorem zG{P:Program}{w:World}{K:W.Frag}{tg:Expr}(d it:Addr)(o:Obj)(kvs:List (Key×V))(ne:d≠it):Turn P w K tg (Itd d o kvs) [it] it (λi h=>∃ es ep,o.data=.dict es ep∧h.IsKeyIter it d i kvs.length ep) where
 mem:=by simp
 obj:=λi h st b hb=>by
  have e:b=it:=by simpa using hb
  subst e;obtain⟨es,ep,_,o,e,c,d⟩:=st;exact⟨o,e,λv z=>by rw[d]at z;cases z⟩
 keep:=λi h h' ⟨es,ep,eo,st⟩ k=>⟨es,ep,eo,st.at λo e=>k it (by simp) o e⟩
 item:=by
  rintro X hP hw hK hc i pins s σ H E I hf ⟨es,ep,eo,st⟩ ⟨hd,hi⟩;subst hP hw hK;obtain⟨hz,h0,vs,rel,hat⟩:=x8 I hd eo;have hl:=rel.length;obtain⟨x,hx⟩:=BM rel (MP hi);obtain⟨f0,f1,f2,f3,f4,f5⟩:=hf it (by simp);rw[hl]at st;refine wpAny_pyNext_dict_item st hat hx λkey h' hk st' sb=>?_;have I1:Inv X pins σ H {s with heap:=h'}:=I.turned (t':=s.toks) (λb o hb e=>(sb.2 b hb).trans e) f0 f1 f3 f4 f5;exact⟨key,rfl,letGo_keyiter (s':={s with heap:=h'}) st' ⟨kV (kvs[i]'hi).1,H,I1,Fc hk,⟨rfl,_,MP hi,rfl⟩,⟨es,ep,eo,by rw[hl];exact st'⟩,λb hb=>(hf b hb).1⟩⟩
 done:=by
  rintro X hP hw hK hc i pins s σ H E I hf ⟨es,ep,eo,st⟩ ⟨hd,hi⟩;subst hP hw hK;obtain⟨hz,h0,vs,rel,hat⟩:=x8 I hd eo;have hl:=rel.length;obtain⟨f0,f1,f2,f3,f4,f5⟩:=hf it (by simp);rw[hl]at st;exact wpAny_pyNext_dict_end (I.ok.hd hc) st hat (List.getElem?_eq_none (by omega)) λh' eb=>⟨rfl,I.turned (t':=s.toks) (λb o hb e=>eb b o hb e) f0 f1 f3 f4 f5⟩
 self:=λ_ _ _ _ _ ⟨_,_,_,st⟩ h=>wpAny_pyIter_keyiter st h
noncomputable def Jq(td:TE):TI:=λσ H R=>td σ H λx H1=>∃ d o kvs,x=.ref d∧H1 d=some (.frz o (.dK kvs))∧R (Itd d o kvs) H1
theorem f7{tg l:Expr}{tl:TE}(hl:PE X l tl):PI X tg l (Jq tl):=by
 intro pins s σ H R I h;refine thn (hl pins s σ H _ I h) λv s1 ⟨x,H1,I1,r1,q1⟩=>?_;obtain⟨d,o,kvs,e,hd,q⟩:=q1;subst e;cases r1;obtain⟨es,ep,eo⟩:=AL I1 hd;obtain⟨hz,h0,vs,rel,hat⟩:=x8 I1 hd eo;have hl:=rel.length;refine wpAny_pyIter_dict h0 hat ?_;rw[←hl];refine⟨s1.heap.objs.size,[s1.heap.objs.size],_,_,H1,rfl,I1.kept (t':=s1.toks) λb o e=>MU _ e,zG d _ o kvs (Nw hat.lt_size),⟨es,ep,eo,_,NB _ rfl,rfl,rfl⟩,λb hb=>?_,q⟩;have e:b=s1.heap.objs.size:=by simpa using hb
 subst e;exact I1.CL (MR _) (I1.hok.fresh (MR _))
end
theorem i4{d:Addr}{o:Obj}{kvs:List (Key×V)}{g:TG}{tb:TS}{D:Ends}{σ:St}{H:Hp}(Pv:Nat→St→Hp→Prop)(h0:Pv 0 σ H)(hl:∀ i σ H,i≤kvs.length→Pv i σ H→H d=some (.frz o (.dK kvs)))
  (hs:∀ i p σ H,kvs[i]?=some p→Pv i σ H→g (kV p.1) σ H λσ2 H2=>tb {D with nx:=Pv (i+1),ct:=Pv (i+1),bk:=D.nx} σ2 H2) (hd:∀ σ H,Pv kvs.length σ H→D.nx σ H) :
  ∃ W:Nat→Nat→St→Hp→Prop,(∃ m,W 0 m σ H)∧∀ i m σ H,W i m σ H →
   ((Itd d o kvs).stop i H∧D.nx σ H)∨((Itd d o kvs).go i H∧∃ N:St→Hp→Prop,(∀ σ' H',N σ' H'→∃ m',m'<m∧W (i+1) m' σ' H')∧∀ x H',(Itd d o kvs).yld i H x H'→g x σ H' λσ2 H2=>tb {D with nx:=N,ct:=N,bk:=D.nx} σ2 H2):=by
 refine⟨λi m σ H=>m=kvs.length-i∧i≤kvs.length∧Pv i σ H,⟨kvs.length,by simp,NH _,h0⟩,?_⟩;rintro i m σ H ⟨rfl,hi,p⟩;by_cases hlt:i<kvs.length
 ·refine .inr ⟨⟨hl i σ H hi p,hlt⟩,Pv (i+1),λσ' H' p'=>⟨kvs.length-(i+1),by omega,rfl,hlt,p'⟩,λx H' y=>?_⟩
  obtain⟨e1,q,e2,e3⟩:=y;subst e1 e3;exact hs i q σ _ e2 p
 ·have e:i=kvs.length:=by omega
  subst e;exact .inl ⟨⟨hl _ σ H hi p,MR _⟩,hd σ H p⟩
section
variable{X:Cx}
noncomputable def Fd:List V→Hp→VK→Prop:=λvs H Q=>∃(p:Addr) (kvs:List (Key×V)) (ks:List Int),vs=[.ref p]∧Rd H p (.dK kvs)∧kvs.map (·.1)=ks.map Sum.inl∧ks.length<64 ∧
 ∀(l:Addr) (ns':List Int),H l=none→ns'.Perm ks→ns'.Pairwise (·≤·)→Q (.ref l) (upd H l (.lst (ns'.map V.int)))
theorem lY(hc:X.calm=true):gI X (.builtin "sorted") Fd:=by
 rintro pins s σ H xs us Q I r ⟨p,kvs,ks,rfl,hp,hk,h64,q⟩;obtain⟨u,rfl,ru⟩:=r.one;cases (show u=Value.ref p from ru);obtain⟨hz,hd,vs,rel,dd⟩:=kr I.hok hp;obtain⟨ep,hat⟩:=dd.dictAt;have hh:=I.ok.hd hc;have hl:ks.length=kvs.length:=by
  have:=congrArg List.length hk
  simpa using this.symm
 refine Ou kind_sorted plain_sorted entry_sorted (args_sorted1 _) ?_;unfold Builtin.«sorted»;refine wpAny_bind (m:=checkCount "sorted" 1 1 _) (wpAny_pure ?_);refine wpAny_bind (PySem.W.kdu_collect (A:=X.A.in1) (PySem.W.kdl_dict (knd:=a5 X.prog X.w) (kvs:=vs) (ep:=ep) hd) hh hat (by rw[←rel.length];exact hz) λh' tk acc hkp hacc=>?_);have hI:IntsAre acc.toList ks:=oH (by rw[←rel.keys];exact hk) hacc.1 hacc.2;have hlen:=hI.length;have I1:Inv X pins σ H {s with heap:=h',toks:=tk}:=I.kept (t':=tk) hkp;refine wpAny_bind (wpAny_newList ?_);have hoL:(h'.push (seqObj "list" acc.toList.toArray 0)).get? h'.objs.size=some (seqObj "list" acc.toList.toArray 0):=NB _ rfl;show wpAny _ _ _ _ _ {s with heap:=h'.push (seqObj "list" acc.toList.toArray 0),toks:=tk};refine wpAny_bind (wpAny_holding (wpAny_call_entry slot_list_sort ⟨_,hoL,rfl⟩ entry_list_sort (list_sort_tree hoL hI (by omega) λout ns' a1 a2 a3=>⟨_,rfl,?_⟩) (args_list_sort _)));refine wpAny_pure ⟨_,rfl,?_⟩;obtain⟨e,he⟩:=sortedHeap_at (out:=out) hoL;refine⟨.ref h'.objs.size,_,I1.laid (a:=h'.objs.size) (o:=.lst (ns'.map V.int)) (t':=tk) (λb o hb=>?_) (MR _) ?_,rfl,q _ ns' (I1.hok.fresh (MR _)) a2 a3⟩
 ·have hlt:=Nb hb
  rw[sortedHeap_old (Nw hlt) (by rw[size_push'];exact OI hlt),Heap.get?_push_ne _ _ _ (Nw hlt)];exact hb
 ·refine⟨by rw[MN,a2.length_eq,hl];exact hz,out.toList,e,dZ a1,?_⟩
  rw[he]
end
section
variable{X:Cx}{pins:List (Addr×Obj)}{σ:St}{H:Hp}{s:Shared}
end
theorem xu:∀ {ms ns:List Int},ms.length=ns.length→Cz (ms.map V.int) (ns.map V.int)=decide (ms=ns):=by
 intro ms ns hl;rw[OE,decide_eq_true_eq];unfold Cz;rw[Oq];constructor
 ·intro h
  refine List.ext_getElem hl λj h1 h2=>?_
  have:=h j (by rw[MN];exact OW.mpr h1)
  simpa[List.getD,h1,h2,eqV] using this
 ·rintro rfl j hj
  rw[MN]at hj;have hj:=OW.mp hj;simp[List.getD,hj,eqV]
theorem eZ(ns:List Int):(ns.map V.int).all dj=true:=by simp[dj]
section
variable{X:Cx}
end
section
variable{X:Cx}
noncomputable def Fe:List V→Hp→VK→Prop:=λvs H Q=>∃(p:Addr) (kvs:List (Key×V)) (ks:List Int),vs=[.ref p]∧Rd H p (.dK kvs)∧kvs.map (·.1)=ks.map Sum.inl∧∀ l:Addr,H l=none→Q (.ref l) (upd H l (.lst (ks.map V.int)))
theorem kz(hc:X.calm=true):gI X (.type "list") Fe:=by
 rintro pins s σ H xs us Q I r ⟨p,kvs,ks,rfl,hp,hk,q⟩;obtain⟨u,rfl,ru⟩:=r.one;cases (show u=Value.ref p from ru);obtain⟨hz,hd,vs,rel,dd⟩:=kr I.hok hp;obtain⟨ep,hat⟩:=dd.dictAt;have hl:ks.length=kvs.length:=by
  have:=congrArg List.length hk
  simpa using this.symm
 refine PySem.W.kdl_call (PySem.W.kdl_dict (knd:=a5 X.prog X.w) (kvs:=vs) (ep:=ep) hd) (I.ok.hd hc) hat (by rw[←rel.length];exact hz) λh' tk acc c hkp hS hacc=>?_;have hI:IntsAre acc.toList ks:=oH (by rw[←rel.keys];exact hk) hacc.1 hacc.2;refine⟨.ref s.heap.objs.size,_,I.laid (a:=s.heap.objs.size) (o:=.lst (ks.map V.int)) (t':=tk) hkp (MR _) ?_,rfl,q _ (I.hok.fresh (MR _))⟩;refine⟨by rw[MN,hl];exact hz,acc.toList,c,dZ hI,?_⟩;rw[hS]
end
section
variable{X:Cx}
end
theorem xv{d:Addr}{o:Obj}{kvs:List (Key×V)}{tc:TT}{te:TE}{Q:VK}{D:Addr}{τ:St}{H:Hp}(Pv:Nat→List V→Hp→Prop)(h0:Pv 0 [] H)(hD:∀ i ys H,i≤kvs.length→Pv i ys H→H D=some (.lst ys)∧ys.length≤i)(hl:∀ i ys H,i≤kvs.length→Pv i ys H→H d=some (.frz o (.dK kvs)))(hn:kvs.length≤sizeLine)
  (hs:∀ i p ys H,kvs[i]?=some p→Pv i ys H→tc (some (kV p.1)::τ) H λb H4=>if b=true then te (some (kV p.1)::τ) H4 λv H5=>H5 D=some (.lst ys)∧Pv (i+1) (ys++[v]) (upd H5 D (.lst (ys++[v]))) else Pv (i+1) ys H4)
  (hd:∀ ys H,Pv kvs.length ys H→Q (.ref D) H):uC (Itd d o kvs) D τ tc te Q H:=by
 refine⟨λi m ys H=>m=kvs.length-i∧i≤kvs.length∧Pv i ys H,⟨kvs.length,by simp,NH _,h0⟩,?_⟩;rintro i m ys H2 ⟨rfl,hi,p⟩;obtain⟨d1,d2⟩:=hD i ys H2 hi p;refine⟨d1,?_⟩;have hS:=hl i ys H2 hi p;by_cases hlt:i<kvs.length
 ·refine .inr ⟨⟨hS,hlt⟩,by omega,Pv (i+1),λzs H' p'=>⟨kvs.length-(i+1),by omega,rfl,hlt,p'⟩,λy H3 q=>?_⟩
  obtain⟨e1,q',e2,e3⟩:=q;subst e1 e3;exact hs i q' ys _ e2 p
 ·have e:i=kvs.length:=by omega
  subst e;exact .inl ⟨⟨hS,MR _⟩,hd ys H2 p⟩
section
variable{P:Program}{w:World}{A:Around}{E:Value→Shared→Prop}
end
section
variable{P:Program}{w:World}{A:Around}{R:Result→Shared→Prop}{KK:Type}[DecidableEq KK]{knd:KeyKind P w KK}
end
section
variable{P:Program}{w:World}{A:Around}{E:Value→Shared→Prop}{KK:Type}[DecidableEq KK]{knd:KeyKind P w KK}
end
section
variable{P:Program}{w:World}{A:Around}{E:Value→Shared→Prop}
end
section
variable{X:Cx}
noncomputable def L7(K:W.Frag):R2:=λx y H Q=>∃ a b,∃ ms ns:List Int,x=.ref a∧y=.ref b∧SqL K H a (ms.map V.int)∧SqL K H b (ns.map V.int)∧Q (.bl (decide (ms=ns))) H
theorem Ff(hu:X.A.units<cLine):OpR X (compareOp .Eq) (L7 X.K):=by
 rintro pins s σ H x y v u Q I rx ry ⟨a,b,ms,ns,rfl,rfl,ha,hb,q⟩;by_cases hl:ms.length=ns.length
 ·refine E9 hu pins s σ H _ _ v u Q I rx ry ⟨a,b,_,_,rfl,rfl,ha,hb,by simpa using hl,eZ _,eZ _,?_⟩
  rw[xu hl];exact q
 ·cases rx
  cases ry;obtain⟨vs,r1,⟨o1,n1,e1,c1,_,g1⟩,_⟩:=I.list ha;obtain⟨ws,r2,⟨o2,n2,e2,c2,_,g2⟩,_⟩:=I.list hb;have l1:=r1.length;have l2:=r2.length;rw[MN]at l1 l2;refine SeqAt.eq_list_lengthsAt ⟨o1,e1,c1,n1,g1⟩ ⟨o2,e2,c2,n2,g2⟩ (by simp only[M0,bne_iff_ne,ne_eq];omega) hu ⟨.bl false,H,I,rfl,?_⟩;rw[decide_eq_false λz=>hl (by rw[z])]at q;exact q
end
noncomputable def x9(K:W.Frag)(Dc:Addr)(ts:TS)(D:Ends):St→XK:=λσ c _ H=>∃ C cd,c=.ref C∧du K C cd∧cd.mro.contains (.ref Dc)=true∧ts D σ H
noncomputable def Jr(K:W.Frag)(Dc:Addr)(tb:(St→XK)→TS)(ts:TS):TS:=λD σ H=>tb (x9 K Dc ts D) D σ H
section
variable{X:Cx}
theorem C6{body Eo:List Stmt}{b₀:Stmt}{x:Str}{np hpos pos:Pos}{Dc:Addr}{cdD:ClassData}{tb:(St→XK)→TS}{ts:TS}(hst:X.stack=X.env::X.outer)(hfr:X.env.frame=some X.env.locals)(hg:Gl X x)(hm:X.mg x=some (.ref Dc))
  (hD:du X.K Dc cdD)
  (hb:∀(pins:List (Addr×Obj)) (E:Value→Shared→Prop) (EK:St→XK),cq (CXE X.prog X.w) (X.uV pins E) EK→PSs (X.uV pins E) body (tb EK))
  (hs:∀ ea,PSs (X.mK ea) (b₀::Eo) ts) (hdb:(x == ("__debug__" : Str))=false:=by decide) :
  PS X (.Try body [.ExceptHandler (some (.Name x np)) none (b₀::Eo) hpos] [] [] pos) (Jr X.K Dc tb ts):=by
 intro pins s σ H D I h;refine wpAny_Try_except ?_;refine wpAny_mono (hb pins (λe s₁=>∃ σ' H1 sc,Inv X pins σ' H1 sc∧CXE X.prog X.w X.stack H1 sc (x9 X.K Dc ts D σ') e s₁) (x9 X.K Dc ts D)
  (λxh σ' H1 sc e s' J q=>⟨σ',H1,sc,J.nz,q⟩) [] s σ H D (I.uV _) h) (λfl s1 q=>?_) λe s1 q=>?_
 ·cases fl with
  | next =>
   obtain⟨σ',H',J,q⟩:=q;exact wpAny_execs_nil ⟨σ',H',J.nz,q⟩
  | brk=>obtain⟨σ',H',J,q⟩:=q;exact⟨σ',H',J.nz,q⟩
  | cont=>obtain⟨σ',H',J,q⟩:=q;exact⟨σ',H',J.nz,q⟩
  | ret u=>obtain⟨v,σ',H',J,r,q⟩:=q;exact⟨v,σ',H',J.nz,r,q⟩
 ·obtain⟨σ',H1,sc,J,ea,Cv,T,od,fs,sl,H',rfl,l,C,cd,ec,xc,hmr,q⟩:=q
  cases ec;have hA:X.A.frames=some (X.env::X.outer):=by rw[J.ok.frames,hst]
  have hF:s1.heap.FunFrames X.base (X.env::X.outer):=by rw[←hst];exact l.frames J
  have st:∀(m:Heap) (tk:Nat),Kept (bZ X.stack) [ea,T] s1.heap m→Inv X pins σ' H' {s1 with heap:=m,toks:=tk}:=λm tk k=>by
   obtain⟨un,hok⟩:=l.on (t':=s1.toks) J k;exact J.xi l.os un hok l.bare λb z=>absurd z (by simp)
  refine yu hA hF hfr l.at_ l.trail λm T' oc tsx z1 z2 z3 z4 z5=>?_;have Te:T'≠ea:=OQ (Nr (Nb l.at_) z1);have f1:(fs.setIfInBounds 1 (Value.ref T'))[1]?=some (.ref T'):=by
   have:=l.trail.size
   simp[this]
  have k1:Kept (bZ X.stack) [ea,T] s1.heap m:=by rw[hst];exact z2
  refine ku (s:={s1 with heap:=m}) z3 f1 Te z4 (NP.mp z5).1 λm' q1 q2 q3=>?_;have nT:∀ b o,s1.heap.get? b=some o→b≠T':=λb o q=>Nw (Nr (Nb q) z1);have k2:Kept (bZ X.stack) [ea,T] s1.heap m':=⟨λb o q hb hx=>q1 b o (nT b o q) (k1.plain b o q hb hx),λb o q hb hx=>by
   obtain⟨sm,r⟩:=k1.frame b o q hb hx;exact⟨sm,q1 b _ (nT b o q) r⟩⟩
  have J2:=st m' s1.toks k2;refine wpAny_handleBy_cons (codeAny_handlers_test ?_) (by intro z;cases z);refine g8 (X:=X.mK ea) (J2.mK ea) hg hm ?_ hdb;refine vp xc hD J2.kIn q3 ?_;rw[hmr];refine codeAny_handlers_suite ?_;cases q2 with
  | @some _ oc2 ts2 d2 sm2 y1 y2 y3 y4 =>
  refine ku (s:={s1 with heap:=m'}) q3 y1 y2 y3 (NP.mp y4).1 λm3 r1 r2 r3=>?_;have k3:Kept (bZ X.stack) [ea,T] s1.heap m3:=⟨λb o q hb hx=>r1 b o (nT b o q) (k2.plain b o q hb hx),λb o q hb hx=>by
   obtain⟨sm,r⟩:=k2.frame b o q hb hx;exact⟨sm,r1 b _ (nT b o q) r⟩⟩
  have J3:=st m3 s1.toks k3;refine wpAny_mono (hs ea pins _ _ _ D (J3.mK ea) q) (λfl s6 w=>?_) λ_ _ z=>False.elim z;cases fl with
  | next=>obtain⟨σ6,H6,J6,w⟩:=w;exact⟨_,_,J6.uncaught J.ok,w⟩
  | brk=>obtain⟨σ6,H6,J6,w⟩:=w;exact⟨_,_,J6.uncaught J.ok,w⟩
  | cont=>obtain⟨σ6,H6,J6,w⟩:=w;exact⟨_,_,J6.uncaught J.ok,w⟩
  | ret u=>obtain⟨v,σ6,H6,J6,r,w⟩:=w;exact⟨v,_,_,J6.uncaught J.ok,r,w⟩
end
inductive Vl where
 | a (v:V)
 | l (xs:List Vl)
 | t (xs:List Vl)
noncomputable def Rp(H:Hp):Nat→V→Vl→Prop
 | 0,v,.a x=>v=x∧dj x=true
 | 0,_,.l _=>False
 | 0,_,.t _=>False
 | _+1,v,.a x=>v=x∧dj x=true
 | n+1,v,.l xs=>∃ p us,v=.ref p∧H p=some (.lst us)∧us.length=xs.length∧∀(i:Nat) (u:V) (x:Vl),us[i]?=some u→xs[i]?=some x→Rp H n u x
 | n+1,v,.t xs=>∃ p us,v=.ref p∧H p=some (.tup us)∧us.length=xs.length∧∀(i:Nat) (u:V) (x:Vl),us[i]?=some u→xs[i]?=some x→Rp H n u x
noncomputable def eqD:Nat→Vl→Vl→Bool
 | _,.a x,.a y=>eqV x y
 | n+1,.l xs,.l ys=>(List.range xs.length).all (λi=>match xs[i]?,ys[i]? with|some x,some y=>eqD n x y|_,_=>true)&&xs.length == ys.length
 | n+1,.t xs,.t ys=>(List.range xs.length).all (λi=>match xs[i]?,ys[i]? with|some x,some y=>eqD n x y|_,_=>true)&&xs.length == ys.length
 | _,_,_=>false
theorem Rp.flat{H:Hp}{n:Nat}{x:V}(h:dj x=true):Rp H n x (.a x):=by cases n<;>exact⟨rfl,h⟩
theorem Rp.qL{H:Hp}{n:Nat}{v x:V}(h:Rp H n v (.a x)):v=x∧dj x=true:=by cases n<;>exact h
theorem xw{n:Nat}{x y:V}:eqD n (.a x) (.a y)=eqV x y:=by cases n<;>rfl
theorem BN{H:Hp}{n:Nat}{us:List V}{xs ys:List Vl}(lx:us.length=xs.length)(ly:us.length=ys.length)(h:∀(i:Nat) (x y:Vl),xs[i]?=some x→ys[i]?=some y→eqD n x y=true) :
  ((List.range xs.length).all (λi=>match xs[i]?,ys[i]? with|some x,some y=>eqD n x y|_,_=>true)&&xs.length == ys.length)=true:=by
 rw[OY];refine⟨Oq.mpr λi hi=>?_,beq_iff_eq.mpr (by omega)⟩;have hi:=OW.mp hi;have e1:xs[i]?=some xs[i]:=MP hi;have e2:ys[i]?=some (ys[i]'(by omega)):=MP (by omega);simp only[e1,e2];exact h i _ _ e1 e2
theorem i6{H:Hp}:∀ {n:Nat} {v:V} {a b:Vl},Rp H n v a→Rp H n v b→eqD n a b=true:=by
 intro n;induction n with
 | zero =>
  intro v a b ha hb;cases a with
  | a x =>
   cases b with
   | a y =>
    obtain⟨rfl,fx⟩:=ha.qL;obtain⟨rfl,_⟩:=hb.qL;rw[xw];exact BK fx
   | l ys=>exact hb.elim
   | t ys=>exact hb.elim
  | l xs=>exact ha.elim
  | t xs=>exact ha.elim
 | succ n ih =>
  intro v a b ha hb;cases a with
  | a x =>
   obtain⟨rfl,fx⟩:=ha.qL;cases b with
   | a y =>
    obtain⟨rfl,_⟩:=hb.qL;rw[xw];exact BK fx
   | l ys =>
    obtain⟨p,us,rfl,_⟩:=hb;exact absurd (show false=true from fx) M4
   | t ys =>
    obtain⟨p,us,rfl,_⟩:=hb;exact absurd (show false=true from fx) M4
  | l xs =>
   obtain⟨p,us,rfl,hp,hl,hi⟩:=ha;cases b with
   | a y =>
    obtain⟨e,fy⟩:=hb.qL;rw[←e]at fy;exact absurd (show false=true from fy) M4
   | l ys =>
    obtain⟨q,ws,e,hq,ml,mi⟩:=hb;cases e;rw[hp]at hq;cases hq;exact BN (H:=H) hl ml λi x y e1 e2=>by
     have hiu:i<us.length:=(by rw[hl];exact(MQ.mp e1).1);exact ih (hi i _ x (MP hiu) e1) (mi i _ y (MP hiu) e2)
   | t ys =>
    obtain⟨q,ws,e,hq,ml,mi⟩:=hb;cases e;rw[hp]at hq;cases hq
  | t xs =>
   obtain⟨p,us,rfl,hp,hl,hi⟩:=ha;cases b with
   | a y =>
    obtain⟨e,fy⟩:=hb.qL;rw[←e]at fy;exact absurd (show false=true from fy) M4
   | t ys =>
    obtain⟨q,ws,e,hq,ml,mi⟩:=hb;cases e;rw[hp]at hq;cases hq;exact BN (H:=H) hl ml λi x y e1 e2=>by
     have hiu:i<us.length:=(by rw[hl];exact(MQ.mp e1).1);exact ih (hi i _ x (MP hiu) e1) (mi i _ y (MP hiu) e2)
   | l ys =>
    obtain⟨q,ws,e,hq,ml,mi⟩:=hb;cases e;rw[hp]at hq;cases hq
structure RcB(A:Around)(s:Shared)(u v:Value)(b:Bool):Prop where
 eq:SeqAt.RcAt A s u v b
 ne:SeqAt.RcNeAt A s u v (!b)
theorem zH{A:Around}{s:Shared}{y x:V}{u v:Value}(ry:RelV y u)(rx:RelV x v)(fy:dj y=true)(fx:dj x=true):RcB A s u v (eqV y x):=by
 cases y with
 | non =>
  cases ry;cases x with
  | non=>cases rx;exact⟨.none_none ,.none_none ⟩
  | bl b=>cases rx;exact⟨.none_bool b,.none_bool b⟩
  | int b=>obtain⟨t,rfl⟩:=rx;exact⟨.none_int b t,.none_int b t⟩
  | str b=>obtain⟨t,rfl⟩:=rx;exact⟨.none_str b t,.none_str b t⟩
  | _=>exact absurd (show false=true from fx) M4
 | bl a =>
  cases ry;cases x with
  | non=>cases rx;exact⟨.bool_none a,.bool_none a⟩
  | bl b=>cases rx;exact⟨.bool_bool a b,.bool_bool a b⟩
  | int b=>obtain⟨t,rfl⟩:=rx;exact⟨.bool_int a b t,.bool_int a b t⟩
  | str b=>obtain⟨t,rfl⟩:=rx;exact⟨.bool_str a b t,.bool_str a b t⟩
  | _=>exact absurd (show false=true from fx) M4
 | int a =>
  obtain⟨t',rfl⟩:=ry;cases x with
  | non=>cases rx;exact⟨.int_none a t',.int_none a t'⟩
  | bl b=>cases rx;exact⟨.int_bool a t' b,.int_bool a t' b⟩
  | int b=>obtain⟨t,rfl⟩:=rx;exact⟨.int_int a t' b t,.int_int a t' b t⟩
  | str b=>obtain⟨t,rfl⟩:=rx;exact⟨.int_str a t' b t,.int_str a t' b t⟩
  | _=>exact absurd (show false=true from fx) M4
 | str a =>
  obtain⟨t',rfl⟩:=ry;cases x with
  | non=>cases rx;exact⟨.str_none a t',.str_none a t'⟩
  | bl b=>cases rx;exact⟨.str_bool a t' b,.str_bool a t' b⟩
  | int b=>obtain⟨t,rfl⟩:=rx;exact⟨.str_int a t' b t,.str_int a t' b t⟩
  | str b=>obtain⟨t,rfl⟩:=rx;exact⟨.str_str a t' b t,.str_str a t' b t⟩
  | _=>exact absurd (show false=true from fx) M4
 | _=>exact absurd (show false=true from fy) M4
section
variable{X:Cx}{pins:List (Addr×Obj)}{σ:St}{H:Hp}{s:Shared}
theorem wK{A:Around}{x:V}{u:Value}{l:Addr}{items:Array Value}(rx:RelV x u)(fx:dj x=true)(hl:s.heap.IsList l items)(hu:A.units<cLine):RcB A s u (.ref l) false∧RcB A s (.ref l) u false∧SeqAt.EqAt A s u (.ref l) false∧SeqAt.EqAt A s (.ref l) u false:=by
 cases x with
 | non=>cases rx;exact⟨⟨.none_list hl hu,.none_list hl hu⟩,⟨.list_none hl hu,.list_none hl hu⟩,.none_list hl hu,.list_none hl hu⟩
 | bl b=>cases rx;exact⟨⟨.bool_list _ hl hu,.bool_list _ hl hu⟩,⟨.list_bool _ hl hu,.list_bool _ hl hu⟩,.bool_list _ hl hu,.list_bool _ hl hu⟩
 | int n=>obtain⟨t,rfl⟩:=rx;exact⟨⟨.int_list _ _ hl hu,.int_list _ _ hl hu⟩,⟨.list_int _ _ hl hu,.list_int _ _ hl hu⟩,.int_list _ _ hl hu,.list_int _ _ hl hu⟩
 | str z=>obtain⟨t,rfl⟩:=rx;exact⟨⟨.str_list _ _ hl hu,.str_list _ _ hl hu⟩,⟨.list_str _ _ hl hu,.list_str _ _ hl hu⟩,.str_list _ _ hl hu,.list_str _ _ hl hu⟩
 | _=>exact absurd (show false=true from fx) M4
theorem wL{A:Around}{x:V}{u:Value}{l:Addr}{items:Array Value}(rx:RelV x u)(fx:dj x=true)(hl:s.heap.IsTuple l items)(hu:A.units<cLine):RcB A s u (.ref l) false∧RcB A s (.ref l) u false∧SeqAt.EqAt A s u (.ref l) false∧SeqAt.EqAt A s (.ref l) u false:=by
 cases x with
 | non=>cases rx;exact⟨⟨.none_tuple hl hu,.none_tuple hl hu⟩,⟨.tuple_none hl hu,.tuple_none hl hu⟩,.none_tuple hl hu,.tuple_none hl hu⟩
 | bl b=>cases rx;exact⟨⟨.bool_tuple _ hl hu,.bool_tuple _ hl hu⟩,⟨.tuple_bool _ hl hu,.tuple_bool _ hl hu⟩,.bool_tuple _ hl hu,.tuple_bool _ hl hu⟩
 | int n=>obtain⟨t,rfl⟩:=rx;exact⟨⟨.int_tuple _ _ hl hu,.int_tuple _ _ hl hu⟩,⟨.tuple_int _ _ hl hu,.tuple_int _ _ hl hu⟩,.int_tuple _ _ hl hu,.tuple_int _ _ hl hu⟩
 | str z=>obtain⟨t,rfl⟩:=rx;exact⟨⟨.str_tuple _ _ hl hu,.str_tuple _ _ hl hu⟩,⟨.tuple_str _ _ hl hu,.tuple_str _ _ hl hu⟩,.str_tuple _ _ hl hu,.tuple_str _ _ hl hu⟩
 | _=>exact absurd (show false=true from fx) M4
theorem lst_is(I:Inv X pins σ H s){p:Addr}{us:List V}(h:H p=some (.lst us)):∃ vs,Vals us vs∧s.heap.IsList p vs.toArray:=by
 obtain⟨vs,r,⟨o,n,e,c,_,g⟩,_⟩:=I.list (SqL.of h);exact⟨vs,r,o,e,c,n,g⟩
theorem tup_is(I:Inv X pins σ H s){p:Addr}{us:List V}(h:H p=some (.tup us)):∃ vs,Vals us vs∧s.heap.IsTuple p vs.toArray:=by
 obtain⟨vs,r,t,_⟩:=I.tuple (SqT.of h);exact⟨vs,r,t⟩
theorem rcG(I:Inv X pins σ H s):∀ {n:Nat} {x y:V} {a b:Vl},Rp H n x a→Rp H n y b→∀ {A:Around} {u v:Value},RelV x u→RelV y v→A.units+n<cLine →
  SeqAt.EqAt A s u v (eqD n a b)∧(¬((∃ z,a=.a z)∧∃ z,b=.a z)→RcB A s u v (eqD n a b)):=by
 intro n;induction n with
 | zero =>
  intro x y a b ha hb A u v rx ry hu;cases a with
  | a z =>
   cases b with
   | a z' =>
    obtain⟨rfl,fx⟩:=ha.qL;obtain⟨rfl,fy⟩:=hb.qL;rw[xw];exact⟨uS rx ry fx fy,λh=>(h ⟨⟨_,rfl⟩,_,rfl⟩).elim⟩
   | _=>exact hb.elim
  | _=>exact ha.elim
 | succ n ih =>
  intro x y a b ha hb A u v rx ry hu;have hu0:A.units<cLine:=by omega
  cases a with
  | a z =>
   obtain⟨rfl,fx⟩:=ha.qL;cases b with
   | a z' =>
    obtain⟨rfl,fy⟩:=hb.qL;rw[xw];exact⟨uS rx ry fx fy,λh=>(h ⟨⟨_,rfl⟩,_,rfl⟩).elim⟩
   | l ys =>
    obtain⟨q,ws,rfl,hq,_⟩:=hb;obtain⟨vs,_,hl⟩:=lst_is I hq;cases ry;obtain⟨h1,_,h3,_⟩:=wK rx fx hl hu0;exact⟨h3,λ_=>h1⟩
   | t ys =>
    obtain⟨q,ws,rfl,hq,_⟩:=hb;obtain⟨vs,_,hl⟩:=tup_is I hq;cases ry;obtain⟨h1,_,h3,_⟩:=wL rx fx hl hu0;exact⟨h3,λ_=>h1⟩
  | l xs =>
   have ha':=ha;obtain⟨p,us,rfl,hp,lx,hx⟩:=ha;obtain⟨vs,r1,hl⟩:=lst_is I hp;cases rx;cases b with
   | a z' =>
    obtain⟨rfl,fy⟩:=hb.qL;obtain⟨_,h2,_,h4⟩:=wK ry fy hl hu0;exact⟨h4,λ_=>h2⟩
   | l ys =>
    have hb':=hb;obtain⟨q,ws,rfl,hq,ly,hy⟩:=hb;obtain⟨vs2,r2,hl2⟩:=lst_is I hq;cases ry;have l1:=r1.length;have l2:=r2.length;have rc:RcB A s (.ref p) (.ref q) (eqD (n+1) (.l xs) (.l ys)):=by
     by_cases hs:xs.length=ys.length
     ·have he:∀ j (h1:j<vs.toArray.size) (h2:j<vs2.toArray.size),SeqAt.EqAt A.in1 s vs.toArray[j] vs2.toArray[j] (match xs[j]?,ys[j]? with|some x,some y=>eqD n x y|_,_=>true):=λj h1 h2=>by
       simp only[M0]at h1 h2;obtain⟨w1,z1,rz1⟩:=r1.get (i:=j) (x:=us[j]'(by omega)) (MP (by omega));obtain⟨w2,z2,rz2⟩:=r2.get (i:=j) (x:=ws[j]'(by omega)) (MP (by omega));have a1:vs.toArray[j]=w1:=by
        have:=(MQ.mp z1).2
        simpa using this
       have a2:vs2.toArray[j]=w2:=by
        have:=(MQ.mp z2).2
        simpa using this
       rw[a1,a2];have e1:xs[j]?=some (xs[j]'(by omega)):=MP (by omega);have e2:ys[j]?=some (ys[j]'(by omega)):=MP (by omega);simp only[e1,e2];exact(ih (hx j _ _ (MP (by omega)) e1) (hy j _ _ (MP (by omega)) e2) rz1 rz2 (by rw[Around.in1_units];omega)).1
      have e:eqD (n+1) (.l xs) (.l ys)=(List.range vs.toArray.size).all (λi=>match xs[i]?,ys[i]? with|some x,some y=>eqD n x y|_,_=>true):=by
       show(_&&_)=_;rw[beq_iff_eq.mpr hs,Bool.and_true];simp only[M0];rw[show vs.length=xs.length by omega]
      rw[e];exact⟨.lists hl hl2 (by simp only[M0];omega) hu0 he,.lists hl hl2 (by simp only[M0];omega) hu0 he⟩
     ·have e:eqD (n+1) (.l xs) (.l ys)=false:=by
       show(_&&_)=_;rw[beq_eq_false_iff_ne.mpr hs,Pc]
      rw[e];exact⟨.lists_lengths hl hl2 (by simp only[M0,bne_iff_ne,ne_eq];omega) hu0,.lists_lengths hl hl2 (by simp only[M0,bne_iff_ne,ne_eq];omega) hu0⟩
    refine⟨?_,λ_=>rc⟩;by_cases e:p=q
    ·subst e
     rw[i6 ha' hb'];exact .same _
    ·exact .of_refs e rc.eq
   | t ys =>
    obtain⟨q,ws,rfl,hq,ly,hy⟩:=hb;obtain⟨vs2,r2,hl2⟩:=tup_is I hq;cases ry;have ne:p≠q:=λe=>by rw[e,hq]at hp;cases hp
    exact⟨.of_refs ne (.list_tuple hl hl2 hu0),λ_=>⟨.list_tuple hl hl2 hu0,.list_tuple hl hl2 hu0⟩⟩
  | t xs =>
   have ha':=ha;obtain⟨p,us,rfl,hp,lx,hx⟩:=ha;obtain⟨vs,r1,hl⟩:=tup_is I hp;cases rx;cases b with
   | a z' =>
    obtain⟨rfl,fy⟩:=hb.qL;obtain⟨_,h2,_,h4⟩:=wL ry fy hl hu0;exact⟨h4,λ_=>h2⟩
   | l ys =>
    obtain⟨q,ws,rfl,hq,ly,hy⟩:=hb;obtain⟨vs2,r2,hl2⟩:=lst_is I hq;cases ry;have ne:p≠q:=λe=>by rw[e,hq]at hp;cases hp
    exact⟨.of_refs ne (.tuple_list hl hl2 hu0),λ_=>⟨.tuple_list hl hl2 hu0,.tuple_list hl hl2 hu0⟩⟩
   | t ys =>
    have hb':=hb;obtain⟨q,ws,rfl,hq,ly,hy⟩:=hb;obtain⟨vs2,r2,hl2⟩:=tup_is I hq;cases ry;have l1:=r1.length;have l2:=r2.length;have he:∀ j (h1:j<vs.toArray.size) (h2:j<vs2.toArray.size),SeqAt.EqAt A.in1 s vs.toArray[j] vs2.toArray[j] (match xs[j]?,ys[j]? with|some x,some y=>eqD n x y|_,_=>true):=λj h1 h2=>by
     simp only[M0]at h1 h2;obtain⟨w1,z1,rz1⟩:=r1.get (i:=j) (x:=us[j]'(by omega)) (MP (by omega));obtain⟨w2,z2,rz2⟩:=r2.get (i:=j) (x:=ws[j]'(by omega)) (MP (by omega));have a1:vs.toArray[j]=w1:=by
      have:=(MQ.mp z1).2
      simpa using this
     have a2:vs2.toArray[j]=w2:=by
      have:=(MQ.mp z2).2
      simpa using this
     rw[a1,a2];have e1:xs[j]?=some (xs[j]'(by omega)):=MP (by omega);have e2:ys[j]?=some (ys[j]'(by omega)):=MP (by omega);simp only[e1,e2];exact(ih (hx j _ _ (MP (by omega)) e1) (hy j _ _ (MP (by omega)) e2) rz1 rz2 (by rw[Around.in1_units];omega)).1
    have e:eqD (n+1) (.t xs) (.t ys)=((List.range (min vs.toArray.size vs2.toArray.size)).all (λi=>match xs[i]?,ys[i]? with|some x,some y=>eqD n x y|_,_=>true)&&vs.toArray.size == vs2.toArray.size):=by
     show(_&&_)=_;simp only[M0];by_cases hs:xs.length=ys.length
     ·rw[show min vs.length vs2.length=xs.length by omega,show(vs.length == vs2.length)=(xs.length == ys.length) by rw[show vs.length=xs.length by omega,show vs2.length=ys.length by omega]]
     ·rw[beq_eq_false_iff_ne.mpr hs,show(vs.length == vs2.length)=false from beq_eq_false_iff_ne.mpr (by omega),Pc,Pc]
    have rc:RcB A s (.ref p) (.ref q) (eqD (n+1) (.t xs) (.t ys)):=by
     rw[e];exact⟨.tuples hl hl2 hu0 he,.tuples hl hl2 hu0 he⟩
    refine⟨?_,λ_=>rc⟩;by_cases e:p=q
    ·subst e
     rw[i6 ha' hb'];exact .same _
    ·exact .of_refs e rc.eq
end
noncomputable def L8(n:Nat):R2:=λx y H Q=>∃ a b,Rp H n x a∧Rp H n y b∧Q (.bl (!eqD n a b)) H
section
variable{X:Cx}
theorem ya{n:Nat}(hu:X.A.units+n<cLine):OpR X (compareOp .NotEq) (L8 n):=by
 rintro pins s σ H x y v u Q I rx ry ⟨a,b,ha,hb,q⟩;by_cases h:(∃ z,a=.a z)∧∃ z,b=.a z
 ·obtain⟨⟨z,rfl⟩,z',rfl⟩:=h
  obtain⟨rfl,fx⟩:=ha.qL;obtain⟨rfl,fy⟩:=hb.qL;rw[xw]at q;exact(zH rx ry fx fy).ne _ _ _ _ ⟨.bl _,H,I,rfl,q⟩
 ·exact((rcG I ha hb rx ry hu).2 h).ne _ _ _ _ ⟨.bl _,H,I,rfl,q⟩
end
section
variable{X:Cx}{pins:List (Addr×Obj)}{σ:St}{H:Hp}{s:Shared}{d:Addr}{o:Obj}{u:HO}
theorem Inv.Ij(I:Inv X pins σ H s)(hd:H d=some (.frz o u))(h0:∀ o u,X.H₀ d≠some (.frz o u))(nt:∀ xs,u≠.tup xs)(no:∀ x,u≠.own x)(nb:∀ ps,u≠.tbl ps):Inv X pins σ (upd H d u) s:=by
 have nn:∀ {b:Addr},H b=none→upd H d u b=none:=λ{b} q=>by
  rw[ab λz=>by rw[z,hd]at q;cases q];exact q
 have ns:∀ {b:Addr} {v:HO},H b=some v→(∀ o w,v≠.frz o w)→upd H d u b=some v:=λ{b v} q n=>by
  rw[ab λz=>n o u (by rw[z,hd]at q;exact(Nf q).symm)];exact q
 refine⟨I.ok,I.os,I.bare,⟨I.base.keep,I.base.slot,λb ob q n e=>nn (I.base.free b ob q n e),I.base.there,λb xs q=>ns (I.base.sU b xs q) (by intro _ _ z;cases z),λb ob w q=>?_,λb ps q=>?_⟩,I.loc,I.cell,nn I.free,λx c q=>nn (I.fK x c q),λp hp=>?_,λa w q=>?_,I.len⟩
 ·have q':=I.base.rM b ob w q
  rw[ab λz=>h0 ob w (by rw[←z];exact q)];exact q'
 ·obtain⟨more,q'⟩:=I.base.sV b ps q
  exact⟨more,ns q' (by intro _ _ z;cases z)⟩
 ·obtain⟨p1,p2,p3⟩:=I.pin p hp
  exact⟨p1,nn p2,p3⟩
 ·have st:∀ {a:Addr} {w:HO},cu X.prog X.w H s.heap a w→cu X.prog X.w (upd H d u) s.heap a w:=λx=>x.wg (λ_ _ _ z=>z) (λb z=>ns z (by intro _ _ y;cases y)) λb xs z=>ns z (by intro _ _ y;cases y)
  by_cases e:a=d
  ·subst e
   rw[ag]at q;cases q;exact st (I.hok a _ hd).2
  ·rw[ab e]at q
   exact st (I.hok a w q)
noncomputable def L9(H₀:Hp)(te:TE):TE:=λσ H Q=>te σ H λv H1=>∃ d o kvs,H1 d=some (.frz o (.dK kvs))∧(∀ o u,H₀ d≠some (.frz o u))∧Q v (upd H1 d (.dK kvs))
theorem BO{e:Expr}{te:TE}(h:PE X e te):PE X e (L9 X.H₀ te):=by
 intro pins s σ H Q I t;refine wpAny_mono (h pins s σ H _ I t) (λu s1 ⟨v,H1,I1,r,q⟩=>?_) λ_ _ z=>z;obtain⟨d,o,kvs,hd,h0,q⟩:=q;exact⟨v,_,I1.Ij hd h0 (by intro _ z;cases z) (by intro _ z;cases z) (by intro _ z;cases z),r,q⟩
noncomputable def Ma(H₀:Hp)(t:TS):TS:=λD σ H=>∃ d o kvs,H d=some (.frz o (.dK kvs))∧(∀ o u,H₀ d≠some (.frz o u))∧t D σ (upd H d (.dK kvs))
theorem BP{st:Stmt}{t:TS}(h:PS X st t):PS X st (Ma X.H₀ t):=by
 intro pins s σ H D I q;obtain⟨d,o,kvs,hd,h0,q⟩:=q;exact h pins s σ _ D (I.Ij hd h0 (by intro _ z;cases z) (by intro _ z;cases z) (by intro _ z;cases z)) q
theorem Ep:∀ {ns:List Int} {us:List Value},Vals (ns.map V.int) us→∃ ps:List (Int×Tok),us=ps.map (λp=>Value.int p.1 p.2)∧ps.map (·.1)=ns
 | [],_,.nil=>⟨[],rfl,rfl⟩
 | n::r,_,.cons h t=>by
  obtain⟨k,rfl⟩:=h;obtain⟨ps,e,e2⟩:=Ep t;exact⟨(n,k)::ps,by rw[e];rfl,by rw[Nz,e2]⟩
noncomputable def Js(K:W.Frag):List V→Hp→VK→Prop:=λvs H Q=>∃(p:Addr) (ns:List Int),vs=[.ref p]∧SqL K H p (ns.map V.int)∧Q (.int ns.sum) H
theorem e7(hc:X.calm=true):gI X (.builtin "sum") (Js X.K):=by
 rintro pins s σ H xs us Q I r ⟨p,ns,rfl,hq,q⟩;obtain⟨u,rfl,ru⟩:=r.one;cases (show u=Value.ref p from ru);obtain⟨its,rv,⟨o,n,e1,e2,e3,e4⟩,hz⟩:=I.list hq;obtain⟨ps,e,ee⟩:=Ep rv;have hl:s.heap.IsList p (intItems ps.toArray):=by
  refine⟨o,e1,e2,n,?_⟩;rw[e4,e];simp[intItems]
 have hs:preSum (numAt ps.toArray) ps.toArray.size=ns.sum:=by
  rw[preSum_eq];simp only[M0];rw[ee,MW (by rw[←ee,MN];exact MR _)]
 refine sum_intListG (I.ok.hd hc) hl λh' tk t' hk=>⟨.int ns.sum,H,I.kept (t':=tk) hk,⟨t',by rw[hs]⟩,q⟩
end
theorem oK{d:Addr}{o:Obj}{kvs:List (Key×V)}{te:TE}{Q:VK}{D:Addr}{τ:St}{H:Hp}(Pv:Nat→List V→Hp→Prop)(h0:Pv 0 [] H)(hD:∀ i ys H,i≤kvs.length→Pv i ys H→H D=some (.lst ys)∧ys.length=i)(hl:∀ i ys H,i≤kvs.length→Pv i ys H→H d=some (.frz o (.dK kvs)))(hn:kvs.length≤sizeLine)
  (hs:∀ i p ys H,kvs[i]?=some p→Pv i ys H→te (some (kV p.1)::τ) H λv H4=>H4 D=some (.lst ys)∧Pv (i+1) (ys++[v]) (upd H4 D (.lst (ys++[v])))) (hd:∀ ys H,Pv kvs.length ys H→Q (.ref D) H):uW (Itd d o kvs) D τ te Q H:=by
 refine⟨λi m ys H=>m=kvs.length-i∧i≤kvs.length∧Pv i ys H,⟨kvs.length,by simp,NH _,h0⟩,?_⟩;rintro i m ys H2 ⟨rfl,hi,p⟩;obtain⟨d1,d2⟩:=hD i ys H2 hi p;refine⟨d1,?_⟩;have hS:=hl i ys H2 hi p;by_cases hlt:i<kvs.length
 ·refine .inr ⟨⟨hS,hlt⟩,by omega,Pv (i+1),λzs H' p'=>⟨kvs.length-(i+1),by omega,rfl,hlt,p'⟩,λy H3 q=>?_⟩
  obtain⟨e1,q',e2,e3⟩:=q;subst e1 e3;exact hs i q' ys _ e2 p
 ·have e:i=kvs.length:=by omega
  subst e;exact .inl ⟨⟨hS,MR _⟩,hd ys H2 p⟩
noncomputable def CA:Option Key→Value→Bool
 | none,.none=>true
 | none,_=>false
 | some k,v=>gH k v
theorem cx{v:Value}(h:CA none v=true):v=.none:=by
 cases v<;>first|rfl|cases h
noncomputable def Mb(w:World):Option Key→Int
 | none=>reduceHash 0xFCA86420
 | some k=>JS w k
theorem zI{prog:Program}{w:World}{A:Around}{E:Value→Shared→Prop}{s:Shared}{Q:Int→Shared→Prop}(h:Q (reduceHash 0xFCA86420) {s with toks:=s.toks+1}):wpAny (model prog w) A (pyHash .none) Q E s:=by
 show wpAny _ _ (pyHashByItsType .none) Q E s;exact PySem.W.pyHash_slot (T := "NoneType") rfl F.slot_NoneType_hash F.entry_NoneType_hash (F.args_NoneType_hash_1 _) (beq_builtin_none _) (.inl rfl) (wpAny_bind (wpAny_pure (wpAny_bind (wpAny_mkInt (wpAny_pure ⟨_,_,rfl,h⟩)))))
noncomputable def optKind(prog:Program)(w:World):PySem.KeyKind prog w (Option Key) where
 is:=CA
 hash:=Mb w
 inj:=λv a b ha hb=>by
  cases a with
  | none =>
   obtain rfl:=cx ha;cases b with
   | none=>rfl
   | some k=>rcases aS (show gH k .none=true from hb) with⟨_,_,_,e⟩|⟨_,_,_,e⟩<;>exact nomatch e
  | some k =>
   cases b with
   | none =>
    obtain rfl:=cx hb;rcases aS (show gH k .none=true from ha) with⟨_,_,_,e⟩|⟨_,_,_,e⟩<;>exact nomatch e
   | some k'=>rw[(a5 prog w).inj v k k' ha hb]
 byValue:=λk v h=>by
  cases k with
  | none=>obtain rfl:=cx h;rfl
  | some k=>exact(a5 prog w).byValue k v h
 pyHash:=λ{A E s k v Q} hv h=>by
  cases k with
  | none=>obtain rfl:=cx hv;exact zI h
  | some k=>exact(a5 prog w).pyHash (k:=k) hv h
 eqBool:=λ{A E s a b u v Q} hu hv h=>by
  cases a with
  | none =>
   obtain rfl:=cx hu;cases b with
   | none=>obtain rfl:=cx hv;exact SeqAt.EqAt.same _ _ _ _ _ h
   | some k =>
    rw[decide_eq_false (by intro z;cases z)]at h;rcases aS (show gH k v=true from hv) with⟨i,t,_,rfl⟩|⟨x,t,_,rfl⟩
    ·exact SeqAt.EqAt.none_int i t _ _ _ _ h
    ·exact SeqAt.EqAt.none_str x t _ _ _ _ h
  | some k =>
   cases b with
   | none =>
    obtain rfl:=cx hv;rw[decide_eq_false (by intro z;cases z)]at h;rcases aS (show gH k u=true from hu) with⟨i,t,_,rfl⟩|⟨x,t,_,rfl⟩
    ·exact SeqAt.EqAt.int_none i t _ _ _ _ h
    ·exact SeqAt.EqAt.str_none x t _ _ _ _ h
   | some k' =>
    refine(a5 prog w).eqBool (a:=k) (b:=k') hu hv ?_;have e:decide (some k=some k')=decide (k=k'):=by
     by_cases c:k=k'
     ·subst c;simp
     ·rw[decide_eq_false c,decide_eq_false (by intro z;exact c (Nf z))]
    rw[←e];exact h
 «strs» := λk x t v h=>by
  cases k with
  | none=>exact nomatch cx h
  | some k=>exact(a5 prog w).strs k x t v h
theorem C7{prog:Program}{w:World}{h:Heap}{a:Addr}{kvs:List (Key×Value)}(hd:h.DictOf (a5 prog w) a kvs):h.MapOf (optKind prog w) a (λk=>k.bind λk=>valueAt kvs k):=by
 obtain⟨o,es,ep,ho,hc,Mc,hk,hf⟩:=hd.mapOf;refine⟨o,es,ep,ho,hc,Mc,λe he=>?_,λk=>?_⟩
 ·obtain⟨k,h1,h2⟩:=hk e he
  exact⟨some k,h1,h2⟩
 ·cases k with
  | none =>
   show(es.find? λe=>CA none e.key).map (·.val)=none;rw[Array.find?_eq_none.mpr λe he=>?_]
   ·rfl
   ·obtain⟨k,h1,_⟩:=hk e he
    intro z
    have:=cx z
    rw[this]at h1;rcases aS (show gH k .none=true from h1) with⟨_,_,_,e⟩|⟨_,_,_,e⟩<;>exact nomatch e
  | some k=>exact hf k
noncomputable def inO(kvs:List (Key×V)):Option Key→Bool
 | none=>false
 | some k=>(cE kvs k).isSome
noncomputable def Ik:Option Key→V
 | none=>.non
 | some k=>kV k
section
variable{X:Cx}{i o:Expr}{ty td:TE}
noncomputable def Jt(ty td:TE):TE:=λσ H Q=>ty σ H λy H1=>td σ H1 λx H2=>∃ a kvs k,x=.ref a∧y=Ik k∧Rd H2 a (.dK kvs)∧Q (.bl (inO kvs k)) H2
theorem Fg{P:Program}{w:World}{k:Option Key}{u:Value}(r:RelV (Ik k) u):(optKind P w).is k u=true:=by
 cases k with
 | none=>cases r;rfl
 | some k=>exact sQ (P:=P) (w:=w) r
theorem C8(hi:PE X i ty)(ho:PE X o td):PC X .In i o (Jt ty td):=by
 intro pins s σ H Q I h;refine thn (hi pins s σ H _ I h) λiv s1 ⟨y,H1,I1,ry,q1⟩=>thn (ho pins s1 σ H1 _ I1 q1) λu s2 ⟨x,H2,I2,rx,a,kvs,k,ex,ey,g,q2⟩=>?_;subst ex ey;cases (show u=Value.ref a from rx);obtain⟨z,hd,vs,rel,dd⟩:=kr I2.hok g;refine wpAny_in_of (Fg (P:=X.prog) (w:=X.w) ry) hd (C7 dd) ?_;have e:(k.bind λk=>valueAt vs k).isSome=inO kvs k:=by
  cases k with
  | none=>rfl
  | some k=>exact(rel.val k).eY.symm
 rw[e];exact⟨.bl (inO kvs k),H2,I2.tok _,rfl,q2⟩
end
section
variable{X:Cx}{K:W.Frag}
theorem C9{e:Expr}{f:Str}{pos:Pos}{ta:TE}(hK:X.K=K)(he:PE X e ta)(hb:attributeBase e f X.env (eval e X.env)=eval e X.env):PE X (.Attribute e f pos) (Kb K ta f):=by
 subst hK;exact aB he hb
noncomputable def Ju(K:W.Frag):List V→Hp→VK→Prop:=λxs H Q=>∃ p ys,xs=[V.ref p]∧(SqL K H p ys∨SqT K H p ys)∧Q (.int (ys.length:Int)) H
theorem zJ(hK:X.K=K):gI X (.builtin "len") (Ju K):=by
 subst hK;exact bM
end
section
variable{X:Cx}{o:Expr}{ta:TE}
end
end L2
end
section
namespace L2
open PySem PySem.Spec PyProof.Rows LX
theorem tG:∀(f n r:Nat),n≤f→r≤1→minRun' f n r≤max 64 (n+r)
 | 0,n,r,_,_=>Nat.le_max_right _ _
 | f+1,n,r,h,hr=>by
  rw[minRun'_succ];by_cases c:n<64
  ·rw[if_pos c];exact Nat.le_max_right _ _
  ·rw[if_neg c]
   have:=tG f (n/2) (max r (n%2)) (by omega) (by omega)
   omega
theorem vq{n:Nat}:¬n<minRun' n n 0:=by
 by_cases c:n<64
 ·cases n with
  | zero=>show ¬0<0+0;omega
  | succ f=>rw[minRun'_succ,if_pos c];omega
 ·have:=tG n n 0 (MR _) (by omega)
  omega
section
variable{prog:Program}{w:World}{A:Around}{E:Value→Shared→Prop}{s:Shared}{a₀:Array Keyed}
theorem vt{st:SortSt}{m:Nat}{Q:Option Nat→SortSt→Prop}(ik:IntKeys a₀)(h:m≤a₀.size)(h1:1≤m)(B:SBase a₀ st)(up:SortedTo (arrOf st) m)(q:Q (some m) st):wpS (model prog w) A E s (countRun' 0 m) Q st:=by
 rw[countRun0_eq];refine wpS_bind (wpS_ascLoop ik h (MR 1) h1 B (λi j a b=>up i j a (by omega)) λn n1 n2 _ o=>?_);have e:n=m:=by
  rcases o with o|o
  ·exact o
  ·by_cases c:n=m
   ·exact c
   ·have:=up (n-1) n (by omega) (by omega)
    omega
 subst e;dsimp only;rw[if_pos (by simp)];exact wpS_pure q
theorem xx{st:SortSt}{Q:Unit→SortSt→Prop}(ik:IntKeys a₀)(B:SBase a₀ st)(n2:2≤a₀.size)(up:SortedTo (arrOf st) a₀.size)
  (q:∀ st',(arrOf st').Perm a₀→failedOf st'=none→SortedTo (arrOf st') a₀.size→Q () st'):wpS (model prog w) A E s sortRuns' Q st:=by
 rw[sortRuns'_eq];refine wpS_bind (wpS_get ?_);dsimp only;have mr:¬a₀.size<minRun' a₀.size a₀.size 0:=vq;simp only[B.size];refine wpS_bind (wpS_mono (wpS_forRange (I:=λx c st'=>(x=0∧c=(none,0)∧st'=st)∨(1≤x∧c=(none,a₀.size)∧SDone a₀ st')) (Q:=λc st'=>c=(none,a₀.size)∧SDone a₀ st') ?one ?all (.inl ⟨rfl,rfl,rfl⟩)) ?rest)
 case all =>
  rintro c st' (⟨z,_,_⟩|⟨_,hc,d⟩)
  ·omega
  ·exact⟨hc,d⟩
 case one =>
  rintro x c st' _ hx (⟨rfl,rfl,rfl⟩|⟨_,rfl,d⟩)
  ·dsimp only
   rw[if_neg (by omega)];simp only[Nat.sub_zero,Nat.zero_add];refine wpS_bind (vt ik (MR _) (by omega) B up ?_);dsimp only;rw[if_neg mr];refine wpS_bind (wpS_get ?_);rw[show(pendingOf st').back?=none by rw[B.pend];rfl];dsimp only;exact wpS_bind (wpS_modify (wpS_pure (.inr ⟨by omega,rfl,B.done up⟩)))
  ·dsimp only
   rw[if_pos (MR _)];exact wpS_pure ⟨rfl,d⟩
 case rest =>
  rintro c st' ⟨rfl,d⟩;dsimp only;refine wpS_bind (wpS_mono (wpS_forRange (I:=λ_ c st2=>st2=st'∧c=(none,())) (Q:=λc st2=>st2=st'∧c=(none,())) ?_ (λ_ _ z=>z) ⟨rfl,rfl⟩) ?_)
  ·rintro x c st2 _ _ ⟨rfl,rfl⟩
   refine wpS_bind (wpS_get ?_);rw[if_pos (show(pendingOf st2).size≤1 by rw[d.2.2.1];exact MR 1)];exact wpS_pure ⟨rfl,rfl⟩
  ·rintro c st2 ⟨rfl,rfl⟩
   exact wpS_pure (q _ d.1 d.2.1 d.2.2.2)
theorem yx:∀ {vs:List Value} {ns:List Int},IntsAre vs ns→∀(i:Nat) (h:i<vs.length) (h':i<ns.length),numOf vs[i]=ns[i]
 | _,_,.nil,i,h,_=>absurd h (O5 _)
 | _,_,.cons k t r,0,_,_=>rfl
 | _,_,.cons k t r,i+1,h,h'=>yx r i (Nat.lt_of_succ_lt_succ h) (Nat.lt_of_succ_lt_succ h')
theorem AM{vs:List Value}{ns:List Int}(hI:IntsAre vs ns)(up:ns.Pairwise (·≤·)):SortedTo (pairsOf vs) (pairsOf vs).size:=by
 intro i j ij hj;have hl:=hI.length;have hs:=pairsOf_size vs;rw[K_eq (by omega),K_eq (by omega)];have hi2:i<ns.length:=by omega
 have hj2:j<ns.length:=by omega
 have e:∀(k:Nat) (h:k<(pairsOf vs).size) (h':k<ns.length),numOf (pairsOf vs)[k].1=ns[k]:=λk h h'=>by
  have:(pairsOf vs)[k].1=vs[k]'(by omega):=by simp[pairsOf]
  rw[this];exact yx hI k (by omega) h'
 rw[e i (by omega) hi2,e j (by omega) hj2];rcases Oa i j with c|c
 ·exact Ov.mp up i j hi2 hj2 c
 ·have:i=j:=by omega
  subst this;exact NL _
theorem lZ{a:Addr}{vs:List Value}{ns:List Int}{n:Nat}{P:Fin→Shared→Prop}(ho:s.heap.get? a=some (seqObj "list" vs.toArray n))(hI:IntsAre vs ns)(few:vs.length≤20000)(up:ns.Pairwise (·≤·))
  (h:∀(out:Array Value) (ns':List Int),IntsAre out.toList ns'→ns'.Perm ns→ns'.Pairwise (·≤·)→P (.done (.ret .none)) {s with heap:=sortedHeap s.heap a vs out}):wpAny (model prog w) A (Builtin.«list.sort» ⟨[.ref a],[]⟩) P E s:=by
 have hz:vs.length≤sizeLine:=OP (NQ few (by decide));rw[list_sort_plain];have la:a<s.heap.objs.size:=Nb ho;refine wpAny_bind (listItems_at ho rfl (wpAny_bind (listUpdate_at ho rfl ?_ (by rw[M0];exact hz) (NH _))));obtain⟨e1,g1⟩:∃ e1,(s.heap.update a (Obj.mapSeq λ_=>#[])).get? a=some (seqObj "list" #[] e1):=⟨_,get?_update_seq ho (λ_=>#[])⟩;refine wpAny_bind (seqEpoch_at g1 rfl (wpAny_bind (wpAny_newTuple (wpAny_bind (wpAny_newList (wpAny_holding ?_) (NH _))) (by show vs.length≤_;exact hz))));have g6:(((s.heap.update a (Obj.mapSeq λ_=>#[])).push (seqObj "tuple" vs.toArray 0)).push (seqObj "list" #[] 0)).get? a=some (seqObj "list" #[] e1):=MU _ (MU _ g1);show wpAny (model prog w) A _ P E {s with heap:=((s.heap.update a (Obj.mapSeq λ_=>#[])).push (seqObj "tuple" vs.toArray 0)).push (seqObj "list" #[] 0)};dsimp only;have zs:(pairsOf vs).size=vs.length:=pairsOf_size vs;have fin:∀ st':SortSt,(arrOf st').Perm (pairsOf vs)→SortedTo (arrOf st') (pairsOf vs).size→P (.done (.ret .none)) {s with heap:=sortedHeap s.heap a vs ((arrOf st').map (·.2))}:=λst' hp hs=>by
  obtain⟨ns',q1,q2,q3⟩:=sorted_out hI hp hs;exact h _ ns' q1 q2 q3
 have up0:=AM hI up;by_cases c:vs.toArray.size<2
 ·rw[if_pos c,if_pos c]
  refine wpAny_bind (wpAny_pure ?_);rw[StateT.run_pure];refine wpAny_bind (wpAny_pure ?_);dsimp only;refine wpAny_bind (seqEpoch_at g6 rfl (wpAny_bind (listUpdate_at g6 rfl ?_ (hsz2:=by rw[Pd];show(pairsOf vs).size≤_;rw[zs];omega))));simp only[bne_self_eq_false,Nx,if_false];exact wpAny_pure (fin (SortSt.mk' general' (vs.toArray.zip vs.toArray) #[] 7 none) (O6 _) up0)
 ·rw[if_neg c,if_neg c]
  obtain⟨v1,v2,r,rfl⟩:∃ v1 v2 r,vs=v1::v2::r:=by
   match vs,c with
   | [],c=>simp at c
   | [_],c=>simp at c
   | v1::v2::r,_=>exact⟨v1,v2,r,rfl⟩
  rw[keyKind_ints hI];refine wpAny_bind (wpAny_pure (wpAny_bind (wpAny_mono (xx (a₀:=pairsOf (v1::v2::r)) (st:=SortSt.mk' oneType' ((v1::v2::r).toArray.zip (v1::v2::r).toArray) #[] 7 none)
   (Q:=λ_ st'=>(arrOf st').Perm (pairsOf (v1::v2::r))∧failedOf st'=none∧SortedTo (arrOf st') (pairsOf (v1::v2::r)).size) hI.intKeys ⟨O6 _,rfl,rfl,rfl⟩ (by rw[zs];simp) up0 λst' a1 a2 a3=>⟨a1,a2,a3⟩) ?_ λ_ _ e=>e)))
  rintro⟨⟨⟩,st'⟩ s' ⟨rfl,hp,hf,hs⟩;dsimp only;refine wpAny_bind (seqEpoch_at g6 rfl (wpAny_bind (listUpdate_at g6 rfl ?_ (hsz2:=Nh (Nat.le_of_eq ((Pd ..).trans (hp.size_eq.trans zs))) (Nat.le_succ_of_le hz)))));rw[hf];simp only[bne_self_eq_false,Nx,if_false];exact wpAny_pure (fin st' hp hs)
end
section
variable{X:Cx}
noncomputable def AN:List V→Hp→VK→Prop:=λvs H Q=>∃(p:Addr) (kvs:List (Key×V)) (ks:List Int),vs=[.ref p]∧Rd H p (.dK kvs)∧kvs.map (·.1)=ks.map Sum.inl∧ks.length≤20000∧ks.Pairwise (·≤·)∧∀(l:Addr),H l=none→Q (.ref l) (upd H l (.lst (ks.map V.int)))
theorem dF(hc:X.calm=true):gI X (.builtin "sorted") AN:=by
 rintro pins s σ H xs us Q I r ⟨p,kvs,ks,rfl,hp,hk,few,up,q⟩;obtain⟨u,rfl,ru⟩:=r.one;cases (show u=Value.ref p from ru);obtain⟨hz,hd,vs,rel,dd⟩:=kr I.hok hp;obtain⟨ep,hat⟩:=dd.dictAt;have hh:=I.ok.hd hc;have hl:ks.length=kvs.length:=by
  have:=congrArg List.length hk
  simpa using this.symm
 refine Ou kind_sorted plain_sorted entry_sorted (args_sorted1 _) ?_;unfold Builtin.«sorted»;refine wpAny_bind (m:=checkCount "sorted" 1 1 _) (wpAny_pure ?_);refine wpAny_bind (PySem.W.kdu_collect (A:=X.A.in1) (PySem.W.kdl_dict (knd:=a5 X.prog X.w) (kvs:=vs) (ep:=ep) hd) hh hat (by rw[←rel.length];exact hz) λh' tk acc hkp hacc=>?_);have hI:IntsAre acc.toList ks:=oH (by rw[←rel.keys];exact hk) hacc.1 hacc.2;have hlen:=hI.length;have I1:Inv X pins σ H {s with heap:=h',toks:=tk}:=I.kept (t':=tk) hkp;refine wpAny_bind (wpAny_newList ?_ (by show acc.toList.length≤sizeLine;rw[hlen,hl];exact hz));have hoL:(h'.push (seqObj "list" acc.toList.toArray 0)).get? h'.objs.size=some (seqObj "list" acc.toList.toArray 0):=NB _ rfl;show wpAny _ _ _ _ _ {s with heap:=h'.push (seqObj "list" acc.toList.toArray 0),toks:=tk};refine wpAny_bind (wpAny_holding (wpAny_call_entry slot_list_sort ⟨_,hoL,rfl⟩ entry_list_sort (lZ hoL hI (by omega) up λout ns' a1 a2 a3=>⟨_,rfl,?_⟩) (args_list_sort _)));refine wpAny_pure ⟨_,rfl,?_⟩;cases oJ a2 a3 up;obtain⟨e,he⟩:=sortedHeap_at (out:=out) hoL;refine⟨.ref h'.objs.size,_,I1.laid (a:=h'.objs.size) (o:=.lst (ks.map V.int)) (t':=tk) (λb o hb=>?_) (MR _) ?_,rfl,q _ (I1.hok.fresh (MR _))⟩
 ·have hlt:=Nb hb
  rw[sortedHeap_old (Nw hlt) (by rw[size_push'];exact OI hlt),Heap.get?_push_ne _ _ _ (Nw hlt)];exact hb
 ·refine⟨by rw[MN,hl];exact hz,out.toList,e,dZ a1,?_⟩
  rw[he]
noncomputable def De(K:W.Frag):List V→Hp→VK→Prop:=λvs H Q=>∃(p:Addr) (ns:List Int),vs=[.ref p]∧SqL K H p (ns.map V.int)∧ns.length≤20000∧ns.Pairwise (·≤·)∧∀(l:Addr),H l=none→Q (.ref l) (upd H l (.lst (ns.map V.int)))
theorem vx:gI X (.builtin "sorted") (De X.K):=by
 rintro pins s σ H xs us Q I r ⟨p,ns,rfl,hq,few,up,q⟩;obtain⟨u,rfl,ru⟩:=r.one;cases (show u=Value.ref p from ru);obtain⟨its,rv,pl,hz⟩:=I.list hq;have hI:=intsAre_of rv;have hlen:=rv.length;rw[MN]at hlen hz;refine Ou kind_sorted plain_sorted entry_sorted (args_sorted1 _) ?_;unfold Builtin.«sorted»;refine wpAny_bind (m:=checkCount "sorted" 1 1 _) (wpAny_pure ?_);have iz:its.length≤sizeLine:=by omega
 refine wpAny_bind (collect_list pl.isList ?_ iz);refine wpAny_bind (wpAny_newList ?_ iz);have sz:((s.heap.push (seqObj "list" #[] 0)).update s.heap.objs.size (Obj.mapSeq (·++its.toArray))).objs.size=s.heap.objs.size+1:=by rw[Heap.size_update,size_push']
 have hoL:(((s.heap.push (seqObj "list" #[] 0)).update s.heap.objs.size (Obj.mapSeq (·++its.toArray))).push (seqObj "list" its.toArray 0)).get? (s.heap.objs.size+1)=some (seqObj "list" its.toArray 0):=by rw[←sz];exact NB _ rfl
 show wpAny _ _ _ _ _ {s with heap:=((s.heap.push (seqObj "list" #[] 0)).update s.heap.objs.size (Obj.mapSeq (·++its.toArray))).push (seqObj "list" its.toArray 0)};rw[sz];refine wpAny_bind (wpAny_holding (wpAny_call_entry slot_list_sort ⟨_,hoL,rfl⟩ entry_list_sort (lZ hoL hI (by omega) up λout ns' a1 a2 a3=>⟨_,rfl,?_⟩) (args_list_sort _)));refine wpAny_pure ⟨_,rfl,?_⟩;cases oJ a2 a3 up;obtain⟨e,he⟩:=sortedAll_at s.heap its out;refine⟨.ref (s.heap.objs.size+1),_,I.laid (a:=s.heap.objs.size+1) (o:=.lst (ns.map V.int)) (t':=s.toks) (λ_ _=>sortedAll_old) (OF _) ?_,rfl,q _ (I.hok.fresh (OF _))⟩;refine⟨by rw[MN];exact hz,out.toList,e,dZ a1,?_⟩;show(sortedAll s.heap its out).get? _=_;rw[he]
end
end L2
end
section
namespace K72
open PySem L2 LX
open PySem.W (nsIn findIn isFn keepIn codeIn fnOf kitOne)
noncomputable abbrev ia:Stmt:=inClass (top 2) 0
noncomputable abbrev ql:Stmt:=top 19
noncomputable abbrev rW:Stmt:=top 20
noncomputable abbrev zK:Stmt:=top 21
noncomputable abbrev xy:Stmt:=top 22
noncomputable abbrev nA:Stmt:=top 23
noncomputable abbrev qm:Stmt:=top 24
noncomputable abbrev qo:Stmt:=top 25
noncomputable abbrev pH:Stmt:=top 26
noncomputable abbrev nB:Stmt:=top 27
noncomputable abbrev oO:Stmt:=top 29
noncomputable abbrev xA:Stmt:=top 30
noncomputable abbrev iI:Stmt:=top 31
noncomputable abbrev iJ:Stmt:=top 32
noncomputable abbrev gE:Stmt:=top 33
noncomputable abbrev jC:Stmt:=top 35
noncomputable abbrev iK:Stmt:=top 36
noncomputable abbrev pj:Stmt:=top 37
noncomputable abbrev iL:Stmt:=top 38
noncomputable abbrev tH:Stmt:=top 39
noncomputable abbrev qM:Stmt:=top 40
noncomputable abbrev jD:Stmt:=top 42
noncomputable abbrev iM:Stmt:=top 43
noncomputable abbrev jE:Stmt:=top 44
noncomputable abbrev f9:Stmt:=top 45
noncomputable abbrev nC:Stmt:=inClass (top 47) 0
noncomputable abbrev pI:Stmt:=inClass (top 47) 1
noncomputable abbrev kF:Stmt:=inClass (top 47) 2
noncomputable abbrev vz:Stmt:=inClass (top 47) 3
noncomputable abbrev tP:Stmt:=inClass (top 47) 4
noncomputable abbrev qq:Stmt:=inClass (top 47) 5
noncomputable abbrev tQ:Stmt:=inClass (top 47) 6
noncomputable abbrev kG:Stmt:=inClass (top 47) 9
noncomputable abbrev ib:Stmt:=inClass (top 50) 0
noncomputable abbrev nD:Stmt:=inClass (top 50) 1
noncomputable abbrev jP:Stmt:=inClass (top 50) 4
noncomputable abbrev ic:Stmt:=inClass (top 52) 0
noncomputable abbrev nE:Stmt:=inClass (top 52) 1
noncomputable abbrev kH:Stmt:=inClass (top 52) 2
noncomputable abbrev gQ:Stmt:=inClass (top 52) 3
noncomputable abbrev eO:Stmt:=inClass (top 52) 4
noncomputable abbrev pJ:Stmt:=inClass (top 54) 0
noncomputable abbrev nF:Stmt:=inClass (top 54) 1
noncomputable abbrev vA:Stmt:=inClass (top 54) 2
noncomputable abbrev tR:Stmt:=inClass (top 54) 3
noncomputable abbrev vB:Stmt:=inClass (top 54) 4
noncomputable abbrev vC:Stmt:=inClass (top 54) 5
noncomputable abbrev rZ:Stmt:=inClass (top 54) 6
noncomputable abbrev vD:Stmt:=inClass (top 54) 7
noncomputable abbrev kK:Stmt:=inClass (top 54) 8
noncomputable abbrev vE:Stmt:=inClass (top 54) 9
noncomputable abbrev eP:Stmt:=inClass (top 54) 10
noncomputable abbrev r6:Stmt:=inClass (top 54) 11
noncomputable abbrev i7:Stmt:=inClass (top 54) 12
noncomputable abbrev eQ:Stmt:=inClass (top 54) 15
noncomputable abbrev dO:Stmt:=inClass (top 54) 16
noncomputable abbrev se:Stmt:=top 55
noncomputable abbrev ie:Stmt:=inClass (top 57) 0
noncomputable abbrev nG:Stmt:=inClass (top 57) 1
noncomputable abbrev nH:Stmt:=inClass (top 57) 2
noncomputable abbrev nI:Stmt:=inClass (top 57) 8
noncomputable abbrev kM:Stmt:=inClass (top 57) 9
noncomputable abbrev kN:Stmt:=inClass (top 57) 10
noncomputable abbrev pK:Stmt:=inClass (top 57) 11
noncomputable abbrev kO:Stmt:=inClass (top 57) 13
noncomputable abbrev kP:Stmt:=inClass (top 57) 14
noncomputable abbrev jQ:Stmt:=inClass (top 57) 15
noncomputable abbrev gR:Stmt:=inClass (top 57) 16
noncomputable abbrev jR:Stmt:=inClass (top 57) 19
noncomputable abbrev kQ:Stmt:=inClass (top 57) 22
noncomputable abbrev tS:Stmt:=top 59
noncomputable abbrev vF:Stmt:=top 60
noncomputable abbrev tT:Stmt:=top 61
noncomputable abbrev vG:Stmt:=top 62
noncomputable abbrev dA:Stmt:=top 63
noncomputable abbrev aH:Stmt:=top 64
set_option genInjectivity false in
structure Ad where
noncomputable def Ad.pk(_:Ad):Addr:=45
noncomputable def Ad.bo(_:Ad):Addr:=122
noncomputable def Ad.ba(_:Ad):Addr:=65
noncomputable def Ad.cN(_:Ad):Addr:=84
noncomputable def Ad.dX(_:Ad):Addr:=103
noncomputable def Ad.jq(_:Ad):Addr:=217
noncomputable def Ad.cG(_:Ad):Addr:=160
noncomputable def Ad.mU(_:Ad):Addr:=141
noncomputable def Ad.jr(_:Ad):Addr:=179
noncomputable def Ad.js(_:Ad):Addr:=198
noncomputable def Ad.cC(_:Ad):Addr:=457
noncomputable def Ad.aW(_:Ad):Addr:=520
noncomputable def Ad.aK(_:Ad):Addr:=567
noncomputable def Ad.Fh(_:Ad):Addr:=694
noncomputable def Ad.ah(_:Ad):Addr:=876
noncomputable def Ad.ig(_:Ad):Addr:=35
noncomputable def Ad.qr(_:Ad):Addr:=226
noncomputable def Ad.sj(_:Ad):Addr:=233
noncomputable def Ad.zM(_:Ad):Addr:=240
noncomputable def Ad.xB(_:Ad):Addr:=247
noncomputable def Ad.nJ(_:Ad):Addr:=254
noncomputable def Ad.qt(_:Ad):Addr:=261
noncomputable def Ad.qu(_:Ad):Addr:=268
noncomputable def Ad.pL(_:Ad):Addr:=275
noncomputable def Ad.nK(_:Ad):Addr:=282
noncomputable def Ad.zN(_:Ad):Addr:=287
noncomputable def Ad.xC(_:Ad):Addr:=294
noncomputable def Ad.iN(_:Ad):Addr:=301
noncomputable def Ad.iO(_:Ad):Addr:=308
noncomputable def Ad.gF(_:Ad):Addr:=315
noncomputable def Ad.jF(_:Ad):Addr:=320
noncomputable def Ad.iP(_:Ad):Addr:=327
noncomputable def Ad.pq(_:Ad):Addr:=332
noncomputable def Ad.iQ(_:Ad):Addr:=337
noncomputable def Ad.tI(_:Ad):Addr:=344
noncomputable def Ad.qN(_:Ad):Addr:=351
noncomputable def Ad.jG(_:Ad):Addr:=358
noncomputable def Ad.iR(_:Ad):Addr:=365
noncomputable def Ad.jH(_:Ad):Addr:=372
noncomputable def Ad.gc(_:Ad):Addr:=377
noncomputable def Ad.nM(_:Ad):Addr:=391
noncomputable def Ad.pM(_:Ad):Addr:=398
noncomputable def Ad.kU(_:Ad):Addr:=405
noncomputable def Ad.vH(_:Ad):Addr:=412
noncomputable def Ad.tU(_:Ad):Addr:=419
noncomputable def Ad.qv(_:Ad):Addr:=426
noncomputable def Ad.tV(_:Ad):Addr:=433
noncomputable def Ad.kX(_:Ad):Addr:=454
noncomputable def Ad.ip(_:Ad):Addr:=475
noncomputable def Ad.nN(_:Ad):Addr:=482
noncomputable def Ad.jS(_:Ad):Addr:=503
noncomputable def Ad.iq(_:Ad):Addr:=538
noncomputable def Ad.nO(_:Ad):Addr:=545
noncomputable def Ad.kY(_:Ad):Addr:=552
noncomputable def Ad.gS(_:Ad):Addr:=559
noncomputable def Ad.jT(_:Ad):Addr:=564
noncomputable def Ad.pN(_:Ad):Addr:=585
noncomputable def Ad.nP(_:Ad):Addr:=592
noncomputable def Ad.vI(_:Ad):Addr:=599
noncomputable def Ad.tW(_:Ad):Addr:=606
noncomputable def Ad.vJ(_:Ad):Addr:=613
noncomputable def Ad.vK(_:Ad):Addr:=620
noncomputable def Ad.sk(_:Ad):Addr:=627
noncomputable def Ad.vL(_:Ad):Addr:=634
noncomputable def Ad.kZ(_:Ad):Addr:=641
noncomputable def Ad.vM(_:Ad):Addr:=648
noncomputable def Ad.jU(_:Ad):Addr:=653
noncomputable def Ad.so(_:Ad):Addr:=660
noncomputable def Ad.i8(_:Ad):Addr:=667
noncomputable def Ad.jV(_:Ad):Addr:=686
noncomputable def Ad.nQ(_:Ad):Addr:=691
noncomputable def Ad.sq(_:Ad):Addr:=705
noncomputable def Ad.ir(_:Ad):Addr:=719
noncomputable def Ad.nR(_:Ad):Addr:=726
noncomputable def Ad.nS(_:Ad):Addr:=733
noncomputable def Ad.nU(_:Ad):Addr:=775
noncomputable def Ad.k6(_:Ad):Addr:=782
noncomputable def Ad.k7(_:Ad):Addr:=789
noncomputable def Ad.pO(_:Ad):Addr:=796
noncomputable def Ad.k8(_:Ad):Addr:=810
noncomputable def Ad.k9(_:Ad):Addr:=817
noncomputable def Ad.jW(_:Ad):Addr:=824
noncomputable def Ad.gT(_:Ad):Addr:=831
noncomputable def Ad.jX(_:Ad):Addr:=852
noncomputable def Ad.lg(_:Ad):Addr:=873
noncomputable def Ad.tX(_:Ad):Addr:=885
noncomputable def Ad.vN(_:Ad):Addr:=892
noncomputable def Ad.tY(_:Ad):Addr:=899
noncomputable def Ad.vO(_:Ad):Addr:=906
noncomputable def Ad.lh(_:Ad):Addr:=911
noncomputable def Ad.fv(_:Ad):Addr:=916
noncomputable def fdA(P:Params)(a:Addr):FuncData:=match (hK P).lookup a with|some ⟨_,_,.func d,_⟩=>d|_=>default
structure Txt(w:World)(K:W.Frag)(mg:Str→Option Value)(D:Ad):Prop where
 e:K=hK w.params
 mm:∀ {n:Str} {v:Value},nsIn K mainGlobals n=some (some v)→mg n=some v
 zz:∀ {n:Str},nsIn K mainGlobals n=some none→mg n=none
theorem xc1{K:W.Frag}{C:Addr}(h:h9 K C=true):∃ cd,du K C cd:=let ⟨cd,_,y⟩:=yt h;⟨cd,y⟩
theorem xsu{K:W.Frag}{C b:Addr}(h:h9 K C=true)(s:PySem.W.mroIn K C (.ref b)=some true):∃ cd,du K C cd∧cd.mro.contains (.ref b)=true:=by
 obtain⟨cd,hc,y⟩:=yt h;refine⟨cd,y,?_⟩;unfold PySem.W.mroIn at s;rw[hc,Option.bind_some,if_neg (by rw[y.rz];decide)]at s;exact Nf s
section
variable{w:World}{K:W.Frag}{mg:Str→Option Value}{D:Ad}{na mn:Str}{v:Value}{c f b:Addr}{st:Stmt}(T:Txt w K mg D)
include T
theorem Txt.m(h:∀ P,nsIn (hK P) mainGlobals na=some (some v):=by intro P;kernel_rfl):mg na=some v:=T.mm (by rw[T.e];exact h _)
theorem Txt.z(h:∀ P,nsIn (hK P) mainGlobals na=some none:=by intro P;kernel_rfl):mg na=none:=T.zz (by rw[T.e];exact h _)
theorem Txt.kp(h:∀ P,keepIn (hK P) (.ref f)=true:=by intro P;kernel_rfl):keepIn K (.ref f)=true:=by rw[T.e];exact h _
theorem Txt.n(h:∀ P,findIn (hK P) (.ref c) na=some none:=by intro P;kernel_rfl):mH K c na:=by rw[T.e];exact h _
theorem Txt.me(h1:∀ P,findIn (hK P) (.ref c) mn=some (some (.ref f)):=by intro P;kernel_rfl)(h2:∀ P,isFn (hK P) (.ref f)=true:=by intro P;kernel_rfl)(h3:∀ P,keepIn (hK P) (.ref f)=true:=by intro P;kernel_rfl):Meth K c mn f:=by rw[T.e];exact⟨h1 _,h2 _,h3 _⟩
theorem Txt.cls(h1:∀ P,PySem.W.plainGet (hK P) c Str.empty=true:=by intro P;kernel_rfl)(h2:∀ P,PySem.W.hasDictIn (hK P) c=true:=by intro P;kernel_rfl)(h3:∀ P,PySem.W.plainOver (hK P) c=true:=by intro P;kernel_rfl)(h4:∀ P,findIn (hK P) (.ref c) "__setattr__" = some (some (.builtin "object.__setattr__")):=by intro P;kernel_rfl):Cls K c:=by rw[T.e];exact⟨h1 _,h2 _,h3 _,h4 _⟩
theorem Txt.mkk(c:Addr)(h1:∀ P,PySem.W.makesIn (hK P) c=true:=by intro P;kernel_rfl)(h2:∀ P,findIn (hK P) (.ref c) "__init__" = some (some (.ref f)):=by intro P;kernel_rfl)(h3:∀ P,isFn (hK P) (.ref f)=true:=by intro P;kernel_rfl)(h4:∀ P,keepIn (hK P) (.ref c)=true:=by intro P;kernel_rfl):Mk K c f:=by rw[T.e];exact⟨h1 _,h2 _,h3 _,h4 _⟩
theorem Txt.mx(c:Addr)(h1:∀ P,h9 (hK P) c=true:=by intro P;kernel_rfl)(h2:∀ P,findIn (hK P) (.ref c) "__init__" = some (some (.ref f)):=by intro P;kernel_rfl)(h3:∀ P,isFn (hK P) (.ref f)=true:=by intro P;kernel_rfl)(h4:∀ P,keepIn (hK P) (.ref c)=true:=by intro P;kernel_rfl):MkX K c f:=by rw[T.e];exact⟨xc1 (h1 _),h2 _,h3 _,h4 _⟩
theorem Txt.ec(c:Addr)(h1:∀ P,h9 (hK P) c=true:=by intro P;kernel_rfl)(h2:∀ P,findIn (hK P) (.ref c) "__getattribute__" = some (some (.builtin "BaseException.__getattribute__")):=by intro P;kernel_rfl)(h3:∀ P,findIn (hK P) (.ref c) "__getattr__" = some none:=by intro P;kernel_rfl)(h4:∀ P,findIn (hK P) (.ref c) "__class__" = some (some (.builtin "object.__class__")):=by intro P;kernel_rfl):Kk K c:=by rw[T.e];exact⟨xc1 (h1 _),⟨h2 _,h3 _⟩,h4 _⟩
theorem Txt.h(c:Addr)(h1:∀ P,h9 (hK P) c=true:=by intro P;kernel_rfl):∃ cd,du K c cd:=by rw[T.e];exact xc1 (h1 _)
theorem Txt.sub(c:Addr)(h1:∀ P,h9 (hK P) c=true:=by intro P;kernel_rfl)(h2:∀ P,PySem.W.mroIn (hK P) c (.ref b)=some true:=by intro P;kernel_rfl):∃ cd,du K c cd∧cd.mro.contains (.ref b)=true:=by rw[T.e];exact xsu (h1 _) (h2 _)
theorem Txt.cf(c:Addr)(h1:∀ P,PySem.W.readsIn (hK P) c (.type "type")=true:=by intro P;kernel_rfl)(h2:∀ P,PySem.W.findCls (hK P) (.ref c) (.type "type") mn=some (.val (.ref f)):=by intro P;kernel_rfl)(h3:∀ P,PySem.W.specialIn (hK P) (.ref c) "__getattribute__" = some (some (.builtin "type.__getattribute__")):=by intro P;kernel_rfl)(h4:∀ P,keepIn (hK P) (.ref f)=true:=by intro P;kernel_rfl):Em K c mn f:=by rw[T.e];exact⟨h1 _,h2 _,h3 _,h4 _⟩
theorem Txt.fn(q:Str)(h1:∀ P,(hK P).lookup f=some ⟨.type "function",none,.func (fnOf (fdA P f).name q (bN st) (aw st) (aj st) .none .none .none (fdA P f).pyModule none (fdA P f).code .none),#[]⟩:=by intro P;kernel_rfl)(h2:∀ P,codeIn (hK P) (fdA P f).code q=true:=by intro P;kernel_rfl)(h3:∀ P,keepIn (hK P) (.ref f)=true:=by intro P;kernel_rfl):Fun K (fdA w.params f).name q st f (fdA w.params f):=by
 rw[T.e];have e:fdA w.params f=fnOf (fdA w.params f).name q (bN st) (aw st) (aj st) .none .none .none (fdA w.params f).pyModule none (fdA w.params f).code .none:=by
  conv=>lhs;unfold fdA
  rw[h1 w.params]
 exact⟨⟨_,_,_,_,_,_,_,_,_,e,by rw[h1 w.params,←e],h2 _⟩,h3 _⟩
theorem Txt.fnn(na q:Str)(h0:∀ P,(fdA P f).name=na:=by intro P;kernel_rfl)(h1:∀ P,(hK P).lookup f=some ⟨.type "function",none,.func (fnOf (fdA P f).name q (bN st) (aw st) (aj st) .none .none .none (fdA P f).pyModule none (fdA P f).code .none),#[]⟩:=by intro P;kernel_rfl)(h2:∀ P,codeIn (hK P) (fdA P f).code q=true:=by intro P;kernel_rfl)(h3:∀ P,keepIn (hK P) (.ref f)=true:=by intro P;kernel_rfl):Fun K na q st f (fdA w.params f):=h0 w.params ▸ T.fn q h1 h2 h3
end
structure Ok(P:Program)(w:World)(K:W.Frag)(mg:Str→Option Value)(base:Heap)(n:Nat)(f:Addr)(ps:List Str)(sp:Sp):Prop where
 t:Txt w K mg ⟨⟩
 g:cL P w K mg base (CXE P w) n f (fdA w.params f) ps sp
 b:Binds K (fdA w.params f) ps []
theorem Txt.aM{w:World}{K:W.Frag}{mg:Str→Option Value}{D:Ad}(T:Txt w K mg D):Cls K D.cC:=T.cls
theorem Txt.aY{w:World}{K:W.Frag}{mg:Str→Option Value}{D:Ad}(T:Txt w K mg D):Cls K D.aW:=T.cls
theorem Txt.bh{w:World}{K:W.Frag}{mg:Str→Option Value}{D:Ad}(T:Txt w K mg D):Cls K D.aK:=T.cls
theorem Txt.ae{w:World}{K:W.Frag}{mg:Str→Option Value}{D:Ad}(T:Txt w K mg D):Cls K D.ah:=T.cls
theorem Txt.yy{w:World}{K:W.Frag}{mg:Str→Option Value}{D:Ad}(T:Txt w K mg D):mg "HANDS" = some (.int 8 438):=T.m
theorem Txt.l7{w:World}{K:W.Frag}{mg:Str→Option Value}{D:Ad}(T:Txt w K mg D):mg "WEAK_NAMES" = some (.int 8 440):=T.m
theorem Txt.sr{w:World}{K:W.Frag}{mg:Str→Option Value}{D:Ad}(T:Txt w K mg D):mg "MOST_FIELDS" = some (.int 6 442):=T.m
theorem Txt.l8{w:World}{K:W.Frag}{mg:Str→Option Value}{D:Ad}(T:Txt w K mg D):mg "LEAST_ROOM" = some (.int 7 444):=T.m
theorem Txt.tZ{w:World}{K:W.Frag}{mg:Str→Option Value}{D:Ad}(T:Txt w K mg D):mg "MOST_YOUNG" = some (.int 64 446):=T.m
theorem Txt.t5{w:World}{K:W.Frag}{mg:Str→Option Value}{D:Ad}(T:Txt w K mg D):mg "MOST_LIMIT" = some (.int 400 448):=T.m
theorem Txt.iS{w:World}{K:W.Frag}{mg:Str→Option Value}{D:Ad}(T:Txt w K mg D):mg "MOST_BEARERS" = some (.int 12 756):=T.m
section
variable{X:Cx}{n k:Nat}{f C:Addr}{ps:List Str}{sp:Sp}{EK:St→XK}{x mn:Str}{p apos pos:Pos}{ex o:Expr}{es:List Expr}{t:TA}{ta:TE}
theorem Ok.c(G:Ok X.prog X.w X.K X.mg X.base n f ps sp)(hr:dS k X.A)(hx:cq (CXE X.prog X.w) X EK)(ha:PA X (ex::es) t)(m1:∀ P,nsIn (hK P) mainGlobals x=some (some (.ref f)):=by intro P;kernel_rfl)(k1:∀ P,keepIn (hK P) (.ref f)=true:=by intro P;kernel_rfl)(hn:n≤k:=by decide)(hg:Gl X x:=by exact rfl)(hdb:(x == ("__debug__" : Str))=false:=by decide)(he:starEach (ex::es) X.env=(false,eval ex X.env)::starEach es X.env:=by rfl)(hpl:(backTo pos (starEach es X.env)).any (·.1)=false:=by rfl):PE X (.Call (.Name x p) (ex::es) [] pos) (Cy sp [] EK t):=bG G.g (hr.mono hn) hg (G.t.m m1) (G.t.kp k1) G.b .nil hx ha hdb he hpl
theorem Ok.m{pl:Sem Bool}(G:Ok X.prog X.w X.K X.mg X.base n f ps sp)(c1:Cls X.K C)(hr:dS k X.A)(he:PE X o ta)(hx:cq (CXE X.prog X.w) X EK)(ha:PA X (ex::es) t)(m1:∀ P,findIn (hK P) (.ref C) mn=some (some (.ref f)):=by intro P;kernel_rfl)(m2:∀ P,isFn (hK P) (.ref f)=true:=by intro P;kernel_rfl)(m3:∀ P,keepIn (hK P) (.ref f)=true:=by intro P;kernel_rfl)(hn:n≤k:=by decide)(hst:starEach (ex::es) X.env=(false,eval ex X.env)::starEach es X.env:=by rfl)(hpl:(backTo pos (starEach es X.env)).any (·.1)=false:=by rfl)
  (ht:eval (.Call (.Attribute o mn apos) (ex::es) [] pos) X.env=(do let ov ←eval o X.env;standAt apos.atName;let (f,first) ←holding [ov] (getMethod ov mn pl);callWith pos f first (backTo pos (starEach (ex::es) X.env)) (backToKw pos (keywordEach [] X.env))):=by rfl):PE X (.Call (.Attribute o mn apos) (ex::es) [] pos) (Ag C mn sp [] EK ta t):=C2 he c1 (G.t.me m1 m2 m3) G.g (hr.mono hn) G.b .nil hx ha hst hpl ht
theorem Ok.m0{pl:Sem Bool}(G:Ok X.prog X.w X.K X.mg X.base n f ps sp)(c1:Cls X.K C)(hr:dS k X.A)(he:PE X o ta)(hx:cq (CXE X.prog X.w) X EK)(m1:∀ P,findIn (hK P) (.ref C) mn=some (some (.ref f)):=by intro P;kernel_rfl)(m2:∀ P,isFn (hK P) (.ref f)=true:=by intro P;kernel_rfl)(m3:∀ P,keepIn (hK P) (.ref f)=true:=by intro P;kernel_rfl)(hn:n≤k:=by decide)
  (ht:eval (.Call (.Attribute o mn apos) [] [] pos) X.env=(do let ov ←eval o X.env;standAt apos.atName;let (f,first) ←holding [ov] (getMethod ov mn pl);callWith pos f first (backTo pos (starEach [] X.env)) (backToKw pos (keywordEach [] X.env))):=by rfl):PE X (.Call (.Attribute o mn apos) [] [] pos) (Ag C mn sp [] EK ta Ec):=AH he c1 (G.t.me m1 m2 m3) G.g (hr.mono hn) G.b .nil hx ht
theorem Ok.e(G:Ok X.prog X.w X.K X.mg X.base n f ps sp)(C:Addr)(hr:dS k X.A)(hx:cq (CXE X.prog X.w) X EK)(ha:PA X (ex::es) t)(m1:∀ P,nsIn (hK P) mainGlobals x=some (some (.ref C)):=by intro P;kernel_rfl)(h1:∀ P,h9 (hK P) C=true:=by intro P;kernel_rfl)(h2:∀ P,findIn (hK P) (.ref C) "__init__" = some (some (.ref f)):=by intro P;kernel_rfl)(h3:∀ P,isFn (hK P) (.ref f)=true:=by intro P;kernel_rfl)(h4:∀ P,keepIn (hK P) (.ref C)=true:=by intro P;kernel_rfl)(hn:n+1≤k:=by decide)(hg:Gl X x:=by exact rfl)(hps:ps.length≤1000:=by decide)(hdb:(x == ("__debug__" : Str))=false:=by decide)(he:starEach (ex::es) X.env=(false,eval ex X.env)::starEach es X.env:=by rfl)(hpl:(backTo pos (starEach es X.env)).any (·.1)=false:=by rfl):PE X (.Call (.Name x p) (ex::es) [] pos) (Kj C sp EK t):=E7 (G.t.mx C h1 h2 h3 h4) G.g (hr.mono hn) hg (G.t.m m1) G.b hx ha hps hdb he hpl
end
section
variable{P:Program}{w:World}{K:W.Frag}{mg:Str→Option Value}{base:Heap}{x qual:Str}{st:Stmt}{f:Addr}{N ps:List Str}{k:Nat}{sp:Sp}
theorem fsc{N P:List Str}{sc:Scope}(h1:sc.kind=.function:=by exact rfl)(h2:sc.isCoroutine=false:=by exact rfl)(h3:sc.isGenerator=false:=by exact rfl)(h4:N.Nodup:=by decide +kernel)(h5:N.take P.length=P:=by exact rfl)(h6:∀ x∈P,sc.names.lookup x=some .local∨sc.names.lookup x=some .cell:=by decide +kernel)(h7:∀ y∈sc.names,y.2≠.free:=by decide +kernel):au N P sc:=⟨h1,h2,h3,h4,h5,h6,h7⟩
noncomputable def Bdy(P:Program)(w:World)(K:W.Frag)(mg:Str→Option Value)(base:Heap)(N:List Str)(q:Str)(st:Stmt)(f:Addr)(k:Nat)(sp:Sp):Prop:=∀(cdv:Value) (A:Around) (outer:List Env) (s:Shared) (H:Hp) (vs:List V) (Q:VK) (E:XK),dS k (A.deeper (PyProof.Rows.envOfC q (aj st) s.heap.objs.size f cdv))→sp vs H Q E→∃ t,PSs (cxE P w K mg base N q (aj st) f cdv A outer s H E) (aw st) t∧t {nx:=λ_ H'=>Q .non H',rt:=Q} (start N vs) H
theorem Txt.o1{D:Ad}(T:Txt w K mg D)(q:Str){p0:Str}(S:au N [p0] (aj st))(kq:Bdy P w K mg base N q st f k sp)(h1:∀ P,(hK P).lookup f=some ⟨.type "function",none,.func (fnOf (fdA P f).name q (bN st) (aw st) (aj st) .none .none .none (fdA P f).pyModule none (fdA P f).code .none),#[]⟩:=by intro P;kernel_rfl)(h2:∀ P,codeIn (hK P) (fdA P f).code q=true:=by intro P;kernel_rfl)(h3:∀ P,keepIn (hK P) (.ref f)=true:=by intro P;kernel_rfl)(hb:∀(x:Str) (kV doc pm:Value) (an:Option Addr) (cdv ct:Value) (u0:Value),bindArgs (fnOf x q (bN st) (aw st) (aj st) .none kV doc pm an cdv ct) ⟨[u0],[]⟩=pure (([p0]:List Str).zip [u0]):=by intros;rfl)(len:∀ vs H Q E,sp vs H Q E→vs.length=1:=by(intro vs H Q E h;repeat (first|(obtain⟨rfl,_⟩:=h;rfl)|obtain⟨_,h⟩:=h))):Ok P w K mg base (k+1) f [p0] sp :=
 have F:=T.fn q h1 h2 h3
 ⟨⟨T.e,T.mm,T.zz⟩,F.okE S len kq,F.binds (ps:=[p0]) λkV doc pm an cdv ct us hl=>match us,hl with|[u0],_=>hb _ kV doc pm an cdv ct u0⟩
theorem Txt.o2{D:Ad}(T:Txt w K mg D)(q:Str){p0 p1:Str}(S:au N [p0,p1] (aj st))(kq:Bdy P w K mg base N q st f k sp)(h1:∀ P,(hK P).lookup f=some ⟨.type "function",none,.func (fnOf (fdA P f).name q (bN st) (aw st) (aj st) .none .none .none (fdA P f).pyModule none (fdA P f).code .none),#[]⟩:=by intro P;kernel_rfl)(h2:∀ P,codeIn (hK P) (fdA P f).code q=true:=by intro P;kernel_rfl)(h3:∀ P,keepIn (hK P) (.ref f)=true:=by intro P;kernel_rfl)(hb:∀(x:Str) (kV doc pm:Value) (an:Option Addr) (cdv ct:Value) (u0 u1:Value),bindArgs (fnOf x q (bN st) (aw st) (aj st) .none kV doc pm an cdv ct) ⟨[u0,u1],[]⟩=pure (([p0,p1]:List Str).zip [u0,u1]):=by intros;rfl)(len:∀ vs H Q E,sp vs H Q E→vs.length=2:=by(intro vs H Q E h;repeat (first|(obtain⟨rfl,_⟩:=h;rfl)|obtain⟨_,h⟩:=h))):Ok P w K mg base (k+1) f [p0,p1] sp :=
 have F:=T.fn q h1 h2 h3
 ⟨⟨T.e,T.mm,T.zz⟩,F.okE S len kq,F.binds (ps:=[p0,p1]) λkV doc pm an cdv ct us hl=>match us,hl with|[u0,u1],_=>hb _ kV doc pm an cdv ct u0 u1⟩
theorem Txt.o3{D:Ad}(T:Txt w K mg D)(q:Str){p0 p1 p2:Str}(S:au N [p0,p1,p2] (aj st))(kq:Bdy P w K mg base N q st f k sp)(h1:∀ P,(hK P).lookup f=some ⟨.type "function",none,.func (fnOf (fdA P f).name q (bN st) (aw st) (aj st) .none .none .none (fdA P f).pyModule none (fdA P f).code .none),#[]⟩:=by intro P;kernel_rfl)(h2:∀ P,codeIn (hK P) (fdA P f).code q=true:=by intro P;kernel_rfl)(h3:∀ P,keepIn (hK P) (.ref f)=true:=by intro P;kernel_rfl)(hb:∀(x:Str) (kV doc pm:Value) (an:Option Addr) (cdv ct:Value) (u0 u1 u2:Value),bindArgs (fnOf x q (bN st) (aw st) (aj st) .none kV doc pm an cdv ct) ⟨[u0,u1,u2],[]⟩=pure (([p0,p1,p2]:List Str).zip [u0,u1,u2]):=by intros;rfl)(len:∀ vs H Q E,sp vs H Q E→vs.length=3:=by(intro vs H Q E h;repeat (first|(obtain⟨rfl,_⟩:=h;rfl)|obtain⟨_,h⟩:=h))):Ok P w K mg base (k+1) f [p0,p1,p2] sp :=
 have F:=T.fn q h1 h2 h3
 ⟨⟨T.e,T.mm,T.zz⟩,F.okE S len kq,F.binds (ps:=[p0,p1,p2]) λkV doc pm an cdv ct us hl=>match us,hl with|[u0,u1,u2],_=>hb _ kV doc pm an cdv ct u0 u1 u2⟩
theorem Txt.o4{D:Ad}(T:Txt w K mg D)(q:Str){p0 p1 p2 p3:Str}(S:au N [p0,p1,p2,p3] (aj st))(kq:Bdy P w K mg base N q st f k sp)(h1:∀ P,(hK P).lookup f=some ⟨.type "function",none,.func (fnOf (fdA P f).name q (bN st) (aw st) (aj st) .none .none .none (fdA P f).pyModule none (fdA P f).code .none),#[]⟩:=by intro P;kernel_rfl)(h2:∀ P,codeIn (hK P) (fdA P f).code q=true:=by intro P;kernel_rfl)(h3:∀ P,keepIn (hK P) (.ref f)=true:=by intro P;kernel_rfl)(hb:∀(x:Str) (kV doc pm:Value) (an:Option Addr) (cdv ct:Value) (u0 u1 u2 u3:Value),bindArgs (fnOf x q (bN st) (aw st) (aj st) .none kV doc pm an cdv ct) ⟨[u0,u1,u2,u3],[]⟩=pure (([p0,p1,p2,p3]:List Str).zip [u0,u1,u2,u3]):=by intros;rfl)(len:∀ vs H Q E,sp vs H Q E→vs.length=4:=by(intro vs H Q E h;repeat (first|(obtain⟨rfl,_⟩:=h;rfl)|obtain⟨_,h⟩:=h))):Ok P w K mg base (k+1) f [p0,p1,p2,p3] sp :=
 have F:=T.fn q h1 h2 h3
 ⟨⟨T.e,T.mm,T.zz⟩,F.okE S len kq,F.binds (ps:=[p0,p1,p2,p3]) λkV doc pm an cdv ct us hl=>match us,hl with|[u0,u1,u2,u3],_=>hb _ kV doc pm an cdv ct u0 u1 u2 u3⟩
end
theorem px{P:Program}{w:World}{K:W.Frag}{mg:Str→Option Value}{base:Heap}{N:List Str}{qual:Str}{sc:Scope}{f:Addr}{cdv:Value}{A:Around}{outer:List Env}{s:Shared}{H:Hp}{E:XK}:cq (CXE P w) (cxE P w K mg base N qual sc f cdv A outer s H E) (λ_=>E):=Passes.x (Af λ_ _ _ q=>q)
end K72
end
section
namespace K72
open PySem L2 LX
inductive Wd where
 | no
 | num (x:Int)
 | th (t:Int)
 deriving DecidableEq
noncomputable def Wd.kind:Wd→Str
 | .no => "none"
 | .num _ => "number"
 | .th _ => "thing"
noncomputable def WV(H:Hp)(v:V):Wd→Prop
 | .no=>v=.non
 | .num x=>∃ t,v=.ref t∧H t=some (.tup [.str "number",.int x])
 | .th x=>∃ t,v=.ref t∧H t=some (.tup [.str "thing",.int x])
noncomputable def bE(H H':Hp):Prop:=∀ t us,H t=some (.tup us)→H' t=some (.tup us)
theorem bE.of{H H':Hp}(s:ay H H'):bE H H':=λt us q=>s _ _ q
theorem bE.trans{H H1 H2:Hp}(a:bE H H1)(b:bE H1 H2):bE H H2:=λt us q=>b t us (a t us q)
theorem bE.set{H:Hp}{c:Addr}{u o:HO}(h:H c=some u)(n:∀ xs,u≠.tup xs):bE H (upd H c o):=λt us q=>by
 rw[ab λe=>by rw[e,h]at q;exact n us (Nf q)];exact q
theorem WV.keep{H H':Hp}{v:V}{w:Wd}(h:WV H v w)(s:bE H H'):WV H' v w:=by
 cases w with
 | no=>exact h
 | num n=>obtain⟨t,e,q⟩:=h;exact⟨t,e,s _ _ q⟩
 | th n=>obtain⟨t,e,q⟩:=h;exact⟨t,e,s _ _ q⟩
noncomputable def Rel(H:Hp)(xs:List V)(ws:List Wd):Prop:=xs.length=ws.length∧∀(i:Nat) (v:V) (w:Wd),xs[i]?=some v→ws[i]?=some w→WV H v w
theorem Rel.keep{H H':Hp}{xs:List V}{ws:List Wd}(h:Rel H xs ws)(s:bE H H'):Rel H' xs ws:=⟨h.1,λi v w a b=>(h.2 i v w a b).keep s⟩
theorem Rel.get{H:Hp}{xs:List V}{ws:List Wd}(h:Rel H xs ws){i:Nat}(hi:i<ws.length):∃ v,xs[i]?=some v∧WV H v ws[i] :=
 ⟨_,MP (by rw[h.1];exact hi),h.2 i _ _ (MP (by rw[h.1];exact hi)) (MP hi)⟩
theorem Rel.set{H:Hp}{xs:List V}{ws:List Wd}{i:Nat}{v:V}{w:Wd}(h:Rel H xs ws)(hv:WV H v w):Rel H (xs.set i v) (ws.set i w):=by
 refine⟨by rw[Oi,Oi];exact h.1,λj u y a b=>?_⟩;rw[List.getElem?_set]at a b;by_cases e:i=j
 ·subst e
  simp only[if_true]at a b;split at a
  ·split at b
   ·cases a;cases b;exact hv
   ·cases b
  ·cases a
 ·rw[if_neg e]at a b
  exact h.2 j u y a b
theorem Rel.nil{H:Hp}{n:Nat}:Rel H (List.replicate n .non) (List.replicate n .no):=⟨by simp,λi v w a b=>by
 rw[Ob (Na a),Ob (Na b)];rfl⟩
noncomputable def nmV:Option Int→V
 | none=>.non
 | some t=>.int t
structure HS where
 my:Bool
 aL:List Wd
 names:List (Option Int)
 aR:List (Int×Int)
 hV:List Int
 aC:List (Int×List Wd)
 yng:List Int
 nxt:Int
 room:Int
 limit:Int
 aF:List Int
 rnd:Bool
structure HA where
 dx:Addr
 hd:Addr
 hdx:Addr
 hl:Addr
 hx:List V
 nt:Addr
 ntx:Addr
 nl:Addr
 wt:Addr
 wtx:Addr
 wb:Addr
 wl:Addr
 fh:Addr
 fa:Int→Addr
 fx:Int→List V
 yg:Addr
 dm:Addr
noncomputable def atts(A:HA)(s:HS):List (Str×V):=[("makes_young",.bl s.my),("in_hands",.ref A.hd),("weak_names",.ref A.nt),("last_words",.ref A.wt),("fields_held",.ref A.fh),("young_things",.ref A.yg),("next_thing",.int s.nxt),("young_room",.int s.room),("limit",.int s.limit),("doomed_things",.ref A.dm),("in_round",.bl s.rnd)]
theorem Es{A:HA}{s:HS}:(atts A s).lookup ("makes_young" : Str)=some (.bl s.my):=by kernel_rfl
theorem gn{A:HA}{s:HS}:(atts A s).lookup ("in_hands" : Str)=some (.ref A.hd):=by kernel_rfl
theorem Ah{A:HA}{s:HS}:(atts A s).lookup ("weak_names" : Str)=some (.ref A.nt):=by kernel_rfl
theorem Et{A:HA}{s:HS}:(atts A s).lookup ("last_words" : Str)=some (.ref A.wt):=by kernel_rfl
theorem gJ{A:HA}{s:HS}:(atts A s).lookup ("fields_held" : Str)=some (.ref A.fh):=by kernel_rfl
theorem xD{A:HA}{s:HS}:(atts A s).lookup ("young_things" : Str)=some (.ref A.yg):=by kernel_rfl
theorem Jv{A:HA}{s:HS}:(atts A s).lookup ("next_thing" : Str)=some (.int s.nxt):=by kernel_rfl
theorem Jw{A:HA}{s:HS}:(atts A s).lookup ("young_room" : Str)=some (.int s.room):=by kernel_rfl
theorem Jx{A:HA}{s:HS}:(atts A s).lookup ("limit" : Str)=some (.int s.limit):=by kernel_rfl
theorem uY{A:HA}{s:HS}:(atts A s).lookup ("doomed_things" : Str)=some (.ref A.dm):=by kernel_rfl
theorem Eu{A:HA}{s:HS}:(atts A s).lookup ("in_round" : Str)=some (.bl s.rnd):=by kernel_rfl
theorem Jy{A:HA}{s:HS}{n:Int}:cw "next_thing" (.int n) (atts A s)=atts A {s with nxt:=n}:=by kernel_rfl
theorem Jz{A:HA}{s:HS}{b:Bool}:cw "in_round" (.bl b) (atts A s)=atts A {s with rnd:=b}:=by kernel_rfl
theorem JA{A:HA}{s:HS}{a:Addr}:cw "young_things" (.ref a) (atts A s)=atts {A with yg:=a} s:=by kernel_rfl
theorem JB{A:HA}{s:HS}{a:Addr}:cw "doomed_things" (.ref a) (atts A s)=atts {A with dm:=a} s:=by kernel_rfl
noncomputable def bkv(p:Int×Int):Key×V:=(Sum.inl p.1,.int p.2)
noncomputable def tkv(t:Int):Key×V:=(Sum.inl t,.bl true)
noncomputable def fkv(A:HA)(p:Int×List Wd):Key×V:=(Sum.inl p.1,.ref (A.fa p.1))
structure IH(D:Ad)(H:Hp)(x:Addr)(A:HA)(s:HS):Prop where
 ax:H x=some (.ins D.ah A.dx (atts A s))
 ahd:H A.hd=some (.ins D.cC A.hdx [("words_held",.ref A.hl)])
 ahl:H A.hl=some (.lst A.hx)
 rhl:Rel H A.hx s.aL
 ant:H A.nt=some (.ins D.aK A.ntx [("things_named",.ref A.nl)])
 anl:H A.nl=some (.lst (s.names.map nmV))
 awt:H A.wt=some (.ins D.aW A.wtx [("words_borne",.ref A.wb),("words_said",.ref A.wl)])
 awb:H A.wb=some (.dK (s.aR.map bkv))
 awl:H A.wl=some (.lst (s.hV.map V.int))
 afh:H A.fh=some (.dK (s.aC.map (fkv A)))
 afl:∀ t ws,(t,ws)∈s.aC→H (A.fa t)=some (.lst (A.fx t))∧Rel H (A.fx t) ws
 ayg:H A.yg=some (.dK (s.yng.map tkv))
 adm:H A.dm=some (.dK (s.aF.map tkv))
 nhn:A.hd≠A.nt
 l1:A.hl≠A.nl
 l2:A.hl≠A.wl
 l3:A.nl≠A.wl
 l4:∀ t ws,(t,ws)∈s.aC→A.fa t≠A.hl∧A.fa t≠A.nl∧A.fa t≠A.wl
 l5:∀ t ws t' ws',(t,ws)∈s.aC→(t',ws')∈s.aC→A.fa t=A.fa t'→t=t'
 d1:A.wb≠A.fh
 d2:A.wb≠A.yg
 d3:A.wb≠A.dm
 d4:A.fh≠A.yg
 d5:A.fh≠A.dm
 d6:A.yg≠A.dm
inductive aJ(x:Addr)(A:HA)(s:HS):Addr→Prop where
 | x:aJ x A s x
 | hd:aJ x A s A.hd
 | hl:aJ x A s A.hl
 | nt:aJ x A s A.nt
 | nl:aJ x A s A.nl
 | wt:aJ x A s A.wt
 | wb:aJ x A s A.wb
 | wl:aJ x A s A.wl
 | fh:aJ x A s A.fh
 | yg:aJ x A s A.yg
 | dm:aJ x A s A.dm
 | fl {t:Int} {ws:List Wd}:(t,ws)∈s.aC→aJ x A s (A.fa t)
theorem dY{C d C' d':Addr}{fs gs:List (Str×V)}(h:fs.length≠gs.length):HO.ins C d fs≠HO.ins C' d' gs:=λe=>by
 injection e with _ _ e;exact h (congrArg List.length e)
section
variable{D:Ad}{H H' H1 H2:Hp}{x:Addr}{A A':HA}{s s':HS}
theorem IH.is(J:IH D H x A s){b:Addr}(f:aJ x A s b):∃ u,H b=some u∧∀ xs,u≠.tup xs:=by
 cases f with
 | x=>exact⟨_,J.ax,λ_ z=>nomatch z⟩
 | hd=>exact⟨_,J.ahd,λ_ z=>nomatch z⟩
 | hl=>exact⟨_,J.ahl,λ_ z=>nomatch z⟩
 | nt=>exact⟨_,J.ant,λ_ z=>nomatch z⟩
 | nl=>exact⟨_,J.anl,λ_ z=>nomatch z⟩
 | wt=>exact⟨_,J.awt,λ_ z=>nomatch z⟩
 | wb=>exact⟨_,J.awb,λ_ z=>nomatch z⟩
 | wl=>exact⟨_,J.awl,λ_ z=>nomatch z⟩
 | fh=>exact⟨_,J.afh,λ_ z=>nomatch z⟩
 | yg=>exact⟨_,J.ayg,λ_ z=>nomatch z⟩
 | dm=>exact⟨_,J.adm,λ_ z=>nomatch z⟩
 | fl m=>exact⟨_,(J.afl _ _ m).1,λ_ z=>nomatch z⟩
theorem IH.keep(J:IH D H x A s)(k:∀ b u,aJ x A s b→H b=some u→H' b=some u)(t:bE H H'):IH D H' x A s :=
 ⟨k _ _ .x J.ax,k _ _ .hd J.ahd,k _ _ .hl J.ahl,J.rhl.keep t,k _ _ .nt J.ant,k _ _ .nl J.anl,k _ _ .wt J.awt,k _ _ .wb J.awb,k _ _ .wl J.awl,k _ _ .fh J.afh,λu ws m=>⟨k _ _ (.fl m) (J.afl _ _ m).1,(J.afl _ _ m).2.keep t⟩,k _ _ .yg J.ayg,k _ _ .dm J.adm,
  J.nhn,J.l1,J.l2,J.l3,J.l4,J.l5,J.d1,J.d2,J.d3,J.d4,J.d5,J.d6⟩
theorem IH.same(J:IH D H x A s)(k:ay H H'):IH D H' x A s:=J.keep (λ_ _ _ q=>k _ _ q) (bE.of k)
structure Fr(F:Addr→Prop)(H:Hp)(F':Addr→Prop)(H':Hp):Prop where
 ext:∀ b u,¬F b→H b=some u→H' b=some u
 grow:∀ b,F' b→F b∨H b=none
 all:∀ b u,H b=some u→∃ u',H' b=some u'
 tup:bE H H'
variable{F F' F1 F2:Addr→Prop}
theorem Fr.trans(a:Fr F H F1 H1)(b:Fr F1 H1 F2 H2):Fr F H F2 H2 where
 ext:=λc u n q=>b.ext c u (λf=>(a.grow c f).elim n λe=>by rw[e]at q;cases q) (a.ext c u n q)
 grow:=λc f=>(b.grow c f).elim (λf1=>a.grow c f1) λe=>by
  cases q:H c with
  | none=>exact .inr rfl
  | some u=>obtain⟨u',q'⟩:=a.all c u q;rw[e]at q';cases q'
 all:=λc u q=>by obtain⟨u',q'⟩:=a.all c u q;exact b.all c u' q'
 tup:=a.tup.trans b.tup
theorem Fr.same(k:ay H H'):Fr F H F H':=⟨λ_ _ _ q=>k _ _ q,λ_ f=>.inl f,λb u q=>⟨u,k _ _ q⟩,bE.of k⟩
theorem Fr.refl:Fr F H F H:=Fr.same λ_ _ q=>q
theorem Fr.none(a:Fr F H F' H'){b:Addr}(h:H' b=none):H b=none:=by
 cases q:H b with
 | none=>rfl
 | some u=>obtain⟨u',q'⟩:=a.all b u q;rw[h]at q';cases q'
theorem Fr.set{b:Addr}{u o:HO}(f:F b)(hb:H b=some u)(n:∀ xs,u≠.tup xs)(g:∀ c,F' c→F c):Fr F H F' (upd H b o) where
 ext:=λc v nf q=>by rw[ab λe=>nf (by rw[e];exact f)];exact q
 grow:=λc f=>.inl (g c f)
 all:=λc v q=>by
  by_cases e:c=b
  ·exact⟨o,by rw[e];exact ag⟩
  ·exact⟨v,by rw[ab e];exact q⟩
 tup:=bE.set hb n
theorem Fr.out(a:Fr F H F' H'){b:Addr}{u:HO}(n:¬F b)(q:H b=some u):H' b=some u∧¬F' b:=⟨a.ext b u n q,λf=>(a.grow b f).elim n λe=>by rw[e]at q;cases q⟩
theorem IH.Ar(J:IH D H x A s){xs:List V}{ws:List Wd}(r:Rel H xs ws):IH D (upd H A.hl (.lst xs)) x {A with hx:=xs} {s with aL:=ws}∧Fr (aJ x A s) H (aJ x {A with hx:=xs} {s with aL:=ws}) (upd H A.hl (.lst xs)):=by
 have tk:bE H (upd H A.hl (.lst xs)):=bE.set J.ahl (λ_ z=>nomatch z);refine⟨⟨(by rw[ab (av J.ax J.ahl (by intro z;cases z))];exact J.ax),(by rw[ab (av J.ahd J.ahl (by intro z;cases z))];exact J.ahd),ag,r.keep tk,(by rw[ab (av J.ant J.ahl (by intro z;cases z))];exact J.ant),(by rw[ab (Nv J.l1)];exact J.anl),(by rw[ab (av J.awt J.ahl (by intro z;cases z))];exact J.awt),(by rw[ab (av J.awb J.ahl (by intro z;cases z))];exact J.awb),(by rw[ab (Nv J.l2)];exact J.awl),(by rw[ab (av J.afh J.ahl (by intro z;cases z))];exact J.afh),(λt ws m=>⟨by rw[ab (J.l4 _ _ m).1];exact(J.afl _ _ m).1,(J.afl _ _ m).2.keep tk⟩),(by rw[ab (av J.ayg J.ahl (by intro z;cases z))];exact J.ayg),(by rw[ab (av J.adm J.ahl (by intro z;cases z))];exact J.adm),J.nhn,J.l1,J.l2,J.l3,J.l4,J.l5,J.d1,J.d2,J.d3,J.d4,J.d5,J.d6⟩,Fr.set .hl J.ahl (λ_ z=>nomatch z) (λc f=>?_)⟩;cases f with
 | x=>exact .x
 | hd=>exact .hd
 | hl=>exact .hl
 | nt=>exact .nt
 | nl=>exact .nl
 | wt=>exact .wt
 | wb=>exact .wb
 | wl=>exact .wl
 | fh=>exact .fh
 | yg=>exact .yg
 | dm=>exact .dm
 | fl m=>exact .fl m
theorem IH.Md(J:IH D H x A s){ns:List (Option Int)}:IH D (upd H A.nl (.lst (ns.map nmV))) x A {s with names:=ns}∧Fr (aJ x A s) H (aJ x A {s with names:=ns}) (upd H A.nl (.lst (ns.map nmV))):=by
 have tk:bE H (upd H A.nl (.lst (ns.map nmV))):=bE.set J.anl (λ_ z=>nomatch z);refine⟨⟨(by rw[ab (av J.ax J.anl (by intro z;cases z))];exact J.ax),(by rw[ab (av J.ahd J.anl (by intro z;cases z))];exact J.ahd),(by rw[ab J.l1];exact J.ahl),J.rhl.keep tk,(by rw[ab (av J.ant J.anl (by intro z;cases z))];exact J.ant),ag,(by rw[ab (av J.awt J.anl (by intro z;cases z))];exact J.awt),(by rw[ab (av J.awb J.anl (by intro z;cases z))];exact J.awb),(by rw[ab (Nv J.l3)];exact J.awl),(by rw[ab (av J.afh J.anl (by intro z;cases z))];exact J.afh),(λt ws m=>⟨by rw[ab (J.l4 _ _ m).2.1];exact(J.afl _ _ m).1,(J.afl _ _ m).2.keep tk⟩),(by rw[ab (av J.ayg J.anl (by intro z;cases z))];exact J.ayg),(by rw[ab (av J.adm J.anl (by intro z;cases z))];exact J.adm),J.nhn,J.l1,J.l2,J.l3,J.l4,J.l5,J.d1,J.d2,J.d3,J.d4,J.d5,J.d6⟩,Fr.set .nl J.anl (λ_ z=>nomatch z) (λc f=>?_)⟩;cases f with
 | x=>exact .x
 | hd=>exact .hd
 | hl=>exact .hl
 | nt=>exact .nt
 | nl=>exact .nl
 | wt=>exact .wt
 | wb=>exact .wb
 | wl=>exact .wl
 | fh=>exact .fh
 | yg=>exact .yg
 | dm=>exact .dm
 | fl m=>exact .fl m
theorem IH.Km(J:IH D H x A s){bs:List (Int×Int)}:IH D (upd H A.wb (.dK (bs.map bkv))) x A {s with aR:=bs}∧Fr (aJ x A s) H (aJ x A {s with aR:=bs}) (upd H A.wb (.dK (bs.map bkv))):=by
 have tk:bE H (upd H A.wb (.dK (bs.map bkv))):=bE.set J.awb (λ_ z=>nomatch z);refine⟨⟨(by rw[ab (av J.ax J.awb (by intro z;cases z))];exact J.ax),(by rw[ab (av J.ahd J.awb (by intro z;cases z))];exact J.ahd),(by rw[ab (av J.ahl J.awb (by intro z;cases z))];exact J.ahl),J.rhl.keep tk,(by rw[ab (av J.ant J.awb (by intro z;cases z))];exact J.ant),(by rw[ab (av J.anl J.awb (by intro z;cases z))];exact J.anl),(by rw[ab (av J.awt J.awb (by intro z;cases z))];exact J.awt),ag,(by rw[ab (av J.awl J.awb (by intro z;cases z))];exact J.awl),(by rw[ab (Nv J.d1)];exact J.afh),(λt ws m=>⟨by rw[ab (av (J.afl _ _ m).1 J.awb (by intro z;cases z))];exact(J.afl _ _ m).1,(J.afl _ _ m).2.keep tk⟩),(by rw[ab (Nv J.d2)];exact J.ayg),(by rw[ab (Nv J.d3)];exact J.adm),J.nhn,J.l1,J.l2,J.l3,J.l4,J.l5,J.d1,J.d2,J.d3,J.d4,J.d5,J.d6⟩,Fr.set .wb J.awb (λ_ z=>nomatch z) (λc f=>?_)⟩;cases f with
 | x=>exact .x
 | hd=>exact .hd
 | hl=>exact .hl
 | nt=>exact .nt
 | nl=>exact .nl
 | wt=>exact .wt
 | wb=>exact .wb
 | wl=>exact .wl
 | fh=>exact .fh
 | yg=>exact .yg
 | dm=>exact .dm
 | fl m=>exact .fl m
theorem IH.Me(J:IH D H x A s){zs:List Int}:IH D (upd H A.wl (.lst (zs.map V.int))) x A {s with hV:=zs}∧Fr (aJ x A s) H (aJ x A {s with hV:=zs}) (upd H A.wl (.lst (zs.map V.int))):=by
 have tk:bE H (upd H A.wl (.lst (zs.map V.int))):=bE.set J.awl (λ_ z=>nomatch z);refine⟨⟨(by rw[ab (av J.ax J.awl (by intro z;cases z))];exact J.ax),(by rw[ab (av J.ahd J.awl (by intro z;cases z))];exact J.ahd),(by rw[ab J.l2];exact J.ahl),J.rhl.keep tk,(by rw[ab (av J.ant J.awl (by intro z;cases z))];exact J.ant),(by rw[ab J.l3];exact J.anl),(by rw[ab (av J.awt J.awl (by intro z;cases z))];exact J.awt),(by rw[ab (av J.awb J.awl (by intro z;cases z))];exact J.awb),ag,(by rw[ab (av J.afh J.awl (by intro z;cases z))];exact J.afh),(λt ws m=>⟨by rw[ab (J.l4 _ _ m).2.2];exact(J.afl _ _ m).1,(J.afl _ _ m).2.keep tk⟩),(by rw[ab (av J.ayg J.awl (by intro z;cases z))];exact J.ayg),(by rw[ab (av J.adm J.awl (by intro z;cases z))];exact J.adm),J.nhn,J.l1,J.l2,J.l3,J.l4,J.l5,J.d1,J.d2,J.d3,J.d4,J.d5,J.d6⟩,Fr.set .wl J.awl (λ_ z=>nomatch z) (λc f=>?_)⟩;cases f with
 | x=>exact .x
 | hd=>exact .hd
 | hl=>exact .hl
 | nt=>exact .nt
 | nl=>exact .nl
 | wt=>exact .wt
 | wb=>exact .wb
 | wl=>exact .wl
 | fh=>exact .fh
 | yg=>exact .yg
 | dm=>exact .dm
 | fl m=>exact .fl m
theorem IH.Mf(J:IH D H x A s){ts:List Int}:IH D (upd H A.yg (.dK (ts.map tkv))) x A {s with yng:=ts}∧Fr (aJ x A s) H (aJ x A {s with yng:=ts}) (upd H A.yg (.dK (ts.map tkv))):=by
 have tk:bE H (upd H A.yg (.dK (ts.map tkv))):=bE.set J.ayg (λ_ z=>nomatch z);refine⟨⟨(by rw[ab (av J.ax J.ayg (by intro z;cases z))];exact J.ax),(by rw[ab (av J.ahd J.ayg (by intro z;cases z))];exact J.ahd),(by rw[ab (av J.ahl J.ayg (by intro z;cases z))];exact J.ahl),J.rhl.keep tk,(by rw[ab (av J.ant J.ayg (by intro z;cases z))];exact J.ant),(by rw[ab (av J.anl J.ayg (by intro z;cases z))];exact J.anl),(by rw[ab (av J.awt J.ayg (by intro z;cases z))];exact J.awt),(by rw[ab J.d2];exact J.awb),(by rw[ab (av J.awl J.ayg (by intro z;cases z))];exact J.awl),(by rw[ab J.d4];exact J.afh),(λt ws m=>⟨by rw[ab (av (J.afl _ _ m).1 J.ayg (by intro z;cases z))];exact(J.afl _ _ m).1,(J.afl _ _ m).2.keep tk⟩),ag,(by rw[ab (Nv J.d6)];exact J.adm),J.nhn,J.l1,J.l2,J.l3,J.l4,J.l5,J.d1,J.d2,J.d3,J.d4,J.d5,J.d6⟩,Fr.set .yg J.ayg (λ_ z=>nomatch z) (λc f=>?_)⟩;cases f with
 | x=>exact .x
 | hd=>exact .hd
 | hl=>exact .hl
 | nt=>exact .nt
 | nl=>exact .nl
 | wt=>exact .wt
 | wb=>exact .wb
 | wl=>exact .wl
 | fh=>exact .fh
 | yg=>exact .yg
 | dm=>exact .dm
 | fl m=>exact .fl m
theorem IH.Kn(J:IH D H x A s){ts:List Int}:IH D (upd H A.dm (.dK (ts.map tkv))) x A {s with aF:=ts}∧Fr (aJ x A s) H (aJ x A {s with aF:=ts}) (upd H A.dm (.dK (ts.map tkv))):=by
 have tk:bE H (upd H A.dm (.dK (ts.map tkv))):=bE.set J.adm (λ_ z=>nomatch z);refine⟨⟨(by rw[ab (av J.ax J.adm (by intro z;cases z))];exact J.ax),(by rw[ab (av J.ahd J.adm (by intro z;cases z))];exact J.ahd),(by rw[ab (av J.ahl J.adm (by intro z;cases z))];exact J.ahl),J.rhl.keep tk,(by rw[ab (av J.ant J.adm (by intro z;cases z))];exact J.ant),(by rw[ab (av J.anl J.adm (by intro z;cases z))];exact J.anl),(by rw[ab (av J.awt J.adm (by intro z;cases z))];exact J.awt),(by rw[ab J.d3];exact J.awb),(by rw[ab (av J.awl J.adm (by intro z;cases z))];exact J.awl),(by rw[ab J.d5];exact J.afh),(λt ws m=>⟨by rw[ab (av (J.afl _ _ m).1 J.adm (by intro z;cases z))];exact(J.afl _ _ m).1,(J.afl _ _ m).2.keep tk⟩),(by rw[ab J.d6];exact J.ayg),ag,J.nhn,J.l1,J.l2,J.l3,J.l4,J.l5,J.d1,J.d2,J.d3,J.d4,J.d5,J.d6⟩,Fr.set .dm J.adm (λ_ z=>nomatch z) (λc f=>?_)⟩;cases f with
 | x=>exact .x
 | hd=>exact .hd
 | hl=>exact .hl
 | nt=>exact .nt
 | nl=>exact .nl
 | wt=>exact .wt
 | wb=>exact .wb
 | wl=>exact .wl
 | fh=>exact .fh
 | yg=>exact .yg
 | dm=>exact .dm
 | fl m=>exact .fl m
theorem IH.Mg(J:IH D H x A s){n:Int}:IH D (upd H x (.ins D.ah A.dx (cw "next_thing" (.int n) (atts A s)))) x A {s with nxt:=n}∧Fr (aJ x A s) H (aJ x A {s with nxt:=n}) (upd H x (.ins D.ah A.dx (cw "next_thing" (.int n) (atts A s)))):=by
 have tk:bE H (upd H x (.ins D.ah A.dx (cw "next_thing" (.int n) (atts A s)))):=bE.set J.ax (λ_ z=>nomatch z);refine⟨⟨(by rw[ag,Jy]),(by rw[ab (av J.ahd J.ax (dY (show(1:Nat)≠11 by decide)))];exact J.ahd),(by rw[ab (av J.ahl J.ax (by intro z;cases z))];exact J.ahl),J.rhl.keep tk,(by rw[ab (av J.ant J.ax (dY (show(1:Nat)≠11 by decide)))];exact J.ant),(by rw[ab (av J.anl J.ax (by intro z;cases z))];exact J.anl),(by rw[ab (av J.awt J.ax (dY (show(2:Nat)≠11 by decide)))];exact J.awt),(by rw[ab (av J.awb J.ax (by intro z;cases z))];exact J.awb),(by rw[ab (av J.awl J.ax (by intro z;cases z))];exact J.awl),(by rw[ab (av J.afh J.ax (by intro z;cases z))];exact J.afh),(λt ws m=>⟨by rw[ab (av (J.afl _ _ m).1 J.ax (by intro z;cases z))];exact(J.afl _ _ m).1,(J.afl _ _ m).2.keep tk⟩),(by rw[ab (av J.ayg J.ax (by intro z;cases z))];exact J.ayg),(by rw[ab (av J.adm J.ax (by intro z;cases z))];exact J.adm),J.nhn,J.l1,J.l2,J.l3,J.l4,J.l5,J.d1,J.d2,J.d3,J.d4,J.d5,J.d6⟩,Fr.set .x J.ax (λ_ z=>nomatch z) (λc f=>?_)⟩;cases f with
 | x=>exact .x
 | hd=>exact .hd
 | hl=>exact .hl
 | nt=>exact .nt
 | nl=>exact .nl
 | wt=>exact .wt
 | wb=>exact .wb
 | wl=>exact .wl
 | fh=>exact .fh
 | yg=>exact .yg
 | dm=>exact .dm
 | fl m=>exact .fl m
theorem IH.Ko(J:IH D H x A s){n:Bool}:IH D (upd H x (.ins D.ah A.dx (cw "in_round" (.bl n) (atts A s)))) x A {s with rnd:=n}∧Fr (aJ x A s) H (aJ x A {s with rnd:=n}) (upd H x (.ins D.ah A.dx (cw "in_round" (.bl n) (atts A s)))):=by
 have tk:bE H (upd H x (.ins D.ah A.dx (cw "in_round" (.bl n) (atts A s)))):=bE.set J.ax (λ_ z=>nomatch z);refine⟨⟨(by rw[ag,Jz]),(by rw[ab (av J.ahd J.ax (dY (show(1:Nat)≠11 by decide)))];exact J.ahd),(by rw[ab (av J.ahl J.ax (by intro z;cases z))];exact J.ahl),J.rhl.keep tk,(by rw[ab (av J.ant J.ax (dY (show(1:Nat)≠11 by decide)))];exact J.ant),(by rw[ab (av J.anl J.ax (by intro z;cases z))];exact J.anl),(by rw[ab (av J.awt J.ax (dY (show(2:Nat)≠11 by decide)))];exact J.awt),(by rw[ab (av J.awb J.ax (by intro z;cases z))];exact J.awb),(by rw[ab (av J.awl J.ax (by intro z;cases z))];exact J.awl),(by rw[ab (av J.afh J.ax (by intro z;cases z))];exact J.afh),(λt ws m=>⟨by rw[ab (av (J.afl _ _ m).1 J.ax (by intro z;cases z))];exact(J.afl _ _ m).1,(J.afl _ _ m).2.keep tk⟩),(by rw[ab (av J.ayg J.ax (by intro z;cases z))];exact J.ayg),(by rw[ab (av J.adm J.ax (by intro z;cases z))];exact J.adm),J.nhn,J.l1,J.l2,J.l3,J.l4,J.l5,J.d1,J.d2,J.d3,J.d4,J.d5,J.d6⟩,Fr.set .x J.ax (λ_ z=>nomatch z) (λc f=>?_)⟩;cases f with
 | x=>exact .x
 | hd=>exact .hd
 | hl=>exact .hl
 | nt=>exact .nt
 | nl=>exact .nl
 | wt=>exact .wt
 | wb=>exact .wb
 | wl=>exact .wl
 | fh=>exact .fh
 | yg=>exact .yg
 | dm=>exact .dm
 | fl m=>exact .fl m
noncomputable def dz(fs:List (Int×List Wd))(t:Int)(ws:List Wd):List (Int×List Wd):=fs.map λp=>if p.1=t then(t,ws) else p
theorem mV{fs:List (Int×List Wd)}{t t':Int}{ws ws':List Wd}(m:(t',ws')∈dz fs t ws):∃ w0,(t',w0)∈fs∧t'=t':=by
 obtain⟨q,mq,e⟩:=Nc.mp m;by_cases c:q.1=t
 ·rw[if_pos c]at e
  cases e;exact⟨q.2,by rw[←c];exact mq,rfl⟩
 ·rw[if_neg c]at e
  subst e;exact⟨_,mq,rfl⟩
theorem AO{A:HA}{fs:List (Int×List Wd)}{t:Int}{ws:List Wd}{xs:Int→List V}:(dz fs t ws).map (fkv {A with fx:=xs})=fs.map (fkv A):=by
 unfold dz;rw[Ny];refine NG λp hp=>?_;show fkv {A with fx:=xs} (if p.1=t then(t,ws) else p)=fkv A p;by_cases c:p.1=t
 ·rw[if_pos c];unfold fkv;rw[c]
 ·rw[if_neg c];rfl
theorem IH.Mh(J:IH D H x A s){t:Int}{w0:List Wd}(m:(t,w0)∈s.aC){xs:List V}{ws:List Wd}(r:Rel H xs ws):IH D (upd H (A.fa t) (.lst xs)) x {A with fx:=λu=>if u=t then xs else A.fx u} {s with aC:=dz s.aC t ws}∧Fr (aJ x A s) H (aJ x {A with fx:=λu=>if u=t then xs else A.fx u} {s with aC:=dz s.aC t ws}) (upd H (A.fa t) (.lst xs)):=by
 have tk:bE H (upd H (A.fa t) (.lst xs)):=bE.set (J.afl _ _ m).1 (λ_ z=>nomatch z);refine⟨⟨(by rw[ab (Nv (av (J.afl _ _ m).1 J.ax (by intro z;cases z)))];exact J.ax),(by rw[ab (Nv (av (J.afl _ _ m).1 J.ahd (by intro z;cases z)))];exact J.ahd),(by rw[ab (Nv (J.l4 _ _ m).1)];exact J.ahl),J.rhl.keep tk,(by rw[ab (Nv (av (J.afl _ _ m).1 J.ant (by intro z;cases z)))];exact J.ant),(by rw[ab (Nv (J.l4 _ _ m).2.1)];exact J.anl),(by rw[ab (Nv (av (J.afl _ _ m).1 J.awt (by intro z;cases z)))];exact J.awt),(by rw[ab (Nv (av (J.afl _ _ m).1 J.awb (by intro z;cases z)))];exact J.awb),(by rw[ab (Nv (J.l4 _ _ m).2.2)];exact J.awl),(by rw[ab (Nv (av (J.afl _ _ m).1 J.afh (by intro z;cases z))),AO];exact J.afh),(λt' ws' m'=>by
  obtain⟨q,mq,e⟩:=Nc.mp m';by_cases c:q.1=t
  ·rw[if_pos c]at e
   cases e;dsimp only;rw[if_pos rfl];exact⟨ag,r.keep tk⟩
  ·rw[if_neg c]at e
   subst e;dsimp only;rw[if_neg c];exact⟨by rw[ab λz=>c (J.l5 _ _ _ _ mq m z)];exact(J.afl _ _ mq).1,(J.afl _ _ mq).2.keep tk⟩),(by rw[ab (Nv (av (J.afl _ _ m).1 J.ayg (by intro z;cases z)))];exact J.ayg),(by rw[ab (Nv (av (J.afl _ _ m).1 J.adm (by intro z;cases z)))];exact J.adm),J.nhn,J.l1,J.l2,J.l3,(λt' ws' m'=>by obtain⟨q,mq,e1⟩:=mV m';rw[←e1];exact J.l4 _ _ mq),(λt1 w1 t2 w2 m1 m2 z=>by obtain⟨q1,mq1,e1⟩:=mV m1;obtain⟨q2,mq2,e2⟩:=mV m2;rw[←e1,←e2]at z ⊢;exact J.l5 _ _ _ _ mq1 mq2 z),J.d1,J.d2,J.d3,J.d4,J.d5,J.d6⟩,Fr.set (.fl m) (J.afl _ _ m).1 (λ_ z=>nomatch z) (λc f=>?_)⟩
 cases f with
 | x=>exact .x
 | hd=>exact .hd
 | hl=>exact .hl
 | nt=>exact .nt
 | nl=>exact .nl
 | wt=>exact .wt
 | wb=>exact .wb
 | wl=>exact .wl
 | fh=>exact .fh
 | yg=>exact .yg
 | dm=>exact .dm
 | fl m'=>obtain⟨w0,m0,_⟩:=mV m';exact .fl m0
theorem IH.fresh(J:IH D H x A s){b:Addr}(h:H b=none):¬aJ x A s b:=λf=>by
 obtain⟨u,q,_⟩:=J.is f;rw[h]at q;cases q
theorem IH.JC(J:IH D H x A s){t:Int}{b:Addr}{xs:List V}{ws:List Wd}(hb:H b=none)(hn:∀ w,(t,w)∉s.aC)(r:Rel H xs ws) :
  IH D (upd (upd H b (.lst xs)) A.fh (.dK (s.aC.map (fkv A)++[(Sum.inl t,.ref b)]))) x {A with fa:=λu=>if u=t then b else A.fa u,fx:=λu=>if u=t then xs else A.fx u} {s with aC:=s.aC++[(t,ws)]} ∧
  Fr (aJ x A s) H (aJ x {A with fa:=λu=>if u=t then b else A.fa u,fx:=λu=>if u=t then xs else A.fx u} {s with aC:=s.aC++[(t,ws)]}) (upd (upd H b (.lst xs)) A.fh (.dK (s.aC.map (fkv A)++[(Sum.inl t,.ref b)]))):=by
 have s1:ay H (upd H b (.lst xs)):=ay.upd hb;have nb:∀ {c:Addr} {u:HO},H c=some u→c≠b:=λq=>ao q hb;have J1:=J.same s1;have tk:bE (upd H b (.lst xs)) (upd (upd H b (.lst xs)) A.fh (.dK (s.aC.map (fkv A)++[(Sum.inl t,.ref b)]))):=bE.set J1.afh (λ_ z=>nomatch z);have tk0:bE H (upd (upd H b (.lst xs)) A.fh (.dK (s.aC.map (fkv A)++[(Sum.inl t,.ref b)]))):=(bE.of s1).trans tk;have kt:∀ {t':Int} {w:List Wd},(t',w)∈s.aC→t'≠t:=λm e=>hn _ (by rw[←e];exact m);have mm:∀ {t':Int} {w:List Wd},(t',w)∈s.aC++[(t,ws)]→(t',w)∈s.aC∨(t'=t∧w=ws):=λm=>by
  rcases MS.mp m with m|m
  ·exact .inl m
  ·cases MO.mp m;exact .inr ⟨rfl,rfl⟩
 have bf:b≠A.fh:=Nv (nb J.afh);have fk:(s.aC++[(t,ws)]).map (fkv {A with fa:=λu=>if u=t then b else A.fa u,fx:=λu=>if u=t then xs else A.fx u})=s.aC.map (fkv A)++[(Sum.inl t,.ref b)]:=by
  rw[MV];congr 1
  ·refine NG λp hp=>?_
   unfold fkv;simp only;rw[if_neg (kt (t':=p.1) (w:=p.2) hp)]
  ·simp only[Nz,Oy,fkv,if_true]
 refine⟨⟨(by rw[ab (av J.ax J.afh (by intro z;cases z))];exact J1.ax),(by rw[ab (av J.ahd J.afh (by intro z;cases z))];exact J1.ahd),(by rw[ab (av J.ahl J.afh (by intro z;cases z))];exact J1.ahl),J.rhl.keep tk0,(by rw[ab (av J.ant J.afh (by intro z;cases z))];exact J1.ant),(by rw[ab (av J.anl J.afh (by intro z;cases z))];exact J1.anl),(by rw[ab (av J.awt J.afh (by intro z;cases z))];exact J1.awt),(by rw[ab J.d1];exact J1.awb),(by rw[ab (av J.awl J.afh (by intro z;cases z))];exact J1.awl),(by rw[fk];exact ag),(λt' w m=>by
  rcases mm m with m|⟨e1,e2⟩
  ·show _=_∧_
   simp only[if_neg (kt m)];exact⟨by rw[ab (av (J.afl _ _ m).1 J.afh (by intro z;cases z))];exact s1 _ _ (J.afl _ _ m).1,(J.afl _ _ m).2.keep tk0⟩
  ·subst e1 e2
   simp only[if_true];exact⟨by rw[ab bf];exact ag,r.keep tk0⟩),(by rw[ab (Nv J.d4)];exact J1.ayg),(by rw[ab (Nv J.d5)];exact J1.adm),J.nhn,J.l1,J.l2,J.l3,(λt' w m=>by
  rcases mm m with m|⟨e1,e2⟩
  ·simp only[if_neg (kt m)]
   exact J.l4 _ _ m
  ·subst e1
   simp only[if_true];exact⟨Nv (nb J.ahl),Nv (nb J.anl),Nv (nb J.awl)⟩),(λt1 w1 t2 w2 m1 m2 z=>by
  simp only at z;rcases mm m1 with m1|⟨e1,_⟩
  ·rw[if_neg (kt m1)]at z
   rcases mm m2 with m2|⟨e2,_⟩
   ·rw[if_neg (kt m2)]at z
    exact J.l5 _ _ _ _ m1 m2 z
   ·rw[if_pos e2]at z
    exact absurd z (nb (J.afl _ _ m1).1)
  ·rw[if_pos e1]at z
   rcases mm m2 with m2|⟨e2,_⟩
   ·rw[if_neg (kt m2)]at z
    exact absurd z.symm (nb (J.afl _ _ m2).1)
   ·rw[e1,e2]),J.d1,J.d2,J.d3,J.d4,J.d5,J.d6⟩,?_⟩
 refine⟨λc u nf q=>?_,λc f=>?_,λc u q=>?_,tk0⟩
 ·rw[ab λe=>nf (by rw[e];exact .fh)]
  exact s1 _ _ q
 ·cases f with
  | x=>exact .inl .x
  | hd=>exact .inl .hd
  | hl=>exact .inl .hl
  | nt=>exact .inl .nt
  | nl=>exact .inl .nl
  | wt=>exact .inl .wt
  | wb=>exact .inl .wb
  | wl=>exact .inl .wl
  | fh=>exact .inl .fh
  | yg=>exact .inl .yg
  | dm=>exact .inl .dm
  | @fl t' w m =>
   rcases mm m with m|⟨e,_⟩
   ·refine .inl ?_
    show aJ x A s (if t'=t then b else A.fa t');rw[if_neg (kt m)];exact .fl m
   ·refine .inr ?_
    show H (if t'=t then b else A.fa t')=none;rw[if_pos e];exact hb
 ·by_cases e:c=A.fh
  ·exact⟨_,by rw[e];exact ag⟩
  ·exact⟨u,by rw[ab e];exact s1 _ _ q⟩
end
section
variable{P:Program}{w:World}{K:W.Frag}{mg:Str→Option Value}{base:Heap}{D:Ad}
theorem uD{t u:TS}{D:Ends}{σ:St}{H:Hp}(h:∀ N:St→Hp→Prop,(∀ σ' H',u D σ' H'→N σ' H')→t {D with nx:=N} σ H):uw t u D σ H:=h (u D) (λ_ _ q=>q)
theorem Fi{P:Program}{w:World}{X:Cx}:Passes (CXE P w) X (λ_ _ _=>False):=λ_ _ _ _ _ _ _ ⟨_,_,_,_,_,_,_,_,_,q⟩=>q.elim
theorem bq{H0 H:Hp}{K:W.Frag}{E E2:XK}{C:Addr}{y:Str}(ec:Kk K C)(h0:∀ b,H b=none→H0 b=none)(k:∀ H',ay H H'→E (.ref C) none H')(ea:Addr)(hea:H ea=none) :
  Kl K [.ref ea,.str y] (upd H ea (exo true C ea none)) (λv H2=>v=.non∧(λ(v:V) (H1:Hp)=>∃ ea C od,v=.ref ea∧H1 ea=some (exo true C ea od)∧(∃ cd,du K C cd)∧H0 ea=none∧E (.ref C) od (del H1 ea)) (.ref ea) H2) E2:=by
 refine⟨ea,C,none,.str y,rfl,ag,ec.cls,rfl,ea,C,none,rfl,ag,ec.cls,h0 _ hea,k _ λb o q=>?_⟩;have nb:b≠ea:=λe=>by rw[e,hea]at q;cases q
 rw[jz nb,ab nb];exact q
noncomputable def Bad(C:Addr)(H:Hp)(E:XK):Prop:=∀ H',ay H H'→E (.ref C) none H'
theorem Bad.same{C:Addr}{H H1:Hp}{E:XK}(k:Bad C H E)(s:ay H H1):Bad C H1 E:=λH' s'=>k H' (s.trans s')
noncomputable def Sm(n:Int):Prop:=n.natAbs.log2<1920
theorem Sm.of{n:Int}(h0:-1000000≤n)(h1:n≤1000000):Sm n:=zE (Nat.lt_trans (show n.natAbs<2000000 by omega) (by decide))
noncomputable def wat(ws:List Wd)(h:Int):Option Wd:=if 0≤h∧h<8 then ws[h.toNat]? else none
theorem i9{ws:List Wd}{h:Int}{wd:Wd}(e:wat ws h=some wd):0≤h∧h<8∧ws[h.toNat]?=some wd:=by
 unfold wat at e;by_cases g:0≤h∧h<8
 ·rw[if_pos g]at e;exact⟨g.1,g.2,e⟩
 ·rw[if_neg g]at e;cases e
theorem AQ{ws:List Wd}{h:Int}(l:ws.length=8)(e:wat ws h=none):¬(0≤h∧h<8):=λg=>by
 unfold wat at e;rw[if_pos g,MP (by omega)]at e;cases e
theorem uZ{xs:List V}{a:Int}{v:V}(h0:0≤a)(h:xs[a.toNat]?=some v):atI xs a=some v:=by
 have e:a=(a.toNat:Int):=by omega
 rw[e];exact jw h
theorem CB{n:Nat}{a:Int}(h0:0≤a)(h1:a<n):ixN n a=some a.toNat:=by
 unfold ixN;rw[if_pos h0,if_pos h1]
structure Hn(D:Ad)(H:Hp)(hd hdx hl:Addr)(xs:List V)(ws:List Wd):Prop where
 i:H hd=some (.ins D.cC hdx [("words_held",.ref hl)])
 l:H hl=some (.lst xs)
 r:Rel H xs ws
 n:ws.length=8
theorem Hn.same{D:Ad}{H H':Hp}{hd hdx hl:Addr}{xs:List V}{ws:List Wd}(h:Hn D H hd hdx hl xs ws)(s:ay H H'):Hn D H' hd hdx hl xs ws:=⟨s _ _ h.i,s _ _ h.l,h.r.keep (bE.of s),h.n⟩
theorem Hn.at_{D:Ad}{H:Hp}{hd hdx hl:Addr}{xs:List V}{ws:List Wd}(N:Hn D H hd hdx hl xs ws){h:Int}{wd:Wd}(e:wat ws h=some wd):∃ v,xs[h.toNat]?=some v∧WV H v wd:=by
 obtain⟨h0,h1,e⟩:=i9 e;have hi:h.toNat<ws.length:=by rw[N.n];omega
 obtain⟨v,e1,e2⟩:=N.r.get hi;rw[MP hi]at e;cases e;exact⟨v,e1,e2⟩
theorem Hn.ix{D:Ad}{H:Hp}{hd hdx hl:Addr}{xs:List V}{ws:List Wd}(N:Hn D H hd hdx hl xs ws){h:Int}(g:0≤h∧h<8):ixN xs.length h=some h.toNat:=CB g.1 (by rw[N.r.1,N.n];exact g.2)
noncomputable abbrev iu:List Str:=["self", "text"]
theorem gU:au iu ["self", "text"] (aj ia):=fsc
theorem aA(T:Txt w K mg D):Ok P w K mg base 1 D.ig ["self", "text"] (Kl K):=by
 refine T.o2 "HeapError.__init__" gU λcdv A' outer s' H vs Q E hr h=>?_;obtain⟨ea,C,od,x,rfl,h1,hc,k⟩:=h;refine⟨_,(ak (az (Jj rfl T.z (aa (pv 0) (aa (pv 1) aq))))),?_⟩;exact⟨_,rfl,_,rfl,ea,C,od,[x],rfl,(by show 1≤1000;decide),h1,hc,k⟩
noncomputable def Fj:Sp:=λvs H Q _=>∃ v wd,vs=[v]∧WV H v wd∧Q (.str wd.kind) H
noncomputable abbrev zO:List Str:=["value"]
theorem xE:au zO ["value"] (aj zK):=fsc
theorem kA(T:Txt w K mg D):Ok P w K mg base 1 D.zM ["value"] (Fj):=by
 refine T.o1 "kind_of" xE λcdv A' outer s' H vs Q E hr h=>?_;obtain⟨v,wd,rfl,hv,k⟩:=h;refine⟨_,(ak (aG (iY (aE rT (pv 0) bK (aO _)) fM (a7 aX (pv 0) ar (λ_ _=>rfl))))),?_⟩;cases wd with
 | no =>
  obtain rfl:v=.non:=hv;exact⟨_,rfl,rfl,_,rfl,bu (λ_=>k) (λh=>absurd (by simp) h)⟩
 | num n =>
  obtain⟨t,rfl,ht⟩:=hv;exact⟨_,rfl,rfl,_,rfl,bu (λh=>by simp at h) (λ_=>⟨_,rfl,t,_,0,_,rfl,rfl,SqT.of ht,rfl,k⟩)⟩
 | th n =>
  obtain⟨t,rfl,ht⟩:=hv;exact⟨_,rfl,rfl,_,rfl,bu (λh=>by simp at h) (λ_=>⟨_,rfl,t,_,0,_,rfl,rfl,SqT.of ht,rfl,k⟩)⟩
noncomputable def pP(D:Ad):Sp:=λvs H Q E=>∃ n:Int,vs=[.int n]∧Sm n∧(if 0≤n∧n<8 then Q .non H else Bad D.ba H E)
noncomputable abbrev qw:List Str:=["h"]
theorem pQ:au qw ["h"] (aj qm):=fsc
theorem bB(T:Txt w K mg D):Ok P w K mg base 3 D.qt ["h"] (pP D):=by
 refine T.o1 "look_at_hand" pQ λcdv A' outer s' H vs Q E hr h=>?_;obtain⟨n,rfl,hb,k⟩:=h;refine⟨_,(ak (a6 (gy (gz ko km ar (pv 0) (dN (v:=.int 8) rfl T.yy ⟨_,rfl⟩)))
   (ak (b0 rfl dW ((aA T).e D.ba hr px (aa (dw (aQ (eJ (pv 0)) (aQ cJ dv))) aq))))
   aI)),?_⟩
 by_cases g:0≤n∧n<8
 ·rw[if_pos g]at k
  refine⟨_,rfl,0,n,rfl,rfl,_,rfl,bu (λ_=>⟨n,8,rfl,rfl,_,rfl,bu (λh2=>absurd h2 (by rw[decide_eq_true g.2];decide)) (λ_=>k)⟩) (λh1=>absurd (decide_eq_true g.1) h1)⟩
 ·rw[if_neg g]at k
  by_cases g0:0≤n
  ·have g1:¬n<8:=λz=>g ⟨g0,z⟩
   refine⟨_,rfl,0,n,rfl,rfl,_,rfl,bu (λ_=>⟨n,8,rfl,rfl,_,rfl,bu (λ_=>⟨_,rfl,n,rfl,hb,λy hy ea hea=>bq (T.ec D.ba) (λ_ q=>q) k ea hea⟩) (λh2=>absurd (by rw[decide_eq_false g1];rfl) h2)⟩) (λh1=>absurd (decide_eq_true g0) h1)⟩
  ·refine⟨_,rfl,0,n,rfl,rfl,_,rfl,bu (λh1=>absurd (of_decide_eq_true h1) g0) (λ_=>⟨_,rfl,dt ⟨_,rfl,n,rfl,hb,λy hy ea hea=>bq (T.ec D.ba) (λ_ q=>q) k ea hea⟩⟩)⟩
noncomputable def pR(D:Ad):Sp:=λvs H Q E=>∃ n:Int,vs=[.int n]∧Sm n∧(if 0≤n∧n<8 then Q .non H else Bad D.cN H E)
noncomputable abbrev qx:List Str:=["w"]
theorem pS:au qx ["w"] (aj qo):=fsc
theorem gK(T:Txt w K mg D):Ok P w K mg base 3 D.qu ["w"] (pR D):=by
 refine T.o1 "look_at_name" pS λcdv A' outer s' H vs Q E hr h=>?_;obtain⟨n,rfl,hb,k⟩:=h;refine⟨_,(ak (a6 (gy (gz ko km ar (pv 0) (dN (v:=.int 8) rfl T.l7 ⟨_,rfl⟩)))
   (ak (b0 rfl dW ((aA T).e D.cN hr px (aa (dw (aQ (eJ (pv 0)) (aQ cJ dv))) aq))))
   aI)),?_⟩
 by_cases g:0≤n∧n<8
 ·rw[if_pos g]at k
  refine⟨_,rfl,0,n,rfl,rfl,_,rfl,bu (λ_=>⟨n,8,rfl,rfl,_,rfl,bu (λh2=>absurd h2 (by rw[decide_eq_true g.2];decide)) (λ_=>k)⟩) (λh1=>absurd (decide_eq_true g.1) h1)⟩
 ·rw[if_neg g]at k
  by_cases g0:0≤n
  ·have g1:¬n<8:=λz=>g ⟨g0,z⟩
   refine⟨_,rfl,0,n,rfl,rfl,_,rfl,bu (λ_=>⟨n,8,rfl,rfl,_,rfl,bu (λ_=>⟨_,rfl,n,rfl,hb,λy hy ea hea=>bq (T.ec D.cN) (λ_ q=>q) k ea hea⟩) (λh2=>absurd (by rw[decide_eq_false g1];rfl) h2)⟩) (λh1=>absurd (decide_eq_true g0) h1)⟩
  ·refine⟨_,rfl,0,n,rfl,rfl,_,rfl,bu (λh1=>absurd (of_decide_eq_true h1) g0) (λ_=>⟨_,rfl,dt ⟨_,rfl,n,rfl,hb,λy hy ea hea=>bq (T.ec D.cN) (λ_ q=>q) k ea hea⟩⟩)⟩
noncomputable def vP(D:Ad):Sp:=λvs H Q E=>∃ n:Int,vs=[.int n]∧Sm n∧(if 0≤n∧n≤6 then Q (.int (n+1)) H else Bad D.bo H E)
noncomputable abbrev xF:List Str:=["fields"]
theorem vQ:au xF ["fields"] (aj xy):=fsc
theorem pA(T:Txt w K mg D):Ok P w K mg base 3 D.xB ["fields"] (vP D):=by
 refine T.o1 "words_of" vQ λcdv A' outer s' H vs Q E hr h=>?_;obtain⟨n,rfl,hb,k⟩:=h;refine⟨_,(ai (a6 (gy (gz ko ko ar (pv 0) (dN (v:=.int 6) rfl T.sr ⟨_,rfl⟩)))
   (ak (b0 rfl dW ((aA T).e D.bo hr px (aa (dw (aQ (eJ (pv 0)) (aQ cJ dv))) aq))))
   aI)
  (ak (aG (aT fO (pv 0) ar)))),?_⟩
 by_cases g:0≤n∧n≤6
 ·rw[if_pos g]at k
  refine⟨_,rfl,0,n,rfl,rfl,_,rfl,bu (λ_=>⟨n,6,rfl,rfl,_,rfl,bu (λh2=>absurd h2 (by rw[decide_eq_true g.2];decide)) (λ_=>⟨_,rfl,n,1,rfl,rfl,k⟩)⟩) (λh1=>absurd (decide_eq_true g.1) h1)⟩
 ·rw[if_neg g]at k
  by_cases g0:0≤n
  ·have g1:¬n≤6:=λz=>g ⟨g0,z⟩
   refine⟨_,rfl,0,n,rfl,rfl,_,rfl,bu (λ_=>⟨n,6,rfl,rfl,_,rfl,bu (λ_=>⟨_,rfl,n,rfl,hb,λy hy ea hea=>bq (T.ec D.bo) (λ_ q=>q) k ea hea⟩) (λh2=>absurd (by rw[decide_eq_false g1];rfl) h2)⟩) (λh1=>absurd (decide_eq_true g0) h1)⟩
  ·refine⟨_,rfl,0,n,rfl,rfl,_,rfl,bu (λh1=>absurd (of_decide_eq_true h1) g0) (λ_=>⟨_,rfl,dt ⟨_,rfl,n,rfl,hb,λy hy ea hea=>bq (T.ec D.bo) (λ_ q=>q) k ea hea⟩⟩)⟩
noncomputable def nV(D:Ad):Sp:=λvs H Q E=>∃ n m:Int,vs=[.int n,.int m]∧Sm n∧Sm m∧(if 0≤n∧n<m then Q .non H else Bad D.dX H E)
noncomputable abbrev pT:List Str:=["k", "fields"]
theorem nW:au pT ["k", "fields"] (aj pH):=fsc
theorem gf(T:Txt w K mg D):Ok P w K mg base 3 D.pL ["k", "fields"] (nV D):=by
 refine T.o2 "look_at_field" nW λcdv A' outer s' H vs Q E hr h=>?_;obtain⟨n,m,rfl,hb,hm,k⟩:=h;refine⟨_,(ak (a6 (gy (gz ko km ar (pv 0) (pv 1)))
   (ak (b0 rfl dW ((aA T).e D.dX hr px (aa (dw (aQ cJ (aQ (eJ (pv 1)) (aQ cJ (aQ (eJ (pv 0)) dv))))) aq))))
   aI)),?_⟩
 by_cases g:0≤n∧n<m
 ·rw[if_pos g]at k
  refine⟨_,rfl,0,n,rfl,rfl,_,rfl,bu (λ_=>⟨_,rfl,n,m,rfl,rfl,_,rfl,bu (λh2=>absurd h2 (by rw[decide_eq_true g.2];decide)) (λ_=>k)⟩) (λh1=>absurd (decide_eq_true g.1) h1)⟩
 ·rw[if_neg g]at k
  by_cases g0:0≤n
  ·have g1:¬n<m:=λz=>g ⟨g0,z⟩
   refine⟨_,rfl,0,n,rfl,rfl,_,rfl,bu (λ_=>⟨_,rfl,n,m,rfl,rfl,_,rfl,bu (λ_=>⟨_,rfl,m,rfl,hm,_,rfl,n,rfl,hb,λy hy ea hea=>bq (T.ec D.dX) (λ_ q=>q) k ea hea⟩) (λh2=>absurd (by rw[decide_eq_false g1];rfl) h2)⟩) (λh1=>absurd (decide_eq_true g0) h1)⟩
  ·refine⟨_,rfl,0,n,rfl,rfl,_,rfl,bu (λh1=>absurd (of_decide_eq_true h1) g0) (λ_=>⟨_,rfl,dt ⟨_,rfl,m,rfl,hm,_,rfl,n,rfl,hb,λy hy ea hea=>bq (T.ec D.dX) (λ_ q=>q) k ea hea⟩⟩)⟩
noncomputable def Num(x:Int):Prop:=-(10 ^ 60)≤x∧x≤10 ^ 60
noncomputable instance {x:Int}:Decidable (Num x):=inferInstanceAs (Decidable (_∧_))
noncomputable def ll(D:Ad):Sp:=λvs H Q E=>∃ x:Int,vs=[.int x]∧Sm x∧(if Num x then Q .non H else Bad D.bo H E)
noncomputable abbrev nX:List Str:=["x"]
theorem lq:au nX ["x"] (aj nA):=fsc
theorem fB(T:Txt w K mg D):Ok P w K mg base 3 D.nJ ["x"] (ll D):=by
 refine T.o1 "look_at_number" lq λcdv A' outer s' H vs Q E hr h=>?_;obtain⟨x,rfl,hb,k⟩:=h;refine⟨_,(ak (a6 (aE Ae (aP Ay rfl T.z PyProof.Rows.Boot.«abs» (aa (pv 0) aq)) (aT ES ar ar) (aO _))
   (ak (b0 rfl dW ((aA T).e D.bo hr px (aa (dw (aQ (eJ (pv 0)) (aQ cJ dv))) aq))))
   aI)),?_⟩
 have e60:((10:Int) ^ (60:Int).toNat)=10 ^ 60:=rfl;by_cases g:Num x
 ·rw[if_pos g]at k
  refine⟨_,rfl,x,rfl,10,60,rfl,rfl,⟨by decide,by decide,by decide⟩,_,_,rfl,rfl,_,rfl,bu (λh=>absurd (of_decide_eq_true h) ?_) (λ_=>k)⟩
  have:=g.1
  have:=g.2
  rw[e60];split<;>omega
 ·rw[if_neg g]at k
  refine⟨_,rfl,x,rfl,10,60,rfl,rfl,⟨by decide,by decide,by decide⟩,_,_,rfl,rfl,_,rfl,bu (λ_=>⟨_,rfl,x,rfl,hb,λy hy ea hea=>bq (T.ec D.bo) (λ_ q=>q) k ea hea⟩) (λh=>absurd (decide_eq_true ?_) h)⟩;unfold Num at g;rw[e60];split<;>omega
noncomputable def pU(D:Ad):Sp:=λvs H Q E=>∃ x:Int,vs=[.int x]∧Sm x∧(if Num x then ∀ t H',ay H H'→H' t=some (.tup [.str "number",.int x])→Q (.ref t) H' else Bad D.bo H E)
noncomputable abbrev qy:List Str:=["x"]
theorem pV:au qy ["x"] (aj ql):=fsc
theorem pW(T:Txt w K mg D):Ok P w K mg base 4 D.qr ["x"] (pU D):=by
 refine T.o1 "number_value" pV λcdv A' outer s' H vs Q E hr h=>?_;obtain⟨x,rfl,hb,k⟩:=h;refine⟨_,(ai (az ((fB T).c hr px (aa (pv 0) aq)))
  (ak (aG (dU (aa fM (aa (pv 0) aq)))))),?_⟩
 refine⟨_,rfl,x,rfl,hb,?_⟩;by_cases g:Num x
 ·rw[if_pos g]at k ⊢
  exact⟨_,rfl,by show 2≤sizeLine;decide,λt ht=>k t _ (ay.upd ht) ag⟩
 ·rw[if_neg g]at k ⊢
  exact k
noncomputable def qz:Sp:=λvs H Q E=>∃ x:Int,vs=[.int x]∧0≤x∧∀ t H',ay H H'→H' t=some (.tup [.str "thing",.int x])→Q (.ref t) H'
noncomputable abbrev su:List Str:=["t"]
theorem qA:au su ["t"] (aj rW):=fsc
theorem eW(T:Txt w K mg D):Ok P w K mg base 3 D.sj ["t"] (qz):=by
 refine T.o1 "thing_value" qA λcdv A' outer s' H vs Q E hr h=>?_;obtain⟨x,rfl,h0,k⟩:=h;refine⟨_,(ai (a6 (aE km (pv 0) ar (aO _))
   (ak (b0 rfl dW ((aA T).e D.bo hr px (aa (dw (aQ (eJ (pv 0)) (aQ cJ dv))) aq))))
   aI)
  (ak (aG (dU (aa fM (aa (pv 0) aq)))))),?_⟩
 exact⟨_,rfl,x,0,rfl,rfl,_,rfl,bu (λh=>absurd (of_decide_eq_true h) (by omega)) (λ_=>⟨_,rfl,by show 2≤sizeLine;decide,λt ht=>k t _ (ay.upd ht) ag⟩)⟩
noncomputable def lA:Sp:=λvs H Q E=>∃ y l:Int,vs=[.int y,.int l]∧(y=0∨(7≤y∧y≤64))∧7≤l∧l≤400∧Q .non H
noncomputable abbrev nY:List Str:=["young", "limit"]
theorem lB:au nY ["young", "limit"] (aj nB):=fsc
theorem lC(T:Txt w K mg D):Ok P w K mg base 3 D.nK ["young", "limit"] (lA):=by
 refine T.o2 "look_at_limits" lB λcdv A' outer s' H vs Q E hr h=>?_;obtain⟨y,l,rfl,hy,l0,l1,k⟩:=h;refine⟨_,(ai (a6 (PW.pt (pw_and (aE Co (pv 0) ar (aO _)) (pw_and1 (gy (gz ko ko (dN (v:=.int 7) rfl T.l8 ⟨_,rfl⟩) (pv 0) (dN (v:=.int 64) rfl T.tZ ⟨_,rfl⟩))))))
   (ak (b0 rfl dW ((aA T).e D.bo hr px (aa (dw (aQ (eJ (pv 0)) (aQ cJ dv))) aq))))
   aI)
  (ak (a6 (gy (gz ko ko (dN (v:=.int 7) rfl T.l8 ⟨_,rfl⟩) (pv 1) (dN (v:=.int 400) rfl T.t5 ⟨_,rfl⟩)))
   (ak (b0 rfl dW ((aA T).e D.bo hr px (aa (dw (aQ (eJ (pv 1)) (aQ cJ dv))) aq))))
   aI))),?_⟩
 refine uD λN hN=>?_;have rest:N [some (.int y),some (.int l)] H:=by
  refine hN _ _ ?_;exact⟨_,rfl,7,l,rfl,rfl,_,rfl,bu (λ_=>⟨l,400,rfl,rfl,_,rfl,bu (λh2=>absurd h2 (by rw[decide_eq_true l1];decide)) (λ_=>k)⟩) (λh1=>absurd (decide_eq_true l0) h1)⟩
 rcases hy with rfl|⟨y0,y1⟩
 ·exact⟨_,rfl,rfl,_,rfl,bu (λh=>absurd h (by decide)) (λ_=>b8 rest)⟩
 ·refine⟨_,rfl,rfl,_,rfl,bu (λ_=>?_) (λh=>absurd (show(!decide (V.int y=V.int 0))=true from ?_) h)⟩
  ·exact⟨_,rfl,7,y,rfl,rfl,_,rfl,bu (λ_=>⟨y,64,rfl,rfl,_,rfl,bu (λh2=>absurd h2 (by rw[decide_eq_true y1];decide)) (λ_=>rest)⟩) (λh1=>absurd (decide_eq_true y0) h1)⟩
  ·rw[decide_eq_false (by intro z;injection z with z;omega)];rfl
noncomputable def But(m:Addr)(H H':Hp):Prop:=∀ b u,b≠m→H b=some u→H' b=some u
theorem But.upd{m a:Addr}{H:Hp}{o:HO}(h:H a=none):But m H (L2.upd H a o):=λb u _ q=>by rw[ab (ao q h)];exact q
theorem But.self{m:Addr}{H:Hp}{o:HO}:But m H (L2.upd H m o):=λb u n q=>by rw[ab n];exact q
theorem But.trans{m:Addr}{H H1 H2:Hp}(a:But m H H1)(b:But m H1 H2):But m H H2:=λc u n q=>b c u n (a c u n q)
theorem ay.none{H H':Hp}(s:ay H H'){b:Addr}(h:H' b=none):H b=none:=by
 cases q:H b with
 | none=>rfl
 | some u=>rw[s _ _ q]at h;cases h
theorem Kp:(List.replicate (8:Int).toNat [V.non]).flatten=List.replicate 8 .non:=rfl
theorem lookup_some{α:Type}{bs:List (Int×α)}{t:Int}{v:α}(h:bs.lookup t=some v):(t,v)∈bs:=by
 induction bs with
 | nil=>cases h
 | cons p r ih =>
  obtain⟨a,b⟩:=p;rw[NN]at h;by_cases e:t == a
  ·rw[e]at h
   rw[beq_iff_eq]at e;subst e;cases h;exact Nu
  ·rw[Bool.not_eq_true]at e
   rw[e]at h;exact Nn _ (ih h)
theorem lookup_none{α:Type}{bs:List (Int×α)}{t:Int}(h:bs.lookup t=none):∀ p∈bs,p.1≠t:=by
 induction bs with
 | nil=>intro p hp;cases hp
 | cons p r ih =>
  obtain⟨a,b⟩:=p;rw[NN]at h;by_cases e:t == a
  ·rw[e]at h;cases h
  ·rw[Bool.not_eq_true]at e
   rw[e]at h;intro q hq;rcases Nk.mp hq with rfl|hq
   ·exact λz=>by rw[beq_eq_false_iff_ne]at e;exact e z.symm
   ·exact ih h q hq
theorem qO{α:Type}{f:Int×α→Key×V}{bs:List (Int×α)}{t:Int}(hf:∀ p,(f p).1=Sum.inl p.1):cE (bs.map f) (Sum.inl t)=(bs.lookup t).map λv=>(f (t,v)).2:=by
 induction bs with
 | nil=>rfl
 | cons p r ih =>
  obtain⟨a,b⟩:=p;rw[Nz,NN];by_cases e:t=a
  ·subst e
   rw[de (hf (t,b)),beq_self_eq_true];rfl
  ·rw[di (by rw[hf (a,b)];exact λz=>e (Sum.inl.inj z).symm),beq_eq_false_iff_ne.mpr e,ih]
theorem Il{bs:List (Int×Int)}{t:Int}:cE (bs.map bkv) (Sum.inl t)=(bs.lookup t).map V.int:=qO λ_=>rfl
noncomputable def tJ(bs:List (Int×Int))(t x:Int):List (Int×Int):=if(bs.lookup t).isSome=true then bs.map (λp=>if p.1=t then(t,x) else p) else bs++[(t,x)]
theorem wM{bs:List (Int×Int)}{t x:Int}:(tJ bs t x).map bkv=putK (bs.map bkv) (Sum.inl t) (.int x):=by
 unfold tJ putK;rw[gA,Il,Ow];by_cases e:(bs.lookup t).isSome=true
 ·rw[if_pos e,if_pos e,Ny,Ny]
  refine NG λp hp=>?_;show bkv (if p.1=t then(t,x) else p)=if(bkv p).1=Sum.inl t then((bkv p).1,V.int x) else bkv p;by_cases c:p.1=t
  ·rw[if_pos c,if_pos (by show Sum.inl p.1=Sum.inl t;rw[c])];unfold bkv;rw[c]
  ·rw[if_neg c,if_neg (show ¬(bkv p).1=Sum.inl t from λz=>c (Sum.inl.inj (show(Sum.inl p.1:Key)=Sum.inl t from z)))]
 ·rw[if_neg e,if_neg e,MV]
  rfl
structure Nt(D:Ad)(H:Hp)(nt ntx nl:Addr)(xs:List V):Prop where
 i:H nt=some (.ins D.aK ntx [("things_named",.ref nl)])
 l:H nl=some (.lst xs)
 n:xs.length=8
structure Wt(D:Ad)(H:Hp)(wt wtx wb wl:Addr)(bs:List (Int×Int))(zs:List Int):Prop where
 i:H wt=some (.ins D.aW wtx [("words_borne",.ref wb),("words_said",.ref wl)])
 b:H wb=some (.dK (bs.map bkv))
 l:H wl=some (.lst (zs.map V.int))
noncomputable def sv(D:Ad):Sp:=λvs H Q _=>∃ m dx,vs=[.ref m]∧H m=some (.ins D.cC dx [])∧∀ c H',But m H H'→H c=none→H' c=some (.lst (List.replicate 8 .non))→H' m=some (.ins D.cC dx [("words_held",.ref c)])→Q .non H'
noncomputable abbrev nZ:List Str:=["self"]
theorem lD:au nZ ["self"] (aj nC):=fsc
theorem fD(T:Txt w K mg D):Ok P w K mg base 1 D.nM ["self"] (sv D):=by
 refine T.o1 "Hands.__init__" lD λcdv A' outer s' H vs Q E hr h=>?_;obtain⟨m,dx,rfl,hm,k⟩:=h;refine⟨_,(ak (cj (pv 0) (aT xX (fP (aa bK aq)) (dN (v:=.int 8) rfl T.yy ⟨_,rfl⟩)) rfl)),?_⟩;refine⟨by show 1≤sizeLine;decide,λp hp=>⟨p,8,_,rfl,rfl,ag,by decide,by decide,by show 1*8≤sizeLine;decide,λq hq=>?_⟩⟩;have np:m≠p:=ao hm hp;have hm1:upd H p (.lst [.non]) m=some (.ins D.cC dx []):=by rw[ab np];exact hm
 have nq:m≠q:=ao hm1 hq;have qp:q≠p:=λe=>by rw[e,ag]at hq;cases hq
 have hq0:H q=none:=by rw[ab qp]at hq;exact hq
 refine⟨_,rfl,m,D.cC,dx,[],rfl,(by rw[ab nq];exact hm1),T.aM,T.n,by decide,?_⟩;refine k q _ (((But.upd hp).trans (But.upd hq)).trans But.self) hq0 ?_ ag;rw[ab (Nv nq),ag,Kp]
noncomputable def lE(D:Ad):Sp:=λvs H Q _=>∃ m dx,vs=[.ref m]∧H m=some (.ins D.aK dx [])∧∀ c H',But m H H'→H c=none→H' c=some (.lst (List.replicate 8 .non))→H' m=some (.ins D.aK dx [("things_named",.ref c)])→Q .non H'
noncomputable abbrev iw:List Str:=["self"]
theorem gW:au iw ["self"] (aj ic):=fsc
theorem dH(T:Txt w K mg D):Ok P w K mg base 1 D.iq ["self"] (lE D):=by
 refine T.o1 "NameTable.__init__" gW λcdv A' outer s' H vs Q E hr h=>?_;obtain⟨m,dx,rfl,hm,k⟩:=h;refine⟨_,(ak (cj (pv 0) (aT xX (fP (aa bK aq)) (dN (v:=.int 8) rfl T.l7 ⟨_,rfl⟩)) rfl)),?_⟩;refine⟨by show 1≤sizeLine;decide,λp hp=>⟨p,8,_,rfl,rfl,ag,by decide,by decide,by show 1*8≤sizeLine;decide,λq hq=>?_⟩⟩;have np:m≠p:=ao hm hp;have hm1:upd H p (.lst [.non]) m=some (.ins D.aK dx []):=by rw[ab np];exact hm
 have nq:m≠q:=ao hm1 hq;have qp:q≠p:=λe=>by rw[e,ag]at hq;cases hq
 have hq0:H q=none:=by rw[ab qp]at hq;exact hq
 refine⟨_,rfl,m,D.aK,dx,[],rfl,(by rw[ab nq];exact hm1),T.bh,T.n,by decide,?_⟩;refine k q _ (((But.upd hp).trans (But.upd hq)).trans But.self) hq0 ?_ ag;rw[ab (Nv nq),ag,Kp]
noncomputable def xG(D:Ad):Sp:=λvs H Q E=>∃ hd hdx hl xs ws,∃ h:Int,vs=[.ref hd,.int h]∧Hn D H hd hdx hl xs ws∧Sm h∧(match wat ws h with|some wd=>∀ v,xs[h.toNat]?=some v→WV H v wd→Q v H|none=>Bad D.ba H E)
noncomputable abbrev pX:List Str:=["self", "h"]
theorem oa:au pX ["self", "h"] (aj pI):=fsc
theorem dP(T:Txt w K mg D):Ok P w K mg base 4 D.pM ["self", "h"] (xG D):=by
 refine T.o2 "Hands.word_in" oa λcdv A' outer s' H vs Q E hr h=>?_;obtain⟨hd,hdx,hl,xs,ws,h,rfl,N,hb,k⟩:=h;refine⟨_,(ai (az ((bB T).c hr px (aa (pv 1) aq)))
  (ak (aG (a7 dr (aB (pv 0) rfl) (pv 1) (λ_ _=>rfl))))),?_⟩
 refine⟨_,rfl,h,rfl,hb,?_⟩;cases e:wat ws h with
 | none =>
  rw[if_neg (AQ N.n e)];rw[e]at k;exact k
 | some wd =>
  obtain⟨h0,h1,_⟩:=i9 e;obtain⟨v,hv,wv⟩:=N.at_ e;rw[if_pos ⟨h0,h1⟩];rw[e]at k;exact⟨_,rfl,hd,D.cC,hdx,_,.ref hl,rfl,N.i,T.aM,T.n,rfl,_,rfl,hl,xs,h,v,rfl,rfl,SqL.of N.l,uZ h0 hv,k v hv wv⟩
noncomputable def yz(D:Ad):Sp:=λvs H Q E=>∃ hd hdx hl xs ws v,∃ h:Int,vs=[.ref hd,.int h,v]∧Hn D H hd hdx hl xs ws∧Sm h∧(if 0≤h∧h<8 then Q .non (upd H hl (.lst (xs.set h.toNat v))) else Bad D.ba H E)
noncomputable abbrev vR:List Str:=["self", "h", "word"]
theorem t6:au vR ["self", "h", "word"] (aj vz):=fsc
theorem eM(T:Txt w K mg D):Ok P w K mg base 4 D.vH ["self", "h", "word"] (yz D):=by
 refine T.o3 "Hands.put" t6 λcdv A' outer s' H vs Q E hr h=>?_;obtain⟨hd,hdx,hl,xs,ws,v,h,rfl,N,hb,k⟩:=h;refine⟨_,(ai (az ((bB T).c hr px (aa (pv 1) aq)))
  (ak (qc (pv 2) (rR (aB (pv 0) rfl) (pv 1) set_list)))),?_⟩
 refine⟨_,rfl,h,rfl,hb,?_⟩;by_cases g:0≤h∧h<8
 ·rw[if_pos g]at k ⊢
  exact⟨_,rfl,_,rfl,hd,D.cC,hdx,_,.ref hl,rfl,N.i,T.aM,T.n,rfl,_,rfl,hl,xs,h,h.toNat,rfl,rfl,N.l,N.ix g,k⟩
 ·rw[if_neg g]at k ⊢
  exact k
noncomputable def AR(D:Ad):Sp:=λvs H Q E=>∃ hd hdx hl xs ws,∃ h g:Int,vs=[.ref hd,.int h,.int g]∧Hn D H hd hdx hl xs ws∧Sm h∧Sm g∧(if 0≤h∧h<8 then(match wat ws g with|some wd=>∀ v,WV H v wd→Q .non (upd H hl (.lst (xs.set h.toNat v)))|none=>Bad D.ba H E) else Bad D.ba H E)
noncomputable abbrev t7:List Str:=["self", "h", "g"]
theorem sA:au t7 ["self", "h", "g"] (aj tP):=fsc
theorem sC(T:Txt w K mg D):Ok P w K mg base 5 D.tU ["self", "h", "g"] (AR D):=by
 refine T.o3 "Hands.copy" sA λcdv A' outer s' H vs Q E hr h=>?_;obtain⟨hd,hdx,hl,xs,ws,h,g,rfl,N,hb,hg,k⟩:=h;refine⟨_,(ai (az ((bB T).c hr px (aa (pv 1) aq)))
  (ak (qc ((dP T).m T.aM hr (pv 0) px (aa (pv 2) aq)) (rR (aB (pv 0) rfl) (pv 1) set_list)))),?_⟩
 refine⟨_,rfl,h,rfl,hb,?_⟩;by_cases c:0≤h∧h<8
 ·rw[if_pos c]at k ⊢
  refine⟨_,rfl,hd,hdx,_,rfl,N.i,rfl,_,rfl,hd,hdx,hl,xs,ws,g,rfl,N,hg,?_⟩;cases e:wat ws g with
  | none =>
   rw[e]at k;exact k
  | some wd =>
   rw[e]at k;exact λv hv wv=>⟨_,rfl,hd,D.cC,hdx,_,.ref hl,rfl,N.i,T.aM,T.n,rfl,_,rfl,hl,xs,h,h.toNat,rfl,rfl,N.l,N.ix c,k v wv⟩
 ·rw[if_neg c]at k ⊢
  exact k
noncomputable def xI(D:Ad):Sp:=λvs H Q E=>∃ hd hdx hl xs ws,∃ h x:Int,vs=[.ref hd,.int h,.int x]∧Hn D H hd hdx hl xs ws∧Sm h∧Sm x∧(if 0≤h∧h<8 then(if Num x then ∀ t H',ay H H'→H' t=some (.tup [.str "number",.int x])→Q .non (upd H' hl (.lst (xs.set h.toNat (.ref t)))) else Bad D.bo H E) else Bad D.ba H E)
noncomputable abbrev qB:List Str:=["self", "h", "x"]
theorem pY:au qB ["self", "h", "x"] (aj qq):=fsc
theorem pZ(T:Txt w K mg D):Ok P w K mg base 5 D.qv ["self", "h", "x"] (xI D):=by
 refine T.o3 "Hands.number" pY λcdv A' outer s' H vs Q E hr h=>?_;obtain⟨hd,hdx,hl,xs,ws,h,x,rfl,N,hb,hx,k⟩:=h;refine⟨_,(ai (az ((bB T).c hr px (aa (pv 1) aq)))
  (ak (qc ((pW T).c hr px (aa (pv 2) aq)) (rR (aB (pv 0) rfl) (pv 1) set_list)))),?_⟩
 refine⟨_,rfl,h,rfl,hb,?_⟩;by_cases c:0≤h∧h<8
 ·rw[if_pos c]at k ⊢
  refine⟨_,rfl,x,rfl,hx,?_⟩;by_cases g:Num x
  ·rw[if_pos g]at k ⊢
   intro t H' sH ht;have N':=N.same sH;exact⟨_,rfl,hd,D.cC,hdx,_,.ref hl,rfl,N'.i,T.aM,T.n,rfl,_,rfl,hl,xs,h,h.toNat,rfl,rfl,N'.l,N'.ix c,k t H' sH ht⟩
  ·rw[if_neg g]at k ⊢
   exact k
 ·rw[if_neg c]at k ⊢
  exact k
noncomputable def AS(D:Ad):Sp:=λvs H Q E=>∃ hd hdx hl xs ws,∃ h:Int,vs=[.ref hd,.int h]∧Hn D H hd hdx hl xs ws∧Sm h∧(match wat ws h with|some wd=>∀ H',ay H H'→Q (.str wd.kind) H'|none=>Bad D.ba H E)
noncomputable abbrev t8:List Str:=["self", "h", "kind"]
theorem jI:au t8 ["self", "h"] (aj tQ):=fsc
theorem sD(T:Txt w K mg D):Ok P w K mg base 5 D.tV ["self", "h"] (AS D):=by
 refine T.o2 "Hands.kind" jI λcdv A' outer s' H vs Q E hr h=>?_;obtain⟨hd,hdx,hl,xs,ws,h,rfl,N,hb,k⟩:=h;refine⟨_,(ai (aD (i:=2) jI.nd rfl (Or.inl rfl) ((kA T).c hr px (aa ((dP T).m T.aM hr (pv 0) px (aa (pv 1) aq)) aq)))
  (ak (aG (iY (aE tD (pv 2) (dU (aa fM (aa fM aq))) (by with_unfolding_all rfl)) (pv 2) fM)))),?_⟩
 refine⟨_,rfl,hd,hdx,_,rfl,N.i,rfl,_,rfl,hd,hdx,hl,xs,ws,h,rfl,N,hb,?_⟩;cases e:wat ws h with
 | none =>
  rw[e]at k;exact k
 | some wd =>
  rw[e]at k;intro v hv wv;refine⟨v,wd,rfl,wv,?_⟩;cases wd with
  | no=>exact⟨_,rfl,by show 2≤sizeLine;decide,λt ht=>⟨t,_,rfl,.inr (SqT.of ag),rfl,rfl,_,rfl,bu (λ_=>⟨_,rfl,k _ (ay.upd ht)⟩) (λh=>absurd (by kernel_rfl) h)⟩⟩
  | num n=>exact⟨_,rfl,by show 2≤sizeLine;decide,λt ht=>⟨t,_,rfl,.inr (SqT.of ag),rfl,rfl,_,rfl,bu (λ_=>⟨_,rfl,k _ (ay.upd ht)⟩) (λh=>absurd (by kernel_rfl) h)⟩⟩
  | th n=>exact⟨_,rfl,by show 2≤sizeLine;decide,λt ht=>⟨t,_,rfl,.inr (SqT.of ag),rfl,rfl,_,rfl,bu (λh=>absurd h (NM.mp (by kernel_rfl))) (λ_=>k _ (ay.upd ht))⟩⟩
noncomputable def t9(D:Ad):Sp:=λvs H Q E=>∃ hd hdx hl xs ws,∃ h:Int,vs=[.ref hd,.int h]∧Hn D H hd hdx hl xs ws∧Sm h∧(match wat ws h with|some (.th x)=>∀ H',ay H H'→Q (.int x) H'|_=>Bad D.ba H E)
noncomputable abbrev lF:List Str:=["self", "h"]
theorem jY:au lF ["self", "h"] (aj kG):=fsc
theorem b9(T:Txt w K mg D):Ok P w K mg base 6 D.kX ["self", "h"] (t9 D):=by
 refine T.o2 "Hands.thing_due" jY λcdv A' outer s' H vs Q E hr h=>?_;obtain⟨hd,hdx,hl,xs,ws,h,rfl,N,hb,k⟩:=h;refine⟨_,(ai (a6 (aE Co ((sD T).m T.aM hr (pv 0) px (aa (pv 1) aq)) fM (aO _))
   (ak (b0 rfl dW ((aA T).e D.ba hr px (aa (dw (aQ cJ (aQ (eJ (pv 1)) (aQ cJ dv)))) aq))))
   aI)
  (ak (aG (a7 aX (a7 dr (aB (pv 0) rfl) (pv 1) (λ_ _=>rfl)) ar (λ_ _=>rfl))))),?_⟩
 refine⟨_,rfl,hd,hdx,_,rfl,N.i,rfl,_,rfl,hd,hdx,hl,xs,ws,h,rfl,N,hb,?_⟩;cases e:wat ws h with
 | none =>
  rw[e]at k;exact k
 | some wd =>
  rw[e]at k;cases wd with
  | no=>exact λH1 s1=>⟨rfl,_,rfl,bu (λ_=>⟨_,rfl,h,rfl,hb,λy hy ea hea=>bq (T.ec D.ba) (λ_ q=>ay.none s1 q) (Bad.same k s1) ea hea⟩) (λh=>absurd (by kernel_rfl) h)⟩
  | num n =>
   exact λH1 s1=>⟨rfl,_,rfl,bu (λ_=>⟨_,rfl,h,rfl,hb,λy hy ea hea=>bq (T.ec D.ba) (λ_ q=>ay.none s1 q) (Bad.same k s1) ea hea⟩) (λh=>absurd (by kernel_rfl) h)⟩
  | th n =>
   intro H1 s1;have N1:=N.same s1;obtain⟨v,hv,wv⟩:=N1.at_ e;obtain⟨h0,h1,_⟩:=i9 e;obtain⟨t,rfl,ht⟩:=wv;exact⟨rfl,_,rfl,bu (λh=>absurd h (NM.mp (by kernel_rfl))) (λ_=>⟨_,rfl,hd,D.cC,hdx,_,.ref hl,rfl,N1.i,T.aM,T.n,rfl,_,rfl,hl,xs,h,.ref t,rfl,rfl,SqL.of N1.l,uZ h0 hv,t,_,1,.int n,rfl,rfl,SqT.of ht,rfl,k H1 s1⟩)⟩
noncomputable def uc(D:Ad):Sp:=λvs H Q E=>∃ hd hdx hl xs ws,vs=[.ref hd]∧Hn D H hd hdx hl xs ws∧∀ p H',ay H H'→H p=none→H' p=some (.lst xs)→Q (.ref p) H'
noncomputable abbrev lG:List Str:=["self"]
theorem jZ:au lG ["self"] (aj kF):=fsc
theorem cZ(T:Txt w K mg D):Ok P w K mg base 1 D.kU ["self"] (uc D):=by
 refine T.o1 "Hands.all_words" jZ λcdv A' outer s' H vs Q E hr h=>?_;obtain⟨hd,hdx,hl,xs,ws,rfl,N,k⟩:=h;refine⟨_,(ak (aG (cM cK rfl T.z PyProof.Rows.Boot.«list» (aa (aB (pv 0) rfl) aq)))),?_⟩;exact⟨_,rfl,hd,D.cC,hdx,_,.ref hl,rfl,N.i,T.aM,T.n,rfl,hl,xs,rfl,.inl (SqL.of N.l),λp hp=>k p _ (ay.upd hp) hp ag⟩
noncomputable def AU(D:Ad):Sp:=λvs H Q E=>∃ nt ntx nl xs v,∃ w:Int,vs=[.ref nt,.int w,v]∧Nt D H nt ntx nl xs∧Sm w∧(if 0≤w∧w<8 then Q .non (upd H nl (.lst (xs.set w.toNat v))) else Bad D.cN H E)
noncomputable abbrev oe:List Str:=["self", "w", "t"]
theorem lH:au oe ["self", "w", "t"] (aj nE):=fsc
theorem lI(T:Txt w K mg D):Ok P w K mg base 4 D.nO ["self", "w", "t"] (AU D):=by
 refine T.o3 "NameTable.name" lH λcdv A' outer s' H vs Q E hr h=>?_;obtain⟨nt,ntx,nl,xs,v,w,rfl,N,hb,k⟩:=h;refine⟨_,(ai (az ((gK T).c hr px (aa (pv 1) aq)))
  (ak (qc (pv 2) (rR (aB (pv 0) rfl) (pv 1) set_list)))),?_⟩
 refine⟨_,rfl,w,rfl,hb,?_⟩;by_cases g:0≤w∧w<8
 ·rw[if_pos g]at k ⊢
  exact⟨_,rfl,_,rfl,nt,D.aK,ntx,_,.ref nl,rfl,N.i,T.bh,T.n,rfl,_,rfl,nl,xs,w,w.toNat,rfl,rfl,N.l,CB g.1 (by rw[N.n];exact g.2),k⟩
 ·rw[if_neg g]at k ⊢
  exact k
noncomputable def AV(D:Ad):Sp:=λvs H Q E=>∃ nt ntx nl xs,∃ w:Int,vs=[.ref nt,.int w]∧Nt D H nt ntx nl xs∧Sm w∧(if 0≤w∧w<8 then ∀ v,xs[w.toNat]?=some v→Q v H else Bad D.cN H E)
noncomputable abbrev lJ:List Str:=["self", "w"]
theorem j1:au lJ ["self", "w"] (aj kH):=fsc
theorem j2(T:Txt w K mg D):Ok P w K mg base 4 D.kY ["self", "w"] (AV D):=by
 refine T.o2 "NameTable.named" j1 λcdv A' outer s' H vs Q E hr h=>?_;obtain⟨nt,ntx,nl,xs,w,rfl,N,hb,k⟩:=h;refine⟨_,(ai (az ((gK T).c hr px (aa (pv 1) aq)))
  (ak (aG (a7 dr (aB (pv 0) rfl) (pv 1) (λ_ _=>rfl))))),?_⟩
 refine⟨_,rfl,w,rfl,hb,?_⟩;by_cases g:0≤w∧w<8
 ·rw[if_pos g]at k ⊢
  have hv:xs[w.toNat]?=some (xs[w.toNat]'(by rw[N.n];omega)):=MP _;exact⟨_,rfl,nt,D.aK,ntx,_,.ref nl,rfl,N.i,T.bh,T.n,rfl,_,rfl,nl,xs,w,_,rfl,rfl,SqL.of N.l,uZ g.1 hv,k _ hv⟩
 ·rw[if_neg g]at k ⊢
  exact k
noncomputable def lK(D:Ad):Sp:=λvs H Q _=>∃ m dx,vs=[.ref m]∧H m=some (.ins D.aW dx [])∧∀ b c H',But m H H'→H b=none→H c=none→Wt D H' m dx b c [] []→Q .non H'
noncomputable abbrev iy:List Str:=["self"]
theorem gZ:au iy ["self"] (aj ib):=fsc
theorem dI(T:Txt w K mg D):Ok P w K mg base 1 D.ip ["self"] (lK D):=by
 refine T.o1 "WordTable.__init__" gZ λcdv A' outer s' H vs Q E hr h=>?_;obtain⟨m,dx,rfl,hm,k⟩:=h;refine⟨_,(ai (cj (pv 0) bY rfl)
  (ak (cj (pv 0) (fP aq) rfl))),?_⟩
 intro p hp;have np:m≠p:=ao hm hp;refine⟨_,rfl,m,D.aW,dx,[],rfl,(by rw[ab np];exact hm),T.aY,T.n,by decide,?_⟩;refine⟨by show 0≤sizeLine;decide,λq hq=>?_⟩;have nq:m≠q:=ao ag hq;have qp:q≠p:=λe=>by rw[e,ab (Nv np),ag]at hq;cases hq
 have hq0:H q=none:=by rw[ab (Nv nq),ab qp]at hq;exact hq
 refine⟨_,rfl,m,D.aW,dx,_,rfl,(by rw[ab nq];exact ag),T.aY,T.n,by show 1<1000;decide,?_⟩;refine k p q _ ((((But.upd hp).trans But.self).trans (λb u n h=>by rw[ab λe=>by rw[e]at h;rw[h]at hq;cases hq];exact h)).trans But.self) hp hq0 ⟨ag,?_,?_⟩
 ·rw[ab (Nv np),ab (Nv qp),ab (Nv np),ag]
  rfl
 ·rw[ab (Nv nq),ag]
  rfl
noncomputable def Df(D:Ad):Sp:=λvs H Q E=>∃ wt wtx wb wl bs zs,∃ t x:Int,vs=[.ref wt,.int t,.int x]∧Wt D H wt wtx wb wl bs zs∧bs.length≤12∧(if bs.lookup t=none∧12≤bs.length then Bad D.cG H E else Q .non (upd H wb (.dK ((tJ bs t x).map bkv))))
noncomputable abbrev oh:List Str:=["self", "t", "x"]
theorem lL:au oh ["self", "t", "x"] (aj nD):=fsc
theorem lM(T:Txt w K mg D):Ok P w K mg base 3 D.nN ["self", "t", "x"] (Df D):=by
 refine T.o3 "WordTable.bear" lL λcdv A' outer s' H vs Q E hr h=>?_;obtain⟨wt,wtx,wb,wl,bs,zs,t,x,rfl,N,hn,k⟩:=h;have hu:=b7 hr;refine⟨_,(ai (a6 (PW.pt (pw_and (cR (bV hu (pv 1) (aB (pv 0) rfl)) (by with_unfolding_all rfl)) (pw_and1 (aE IM (aP zA rfl T.z PyProof.Rows.Boot.«len» (aa (aB (pv 0) rfl) aq)) (dN (v:=.int 12) rfl T.iS ⟨_,rfl⟩) (aO _)))))
   (ak (b0 rfl dW ((aA T).e D.cG hr px (aa (dw (aQ (eJ (dN (v:=.int 12) rfl T.iS ⟨_,rfl⟩)) (aQ cJ dv))) aq))))
   aI)
  (ak (cH hu (aB (pv 0) rfl) (pv 1) (pv 2) rfl))),?_⟩
 have hu:=b7 hr;refine⟨_,rfl,_,rfl,wt,D.aW,wtx,_,.ref wb,rfl,N.i,T.aY,T.n,rfl,wb,_,rfl,eK.k (k:=Sum.inl t) N.b,_,rfl,?_⟩;rw[Il,Ow];cases e:bs.lookup t with
 | some v =>
  rw[if_neg (λz=>by rw[e]at z;cases z.1)]at k;exact b8 ⟨_,rfl,_,rfl,wt,D.aW,wtx,_,.ref wb,rfl,N.i,T.aY,T.n,rfl,_,rfl,wb,_,rfl,jx.k (k:=Sum.inl t) N.b (by rw[MN];exact NQ hn (by decide)),by rw[wM]at k;exact k⟩
 | none =>
  refine dt ⟨_,rfl,wt,D.aW,wtx,_,.ref wb,rfl,N.i,T.aY,T.n,rfl,wb,_,rfl,N.b,_,_,rfl,rfl,_,rfl,bu (λh=>?_) (λh=>?_)⟩
  ·rw[MN]at h
   have h:=of_decide_eq_true h;rw[if_pos ⟨e,by omega⟩]at k;exact⟨12,rfl,Sm.of (by decide) (by decide),λy hy ea hea=>bq (T.ec D.cG) (λ_ q=>q) k ea hea⟩
  ·rw[MN]at h
   have h:¬((12:Int)≤(bs.length:Int)):=λz=>h (decide_eq_true z);rw[if_neg (λz=>h (by have:=z.2;omega))]at k;exact⟨_,rfl,_,rfl,wt,D.aW,wtx,_,.ref wb,rfl,N.i,T.aY,T.n,rfl,_,rfl,wb,_,rfl,jx.k (k:=Sum.inl t) N.b (by rw[MN];exact NQ hn (by decide)),by rw[wM]at k;exact k⟩
noncomputable def fld(s:HS)(t:Int):List Wd:=(s.aC.lookup t).getD []
structure Good(s:HS):Prop where
 h8:s.aL.length=8
 n8:s.names.length=8
 asc:(s.aC.map (·.1)).Pairwise (·< ·)
 lt:∀ t ws,(t,ws)∈s.aC→0≤t∧t<s.nxt
 f6:∀ t ws,(t,ws)∈s.aC→ws.length≤6
 hh:∀ t,Wd.th t∈s.aL→∃ ws,(t,ws)∈s.aC
 ff:∀ u ws t,(u,ws)∈s.aC→Wd.th t∈ws→∃ ws',(t,ws')∈s.aC
 nn:∀ t,some t∈s.names→∃ ws,(t,ws)∈s.aC
 b12:s.aR.length≤12
 bk:∀ t x,(t,x)∈s.aR→∃ ws,(t,ws)∈s.aC
 bnd:(s.aR.map (·.1)).Nodup
 n0:0≤s.nxt
 nx:s.nxt≤10000
 sd:(s.hV.length:Int)+s.aC.length≤s.nxt
 yk:∀ t∈s.yng,∃ ws,(t,ws)∈s.aC
 qi:s.yng.Pairwise (·< ·)
 dk:∀ t∈s.aF,∃ ws,(t,ws)∈s.aC
 pB:s.aF.Pairwise (·< ·)
theorem mem_lookup{α:Type}{fs:List (Int×α)}{t:Int}{w:α}(asc:(fs.map (·.1)).Nodup)(m:(t,w)∈fs):fs.lookup t=some w:=by
 induction fs with
 | nil=>cases m
 | cons p r ih =>
  obtain⟨a,b⟩:=p;rw[Nz,Oc]at asc;rw[NN];rcases Nk.mp m with e|m
  ·cases e
   rw[beq_self_eq_true]
  ·have ne:t≠a:=λe=>asc.1 (by rw[←e];exact Nc.mpr ⟨_,m,rfl⟩)
   rw[beq_eq_false_iff_ne.mpr ne];exact ih asc.2 m
theorem br{l:List Int}(h:l.Pairwise (·< ·)):l.Nodup:=h.imp λh=>Int.ne_of_lt h
theorem Good.get{s:HS}(g:Good s){t:Int}{ws:List Wd}(m:(t,ws)∈s.aC):s.aC.lookup t=some ws:=mem_lookup (br g.asc) m
theorem Good.fld{s:HS}(g:Good s){t:Int}{ws:List Wd}(m:(t,ws)∈s.aC):fld s t=ws:=by unfold K72.fld;rw[g.get m];rfl
theorem Good.hand{s:HS}(g:Good s){h t:Int}(e:wat s.aL h=some (.th t)):(t,K72.fld s t)∈s.aC:=by
 obtain⟨_,_,e⟩:=i9 e;obtain⟨ws,m⟩:=g.hh t (Na e);rw[g.fld m];exact m
theorem Good.few{s:HS}(g:Good s):s.aC.length≤10000:=by
 have:=g.sd
 have:=g.nx
 omega
theorem iB{n:Nat}(h:n≤20000):n<sizeLine:=NQ h (by decide)
theorem fe{n:Nat}(h:n≤20000):n≤sizeLine:=OP (iB h)
inductive Er where
 | hand|name|field|count|room|words|on|no
noncomputable def Ad.er(D:Ad):Er→Addr
 | .hand=>D.ba
 | .name=>D.cN
 | .field=>D.dX
 | .count=>D.bo
 | .room=>D.mU
 | .words=>D.cG
 | .on=>D.jr
 | .no=>D.js
noncomputable abbrev Re:=Option Er×HS
noncomputable def Fin(D:Ad)(x:Addr)(A:HA)(s:HS)(H:Hp)(r:Re)(Q:VK)(E:XK):Prop:=∀ A' H',IH D H' x A' r.2→Fr (aJ x A s) H (aJ x A' r.2) H'→(match r.1 with|none=>Q .non H'|some e=>E (.ref (D.er e)) none H')
theorem Fin.bad{D:Ad}{x:Addr}{A:HA}{s:HS}{H:Hp}{e:Er}{Q:VK}{E:XK}(k:Fin D x A s H (some e,s) Q E)(J:IH D H x A s):Bad (D.er e) H E:=λH' s'=>k A H' (J.same s') (Fr.same s')
noncomputable abbrev ok8(h:Int):Prop:=0≤h∧h<8
noncomputable def eR(s:HS)(h:Int)(w:Wd):HS:={s with aL:=s.aL.set h.toNat w}
noncomputable def bP(s:HS)(h g k:Int):Re:=if ok8 h then(match wat s.aL g with|some (.th t)=>if 0≤k∧k<((fld s t).length:Int) then(none,eR s h ((fld s t).getD k.toNat .no)) else(some .field,s)|_=>(some .hand,s)) else(some .hand,s)
noncomputable def a8(s:HS)(g k h:Int):Re:=match wat s.aL g with|some (.th t)=>(match wat s.aL h with|some w=>if 0≤k∧k<((fld s t).length:Int) then(none,{s with aC:=dz s.aC t ((fld s t).set k.toNat w)}) else(some .field,s)|none=>(some .hand,s))|_=>(some .hand,s)
noncomputable def cF(s:HS)(h g:Int):Re:=if ok8 h then(match wat s.aL g with|some w=>(none,eR s h w)|none=>(some .hand,s)) else(some .hand,s)
noncomputable def cO(s:HS)(h:Int):Re:=if ok8 h then(none,eR s h .no) else(some .hand,s)
noncomputable def aZ(s:HS)(h x:Int):Re:=if ok8 h then(if Num x then(none,eR s h (.num x)) else(some .count,s)) else(some .hand,s)
noncomputable def bH(s:HS)(w h:Int):Re:=match wat s.aL h with|some (.th t)=>if ok8 w then(none,{s with names:=s.names.set w.toNat (some t)}) else(some .name,s)|_=>(some .hand,s)
noncomputable def nmW:Option Int→Wd
 | none=>.no
 | some t=>.th t
noncomputable def bQ(s:HS)(h x:Int):Re:=match wat s.aL h with|some (.th t)=>(if Num x then(if s.aR.lookup t=none∧12≤s.aR.length then(some .words,s) else(none,{s with aR:=tJ s.aR t x})) else(some .count,s))|_=>(some .hand,s)
noncomputable def tK(s:HS)(h n:Int):HS:={s with nxt:=s.nxt+1,aC:=s.aC++[(s.nxt,List.replicate n.toNat .no)],yng:=if s.my=true then s.yng++[s.nxt] else s.yng,aL:=s.aL.set h.toNat (.th s.nxt)}
noncomputable def wsum(s:HS)(ts:List Int):Int:=(ts.map λt=>((fld s t).length:Int)+1).sum
section
variable{D:Ad}{H:Hp}{x:Addr}{A:HA}{s:HS}
theorem IH.hn(J:IH D H x A s)(g:Good s):Hn D H A.hd A.hdx A.hl A.hx s.aL:=⟨J.ahd,J.ahl,J.rhl,g.h8⟩
theorem IH.ntb(J:IH D H x A s)(g:Good s):Nt D H A.nt A.ntx A.nl (s.names.map nmV):=⟨J.ant,J.anl,by rw[MN];exact g.n8⟩
theorem IH.wtb(J:IH D H x A s):Wt D H A.wt A.wtx A.wb A.wl s.aR s.hV:=⟨J.awt,J.awb,J.awl⟩
theorem BQ{A:HA}{fs:List (Int×List Wd)}{t:Int}:cE (fs.map (fkv A)) (Sum.inl t)=(fs.lookup t).map λ_=>V.ref (A.fa t):=qO λ_=>rfl
theorem IH.Im(J:IH D H x A s)(g:Good s){t:Int}{ws:List Wd}(m:(t,ws)∈s.aC):eK H A.fh (.int t) (some (.ref (A.fa t))):=by
 have:=eK.k (k:=Sum.inl t) J.afh
 rw[BQ,g.get m]at this;exact this
end
noncomputable def Dg(D:Ad):Sp:=λvs H Q E=>∃ x A s,∃ h g:Int,vs=[.ref x,.int h,.int g]∧IH D H x A s∧Good s∧Sm h∧Sm g∧Fin D x A s H (cF s h g) Q E
noncomputable abbrev vS:List Str:=["self", "h", "g"]
theorem ud:au vS ["self", "h", "g"] (aj vB):=fsc
theorem ue(T:Txt w K mg D):Ok P w K mg base 6 D.vJ ["self", "h", "g"] (Dg D):=by
 refine T.o3 "Heap.copy" ud λcdv A' outer s' H vs Q E hr h=>?_;obtain⟨x,A,s,h,g,rfl,J,G,hh,hg,k⟩:=h;refine⟨_,(ak (az ((sC T).m T.aM hr (aB (pv 0) rfl) px (aa (pv 1) (aa (pv 2) aq))))),?_⟩;refine⟨_,rfl,x,D.ah,_,_,.ref A.hd,rfl,J.ax,T.ae,T.n,gn,A.hd,A.hdx,_,rfl,J.ahd,rfl,_,rfl,_,rfl,A.hd,A.hdx,A.hl,A.hx,s.aL,h,g,rfl,J.hn G,hh,hg,?_⟩;by_cases c:ok8 h
 ·rw[if_pos c]
  cases e:wat s.aL g with
  | none =>
   rw[show cF s h g=(some .hand,s) by simp only[cF,if_pos c,e]]at k;exact k.bad J
  | some wd =>
   rw[show cF s h g=(none,eR s h wd) by simp only[cF,if_pos c,e]]at k;exact λv wv=>let w:=J.Ar (J.rhl.set (i:=h.toNat) wv);k _ _ w.1 w.2
 ·rw[if_neg c]
  rw[show cF s h g=(some .hand,s) by simp only[cF,if_neg c]]at k;exact k.bad J
noncomputable def Dh(D:Ad):Sp:=λvs H Q E=>∃ x A s,∃ h:Int,vs=[.ref x,.int h]∧IH D H x A s∧Good s∧Sm h∧Fin D x A s H (cO s h) Q E
noncomputable abbrev vT:List Str:=["self", "h"]
theorem uf:au vT ["self", "h"] (aj vC):=fsc
theorem ug(T:Txt w K mg D):Ok P w K mg base 5 D.vK ["self", "h"] (Dh D):=by
 refine T.o2 "Heap.drop" uf λcdv A' outer s' H vs Q E hr h=>?_;obtain⟨x,A,s,h,rfl,J,G,hh,k⟩:=h;refine⟨_,(ak (az ((eM T).m T.aM hr (aB (pv 0) rfl) px (aa (pv 1) (aa bK aq))))),?_⟩;refine⟨_,rfl,x,D.ah,_,_,.ref A.hd,rfl,J.ax,T.ae,T.n,gn,A.hd,A.hdx,_,rfl,J.ahd,rfl,_,rfl,A.hd,A.hdx,A.hl,A.hx,s.aL,.non,h,rfl,J.hn G,hh,?_⟩;by_cases c:ok8 h
 ·rw[if_pos c]
  rw[show cO s h=(none,eR s h .no) by simp only[cO,if_pos c]]at k;exact let w:=J.Ar (J.rhl.set (i:=h.toNat) (show WV H .non .no from rfl));k _ _ w.1 w.2
 ·rw[if_neg c]
  rw[show cO s h=(some .hand,s) by simp only[cO,if_neg c]]at k;exact k.bad J
noncomputable def zP(D:Ad):Sp:=λvs H Q E=>∃ x A s,∃ h z:Int,vs=[.ref x,.int h,.int z]∧IH D H x A s∧Good s∧Sm h∧Sm z∧Fin D x A s H (aZ s h z) Q E
noncomputable abbrev sE:List Str:=["self", "h", "x"]
theorem qC:au sE ["self", "h", "x"] (aj rZ):=fsc
theorem qD(T:Txt w K mg D):Ok P w K mg base 6 D.sk ["self", "h", "x"] (zP D):=by
 refine T.o3 "Heap.number" qC λcdv A' outer s' H vs Q E hr h=>?_;obtain⟨x,A,s,h,z,rfl,J,G,hh,hz,k⟩:=h;refine⟨_,(ak (az ((pZ T).m T.aM hr (aB (pv 0) rfl) px (aa (pv 1) (aa (pv 2) aq))))),?_⟩;refine⟨_,rfl,x,D.ah,_,_,.ref A.hd,rfl,J.ax,T.ae,T.n,gn,A.hd,A.hdx,_,rfl,J.ahd,rfl,_,rfl,_,rfl,A.hd,A.hdx,A.hl,A.hx,s.aL,h,z,rfl,J.hn G,hh,hz,?_⟩;by_cases c:ok8 h
 ·rw[if_pos c]
  by_cases g:Num z
  ·rw[if_pos g]
   rw[show aZ s h z=(none,eR s h (.num z)) by simp only[aZ,if_pos c,if_pos g]]at k;exact λt H1 s1 ht=>let J1:=J.same s1;let w:=J1.Ar (J1.rhl.set (i:=h.toNat) (show WV H1 (.ref t) (.num z) from⟨t,rfl,ht⟩));k _ _ w.1 ((Fr.same s1).trans w.2)
  ·rw[if_neg g]
   rw[show aZ s h z=(some .count,s) by simp only[aZ,if_pos c,if_neg g]]at k;exact k.bad J
 ·rw[if_neg c]
  rw[show aZ s h z=(some .hand,s) by simp only[aZ,if_neg c]]at k;exact k.bad J
noncomputable def Di(D:Ad):Sp:=λvs H Q E=>∃ x A s,∃ w h:Int,vs=[.ref x,.int w,.int h]∧IH D H x A s∧Good s∧Sm w∧Sm h∧Fin D x A s H (bH s w h) Q E
noncomputable abbrev vU:List Str:=["self", "w", "h", "t"]
theorem l9:au vU ["self", "w", "h"] (aj vD):=fsc
theorem mh(T:Txt w K mg D):Ok P w K mg base 7 D.vL ["self", "w", "h"] (Di D):=by
 refine T.o3 "Heap.name" l9 λcdv A' outer s' H vs Q E hr h=>?_;obtain⟨x,A,s,w,h,rfl,J,G,hw,hh,k⟩:=h;refine⟨_,(ai (aD (i:=3) l9.nd rfl (Or.inl rfl) ((b9 T).m T.aM hr (aB (pv 0) rfl) px (aa (pv 2) aq)))
  (ak (az ((lI T).m T.bh hr (aB (pv 0) rfl) px (aa (pv 1) (aa (pv 3) aq)))))),?_⟩
 refine⟨_,rfl,x,D.ah,_,_,.ref A.hd,rfl,J.ax,T.ae,T.n,gn,A.hd,A.hdx,_,rfl,J.ahd,rfl,_,rfl,A.hd,A.hdx,A.hl,A.hx,s.aL,h,rfl,J.hn G,hh,?_⟩;cases e:wat s.aL h with
 | none =>
  rw[show bH s w h=(some .hand,s) by simp only[bH,e]]at k;exact k.bad J
 | some wd =>
  cases wd with
  | no =>
   rw[show bH s w h=(some .hand,s) by simp only[bH,e]]at k;exact k.bad J
  | num n =>
   rw[show bH s w h=(some .hand,s) by simp only[bH,e]]at k;exact k.bad J
  | th t =>
   intro H1 s1;have J1:=J.same s1;refine⟨_,rfl,x,D.ah,_,_,.ref A.nt,rfl,J1.ax,T.ae,T.n,Ah,A.nt,A.ntx,_,rfl,J1.ant,rfl,_,rfl,_,rfl,A.nt,A.ntx,A.nl,_,.int t,w,rfl,J1.ntb G,hw,?_⟩;by_cases c:ok8 w
   ·rw[if_pos c]
    rw[show bH s w h=(none,{s with names:=s.names.set w.toNat (some t)}) by simp only[bH,e,if_pos c]]at k;have w1:=J1.Md (ns:=s.names.set w.toNat (some t));rw[List.map_set]at w1;exact k _ _ w1.1 ((Fr.same s1).trans w1.2)
   ·rw[if_neg c]
    rw[show bH s w h=(some .name,s) by simp only[bH,e,if_neg c]]at k;exact Bad.same (k.bad J) s1
noncomputable def Dj(D:Ad):Sp:=λvs H Q E=>∃ x A s,∃ h z:Int,vs=[.ref x,.int h,.int z]∧IH D H x A s∧Good s∧Sm h∧Sm z∧Fin D x A s H (bQ s h z) Q E
noncomputable abbrev vV:List Str:=["self", "h", "x", "t"]
theorem mz:au vV ["self", "h", "x"] (aj vE):=fsc
theorem uh(T:Txt w K mg D):Ok P w K mg base 7 D.vM ["self", "h", "x"] (Dj D):=by
 refine T.o3 "Heap.word" mz λcdv A' outer s' H vs Q E hr h=>?_;obtain⟨x,A,s,h,z,rfl,J,G,hh,hz,k⟩:=h;refine⟨_,(ai (aD (i:=3) mz.nd rfl (Or.inl rfl) ((b9 T).m T.aM hr (aB (pv 0) rfl) px (aa (pv 1) aq)))
  (ai (az ((fB T).c hr px (aa (pv 2) aq)))
  (ak (az ((lM T).m T.aY hr (aB (pv 0) rfl) px (aa (pv 3) (aa (pv 2) aq))))))),?_⟩
 refine⟨_,rfl,x,D.ah,_,_,.ref A.hd,rfl,J.ax,T.ae,T.n,gn,A.hd,A.hdx,_,rfl,J.ahd,rfl,_,rfl,A.hd,A.hdx,A.hl,A.hx,s.aL,h,rfl,J.hn G,hh,?_⟩;cases e:wat s.aL h with
 | none =>
  rw[show bQ s h z=(some .hand,s) by simp only[bQ,e]]at k;exact k.bad J
 | some wd =>
  cases wd with
  | no =>
   rw[show bQ s h z=(some .hand,s) by simp only[bQ,e]]at k;exact k.bad J
  | num n =>
   rw[show bQ s h z=(some .hand,s) by simp only[bQ,e]]at k;exact k.bad J
  | th t =>
   intro H1 s1;have J1:=J.same s1;refine⟨_,rfl,z,rfl,hz,?_⟩;by_cases g:Num z
   ·rw[if_pos g]
    refine⟨_,rfl,x,D.ah,_,_,.ref A.wt,rfl,J1.ax,T.ae,T.n,Et,A.wt,A.wtx,_,rfl,J1.awt,rfl,_,rfl,_,rfl,A.wt,A.wtx,A.wb,A.wl,s.aR,s.hV,t,z,rfl,J1.wtb,G.b12,?_⟩;by_cases c:s.aR.lookup t=none∧12≤s.aR.length
    ·rw[if_pos c]
     rw[show bQ s h z=(some .words,s) by simp only[bQ,e,if_pos g,if_pos c]]at k;exact Bad.same (k.bad J) s1
    ·rw[if_neg c]
     rw[show bQ s h z=(none,{s with aR:=tJ s.aR t z}) by simp only[bQ,e,if_pos g,if_neg c]]at k;have w1:=J1.Km (bs:=tJ s.aR t z);exact k _ _ w1.1 ((Fr.same s1).trans w1.2)
   ·rw[if_neg g]
    rw[show bQ s h z=(some .count,s) by simp only[bQ,e,if_neg g]]at k;exact Bad.same (k.bad J) s1
noncomputable def Dk(D:Ad):Sp:=λvs H Q E=>∃ x A s,∃ h g kk:Int,vs=[.ref x,.int h,.int g,.int kk]∧IH D H x A s∧Good s∧Sm h∧Sm g∧Sm kk∧Fin D x A s H (bP s h g kk) Q E
noncomputable abbrev vW:List Str:=["self", "h", "g", "k", "fields"]
theorem mB:au vW ["self", "h", "g", "k"] (aj vA):=fsc
theorem ui(T:Txt w K mg D):Ok P w K mg base 7 D.vI ["self", "h", "g", "k"] (Dk D):=by
 refine T.o4 "Heap.load" mB λcdv A' outer s' H vs Q E hr h=>?_;obtain⟨x,A,s,h,g,kk,rfl,J,G,hh,hg,hk,k⟩:=h;have hu:=b7 hr;refine⟨_,(ai (az ((bB T).c hr px (aa (pv 1) aq)))
  (ai (aD (i:=4) mB.nd rfl (Or.inl rfl) (cS hu (aB (pv 0) rfl) ((b9 T).m T.aM hr (aB (pv 0) rfl) px (aa (pv 2) aq)) (λ_ _=>rfl)))
  (ai (az ((gf T).c hr px (aa (pv 3) (aa (aP bM rfl T.z PyProof.Rows.Boot.«len» (aa (pv 4) aq)) aq))))
  (ak (az ((eM T).m T.aM hr (aB (pv 0) rfl) px (aa (pv 1) (aa (a7 dr (pv 4) (pv 3) (λ_ _=>rfl)) aq)))))))),?_⟩
 refine⟨_,rfl,h,rfl,hh,?_⟩;by_cases c:ok8 h
 ·rw[if_pos c]
  refine⟨_,rfl,x,D.ah,_,_,.ref A.fh,rfl,J.ax,T.ae,T.n,gJ,_,rfl,x,D.ah,_,_,.ref A.hd,rfl,J.ax,T.ae,T.n,gn,A.hd,A.hdx,_,rfl,J.ahd,rfl,_,rfl,A.hd,A.hdx,A.hl,A.hx,s.aL,g,rfl,J.hn G,hg,?_⟩;cases e:wat s.aL g with
  | none =>
   rw[show bP s h g kk=(some .hand,s) by simp only[bP,e,if_pos c]]at k;exact k.bad J
  | some wd =>
   cases wd with
   | no =>
    rw[show bP s h g kk=(some .hand,s) by simp only[bP,e,if_pos c]]at k;exact k.bad J
   | num n =>
    rw[show bP s h g kk=(some .hand,s) by simp only[bP,e,if_pos c]]at k;exact k.bad J
   | th t =>
    intro H1 s1;have J1:=J.same s1;have m:=G.hand e;obtain⟨hl,rl⟩:=J1.afl _ _ m;refine⟨A.fh,_,rfl,J1.Im G m,?_⟩;have f6:=G.f6 _ _ m;have ln:((A.fx t).length:Int)=(fld s t).length:=(by rw[rl.1]);refine⟨_,rfl,_,rfl,A.fa t,_,rfl,.inl (SqL.of hl),kk,_,rfl,hk,Sm.of (by omega) (by omega),?_⟩;rw[ln];by_cases c2:0≤kk∧kk<((fld s t).length:Int)
    ·rw[if_pos c2]
     rw[show bP s h g kk=(none,eR s h ((fld s t).getD kk.toNat .no)) by simp only[bP,if_pos c,e,if_pos c2]]at k;have hi:kk.toNat<(fld s t).length:=(by omega);obtain⟨v,hv,wv⟩:=rl.get hi;have gd:(fld s t).getD kk.toNat .no=(fld s t)[kk.toNat]:=(by simp[List.getD,hi]);rw[gd]at k;refine⟨_,rfl,x,D.ah,_,_,.ref A.hd,rfl,J1.ax,T.ae,T.n,gn,A.hd,A.hdx,_,rfl,J1.ahd,rfl,_,rfl,_,rfl,_,rfl,A.fa t,_,kk,v,rfl,rfl,SqL.of hl,uZ c2.1 hv,A.hd,A.hdx,A.hl,A.hx,s.aL,v,h,rfl,J1.hn G,hh,?_⟩;rw[if_pos c];exact let w:=J1.Ar (J1.rhl.set (i:=h.toNat) wv);k _ _ w.1 ((Fr.same s1).trans w.2)
    ·rw[if_neg c2]
     rw[show bP s h g kk=(some .field,s) by simp only[bP,if_pos c,e,if_neg c2]]at k;exact Bad.same (k.bad J) s1
 ·rw[if_neg c]
  rw[show bP s h g kk=(some .hand,s) by simp only[bP,if_neg c]]at k;exact k.bad J
noncomputable def AW(D:Ad):Sp:=λvs H Q E=>∃ x A s,∃ g kk h:Int,vs=[.ref x,.int g,.int kk,.int h]∧IH D H x A s∧Good s∧Sm g∧Sm kk∧Sm h∧Fin D x A s H (a8 s g kk h) Q E
noncomputable abbrev uj:List Str:=["self", "g", "k", "h", "fields", "value"]
theorem fV:au uj ["self", "g", "k", "h"] (aj tR):=fsc
theorem sF(T:Txt w K mg D):Ok P w K mg base 7 D.tW ["self", "g", "k", "h"] (AW D):=by
 refine T.o4 "Heap.store" fV λcdv A' outer s' H vs Q E hr h=>?_;obtain⟨x,A,s,g,kk,h,rfl,J,G,hg,hk,hh,k⟩:=h;have hu:=b7 hr;refine⟨_,(ai (aD (i:=4) fV.nd rfl (Or.inl rfl) (cS hu (aB (pv 0) rfl) ((b9 T).m T.aM hr (aB (pv 0) rfl) px (aa (pv 1) aq)) (λ_ _=>rfl)))
  (ai (aD (i:=5) fV.nd rfl (Or.inl rfl) ((dP T).m T.aM hr (aB (pv 0) rfl) px (aa (pv 3) aq)))
  (ai (az ((gf T).c hr px (aa (pv 2) (aa (aP bM rfl T.z PyProof.Rows.Boot.«len» (aa (pv 4) aq)) aq))))
  (ak (qc (pv 5) (rR (pv 4) (pv 2) set_list)))))),?_⟩
 refine⟨_,rfl,x,D.ah,_,_,.ref A.fh,rfl,J.ax,T.ae,T.n,gJ,_,rfl,x,D.ah,_,_,.ref A.hd,rfl,J.ax,T.ae,T.n,gn,A.hd,A.hdx,_,rfl,J.ahd,rfl,_,rfl,A.hd,A.hdx,A.hl,A.hx,s.aL,g,rfl,J.hn G,hg,?_⟩;cases e:wat s.aL g with
 | none =>
  rw[show a8 s g kk h=(some .hand,s) by simp only[a8,e]]at k;exact k.bad J
 | some wd =>
  cases wd with
  | no =>
   rw[show a8 s g kk h=(some .hand,s) by simp only[a8,e]]at k;exact k.bad J
  | num n =>
   rw[show a8 s g kk h=(some .hand,s) by simp only[a8,e]]at k;exact k.bad J
  | th t =>
   intro H1 s1;have J1:=J.same s1;have m:=G.hand e;obtain⟨hl,rl⟩:=J1.afl _ _ m;refine⟨A.fh,_,rfl,J1.Im G m,?_⟩;refine⟨_,rfl,x,D.ah,_,_,.ref A.hd,rfl,J1.ax,T.ae,T.n,gn,A.hd,A.hdx,_,rfl,J1.ahd,rfl,_,rfl,A.hd,A.hdx,A.hl,A.hx,s.aL,h,rfl,J1.hn G,hh,?_⟩;cases e2:wat s.aL h with
   | none =>
    rw[show a8 s g kk h=(some .hand,s) by simp only[a8,e,e2]]at k;exact Bad.same (k.bad J) s1
   | some wd =>
    intro v hv wv;have f6:=G.f6 _ _ m;have ln:((A.fx t).length:Int)=(fld s t).length:=(by rw[rl.1]);refine⟨_,rfl,_,rfl,A.fa t,_,rfl,.inl (SqL.of hl),kk,_,rfl,hk,Sm.of (by omega) (by omega),?_⟩;rw[ln];by_cases c2:0≤kk∧kk<((fld s t).length:Int)
    ·rw[if_pos c2]
     rw[show a8 s g kk h=(none,{s with aC:=dz s.aC t ((fld s t).set kk.toNat wd)}) by simp only[a8,e,e2,if_pos c2]]at k;refine⟨_,rfl,_,rfl,_,rfl,A.fa t,_,kk,kk.toNat,rfl,rfl,hl,CB c2.1 (by omega),?_⟩;exact let w:=J1.Mh m (rl.set (i:=kk.toNat) wv);k _ _ w.1 ((Fr.same s1).trans w.2)
    ·rw[if_neg c2]
     rw[show a8 s g kk h=(some .field,s) by simp only[a8,e,e2,if_neg c2]]at k;exact Bad.same (k.bad J) s1
theorem qP{b:Bool}{A B:Prop}(h:b=false)(k:B):if b=true then A else B:=by rw[h];exact k
theorem xJ{b:Bool}{A B:Prop}(h:b=true)(k:A):if b=true then A else B:=by rw[h];exact k
theorem Dl(k:Nat):(List.replicate k [V.non]).flatten=List.replicate k .non:=by
 induction k with
 | zero=>rfl
 | succ k ih=>rw[N9,OH,ih,N9];rfl
noncomputable def keys(s:HS):List Int:=s.aC.map (·.1)
noncomputable def held(s:HS):Int:=wsum s (keys s)
structure Raw(D:Ad)(H:Hp)(x dx:Addr)(my:Bool)(hd hdx hl nt ntx nl wt wtx wb wl fh yg:Addr):Prop where
 ax:H x=some (.ins D.ah dx [("makes_young",.bl my),("in_hands",.ref hd),("weak_names",.ref nt),("last_words",.ref wt),("fields_held",.ref fh),("young_things",.ref yg),("next_thing",.int 0)])
 ahd:H hd=some (.ins D.cC hdx [("words_held",.ref hl)])
 ahl:H hl=some (.lst (List.replicate 8 .non))
 ant:H nt=some (.ins D.aK ntx [("things_named",.ref nl)])
 anl:H nl=some (.lst (List.replicate 8 .non))
 awt:Wt D H wt wtx wb wl [] []
 afh:H fh=some (.dK [])
 ayg:H yg=some (.dK [])
 n1:hd≠nt
 n2:hl≠nl
 n3:hl≠wl
 n4:nl≠wl
 n5:wb≠fh
 n6:wb≠yg
 n7:fh≠yg
noncomputable def s0(my:Bool)(room limit:Int):HS:=⟨my,List.replicate 8 .no,List.replicate 8 none,[],[],[],[],0,room,limit,[],false⟩
theorem good0{my:Bool}{room limit:Int}:Good (s0 my room limit) :=
 ⟨rfl,rfl,List.Pairwise.nil,(λ_ _ m=>by cases m),(λ_ _ m=>by cases m),(λt m=>by have:=Ob m;cases this),(λ_ _ _ m=>by cases m),(λt m=>by have:=Ob m;cases this),by show 0≤12;decide,(λ_ _ m=>by cases m),OA,by show(0:Int)≤0;decide,by show(0:Int)≤10000;decide,by show((0:Nat):Int)+((0:Nat):Int)≤0;decide,(λ_ m=>by cases m),List.Pairwise.nil,(λ_ m=>by cases m),List.Pairwise.nil⟩
noncomputable def uk(D:Ad):Sp:=λvs H Q E=>∃ x dx,∃ my:Bool,vs=[.ref x,.bl my]∧H x=some (.ins D.ah dx [])∧∀ hd hdx hl nt ntx nl wt wtx wb wl fh yg H',Raw D H' x dx my hd hdx hl nt ntx nl wt wtx wb wl fh yg→But x H H'→(∀ b,b=hd∨b=hl∨b=nt∨b=nl∨b=wt∨b=wb∨b=wl∨b=fh∨b=yg→H b=none)→Q .non H'
noncomputable abbrev p7:List Str:=["self", "makes_young"]
theorem oi:au p7 ["self", "makes_young"] (aj pJ):=fsc
theorem gh(T:Txt w K mg D):Ok P w K mg base 3 D.pN ["self", "makes_young"] (uk D):=by
 refine T.o2 "Heap.__init__" oi λcdv A' outer s' H vs Q E hr h=>?_;obtain⟨x,dx,my,rfl,hx,k⟩:=h;refine⟨_,(ai (cj (pv 0) (pv 1) rfl)
  (ai (cj (pv 0) (rp (T.mkk D.cC) (fD T).g (hr.mono (by decide)) rfl T.m (fD (P:=P) (base:=base) T).b .nil (Af λ_ _ _ q=>q)) rfl)
  (ai (cj (pv 0) (rp (T.mkk D.aK) (dH T).g (hr.mono (by decide)) rfl T.m (dH (P:=P) (base:=base) T).b .nil (Af λ_ _ _ q=>q)) rfl)
  (ai (cj (pv 0) (rp (T.mkk D.aW) (dI T).g (hr.mono (by decide)) rfl T.m (dI (P:=P) (base:=base) T).b .nil (Af λ_ _ _ q=>q)) rfl)
  (ai (cj (pv 0) bY rfl)
  (ai (cj (pv 0) bY rfl)
  (ak (cj (pv 0) ar rfl)))))))),?_⟩
 have bk:∀ {H':Hp} {b:Addr} {u:HO},H' x=some u→But x H H'→H' b=none→H b=none:=λ{H' b u} hx' B h=>by
  cases q:H b with
  | none=>rfl
  | some v =>
   by_cases e:b=x
   ·rw[e,hx']at h;cases h
   ·rw[B b v e q]at h;cases h
 have mk:∀ {H1 H2:Hp} {m mdx C:Addr},H1 m=none→H1 mdx=none→But m (upd (upd H1 mdx (.own m)) m (.ins C mdx [])) H2→ay H1 H2:=λh1 h2 B b u q=>B b u (ao q h1) (by rw[ab (ao q h1),ab (ao q h2)];exact q);have fr:∀ {H1:Hp} {m mdx C c:Addr},H1 m=none→H1 mdx=none→upd (upd H1 mdx (.own m)) m (.ins C mdx []) c=none→H1 c=none:=λ{H1 m mdx C c} h1 h2 h=>by
  cases q:H1 c with
  | none=>rfl
  | some v=>rw[ab (ao q h1),ab (ao q h2),q]at h;cases h
 refine⟨_,rfl,_,rfl,x,D.ah,dx,_,rfl,hx,T.ae,T.n,by show 0<1000;decide,?_⟩;obtain⟨H1,e1⟩:∃ H1,upd H x (.ins D.ah dx (cw "makes_young" (.bl my) []))=H1:=⟨_,rfl⟩;have x1:H1 x=some (.ins D.ah dx [("makes_young",.bl my)]):=by rw[←e1];exact ag
 have B1:But x H H1:=by rw[←e1];exact But.self
 show uw _ _ _ _ (upd H x (.ins D.ah dx (cw "makes_young" (.bl my) [])));rw[e1];clear e1;intro hd hdx hm1 hm2 hm3;refine⟨hd,hdx,rfl,ag,λhl G1 b1 hc hcl hci=>⟨rfl,?_⟩⟩;have S1:=mk hm1 hm2 b1;have hl1:=fr hm1 hm2 hc;refine⟨_,rfl,x,D.ah,dx,_,rfl,S1 _ _ x1,T.ae,T.n,by show 1<1000;decide,?_⟩;obtain⟨H2,e2⟩:∃ H2,upd G1 x (.ins D.ah dx (cw "in_hands" (.ref hd) [("makes_young",.bl my)]))=H2:=⟨_,rfl⟩;have x2:H2 x=some (.ins D.ah dx [("makes_young",.bl my),("in_hands",.ref hd)]):=by rw[←e2];exact ag
 have P2:But x G1 H2:=by rw[←e2];exact But.self
 have B2:But x H H2:=(B1.trans λb u _ q=>S1 b u q).trans P2;show uw _ _ _ _ (upd G1 x (.ins D.ah dx (cw "in_hands" (.ref hd) [("makes_young",.bl my)])));rw[e2];clear e2;have nhd:hd≠x:=Nv (ao x1 hm1);have nhl:hl≠x:=Nv (ao x1 hl1);have a2:=P2 _ _ nhd hci;have l2:=P2 _ _ nhl hcl;intro nt ntx nm1 nm2 nm3;refine⟨nt,ntx,rfl,ag,λnl G2 b2 nc ncl nci=>⟨rfl,?_⟩⟩;have S2:=mk nm1 nm2 b2;have nl2:=fr nm1 nm2 nc;refine⟨_,rfl,x,D.ah,dx,_,rfl,S2 _ _ x2,T.ae,T.n,by show 2<1000;decide,?_⟩;obtain⟨H3,e3⟩:∃ H3,upd G2 x (.ins D.ah dx (cw "weak_names" (.ref nt) [("makes_young",.bl my),("in_hands",.ref hd)]))=H3:=⟨_,rfl⟩;have x3:H3 x=some (.ins D.ah dx [("makes_young",.bl my),("in_hands",.ref hd),("weak_names",.ref nt)]):=by rw[←e3];exact ag
 have P3:But x G2 H3:=by rw[←e3];exact But.self
 have B3:But x H H3:=(B2.trans λb u _ q=>S2 b u q).trans P3;show uw _ _ _ _ (upd G2 x (.ins D.ah dx (cw "weak_names" (.ref nt) [("makes_young",.bl my),("in_hands",.ref hd)])));rw[e3];clear e3;have nnt:nt≠x:=Nv (ao x2 nm1);have nnl:nl≠x:=Nv (ao x2 nl2);have a3:=P3 _ _ nhd (S2 _ _ a2);have l3:=P3 _ _ nhl (S2 _ _ l2);have t3:=P3 _ _ nnt nci;have m3:=P3 _ _ nnl ncl;intro wt wtx wm1 wm2 wm3;refine⟨wt,wtx,rfl,ag,λwb wl G3 b3 wc1 wc2 W=>⟨rfl,?_⟩⟩;have S3:=mk wm1 wm2 b3;have wb3:=fr wm1 wm2 wc1;have wl3:=fr wm1 wm2 wc2;refine⟨_,rfl,x,D.ah,dx,_,rfl,S3 _ _ x3,T.ae,T.n,by show 3<1000;decide,?_⟩;obtain⟨H4,e4⟩:∃ H4,upd G3 x (.ins D.ah dx (cw "last_words" (.ref wt) [("makes_young",.bl my),("in_hands",.ref hd),("weak_names",.ref nt)]))=H4:=⟨_,rfl⟩;have x4:H4 x=some (.ins D.ah dx [("makes_young",.bl my),("in_hands",.ref hd),("weak_names",.ref nt),("last_words",.ref wt)]):=by rw[←e4];exact ag
 have P4:But x G3 H4:=by rw[←e4];exact But.self
 have B4:But x H H4:=(B3.trans λb u _ q=>S3 b u q).trans P4;show uw _ _ _ _ (upd G3 x (.ins D.ah dx (cw "last_words" (.ref wt) [("makes_young",.bl my),("in_hands",.ref hd),("weak_names",.ref nt)])));rw[e4];clear e4;have nwt:wt≠x:=Nv (ao x3 wm1);have nwb:wb≠x:=Nv (ao x3 wb3);have nwl:wl≠x:=Nv (ao x3 wl3);have W4:Wt D H4 wt wtx wb wl [] []:=⟨P4 _ _ nwt W.i,P4 _ _ nwb W.b,P4 _ _ nwl W.l⟩;have a4:=P4 _ _ nhd (S3 _ _ a3);have l4:=P4 _ _ nhl (S3 _ _ l3);have t4:=P4 _ _ nnt (S3 _ _ t3);have m4:=P4 _ _ nnl (S3 _ _ m3);intro fh hfh;have nfh:fh≠x:=Nv (ao x4 hfh);refine⟨_,rfl,x,D.ah,dx,_,rfl,ay.upd hfh _ _ x4,T.ae,T.n,by show 4<1000;decide,?_⟩;obtain⟨H5,e5⟩:∃ H5,upd (upd H4 fh (.dK [])) x (.ins D.ah dx (cw "fields_held" (.ref fh) [("makes_young",.bl my),("in_hands",.ref hd),("weak_names",.ref nt),("last_words",.ref wt)]))=H5:=⟨_,rfl⟩;have x5:H5 x=some (.ins D.ah dx [("makes_young",.bl my),("in_hands",.ref hd),("weak_names",.ref nt),("last_words",.ref wt),("fields_held",.ref fh)]):=by rw[←e5];exact ag
 have P5:But x H4 H5:=by rw[←e5];exact(But.upd hfh).trans But.self
 have f5:H5 fh=some (.dK []):=by rw[←e5,ab nfh];exact ag
 show uw _ _ _ _ (upd (upd H4 fh (.dK [])) x (.ins D.ah dx (cw "fields_held" (.ref fh) [("makes_young",.bl my),("in_hands",.ref hd),("weak_names",.ref nt),("last_words",.ref wt)])));rw[e5];clear e5;intro yg hyg;have nyg:yg≠x:=Nv (ao x5 hyg);refine⟨_,rfl,x,D.ah,dx,_,rfl,ay.upd hyg _ _ x5,T.ae,T.n,by show 5<1000;decide,?_⟩;obtain⟨H6,e6⟩:∃ H6,upd (upd H5 yg (.dK [])) x (.ins D.ah dx (cw "young_things" (.ref yg) [("makes_young",.bl my),("in_hands",.ref hd),("weak_names",.ref nt),("last_words",.ref wt),("fields_held",.ref fh)]))=H6:=⟨_,rfl⟩;have x6:H6 x=some (.ins D.ah dx [("makes_young",.bl my),("in_hands",.ref hd),("weak_names",.ref nt),("last_words",.ref wt),("fields_held",.ref fh),("young_things",.ref yg)]):=by rw[←e6];exact ag
 have P6:But x H5 H6:=by rw[←e6];exact(But.upd hyg).trans But.self
 have y6:H6 yg=some (.dK []):=by rw[←e6,ab nyg];exact ag
 skip
 rw[e6];clear e6;have B5:But x H H5:=B4.trans P5;have B6:But x H H6:=B5.trans P6;have P7:∀ {o:HO},But x H6 (upd H6 x o):=But.self;have P47:∀ {o:HO} {b:Addr} {u:HO},b≠x→H4 b=some u→upd H6 x o b=some u:=λn q=>P7 _ _ n (P6 _ _ n (P5 _ _ n q));refine⟨_,rfl,x,D.ah,dx,_,rfl,x6,T.ae,T.n,by show 6<1000;decide,k hd hdx hl nt ntx nl wt wtx wb wl fh yg _ ⟨ag,P47 nhd a4,P47 nhl l4,P47 nnt t4,P47 nnl m4,⟨P47 nwt W4.i,P47 nwb W4.b,P47 nwl W4.l⟩,P7 _ _ nfh (P6 _ _ nfh f5),P7 _ _ nyg y6,ao a2 nm1,ao l2 nl2,ao l3 wl3,ao m3 wl3,ao W4.b hfh,ao (P5 _ _ nwb W4.b) hyg,ao f5 hyg⟩ (B6.trans But.self) (λb hb=>?_)⟩;rcases hb with rfl|rfl|rfl|rfl|rfl|rfl|rfl|rfl|rfl
 ·exact bk x1 B1 hm1
 ·exact bk x1 B1 hl1
 ·exact bk x2 B2 nm1
 ·exact bk x2 B2 nl2
 ·exact bk x3 B3 wm1
 ·exact bk x3 B3 wb3
 ·exact bk x3 B3 wl3
 ·exact bk x4 B4 hfh
 ·exact bk x5 B5 hyg
noncomputable def sG(D:Ad):Sp:=λvs H Q E=>∃ x dx,∃ y l:Int,vs=[.ref x,.int y,.int l]∧H x=some (.ins D.ah dx [])∧(y=0∨(7≤y∧y≤64))∧7≤l∧l≤400∧∀ A H',IH D H' x A (s0 (decide (y>0)) y l)→But x H H'→(∀ b,aJ x A (s0 (decide (y>0)) y l) b→b=x∨H b=none)→Q .non H'
noncomputable abbrev iC:List Str:=["self", "young", "limit"]
theorem g4:au iC ["self", "young", "limit"] (aj ie):=fsc
theorem dJ(T:Txt w K mg D):Ok P w K mg base 4 D.ir ["self", "young", "limit"] (sG D):=by
 refine T.o3 "IdealHeap.__init__" g4 λcdv A' outer s' H vs Q E hr h=>?_;obtain⟨x,dx,y,l,rfl,hx,hy,l0,l1,k⟩:=h;refine⟨_,(ai (az ((lC T).c hr px (aa (pv 1) (aa (pv 2) aq))))
  (ai (az (Fb rfl T.m (T.cf D.Fh) (gh T).g (hr.mono (by decide)) (gh (P:=P) (base:=base) T).b px (aa (pv 0) (aa (jv Ae (pv 1) ar (aO _)) aq))))
  (ai (cj (pv 0) (pv 1) rfl)
  (ai (cj (pv 0) (pv 2) rfl)
  (ai (cj (pv 0) bY rfl)
  (ak (cj (pv 0) dR rfl))))))),?_⟩
 refine⟨_,rfl,_,rfl,y,l,rfl,hy,l0,l1,?_⟩;refine⟨_,rfl,_,rfl,y,0,rfl,rfl,x,dx,_,rfl,hx,λhd hdx hl nt ntx nl wt wtx wb wl fh yg H1 R B1 fr=>?_⟩;obtain⟨my,emy⟩:∃ my:Bool,decide (y>0)=my:=⟨_,rfl⟩;rw[emy]at R k;have nx:∀ b,H b=none→b≠x:=λb h e=>by rw[e,hx]at h;cases h
 refine⟨_,rfl,_,rfl,x,D.ah,dx,_,rfl,R.ax,T.ae,T.n,by show 7<1000;decide,?_⟩;refine⟨_,rfl,_,rfl,x,D.ah,dx,_,rfl,ag,T.ae,T.n,by show 8<1000;decide,?_⟩;intro dm hdm;have ndm:dm≠x:=λe=>by rw[e,ag]at hdm;cases hdm
 have BR:H1 dm=none:=by rw[ab ndm,ab ndm]at hdm;exact hdm
 refine⟨_,rfl,x,D.ah,dx,_,rfl,(by rw[ab (Nv ndm)];exact ag),T.ae,T.n,by show 9<1000;decide,?_⟩;refine⟨_,rfl,x,D.ah,dx,_,rfl,ag,T.ae,T.n,by show 10<1000;decide,?_⟩;have Mi:H dm=none:=by
  cases q:H dm with
  | none=>rfl
  | some u=>rw[B1 _ _ ndm q]at BR;cases BR
 have P:∀ {o1 o2 o3 o4:HO},But x H1 (upd (upd (upd (upd (upd H1 x o1) x o2) dm (.dK [])) x o3) x o4):=λ{o1 o2 o3 o4}=>(((But.self.trans But.self).trans (But.upd (by rw[ab ndm,ab ndm];exact BR))).trans But.self).trans But.self;have d2:∀ {o1 o2 o3 o4:HO},upd (upd (upd (upd (upd H1 x o1) x o2) dm (.dK [])) x o3) x o4 dm=some (.dK []):=λ{o1 o2 o3 o4}=>by rw[ab ndm,ab ndm];exact ag
 have f:=λ(b:Addr) (h:b=hd∨b=hl∨b=nt∨b=nl∨b=wt∨b=wb∨b=wl∨b=fh∨b=yg)=>nx b (fr b h);have n1:=f hd (.inl rfl);have n2:=f hl (.inr (.inl rfl));have n3:=f nt (.inr (.inr (.inl rfl)));have n4:=f nl (.inr (.inr (.inr (.inl rfl))));have n5:=f wt (.inr (.inr (.inr (.inr (.inl rfl)))));have n6:=f wb (.inr (.inr (.inr (.inr (.inr (.inl rfl))))));have n7:=f wl (.inr (.inr (.inr (.inr (.inr (.inr (.inl rfl)))))));have n8:=f fh (.inr (.inr (.inr (.inr (.inr (.inr (.inr (.inl rfl))))))));have n9:=f yg (.inr (.inr (.inr (.inr (.inr (.inr (.inr (.inr rfl))))))));refine k ⟨dx,hd,hdx,hl,List.replicate 8 .non,nt,ntx,nl,wt,wtx,wb,wl,fh,λ_=>0,λ_=>[],yg,dm⟩ _ ⟨ag,P _ _ n1 R.ahd,P _ _ n2 R.ahl,Rel.nil,P _ _ n3 R.ant,P _ _ n4 R.anl,P _ _ n5 R.awt.i,P _ _ n6 R.awt.b,P _ _ n7 R.awt.l,P _ _ n8 R.afh,(λ_ _ m=>by cases m),P _ _ n9 R.ayg,d2,R.n1,R.n2,R.n3,R.n4,(λ_ _ m=>by cases m),(λ_ _ _ _ m=>by cases m),R.n5,R.n6,ao R.awt.b BR,R.n7,ao R.afh BR,ao R.ayg BR⟩ (B1.trans P) (λb hb=>?_);cases hb with
 | x=>exact .inl rfl
 | hd=>exact .inr (fr hd (.inl rfl))
 | hl=>exact .inr (fr hl (.inr (.inl rfl)))
 | nt=>exact .inr (fr nt (.inr (.inr (.inl rfl))))
 | nl=>exact .inr (fr nl (.inr (.inr (.inr (.inl rfl)))))
 | wt=>exact .inr (fr wt (.inr (.inr (.inr (.inr (.inl rfl))))))
 | wb=>exact .inr (fr wb (.inr (.inr (.inr (.inr (.inr (.inl rfl)))))))
 | wl=>exact .inr (fr wl (.inr (.inr (.inr (.inr (.inr (.inr (.inl rfl))))))))
 | fh=>exact .inr (fr fh (.inr (.inr (.inr (.inr (.inr (.inr (.inr (.inl rfl)))))))))
 | yg=>exact .inr (fr yg (.inr (.inr (.inr (.inr (.inr (.inr (.inr (.inr rfl)))))))))
 | dm=>exact .inr Mi
 | fl m=>cases m
theorem BS{fs:List (Key×V)}{t:Int}{v:V}(h:cE fs (Sum.inl t)=none):putK fs (Sum.inl t) v=fs++[(Sum.inl t,v)]:=dM v h
theorem Kq{ts:List Int}{t:Int}:(cE (ts.map tkv) (Sum.inl t)).isSome=decide (t∈ts):=by
 induction ts with
 | nil=>rfl
 | cons a r ih =>
  rw[Nz];by_cases e:a=t
  ·subst e
   rw[de (p:=tkv a) (k:=Sum.inl a) rfl];simp
  ·rw[di (p:=tkv a) (λz=>e (Sum.inl.inj z)),ih]
   have:(t∈a::r)↔t∈r:=by
    rw[Nk];exact⟨λh=>h.elim (λz=>absurd z.symm e) id,.inr⟩
   simp only[this]
theorem Good.CC{s:HS}(g:Good s):∀ w,(s.nxt,w)∉s.aC:=λw m=>by have:=(g.lt _ _ m).2;omega
noncomputable def Fl(D:Ad):Sp:=λvs H Q E=>∃ x A s,∃ h n:Int,vs=[.ref x,.int h,.int n]∧IH D H x A s∧Good s∧ok8 h∧0≤n∧n≤6∧∀ A' H',IH D H' x A' (tK s h n)→Fr (aJ x A s) H (aJ x A' (tK s h n)) H'→Q .non H'
theorem yc:∀(n:Nat) (l:List Int) (a:Int),l.Pairwise (·< ·)→(∀ t∈l,a≤t∧t<a+n)→l.length≤n
 | _,[],_,_,_=>NH _
 | 0,b::r,a,_,h=>by have:=h b Nu;omega
 | n+1,b::r,a,p,h=>by
  have hb:=h b Nu
  have:=yc n r (a+1) (Pb.mp p).2 λt m=>by
   have h1:=(Pb.mp p).1 t m;have h2:=h t (Nn _ m);omega
  rw[NU];omega
theorem sI{s:HS}(g:Good s):s.yng.length≤10000:=by
 refine yc 10000 s.yng 0 g.qi λt m=>?_;obtain⟨ws,m⟩:=g.yk t m
 have:=g.lt _ _ m
 have:=g.nx
 omega
theorem uE{s:HS}(g:Good s):s.aF.length≤10000:=by
 refine yc 10000 s.aF 0 g.pB λt m=>?_;obtain⟨ws,m⟩:=g.dk t m
 have:=g.lt _ _ m
 have:=g.nx
 omega
noncomputable abbrev oj:List Str:=["self", "h", "n", "t"]
theorem fE:au oj ["self", "h", "n"] (aj nF):=fsc
theorem lN(T:Txt w K mg D):Ok P w K mg base 5 D.nP ["self", "h", "n"] (Fl D):=by
 refine T.o3 "Heap.add_thing" fE λcdv A' outer s' H vs Q E hr h=>?_;obtain⟨x,A,s,h,n,rfl,J,G,c,n0,n6,k⟩:=h;have hu:=b7 hr;refine⟨_,(ai (aD (i:=3) fE.nd rfl (Or.inl rfl) (aB (pv 0) rfl))
  (ai (cj (pv 0) (aT fO (pv 3) ar) rfl)
  (ai (cH hu (aB (pv 0) rfl) (pv 3) (aT xX (fP (aa bK aq)) (pv 2)) rfl)
  (ai (a6 (fN (aB (pv 0) rfl))
   (ak (cH hu (aB (pv 0) rfl) (pv 3) dR rfl))
   aI)
  (ak (az ((eM T).m T.aM hr (aB (pv 0) rfl) px (aa (pv 1) (aa ((eW T).c hr px (aa (pv 3) aq)) aq))))))))),?_⟩
 refine⟨_,rfl,x,D.ah,_,_,.int s.nxt,rfl,J.ax,T.ae,T.n,Jv,?_⟩;refine⟨_,rfl,s.nxt,1,rfl,rfl,_,rfl,x,D.ah,A.dx,_,rfl,J.ax,T.ae,T.n,by show 11<1000;decide,?_⟩;have w1:=J.Mg (n:=s.nxt+1);obtain⟨H1,e1⟩:∃ H1,upd H x (.ins D.ah A.dx (cw "next_thing" (.int (s.nxt+1)) (atts A s)))=H1:=⟨_,rfl⟩;rw[e1]at w1;show uw _ _ _ _ (upd H x (.ins D.ah A.dx (cw "next_thing" (.int (s.nxt+1)) (atts A s))));rw[e1];clear e1;obtain⟨J1,F1⟩:=w1;refine⟨by show 1≤sizeLine;decide,λp hp=>⟨_,rfl,p,n,_,rfl,rfl,ag,by omega,by omega,fe (by show 1*n.toNat≤20000;omega),λq hq=>?_⟩⟩;rw[Dl];have s2:ay H1 (upd H1 p (.lst [.non])):=ay.upd hp;have J2:=J1.same s2;have w2:=J2.JC (t:=s.nxt) (xs:=List.replicate n.toNat .non) (ws:=List.replicate n.toNat .no) hq G.CC Rel.nil;obtain⟨J3,F3⟩:=w2;have J2':=J2.same (ay.upd (o:=.lst (List.replicate n.toNat .non)) hq);have vn:cE (s.aC.map (fkv A)) (Sum.inl s.nxt)=none:=by
  rw[BQ];cases e:s.aC.lookup s.nxt with
  | none=>rfl
  | some w=>exact absurd (lookup_some e) (G.CC w)
 have dp:=jx.k (k:=Sum.inl s.nxt) (v:=.ref q) J2'.afh (by rw[MN];exact iB (Nh G.few (by decide)));rw[show putK ((({s with nxt:=s.nxt+1}:HS).aC).map (fkv A)) (Sum.inl s.nxt) (.ref q)=s.aC.map (fkv A)++[(Sum.inl s.nxt,.ref q)] from BS vn]at dp;refine⟨_,rfl,x,D.ah,_,_,.ref A.fh,rfl,J2'.ax,T.ae,T.n,gJ,_,rfl,A.fh,_,rfl,dp,?_⟩;have F03:=(F1.trans (Fr.same s2)).trans F3;obtain⟨A3,eA⟩:∃ A3:HA,{A with fa:=λu=>if u=s.nxt then q else A.fa u,fx:=λu=>if u=s.nxt then List.replicate n.toNat V.non else A.fx u}=A3:=⟨_,rfl⟩;obtain⟨H3,e3⟩:∃ H3,upd (upd (upd H1 p (.lst [.non])) q (.lst (List.replicate n.toNat .non))) A.fh (.dK (s.aC.map (fkv A)++[(Sum.inl s.nxt,.ref q)]))=H3:=⟨_,rfl⟩;have J3:IH D H3 x A3 {s with nxt:=s.nxt+1,aC:=s.aC++[(s.nxt,List.replicate n.toNat .no)]}:=by rw[←e3,←eA];exact J3
 have F03:Fr (aJ x A s) H (aJ x A3 {s with nxt:=s.nxt+1,aC:=s.aC++[(s.nxt,List.replicate n.toNat .no)]}) H3:=by rw[←e3,←eA];exact F03
 show uw _ _ _ _ (upd (upd (upd H1 p (.lst [.non])) q (.lst (List.replicate n.toNat .non))) A.fh (.dK (s.aC.map (fkv A)++[(Sum.inl s.nxt,.ref q)])));rw[e3];clear e3 eA dp J2';have fin:∀(A4:HA) (H4:Hp) (ys:List Int),IH D H4 x A4 {s with nxt:=s.nxt+1,aC:=s.aC++[(s.nxt,List.replicate n.toNat .no)],yng:=ys}→Fr (aJ x A s) H (aJ x A4 {s with nxt:=s.nxt+1,aC:=s.aC++[(s.nxt,List.replicate n.toNat .no)],yng:=ys}) H4→(if s.my=true then s.yng++[s.nxt] else s.yng)=ys→∀(t:Addr) (H5:Hp),ay H4 H5→H5 t=some (.tup [.str "thing",.int s.nxt])→yz D [.ref A4.hd,.int h,.ref t] H5 (λ_ H'=>Q .non H') E:=by
  intro A4 H4 ys J4 F4 ey t H5 s5 ht;have J5:=J4.same s5;refine⟨A4.hd,A4.hdx,A4.hl,A4.hx,s.aL,.ref t,h,rfl,⟨J5.ahd,J5.ahl,J5.rhl,G.h8⟩,Sm.of (by omega) (by omega),?_⟩;rw[if_pos c];have w:=J5.Ar (J5.rhl.set (i:=h.toNat) (show WV H5 (.ref t) (.th s.nxt) from⟨t,rfl,ht⟩));have e:tK s h n={s with nxt:=s.nxt+1,aC:=s.aC++[(s.nxt,List.replicate n.toNat .no)],yng:=ys,aL:=s.aL.set h.toNat (.th s.nxt)}:=by unfold tK;rw[ey]
  rw[e]at k;exact k _ _ w.1 ((F4.trans (Fr.same s5)).trans w.2)
 refine⟨_,rfl,x,D.ah,_,_,_,rfl,J3.ax,T.ae,T.n,Es,_,rfl,?_⟩;by_cases my:s.my=true
 ·refine xJ my ⟨_,rfl,x,D.ah,_,_,_,rfl,J3.ax,T.ae,T.n,xD,_,rfl,A3.yg,_,rfl,jx.k (k:=Sum.inl s.nxt) J3.ayg (by rw[MN];exact iB (Nh (show s.yng.length≤10000 from sI G) (by decide))),?_⟩
  have vy:cE (s.yng.map tkv) (Sum.inl s.nxt)=none:=by
   have:=Kq (ts:=s.yng) (t:=s.nxt)
   rw[decide_eq_false (λm=>by obtain⟨ws,m⟩:=G.yk _ m;exact G.CC ws m)]at this;cases q:cE (s.yng.map tkv) (Sum.inl s.nxt) with
   | none=>rfl
   | some v=>rw[q]at this;cases this
  have w4:=J3.Mf (ts:=s.yng++[s.nxt]);rw[MV]at w4;rw[show putK ((({s with nxt:=s.nxt+1,aC:=s.aC++[(s.nxt,List.replicate n.toNat .no)]}:HS).yng).map tkv) (Sum.inl s.nxt) (.bl true)=s.yng.map tkv++[s.nxt].map tkv from BS vy];obtain⟨J4,F4⟩:=w4;refine⟨_,rfl,x,D.ah,_,_,_,rfl,J4.ax,T.ae,T.n,gn,A3.hd,A3.hdx,_,rfl,J4.ahd,rfl,_,rfl,_,rfl,s.nxt,rfl,G.n0,λt H5 s5 ht=>?_⟩;exact fin _ _ _ J4 (F03.trans F4) (by rw[if_pos my]) t H5 s5 ht
 ·refine qP (NM.mpr my) ?_
  refine⟨_,rfl,x,D.ah,_,_,_,rfl,J3.ax,T.ae,T.n,gn,A3.hd,A3.hdx,_,rfl,J3.ahd,rfl,_,rfl,_,rfl,s.nxt,rfl,G.n0,λt H5 s5 ht=>?_⟩;exact fin _ _ _ J3 F03 (by rw[if_neg my]) t H5 s5 ht
noncomputable def AX(D:Ad):Sp:=λvs H Q E=>∃ x A s,∃ h w:Int,vs=[.ref x,.int h,.int w]∧IH D H x A s∧Good s∧Sm h∧Sm w∧(if ok8 h then(if ok8 w then ∀ A' H',IH D H' x A' (eR s h (nmW (s.names.getD w.toNat none)))→Fr (aJ x A s) H (aJ x A' (eR s h (nmW (s.names.getD w.toNat none)))) H'→Q (nmV (s.names.getD w.toNat none)) H' else Bad D.cN H E) else Bad D.ba H E)
noncomputable abbrev lO:List Str:=["self", "h", "w", "t"]
theorem eS:au lO ["self", "h", "w"] (aj kK):=fsc
theorem j3(T:Txt w K mg D):Ok P w K mg base 5 D.kZ ["self", "h", "w"] (AX D):=by
 refine T.o3 "Heap.read_thing" eS λcdv A' outer s' H vs Q E hr h=>?_;obtain⟨x,A,s,h,w,rfl,J,G,hh,hw,k⟩:=h;refine⟨_,(ai (az ((bB T).c hr px (aa (pv 1) aq)))
  (ai (aD (i:=3) eS.nd rfl (Or.inl rfl) ((j2 T).m T.bh hr (aB (pv 0) rfl) px (aa (pv 2) aq)))
  (ai (az ((eM T).m T.aM hr (aB (pv 0) rfl) px (aa (pv 1) (aa (iY (aE rT (pv 3) bK (aO _)) bK ((eW T).c hr px (aa (pv 3) aq))) aq))))
  (ak (aG (pv 3)))))),?_⟩
 refine⟨_,rfl,h,rfl,hh,?_⟩;by_cases c:ok8 h
 ·rw[if_pos c]at k ⊢
  refine⟨_,rfl,x,D.ah,_,_,.ref A.nt,rfl,J.ax,T.ae,T.n,Ah,A.nt,A.ntx,_,rfl,J.ant,rfl,_,rfl,A.nt,A.ntx,A.nl,_,w,rfl,J.ntb G,hw,?_⟩;by_cases c2:ok8 w
  ·rw[if_pos c2]at k ⊢
   intro v hv;have hi:w.toNat<s.names.length:=(by rw[G.n8];omega);rw[MY,MP hi]at hv;obtain rfl:nmV s.names[w.toNat]=v:=Nf hv;have gd:s.names.getD w.toNat none=s.names[w.toNat]:=(by simp[List.getD,hi]);rw[gd]at k;have mm:s.names[w.toNat]∈s.names:=NK hi;obtain⟨z,ez⟩:∃ z,s.names[w.toNat]=z:=⟨_,rfl⟩;rw[ez]at k mm ⊢;refine⟨_,rfl,x,D.ah,_,_,.ref A.hd,rfl,J.ax,T.ae,T.n,gn,A.hd,A.hdx,_,rfl,J.ahd,rfl,_,rfl,?_⟩;cases z with
   | none =>
    refine⟨_,rfl,rfl,_,rfl,bu (λ_=>?_) (λh=>absurd (by simp[nmV]) h)⟩;refine⟨A.hd,A.hdx,A.hl,A.hx,s.aL,.non,h,rfl,J.hn G,hh,?_⟩;rw[if_pos c];exact⟨_,rfl,let w:=J.Ar (J.rhl.set (i:=h.toNat) (show WV H .non .no from rfl));k _ _ w.1 w.2⟩
   | some t =>
    obtain⟨ws,m⟩:=G.nn t mm;refine⟨_,rfl,rfl,_,rfl,bu (λh=>by simp[nmV]at h) (λ_=>?_)⟩;refine⟨_,rfl,t,rfl,(G.lt _ _ m).1,λp H1 s1 hp=>?_⟩;have J1:=J.same s1;refine⟨A.hd,A.hdx,A.hl,A.hx,s.aL,.ref p,h,rfl,J1.hn G,hh,?_⟩;rw[if_pos c];exact⟨_,rfl,let w:=J1.Ar (J1.rhl.set (i:=h.toNat) (show WV H1 (.ref p) (.th t) from⟨p,rfl,hp⟩));k _ _ w.1 ((Fr.same s1).trans w.2)⟩
  ·rw[if_neg c2]at k ⊢
   exact k
 ·rw[if_neg c]at k ⊢
  exact k
noncomputable def AY(D:Ad):Sp:=λvs H Q E=>∃ x A s d kvs ts,vs=[.ref x,.ref d]∧IH D H x A s∧Good s∧H d=some (.dK kvs)∧kvs.map (·.1)=ts.map Sum.inl∧(∀ t∈ts,∃ ws,(t,ws)∈s.aC)∧ts.length≤10000∧∀ H',ay H H'→Q (.int (wsum s ts)) H'
noncomputable abbrev eT:List Str:=["self", "things"]
theorem ja:au eT ["self", "things"] (aj eQ):=fsc
theorem eC(T:Txt w K mg D):Ok P w K mg base 4 D.jV ["self", "things"] (AY D):=by
 refine T.o2 "Heap.words_among" ja λcdv A' outer s' H vs Q E hr h=>?_;obtain⟨x,A,s,d,kvs,ts,rfl,J,G,hd,hk,ht,hz,k⟩:=h;have hu:=b7 hr;refine⟨_,(ak (aG (BO (aP (e7 rfl) rfl T.z PyProof.Rows.Boot.«sum» (aa (ft (cl:=[("self",s'.heap.objs.size+1)]) (x := "t") (idx:=[0]) (NC:=["t", "self"]) ?co1 rfl (f7 (jB (pv 1))) (λC fp s₀ H₀=>((pA T).c hr uX (aa (aP (zJ rfl) rfl T.z PyProof.Rows.Boot.«len» (aa (cS hu (C9 rfl (pv 1) rfl) (pv 0) (λ_ _=>rfl)) aq)) aq)))) aq))))),?_⟩
 case co1 =>
  exact cB (sc:=aj eQ) (N:=eT) (ns:=["self"]) rfl rfl rfl (by decide +kernel) rfl rfl (by
   intro q hq;rw[MO.mp hq];rfl)
 have lk:kvs.length=ts.length:=by have:=congrArg List.length hk;simpa using this
 refine⟨_,rfl,d,kvs,hd,λo=>?_⟩;refine⟨d,o,kvs,rfl,ag,λL hL=>?_⟩;obtain⟨Hf,ef⟩:∃ Hf,upd H d (.frz o (.dK kvs))=Hf:=⟨_,rfl⟩;rw[ef]at hL ⊢;have fd:Hf d=some (.frz o (.dK kvs)):=by rw[←ef];exact ag
 have fo:∀ b u,b≠d→H b=some u→Hf b=some u:=λb u n q=>by rw[←ef,ab n];exact q
 have xd:x≠d:=av J.ax hd (by intro z;cases z);have dg:∀ {Hc:Hp},ay Hf Hc→∀ {t:Int} {ws:List Wd},(t,ws)∈s.aC→eK Hc A.fh (.int t) (some (.ref (A.fa t))):=λ{Hc} sc {t ws} m=>by
  have e:cE (s.aC.map (fkv A)) (Sum.inl t)=some (.ref (A.fa t)):=by rw[BQ,G.get m];rfl
  by_cases c:A.fh=d
  ·have ek:kvs=s.aC.map (fkv A):=by
    have:=J.afh
    rw[c,hd]at this;injection this with this;injection this
   exact .inl ⟨kvs,Sum.inl t,.inr ⟨o,by rw[c];exact sc _ _ fd⟩,rfl,by rw[ek,e]⟩
  ·exact .inl ⟨_,Sum.inl t,.inl (sc _ _ (fo _ _ c J.afh)),rfl,e.symm⟩
 refine oK (d:=d) (o:=o) (kvs:=kvs) (λi ys Hc=>ys=((ts.take i).map λt=>V.int (((fld s t).length:Int)+1))∧ay Hf Hc∧Hc L=some (.lst ys)) ⟨rfl,ay.upd hL,ag⟩ (λi ys Hc hi ⟨e,_,z⟩=>⟨z,by rw[e,MN,MZ];omega⟩) (λi ys Hc _ ⟨_,sc,_⟩=>sc _ _ fd) (fe (by omega)) (λi p ys Hc hi ⟨e,sc,z⟩=>?_) (λys Hc ⟨e,sc,z⟩=>?_)
 ·have hik:i<kvs.length:=(MQ.mp hi).1
  have hit:i<ts.length:=by omega
  have ep:p.1=Sum.inl ts[i]:=by
   have h1:=congrArg (λl=>l[i]?) hk;simp only[MY,hi,MP hit,O4,Option.some.injEq]at h1;exact h1
  have hkv:kV p.1=.int ts[i]:=by rw[ep];rfl
  obtain⟨t,et⟩:∃ t,ts[i]=t:=⟨_,rfl⟩;obtain⟨ws,m⟩:=ht t (by rw[←et];exact NK hit);have fm:=G.fld m;obtain⟨hl,rl⟩:=J.afl _ _ m;have f6:=G.f6 _ _ m;have ln:=rl.1;have nld:A.fa t≠d:=av hl hd (by intro z;cases z);have hlc:=sc _ _ (fo _ _ nld hl);refine⟨_,rfl,x,D.ah,_,_,.ref A.fh,rfl,sc _ _ (fo _ _ xd J.ax),T.ae,T.n,gJ,_,rfl,A.fh,.ref (A.fa t),rfl,(by rw[hkv,et];exact dg sc m),A.fa t,_,rfl,.inl (SqL.of hlc),((A.fx t).length:Int),rfl,Sm.of (by omega) (by omega),?_⟩;rw[if_pos ⟨by omega,by omega⟩];refine⟨z,?_,λb u q=>by rw[ab (ao q hL)];exact sc b u q,ag⟩;rw[e,MT hit,MV,et];simp only[Nz,Oy];rw[fm,ln]
 ·rw[lk,MW (MR _)]at e
  refine⟨L,ts.map λt=>((fld s t).length:Int)+1,rfl,SqL.of (by rw[z,e,Ny];rfl),d,o,kvs,sc _ _ fd,(λo' u' z=>by have z:H d=some (.frz o' u'):=z;rw[hd]at z;cases z),?_⟩;refine k _ λb u q=>?_;by_cases c:b=d
  ·subst c
   rw[hd]at q;cases q;exact ag
  ·rw[ab c]
   exact sc _ _ (fo _ _ c q)
noncomputable def Dn(D:Ad):Sp:=λvs H Q E=>∃ x A s,vs=[.ref x]∧IH D H x A s∧Good s∧∀ H',ay H H'→Q (.int (held s)) H'
noncomputable abbrev om:List Str:=["self"]
theorem lP:au om ["self"] (aj nI):=fsc
theorem lQ(T:Txt w K mg D):Ok P w K mg base 5 D.nU ["self"] (Dn D):=by
 refine T.o1 "IdealHeap.held" lP λcdv A' outer s' H vs Q E hr h=>?_;obtain⟨x,A,s,rfl,J,G,k⟩:=h;refine⟨_,(ak (aG ((eC T).m T.ae hr (pv 0) px (aa (aB (pv 0) rfl) aq)))),?_⟩;exact⟨_,rfl,x,_,_,rfl,J.ax,(by kernel_rfl),_,rfl,x,D.ah,_,_,.ref A.fh,rfl,J.ax,T.ae,T.n,gJ,x,A,s,A.fh,_,keys s,rfl,J,G,J.afh,by rw[Ny];unfold keys;rw[Ny];rfl,(λt m=>by obtain⟨p,hp,rfl⟩:=Nc.mp m;exact⟨p.2,hp⟩),by unfold keys;rw[MN];exact G.few,k⟩
theorem oQ{F F':Addr→Prop}{H:Hp}{p b:Addr}{u o o':HO}(hp:H p=none)(f:F b)(hb:H b=some u)(n:∀ xs,u≠.tup xs)(g:∀ c,F' c→F c∨c=p):Fr F H F' (upd (upd H p o) b o') where
 ext:=λc v nf q=>by rw[ab λe=>nf (by rw[e];exact f),ab (ao q hp)];exact q
 grow:=λc f'=>(g c f').imp id λe=>by rw[e];exact hp
 all:=λc v q=>by
  by_cases e:c=b
  ·exact⟨o',by rw[e];exact ag⟩
  ·exact⟨v,by rw[ab e,ab (ao q hp)];exact q⟩
 tup:=(bE.of (ay.upd hp)).trans (bE.set (ay.upd hp _ _ hb) n)
section
variable{D:Ad}{H H':Hp}{x:Addr}{A A':HA}{s s':HS}
theorem IH.Mj(J:IH D H x A s){p:Addr}(hp:H p=none):IH D (upd (upd H p (.dK [])) x (.ins D.ah A.dx (cw "young_things" (.ref p) (atts A s)))) x {A with yg:=p} {s with yng:=[]}∧Fr (aJ x A s) H (aJ x {A with yg:=p} {s with yng:=[]}) (upd (upd H p (.dK [])) x (.ins D.ah A.dx (cw "young_things" (.ref p) (atts A s)))):=by
 have s1:ay H (upd H p (.dK [])):=ay.upd hp;have nf:¬aJ x A s p:=J.fresh hp;have pp:upd H p (.dK []) p=some (.dK []):=ag;refine⟨?_,oQ hp (.x) J.ax (λ_ z=>nomatch z) (λc f=>?_)⟩
 ·have J:=J.same s1
  have tk:bE (upd H p (.dK [])) (upd (upd H p (.dK [])) x (.ins D.ah A.dx (cw "young_things" (.ref p) (atts A s)))):=bE.set J.ax (λ_ z=>nomatch z);exact⟨(by rw[ag,JA];rfl),(by rw[ab (av J.ahd J.ax (dY (show(1:Nat)≠11 by decide)))];exact J.ahd),(by rw[ab (av J.ahl J.ax (by intro z;cases z))];exact J.ahl),J.rhl.keep tk,(by rw[ab (av J.ant J.ax (dY (show(1:Nat)≠11 by decide)))];exact J.ant),(by rw[ab (av J.anl J.ax (by intro z;cases z))];exact J.anl),(by rw[ab (av J.awt J.ax (dY (show(2:Nat)≠11 by decide)))];exact J.awt),(by rw[ab (av J.awb J.ax (by intro z;cases z))];exact J.awb),(by rw[ab (av J.awl J.ax (by intro z;cases z))];exact J.awl),(by rw[ab (av J.afh J.ax (by intro z;cases z))];exact J.afh),(λt ws m=>⟨by rw[ab (av (J.afl _ _ m).1 J.ax (by intro z;cases z))];exact(J.afl _ _ m).1,(J.afl _ _ m).2.keep tk⟩),(by show upd _ _ _ p=_;rw[ab λe=>nf (by rw[e];exact .x)];exact pp),(by rw[ab (av J.adm J.ax (by intro z;cases z))];exact J.adm),J.nhn,J.l1,J.l2,J.l3,J.l4,J.l5,J.d1,(λ(e:A.wb=p)=>nf (by rw[←e];exact .wb)),J.d3,(λ(e:A.fh=p)=>nf (by rw[←e];exact .fh)),J.d5,(λ(e:p=A.dm)=>nf (by rw[e];exact .dm))⟩
 ·cases f with
  | x=>exact .inl .x
  | hd=>exact .inl .hd
  | hl=>exact .inl .hl
  | nt=>exact .inl .nt
  | nl=>exact .inl .nl
  | wt=>exact .inl .wt
  | wb=>exact .inl .wb
  | wl=>exact .inl .wl
  | fh=>exact .inl .fh
  | yg=>exact .inr rfl
  | dm=>exact .inl .dm
  | fl m=>exact .inl (.fl m)
theorem IH.Ml(J:IH D H x A s){p:Addr}(hp:H p=none):IH D (upd (upd H p (.dK [])) x (.ins D.ah A.dx (cw "doomed_things" (.ref p) (atts A s)))) x {A with dm:=p} {s with aF:=[]}∧Fr (aJ x A s) H (aJ x {A with dm:=p} {s with aF:=[]}) (upd (upd H p (.dK [])) x (.ins D.ah A.dx (cw "doomed_things" (.ref p) (atts A s)))):=by
 have s1:ay H (upd H p (.dK [])):=ay.upd hp;have nf:¬aJ x A s p:=J.fresh hp;have pp:upd H p (.dK []) p=some (.dK []):=ag;refine⟨?_,oQ hp (.x) J.ax (λ_ z=>nomatch z) (λc f=>?_)⟩
 ·have J:=J.same s1
  have tk:bE (upd H p (.dK [])) (upd (upd H p (.dK [])) x (.ins D.ah A.dx (cw "doomed_things" (.ref p) (atts A s)))):=bE.set J.ax (λ_ z=>nomatch z);exact⟨(by rw[ag,JB];rfl),(by rw[ab (av J.ahd J.ax (dY (show(1:Nat)≠11 by decide)))];exact J.ahd),(by rw[ab (av J.ahl J.ax (by intro z;cases z))];exact J.ahl),J.rhl.keep tk,(by rw[ab (av J.ant J.ax (dY (show(1:Nat)≠11 by decide)))];exact J.ant),(by rw[ab (av J.anl J.ax (by intro z;cases z))];exact J.anl),(by rw[ab (av J.awt J.ax (dY (show(2:Nat)≠11 by decide)))];exact J.awt),(by rw[ab (av J.awb J.ax (by intro z;cases z))];exact J.awb),(by rw[ab (av J.awl J.ax (by intro z;cases z))];exact J.awl),(by rw[ab (av J.afh J.ax (by intro z;cases z))];exact J.afh),(λt ws m=>⟨by rw[ab (av (J.afl _ _ m).1 J.ax (by intro z;cases z))];exact(J.afl _ _ m).1,(J.afl _ _ m).2.keep tk⟩),(by rw[ab (av J.ayg J.ax (by intro z;cases z))];exact J.ayg),(by show upd _ _ _ p=_;rw[ab λe=>nf (by rw[e];exact .x)];exact pp),J.nhn,J.l1,J.l2,J.l3,J.l4,J.l5,J.d1,J.d2,(λ(e:A.wb=p)=>nf (by rw[←e];exact .wb)),J.d4,(λ(e:A.fh=p)=>nf (by rw[←e];exact .fh)),(λ(e:A.yg=p)=>nf (by rw[←e];exact .yg))⟩
 ·cases f with
  | x=>exact .inl .x
  | hd=>exact .inl .hd
  | hl=>exact .inl .hl
  | nt=>exact .inl .nt
  | nl=>exact .inl .nl
  | wt=>exact .inl .wt
  | wb=>exact .inl .wb
  | wl=>exact .inl .wl
  | fh=>exact .inl .fh
  | yg=>exact .inl .yg
  | dm=>exact .inr rfl
  | fl m=>exact .inl (.fl m)
theorem IH.Mm(J:IH D H x A s){ns:List (Option Int)}{p:Addr}(hp:H p=none):IH D (upd (upd H p (.lst (ns.map nmV))) A.nt (.ins D.aK A.ntx [("things_named",.ref p)])) x {A with nl:=p} {s with names:=ns}∧Fr (aJ x A s) H (aJ x {A with nl:=p} {s with names:=ns}) (upd (upd H p (.lst (ns.map nmV))) A.nt (.ins D.aK A.ntx [("things_named",.ref p)])):=by
 have s1:ay H (upd H p (.lst (ns.map nmV))):=ay.upd hp;have nf:¬aJ x A s p:=J.fresh hp;have pp:upd H p (.lst (ns.map nmV)) p=some (.lst (ns.map nmV)):=ag;refine⟨?_,oQ hp (.nt) J.ant (λ_ z=>nomatch z) (λc f=>?_)⟩
 ·have J:=J.same s1
  have tk:bE (upd H p (.lst (ns.map nmV))) (upd (upd H p (.lst (ns.map nmV))) A.nt (.ins D.aK A.ntx [("things_named",.ref p)])):=bE.set J.ant (λ_ z=>nomatch z);exact⟨(by rw[ab (av J.ax J.ant (dY (show(11:Nat)≠1 by decide)))];exact J.ax),(by rw[ab J.nhn];exact J.ahd),(by rw[ab (av J.ahl J.ant (by intro z;cases z))];exact J.ahl),J.rhl.keep tk,ag,(by show upd _ _ _ p=_;rw[ab λe=>nf (by rw[e];exact .nt)];exact pp),(by rw[ab (av J.awt J.ant (dY (show(2:Nat)≠1 by decide)))];exact J.awt),(by rw[ab (av J.awb J.ant (by intro z;cases z))];exact J.awb),(by rw[ab (av J.awl J.ant (by intro z;cases z))];exact J.awl),(by rw[ab (av J.afh J.ant (by intro z;cases z))];exact J.afh),(λt ws m=>⟨by rw[ab (av (J.afl _ _ m).1 J.ant (by intro z;cases z))];exact(J.afl _ _ m).1,(J.afl _ _ m).2.keep tk⟩),(by rw[ab (av J.ayg J.ant (by intro z;cases z))];exact J.ayg),(by rw[ab (av J.adm J.ant (by intro z;cases z))];exact J.adm),J.nhn,(λ(e:A.hl=p)=>nf (by rw[←e];exact .hl)),J.l2,(λ(e:p=A.wl)=>nf (by rw[e];exact .wl)),(λt ws m=>⟨(J.l4 _ _ m).1,(λ(e:A.fa t=p)=>nf (by rw[←e];exact .fl m)),(J.l4 _ _ m).2.2⟩),J.l5,J.d1,J.d2,J.d3,J.d4,J.d5,J.d6⟩
 ·cases f with
  | x=>exact .inl .x
  | hd=>exact .inl .hd
  | hl=>exact .inl .hl
  | nt=>exact .inl .nt
  | nl=>exact .inr rfl
  | wt=>exact .inl .wt
  | wb=>exact .inl .wb
  | wl=>exact .inl .wl
  | fh=>exact .inl .fh
  | yg=>exact .inl .yg
  | dm=>exact .inl .dm
  | fl m=>exact .inl (.fl m)
noncomputable def kB(fs:List (Int×List Wd))(t:Int):List (Int×List Wd):=fs.filter λp=>decide (p.1≠t)
theorem gq{fs:List (Int×List Wd)}{t t':Int}{ws:List Wd}:(t',ws)∈kB fs t↔(t',ws)∈fs∧t'≠t:=by unfold kB;rw[NA];simp
theorem Dp{fs:List (Int×List Wd)}{A:HA}{t:Int}:hZ (fs.map (fkv A)) (Sum.inl t)=(kB fs t).map (fkv A):=by
 unfold hZ kB;rw[Pl];congr 1
 refine Oo λp _=>?_;show decide (Sum.inl p.1≠(Sum.inl t:Key))=decide (p.1≠t);simp
theorem IH.JD(J:IH D H x A s){t:Int}:IH D (upd H A.fh (.dK ((kB s.aC t).map (fkv A)))) x A {s with aC:=kB s.aC t}∧Fr (aJ x A s) H (aJ x A {s with aC:=kB s.aC t}) (upd H A.fh (.dK ((kB s.aC t).map (fkv A)))):=by
 have tk:bE H (upd H A.fh (.dK ((kB s.aC t).map (fkv A)))):=bE.set J.afh (λ_ z=>nomatch z);refine⟨⟨(by rw[ab (av J.ax J.afh (by intro z;cases z))];exact J.ax),(by rw[ab (av J.ahd J.afh (by intro z;cases z))];exact J.ahd),(by rw[ab (av J.ahl J.afh (by intro z;cases z))];exact J.ahl),J.rhl.keep tk,(by rw[ab (av J.ant J.afh (by intro z;cases z))];exact J.ant),(by rw[ab (av J.anl J.afh (by intro z;cases z))];exact J.anl),(by rw[ab (av J.awt J.afh (by intro z;cases z))];exact J.awt),(by rw[ab J.d1];exact J.awb),(by rw[ab (av J.awl J.afh (by intro z;cases z))];exact J.awl),ag,(λu ws m'=>by have m:=(gq.mp m').1;exact⟨by rw[ab (av (J.afl _ _ m).1 J.afh (by intro z;cases z))];exact(J.afl _ _ m).1,(J.afl _ _ m).2.keep tk⟩),(by rw[ab (Nv J.d4)];exact J.ayg),(by rw[ab (Nv J.d5)];exact J.adm),J.nhn,J.l1,J.l2,J.l3,(λu ws m=>J.l4 _ _ (gq.mp m).1),(λu ws v w m m' e=>J.l5 _ _ _ _ (gq.mp m).1 (gq.mp m').1 e),J.d1,J.d2,J.d3,J.d4,J.d5,J.d6⟩,Fr.set .fh J.afh (λ_ z=>nomatch z) (λc f=>?_)⟩;cases f with
 | x=>exact .x
 | hd=>exact .hd
 | hl=>exact .hl
 | nt=>exact .nt
 | nl=>exact .nl
 | wt=>exact .wt
 | wb=>exact .wb
 | wl=>exact .wl
 | fh=>exact .fh
 | yg=>exact .yg
 | dm=>exact .dm
 | fl m=>exact .fl (gq.mp m).1
end
inductive Led(rs:List Wd)(F:Int→List Wd)(S:List Int):Int→Prop where
 | root {t:Int}:Wd.th t∈rs→t∈S→Led rs F S t
 | step {u t:Int}:Led rs F S u→Wd.th t∈F u→t∈S→Led rs F S t
theorem Led.mem{rs:List Wd}{F:Int→List Wd}{S:List Int}{t:Int}(h:Led rs F S t):t∈S:=by cases h<;>assumption
noncomputable def amg(S:List Int):Wd→Option Int
 | .th t=>if t∈S then some t else none
 | _=>none
theorem gC{S:List Int}{w:Wd}{t:Int}:amg S w=some t↔w=.th t∧t∈S:=by
 cases w with
 | no=>exact⟨(λh=>by cases h),(λh=>by cases h.1)⟩
 | num n=>exact⟨(λh=>by cases h),(λh=>by cases h.1)⟩
 | th u =>
  show(if u∈S then some u else none)=some t↔_;by_cases c:u∈S
  ·rw[if_pos c]
   exact⟨(λh=>by cases h;exact⟨rfl,c⟩),(λh=>by cases h.1;rfl)⟩
  ·rw[if_neg c]
   exact⟨(λh=>by cases h),(λh=>by cases h.1;exact absurd h.2 c)⟩
inductive Rc(rs:List (Option Int))(F:Int→List (Option Int)):Int→Prop where
 | root {t:Int}:some t∈rs→Rc rs F t
 | step {u t:Int}:Rc rs F u→some t∈F u→Rc rs F t
theorem Fm{rs:List Wd}{F:Int→List Wd}{S:List Int}{t:Int}:Rc (rs.map (amg S)) (λu=>(F u).map (amg S)) t↔Led rs F S t:=by
 constructor
 ·intro h
  induction h with
  | root m =>
   obtain⟨w,mw,e⟩:=Nc.mp m;obtain⟨rfl,c⟩:=gC.mp e;exact .root mw c
  | step _ m ih =>
   obtain⟨w,mw,e⟩:=Nc.mp m;obtain⟨rfl,c⟩:=gC.mp e;exact .step ih mw c
 ·intro h
  induction h with
  | root m c=>exact .root (Nc.mpr ⟨_,m,gC.mpr ⟨rfl,c⟩⟩)
  | step _ m c ih=>exact .step ih (Nc.mpr ⟨_,m,gC.mpr ⟨rfl,c⟩⟩)
theorem ck:∀ {ms ks:List Int},ms.Nodup→(∀ m∈ms,m∈ks)→ms.length≤ks.length
 | [],_,_,_=>NH _
 | a::r,ks,nd,h=>by
  rw[Oc]at nd;have ha:=h a Nu
  have:=ck (ms:=r) (ks:=ks.erase a) nd.2 λm hm=>(O2 (λe=>nd.1 (by rw[←e];exact hm))).mpr (h m (Nn _ hm))
  rw[OS ha]at this
  have:0<ks.length:=OC ha
  rw[NU];omega
noncomputable def Kys(kvs:List (Key×V))(ms:List Int):Prop:=kvs.map (·.1)=ms.map Sum.inl
theorem Kys.len{kvs:List (Key×V)}{ms:List Int}(k:Kys kvs ms):kvs.length=ms.length:=by have:=congrArg List.length k;simpa using this
theorem Kys.isS{kvs:List (Key×V)}{ms:List Int}(k:Kys kvs ms){t:Int}:(cE kvs (Sum.inl t)).isSome=decide (t∈ms):=by
 induction kvs generalizing ms with
 | nil=>cases ms with
  | nil=>rfl
  | cons a r=>cases k
 | cons p r ih=>cases ms with
  | nil=>cases k
  | cons a ms =>
   unfold Kys at k;rw[Nz,Nz]at k;injection k with k1 k2;by_cases e:a=t
   ·subst e
    rw[de k1];simp
   ·rw[di (λz=>e (Sum.inl.inj (k1.symm.trans z))),ih k2]
    have:(t∈a::ms)↔t∈ms:=by
     rw[Nk];exact⟨λh=>h.elim (λz=>absurd z.symm e) id,.inr⟩
    simp only[this]
theorem Kys.non{kvs:List (Key×V)}{ms:List Int}(k:Kys kvs ms){t:Int}(h:t∉ms):cE kvs (Sum.inl t)=none:=by
 have:=k.isS (t:=t)
 rw[decide_eq_false h]at this;cases q:cE kvs (Sum.inl t) with
 | none=>rfl
 | some v=>rw[q]at this;cases this
theorem Kys.snoc{kvs:List (Key×V)}{ms:List Int}(k:Kys kvs ms){t:Int}{v:V}(h:t∉ms):Kys (putK kvs (Sum.inl t) v) (ms++[t]):=by
 rw[dM v (k.non h)];unfold Kys at k ⊢;rw[MV,MV,k];rfl
theorem Kys.at_{kvs:List (Key×V)}{ms:List Int}(k:Kys kvs ms){i:Nat}{p:Key×V}(h:kvs[i]?=some p):∃ t,ms[i]?=some t∧kV p.1=.int t∧p.1=Sum.inl t:=by
 have h1:=congrArg (λl=>l[i]?) k;simp only[MY,h,O4]at h1;obtain⟨t,e1,e2⟩:=Ng.mp h1.symm;exact⟨t,e1,by rw[←e2];rfl,e2.symm⟩
theorem p8(ts:List Int):Kys (ts.map tkv) ts:=by unfold Kys;rw[Ny];rfl
theorem Ai(s:HS)(A:HA):Kys (s.aC.map (fkv A)) (keys s):=by unfold Kys keys;rw[Ny,Ny];rfl
noncomputable def drG(fs:List (Int×List Wd))(gs:List Int):List (Int×List Wd):=fs.filter λp=>decide (p.1∉gs)
noncomputable def nmG(gs:List Int)(n:Option Int):Option Int:=match n with|none=>none|some t=>if t∈gs then none else some t
noncomputable def brG(bs:List (Int×Int))(gs:List Int):List (Int×Int):=bs.filter λp=>decide (p.1∉gs)
noncomputable def sdG(bs:List (Int×Int))(gs:List Int):List Int:=gs.filterMap λt=>bs.lookup t
noncomputable def letGo(s:HS)(gs:List Int):HS:={s with aC:=drG s.aC gs,names:=s.names.map (nmG gs),aR:=brG s.aR gs,hV:=s.hV++sdG s.aR gs}
theorem bO{fs:List (Int×List Wd)}{gs:List Int}{t:Int}{ws:List Wd}:(t,ws)∈drG fs gs↔(t,ws)∈fs∧t∉gs:=by unfold drG;rw[NA];simp
theorem AZ{fs:List (Int×List Wd)}{gs:List Int}{t:Int}:drG fs (gs++[t])=kB (drG fs gs) t:=by
 unfold drG kB;rw[List.filter_filter];refine Oo λp _=>?_;simp[MS,not_or,Bool.and_comm]
theorem uF{fs:List (Int×List Wd)}:drG fs []=fs:=by unfold drG;simp
theorem wN{bs:List (Int×Int)}{gs:List Int}{t:Int}:brG bs (gs++[t])=(brG bs gs).filter λp=>decide (p.1≠t):=by
 unfold brG;rw[List.filter_filter];refine Oo λp _=>?_;simp[MS,not_or,Bool.and_comm]
theorem xK{bs:List (Int×Int)}{gs:List Int}{t:Int}(h:t∉gs):(brG bs gs).lookup t=bs.lookup t:=by
 unfold brG;induction bs with
 | nil=>rfl
 | cons p r ih =>
  obtain⟨a,b⟩:=p;rw[List.filter_cons];by_cases c:a∈gs
  ·rw[if_neg (by simpa using c),ih,NN]
   rw[show(t == a)=false from beq_eq_false_iff_ne.mpr λe=>h (by rw[e];exact c)]
  ·rw[if_pos (by simpa using c),NN,NN,ih]
theorem Dq{bs:List (Int×Int)}{t:Int}:hZ (bs.map bkv) (Sum.inl t)=(bs.filter λp=>decide (p.1≠t)).map bkv:=by
 unfold hZ;rw[Pl];congr 1
 refine Oo λp _=>?_;show decide (Sum.inl p.1≠(Sum.inl t:Key))=decide (p.1≠t);simp
theorem filter_none{bs:List (Int×Int)}{t:Int}(h:bs.lookup t=none):(bs.filter λp=>decide (p.1≠t))=bs:=List.filter_eq_self.mpr λp hp=>by simpa using lookup_none h p hp
theorem wO{bs:List (Int×Int)}{gs:List Int}{t:Int}:sdG bs (gs++[t])=sdG bs gs++(match bs.lookup t with|some v=>[v]|none=>[]):=by
 unfold sdG;rw[List.filterMap_append];congr 1
 cases e:bs.lookup t with
 | none=>simp[e]
 | some v=>simp[e]
structure Wk(H H4:Hp)(st mt:Addr)(rs:List (Option Int))(F:Int→List (Option Int))(S:List Int)(kvs:List (Key×V))(ms:List Int):Prop where
 sm:ay H H4
 hs:H4 st=some (.dK kvs)
 ky:Kys kvs ms
 nd:ms.Nodup
 sub:∀ m∈ms,m∈S
 snd:∀ m∈ms,Rc rs F m
 hm:H4 mt=some (.lst (ms.map V.int))
 rts:∀ t,some t∈rs→t∈ms
theorem Wk.same{H H4 H5:Hp}{st mt:Addr}{rs:List (Option Int)}{F:Int→List (Option Int)}{S:List Int}{kvs:List (Key×V)}{ms:List Int}(w:Wk H H4 st mt rs F S kvs ms)(k:ay H4 H5):Wk H H5 st mt rs F S kvs ms :=
 ⟨w.sm.trans k,k _ _ w.hs,w.ky,w.nd,w.sub,w.snd,k _ _ w.hm,w.rts⟩
theorem Wk.put{H H4:Hp}{st mt:Addr}{rs:List (Option Int)}{F:Int→List (Option Int)}{S:List Int}{kvs:List (Key×V)}{ms:List Int}(w:Wk H H4 st mt rs F S kvs ms)(h1:H st=none)(h2:H mt=none){n:Int}{v:V}(hn:n∉ms)(hS:n∈S)(hr:Rc rs F n) :
  Wk H (upd (upd H4 st (.dK (putK kvs (Sum.inl n) v))) mt (.lst (ms.map V.int++[.int n]))) st mt rs F S (putK kvs (Sum.inl n) v) (ms++[n]):=by
 have ne:st≠mt:=av w.hs w.hm (by intro z;cases z);refine⟨λb u q=>?_,?_,w.ky.snoc hn,?_,λm h=>?_,λm h=>?_,?_,λt h=>Nd _ (w.rts t h)⟩
 ·rw[ab (ao q h2),ab (ao q h1)]
  exact w.sm b u q
 ·rw[ab ne]
  exact ag
 ·rw[Of]
  exact⟨w.nd,by simp,λa ha b hb=>by rw[MO.mp hb];exact λe=>hn (by rw[←e];exact ha)⟩
 ·rcases MS.mp h with g|g
  ·exact w.sub m g
  ·rw[MO.mp g];exact hS
 ·rcases MS.mp h with g|g
  ·exact w.snd m g
  ·rw[MO.mp g];exact hr
 ·rw[MV]
  exact ag
theorem rF{ms:List Int}{n:Int}(nd:ms.Nodup)(hn:n∉ms):(ms++[n]).Nodup:=by
 rw[Of];exact⟨nd,by simp,λa ha b hb=>by rw[MO.mp hb];exact λe=>hn (by rw[←e];exact ha)⟩
theorem Fn{rs:List (Option Int)}{F:Int→List (Option Int)}{ms:List Int}(h0:∀ t,some t∈rs→t∈ms)(h1:∀ u∈ms,∀ t,some t∈F u→t∈ms){t:Int}(h:Rc rs F t):t∈ms:=by
 induction h with
 | root m=>exact h0 _ m
 | step _ m ih=>exact h1 _ ih _ m
noncomputable def A0:Sp:=λvs H Q _=>∃(v r d:Addr) (rs:List (Option Int)) (S:List Int) (F:Int→List (Option Int)) (ad:Int→Addr),vs=[.ref v]∧H v=some (.tup [.ref r,.ref d])∧H r=some (.lst (rs.map nmV))∧H d=some (.dK (S.map λt=>(Sum.inl t,.ref (ad t))))∧(∀ t∈S,H (ad t)=some (.lst ((F t).map nmV)))∧(∀ t,some t∈rs→t∈S)∧(∀ u∈S,∀ t,some t∈F u→t∈S)∧S.length≤10000∧∀ st kvs ms H',ay H H'→H st=none→H' st=some (.dK kvs)→Kys kvs ms→ms.Nodup→(∀ t,t∈ms↔Rc rs F t)→Q (.ref st) H'
noncomputable abbrev um:List Str:=["view", "steps", "place", "thing", "met", "done"]
theorem bw:au um ["view"] (aj gE):=fsc
theorem sJ(T:Txt w K mg D):Ok P w K mg base 1 D.gF ["view"] (A0):=by
 refine T.o1 "last_steps" bw λcdv A' outer s' H vs Q E hr h=>?_;obtain⟨v,r,d,rs,S,F,ad,rfl,ht,hrs,hd,qQ,hrt,hcl,CQ,k⟩:=h;have hu:=b7 hr;refine⟨_,(PSs.nox (ai (aD (i:=1) bw.nd rfl (Or.inl rfl) bY)
  (ai (bF Nl rfl (qJ rfl T.z (aa (a7 aX (pv 0) ar (λ_ _=>rfl)) aq)) (rQ rfl (dc (aN (i:=2) bw.nd rfl (Or.inl rfl)) (dc (aN (i:=3) bw.nd rfl (Or.inl rfl)) nu)))
   (ak (a6 (PW.pt (pw_and (aE fY (pv 3) bK (aO _)) (pw_and1 (cR (bV hu (pv 3) (pv 1)) (by with_unfolding_all rfl)))))
    (ak (cH hu (pv 1) (pv 3) (dU (aa bK (aa (pv 2) aq))) rfl))
    aI)))
  (ai (aD (i:=4) bw.nd rfl (Or.inl rfl) (cM (kz rfl) rfl T.z PyProof.Rows.Boot.«list» (aa (pv 1) aq)))
  (ai (aD (i:=5) bw.nd rfl (Or.inl rfl) ar)
  (ai (wq Nl (aE km (pv 5) (aP bM rfl T.z PyProof.Rows.Boot.«len» (aa (pv 4) aq)) (aO _))
   (ai (bF Nl rfl (qJ rfl T.z (aa (cS hu (a7 aX (pv 0) ar (λ_ _=>rfl)) (a7 dr (pv 4) (pv 5) (λ_ _=>rfl)) (λ_ _=>rfl)) aq)) (rQ rfl (dc (aN (i:=2) bw.nd rfl (Or.inl rfl)) (dc (aN (i:=3) bw.nd rfl (Or.inl rfl)) nu)))
    (ak (a6 (PW.pt (pw_and (aE fY (pv 3) bK (aO _)) (pw_and1 (cR (bV hu (pv 3) (pv 1)) (by with_unfolding_all rfl)))))
     (ai (cH hu (pv 1) (pv 3) (dU (aa (a7 dr (pv 4) (pv 5) (λ_ _=>rfl)) (aa (pv 2) aq))) rfl)
     (ak (az (uT PySem.F.plainAttrs_list PySem.F.slot_list_append PySem.F.type_list_append gp (pv 4) (aa (pv 3) aq)))))
     aI)))
   (ak (Bw (i:=5) bw.nd rfl (Or.inl rfl) ar Bx))))
  (ak (aG (pv 1))))))))),?_⟩
 refine λst hst=>?_;have s0:ay H (upd H st (.dK [])):=ay.upd hst;have kyS:Kys (S.map λt=>((Sum.inl t:Key),V.ref (ad t))) S:=by unfold Kys;rw[Ny];rfl
 have dgS:∀ {Hc:Hp},ay H Hc→∀ {t:Int},t∈S→eK Hc d (.int t) (some (.ref (ad t))):=λ{Hc} sc {t} m=>by
  have e:cE (S.map λt=>((Sum.inl t:Key),V.ref (ad t))) (Sum.inl t)=some (.ref (ad t)):=by
   clear kyS CQ hcl hrt qQ hd;induction S with
   | nil=>cases m
   | cons a r ih =>
    rw[Nz];by_cases c:a=t
    ·rw[de (by show Sum.inl a=Sum.inl t;rw[c]),c]
    ·rw[di (λz=>c (Sum.inl.inj z))]
     exact ih ((Nk.mp m).resolve_left λz=>c z.symm)
  exact .inl ⟨_,Sum.inl t,.inl (sc _ _ hd),rfl,e.symm⟩
 have few:∀ {kvs:List (Key×V)} {ms:List Int},Kys kvs ms→ms.Nodup→(∀ m∈ms,m∈S)→kvs.length<sizeLine:=λk nd h=>by rw[k.len];exact iB (Nh (ck nd h) (by omega))
 refine⟨_,rfl,v,_,0,.ref r,rfl,rfl,SqT.of (s0 _ _ ht),rfl,r,rfl,⟨_,SqL.of (s0 _ _ hrs)⟩,mQ (K:=K) (a:=r) (xs:=rs.map nmV) (λi σ H2=>∃(v2 v3:Option V) (kvs:List (Key×V)) (ms:List Int),σ=[some (.ref v),some (.ref st),v2,v3,none,none]∧ay H H2∧H2 st=some (.dK kvs)∧Kys kvs ms∧ms.Nodup∧(∀ m∈ms,m∈S)∧(∀ m∈ms,Rc rs F m)∧∀(j:Nat) t,j<i→rs[j]?=some (some t)→t∈ms)
  ⟨none,none,[],[],rfl,s0,ag,rfl,OA,(λt h=>nomatch h),(λt h=>nomatch h),(λj t h=>absurd h (O5 _))⟩ (λi σ H2 _ ⟨_,_,_,_,_,s2,_⟩=>SqL.of (s2 _ _ hrs)) ?_ ?_⟩
 ·rintro i x σ H2 t hx ⟨v2,v3,kvs,ms,rfl,s2,hs,ky,nd,sub,snd,eN⟩ htt
  have hi:i<rs.length:=by have:=(MQ.mp hx).1;rwa[MN]at this
  have ri:rs[i]?=some rs[i]:=MP hi;have hxe:x=nmV rs[i]:=by
   rw[MY,ri]at hx;exact(Nf hx).symm
  subst hxe;have s3:ay H2 (upd H2 t (.tup [.int (i:Int),nmV rs[i]])):=ay.upd htt;refine⟨t,_,rfl,SqT.of ag,rfl,_,_,rfl,_,_,rfl,rfl,?_⟩;cases hc:rs[i] with
  | none =>
   rw[hc]at s3 ri;refine⟨_,rfl,rfl,_,rfl,b8 (b8 ⟨_,_,kvs,ms,rfl,s2.trans s3,s3 _ _ hs,ky,nd,sub,snd,λj t hj e=>?_⟩)⟩;rcases Oa j i with z|z
   ·exact eN j t z e
   ·rw[show j=i by omega,ri]at e
    cases e
  | some n =>
   rw[hc]at s3 ri;have mr:=Na ri;refine⟨_,rfl,rfl,_,rfl,dt ⟨_,rfl,_,rfl,st,_,rfl,eK.k (k:=Sum.inl n) (s3 _ _ hs),_,rfl,?_⟩⟩;rw[ky.isS];by_cases hin:n∈ms
   ·rw[decide_eq_true hin]
    refine b8 ⟨_,_,kvs,ms,rfl,s2.trans s3,s3 _ _ hs,ky,nd,sub,snd,λj t hj e=>?_⟩;rcases Oa j i with z|z
    ·exact eN j t z e
    ·rw[show j=i by omega,ri]at e
     cases e;exact hin
   ·rw[decide_eq_false hin]
    refine dt ⟨_,rfl,by show 2≤sizeLine;decide,λu hu'=>?_⟩;have s4:=ay.upd (o:=.tup [V.non,V.int (i:Int)]) hu';refine⟨_,rfl,_,rfl,st,_,rfl,jx.k (k:=Sum.inl n) (s4 _ _ (s3 _ _ hs)) (few ky nd sub),_,_,putK kvs (Sum.inl n) (.ref u),ms++[n],rfl,λc u' g=>by rw[ab (ao g hst)];exact s4 _ _ (s3 _ _ (s2 c u' g)),ag,ky.snoc hin,rF nd hin,λm h=>?_,λm h=>?_,λj t hj e=>?_⟩
    ·rcases MS.mp h with g|g
     ·exact sub m g
     ·rw[MO.mp g];exact hrt n mr
    ·rcases MS.mp h with g|g
     ·exact snd m g
     ·rw[MO.mp g];exact .root mr
    ·rcases Oa j i with z|z
     ·exact Nd _ (eN j t z e)
     ·rw[show j=i by omega,ri]at e
      cases e;exact MX _ Nu
 ·rintro σ H2 ⟨v2,v3,kvs,ms,rfl,s2,hs,ky,nd,sub,snd,eN⟩
  refine⟨_,rfl,st,_,ms,rfl,.inl hs,ky,λmt hmt=>?_⟩;have s3:=ay.upd (o:=.lst (ms.map V.int)) hmt;have Io:H mt=none:=ay.none s2 hmt;refine⟨λm σ H4=>∃(dn:Nat) (v2 v3:Option V) (kvs:List (Key×V)) (ms:List Int),m=S.length+1-dn∧σ=[some (.ref v),some (.ref st),v2,v3,some (.ref mt),some (.int (dn:Int))]∧Wk H H4 st mt rs F S kvs ms∧(∀ u∈ms.take dn,∀ t,some t∈F u→t∈ms)∧dn≤ms.length,⟨_,0,v2,v3,kvs,ms,rfl,rfl,⟨s2.trans s3,s3 _ _ hs,ky,nd,sub,snd,ag,λt h=>?_⟩,(λu h=>nomatch h),NH _⟩,?_⟩
  ·obtain⟨j,hj⟩:=List.mem_iff_getElem?.mp h
   exact eN j t (by rw[MN];exact(MQ.mp hj).1) hj
  clear hs ky nd sub snd eN s3 s2;rintro m σ H4 ⟨dn,v2,v3,kvs,ms,rfl,rfl,W,don,hdl⟩;have ml:=ck W.nd W.sub;refine⟨_,rfl,_,rfl,mt,_,rfl,.inl (SqL.of W.hm),_,_,rfl,rfl,_,rfl,bu (λh=>?_) (λh=>?_)⟩
  ·have hd1:dn<ms.length:=by
    have h1:(dn:Int)<((ms.map V.int).length:Int):=(by simpa using h);rw[MN]at h1;omega
   refine⟨λσ' H'=>∃ m',m'<S.length+1-dn∧∃(dn:Nat) (v2 v3:Option V) (kvs:List (Key×V)) (ms:List Int),m'=S.length+1-dn∧σ'=[some (.ref v),some (.ref st),v2,v3,some (.ref mt),some (.int (dn:Int))]∧Wk H H' st mt rs F S kvs ms∧(∀ u∈ms.take dn,∀ t,some t∈F u→t∈ms)∧dn≤ms.length,λ_ _ h=>h,?_⟩;have tk:ms.take (dn+1)=ms.take dn++[ms[dn]]:=MT hd1;obtain⟨t,et⟩:∃ t,ms[dn]=t:=⟨_,rfl⟩;obtain⟨pre,Dr⟩:∃ pre,ms.take dn=pre:=⟨_,rfl⟩;rw[et,Dr]at tk;rw[Dr]at don;have Mn:pre.length=dn:=(by rw[←Dr,MZ];omega);have htm:t∈ms:=(by rw[←et];exact NK hd1);have hin:t∈S:=W.sub t htm;have at_:∀ {ns:List Int},ns.take (dn+1)=pre++[t]→ns[dn]?=some t:=λ{ns} e=>by
    have:(ns.take (dn+1))[dn]?=some t:=by rw[e,Oe (by omega),Mn,Nat.sub_self];rfl
    rwa[OR (Pf _)]at this
   have hat:∀ {ns:List Int},ns.take (dn+1)=pre++[t]→atI (ns.map V.int) (dn:Int)=some (.int t):=λe=>jw (by rw[MY,at_ e];rfl);have rw_:=qQ t hin;refine⟨_,rfl,v,_,1,.ref d,rfl,rfl,SqT.of (W.sm _ _ ht),rfl,_,rfl,_,rfl,mt,_,_,.int t,rfl,rfl,SqL.of W.hm,hat tk,d,_,rfl,dgS W.sm hin,ad t,rfl,⟨_,SqL.of (W.sm _ _ rw_)⟩,
    mQ (K:=K) (a:=ad t) (xs:=(F t).map nmV) (λj σ H6=>∃(v2 v3:Option V) (kvs:List (Key×V)) (ms:List Int),σ=[some (.ref v),some (.ref st),v2,v3,some (.ref mt),some (.int (dn:Int))]∧Wk H H6 st mt rs F S kvs ms∧ms.take (dn+1)=pre++[t]∧dn<ms.length∧(∀ u∈pre,∀ t,some t∈F u→t∈ms)∧∀(q:Nat) n,q<j→(F t)[q]?=some (some n)→n∈ms)
    ⟨v2,v3,kvs,ms,rfl,W,tk,hd1,don,(λq n h=>absurd h (O5 _))⟩ (λj σ H6 _ ⟨_,_,_,_,_,w6,_⟩=>SqL.of (w6.sm _ _ rw_)) ?_ ?_⟩
   ·clear W don hdl ml hd1 tk et Dr htm
    rintro j x σ H6 u hx ⟨v2,v3,kvs,ms,rfl,W,tk,hd1,don,eN⟩ hut;have hlj:j<(F t).length:=(by have:=(MQ.mp hx).1;rwa[MN]at this);have fj:(F t)[j]?=some (F t)[j]:=MP hlj;have hxe:x=nmV (F t)[j]:=by
     rw[MY,fj]at hx;exact(Nf hx).symm
    subst hxe;have htm:t∈ms:=Na (at_ tk);refine⟨u,_,rfl,SqT.of ag,rfl,_,_,rfl,_,_,rfl,rfl,?_⟩;cases hc:(F t)[j] with
    | none =>
     rw[hc]at fj;have s7:=ay.upd (o:=.tup [.int (j:Int),nmV none]) hut;refine⟨_,rfl,rfl,_,rfl,b8 (b8 ⟨_,_,kvs,ms,rfl,W.same s7,tk,hd1,don,λq n hq e=>?_⟩)⟩;rcases Oa q j with z|z
     ·exact eN q n z e
     ·rw[show q=j by omega,fj]at e
      cases e
    | some n =>
     rw[hc]at fj;have mf:=Na fj;have hk:n∈S:=hcl t hin n mf;have s7:=ay.upd (o:=.tup [.int (j:Int),nmV (some n)]) hut;have W7:=W.same s7;refine⟨_,rfl,rfl,_,rfl,dt ⟨_,rfl,_,rfl,st,_,rfl,eK.k (k:=Sum.inl n) W7.hs,_,rfl,?_⟩⟩;rw[W7.ky.isS];by_cases hn6:n∈ms
     ·rw[decide_eq_true hn6]
      refine b8 ⟨_,_,kvs,ms,rfl,W7,tk,hd1,don,λq n' hq e=>?_⟩;rcases Oa q j with z|z
      ·exact eN q n' z e
      ·rw[show q=j by omega,fj]at e
       cases e;exact hn6
     ·rw[decide_eq_false hn6]
      refine dt ⟨_,rfl,_,rfl,mt,_,_,.int t,rfl,rfl,SqL.of W7.hm,hat tk,_,rfl,by show 2≤sizeLine;decide,λu2 hu2=>?_⟩;have s8:=ay.upd (o:=.tup [V.int t,V.int (j:Int)]) hu2;have W8:=W7.same s8;have W9:=W8.put (v:=.ref u2) hst Io hn6 hk (.step (W.snd t htm) mf);have nms:mt≠st:=av W8.hm W8.hs (by intro z;cases z);have zm9:upd (upd (upd H6 u (.tup [.int (j:Int),nmV (some n)])) u2 (.tup [V.int t,V.int (j:Int)])) st (.dK (putK kvs (Sum.inl n) (.ref u2))) mt=some (.lst (ms.map V.int)):=(by rw[ab nms];exact W8.hm);refine⟨_,rfl,_,rfl,st,_,rfl,jx.k (k:=Sum.inl n) W8.hs (few W8.ky W8.nd W8.sub),?_⟩;refine⟨_,rfl,.inl ⟨rfl,_,SqL.of zm9⟩,_,rfl,mt,_,_,rfl,rfl,zm9,by rw[MN];exact iB (Nh (ck W8.nd W8.sub) (by omega)),?_⟩;refine⟨_,_,_,ms++[n],rfl,W9,by rw[O0 (by omega)];exact tk,by rw[M8];omega,λu h t' e=>Nd _ (don u h t' e),λq n' hq e=>?_⟩;rcases Oa q j with z|z
      ·exact Nd _ (eN q n' z e)
      ·rw[show q=j by omega,fj]at e
       cases e;exact MX _ Nu
   ·clear W don hdl ml hd1 tk et Dr htm
    rintro σ H6 ⟨v2,v3,kvs,ms,rfl,W,tk,hd1,don,eN⟩;rw[MN]at eN;have ml:=ck W.nd W.sub;refine⟨_,rfl,_,1,rfl,rfl,S.length+1-(dn+1),by omega,dn+1,v2,v3,kvs,ms,rfl,rfl,W,λu h t' e=>?_,hd1⟩;rw[tk]at h;rcases MS.mp h with g|g
    ·exact don u g t' e
    ·rw[MO.mp g]at e
     obtain⟨q,hq⟩:=List.mem_iff_getElem?.mp e;exact eN q t' (MQ.mp hq).1 hq
  ·have hge:ms.length≤dn:=by
    have h1:¬(dn:Int)<((ms.map V.int).length:Int):=(by simpa using h);rw[MN]at h1;omega
   rw[MW hge]at don;exact⟨_,rfl,k st kvs ms H4 W.sm hst W.hs W.ky W.nd λt=>⟨W.snd t,Fn W.rts don⟩⟩
end
end K72
end
section
namespace L2
open PySem PySem.Spec PyProof.Rows LX
section
variable{X:Cx}
noncomputable def Mo(H₀:Hp)(t:TS):TS:=λD σ H=>t {D with nx:=λσ1 H1=>∃ d o kvs,H1 d=some (.frz o (.dK kvs))∧(∀ o u,H₀ d≠some (.frz o u))∧D.nx σ1 (upd H1 d (.dK kvs))} σ H
theorem Ds{st:Stmt}{t:TS}(h:PS X st t):PS X st (Mo X.H₀ t):=by
 intro pins s σ H D I q;refine thn (h pins s σ H _ I q) λf s1 z=>?_;cases f with
 | next =>
  obtain⟨σ1,H1,I1,d,o,kvs,hd,h0,q⟩:=z;exact⟨σ1,_,I1.Ij hd h0 (by intro _ z;cases z) (by intro _ z;cases z) (by intro _ z;cases z),q⟩
 | ret v=>exact z
 | brk=>exact z
 | cont=>exact z
theorem Ew{n:Option Int}{zs:List Int}{f:Option Int→V}(hf:f none=.non)(hs:∀ t,f (some t)=.int t):inV (f n) (zs.map V.int)=(match n with|none=>false|some t=>decide (t∈zs)):=by
 unfold inV;cases n with
 | none =>
  rw[hf];show _=false;rw[List.any_map];refine List.any_eq_false.mpr λz _=>?_;simp[eqV]
 | some t =>
  rw[hs,List.any_map];show _=decide (t∈zs);induction zs with
  | nil=>rfl
  | cons a r ih =>
   rw[OU,ih];by_cases e:a=t
   ·subst e
    simp[eqV]
   ·have:(t∈a::r)↔t∈r:=by
     rw[Nk];exact⟨λh=>h.elim (λz=>absurd z.symm e) id,.inr⟩
    simp[eqV,e,this]
end
end L2
end
section
namespace K72
open PySem L2 LX
section
variable{P:Program}{w:World}{K:W.Frag}{mg:Str→Option Value}{base:Heap}{D:Ad}
theorem qR{H:Hp}{xs:List V}{ws:List Wd}(r:Rel H xs ws){i:Nat}{x:V}(h:xs[i]?=some x):∃ w,ws[i]?=some w∧WV H x w:=by
 have hi:=(MQ.mp h).1;have hw:i<ws.length:=by rw[←r.1];exact hi
 obtain⟨v,hv,wv⟩:=r.get hw;rw[hv]at h;cases h;exact⟨_,MP hw,wv⟩
noncomputable def JE:Sp:=λvs H Q _=>∃ v w d kvs S,vs=[v,.ref d]∧WV H v w∧Rd H d (.dK kvs)∧Kys kvs S∧Q (nmV (amg S w)) H
noncomputable abbrev sL:List Str:=["value", "things"]
theorem qE:au sL ["value", "things"] (aj se):=fsc
theorem iT(T:Txt w K mg D):Ok P w K mg base 2 D.sq ["value", "things"] (JE):=by
 refine T.o2 "thing_among" qE λcdv A' outer s' H vs Q E hr h=>?_;obtain⟨v,w,d,kvs,S,rfl,wv,hd,hk,k⟩:=h;have hu:=b7 hr;refine⟨_,(PSs.nox (ai (a6 (PW.pt (pw_and (aE kh ((kA T).c hr aV (aa (pv 0) aq)) fM (aO _)) (pw_and1 (cR (qe hu (a7 aX (pv 0) ar (λ_ _=>rfl)) (pv 1)) (by with_unfolding_all rfl)))))
   (ak (aG (a7 aX (pv 0) ar (λ_ _=>rfl))))
   aI)
  (ak (aG bK)))),?_⟩
 refine⟨_,rfl,v,w,rfl,wv,?_⟩;cases w with
 | no=>exact⟨rfl,_,rfl,bu (λh=>absurd h (NM.mp (by kernel_rfl))) (λ_=>b8 k)⟩
 | num n=>exact⟨rfl,_,rfl,bu (λh=>absurd h (NM.mp (by kernel_rfl))) (λ_=>b8 k)⟩
 | th t =>
  obtain⟨a,rfl,ht⟩:=wv;refine⟨rfl,_,rfl,bu (λ_=>?_) (λh=>absurd (by kernel_rfl) h)⟩;refine⟨_,rfl,a,_,1,.int t,rfl,rfl,SqT.of ht,rfl,_,rfl,d,_,rfl,.inl ⟨kvs,Sum.inl t,hd,rfl,rfl⟩,_,rfl,?_⟩;rw[hk.isS];by_cases c:t∈S
  ·rw[decide_eq_true c]
   rw[show amg S (.th t)=some t from if_pos c]at k;exact dt ⟨_,rfl,a,_,1,.int t,rfl,rfl,SqT.of ht,rfl,k⟩
  ·rw[decide_eq_false c]
   rw[show amg S (.th t)=none from if_neg c]at k;exact b8 k
noncomputable def Fo(D:Ad):Sp:=λvs H Q _=>∃ x A s l xs ws d kvs S,vs=[.ref x,.ref l,.ref d]∧IH D H x A s∧Good s∧H l=some (.lst xs)∧Rel H xs ws∧ws.length≤100000∧H d=some (.dK kvs)∧Kys kvs S∧(∀ t∈S,∃ ws,(t,ws)∈s.aC)∧S.Nodup∧S.length≤10000∧∀ st kv ms H',ay H H'→H st=none→H' st=some (.dK kv)→Kys kv ms→ms.Nodup→(∀ t,t∈ms↔Led ws (fld s) S t)→Q (.ref st) H'
noncomputable abbrev dQ:List Str:=["self", "leads", "things", "fields", "t"]
theorem dB:au dQ ["self", "leads", "things"] (aj dO):=fsc
theorem dC(T:Txt w K mg D):Ok P w K mg base 3 D.nQ ["self", "leads", "things"] (Fo D):=by
 refine T.o3 "Heap.led_among" dB λcdv A' outer s' H vs Q E hr h=>?_;obtain⟨x,A,s,l,xs,ws,d,kvs,S,rfl,J,G,hl,rx,hw,hd,hk,hin,hnd,CQ,k⟩:=h;have hu:=b7 hr;refine⟨_,(PSs.nox (ai (aD (i:=3) dB.nd rfl (Or.inl rfl) bY)
  (ai (bF Nl rfl (f7 (jB (pv 2))) (aN (i:=4) dB.nd rfl (Or.inl rfl))
   (ak (cH hu (pv 3) (pv 4) (ft (cl:=[("things",s'.heap.objs.size+1)]) (x := "value") (idx:=[2]) (NC:=["value", "things"]) ?co2 rfl (a9 (cS hu (aB (pv 0) rfl) (pv 4) (λ_ _=>rfl))) (λC fp s₀ H₀=>((iT T).c hr uX (aa (pv 0) (aa (pv 1) aq))))) rfl)))
  (ak (aG (BO ((sJ T).c hr aV (aa (dU (aa (ft (cl:=[("things",s'.heap.objs.size+1)]) (x := "value") (idx:=[2]) (NC:=["value", "things"]) ?co1 rfl (a9 (pv 1)) (λC fp s₀ H₀=>((iT T).c hr uX (aa (pv 0) (aa (pv 1) aq))))) (aa (pv 3) aq))) aq)))))))),?_⟩
 case co1 =>
  exact cB (sc:=aj dO) (N:=dQ) (ns:=["things"]) rfl rfl rfl (by decide +kernel) rfl rfl (by
   intro q hq;rw[MO.mp hq];rfl)
 case co2 =>
  exact cB (sc:=aj dO) (N:=dQ) (ns:=["things"]) rfl rfl rfl (by decide +kernel) rfl rfl (by
   intro q hq;rw[MO.mp hq];rfl)
 intro fa hfa;have s1:=ay.upd (o:=.dK []) hfa;refine⟨_,rfl,d,kvs,s1 _ _ hd,λo=>?_⟩;have nfd:fa≠d:=Nv (ao hd hfa);have xd:x≠d:=av J.ax hd (by intro z;cases z);have ld:l≠d:=av hl hd (by intro z;cases z);have okH:∀ Hc:Hp,((∀ b u,b≠d→H b=some u→Hc b=some u)∧Hc d=some (.frz o (.dK kvs)))→bE H Hc:=λHc oc b us q=>oc.1 b _ (av q hd (by intro z;cases z)) q;have dg:∀ {Hc:Hp},((∀ b u,b≠d→H b=some u→Hc b=some u)∧Hc d=some (.frz o (.dK kvs)))→∀ {t:Int} {ws:List Wd},(t,ws)∈s.aC→eK Hc A.fh (.int t) (some (.ref (A.fa t))):=λ{Hc} oc {t ws} m=>by
  have e:cE (s.aC.map (fkv A)) (Sum.inl t)=some (.ref (A.fa t)):=by rw[BQ,G.get m];rfl
  by_cases c:A.fh=d
  ·have ek:kvs=s.aC.map (fkv A):=by
    have:=J.afh
    rw[c,hd]at this;injection this with this;injection this
   exact .inl ⟨kvs,Sum.inl t,.inr ⟨o,by rw[c];exact oc.2⟩,rfl,by rw[ek,e]⟩
  ·exact .inl ⟨_,Sum.inl t,.inl (oc.1 _ _ c J.afh),rfl,e.symm⟩
 have lk:=hk.len;refine⟨d,o,kvs,rfl,ag,i4 (d:=d) (o:=o) (kvs:=kvs) (λi σ Hc=>∃(v4:Option V) (ad:Int→Addr),σ=[some (.ref x),some (.ref l),some (.ref d),some (.ref fa),v4]∧((∀ b u,b≠d→H b=some u→Hc b=some u)∧Hc d=some (.frz o (.dK kvs)))∧Hc fa=some (.dK ((S.take i).map λt=>(Sum.inl t,.ref (ad t))))∧∀ t∈S.take i,Hc (ad t)=some (.lst (((fld s t).map (amg S)).map nmV)))
  ⟨none,λ_=>0,rfl,⟨λb u n q=>by rw[ab n];exact s1 b u q,ag⟩,by rw[ab nfd];exact ag,(λt h=>nomatch h)⟩ (λi σ Hc _ ⟨_,_,_,oc,_⟩=>oc.2) ?_ ?_⟩
 ·rintro i p σ Hc hi ⟨v4,ad,rfl,oc,hf,qQ⟩
  obtain⟨t,ht,ekv,ep⟩:=hk.at_ hi;have hlt:i<S.length:=(MQ.mp ht).1;have et:S[i]=t:=(MQ.mp ht).2;have mt:t∈S:=Na ht;obtain⟨w0,m⟩:=hin t mt;obtain⟨hl0,rl⟩:=J.afl _ _ m;have tc:=okH Hc oc;have fm:=G.fld m;rw[←fm]at rl;have nl:A.fa t≠d:=av hl0 hd (by intro z;cases z);have hlc:=oc.1 _ _ nl hl0;have f6:=G.f6 _ _ m;rw[←fm]at f6;have lz:(fld s t).length≤sizeLine:=fe (by omega);refine⟨_,rfl,x,D.ah,_,_,.ref A.fh,rfl,oc.1 _ _ xd J.ax,T.ae,T.n,gJ,_,rfl,A.fh,.ref (A.fa t),rfl,(by rw[ekv];exact dg oc m),A.fa t,rfl,⟨_,SqL.of hlc⟩,λL hL=>?_⟩;refine d7 (K:=K) (a:=A.fa t) (xs:=A.fx t) (λi ys H2=>ys=((fld s t).take i).map (λw=>nmV (amg S w))∧ay Hc H2∧H2 L=some (.lst ys)) ⟨rfl,ay.upd hL,ag⟩ (λi ys H2 hi ⟨e,_,z⟩=>⟨z,by rw[e,MN,MZ,←rl.1];omega⟩) (λi ys H2 hi ⟨_,s2,_⟩=>SqL.of (s2 _ _ hlc)) (by rw[rl.1];exact lz) (λi y ys H2 hi ⟨e,s2,z⟩=>?_) (λys H2 ⟨e,s2,z⟩=>?_)
  ·obtain⟨wd,hw,wv⟩:=qR rl hi
   refine⟨_,rfl,_,rfl,y,wd,d,kvs,S,rfl,wv.keep (tc.trans (bE.of s2)),.inr ⟨o,s2 _ _ oc.2⟩,hk,z,?_,λb u q=>by rw[ab (ao q hL)];exact s2 b u q,ag⟩;have hlt:i<(fld s t).length:=(MQ.mp hw).1;rw[MT hlt,MV,e,(MQ.mp hw).2];rfl
  ·rw[rl.1,MW (MR _)]at e
   have zf:H2 fa=some (.dK ((S.take i).map λt=>(Sum.inl t,.ref (ad t)))):=s2 _ _ hf;have kyf:Kys ((S.take i).map λt=>((Sum.inl t:Key),V.ref (ad t))) (S.take i):=(by unfold Kys;rw[Ny];rfl);have ni:t∉S.take i:=λz=>by
    have:=Of.mp (show(S.take i++S.drop i).Nodup by rw[Np];exact hnd)
    exact this.2.2 t z t (by rw[NY hlt,et];exact Nu) rfl
   have nLf:L≠fa:=Nv (ao hf hL);refine⟨_,rfl,_,rfl,fa,_,rfl,(by rw[ekv];exact jx.k (k:=Sum.inl t) zf (by rw[MN,MZ];exact iB (by omega))),?_⟩;rw[dM _ (kyf.non ni)];refine⟨_,λu=>if u=t then L else ad u,rfl,⟨λb u n q=>?_,?_⟩,?_,λu hu'=>?_⟩
   ·rw[ab (ao q hfa)]
    exact s2 _ _ (oc.1 b u n q)
   ·rw[ab (Nv nfd)]
    exact s2 _ _ oc.2
   ·rw[ag,MT hlt,MV,et]
    congr 3
    ·refine NG λu hu'=>?_
     dsimp only;rw[if_neg λz=>ni (by rw[←z];exact hu')]
    ·simp only[Nz,Oy,if_true]
   ·rw[MT hlt,et]at hu'
    dsimp only;by_cases c:u=t
    ·subst c
     rw[if_pos rfl,ab nLf,z,e,Ny];rfl
    ·rw[if_neg c]
     have mu:u∈S.take i:=(MS.mp hu').resolve_right λz=>c (MO.mp z);have q:=qQ u mu;rw[ab (λz=>by rw[z,hf]at q;cases q)];exact s2 _ _ q
 ·rintro σ Hc ⟨v4,ad,rfl,oc,hf,qQ⟩
  rw[lk,MW (MR _)]at hf qQ;have tc:=okH Hc oc;have hlc:=oc.1 _ _ ld hl;have lz:ws.length≤sizeLine:=Nh hw (by decide);have rl:=rx;refine⟨_,rfl,l,rfl,⟨_,SqL.of hlc⟩,λL hL=>?_⟩;refine d7 (K:=K) (a:=l) (xs:=xs) (λi ys H2=>ys=(ws.take i).map (λw=>nmV (amg S w))∧ay Hc H2∧H2 L=some (.lst ys)) ⟨rfl,ay.upd hL,ag⟩ (λi ys H2 hi ⟨e,_,z⟩=>⟨z,by rw[e,MN,MZ,←rl.1];omega⟩) (λi ys H2 hi ⟨_,s2,_⟩=>SqL.of (s2 _ _ hlc)) (by rw[rl.1];exact lz) (λi y ys H2 hi ⟨e,s2,z⟩=>?_) (λys H2 ⟨e,s2,z⟩=>?_)
  ·obtain⟨wd,hw,wv⟩:=qR rl hi
   refine⟨_,rfl,_,rfl,y,wd,d,kvs,S,rfl,wv.keep (tc.trans (bE.of s2)),.inr ⟨o,s2 _ _ oc.2⟩,hk,z,?_,λb u q=>by rw[ab (ao q hL)];exact s2 b u q,ag⟩;have hlt:i<ws.length:=(MQ.mp hw).1;rw[MT hlt,MV,e,(MQ.mp hw).2];rfl
  ·rw[rl.1,MW (MR _)]at e
   refine⟨_,rfl,by show 2≤sizeLine;decide,λv hv=>?_⟩;have s3:=ay.upd (o:=.tup [V.ref L,V.ref fa]) hv;have s4:=s2.trans s3;have bk:∀ {b:Addr},upd H2 v (.tup [V.ref L,V.ref fa]) b=none→H b=none:=λ{b} q=>by
    cases z:H b with
    | none=>rfl
    | some u =>
     by_cases c:b=d
     ·rw[c,s4 _ _ oc.2]at q;cases q
     ·rw[s4 _ _ (oc.1 b u c z)]at q;cases q
   refine⟨v,L,fa,ws.map (amg S),S,λt=>(fld s t).map (amg S),ad,rfl,ag,by rw[s3 _ _ z,e,Ny];rfl,s4 _ _ hf,λt m=>s4 _ _ (qQ t m),λt m=>?_,λu _ t m=>?_,CQ,λst kv ms H5 s5 hst h5 k5 n5 m5=>?_⟩
   ·obtain⟨w,_,ew⟩:=Nc.mp m
    exact(gC.mp ew).2
   ·obtain⟨w,_,ew⟩:=Nc.mp m
    exact(gC.mp ew).2
   ·have fd5:=s5 _ _ (s4 _ _ oc.2)
    refine⟨d,o,kvs,fd5,(λo' u' q=>by have q:H d=some (.frz o' u'):=q;rw[hd]at q;cases q),?_⟩;have nst:st≠d:=λq=>by rw[q,fd5]at h5;cases h5
    refine k st kv ms _ (λb u q=>?_) (bk hst) (by rw[ab nst];exact h5) k5 n5 λt=>(m5 t).trans Fm;by_cases c:b=d
    ·subst c
     rw[hd]at q;cases q;exact ag
    ·rw[ab c]
     exact s5 _ _ (s4 _ _ (oc.1 b u c q))
theorem lookup_mem{α:Type}{fs:List (Int×α)}{t:Int}{w:α}(m:(t,w)∈fs):∃ v,fs.lookup t=some v:=by
 cases e:fs.lookup t with
 | some v=>exact⟨v,rfl⟩
 | none=>exact absurd rfl (lookup_none e _ m)
theorem eZ(gs:List Int):(gs.map V.int).all dj=true:=Oq.mpr λv hv=>by obtain⟨n,_,rfl⟩:=Nc.mp hv;rfl
theorem Dt(n:Option Int):dj (nmV n)=true:=by cases n<;>rfl
theorem u4{gs:List Int}(h:gs.Pairwise (·< ·)){i:Nat}{t:Int}(e:gs[i]?=some t):t∉gs.take i:=λm=>by
 have hlt:=(MQ.mp e).1;have et:=(MQ.mp e).2
 have:=Nq.mp (show(gs.take i++gs.drop i).Pairwise (·< ·) by rw[Np];exact h)
 have:=this.2.2 t m t (by rw[NY hlt,et];exact Nu)
 omega
theorem take_snoc{α:Type}{gs:List α}{i:Nat}{t:α}(e:gs[i]?=some t):gs.take (i+1)=gs.take i++[t]:=by rw[MT (MQ.mp e).1,(MQ.mp e).2]
theorem BU(bs:List (Int×Int))(gs:List Int):(sdG bs gs).length≤gs.length:=OT _ _
noncomputable def Du(D:Ad):Sp:=λvs H Q _=>∃ x A s g gs,vs=[.ref A.nt,.ref g]∧IH D H x A s∧s.names.length=8∧H g=some (.lst (gs.map V.int))∧∀ A' H',IH D H' x A' {s with names:=s.names.map (nmG gs)}→Fr (aJ x A s) H (aJ x A' {s with names:=s.names.map (nmG gs)}) H'→Q .non H'
noncomputable abbrev eU:List Str:=["self", "things"]
theorem jb:au eU ["self", "things"] (aj eO):=fsc
theorem jc(T:Txt w K mg D):Ok P w K mg base 1 D.jT ["self", "things"] (Du D):=by
 refine T.o2 "NameTable.settle" jb λcdv A' outer s' H vs Q E hr h=>?_;obtain⟨x,A,s,g,gs,rfl,J,h8,hg,k⟩:=h;refine⟨_,(PSs.nox (ak (cj (pv 0) (ft (cl:=[("things",s'.heap.objs.size+1)]) (x := "t") (idx:=[1]) (NC:=["t", "things"]) ?co1 rfl (a9 (aB (pv 0) rfl)) (λC fp s₀ H₀=>(iY (aE (r:=rIn K false) tD (pv 0) (pv 1) (by with_unfolding_all rfl)) bK (pv 0)))) rfl))),?_⟩
 case co1 =>
  exact cB (sc:=aj eO) (N:=eU) (ns:=["things"]) rfl rfl rfl (by decide +kernel) rfl rfl (by
   intro q hq;rw[MO.mp hq];rfl)
 refine⟨_,rfl,A.nt,D.aK,A.ntx,_,.ref A.nl,rfl,J.ant,T.bh,T.n,rfl,A.nl,rfl,⟨_,SqL.of J.anl⟩,λL hL=>?_⟩;refine d7 (K:=K) (a:=A.nl) (xs:=s.names.map nmV) (λi zs H2=>zs=((s.names.take i).map (nmG gs)).map nmV∧ay H H2∧H2 L=some (.lst zs)) ⟨rfl,ay.upd hL,ag⟩ (λi zs H2 hi ⟨e,_,z⟩=>⟨z,by rw[MN]at hi;rw[e,MN,MN,MZ];omega⟩) (λi zs H2 hi ⟨_,s2,_⟩=>SqL.of (s2 _ _ J.anl)) (by rw[MN,h8];decide) (λi y zs H2 hi ⟨e,s2,z⟩=>?_) (λzs H2 ⟨e,s2,z⟩=>?_)
 ·rw[MY]at hi
  obtain⟨n,hn,rfl⟩:=Ng.mp hi;have tk:=take_snoc hn;refine⟨_,rfl,_,rfl,g,_,rfl,.inl (SqL.of (s2 _ _ hg)),Dt n,eZ gs,_,rfl,?_⟩;have sm:∀ {o:HO},ay H (upd H2 L o):=λb u q=>by rw[ab (ao q hL)];exact s2 b u q
  show if inV (nmV n) (gs.map V.int)=true then _ else _;rw[Ew (f:=nmV) rfl (λ_=>rfl),tk,e];cases n with
  | none =>
   refine b8 ⟨_,rfl,z.trans (by rw[e]),?_,sm,ag⟩;rw[MV,MV];rfl
  | some t =>
   show if decide (t∈gs)=true then _ else _;by_cases c:t∈gs
   ·rw[decide_eq_true c]
    refine dt ⟨z.trans (by rw[e]),?_,sm,ag⟩;rw[MV,MV];simp[nmG,c,nmV]
   ·rw[decide_eq_false c]
    refine b8 ⟨_,rfl,z.trans (by rw[e]),?_,sm,ag⟩;rw[MV,MV];simp[nmG,c,nmV]
 ·rw[MN,MW (MR _)]at e
  rw[e]at z;refine⟨_,rfl,A.nt,D.aK,A.ntx,_,rfl,s2 _ _ J.ant,T.bh,T.n,by show 1<1000;decide,?_⟩;have w:=J.Mm (ns:=s.names.map (nmG gs)) hL;have sm:ay (upd (upd H L (.lst ((s.names.map (nmG gs)).map nmV))) A.nt (.ins D.aK A.ntx [("things_named",.ref L)])) (upd H2 A.nt (.ins D.aK A.ntx [("things_named",.ref L)])):=λb u q=>by
   by_cases c:b=A.nt
   ·rw[c,ag]at q ⊢;exact q
   ·rw[ab c]at q ⊢
    by_cases c2:b=L
    ·rw[c2,ag]at q;rw[c2,z];exact q
    ·rw[ab c2]at q;exact s2 b u q
  exact k _ _ (w.1.same sm) (w.2.trans (Fr.same sm))
noncomputable def wsF(s:HS)(gs:List Int):HS:={s with aR:=brG s.aR gs,hV:=s.hV++sdG s.aR gs}
theorem yA{s:HS}:wsF s []=s:=by cases s;simp[wsF,brG,sdG]
noncomputable def Dv(D:Ad):Sp:=λvs H Q _=>∃ x A s g gs,vs=[.ref A.wt,.ref g]∧IH D H x A s∧H g=some (.lst (gs.map V.int))∧gs.Pairwise (·< ·)∧gs.length≤10000∧s.hV.length≤10000∧∀ A' H',IH D H' x A' (wsF s gs)→Fr (aJ x A s) H (aJ x A' (wsF s gs)) H'→Q .non H'
noncomputable abbrev j4:List Str:=["self", "things", "t"]
theorem eD:au j4 ["self", "things"] (aj jP):=fsc
theorem jd(T:Txt w K mg D):Ok P w K mg base 1 D.jS ["self", "things"] (Dv D):=by
 refine T.o2 "WordTable.settle" eD λcdv A' outer s' H vs Q E hr h=>?_;obtain⟨x,A,s,g,gs,rfl,J,hg,asc,hn,hsd,k⟩:=h;have hu:=b7 hr;refine⟨_,(PSs.nox (ak (bF Nl rfl (a9 (aP vx rfl T.z PyProof.Rows.Boot.«sorted» (aa (pv 1) aq))) (aN (i:=2) eD.nd rfl (Or.inl rfl))
   (ak (a6 (cR (qe hu (pv 2) (aB (pv 0) rfl)) (by with_unfolding_all rfl))
    (ak (az (uT PySem.F.plainAttrs_list PySem.F.slot_list_append PySem.F.type_list_append gp (aB (pv 0) rfl) (aa (rq (aB (pv 0) rfl) (pv 2) ⟨rfl,rfl,rfl,rfl⟩) aq))))
    aI))))),?_⟩
 refine⟨_,rfl,g,gs,rfl,SqL.of hg,by omega,asc.imp λh=>NZ h,λp hp=>?_⟩;have s1:=ay.upd (o:=.lst (gs.map V.int)) hp;have J1:=J.same s1;have nfp:¬aJ x A s p:=J.fresh hp;refine⟨p,rfl,⟨_,SqL.of ag⟩,cg (K:=K) (a:=p) (xs:=gs.map V.int) (λi σ H2=>∃ v2,σ=[some (.ref A.wt),some (.ref g),v2]∧IH D H2 x A (wsF s (gs.take i))∧Fr (aJ x A s) (upd H p (.lst (gs.map V.int))) (aJ x A (wsF s (gs.take i))) H2)
  ⟨none,rfl,(by rw[OB,yA];exact J1),(by rw[OB,yA];exact Fr.refl)⟩ (λi σ H2 _ ⟨_,_,_,fr⟩=>SqL.of (fr.out nfp ag).1) ?_ ?_⟩
 ·rintro i y σ H2 hi ⟨v2,rfl,J2,fr⟩
  rw[MY]at hi;obtain⟨t,ht,rfl⟩:=Ng.mp hi;have ni:=u4 asc ht;have tk:=take_snoc ht;have hi':=(MQ.mp ht).1;have lk:(brG s.aR (gs.take i)).lookup t=s.aR.lookup t:=xK ni;have vb:cE ((wsF s (gs.take i)).aR.map bkv) (Sum.inl t)=(s.aR.lookup t).map V.int:=by rw[Il];show((brG s.aR (gs.take i)).lookup t).map V.int=_;rw[lk]
  refine⟨_,rfl,_,rfl,A.wt,D.aW,A.wtx,_,.ref A.wb,rfl,J2.awt,T.aY,T.n,rfl,A.wb,_,rfl,eK.k (k:=Sum.inl t) J2.awb,_,rfl,?_⟩;rw[vb,Ow];cases e:s.aR.lookup t with
  | none =>
   have es:wsF s (gs.take (i+1))=wsF s (gs.take i):=by
    unfold wsF;rw[tk,wN,wO,e,filter_none (by rw[lk];exact e)];simp
   rw[es];exact b8 ⟨_,rfl,J2,fr⟩
  | some v =>
   have es:wsF s (gs.take (i+1))={wsF s (gs.take i) with aR:=(brG s.aR (gs.take i)).filter λp=>decide (p.1≠t),hV:=(s.hV++sdG s.aR (gs.take i))++[v]}:=by
    unfold wsF;rw[tk,wN,wO,e];simp
   rw[es];rw[e]at vb;refine dt ⟨_,rfl,A.wt,D.aW,A.wtx,_,.ref A.wl,rfl,J2.awt,T.aY,T.n,rfl,.inl ⟨rfl,_,SqL.of J2.awl⟩,?_⟩;refine⟨_,rfl,A.wt,D.aW,A.wtx,_,.ref A.wb,rfl,J2.awt,T.aY,T.n,rfl,A.wb,rfl,.inl ⟨_,.inl J2.awb⟩,_,rfl,_,Sum.inl t,.int v,J2.awb,rfl,vb,?_⟩;rw[show hZ ((wsF s (gs.take i)).aR.map bkv) (Sum.inl t)=((brG s.aR (gs.take i)).filter λp=>decide (p.1≠t)).map bkv from Dq];have w1:=J2.Km (bs:=(brG s.aR (gs.take i)).filter λp=>decide (p.1≠t));have w2:=w1.1.Me (zs:=(s.hV++sdG s.aR (gs.take i))++[v]);refine⟨A.wl,_,.int v,rfl,rfl,w1.1.awl,iB ?_,?_⟩
   ·have:=BU s.aR (gs.take i)
    rw[MZ]at this;show((s.hV++sdG s.aR (gs.take i)).map V.int).length≤20000;rw[MN,M8];omega
   ·rw[MV]at w2
    exact⟨_,rfl,w2.1,(fr.trans w1.2).trans w2.2⟩
 ·rintro σ H2 ⟨v2,rfl,J2,fr⟩
  rw[MN,MW (MR _)]at J2 fr;exact k _ _ J2 ((Fr.same s1).trans fr)
noncomputable def A5(D:Ad):Sp:=λvs H Q _=>∃ x A s g gs,vs=[.ref x,.ref g]∧IH D H x A s∧s.names.length=8∧¬aJ x A s g∧H g=some (.lst (gs.map V.int))∧gs.Pairwise (·< ·)∧gs.length≤10000∧s.hV.length≤10000∧(∀ t∈gs,∃ ws,(t,ws)∈s.aC)∧∀ A' H',IH D H' x A' (letGo s gs)→Fr (aJ x A s) H (aJ x A' (letGo s gs)) H'→Q .non H'
noncomputable abbrev sM:List Str:=["self", "gone", "t"]
theorem iU:au sM ["self", "gone"] (aj r6):=fsc
theorem iV(T:Txt w K mg D):Ok P w K mg base 2 D.so ["self", "gone"] (A5 D):=by
 refine T.o2 "Heap.let_go" iU λcdv A' outer s' H vs Q E hr h=>?_;obtain⟨x,A,s,g,gs,rfl,J,h8,nfg,hg,asc,hn,hsd,hin,k⟩:=h;refine⟨_,(PSs.nox (ai (bF Nl rfl (a9 (pv 1)) (aN (i:=2) iU.nd rfl (Or.inl rfl))
   (ak (az (rq (aB (pv 0) rfl) (pv 2) ⟨rfl,rfl,rfl,rfl⟩))))
  (ai (az ((jc T).m T.bh hr (aB (pv 0) rfl) aV (aa (pv 1) aq)))
  (ak (az ((jd T).m T.aY hr (aB (pv 0) rfl) aV (aa (pv 1) aq))))))),?_⟩
 refine⟨_,rfl,g,rfl,⟨_,SqL.of hg⟩,cg (K:=K) (a:=g) (xs:=gs.map V.int) (λi σ H2=>∃ v2,σ=[some (.ref x),some (.ref g),v2]∧IH D H2 x A {s with aC:=drG s.aC (gs.take i)}∧Fr (aJ x A s) H (aJ x A {s with aC:=drG s.aC (gs.take i)}) H2)
  ⟨none,rfl,(by rw[OB,uF];exact J),(by rw[OB,uF];exact Fr.refl)⟩ (λi σ H2 _ ⟨_,_,_,fr⟩=>SqL.of (fr.out nfg hg).1) ?_ ?_⟩
 ·rintro i y σ H2 hi ⟨v2,rfl,J2,fr⟩
  rw[MY]at hi;obtain⟨t,ht,rfl⟩:=Ng.mp hi;have ni:=u4 asc ht;have tk:=take_snoc ht;obtain⟨ws,m⟩:=hin t (Na ht);obtain⟨v,hv⟩:=lookup_mem (bO.mpr ⟨m,ni⟩);have vf:cE ((drG s.aC (gs.take i)).map (fkv A)) (Sum.inl t)=some (.ref (A.fa t)):=by rw[BQ,hv];rfl
  refine⟨_,rfl,x,D.ah,_,_,.ref A.fh,rfl,J2.ax,T.ae,T.n,gJ,A.fh,rfl,.inl ⟨_,.inl J2.afh⟩,_,rfl,_,Sum.inl t,_,J2.afh,rfl,vf,?_⟩;have w:=J2.JD (t:=t);rw[Dp];rw[tk,AZ];exact⟨_,rfl,w.1,fr.trans w.2⟩
 ·rintro σ H2 ⟨v2,rfl,J2,fr⟩
  rw[MN,MW (MR _)]at J2 fr;obtain⟨hg2,nf2⟩:=fr.out nfg hg;refine⟨_,rfl,x,D.ah,_,_,.ref A.nt,rfl,J2.ax,T.ae,T.n,Ah,A.nt,A.ntx,_,rfl,J2.ant,rfl,_,rfl,x,A,_,g,gs,rfl,J2,h8,hg2,λA3 H3 J3 fr3=>?_⟩;obtain⟨hg3,nf3⟩:=fr3.out nf2 hg2;refine⟨_,rfl,x,D.ah,_,_,.ref A3.wt,rfl,J3.ax,T.ae,T.n,Et,A3.wt,A3.wtx,_,rfl,J3.awt,rfl,_,rfl,x,A3,_,g,gs,rfl,J3,hg3,asc,hn,hsd,λA4 H4 J4 fr4=>?_⟩;exact k A4 H4 J4 ((fr.trans fr3).trans fr4)
noncomputable def wQ(fs:List (Int×List Wd))(yn:List Int):List Wd:=fs.flatMap λq=>if q.1∈yn then[] else q.2
noncomputable def sS(s:HS):List Wd:=s.aL++wQ s.aC s.yng
theorem tL{fs:List (Int×List Wd)}{q:Int×List Wd}{yn:List Int}:wQ (fs++[q]) yn=wQ fs yn++(if q.1∈yn then[] else q.2):=by unfold wQ;rw[List.flatMap_append];simp
theorem yB{fs:List (Int×List Wd)}{yn:List Int}(h:∀ t ws,(t,ws)∈fs→ws.length≤6):(wQ fs yn).length≤6*fs.length:=by
 induction fs with
 | nil=>exact MR _
 | cons q r ih =>
  have i:=ih λt ws m=>h t ws (Nn _ m)
  have:=h q.1 q.2 Nu
  show((if q.1∈yn then[] else q.2)++wQ r yn).length≤6*(r.length+1);rw[M8];by_cases c:q.1∈yn
  ·rw[if_pos c];simp;omega
  ·rw[if_neg c];omega
theorem A7{fs:List (Int×List Wd)}{yn:List Int}{w:Wd}:w∈wQ fs yn↔∃ t ws,(t,ws)∈fs∧t∉yn∧w∈ws:=by
 unfold wQ;rw[List.mem_flatMap];constructor
 ·rintro⟨q,mq,h⟩
  by_cases c:q.1∈yn
  ·rw[if_pos c]at h;cases h
  ·rw[if_neg c]at h;exact⟨q.1,q.2,mq,c,h⟩
 ·rintro⟨t,ws,m,c,h⟩
  exact⟨(t,ws),m,by rw[if_neg c];exact h⟩
open Classical in
noncomputable def cU(s:HS):List Int:=s.yng.filter λt=>decide (¬Led (sS s) (fld s) s.yng t)
noncomputable def bz(s:HS):HS:=letGo {s with yng:=[]} (cU s)
open Classical in
noncomputable def qS(s:HS):List Int:=(keys s).filter λt=>decide (¬Led s.aL (fld s) (keys s) t)
noncomputable def qj(s:HS):HS:={s with rnd:=true,aF:=qS s}
noncomputable def mM(s:HS):Re:=if s.rnd=true then(some .on,s) else(none,qj (bz s))
noncomputable def qk(s:HS):HS:=letGo {s with rnd:=false,aF:=[]} s.aF
noncomputable def As(s:HS):Re:=if s.rnd=true then(none,qk s) else(some .no,s)
open Classical in
noncomputable def gD(s:HS)(t:Int):HS:={s with aF:=s.aF.filter λu=>decide (¬Led [.th t] (fld s) s.aF u)}
noncomputable def rdR(s:HS)(n:Option Int):HS:=match n with|some t=>if t∈s.aF then gD s t else s|none=>s
noncomputable def bA(s:HS)(h w:Int):Re:=if ok8 h then(if ok8 w then(none,rdR (eR s h (nmW (s.names.getD w.toNat none))) (s.names.getD w.toNat none)) else(some .name,s)) else(some .hand,s)
noncomputable def mkR(s:HS)(n:Int):HS:=if s.my=true∧wsum s s.yng+(n+1)>s.room then bz s else s
noncomputable def bp(s:HS)(h n:Int):Re:=if ok8 h then(if 0≤n∧n≤6 then(if held (mkR s n)+(n+1)>s.limit then(some .room,mkR s n) else(none,tK (mkR s n) h n)) else(some .count,s)) else(some .hand,s)
theorem eX{l ms:List Int}{p:Int→Bool}(h:∀ t∈l,(p t=true↔t∉ms)):l.filter p=l.filter λt=>decide (t∉ms):=Oo λt m=>by
 have:=h t m
 by_cases c:t∈ms
 ·simp only[c,not_true,decide_false]
  cases e:p t with
  | false=>rfl
  | true=>exact absurd (this.mp e) (by simp[c])
 ·simp only[c,not_false_eq_true,decide_true]
  exact this.mpr c
open Classical in
theorem zQ{s:HS}{ms:List Int}(h:∀ t,t∈ms↔Led (sS s) (fld s) s.yng t):(s.yng.filter λt=>decide (t∉ms))=cU s:=by
 unfold cU;refine(eX λt _=>?_).symm;rw[decide_eq_true_iff,h]
open Classical in
theorem A8{s:HS}{ms:List Int}(h:∀ t,t∈ms↔Led s.aL (fld s) (keys s) t):((keys s).filter λt=>decide (t∉ms))=qS s:=by
 unfold qS;refine(eX λt _=>?_).symm;rw[decide_eq_true_iff,h]
open Classical in
theorem A9{s:HS}{t:Int}{ms:List Int}(h:∀ u,u∈ms↔Led [.th t] (fld s) s.aF u):{s with aF:=s.aF.filter λu=>decide (u∉ms)}=gD s t:=by
 unfold gD;congr 1
 refine(eX λu _=>?_).symm;rw[decide_eq_true_iff,h]
theorem Dw{H:Hp}{xs ys:List V}{ws zs:List Wd}(a:Rel H xs ws)(b:Rel H ys zs):Rel H (xs++ys) (ws++zs):=by
 refine⟨by rw[M8,M8,a.1,b.1],λi v w h1 h2=>?_⟩;by_cases c:i<xs.length
 ·rw[Oh c]at h1
  rw[Oh (by rw[←a.1];exact c)]at h2;exact a.2 i v w h1 h2
 ·rw[Oe (by omega)]at h1
  rw[Oe (by rw[←a.1];omega),←a.1]at h2;exact b.2 _ v w h1 h2
structure Gd(s:HS):Prop where
 g:Good s
 dy:∀ t∈s.aF,t∉s.yng
 dh:∀ t,Wd.th t∈s.aL→t∉s.aF
 df:∀ u ws t,(u,ws)∈s.aC→u∉s.aF→Wd.th t∈ws→t∉s.aF
 rd:s.rnd=false→s.aF=[]
theorem mem_keys{s:HS}{t:Int}:t∈keys s↔∃ ws,(t,ws)∈s.aC:=by
 unfold keys;rw[Nc];exact⟨λ⟨p,m,e⟩=>⟨p.2,by rw[←e];exact m⟩,λ⟨ws,m⟩=>⟨_,m,rfl⟩⟩
theorem Dx{fs:List (Int×List Wd)}{gs:List Int}(nd:gs.Nodup)(h:∀ t∈gs,∃ ws,(t,ws)∈fs):(drG fs gs).length+gs.length≤fs.length:=by
 have e:fs.length=(fs.filter λp=>decide (p.1∉gs)).length+(fs.filter λp=>!decide (p.1∉gs)).length:=by
  clear h;induction fs with
  | nil=>rfl
  | cons p r ih =>
   rw[List.filter_cons,List.filter_cons];by_cases c:p.1∈gs
   ·simp[c]at ih ⊢;omega
   ·simp[c]at ih ⊢;omega
 have le:gs.length≤((fs.filter λp=>!decide (p.1∉gs)).map (·.1)).length:=ck nd λt m=>by
  obtain⟨ws,mw⟩:=h t m;exact Nc.mpr ⟨(t,ws),NA.mpr ⟨mw,by simp[m]⟩,rfl⟩
 rw[MN]at le;unfold drG;omega
theorem Good.letGo{s:HS}(g:Good s){gs:List Int}(asc:gs.Pairwise (·< ·))(hin:∀ t∈gs,∃ ws,(t,ws)∈s.aC)(hh:∀ t,Wd.th t∈s.aL→t∉gs)(hf:∀ u ws t,(u,ws)∈s.aC→u∉gs→Wd.th t∈ws→t∉gs)(hy:∀ t∈s.yng,t∉gs)(hd:∀ t∈s.aF,t∉gs):Good (letGo s gs) where
 h8:=g.h8
 n8:=by show(s.names.map (nmG gs)).length=8;rw[MN];exact g.n8
 asc:=N4 (Pg _ NW) g.asc
 lt:=λt ws m=>g.lt t ws (bO.mp m).1
 f6:=λt ws m=>g.f6 t ws (bO.mp m).1
 hh:=λt m=>by obtain⟨ws,q⟩:=g.hh t m;exact⟨ws,bO.mpr ⟨q,hh t m⟩⟩
 ff:=λu ws t m h=>by obtain⟨w',q⟩:=g.ff u ws t (bO.mp m).1 h;exact⟨w',bO.mpr ⟨q,hf u ws t (bO.mp m).1 (bO.mp m).2 h⟩⟩
 nn:=λt m=>by
  obtain⟨n,mn,e⟩:=Nc.mp (show some t∈s.names.map (nmG gs) from m);cases n with
  | none=>cases e
  | some u =>
   have e:(if u∈gs then none else some u)=some t:=e;by_cases c:u∈gs
   ·rw[if_pos c]at e;cases e
   ·rw[if_neg c]at e
    cases e;obtain⟨ws,q⟩:=g.nn t mn;exact⟨ws,bO.mpr ⟨q,c⟩⟩
 b12:=Nh (NF _ _) g.b12
 bk:=λt z m=>by
  have m:=NA.mp (show(t,z)∈brG s.aR gs from m);obtain⟨ws,q⟩:=g.bk t z m.1;exact⟨ws,bO.mpr ⟨q,by simpa using m.2⟩⟩
 bnd:=N4 (Pg _ NW) g.bnd
 n0:=g.n0
 nx:=g.nx
 sd:=by
  have h1:=g.sd;have h2:=Dx (br asc) hin;have h3:=BU s.aR gs;show((s.hV++sdG s.aR gs).length:Int)+(drG s.aC gs).length≤s.nxt;rw[M8];omega
 yk:=λt m=>by obtain⟨ws,q⟩:=g.yk t m;exact⟨ws,bO.mpr ⟨q,hy t m⟩⟩
 qi:=g.qi
 dk:=λt m=>by obtain⟨ws,q⟩:=g.dk t m;exact⟨ws,bO.mpr ⟨q,hd t m⟩⟩
 pB:=g.pB
theorem Good.noY{s:HS}(g:Good s):Good {s with yng:=[]}:=⟨g.h8,g.n8,g.asc,g.lt,g.f6,g.hh,g.ff,g.nn,g.b12,g.bk,g.bnd,g.n0,g.nx,g.sd,(λt m=>nomatch m),List.Pairwise.nil,g.dk,g.pB⟩
theorem Good.noD{s:HS}(g:Good s){b:Bool}:Good {s with rnd:=b,aF:=[]}:=⟨g.h8,g.n8,g.asc,g.lt,g.f6,g.hh,g.ff,g.nn,g.b12,g.bk,g.bnd,g.n0,g.nx,g.sd,g.yk,g.qi,(λt m=>nomatch m),List.Pairwise.nil⟩
theorem Good.Mp{s:HS}(g:Good s){b:Bool}{ds:List Int}(h:∀ t∈ds,∃ ws,(t,ws)∈s.aC)(a:ds.Pairwise (·< ·)):Good {s with rnd:=b,aF:=ds}:=⟨g.h8,g.n8,g.asc,g.lt,g.f6,g.hh,g.ff,g.nn,g.b12,g.bk,g.bnd,g.n0,g.nx,g.sd,g.yk,g.qi,h,a⟩
theorem bD{s:HS}{t:Int}:t∈cU s↔t∈s.yng∧¬Led (sS s) (fld s) s.yng t:=by unfold cU;rw[NA];simp
theorem qT{s:HS}(g:Good s):(cU s).Pairwise (·< ·):=N4 NW g.qi
theorem oW{s:HS}(g:Good s):∀ t∈cU s,∃ ws,(t,ws)∈s.aC:=λt m=>g.yk t (bD.mp m).1
theorem yC{s:HS}{t:Int}(h:Wd.th t∈s.aL):t∉cU s:=λm=>(bD.mp m).2 (.root (Nd _ h) (bD.mp m).1)
theorem Fp{s:HS}(g:Good s){u t:Int}{ws:List Wd}(m:(u,ws)∈s.aC)(hu:u∉cU s)(h:Wd.th t∈ws):t∉cU s:=λmt=>by
 by_cases c:u∈s.yng
 ·have lu:Led (sS s) (fld s) s.yng u:=N7 λz=>hu (bD.mpr ⟨c,z⟩)
  exact(bD.mp mt).2 (.step lu (by rw[g.fld m];exact h) (bD.mp mt).1)
 ·exact(bD.mp mt).2 (.root (MX _ (A7.mpr ⟨u,ws,m,c,h⟩)) (bD.mp mt).1)
theorem Gd.small{s:HS}(d:Gd s):Gd (bz s) where
 g:=d.g.noY.letGo (qT d.g) (oW d.g) (λt h=>yC h) (λu ws t m hu h=>Fp d.g m hu h) (λt m=>nomatch m) (λt m z=>d.dy t m (bD.mp z).1)
 dy:=λt _ m=>nomatch m
 dh:=d.dh
 df:=λu ws t m hu h=>d.df u ws t (bO.mp m).1 hu h
 rd:=d.rd
theorem d8{s:HS}{t:Int}:t∈qS s↔t∈keys s∧¬Led s.aL (fld s) (keys s) t:=by unfold qS;rw[NA];simp
theorem Gd.beg{s:HS}(d:Gd s)(hy:s.yng=[]):Gd (qj s) where
 g:=d.g.Mp (λt m=>mem_keys.mp (d8.mp m).1) (N4 NW d.g.asc)
 dy:=λt _ m=>by rw[show(qj s).yng=[] from hy]at m;cases m
 dh:=λt h m=>(d8.mp m).2 (.root h (d8.mp m).1)
 df:=λu ws t m hu h mt=>by
  have lu:Led s.aL (fld s) (keys s) u:=N7 λz=>hu (d8.mpr ⟨mem_keys.mpr ⟨ws,m⟩,z⟩);exact(d8.mp mt).2 (.step lu (by rw[d.g.fld m];exact h) (d8.mp mt).1)
 rd:=λh=>by cases h
theorem Gd.fin{s:HS}(d:Gd s):Gd (qk s) where
 g:=d.g.noD.letGo d.g.pB d.g.dk (λt h=>d.dh t h) (λu ws t m hu h=>d.df u ws t m hu h) (λt m z=>d.dy t z m) (λt m=>nomatch m)
 dy:=λt m=>nomatch m
 dh:=λt _ m=>nomatch m
 df:=λu ws t _ _ _ m=>nomatch m
 rd:=λ_=>rfl
theorem d9{s:HS}{t u:Int}:u∈(gD s t).aF↔u∈s.aF∧¬Led [.th t] (fld s) s.aF u:=by unfold gD;rw[NA];simp
structure GdN(s:HS):Prop where
 g:Good s
 dy:∀ t∈s.aF,t∉s.yng
 df:∀ u ws t,(u,ws)∈s.aC→u∉s.aF→Wd.th t∈ws→t∉s.aF
 rd:s.rnd=false→s.aF=[]
theorem Good.JF{s:HS}(g:Good s){ds:List Int}(h:ds.Sublist s.aF):Good {s with aF:=ds}:=⟨g.h8,g.n8,g.asc,g.lt,g.f6,g.hh,g.ff,g.nn,g.b12,g.bk,g.bnd,g.n0,g.nx,g.sd,g.yk,g.qi,(λt m=>g.dk t (h.subset m)),g.pB.sublist h⟩
theorem Gd.JG{s:HS}(d:GdN s){t:Int}(ht:t∈s.aF)(hh:∀ u,Wd.th u∈s.aL→u=t∨u∉s.aF):Gd (gD s t) where
 g:=d.g.JF NW
 dy:=λu m=>d.dy u (d9.mp m).1
 dh:=λu h m=>by
  rcases hh u h with e|e
  ·exact(d9.mp m).2 (by rw[e];exact .root Nu ht)
  ·exact e (d9.mp m).1
 df:=λu ws v m hu h mv=>by
  obtain⟨v1,v2⟩:=d9.mp mv;by_cases c:u∈s.aF
  ·have lu:Led [.th t] (fld s) s.aF u:=N7 λz=>hu (d9.mpr ⟨c,z⟩)
   exact v2 (.step lu (by rw[d.g.fld m];exact h) v1)
  ·exact d.df u ws v m c h v1
 rd:=λh=>by
  have:=d.rd h
  show s.aF.filter _=[];rw[this];rfl
theorem yD{s:HS}{n:Int}:(mkR s n).limit=s.limit:=by unfold mkR;split<;>rfl
theorem hW{s:HS}{n:Int}:(mkR s n).nxt=s.nxt:=by unfold mkR;split<;>rfl
theorem Gd.mkd{s:HS}(d:Gd s){n:Int}:Gd (mkR s n):=by
 unfold mkR;split
 ·exact d.small
 ·exact d
noncomputable def zR(D:Ad):Sp:=λvs H Q _=>∃ x A s,vs=[.ref x]∧IH D H x A s∧Good s∧∀ v A' H',IH D H' x A' (bz s)→Fr (aJ x A s) H (aJ x A' (bz s)) H'→Q v H'
noncomputable abbrev eV:List Str:=["self", "leads", "t", "kept", "gone"]
theorem bC:au eV ["self"] (aj eP):=fsc
theorem je(T:Txt w K mg D):Ok P w K mg base 4 D.jU ["self"] (zR D):=by
 refine T.o1 "Heap.small_round" bC λcdv A' outer s' H vs Q E hr h=>?_;obtain⟨x,A,s,rfl,J,G,k⟩:=h;have hu:=b7 hr;refine⟨_,(PSs.nox (ai (aD (i:=1) bC.nd rfl (Or.inl rfl) ((cZ T).m0 T.aM hr (aB (pv 0) rfl) aV))
  (ai (bF Nl rfl (f7 (jB (aB (pv 0) rfl))) (aN (i:=2) bC.nd rfl (Or.inl rfl))
   (ak (a6 (cR (bV hu (pv 2) (aB (pv 0) rfl)) (by with_unfolding_all rfl))
    (ak (az (uT PySem.F.plainAttrs_list PySem.F.slot_list_extend PySem.F.type_list_extend tE (pv 1) (aa (cS hu (aB (pv 0) rfl) (pv 2) (λ_ _=>rfl)) aq))))
    aI)))
  (ai (BP (aD (i:=3) bC.nd rfl (Or.inr rfl) ((dC T).m T.ae hr (pv 0) aV (aa (pv 1) (aa (aB (pv 0) rfl) aq)))))
  (ai (rD (cl:=[("kept",s'.heap.objs.size+1)]) (x := "t") (idx:=[3]) (NC:=["t", "kept"]) (i:=4) bC.nd rfl rfl ?co1 rfl (f7 (jB (aB (pv 0) rfl))) (λC fp s₀ H₀=>(cR (bV hu (pv 0) (pv 1)) (by with_unfolding_all rfl))) (λC fp s₀ H₀=>(pv 0)))
  (ai (BP (cj (pv 0) bY rfl))
  (ai (az ((iV T).m T.ae hr (pv 0) aV (aa (pv 4) aq)))
  (ak (aG (pv 4)))))))))),?_⟩
 case co1 =>
  exact cB (sc:=aj eP) (N:=eV) (ns:=["kept"]) rfl rfl rfl (by decide +kernel) rfl rfl (by
   intro q hq;rw[MO.mp hq];rfl)
 refine⟨_,rfl,x,D.ah,_,_,.ref A.hd,rfl,J.ax,T.ae,T.n,gn,A.hd,A.hdx,_,rfl,J.ahd,rfl,A.hd,A.hdx,A.hl,A.hx,s.aL,rfl,J.hn G,λp H1 s1 hp z1=>?_⟩;have J1:=J.same s1;have nfp:¬aJ x A s p:=J.fresh hp;refine⟨_,rfl,x,D.ah,_,_,.ref A.fh,rfl,J1.ax,T.ae,T.n,gJ,A.fh,_,J1.afh,λo=>?_⟩;have yf:A.yg≠A.fh:=Nv J.d4;have pf:p≠A.fh:=λe=>nfp (by rw[e];exact .fh);have py:p≠A.yg:=λe=>nfp (by rw[e];exact .yg);have lk:(s.aC.map (fkv A)).length=s.aC.length:=MN _;refine⟨A.fh,o,_,rfl,ag,i4 (d:=A.fh) (o:=o) (kvs:=s.aC.map (fkv A)) (λi σ Hc=>∃ v2,σ=[some (.ref x),some (.ref p),v2,none,none]∧((∀ b u,b≠A.fh→b≠p→H1 b=some u→Hc b=some u)∧Hc A.fh=some (.frz o (.dK (s.aC.map (fkv A)))))∧∃ ys,Hc p=some (.lst ys)∧Rel Hc ys (s.aL++wQ (s.aC.take i) s.yng))
  ⟨none,rfl,⟨λb u n _ q=>by rw[ab n];exact q,ag⟩,A.hx,by rw[ab pf];exact z1,by rw[OB,show wQ [] s.yng=[] from rfl,N3];exact J1.rhl.keep (bE.set J1.afh (λ_ z=>nomatch z))⟩ (λi σ Hc _ ⟨_,_,oc,_⟩=>oc.2) ?_ ?_⟩
 ·rintro i q σ Hc hi ⟨v2,rfl,oc,ys,hy,ry⟩
  rw[MY]at hi;obtain⟨⟨t,ws⟩,ht,rfl⟩:=Ng.mp hi;have m:=Na ht;have tk:=take_snoc ht;obtain⟨hl,rl⟩:=J1.afl _ _ m;have nlf:A.fa t≠A.fh:=av hl J1.afh (by intro z;cases z);have nlp:A.fa t≠p:=λe=>nfp (by rw[←e];exact .fl m);have hlc:=oc.1 _ _ nlf nlp hl;have tc:bE H1 Hc:=λb us q=>oc.1 b _ (av q J1.afh (by intro z;cases z)) (av q z1 (by intro z;cases z)) q;have xf:x≠A.fh:=av J1.ax J1.afh (by intro z;cases z);have xp:x≠p:=λe=>nfp (by rw[←e];exact .x);have axc:=oc.1 _ _ xf xp J1.ax;have ygc:=oc.1 _ _ yf (Nv py) J1.ayg;refine⟨_,rfl,_,rfl,x,D.ah,_,_,.ref A.yg,rfl,axc,T.ae,T.n,xD,A.yg,_,rfl,eK.k (k:=Sum.inl t) ygc,_,rfl,?_⟩;rw[(p8 s.yng).isS];by_cases c:t∈s.yng
  ·rw[decide_eq_true c]
   refine b8 ⟨_,rfl,oc,ys,hy,?_⟩;rw[tk,tL,if_pos c,N3];exact ry
  ·rw[decide_eq_false c]
   have fl:=yB (fs:=s.aC.take i) (yn:=s.yng) λt ws m=>G.f6 t ws (Oj m);have f6:=G.f6 _ _ m;have fw:=G.few;have ly:ys.length≤60100:=(by rw[ry.1,M8,G.h8];rw[MZ]at fl;omega);refine dt ⟨_,rfl,.inl ⟨rfl,_,SqL.of hy⟩,_,rfl,x,D.ah,_,_,.ref A.fh,rfl,axc,T.ae,T.n,gJ,_,rfl,A.fh,.ref (A.fa t),rfl,.inl ⟨_,Sum.inl t,.inr ⟨o,oc.2⟩,rfl,by rw[BQ,G.get m];rfl⟩,p,A.fa t,ys,A.fx t,rfl,rfl,hy,hlc,?_,?_⟩
   ·have:=rl.1
    exact Nh (show ys.length+(A.fx t).length≤70000 by omega) (by decide)
   ·refine⟨_,rfl,⟨λb u n1 n2 q=>by rw[ab n2];exact oc.1 b u n1 n2 q,by rw[ab (Nv pf)];exact oc.2⟩,_,ag,?_⟩
    rw[tk,tL,if_neg c,←Ni];exact((Dw ry (rl.keep tc)).keep (bE.set hy (λ_ z=>nomatch z)))
 ·rintro σ Hc ⟨v2,rfl,oc,ys,hy,ry⟩
  rw[lk,MW (MR _)]at ry;refine⟨A.fh,o,_,oc.2,(λo' u' q=>by have q:H A.fh=some (.frz o' u'):=q;rw[J.afh]at q;cases q),?_⟩;have kp:∀ b u,b≠p→H1 b=some u→upd Hc A.fh (.dK (s.aC.map (fkv A))) b=some u:=λb u n q=>by
   by_cases c:b=A.fh
   ·subst c
    rw[J1.afh]at q;cases q;exact ag
   ·rw[ab c];exact oc.1 b u c n q
  have hy2:upd Hc A.fh (.dK (s.aC.map (fkv A))) p=some (.lst ys):=by rw[ab pf];exact hy
  have ry2:Rel (upd Hc A.fh (.dK (s.aC.map (fkv A)))) ys (sS s):=ry.keep (λb us q=>by rw[ab λe=>by rw[e,oc.2]at q;cases q];exact q);obtain⟨H2,e2⟩:∃ H2,upd Hc A.fh (.dK (s.aC.map (fkv A)))=H2:=⟨_,rfl⟩;rw[e2]at kp hy2 ry2 ⊢;clear e2 ry hy oc;have t2:bE H1 H2:=λb us q=>kp b _ (av q z1 (by intro z;cases z)) q;have J2:IH D H2 x A s:=J1.keep (λb u f q=>kp b u (λe=>nfp (by rw[←e];exact f)) q) t2;have fr2:Fr (aJ x A s) H (aJ x A s) H2:=⟨λb u n q=>kp b u (ao q hp) (s1 _ _ q),λ_ f=>.inl f,λb u q=>⟨u,kp b u (ao q hp) (s1 _ _ q)⟩,(bE.of s1).trans t2⟩;have fl:=yB (fs:=s.aC) (yn:=s.yng) G.f6;have fw:=G.few;refine⟨_,rfl,x,_,_,rfl,J2.ax,(by kernel_rfl),_,rfl,_,rfl,x,D.ah,_,_,.ref A.yg,rfl,J2.ax,T.ae,T.n,xD,x,A,s,p,ys,sS s,A.yg,_,s.yng,rfl,J2,G,hy2,ry2,by unfold sS;rw[M8,G.h8];omega,J2.ayg,p8 _,G.yk,br G.qi,sI G,λst kv ms H3 s3 hst h3 k3 n3 m3=>?_⟩;have J3:=J2.same s3;refine⟨_,rfl,x,D.ah,_,_,.ref A.yg,rfl,J3.ax,T.ae,T.n,xD,A.yg,_,J3.ayg,λo2=>?_⟩;refine⟨A.yg,o2,_,rfl,ag,λL hL=>?_⟩;have nsy:st≠A.yg:=λe=>by rw[e,J2.ayg]at hst;cases hst
  have st3:upd H3 A.yg (.frz o2 (.dK (s.yng.map tkv))) st=some (.dK kv):=by rw[ab nsy];exact h3
  refine xv (d:=A.yg) (o:=o2) (kvs:=s.yng.map tkv) (λi zs Hc=>zs=((s.yng.take i).filter λt=>decide (t∉ms)).map V.int∧ay (upd H3 A.yg (.frz o2 (.dK (s.yng.map tkv)))) Hc∧Hc L=some (.lst zs)) ⟨rfl,ay.upd hL,ag⟩ (λi zs Hc hi ⟨e,_,z⟩=>⟨z,by rw[e,MN];exact Nh (NF _ _) (by rw[MZ];omega)⟩) (λi zs Hc _ ⟨_,sc,_⟩=>sc _ _ ag) (by rw[MN];exact fe (Nh (sI G) (by decide))) (λi q zs Hc hi ⟨e,sc,z⟩=>?_) (λzs Hc ⟨e,sc,z⟩=>?_)
  ·obtain⟨t,ht,ekv,ep⟩:=(p8 s.yng).at_ hi
   have tk:=take_snoc ht;rw[ekv];refine⟨_,rfl,_,rfl,st,_,rfl,eK.k (k:=Sum.inl t) (sc _ _ st3),_,rfl,?_⟩;rw[k3.isS];by_cases c:t∈ms
   ·rw[decide_eq_true c]
    refine b8 ⟨?_,sc,z⟩;rw[tk,NJ,e];simp[c]
   ·rw[decide_eq_false c]
    refine dt ⟨_,rfl,z,?_,λb u q=>by rw[ab (ao q hL)];exact sc b u q,ag⟩;rw[tk,NJ,e];simp[c]
  ·rw[MN,MW (MR _)]at e
   have eg:(s.yng.filter λt=>decide (t∉ms))=cU s:=zQ m3;rw[eg]at e;subst e;refine⟨A.yg,o2,_,sc _ _ ag,(λo' u' q=>by have q:H A.yg=some (.frz o' u'):=q;rw[J.ayg]at q;cases q),?_⟩;have sm:ay H3 (upd Hc A.yg (.dK (s.yng.map tkv))):=λb u q=>by
    by_cases c:b=A.yg
    ·subst c
     rw[J3.ayg]at q;cases q;exact ag
    ·rw[ab c];exact sc b u (by rw[ab c];exact q)
   have nLy:L≠A.yg:=λe=>by rw[e,ag]at hL;cases hL
   have zL:upd Hc A.yg (.dK (s.yng.map tkv)) L=some (.lst ((cU s).map V.int)):=(by rw[ab nLy];exact z);have hL3:H3 L=none:=(by rw[ab nLy]at hL;exact hL);have Mq:=J3.fresh hL3;obtain⟨H4,e4⟩:∃ H4,upd Hc A.yg (.dK (s.yng.map tkv))=H4:=⟨_,rfl⟩;rw[e4]at sm zL ⊢;clear e4;have J4:=J3.same sm;intro p2 hp2;have w:=J4.Mj hp2;have xp2:x≠p2:=ao J4.ax hp2;refine⟨_,rfl,x,D.ah,A.dx,_,rfl,(by rw[ab xp2];exact J4.ax),T.ae,T.n,by show 11<1000;decide,?_⟩;obtain⟨J5,fr5⟩:=w;have oL:=fr5.out Mq zL;refine⟨_,rfl,x,_,_,rfl,J5.ax,(by kernel_rfl),_,rfl,x,_,_,L,cU s,rfl,J5,G.n8,oL.2,oL.1,qT G,Nh (NF _ _) (sI G),(by have:=G.sd;have:=G.nx;show s.hV.length≤10000;omega),oW G,λA6 H6 J6 fr6=>⟨_,rfl,k _ A6 H6 J6 ((((fr2.trans (Fr.same s3)).trans (Fr.same sm)).trans fr5).trans fr6)⟩⟩
noncomputable def Ba(D:Ad):Sp:=λvs H Q _=>∃ x A s,vs=[.ref x]∧IH D H x A s∧Good s∧∀ A' H',IH D H' x A' (bz s)→Fr (aJ x A s) H (aJ x A' (bz s)) H'→Q .non H'
noncomputable abbrev lR:List Str:=["self"]
theorem j5:au lR ["self"] (aj kM):=fsc
theorem c7(T:Txt w K mg D):Ok P w K mg base 5 D.k6 ["self"] (Ba D):=by
 refine T.o1 "IdealHeap.small" j5 λcdv A' outer s' H vs Q E hr h=>?_;obtain⟨x,A,s,rfl,J,G,k⟩:=h;refine⟨_,(PSs.nox (ak (az ((je T).m0 T.ae hr (pv 0) aV)))),?_⟩;exact⟨_,rfl,x,_,_,rfl,J.ax,(by kernel_rfl),x,A,s,rfl,J,G,λv A' H' J' fr=>k A' H' J' fr⟩
noncomputable def Fq(D:Ad):Sp:=λvs H Q E=>∃ x A s,vs=[.ref x]∧IH D H x A s∧Gd s∧Fin D x A s H (mM s) Q E
theorem IH.Mr{D:Ad}{H:Hp}{x:Addr}{A:HA}{s:HS}(J:IH D H x A s){b:Addr}(f:aJ x A s b)(o:Obj)(u:HO):H b≠some (.frz o u):=by
 intro q;cases f with
 | x=>rw[J.ax]at q;cases q
 | hd=>rw[J.ahd]at q;cases q
 | hl=>rw[J.ahl]at q;cases q
 | nt=>rw[J.ant]at q;cases q
 | nl=>rw[J.anl]at q;cases q
 | wt=>rw[J.awt]at q;cases q
 | wb=>rw[J.awb]at q;cases q
 | wl=>rw[J.awl]at q;cases q
 | fh=>rw[J.afh]at q;cases q
 | yg=>rw[J.ayg]at q;cases q
 | dm=>rw[J.adm]at q;cases q
 | fl m=>rw[(J.afl _ _ m).1]at q;cases q
noncomputable abbrev lS:List Str:=["self", "kept", "t"]
theorem c8:au lS ["self"] (aj kN):=fsc
theorem j6(T:Txt w K mg D):Ok P w K mg base 6 D.k7 ["self"] (Fq D):=by
 refine T.o1 "IdealHeap.begin" c8 λcdv A' outer s' H vs Q E hr h=>?_;obtain⟨x,A,s,rfl,J,Gs,k⟩:=h;have hu:=b7 hr;refine⟨_,(ai (a6 (fN (aB (pv 0) rfl))
   (ak (b0 rfl dW ((aA T).e D.jr hr px (aa fM aq))))
   aI)
  (ai (az ((c7 T).m0 T.ae hr (pv 0) px))
  (ai (cj (pv 0) dR rfl)
  (ai (aD (i:=1) c8.nd rfl (Or.inl rfl) ((dC T).m T.ae hr (pv 0) px (aa ((cZ T).m0 T.aM hr (aB (pv 0) rfl) px) (aa (aB (pv 0) rfl) aq))))
  (ak (PS.nox (Ds (bF Nl rfl (f7 (jB (aB (pv 0) rfl))) (aN (i:=2) c8.nd rfl (Or.inl rfl))
   (ak (a6 (cR (bV hu (pv 2) (pv 1)) (by with_unfolding_all rfl))
    (ak (cH hu (aB (pv 0) rfl) (pv 2) dR rfl))
    aI)))))))))),?_⟩
 refine⟨_,rfl,x,D.ah,_,_,.bl s.rnd,rfl,J.ax,T.ae,T.n,Eu,_,rfl,?_⟩;by_cases c:s.rnd=true
 ·rw[show mM s=(some .on,s) from if_pos c]at k
  exact xJ c (λea hea=>bq (T.ec D.jr) (λ_ q=>q) (k.bad J) ea hea)
 ·rw[show mM s=(none,qj (bz s)) from if_neg c]at k
  refine qP (NM.mpr c) ?_;refine⟨_,rfl,x,_,_,rfl,J.ax,(by kernel_rfl),x,A,s,rfl,J,Gs.g,λA1 H1 J1 fr1=>?_⟩;have G1:=Gs.small;have d0:(bz s).aF=[]:=Gs.rd (NM.mpr c);obtain⟨s1,es⟩:∃ s1,bz s=s1:=⟨_,rfl⟩;rw[es]at J1 fr1 G1 k d0;refine⟨_,rfl,x,D.ah,A1.dx,_,rfl,J1.ax,T.ae,T.n,by show 11<1000;decide,?_⟩;have w2:=J1.Ko (n:=true);obtain⟨H2,e2⟩:∃ H2,upd H1 x (.ins D.ah A1.dx (cw "in_round" (.bl true) (atts A1 s1)))=H2:=⟨_,rfl⟩;rw[e2]at w2;show uw _ _ _ _ (upd H1 x (.ins D.ah A1.dx (cw "in_round" (.bl true) (atts A1 s1))));rw[e2];clear e2;obtain⟨J2,fr2⟩:=w2;have G2:Good {s1 with rnd:=true}:=⟨G1.g.h8,G1.g.n8,G1.g.asc,G1.g.lt,G1.g.f6,G1.g.hh,G1.g.ff,G1.g.nn,G1.g.b12,G1.g.bk,G1.g.bnd,G1.g.n0,G1.g.nx,G1.g.sd,G1.g.yk,G1.g.qi,G1.g.dk,G1.g.pB⟩;refine⟨_,rfl,x,_,_,rfl,J2.ax,(by kernel_rfl),_,rfl,x,D.ah,_,_,.ref A1.hd,rfl,J2.ax,T.ae,T.n,gn,A1.hd,A1.hdx,_,rfl,J2.ahd,rfl,A1.hd,A1.hdx,A1.hl,A1.hx,s1.aL,rfl,J2.hn G2,λp H3 s3 hp z3=>?_⟩;have J3:=J2.same s3;refine⟨_,rfl,x,D.ah,_,_,.ref A1.fh,rfl,J3.ax,T.ae,T.n,gJ,x,A1,_,p,A1.hx,s1.aL,A1.fh,_,keys s1,rfl,J3,G2,z3,J3.rhl,by rw[G1.g.h8];decide,J3.afh,Ai s1 A1,(λt m=>mem_keys.mp m),br G1.g.asc,by unfold keys;rw[MN];exact G1.g.few,λst kv ms H4 s4 hst h4 k4 n4 m4=>?_⟩;have J4:=J3.same s4;have fr4:=((fr1.trans fr2).trans (Fr.same s3)).trans (Fr.same s4);refine⟨_,rfl,x,D.ah,_,_,.ref A1.fh,rfl,J4.ax,T.ae,T.n,gJ,A1.fh,_,J4.afh,λo=>?_⟩;have df:A1.dm≠A1.fh:=Nv J4.d5;have sf:st≠A1.fh:=ao J3.afh hst |>.symm;have sd:st≠A1.dm:=ao J3.adm hst |>.symm;have xf:x≠A1.fh:=av J4.ax J4.afh (by intro z;cases z);have xd:x≠A1.dm:=av J4.ax J4.adm (by intro z;cases z);have Ms:H4 A1.dm=some (.dK []):=by have:=J4.adm;rw[show({s1 with rnd:=true}:HS).aF=[] from d0]at this;exact this
  refine⟨A1.fh,o,_,rfl,ag,i4 (d:=A1.fh) (o:=o) (kvs:=s1.aC.map (fkv A1)) (λi σ Hc=>∃ v2,σ=[some (.ref x),some (.ref st),v2]∧((∀ b u,b≠A1.fh→b≠A1.dm→H4 b=some u→Hc b=some u)∧Hc A1.fh=some (.frz o (.dK (s1.aC.map (fkv A1)))))∧Hc A1.dm=some (.dK ((((keys s1).take i).filter λt=>decide (t∉ms)).map tkv)))
   ⟨none,rfl,⟨λb u n _ q=>by rw[ab n];exact q,ag⟩,by rw[ab df];exact Ms⟩ (λi σ Hc _ ⟨_,_,oc,_⟩=>oc.2) ?_ ?_⟩
  ·rintro i q σ Hc hi ⟨v2,rfl,oc,hdm⟩
   obtain⟨t,ht,ekv,ep⟩:=(Ai s1 A1).at_ hi;have tk:=take_snoc ht;rw[ekv];refine⟨_,rfl,_,rfl,st,_,rfl,eK.k (k:=Sum.inl t) (oc.1 _ _ sf sd h4),_,rfl,?_⟩;rw[k4.isS];by_cases c2:t∈ms
   ·rw[decide_eq_true c2]
    refine b8 ⟨_,rfl,oc,?_⟩;rw[tk,NJ,hdm];simp[c2]
   ·rw[decide_eq_false c2]
    have ni:t∉((keys s1).take i).filter λt=>decide (t∉ms):=λz=>u4 (show(keys s1).Pairwise (·< ·) from G1.g.asc) ht (NA.mp z).1;have lz:((((keys s1).take i).filter λt=>decide (t∉ms)).map tkv).length<sizeLine:=by
     rw[MN];refine iB (Nh (NF _ _) ?_)
     have:=G1.g.few
     rw[MZ];unfold keys;rw[MN];omega
    refine dt ⟨_,rfl,x,D.ah,_,_,.ref A1.dm,rfl,oc.1 _ _ xf xd J4.ax,T.ae,T.n,uY,_,rfl,A1.dm,_,rfl,jx.k (k:=Sum.inl t) hdm lz,?_⟩;refine⟨_,rfl,⟨λb u n1 n2 q=>by rw[ab n2];exact oc.1 b u n1 n2 q,by rw[ab (Nv df)];exact oc.2⟩,?_⟩;rw[ag,dM _ ((p8 _).non ni),tk,NJ,MV];simp[c2,tkv]
  ·rintro σ Hc ⟨v2,rfl,oc,hdm⟩
   rw[MN,MW (by unfold keys;rw[MN];exact MR _),A8 (show ∀ t,t∈ms↔Led s1.aL (fld s1) (keys s1) t from m4)]at hdm;refine⟨A1.fh,o,_,oc.2,(λo' u' q=>?_),?_⟩
   ·have q:H A1.fh=some (.frz o' u'):=q
    rcases(fr1.grow A1.fh .fh) with f|f
    ·obtain⟨u,hu1,_⟩:=J.is f
     rw[q]at hu1;cases hu1;obtain⟨u2,hu2,_⟩:=J.is f;exact absurd q (J.Mr f o' u')
    ·rw[f]at q;cases q
   ·have w5:=J4.Kn (ts:=qS s1)
    have sm:ay (upd H4 A1.dm (.dK ((qS s1).map tkv))) (upd Hc A1.fh (.dK (s1.aC.map (fkv A1)))):=λb u q=>by
     by_cases c3:b=A1.fh
     ·rw[c3,ab (Nv df)]at q
      rw[c3,ag];exact J4.afh.symm.trans q
     ·rw[ab c3]
      by_cases c4:b=A1.dm
      ·rw[c4,ag]at q
       rw[c4,hdm];exact q
      ·rw[ab c4]at q
       exact oc.1 b u c3 c4 q
    exact k A1 _ (w5.1.same sm) ((fr4.trans w5.2).trans (Fr.same sm))
noncomputable def Ft(D:Ad):Sp:=λvs H Q E=>∃ x A s,vs=[.ref x]∧IH D H x A s∧Gd s∧Fin D x A s H (As s) Q E
noncomputable abbrev qa:List Str:=["self", "gone"]
theorem gj:au qa ["self"] (aj pK):=fsc
theorem oq(T:Txt w K mg D):Ok P w K mg base 4 D.pO ["self"] (Ft D):=by
 refine T.o1 "IdealHeap.end" gj λcdv A' outer s' H vs Q E hr h=>?_;obtain⟨x,A,s,rfl,J,Gs,k⟩:=h;refine⟨_,(ai (a6 (gy (fN (aB (pv 0) rfl)))
   (ak (b0 rfl dW ((aA T).e D.js hr px (aa fM aq))))
   aI)
  (ai (cj (pv 0) dR rfl)
  (ai (aD (i:=1) gj.nd rfl (Or.inl rfl) (cM (kz rfl) rfl T.z PyProof.Rows.Boot.«list» (aa (aB (pv 0) rfl) aq)))
  (ai (cj (pv 0) bY rfl)
  (ak (az ((iV T).m T.ae hr (pv 0) px (aa (pv 1) aq)))))))),?_⟩
 refine⟨_,rfl,x,D.ah,_,_,.bl s.rnd,rfl,J.ax,T.ae,T.n,Eu,_,rfl,?_⟩;by_cases c:s.rnd=true
 ·rw[show As s=(none,qk s) from if_pos c]at k
  refine qP (by rw[c];rfl) ?_;refine⟨_,rfl,x,D.ah,A.dx,_,rfl,J.ax,T.ae,T.n,by show 11<1000;decide,?_⟩;have w2:=J.Ko (n:=false);obtain⟨H2,e2⟩:∃ H2,upd H x (.ins D.ah A.dx (cw "in_round" (.bl false) (atts A s)))=H2:=⟨_,rfl⟩;rw[e2]at w2;show uw _ _ _ _ (upd H x (.ins D.ah A.dx (cw "in_round" (.bl false) (atts A s))));rw[e2];clear e2;obtain⟨J2,fr2⟩:=w2;refine⟨_,rfl,x,D.ah,_,_,.ref A.dm,rfl,J2.ax,T.ae,T.n,uY,A.dm,_,s.aF,rfl,.inl J2.adm,p8 _,λL hL=>?_⟩;have s3:=ay.upd (o:=.lst (s.aF.map V.int)) hL;have J3:=J2.same s3;have nfL:=J2.fresh hL;intro p2 hp2;have w:=J3.Ml hp2;have xp2:x≠p2:=ao J3.ax hp2;refine⟨_,rfl,x,D.ah,A.dx,_,rfl,(by rw[ab xp2];exact J3.ax),T.ae,T.n,by show 11<1000;decide,?_⟩;obtain⟨J5,fr5⟩:=w;have oL:=fr5.out nfL ag;refine⟨_,rfl,x,_,_,rfl,J5.ax,(by kernel_rfl),_,rfl,x,_,_,L,s.aF,rfl,J5,Gs.g.n8,oL.2,oL.1,Gs.g.pB,uE Gs.g,(by have:=Gs.g.sd;have:=Gs.g.nx;show s.hV.length≤10000;omega),Gs.g.dk,λA6 H6 J6 fr6=>k A6 H6 J6 (((fr2.trans (Fr.same s3)).trans fr5).trans fr6)⟩
 ·rw[show As s=(some .no,s) from if_neg c]at k
  refine xJ (by rw[NM.mpr c];rfl) ?_;exact λea hea=>bq (T.ec D.js) (λ_ q=>q) (k.bad J) ea hea
theorem JH{ts:List Int}{n:Option Int}:inO (ts.map tkv) (n.map Sum.inl)=(match n with|some t=>decide (t∈ts)|none=>false):=by
 cases n with
 | none=>rfl
 | some t=>exact Kq
theorem Fu(z:Option Int):nmV z=Ik (z.map Sum.inl):=by cases z<;>rfl
noncomputable def Bb(D:Ad):Sp:=λvs H Q _=>∃ x A s,∃ t:Int,vs=[.ref x,.int t]∧IH D H x A s∧Good s∧0≤t∧∀ A' H',IH D H' x A' (gD s t)→Fr (aJ x A s) H (aJ x A' (gD s t)) H'→Q .non H'
theorem Bc{ts:List Int}{t:Int}{v:V}(h:cE (ts.map tkv) (Sum.inl t)=some v):v=.bl true:=by
 unfold cE at h;obtain⟨p,hp,e⟩:=Ng.mp h;obtain⟨u,_,rfl⟩:=Nc.mp (List.mem_of_find?_eq_some hp);exact e.symm
theorem Dy{ts:List Int}{t:Int}:hZ (ts.map tkv) (Sum.inl t)=(ts.filter λp=>decide (p≠t)).map tkv:=by
 unfold hZ;rw[Pl];congr 1
 refine Oo λp _=>?_;show decide (Sum.inl p≠(Sum.inl t:Key))=decide (p≠t);simp
noncomputable abbrev lT:List Str:=["self", "t", "spared", "other"]
theorem da:au lT ["self", "t"] (aj kQ):=fsc
theorem j7(T:Txt w K mg D):Ok P w K mg base 4 D.lg ["self", "t"] (Bb D):=by
 refine T.o2 "IdealHeap.spare" da λcdv A' outer s' H vs Q E hr h=>?_;obtain⟨x,A,s,t,rfl,J,G,t0,k⟩:=h;refine⟨_,(PSs.nox (ai (aD (i:=2) da.nd rfl (Or.inl rfl) ((dC T).m T.ae hr (pv 0) aV (aa (fP (aa ((eW T).c hr aV (aa (pv 1) aq)) aq)) (aa (aB (pv 0) rfl) aq))))
  (ak (bF Nl rfl (f7 (jB (pv 2))) (aN (i:=3) da.nd rfl (Or.inl rfl))
   (ak (az (rq (aB (pv 0) rfl) (pv 3) ⟨rfl,rfl,rfl,rfl⟩))))))),?_⟩
 refine⟨_,rfl,x,_,_,rfl,J.ax,(by kernel_rfl),_,rfl,t,rfl,t0,λtp H1 s1 hp=>⟨by show 1≤sizeLine;decide,λl hl=>?_⟩⟩;have s2:=ay.upd (o:=.lst [V.ref tp]) hl;have J2:=(J.same s1).same s2;have rl:Rel (upd H1 l (.lst [V.ref tp])) [.ref tp] [.th t]:=⟨rfl,λi v w h1 h2=>by
  cases i with
  | zero=>cases h1;cases h2;exact⟨tp,rfl,s2 _ _ hp⟩
  | succ i=>cases h1⟩
 refine⟨_,rfl,x,D.ah,_,_,.ref A.dm,rfl,J2.ax,T.ae,T.n,uY,x,A,s,l,_,[.th t],A.dm,_,s.aF,rfl,J2,G,ag,rl,by show 1≤100000;decide,J2.adm,p8 _,G.dk,br G.pB,uE G,λst kv ms H3 s3 hst h3 k3 n3 m3=>?_⟩;have J3:=J2.same s3;have fr3:=((Fr.same (F:=aJ x A s) s1).trans (Fr.same s2)).trans (Fr.same s3);have nfs:=J2.fresh hst;refine⟨_,rfl,st,kv,h3,λo=>?_⟩;have sub:∀ u∈ms,u∈s.aF:=λu m=>((m3 u).mp m).mem;have H4s:∀ b u,b≠st→H3 b=some u→upd H3 st (.frz o (.dK kv)) b=some u:=λb u n q=>by rw[ab n];exact q
 have t4:bE H3 (upd H3 st (.frz o (.dK kv))):=bE.set h3 (λ_ z=>nomatch z);have J4:IH D (upd H3 st (.frz o (.dK kv))) x A s:=J3.keep (λb u f q=>H4s b u (λe=>nfs (by rw[←e];exact f)) q) t4;have bk:H st=none:=ay.none s1 (ay.none s2 hst);have fr4:Fr (aJ x A s) H (aJ x A s) (upd H3 st (.frz o (.dK kv))):=⟨λb u n q=>H4s b u (ao q bk) (fr3.ext b u n q),λ_ f=>.inl f,λb u q=>by obtain⟨u',q'⟩:=fr3.all b u q;exact⟨u',H4s b u' (ao q bk) q'⟩,fr3.tup.trans t4⟩;refine⟨st,o,kv,rfl,ag,i4 (d:=st) (o:=o) (kvs:=kv) (λi σ Hc=>∃ v3,σ=[some (.ref x),some (.int t),some (.ref st),v3]∧IH D Hc x A {s with aF:=s.aF.filter λu=>decide (u∉ms.take i)}∧Fr (aJ x A s) H (aJ x A {s with aF:=s.aF.filter λu=>decide (u∉ms.take i)}) Hc∧Hc st=some (.frz o (.dK kv)))
  ⟨none,rfl,(by rw[OB,show(s.aF.filter λu=>decide (u∉([]:List Int)))=s.aF by simp];exact J4),(by rw[OB,show(s.aF.filter λu=>decide (u∉([]:List Int)))=s.aF by simp];exact fr4),ag⟩ (λi σ Hc _ ⟨_,_,_,_,z⟩=>z) ?_ ?_⟩
 ·rintro i q σ Hc hi ⟨v3,rfl,Jc,frc,z⟩
  obtain⟨u,hu',ekv,ep⟩:=k3.at_ hi;have tk:=take_snoc hu';have ni:u∉ms.take i:=λm=>by
   have:=Of.mp (show(ms.take i++ms.drop i).Nodup by rw[Np];exact n3)
   have hlt:=(MQ.mp hu').1;exact this.2.2 u m u (by rw[NY hlt,(MQ.mp hu').2];exact Nu) rfl
  have mu:u∈s.aF.filter λu=>decide (u∉ms.take i):=NA.mpr ⟨sub u (Na hu'),by simpa using ni⟩;have vd:cE ((s.aF.filter λu=>decide (u∉ms.take i)).map tkv) (Sum.inl u)=some (.bl true):=by
   have h1:=(p8 (s.aF.filter λu=>decide (u∉ms.take i))).isS (t:=u);rw[decide_eq_true mu]at h1;obtain⟨v,hv⟩:=Option.isSome_iff_exists.mp h1;rw[hv,Bc hv]
  rw[ekv];refine⟨_,rfl,x,D.ah,_,_,.ref A.dm,rfl,Jc.ax,T.ae,T.n,uY,A.dm,rfl,.inl ⟨_,.inl Jc.adm⟩,_,rfl,_,Sum.inl u,_,Jc.adm,rfl,vd,?_⟩;have w:=Jc.Kn (ts:=(s.aF.filter λu=>decide (u∉ms.take i)).filter λv=>decide (v≠u));rw[show hZ (({s with aF:=s.aF.filter λu=>decide (u∉ms.take i)}:HS).aF.map tkv) (Sum.inl u)=((s.aF.filter λu=>decide (u∉ms.take i)).filter λv=>decide (v≠u)).map tkv from Dy];have ef:((s.aF.filter λu=>decide (u∉ms.take i)).filter λv=>decide (v≠u))=s.aF.filter λv=>decide (v∉ms.take (i+1)):=by
   rw[List.filter_filter,tk];refine Oo λv _=>?_;simp[MS,not_or,Bool.and_comm]
  rw[ef]at w ⊢;have nsd:st≠A.dm:=λe=>by rw[e,Jc.adm]at z;cases z
  exact⟨_,rfl,w.1,frc.trans w.2,by rw[ab nsd];exact z⟩
 ·rintro σ Hc ⟨v3,rfl,Jc,frc,z⟩
  rw[k3.len,MW (MR _),A9 m3]at Jc frc;exact k _ _ Jc frc
noncomputable def Bd(D:Ad):Sp:=λvs H Q E=>∃ x A s,∃ h n:Int,vs=[.ref x,.int h,.int n]∧IH D H x A s∧Gd s∧s.nxt<10000∧Sm h∧Sm n∧Fin D x A s H (bp s h n) Q E
noncomputable abbrev ot:List Str:=["self", "h", "n", "size"]
theorem fF:au ot ["self", "h", "n"] (aj nG):=fsc
theorem fG(T:Txt w K mg D):Ok P w K mg base 8 D.nR ["self", "h", "n"] (Bd D):=by
 refine T.o3 "IdealHeap.make" fF λcdv A' outer s' H vs Q E hr h=>?_;obtain⟨x,A,s,h,n,rfl,J,Gs,hnx,hh,hn,k⟩:=h;refine⟨_,(ai (az ((bB T).c hr px (aa (pv 1) aq)))
  (ai (aD (i:=3) fF.nd rfl (Or.inl rfl) ((pA T).c hr px (aa (pv 2) aq)))
  (ai (a6 (PW.pt (pw_and (fN (aB (pv 0) rfl)) (pw_and1 (aE Ae (aT fO ((eC T).m T.ae hr (pv 0) px (aa (aB (pv 0) rfl) aq)) (pv 3)) (aB (pv 0) rfl) (aO _)))))
   (ak (az ((c7 T).m0 T.ae hr (pv 0) px)))
   aI)
  (ai (a6 (aE Ae (aT fO ((lQ T).m0 T.ae hr (pv 0) px) (pv 3)) (aB (pv 0) rfl) (aO _))
   (ak (b0 rfl dW ((aA T).e D.mU hr px (aa (dw (aQ (eJ (pv 3)) (aQ cJ dv))) aq))))
   aI)
  (ak (az ((lN T).m T.ae hr (pv 0) px (aa (pv 1) (aa (pv 2) aq))))))))),?_⟩
 refine⟨_,rfl,h,rfl,hh,?_⟩;by_cases c:ok8 h
 ·rw[if_pos c]
  refine⟨_,rfl,n,rfl,hn,?_⟩;by_cases c2:0≤n∧n≤6
  ·rw[if_pos c2]
   have G:=Gs.g;have kk:Fin D x A s H (if held (mkR s n)+(n+1)>s.limit then(some .room,mkR s n) else(none,tK (mkR s n) h n)) Q E:=by
    rw[show bp s h n=_ from by unfold bp;rw[if_pos c,if_pos c2]]at k;exact k
   have G2:Gd (mkR s n):=Gs.mkd;simp only[mP];refine uD λN hN=>?_;have fin:∀(A2:HA) (H2:Hp),IH D H2 x A2 (mkR s n)→Fr (aJ x A s) H (aJ x A2 (mkR s n)) H2→N [some (.ref x),some (.int h),some (.int n),some (.int (n+1))] H2:=by
    intro A2 H2 J2 fr2;refine hN _ _ ?_;refine⟨_,rfl,x,_,_,rfl,J2.ax,(by kernel_rfl),x,A2,_,rfl,J2,G2.g,λH3 s3=>?_⟩;have J3:=J2.same s3;have fr3:=fr2.trans (Fr.same s3);refine⟨_,rfl,held (mkR s n),n+1,rfl,rfl,_,rfl,x,D.ah,_,_,.int (mkR s n).limit,rfl,J3.ax,T.ae,T.n,Jx,_,_,rfl,rfl,_,rfl,bu (λg=>?_) (λg=>?_)⟩
    ·have g:=of_decide_eq_true g
     rw[yD]at g;rw[if_pos g]at kk;exact⟨_,rfl,n+1,rfl,Sm.of (by omega) (by omega),λy hy ea hea=>bq (T.ec D.mU) (λb q=>fr3.none q) (λH' s'=>kk A2 H' (J3.same s') (fr3.trans (Fr.same s'))) ea hea⟩
    ·have g:¬(held (mkR s n)+(n+1)>s.limit):=λz=>g (decide_eq_true (by rw[yD];exact z))
     rw[if_neg g]at kk;exact⟨_,rfl,x,_,_,rfl,J3.ax,(by kernel_rfl),_,rfl,_,rfl,x,A2,_,h,n,rfl,J3,G2.g,c,c2.1,c2.2,λA' H' J' fr=>kk A' H' J' (fr3.trans fr)⟩
   refine⟨_,rfl,x,D.ah,_,_,.bl s.my,rfl,J.ax,T.ae,T.n,Es,_,rfl,?_⟩;by_cases my:s.my=true
   ·refine xJ my ⟨_,rfl,x,_,_,rfl,J.ax,(by kernel_rfl),_,rfl,x,D.ah,_,_,.ref A.yg,rfl,J.ax,T.ae,T.n,xD,x,A,s,A.yg,_,s.yng,rfl,J,G,J.ayg,p8 _,G.yk,sI G,λH1 s1=>?_⟩
    have J1:=J.same s1;refine⟨_,rfl,wsum s s.yng,n+1,rfl,rfl,_,rfl,x,D.ah,_,_,.int s.room,rfl,J1.ax,T.ae,T.n,Jw,_,_,rfl,rfl,_,rfl,bu (λg=>?_) (λg=>?_)⟩
    ·have g:=of_decide_eq_true g
     have em:mkR s n=bz s:=if_pos ⟨my,g⟩;rw[em]at fin;exact⟨_,rfl,x,_,_,rfl,J1.ax,(by kernel_rfl),x,A,s,rfl,J1,G,λA2 H2 J2 fr2=>fin A2 H2 J2 ((Fr.same s1).trans fr2)⟩
    ·have em:mkR s n=s:=if_neg λz=>g (decide_eq_true z.2)
     rw[em]at fin;exact fin A H1 J1 (Fr.same s1)
   ·have em:mkR s n=s:=if_neg λz=>my z.1
    rw[em]at fin;exact qP (NM.mpr my) (b8 (fin A H J Fr.refl))
  ·rw[if_neg c2]
   rw[show bp s h n=(some .count,s) by simp only[bp,if_pos c,if_neg c2]]at k;exact k.bad J
 ·rw[if_neg c]
  rw[show bp s h n=(some .hand,s) by simp only[bp,if_neg c]]at k;exact k.bad J
noncomputable def Be(D:Ad):Sp:=λvs H Q E=>∃ x A s,∃ h w:Int,vs=[.ref x,.int h,.int w]∧IH D H x A s∧Good s∧Sm h∧Sm w∧Fin D x A s H (bA s h w) Q E
theorem eE{α:Type}{l:List α}{i:Nat}{a b:α}(h:b∈l.set i a):b∈l∨b=a:=by
 rw[List.mem_iff_getElem]at h;obtain⟨j,hj,e⟩:=h;rw[List.getElem_set]at e;split at e
 ·exact .inr e.symm
 ·exact .inl (by rw[←e];exact NK _)
theorem Good.put{s:HS}(g:Good s){h:Int}{w:Wd}(c:∀ t,w=.th t→∃ ws,(t,ws)∈s.aC):Good (eR s h w) :=
 ⟨by show(s.aL.set _ _).length=8;rw[Oi];exact g.h8,g.n8,g.asc,g.lt,g.f6,(λt m=>(eE m).elim (λq=>g.hh t q) λe=>c t e.symm),g.ff,g.nn,g.b12,g.bk,g.bnd,g.n0,g.nx,g.sd,g.yk,g.qi,g.dk,g.pB⟩
noncomputable abbrev ou:List Str:=["self", "h", "w", "t"]
theorem fH:au ou ["self", "h", "w"] (aj nH):=fsc
theorem lU(T:Txt w K mg D):Ok P w K mg base 7 D.nS ["self", "h", "w"] (Be D):=by
 refine T.o3 "IdealHeap.read" fH λcdv A' outer s' H vs Q E hr h=>?_;obtain⟨x,A,s,h,w,rfl,J,G,hh,hw,k⟩:=h;refine⟨_,(ai (aD (i:=3) fH.nd rfl (Or.inl rfl) ((j3 T).m T.ae hr (pv 0) px (aa (pv 1) (aa (pv 2) aq))))
  (ak (a6 (cR (C8 (pv 3) (aB (pv 0) rfl)) (by with_unfolding_all rfl))
   (ak (az ((j7 T).m T.ae hr (pv 0) px (aa (pv 3) aq))))
   aI))),?_⟩
 refine⟨_,rfl,x,_,_,rfl,J.ax,(by kernel_rfl),_,rfl,_,rfl,x,A,s,h,w,rfl,J,G,hh,hw,?_⟩;by_cases c:ok8 h
 ·rw[if_pos c]
  by_cases c2:ok8 w
  ·rw[if_pos c2]
   rw[show bA s h w=(none,rdR (eR s h (nmW (s.names.getD w.toNat none))) (s.names.getD w.toNat none)) by simp only[bA,if_pos c,if_pos c2]]at k;have hi:w.toNat<s.names.length:=(by rw[G.n8];omega);have gd:s.names.getD w.toNat none=s.names[w.toNat]:=(by simp[List.getD,hi]);have mm:s.names[w.toNat]∈s.names:=NK hi;obtain⟨z,ez⟩:∃ z,s.names.getD w.toNat none=z:=⟨_,rfl⟩;rw[ez]at k ⊢;rw[←gd,ez]at mm;intro A1 H1 J1 fr;refine⟨_,rfl,_,rfl,x,D.ah,_,_,_,rfl,J1.ax,T.ae,T.n,uY,A1.dm,_,z.map Sum.inl,rfl,Fu z,.inl J1.adm,_,rfl,?_⟩;rw[JH];cases z with
   | none=>exact b8 (k A1 H1 J1 fr)
   | some t =>
    show if decide (t∈s.aF)=true then _ else _;obtain⟨ws,m⟩:=G.nn t mm;by_cases c3:t∈s.aF
    ·rw[decide_eq_true c3]
     rw[show rdR (eR s h (nmW (some t))) (some t)=gD (eR s h (nmW (some t))) t from if_pos c3]at k;have G2:Good (eR s h (nmW (some t))):=G.put λu e=>by cases e;exact⟨ws,m⟩
     exact dt ⟨_,rfl,x,_,_,rfl,J1.ax,(by kernel_rfl),_,rfl,x,A1,_,t,rfl,J1,G2,(G.lt _ _ m).1,λA2 H2 J2 fr2=>k A2 H2 J2 (fr.trans fr2)⟩
    ·rw[decide_eq_false c3]
     rw[show rdR (eR s h (nmW (some t))) (some t)=eR s h (nmW (some t)) from if_neg c3]at k;exact b8 (k A1 H1 J1 fr)
  ·rw[if_neg c2]
   rw[show bA s h w=(some .name,s) by simp only[bA,if_pos c,if_neg c2]]at k;exact k.bad J
 ·rw[if_neg c]
  rw[show bA s h w=(some .hand,s) by simp only[bA,if_neg c]]at k;exact k.bad J
inductive Dd where
 | make (h n:Int)|store (g k h:Int)|load (h g k:Int)|copy (h g:Int)|drop (h:Int)|number (h x:Int)|name (w h:Int)|read (h w:Int)|word (h x:Int)|small|turn
noncomputable abbrev In8(h:Int):Prop:=0≤h∧h<8
noncomputable def Dd.ok:Dd→Prop
 | .make h n=>In8 h∧0≤n∧n≤6
 | .store g k h=>In8 g∧0≤k∧k≤6∧In8 h
 | .load h g k=>In8 h∧In8 g∧0≤k∧k≤6
 | .copy h g=>In8 h∧In8 g
 | .drop h=>In8 h
 | .number h x=>In8 h∧-100000≤x∧x≤100000
 | .name w h=>In8 w∧In8 h
 | .read h w=>In8 h∧In8 w
 | .word h x=>In8 h∧-100000≤x∧x≤100000
 | .small=>True
 | .turn=>True
theorem m8(n d:Int):0≤n/d%8∧n/d%8<8:=⟨NX _ (by decide),NO _ (by decide)⟩
noncomputable def qU(s:HS):Re:=if s.rnd=true then As s else mM s
noncomputable def dDo(s:HS):Dd→Re
 | .make h n=>bp s h n
 | .store g k h=>a8 s g k h
 | .load h g k=>bP s h g k
 | .copy h g=>cF s h g
 | .drop h=>cO s h
 | .number h x=>aZ s h x
 | .name w h=>bH s w h
 | .read h w=>bA s h w
 | .word h x=>bQ s h x
 | .small=>(none,bz s)
 | .turn=>qU s
theorem Good.names{s:HS}(g:Good s){w:Nat}{t:Int}{ws:List Wd}(m:(t,ws)∈s.aC):Good {s with names:=s.names.set w (some t)} :=
 ⟨g.h8,by show(s.names.set _ _).length=8;rw[Oi];exact g.n8,g.asc,g.lt,g.f6,g.hh,g.ff,λu m'=>(eE m').elim (g.nn u) (λe=>by injection e with e;rw[e];exact⟨ws,m⟩),g.b12,g.bk,g.bnd,g.n0,g.nx,g.sd,g.yk,g.qi,g.dk,g.pB⟩
theorem zS{bs:List (Int×Int)}{t x:Int}:(tJ bs t x).map (·.1)=if(bs.lookup t).isSome=true then bs.map (·.1) else bs.map (·.1)++[t]:=by
 unfold tJ;by_cases c:(bs.lookup t).isSome=true
 ·rw[if_pos c,if_pos c,Ny]
  refine NG λp hp=>?_;show(if p.1=t then(t,x) else p).1=p.1;by_cases e:p.1=t
  ·rw[if_pos e];exact e.symm
  ·rw[if_neg e]
 ·rw[if_neg c,if_neg c,MV]
  rfl
theorem Good.aR{s:HS}(g:Good s){t x:Int}{ws:List Wd}(m:(t,ws)∈s.aC)(c:¬(s.aR.lookup t=none∧12≤s.aR.length)):Good {s with aR:=tJ s.aR t x}:=by
 have kl:=zS (bs:=s.aR) (t:=t) (x:=x);have ln:=congrArg List.length kl;have mm:∀ u,u∈(tJ s.aR t x).map (·.1)→u∈s.aR.map (·.1)∨u=t:=λu h=>by
  rw[kl]at h;split at h
  ·exact .inl h
  ·rcases MS.mp h with h|h
   ·exact .inl h
   ·exact .inr (MO.mp h)
 refine⟨g.h8,g.n8,g.asc,g.lt,g.f6,g.hh,g.ff,g.nn,?_,λu y h=>?_,?_,g.n0,g.nx,g.sd,g.yk,g.qi,g.dk,g.pB⟩
 ·show(tJ s.aR t x).length≤12
  rw[MN]at ln;rw[ln];by_cases q:(s.aR.lookup t).isSome=true
  ·rw[if_pos q,MN];exact g.b12
  ·rw[if_neg q,M8,MN,NV]
   have:s.aR.lookup t=none:=by
    cases e:s.aR.lookup t with
    | none=>rfl
    | some v=>rw[e]at q;exact absurd rfl q
   have:¬12≤s.aR.length:=λz=>c ⟨this,z⟩
   omega
 ·rcases mm u (Nc.mpr ⟨_,h,rfl⟩) with h|rfl
  ·obtain⟨p,hp,rfl⟩:=Nc.mp h
   exact g.bk p.1 p.2 hp
  ·exact⟨ws,m⟩
 ·show((tJ s.aR t x).map (·.1)).Nodup
  rw[kl];by_cases q:(s.aR.lookup t).isSome=true
  ·rw[if_pos q];exact g.bnd
  ·rw[if_neg q,Of]
   refine⟨g.bnd,Oz _ _,λa ma b mb e=>?_⟩;rw[MO.mp mb]at e;subst e;obtain⟨p,hp,rfl⟩:=Nc.mp ma;refine q ?_;rw[mem_lookup (w:=p.2) g.bnd hp];rfl
theorem tM{fs:List (Int×List Wd)}{t:Int}{ws:List Wd}:(dz fs t ws).map (·.1)=fs.map (·.1):=by
 unfold dz;rw[Ny];refine NG λp hp=>?_;show(if p.1=t then(t,ws) else p).1=p.1;by_cases e:p.1=t
 ·rw[if_pos e];exact e.symm
 ·rw[if_neg e]
theorem Bf{fs:List (Int×List Wd)}{t u:Int}{ws w:List Wd}(m:(u,w)∈fs):∃ w',(u,w')∈dz fs t ws:=by
 have:u∈(dz fs t ws).map (·.1):=by rw[tM];exact Nc.mpr ⟨_,m,rfl⟩
 obtain⟨p,hp,rfl⟩:=Nc.mp this;exact⟨p.2,hp⟩
theorem mX{fs:List (Int×List Wd)}{t u:Int}{ws w:List Wd}(m:(u,w)∈dz fs t ws):(u,w)∈fs∨(w=ws∧∃ w0,(u,w0)∈fs):=by
 obtain⟨p,hp,e⟩:=Nc.mp m;by_cases c:p.1=t
 ·rw[if_pos c]at e
  cases e;exact .inr ⟨rfl,p.2,by rw[←c];exact hp⟩
 ·rw[if_neg c]at e
  subst e;exact .inl hp
theorem Good.dz{s:HS}(g:Good s){t:Int}{ws:List Wd}(l6:ws.length≤6)(c:∀ u,Wd.th u∈ws→∃ w,(u,w)∈s.aC):Good {s with aC:=dz s.aC t ws}:=by
 have hs:∀ u,(∃ w,(u,w)∈s.aC)→∃ w,(u,w)∈K72.dz s.aC t ws:=λu ⟨w,m⟩=>Bf m;refine⟨g.h8,g.n8,by show((K72.dz s.aC t ws).map (·.1)).Pairwise _;rw[tM];exact g.asc,λu w m=>?_,λu w m=>?_,λu m=>hs u (g.hh u m),λu w v m mv=>?_,λu m=>hs u (g.nn u m),g.b12,λu y m=>hs u (g.bk u y m),g.bnd,g.n0,g.nx,?_,λu m=>hs u (g.yk u m),g.qi,λu m=>hs u (g.dk u m),g.pB⟩
 ·rcases mX m with m|⟨_,w0,m⟩
  ·exact g.lt u w m
  ·exact g.lt u w0 m
 ·rcases mX m with m|⟨rfl,w0,m⟩
  ·exact g.f6 u w m
  ·exact l6
 ·rcases mX m with m|⟨rfl,w0,m⟩
  ·exact hs v (g.ff u w v m mv)
  ·exact hs v (c v mv)
 ·show(s.hV.length:Int)+((K72.dz s.aC t ws).length:Int)≤s.nxt
  unfold K72.dz;rw[MN];exact g.sd
theorem Good.Mt{s:HS}(g:Good s){h n:Int}(n6:n≤6)(few:s.nxt<10000):Good (tK s h n):=by
 have hs:∀ u,(∃ w,(u,w)∈s.aC)→∃ w,(u,w)∈s.aC++[(s.nxt,List.replicate n.toNat Wd.no)]:=λu ⟨w,m⟩=>⟨w,Nd _ m⟩;have mm:∀ {u:Int} {w:List Wd},(u,w)∈s.aC++[(s.nxt,List.replicate n.toNat Wd.no)]→(u,w)∈s.aC∨(u=s.nxt∧w=List.replicate n.toNat Wd.no):=λm=>by
  rcases MS.mp m with m|m
  ·exact .inl m
  ·cases MO.mp m;exact .inr ⟨rfl,rfl⟩
 have my:∀ u∈(tK s h n).yng,u∈s.yng∨u=s.nxt:=λu m=>by
  have m:u∈(if s.my=true then s.yng++[s.nxt] else s.yng):=m;split at m
  ·exact(MS.mp m).imp id λz=>MO.mp z
  ·exact .inl m
 refine⟨by show(s.aL.set _ _).length=8;rw[Oi];exact g.h8,g.n8,?_,λu w m=>?_,λu w m=>?_,λu m=>?_,λu w v m mv=>?_,λu m=>hs u (g.nn u m),g.b12,λu y m=>hs u (g.bk u y m),g.bnd,by show 0≤s.nxt+1;have:=g.n0;omega,by show s.nxt+1≤10000;omega,?_,λu m=>?_,?_,λu m=>hs u (g.dk u m),g.pB⟩
 ·show((s.aC++[(s.nxt,List.replicate n.toNat Wd.no)]).map (·.1)).Pairwise _
  rw[MV,Nq];refine⟨g.asc,Oz _ _,λa ma b mb=>?_⟩;obtain⟨p,hp,rfl⟩:=Nc.mp ma;obtain rfl:b=s.nxt:=by simpa using mb
  exact(g.lt p.1 p.2 hp).2
 ·show 0≤u∧u<s.nxt+1
  have:=g.n0
  rcases mm m with m|⟨e,_⟩
  ·have:=g.lt u w m;omega
  ·omega
 ·rcases mm m with m|⟨_,e⟩
  ·exact g.f6 u w m
  ·rw[e,List.length_replicate];omega
 ·rcases eE m with m|e
  ·exact hs u (g.hh u m)
  ·injection e with e
   exact⟨_,MX _ (MO.mpr (by rw[e]))⟩
 ·rcases mm m with m|⟨_,e⟩
  ·exact hs v (g.ff u w v m mv)
  ·rw[e]at mv
   cases Ob mv
 ·show(s.hV.length:Int)+((s.aC++[(s.nxt,List.replicate n.toNat Wd.no)]).length:Int)≤s.nxt+1
  rw[M8,NV]
  have:=g.sd
  omega
 ·rcases my u m with m|e
  ·exact hs u (g.yk u m)
  ·exact⟨_,MX _ (MO.mpr (by rw[e]))⟩
 ·show(if s.my=true then s.yng++[s.nxt] else s.yng).Pairwise _
  split
  ·rw[Nq]
   refine⟨g.qi,Oz _ _,λa ma b mb=>?_⟩;obtain rfl:b=s.nxt:=(by simpa using mb);obtain⟨ws,m⟩:=g.yk a ma;exact(g.lt a ws m).2
  ·exact g.qi
theorem Gd.put{s:HS}(d:Gd s){h:Int}{w:Wd}(c:∀ t,w=.th t→(∃ ws,(t,ws)∈s.aC)∧t∉s.aF):Gd (eR s h w) :=
 ⟨d.g.put λt e=>(c t e).1,d.dy,λt m=>(eE m).elim (d.dh t) (λe=>(c t e.symm).2),d.df,d.rd⟩
theorem Gd.add{s:HS}(d:Gd s){h n:Int}(n6:n≤6)(few:s.nxt<10000):Gd (tK s h n) where
 g:=d.g.Mt n6 few
 dy:=λt m=>by
  obtain⟨ws,mt⟩:=d.g.dk t m;have lt:=(d.g.lt t ws mt).2;show t∉(if s.my=true then s.yng++[s.nxt] else s.yng);split
  ·intro z
   rcases MS.mp z with z|z
   ·exact d.dy t m z
   ·have:=MO.mp z;omega
  ·exact d.dy t m
 dh:=λt m=>(eE m).elim (d.dh t) λe=>by
  injection e with e;intro z;obtain⟨ws,mt⟩:=d.g.dk t z
  have:=(d.g.lt t ws mt).2
  omega
 df:=λu ws t m hu h=>by
  rcases MS.mp m with m|m
  ·exact d.df u ws t m hu h
  ·cases MO.mp m
   cases Ob h
 rd:=d.rd
theorem Gd.dz{s:HS}(d:Gd s){t:Int}{ws:List Wd}(l6:ws.length≤6)(c:∀ u,Wd.th u∈ws→(∃ w,(u,w)∈s.aC)∧u∉s.aF):Gd {s with aC:=dz s.aC t ws} where
 g:=d.g.dz l6 λu m=>(c u m).1
 dy:=d.dy
 dh:=d.dh
 df:=λu w v m hu h=>by
  rcases mX m with m|⟨e,_⟩
  ·exact d.df u w v m hu h
  ·rw[e]at h;exact(c v h).2
 rd:=d.rd
theorem Gd.hnd{s:HS}(d:Gd s){h:Int}{w:Wd}(e:wat s.aL h=some w):∀ t,w=.th t→(∃ ws,(t,ws)∈s.aC)∧t∉s.aF:=λt z=>by
 have m:=Na (i9 e).2.2;rw[z]at m;exact⟨d.g.hh t m,d.dh t m⟩
theorem uG{s:HS}{n:Option Int}:(rdR s n).nxt=s.nxt:=by
 unfold rdR;split
 ·split<;>rfl
 ·rfl
theorem Aj{s:HS}(d:Gd s)(few:s.nxt<10000){dd:Dd}(ok:dd.ok):Gd (dDo s dd).2∧s.nxt≤(dDo s dd).2.nxt∧(dDo s dd).2.nxt≤s.nxt+1:=by
 have same:Gd s∧s.nxt≤s.nxt∧s.nxt≤s.nxt+1:=⟨d,NL _,by omega⟩;cases dd with
 | make h n =>
  show Gd (bp s h n).2∧s.nxt≤(bp s h n).2.nxt∧(bp s h n).2.nxt≤s.nxt+1;unfold bp;split
  ·split
   ·split
    ·exact⟨d.mkd,by rw[hW];exact NL _,by rw[hW];omega⟩
    ·exact⟨d.mkd.add ok.2.2 (by rw[hW];exact few),by show s.nxt≤(mkR s n).nxt+1;rw[hW];omega,by show(mkR s n).nxt+1≤s.nxt+1;rw[hW];exact NL _⟩
   ·exact same
  ·exact same
 | store g k h =>
  show Gd (a8 s g k h).2∧s.nxt≤(a8 s g k h).2.nxt∧(a8 s g k h).2.nxt≤s.nxt+1;unfold a8;split
  ·rename_i t e
   split
   ·rename_i w e2
    split
    ·rename_i c
     have m:=d.g.hand e;refine⟨d.dz (by rw[Oi];exact d.g.f6 _ _ m) (λu hu=>?_),NL _,by show s.nxt≤s.nxt+1;omega⟩;rcases eE hu with hu|hu
     ·exact⟨d.g.ff _ _ _ m hu,d.df _ _ _ m ((d.hnd e t rfl).2) hu⟩
     ·exact d.hnd e2 u hu.symm
    ·exact same
   ·exact same
  ·exact same
 | load h g k =>
  show Gd (bP s h g k).2∧s.nxt≤(bP s h g k).2.nxt∧(bP s h g k).2.nxt≤s.nxt+1;unfold bP;split
  ·split
   ·rename_i t e
    split
    ·rename_i c
     have m:=d.g.hand e;refine⟨d.put λu hu=>?_,NL _,by show s.nxt≤s.nxt+1;omega⟩;have hi:k.toNat<(fld s t).length:=(by omega);have hm:Wd.th u∈fld s t:=(by rw[←hu,OJ,MP hi];exact NK hi);exact⟨d.g.ff _ _ _ m hm,d.df _ _ _ m ((d.hnd e t rfl).2) hm⟩
    ·exact same
   ·exact same
  ·exact same
 | copy h g =>
  show Gd (cF s h g).2∧s.nxt≤(cF s h g).2.nxt∧(cF s h g).2.nxt≤s.nxt+1;unfold cF;split
  ·split
   ·rename_i w e
    exact⟨d.put (d.hnd e),NL _,by show s.nxt≤s.nxt+1;omega⟩
   ·exact same
  ·exact same
 | drop h =>
  show Gd (cO s h).2∧s.nxt≤(cO s h).2.nxt∧(cO s h).2.nxt≤s.nxt+1;unfold cO;split
  ·exact⟨d.put (λt e=>by cases e),NL _,by show s.nxt≤s.nxt+1;omega⟩
  ·exact same
 | number h x =>
  show Gd (aZ s h x).2∧s.nxt≤(aZ s h x).2.nxt∧(aZ s h x).2.nxt≤s.nxt+1;unfold aZ;split
  ·split
   ·exact⟨d.put (λt e=>by cases e),NL _,by show s.nxt≤s.nxt+1;omega⟩
   ·exact same
  ·exact same
 | name w h =>
  show Gd (bH s w h).2∧s.nxt≤(bH s w h).2.nxt∧(bH s w h).2.nxt≤s.nxt+1;unfold bH;split
  ·rename_i t e
   split
   ·exact⟨⟨d.g.names (d.g.hand e),d.dy,d.dh,d.df,d.rd⟩,NL _,by show s.nxt≤s.nxt+1;omega⟩
   ·exact same
  ·exact same
 | read h w =>
  show Gd (bA s h w).2∧s.nxt≤(bA s h w).2.nxt∧(bA s h w).2.nxt≤s.nxt+1;unfold bA;split
  ·split
   ·rename_i c2
    refine⟨?_,by rw[uG];exact NL _,by rw[uG];show s.nxt≤s.nxt+1;omega⟩;have hi:w.toNat<s.names.length:=(by rw[d.g.n8];omega);have gd:s.names.getD w.toNat none=s.names[w.toNat]:=(by simp[List.getD,hi]);have mm:s.names[w.toNat]∈s.names:=NK hi;rw[←gd]at mm;cases e:s.names.getD w.toNat none with
    | none=>exact d.put (λt e=>by cases e)
    | some t =>
     rw[e]at mm;obtain⟨ws,m⟩:=d.g.nn t mm;show Gd (if t∈(eR s h (.th t)).aF then gD (eR s h (.th t)) t else eR s h (.th t));have g2:Good (eR s h (.th t)):=d.g.put λu z=>by cases z;exact⟨ws,m⟩
     by_cases c:t∈s.aF
     ·rw[if_pos (show t∈(eR s h (.th t)).aF from c)]
      refine Gd.JG ⟨g2,d.dy,d.df,d.rd⟩ c λu hu=>?_;rcases eE hu with hu|hu
      ·exact .inr (d.dh u hu)
      ·injection hu with hu;exact .inl hu
     ·rw[if_neg (show ¬t∈(eR s h (.th t)).aF from c)]
      exact d.put λu z=>by cases z;exact⟨⟨ws,m⟩,c⟩
   ·exact same
  ·exact same
 | word h x =>
  show Gd (bQ s h x).2∧s.nxt≤(bQ s h x).2.nxt∧(bQ s h x).2.nxt≤s.nxt+1;unfold bQ;split
  ·rename_i t e
   split
   ·split
    ·exact same
    ·rename_i c
     exact⟨⟨d.g.aR (d.g.hand e) c,d.dy,d.dh,d.df,d.rd⟩,NL _,by show s.nxt≤s.nxt+1;omega⟩
   ·exact same
  ·exact same
 | small=>exact⟨d.small,NL _,by show s.nxt≤s.nxt+1;omega⟩
 | turn =>
  show Gd (qU s).2∧s.nxt≤(qU s).2.nxt∧(qU s).2.nxt≤s.nxt+1;unfold qU;split
  ·rename_i c
   rw[show As s=(none,qk s) from if_pos c];exact⟨d.fin,NL _,by show s.nxt≤s.nxt+1;omega⟩
  ·rename_i c
   rw[show mM s=(none,qj (bz s)) from if_neg c];exact⟨d.small.beg rfl,NL _,by show s.nxt≤s.nxt+1;omega⟩
theorem gd0{my:Bool}{room limit:Int}:Gd (s0 my room limit):=⟨good0,(λt m=>nomatch m),(λt _ m=>nomatch m),(λu ws t m=>nomatch m),λ_=>rfl⟩
noncomputable def CD(K:W.Frag):Sp:=λvs H Q _=>∃(a:Addr) (ns:List Int),vs=[.ref a]∧SqL K H a (ns.map V.int)∧ns.length≤63∧∀ H',Q (.bl true) H'
open Classical in
noncomputable def res(H:Hp)(F:Addr→Prop):Hp:=λb=>if F b∧(∀ us,H b≠some (.tup us)) then none else H b
theorem res_some{H:Hp}{F:Addr→Prop}{b:Addr}{u:HO}(h:res H F b=some u):H b=some u∧(¬F b∨∃ us,u=.tup us):=by
 unfold res at h;split at h
 ·cases h
 ·rename_i c
  refine⟨h,N7 λz=>c ⟨N7 λy=>z (.inl y),λus q=>z (.inr ⟨us,?_⟩)⟩⟩;rw[h]at q;exact Nf q
theorem sN{H:Hp}{F:Addr→Prop}{b:Addr}{u:HO}(h:H b=some u)(c:¬F b∨∃ us,u=.tup us):res H F b=some u:=by
 unfold res;rw[if_neg]
 ·exact h
 ·rintro⟨f,n⟩
  rcases c with c|⟨us,rfl⟩
  ·exact c f
  ·exact n us h
theorem mY{H:Hp}{F:Addr→Prop}:ay (res H F) H:=λ_ _ q=>(res_some q).1
theorem Bg{H H':Hp}{F:Addr→Prop}(s:ay H H'):ay (res H F) (res H' F):=λb u q=>sN (s _ _ (res_some q).1) (res_some q).2
theorem jf{H H':Hp}{F F':Addr→Prop}(fr:Fr F H F' H'):ay (res H F) (res H' F'):=λb u q=>by
 obtain⟨h,c⟩:=res_some q;rcases c with c|⟨us,rfl⟩
 ·have:=fr.out c h
  exact sN this.1 (.inl this.2)
 ·exact sN (fr.tup _ _ h) (.inr ⟨us,rfl⟩)
theorem Mu{H:Hp}{n:Nat}{p:Addr}{us:List V}{xs:List Vl}(h:H p=some (.lst us))(l:us.length=xs.length)(k:∀(i:Nat) (u:V) (x:Vl),us[i]?=some u→xs[i]?=some x→Rp H n u x):Rp H (n+1) (.ref p) (.l xs):=⟨p,us,rfl,h,l,k⟩
theorem Fv{α:Type}{H:Hp}{n:Nat}{p:Addr}{l:List α}{f:α→V}(g:α→Vl)(h:H p=some (.lst (l.map f)))(k:∀ z∈l,Rp H n (f z) (g z)):Rp H (n+1) (.ref p) (.l (l.map g)):=Mu h (by rw[MN,MN]) λi u x h1 h2=>by
 rw[MY]at h1 h2;obtain⟨z,hz,rfl⟩:=Ng.mp h1;rw[hz]at h2;cases h2;exact k z (Na hz)
theorem fli{H:Hp}{n:Nat}{t:Int}:Rp H n (.int t) (.a (.int t)):=Rp.flat rfl
noncomputable def zU(D:Ad):Sp:=λvs H Q _=>∃ x A s,vs=[.ref x]∧IH D H x A s∧Good s∧(∀ p H',ay H H'→H p=none→H' p=some (.lst A.hx)→Q (.ref p) H')
noncomputable abbrev lV:List Str:=["self"]
theorem j8:au lV ["self"] (aj kO):=fsc
theorem j9(T:Txt w K mg D):Ok P w K mg base 2 D.k8 ["self"] (zU D):=by
 refine T.o1 "IdealHeap.hands" j8 λcdv A' outer s' H vs Q E hr h=>?_;obtain⟨x,A,s,rfl,J,G,k⟩:=h;refine⟨_,(PSs.nox (ak (aG ((cZ T).m0 T.aM hr (aB (pv 0) rfl) aV)))),?_⟩;exact⟨_,rfl,x,D.ah,_,_,.ref A.hd,rfl,J.ax,T.ae,T.n,gn,A.hd,A.hdx,_,rfl,J.ahd,rfl,A.hd,A.hdx,A.hl,A.hx,s.aL,rfl,J.hn G,k⟩
noncomputable def Dz(D:Ad):Sp:=λvs H Q _=>∃ nt ntx nl xs,vs=[.ref nt]∧Nt D H nt ntx nl xs∧∀ p H',ay H H'→H p=none→H' p=some (.lst xs)→Q (.ref p) H'
noncomputable abbrev g5:List Str:=["self"]
theorem gr:au g5 ["self"] (aj gQ):=fsc
theorem gu(T:Txt w K mg D):Ok P w K mg base 1 D.gS ["self"] (Dz D):=by
 refine T.o1 "NameTable.all_named" gr λcdv A' outer s' H vs Q E hr h=>?_;obtain⟨nt,ntx,nl,xs,rfl,N,k⟩:=h;refine⟨_,(PSs.nox (ak (aG (cM cK rfl T.z PyProof.Rows.Boot.«list» (aa (aB (pv 0) rfl) aq))))),?_⟩;exact⟨_,rfl,nt,D.aK,ntx,_,.ref nl,rfl,N.i,T.bh,T.n,rfl,nl,xs,rfl,.inl (SqL.of N.l),λp hp=>k p _ (ay.upd hp) hp ag⟩
noncomputable def zV(D:Ad):Sp:=λvs H Q _=>∃ x A s,vs=[.ref x]∧IH D H x A s∧Good s∧(∀ p H',ay H H'→H p=none→H' p=some (.lst (s.names.map nmV))→Q (.ref p) H')
noncomputable abbrev lW:List Str:=["self"]
theorem ka:au lW ["self"] (aj kP):=fsc
theorem kc(T:Txt w K mg D):Ok P w K mg base 2 D.k9 ["self"] (zV D):=by
 refine T.o1 "IdealHeap.names" ka λcdv A' outer s' H vs Q E hr h=>?_;obtain⟨x,A,s,rfl,J,G,k⟩:=h;refine⟨_,(PSs.nox (ak (aG ((gu T).m0 T.bh hr (aB (pv 0) rfl) aV)))),?_⟩;exact⟨_,rfl,x,D.ah,_,_,.ref A.nt,rfl,J.ax,T.ae,T.n,Ah,A.nt,A.ntx,_,rfl,J.ant,rfl,A.nt,A.ntx,A.nl,_,rfl,J.ntb G,k⟩
noncomputable def xM(D:Ad):Sp:=λvs H Q _=>∃ x A s,vs=[.ref x]∧IH D H x A s∧Good s∧(∀ p H',ay H H'→H p=none→H' p=some (.lst ((keys s).map V.int))→Q (.ref p) H')
noncomputable abbrev ke:List Str:=["self"]
theorem jg:au ke ["self"] (aj jQ):=fsc
theorem eF(T:Txt w K mg D):Ok P w K mg base 1 D.jW ["self"] (xM D):=by
 refine T.o1 "IdealHeap.things" jg λcdv A' outer s' H vs Q E hr h=>?_;obtain⟨x,A,s,rfl,J,G,k⟩:=h;refine⟨_,(PSs.nox (ak (aG (aP (dF rfl) rfl T.z PyProof.Rows.Boot.«sorted» (aa (aB (pv 0) rfl) aq))))),?_⟩;exact⟨_,rfl,x,D.ah,_,_,.ref A.fh,rfl,J.ax,T.ae,T.n,gJ,A.fh,_,keys s,rfl,.inl J.afh,Ai s A,(by unfold keys;rw[MN];exact Nh G.few (by decide)),G.asc.imp (λh=>NZ h),λp hp=>k p _ (ay.upd hp) hp ag⟩
noncomputable def xN(D:Ad):Sp:=λvs H Q _=>∃ x A s,vs=[.ref x]∧IH D H x A s∧Good s∧(∀ p H',ay H H'→H p=none→H' p=some (.lst (s.aF.map V.int))→Q (.ref p) H')
noncomputable abbrev kf:List Str:=["self"]
theorem jh:au kf ["self"] (aj jR):=fsc
theorem ji(T:Txt w K mg D):Ok P w K mg base 1 D.jX ["self"] (xN D):=by
 refine T.o1 "IdealHeap.doomed" jh λcdv A' outer s' H vs Q E hr h=>?_;obtain⟨x,A,s,rfl,J,G,k⟩:=h;refine⟨_,(PSs.nox (ak (aG (aP (dF rfl) rfl T.z PyProof.Rows.Boot.«sorted» (aa (aB (pv 0) rfl) aq))))),?_⟩;exact⟨_,rfl,x,D.ah,_,_,.ref A.dm,rfl,J.ax,T.ae,T.n,uY,A.dm,_,s.aF,rfl,.inl J.adm,p8 s.aF,Nh (uE G) (by decide),G.pB.imp (λh=>NZ h),λp hp=>k p _ (ay.upd hp) hp ag⟩
noncomputable def Fw(D:Ad):Sp:=λvs H Q E=>∃ x A s,∃ t:Int,vs=[.ref x,.int t]∧IH D H x A s∧Good s∧Sm t∧(t∈keys s→Q .non H)∧(t∉keys s→Bad D.jq H E)
noncomputable abbrev jj:List Str:=["self", "t"]
theorem iD:au jj ["self", "t"] (aj i7):=fsc
theorem iE(T:Txt w K mg D):Ok P w K mg base 3 D.i8 ["self", "t"] (Fw D):=by
 refine T.o2 "Heap.look_at_held" iD λcdv A' outer s' H vs Q E hr h=>?_;obtain⟨x,A,s,t,rfl,J,G,ht,k,kb⟩:=h;have hu:=b7 hr;refine⟨_,(ak (a6 (cR (bV hu (pv 1) (aB (pv 0) rfl)) (by with_unfolding_all rfl))
   (ak (b0 rfl dW ((aA T).e D.jq hr px (aa (dw (aQ (eJ (pv 1)) (aQ cJ dv))) aq))))
   aI)),?_⟩
 refine⟨_,rfl,_,rfl,x,D.ah,_,_,.ref A.fh,rfl,J.ax,T.ae,T.n,gJ,A.fh,_,rfl,eK.k (k:=Sum.inl t) J.afh,_,rfl,?_⟩;rw[(Ai s A).isS];by_cases c:t∈keys s
 ·rw[decide_eq_true c]
  exact b8 (k c)
 ·rw[decide_eq_false c]
  exact dt ⟨_,rfl,t,rfl,ht,λy hy ea hea=>bq (T.ec D.jq) (λ_ q=>q) (kb c) ea hea⟩
noncomputable def DA(D:Ad):Sp:=λvs H Q E=>∃ x A s,∃ t:Int,vs=[.ref x,.int t]∧IH D H x A s∧Good s∧Sm t∧(t∈keys s→∀ p H',ay H H'→H p=none→H' p=some (.lst (A.fx t))→Q (.ref p) H')∧(t∉keys s→Bad D.jq H E)
noncomputable abbrev g7:List Str:=["self", "t"]
theorem gw:au g7 ["self", "t"] (aj gR):=fsc
theorem gx(T:Txt w K mg D):Ok P w K mg base 4 D.gT ["self", "t"] (DA D):=by
 refine T.o2 "IdealHeap.fields_of" gw λcdv A' outer s' H vs Q E hr h=>?_;obtain⟨x,A,s,t,rfl,J,G,ht,k,kb⟩:=h;have hu:=b7 hr;refine⟨_,(ai (az ((iE T).m T.ae hr (pv 0) px (aa (pv 1) aq)))
  (ak (aG (cM cK rfl T.z PyProof.Rows.Boot.«list» (aa (cS hu (aB (pv 0) rfl) (pv 1) (λ_ _=>rfl)) aq))))),?_⟩
 refine⟨_,rfl,x,_,_,rfl,J.ax,(by kernel_rfl),_,rfl,x,A,s,t,rfl,J,G,ht,λm=>?_,kb⟩;obtain⟨ws,mw⟩:=mem_keys.mp m;exact⟨_,rfl,x,D.ah,_,_,.ref A.fh,rfl,J.ax,T.ae,T.n,gJ,_,rfl,A.fh,_,rfl,J.Im G mw,A.fa t,_,rfl,.inl (SqL.of (J.afl _ _ mw).1),λp hp=>k m p _ (ay.upd hp) hp ag⟩
end
end K72
end
section
namespace L2
open PySem PySem.Spec PyProof.Rows LX
section
variable{P:Program}{w:World}{K:W.Frag}{mg:Str→Option Value}{base:Heap}{N:List Str}{qual:Str}{scope:Scope}{f:Addr}{cdv:Value}{A:Around}{outer:List Env}{s₀:Shared}{H₀:Hp}{E₀:XK}
end
end L2
end
section
namespace K72.R
open PySem L2 LX
noncomputable abbrev Ex:Stmt:=iI
noncomputable abbrev BV:Stmt:=iJ
noncomputable abbrev BW:Stmt:=gE
noncomputable abbrev sO:Stmt:=jC
noncomputable abbrev yE:Stmt:=iK
noncomputable abbrev sIn:Stmt:=pj
noncomputable abbrev ow:Stmt:=iL
noncomputable abbrev Ey:Stmt:=tH
noncomputable abbrev BX:Stmt:=qM
noncomputable abbrev BY:Stmt:=jD
noncomputable abbrev BZ:Stmt:=iM
noncomputable abbrev yF:Stmt:=jE
noncomputable abbrev jk:Stmt:=f9
section
variable{P:Program}{w:World}{K:W.Frag}{mg:Str→Option Value}{base:Heap}
noncomputable def qV:Option Expr→Scope
 | some (.ListComp _ _ sc _)=>sc
 | _=>default
noncomputable def oV:Option Int→V
 | none=>.non
 | some n=>.int n
noncomputable def Ez:Stmt→Option Expr
 | .Return e _=>e
 | _=>none
noncomputable abbrev Fs:=List (Int×List (Option Int))
noncomputable def kvl(ad:Int→Addr)(ks:Fs):List (Key×V):=ks.map λp=>(Sum.inl p.1,V.ref (ad p.1))
structure Vw(H:Hp)(r d:Addr)(o:Obj)(ad:Int→Addr)(rs:List (Option Int))(ks:Fs):Prop where
 hr:H r=some (.lst (rs.map oV))
 hd:H d=some (.frz o (.dK (kvl ad ks)))
 hl:∀ p∈ks,H (ad p.1)=some (.lst (p.2.map oV))
theorem Vw.same{H H':Hp}{r d:Addr}{o:Obj}{ad:Int→Addr}{rs:List (Option Int)}{ks:Fs}(v:Vw H r d o ad rs ks)(s:ay H H'):Vw H' r d o ad rs ks:=⟨s _ _ v.hr,s _ _ v.hd,λp hp=>s _ _ (v.hl p hp)⟩
structure Rt(rs:List (Option Int))(ks:Fs):Prop where
 nd:(ks.map (·.1)).Nodup
 pos:∀ p∈ks,0≤p.1
 kl:ks.length≤200
 asc:(ks.map (·.1)).Pairwise (·< ·)
 rl:rs.length≤90
 fl:∀ p∈ks,p.2.length≤6
 ri:∀ n,some n∈rs→n∈ks.map (·.1)
 fi:∀ p∈ks,∀ n,some n∈p.2→n∈ks.map (·.1)
theorem yG(ad:Int→Addr)(t:Int):∀ ks:Fs,cE (kvl ad ks) (Sum.inl t)=if t∈ks.map (·.1) then some (V.ref (ad t)) else none
 | []=>rfl
 | (k,fs)::r=>by
  have ih:=yG ad t r;by_cases e:k=t
  ·subst e
   rw[show kvl ad ((k,fs)::r)=(Sum.inl k,V.ref (ad k))::kvl ad r from rfl,de rfl,if_pos (by simp)]
  ·rw[show kvl ad ((k,fs)::r)=(Sum.inl k,V.ref (ad k))::kvl ad r from rfl,di (λz=>e (by injection z)),ih]
   have:(t∈((k,fs)::r).map (·.1))↔t∈r.map (·.1):=by
    rw[Nz,Nk];exact⟨λz=>z.resolve_left λy=>e y.symm,.inr⟩
   simp only[this]
theorem yH{X:Cx}{st:Stmt}:PS X st (λ_ _ _=>False):=λ_ _ _ _ _ _ h=>h.elim
noncomputable abbrev keys(ks:Fs):List Int:=ks.map (·.1)
theorem CF{H:Hp}{r d:Addr}{o:Obj}{ad:Int→Addr}{rs:List (Option Int)}{ks:Fs}(v:Vw H r d o ad rs ks):Rd H d (.dK (kvl ad ks)):=.inr ⟨o,v.hd⟩
theorem B7{H:Hp}{d:Addr}{o:Obj}{ad:Int→Addr}{ks:Fs}(h:H d=some (.frz o (.dK (kvl ad ks))))(t:Int):eK H d (.int t) (if t∈keys ks then some (V.ref (ad t)) else none):=.inl ⟨_,Sum.inl t,.inr ⟨o,h⟩,rfl,by rw[yG]⟩
theorem jJ{H:Hp}{d:Addr}{o:Obj}{ad:Int→Addr}{ks:Fs}(h:H d=some (.frz o (.dK (kvl ad ks)))){t:Int}(ht:t∈keys ks):eK H d (.int t) (some (V.ref (ad t))):=by
 have:=B7 h t
 rwa[if_pos ht]at this
noncomputable def uH:Sp:=λvs H Q _=>∃(l d:Addr) (o:Obj) (ad:Int→Addr) (fs:List (Option Int)) (ks:Fs),vs=[.ref l,.ref d]∧H l=some (.lst (fs.map oV))∧H d=some (.frz o (.dK (kvl ad ks)))∧(∀ n,some n∈fs→n∈keys ks)∧Q .non H
theorem Kr:au ["told", "fields", "t"] ["told", "fields"] (aj BV):=⟨rfl,rfl,rfl,by decide +kernel,rfl,by decide +kernel,by decide +kernel⟩
theorem Bh{f:Addr}{fd:FuncData}(F:Fun K "look_at_told" "look_at_told" BV f fd):cL P w K mg base (CXE P w) 1 f fd ["told", "fields"] uH:=by
 refine F.okE Kr (λvs H Q E h=>?_) (λcdv A outer s H vs Q E hr h=>?_)
 ·obtain⟨l,d,o,ad,fs,ks,rfl,_⟩:=h
  rfl
 ·obtain⟨l,d,o,ad,fs,ks,rfl,hl,hd,hin,k⟩:=h
  have hu:=b7 hr;refine⟨_,PSs.nox (ak (bF Nl rfl (a9 (pv 0)) (aN (i:=2) Kr.nd rfl (Or.inl rfl))
   (ak (a6 (PW.pt (pw_and (aE fY (pv 2) bK (aO _)) (pw_and1 (cR (bV hu (pv 2) (pv 1)) (by with_unfolding_all rfl))))) (ak yH) aI)))),?_⟩
  refine⟨_,rfl,l,rfl,⟨_,SqL.of hl⟩,cg (K:=K) (a:=l) (xs:=fs.map oV) (λi σ H2=>H2=H∧∃ v2,σ=[some (.ref l),some (.ref d),v2]) ⟨rfl,none,rfl⟩ (λi σ H2 _ ⟨e,_⟩=>by rw[e];exact SqL.of hl) ?_ ?_⟩
  ·rintro i x σ H2 hx ⟨rfl,v2,rfl⟩
   rw[MY]at hx;obtain⟨y,hy,rfl⟩:=Ng.mp hx;cases y with
   | none=>exact⟨_,rfl,rfl,_,rfl,b8 (b8 ⟨rfl,_,rfl⟩)⟩
   | some n =>
    have hn:n∈keys ks:=hin n (Na hy);exact⟨_,rfl,rfl,_,rfl,dt ⟨_,rfl,_,rfl,d,_,rfl,jJ hd hn,_,rfl,b8 ⟨rfl,_,rfl⟩⟩⟩
  ·rintro σ H2 ⟨rfl,v2,rfl⟩
   exact k
noncomputable def u5(K:W.Frag):Sp:=λvs H Q _=>∃(v r d:Addr) (o:Obj) (ad:Int→Addr) (rs:List (Option Int)) (ks:Fs),vs=[.ref v]∧SqT K H v [.ref r,.ref d]∧Vw H r d o ad rs ks∧Rt rs ks∧Q .non H
theorem Ip:au ["view", "fields", "t"] ["view"] (aj Ex):=⟨rfl,rfl,rfl,by decide +kernel,rfl,by decide +kernel,by decide +kernel⟩
theorem Fx{ad:Int→Addr}{ks:Fs}{i:Nat}{p:Key×V}(h:(kvl ad ks)[i]?=some p):∃ q∈ks,ks[i]?=some q∧p=(Sum.inl q.1,V.ref (ad q.1)):=by
 unfold kvl at h;rw[MY]at h;obtain⟨q,hq,rfl⟩:=Ng.mp h;exact⟨q,Na hq,hq,rfl⟩
theorem DB{f fT:Addr}{fd fdT:FuncData}(F:Fun K "look_at_view" "look_at_view" Ex f fd)(GT:cL P w K mg base (CXE P w) 1 fT fdT ["told", "fields"] uH)(mT:mg "look_at_told" = some (.ref fT))(kT:PySem.W.keepIn K (.ref fT)=true)(bT:Binds K fdT ["told", "fields"] []) :
  cL P w K mg base (CXE P w) 2 f fd ["view"] (u5 K):=by
 refine F.okE Ip (λvs H Q E h=>?_) (λcdv A outer s H vs Q E hr h=>?_)
 ·obtain⟨v,r,d,o,ad,rs,ks,rfl,_⟩:=h
  rfl
 ·obtain⟨v,r,d,o,ad,rs,ks,rfl,ht,hv,rt,k⟩:=h
  have hu:=b7 hr;refine⟨_,PSs.nox (ai (aD (i:=1) Ip.nd rfl (Or.inl rfl) (a7 aX (pv 0) ar (λ_ _=>rfl)))
   (ai (az (bG GT hr rfl mT kT bT .nil aV (aa (a7 aX (pv 0) ar (λ_ _=>rfl)) (aa (pv 1) aq))))
   (ak (bF Nl rfl (f7 (pv 1)) (aN (i:=2) Ip.nd rfl (Or.inl rfl))
    (ai (a6 (aE km (pv 2) ar (aO _)) (ak yH) aI)
    (ak (az (bG GT hr rfl mT kT bT .nil aV (aa (cS hu (pv 1) (pv 2) (λ_ _=>rfl)) (aa (pv 1) aq)))))))))),?_⟩
  refine⟨_,rfl,v,_,1,.ref d,rfl,rfl,ht,rfl,?_⟩;refine⟨_,rfl,v,_,0,.ref r,rfl,rfl,ht,rfl,_,rfl,r,d,o,ad,rs,ks,rfl,hv.hr,hv.hd,rt.ri,?_⟩;refine⟨_,rfl,d,o,_,rfl,hv.hd,i4 (d:=d) (o:=o) (kvs:=kvl ad ks) (λi σ H2=>H2=H∧∃ v2,σ=[some (.ref v),some (.ref d),v2]) ⟨rfl,none,rfl⟩ (λi σ H2 _ ⟨e,_⟩=>by rw[e];exact hv.hd) ?_ ?_⟩
  ·rintro i p σ H2 hx ⟨rfl,v2,rfl⟩
   obtain⟨q,hq,_,rfl⟩:=Fx hx;have h0:=rt.pos q hq;refine⟨_,rfl,_,0,rfl,rfl,_,rfl,bu (λh=>?_) (λ_=>?_)⟩
   ·have h1:q.1<0:=by simpa using h
    omega
   ·exact⟨_,rfl,_,rfl,d,_,rfl,jJ hv.hd (ON hq),_,rfl,ad q.1,d,o,ad,q.2,ks,rfl,hv.hl q hq,hv.hd,rt.fi q hq,rfl,_,rfl⟩
  ·rintro σ H2 ⟨rfl,v2,rfl⟩
   exact k
noncomputable def cQ(ks:Fs)(t:Int):List (Option Int):=match ks.find? (λp=>decide (p.1=t)) with
 | some p=>p.2
 | none=>[]
theorem eG:∀ {ks:Fs},(keys ks).Nodup→∀ {p:Int×List (Option Int)},p∈ks→cQ ks p.1=p.2
 | [],_,_,h=>nomatch h
 | q::r,nd,p,h=>by
  obtain⟨n1,n2⟩:=Oc.mp (show(q.1::keys r).Nodup from nd);unfold cQ;rcases Nk.mp h with e|h
  ·subst e
   rw[List.find?_cons_of_pos (by simp)]
  ·have ne:¬q.1=p.1:=λz=>n1 (by rw[z];exact ON h)
   rw[List.find?_cons_of_neg (by simpa using ne)];exact eG n2 h
theorem Ak{H:Hp}{r d:Addr}{o:Obj}{ad:Int→Addr}{rs:List (Option Int)}{ks:Fs}(v:Vw H r d o ad rs ks)(rt:Rt rs ks){t:Int}(ht:t∈keys ks):H (ad t)=some (.lst ((cQ ks t).map oV))∧(cQ ks t).length≤6∧∀ n,some n∈cQ ks t→n∈keys ks:=by
 obtain⟨p,hp,rfl⟩:=Nc.mp ht;rw[eG rt.nd hp];exact⟨v.hl p hp,rt.fl p hp,rt.fi p hp⟩
theorem cp{H H':Hp}{a:Addr}{xs:List V}(h:SqT K H a xs)(s:ay H H'):SqT K H' a xs:=Or.imp (λr=>Or.elim r (λe=>.inl (s _ _ e)) λ⟨o,e⟩=>.inr ⟨o,s _ _ e⟩) id h
theorem mZ(ad:Int→Addr)(ks:Fs):(kvl ad ks).map (·.1)=(keys ks).map Sum.inl:=by
 unfold kvl keys;rw[Ny,Ny];rfl
noncomputable def Au(ks:Fs)(ts:List Int):Prop:=∀ t∈ts,∀ n,some n∈cQ ks t→n∈ts
end
end K72.R
end
section
namespace K72
open PySem L2 LX
section
variable{P:Program}{w:World}{K:W.Frag}{mg:Str→Option Value}{base:Heap}{D:Ad}
noncomputable def thO:Wd→Option Int
 | .th t=>some t
 | _=>none
theorem JI(o:Option Int):R.oV o=nmV o:=by cases o<;>rfl
theorem B8(l:List (Option Int)):l.map R.oV=l.map nmV:=NG λo _=>JI o
noncomputable def vks(s:HS):R.Fs:=(keys s).map λt=>(t,(fld s t).map thO)
noncomputable def vrs(s:HS):List (Option Int):=s.aL.map thO
noncomputable def rdL(s:HS)(c:Int):List Int:=if c%16=13 then(s.names.getD (c/8192%8).toNat none).toList else[]
theorem bt{H:Hp}{a:Addr}{o:HO}(_:ay H (upd H a o)):upd H a o a=some o:=ag
noncomputable def DC:Sp:=λvs H Q _=>∃ v w,vs=[v]∧WV H v w∧Q (nmV (thO w)) H
noncomputable abbrev xO:List Str:=["value"]
theorem vZ:au xO ["value"] (aj xA):=fsc
theorem pD(T:Txt w K mg D):Ok P w K mg base 2 D.xC ["value"] (DC):=by
 refine T.o1 "thing_in" vZ λcdv A' outer s' H vs Q E hr h=>?_;obtain⟨v,w,rfl,wv,k⟩:=h;refine⟨_,(PSs.nox (ak (aG (iY (aE kh ((kA T).c hr aV (aa (pv 0) aq)) fM (aO _)) (a7 aX (pv 0) ar (λ_ _=>rfl)) bK)))),?_⟩;refine⟨_,rfl,v,w,rfl,wv,?_⟩;cases w with
 | no=>exact⟨rfl,_,rfl,bu (λh=>absurd h (NM.mp (by kernel_rfl))) (λ_=>k)⟩
 | num n=>exact⟨rfl,_,rfl,bu (λh=>absurd h (NM.mp (by kernel_rfl))) (λ_=>k)⟩
 | th t =>
  obtain⟨a,rfl,ht⟩:=wv;exact⟨rfl,_,rfl,bu (λ_=>⟨_,rfl,a,_,1,.int t,rfl,rfl,SqT.of ht,rfl,k⟩) (λh=>absurd (by kernel_rfl) h)⟩
noncomputable def Fy(D:Ad):Sp:=λvs H Q _=>∃ x A s,vs=[.ref x]∧IH D H x A s∧Good s∧∀(v r d:Addr) (o:Obj) (ad:Int→Addr) (H':Hp),ay H H'→H d=none→H r=none→(∀ t∈keys s,H (ad t)=none)→H' v=some (.tup [.ref r,.ref d])→R.Vw H' r d o ad (vrs s) (vks s)→Q (.ref v) H'
noncomputable abbrev oZ:List Str:=["hall", "fields", "t"]
theorem kC:au oZ ["hall"] (aj oO):=fsc
theorem xP(T:Txt w K mg D):Ok P w K mg base 5 D.zN ["hall"] (Fy D):=by
 refine T.o1 "view_of" kC λcdv A' outer s' H vs Q E hr h=>?_;obtain⟨x,A,s,rfl,J,G,k⟩:=h;have hu:=b7 hr;refine⟨_,(PSs.nox (ai (aD (i:=1) kC.nd rfl (Or.inl rfl) bY)
  (ai (bF Nl rfl (a9 ((eF T).m0 T.ae hr (pv 0) aV)) (aN (i:=2) kC.nd rfl (Or.inl rfl))
   (ak (cH hu (pv 1) (pv 2) (ft (cl:=[]) (x := "value") (idx:=[]) (NC:=["value"]) (by exact cB (sc:=aj oO) (N:=oZ) (ns:=[]) rfl rfl rfl (by decide +kernel) rfl rfl (by intro q hq;cases hq)) rfl (a9 ((gx T).m T.ae hr (pv 0) aV (aa (pv 2) aq))) (λC fp s₀ H₀=>((pD T).c hr uX (aa (pv 0) aq)))) rfl)))
  (ak (aG (dU (aa (ft (cl:=[]) (x := "value") (idx:=[]) (NC:=["value"]) (by exact cB (sc:=aj oO) (N:=oZ) (ns:=[]) rfl rfl rfl (by decide +kernel) rfl rfl (by intro q hq;cases hq)) rfl (a9 ((j9 T).m0 T.ae hr (pv 0) aV)) (λC fp s₀ H₀=>((pD T).c hr uX (aa (pv 0) aq)))) (aa (jB (pv 1)) aq)))))))),?_⟩
 have lz0:(keys s).length≤10000:=by unfold keys;rw[MN];exact G.few
 intro d hd;have s0:=ay.upd (o:=.dK []) hd;have J0:=J.same s0;refine⟨_,rfl,x,_,_,rfl,J0.ax,(by kernel_rfl),x,A,s,rfl,J0,G,λp1 H1 s1 hp1 z1=>?_⟩;have J1:=J0.same s1;have zd1:=s1 _ _ (bt s0);have nfd:¬aJ x A s d:=J.fresh hd;have np1:p1≠d:=av z1 zd1 (by intro z;cases z);have back:∀ {b:Addr},b≠d→H1 b=none→H b=none:=λ{b} n q=>ay.none (s0.trans s1) q;have Jc_:∀ Hc:Hp,(∀ c u,c≠d→H1 c=some u→Hc c=some u)→IH D Hc x A s:=λHc sx=>J1.keep (λc u f q=>sx c u (λz=>nfd (by rw[←z];exact f)) q) (λc us q=>sx c _ (av q zd1 (by intro z;cases z)) q);refine⟨p1,rfl,⟨_,SqL.of z1⟩,cg (K:=K) (a:=p1) (xs:=(keys s).map V.int) (λj σ Hc=>∃(v2:Option V) (ad:Int→Addr),σ=[some (.ref x),some (.ref d),v2]∧(∀ c u,c≠d→H1 c=some u→Hc c=some u)∧Hc d=some (.dK (((keys s).take j).map λt=>(Sum.inl t,.ref (ad t))))∧∀ t∈(keys s).take j,H1 (ad t)=none∧Hc (ad t)=some (.lst (((fld s t).map thO).map nmV)))
  ⟨none,λ_=>0,rfl,(λ_ _ _ q=>q),zd1,(λt h=>nomatch h)⟩ (λj σ Hc _ ⟨_,_,_,sx,_⟩=>SqL.of (sx _ _ np1 z1)) ?_ ?_⟩
 ·rintro j v σ Hc hj ⟨v2,ad,rfl,sx,zd,qQ⟩
  rw[MY]at hj;obtain⟨t,ht,rfl⟩:=Ng.mp hj;have mt:t∈keys s:=Na ht;obtain⟨ws,mw⟩:=mem_keys.mp mt;have lt:=G.lt _ _ mw;have nx:=G.nx;have Jc:=Jc_ Hc sx;have tk:=take_snoc ht;have ni:t∉(keys s).take j:=u4 (show(keys s).Pairwise (·< ·) from G.asc) ht;have ky:Kys (((keys s).take j).map λt=>((Sum.inl t:Key),V.ref (ad t))) ((keys s).take j):=by unfold Kys;rw[Ny];rfl
  refine⟨_,rfl,x,_,_,rfl,Jc.ax,(by kernel_rfl),_,rfl,x,A,s,t,rfl,Jc,G,Sm.of (by omega) (by omega),λ_ p2 H3 s3 hp2 z2=>⟨p2,rfl,⟨_,SqL.of z2⟩,λL hL=>?_⟩,λh=>absurd mt h⟩;have rl:=((Jc.same s3).afl _ _ mw).2;rw[←G.fld mw]at rl;have f6:=G.f6 _ _ mw;rw[←G.fld mw]at f6;have lz:(fld s t).length≤sizeLine:=fe (by omega);refine d7 (K:=K) (a:=p2) (xs:=A.fx t) (λi ys H2=>ys=((fld s t).take i).map (λw=>nmV (thO w))∧ay H3 H2∧H2 L=some (.lst ys)) ⟨rfl,ay.upd hL,ag⟩ (λi ys H2 hi ⟨e,_,z⟩=>⟨z,by rw[e,MN,MZ,←rl.1];omega⟩) (λi ys H2 hi ⟨_,s2,_⟩=>SqL.of (s2 _ _ z2)) (by rw[rl.1];exact lz) (λi y ys H2 hi ⟨e,s2,z⟩=>?_) (λys H2 ⟨e,s2,z⟩=>?_)
  ·obtain⟨wd,hw,wv⟩:=qR rl hi
   refine⟨_,rfl,y,wd,rfl,wv.keep (bE.of s2),z,?_,λb u q=>by rw[ab (ao q hL)];exact s2 b u q,ag⟩;have hlt:i<(fld s t).length:=(MQ.mp hw).1;rw[MT hlt,MV,e,(MQ.mp hw).2];rfl
  ·rw[rl.1,MW (MR _)]at e
   have sz:=s3.trans s2;have nL:L≠d:=Nv (ao (s3 _ _ zd) hL);have hL1:H1 L=none:=by
    cases q:H1 L with
    | none=>rfl
    | some u=>rw[s3 _ _ (sx _ _ nL q)]at hL;cases hL
   refine⟨_,rfl,_,rfl,d,_,rfl,jx.k (k:=Sum.inl t) (sz _ _ zd) (by rw[MN,MZ];exact iB (by omega)),?_⟩;rw[dM _ (ky.non ni)];refine⟨_,λu=>if u=t then L else ad u,rfl,(λc u n q=>by rw[ab n];exact sz _ _ (sx c u n q)),?_,λu hu'=>?_⟩
   ·rw[ag,tk,MV]
    congr 3
    ·refine NG λu hu'=>?_
     dsimp only;rw[if_neg λz=>ni (by rw[←z];exact hu')]
    ·simp only[Nz,Oy,if_true]
   ·rw[tk]at hu'
    dsimp only;by_cases c:u=t
    ·subst c
     rw[if_pos rfl];exact⟨hL1,by rw[ab nL,z,e,Ny];rfl⟩
    ·rw[if_neg c]
     have mu:u∈(keys s).take j:=(MS.mp hu').resolve_right λz=>c (MO.mp z);obtain⟨q1,q2⟩:=qQ u mu;exact⟨q1,by rw[ab (λz=>by rw[z,zd]at q2;cases q2)];exact sz _ _ q2⟩
 ·rintro σ Hc ⟨v2,ad,rfl,sx,zd,qQ⟩
  rw[MN,MW (MR _)]at zd qQ;have Jc:=Jc_ Hc sx;refine⟨_,rfl,x,_,_,rfl,Jc.ax,(by kernel_rfl),x,A,s,rfl,Jc,G,λp2 H3 s3 hp2 z2=>⟨p2,rfl,⟨_,SqL.of z2⟩,λL hL=>?_⟩⟩;have rl:=(Jc.same s3).rhl;have lz:s.aL.length≤sizeLine:=fe (by rw[G.h8];decide);refine d7 (K:=K) (a:=p2) (xs:=A.hx) (λi ys H2=>ys=(s.aL.take i).map (λw=>nmV (thO w))∧ay H3 H2∧H2 L=some (.lst ys)) ⟨rfl,ay.upd hL,ag⟩ (λi ys H2 hi ⟨e,_,z⟩=>⟨z,by rw[e,MN,MZ,←rl.1];omega⟩) (λi ys H2 hi ⟨_,s2,_⟩=>SqL.of (s2 _ _ z2)) (by rw[rl.1];exact lz) (λi y ys H2 hi ⟨e,s2,z⟩=>?_) (λys H2 ⟨e,s2,z⟩=>?_)
  ·obtain⟨wd,hw,wv⟩:=qR rl hi
   refine⟨_,rfl,y,wd,rfl,wv.keep (bE.of s2),z,?_,λb u q=>by rw[ab (ao q hL)];exact s2 b u q,ag⟩;have hlt:i<s.aL.length:=(MQ.mp hw).1;rw[MT hlt,MV,e,(MQ.mp hw).2];rfl
  ·rw[rl.1,MW (MR _)]at e
   have sz:=s3.trans s2;have zd2:=sz _ _ zd;refine⟨_,rfl,d,_,zd2,λo=>⟨by show 2≤sizeLine;decide,λv hv=>?_⟩⟩;have up:∀ c u,c≠d→H2 c=some u→upd (upd H2 d (.frz o (.dK ((keys s).map λt=>(Sum.inl t,.ref (ad t)))))) v (.tup [V.ref L,V.ref d]) c=some u:=λc u n q=>by
    have q':upd H2 d (.frz o (.dK ((keys s).map λt=>(Sum.inl t,.ref (ad t))))) c=some u:=(by rw[ab n];exact q);rw[ab (ao q' hv)];exact q'
   have nL:L≠d:=Nv (ao (s3 _ _ zd) hL);have nv:d≠v:=λq=>by rw[←q,ag]at hv;cases hv
   have sx3:∀ {b:Addr},b≠d→Hc b=none→H1 b=none:=λ{b} n q=>by
    cases q':H1 b with
    | none=>rfl
    | some u=>rw[sx _ _ n q']at q;cases q
   refine k v L d o ad _ (λc u q=>?_) hd (back nL (sx3 nL (ay.none s3 hL))) (λt m=>back (λq=>by have:=(qQ t m).2;rw[q,zd]at this;cases this) (qQ t m).1) ag ⟨?_,?_,?_⟩
   ·have n:c≠d:=ao q hd
    exact up c u n (sz _ _ (sx c u n (s1 _ _ (s0 _ _ q))))
   ·rw[B8]
    refine up _ _ nL ?_;rw[z,e];show _=some (HO.lst ((s.aL.map thO).map nmV));rw[Ny];rfl
   ·rw[ab nv,ag]
    congr 3
    show _=R.kvl ad ((keys s).map λt=>(t,(fld s t).map thO));unfold R.kvl;rw[Ny];rfl
   ·intro p hp
    obtain⟨t,mt,rfl⟩:=Nc.mp hp
    have:=(qQ t mt).2
    rw[B8];exact up _ _ (λq=>by rw[q,zd]at this;cases this) (sz _ _ this)
noncomputable def cdK(kd h g k x w:Int):Dd:=if kd<4 then .make h k else if kd=4 then .load h g (k%3) else if kd<8 then .store g (k%3) h else if kd=8 then .copy h g else if kd=9 then .drop h else if kd=10 then .number h (x-500) else if kd<13 then .name w h else if kd=13 then .read h w else if kd=14 then .word h x else .small
noncomputable def cdD(c:Int):Dd:=cdK (c%16) (c/16%8) (c/128%8) (c/1024%6) (c/1024) (c/8192%8)
theorem B9{c:Int}(c0:0≤c)(c1:c<1048576):(cdD c).ok:=by
 have a:=m8 c 16;have b:=m8 c 128;have d:=m8 c 8192;have e0:0≤c/1024%6∧c/1024%6<6:=⟨NX _ (by decide),NO _ (by decide)⟩;have e1:0≤c/1024%6%3∧c/1024%6%3<3:=⟨NX _ (by decide),NO _ (by decide)⟩;have e2:0≤c/1024∧c/1024<1024:=by omega
 unfold cdD cdK
 repeat' split
 ·exact⟨a,e0.1,by omega⟩
 ·exact⟨a,b,e1.1,by omega⟩
 ·exact⟨b,e1.1,by omega,a⟩
 ·exact⟨a,b⟩
 ·exact a
 ·exact⟨a,by omega,by omega⟩
 ·exact⟨d,a⟩
 ·exact⟨a,d⟩
 ·exact⟨a,by omega,by omega⟩
 ·trivial
noncomputable def Bi(K:W.Frag):Sp:=λvs H Q _=>∃(a:Addr) (ns:List Int) (m:Int),vs=[.ref a,.int m]∧SqL K H a (ns.map V.int)∧ns.length≤63∧0≤m∧∀(p:Addr) (zs:List Int) (H':Hp),ay H H'→H p=none→H' p=some (.lst (zs.map V.int))→zs.length≤m.toNat→(∀ z∈zs,0≤z∧z<1048576)→Q (.ref p) H'
theorem m6(ns:List Int)(lo hi:Option Int):∃ cs:List Int,wz (ns.map V.int) lo hi=cs.map V.int∧cs.length≤ns.length∧(∀ c∈cs,c∈ns)∧∀ m,hi=some m→0≤m→cs.length≤m.toNat:=by
 refine⟨(ns.drop (HT.sIx ns.length 0 lo)).take (HT.sIx ns.length ns.length hi-HT.sIx ns.length 0 lo),?_,?_,λc hc=>Ol (Oj hc),λm e m0=>?_⟩
 ·unfold wz
  rw[MN,List.map_take,List.map_drop]
 ·rw[MZ,ND]
  omega
 ·subst e
  rw[MZ]
  have:HT.sIx ns.length ns.length (some m)≤m.toNat:=by
   show(if m<0 then(m+(ns.length:Int)).toNat else min m.toNat ns.length)≤_;rw[if_neg (by omega)];omega
  omega
noncomputable abbrev uo:List Str:=["script", "many", "codes", "mixed", "k", "rest", "step", "j"]
theorem bj:au uo ["script", "many"] (aj tS):=fsc
theorem sP(T:Txt w K mg D):Ok P w K mg base 2 D.tX ["script", "many"] (Bi K):=by
 refine T.o2 "_law_codes" bj λcdv A' outer s' H vs Q E hr h=>?_;obtain⟨a,ns,m,rfl,hS,hlen,m0,k⟩:=h;refine⟨_,(PSs.nox (ai (aD (i:=2) bj.nd rfl (Or.inl rfl) (fP aq))
  (ai (aD (i:=3) bj.nd rfl (Or.inl rfl) (jv kh (aT cy (aP (e7 rfl) rfl T.z PyProof.Rows.Boot.«sum» (aa (pv 0) aq)) ar) ar (aO _)))
  (ai (bF Nl rfl (oA rfl T.z (aa (aP bM rfl T.z PyProof.Rows.Boot.«len» (aa (pv 0) aq)) aq)) (aN (i:=4) bj.nd rfl (Or.inl rfl))
   (ai (aD (i:=5) bj.nd rfl (Or.inl rfl) (a7 dr (pv 0) (pv 4) (λ_ _=>rfl)))
   (ai (a6 (fN (pv 3))
    (ai (aD (i:=6) bj.nd rfl (Or.inl rfl) (aT cy (aT rS (aT fO (aT fO (aT cy (pv 5) ar) (aT rS ar (pv 4))) ar) ar) ar))
    (ai (aD (i:=6) bj.nd rfl (Or.inl rfl) (aT cy (aT rS (pv 6) (pv 6)) ar))
    (ak (aD (i:=5) bj.nd rfl (Or.inl rfl) (aT fO (aT rS (aT rS (pv 6) (pv 6)) ar) (pv 6))))))
    aI)
   (ak (bF Nl rfl (oA rfl T.z (aa ar aq)) (aN (i:=7) bj.nd rfl (Or.inl rfl))
    (ai (az (uT PySem.F.plainAttrs_list PySem.F.slot_list_append PySem.F.type_list_append gp (pv 2) (aa (aT cy (pv 5) ar) aq)))
    (ak (aD (i:=5) bj.nd rfl (Or.inl rfl) (aT dq (pv 5) ar)))))))))
  (ak (aG (fA hU (pv 2) g9 (hJ (pv 1))))))))),?_⟩
 refine⟨by show 0≤sizeLine;decide,λp hp=>?_⟩;have s1:=ay.upd (o:=.lst []) hp;have z1:upd H p (.lst []) p=some (.lst (([]:List Int).map V.int)):=ag;obtain⟨H1,e1⟩:∃ H1,upd H p (.lst [])=H1:=⟨_,rfl⟩;show mP 2 (V.ref p) _ (upd H p (.lst [])) _;rw[e1]at s1 z1 ⊢;clear e1;have hpa:∀ {Hx:Hp},ay H Hx→SqL K Hx a (ns.map V.int):=λs=>s.seq hS;refine⟨_,rfl,a,ns,rfl,hpa s1,_,2,rfl,rfl,(by show(0:Int)<2;decide),rfl,?_⟩;refine⟨_,rfl,a,_,rfl,.inl (hpa s1),(ns.map V.int).length,rfl,by omega,by rw[MN];omega,oB (lo:=0) (n:=(ns.map V.int).length) (λi σ Hx=>∃(b:Bool) (v4 v5 v6 v7:Option V) (zs:List Int),σ=[some (.ref a),some (.int m),some (.ref p),some (.bl b),v4,v5,v6,v7]∧ay H Hx∧Hx p=some (.lst (zs.map V.int))∧zs.length≤4*i∧∀ z∈zs,0≤z∧z<1048576) ⟨_,none,none,none,none,[],rfl,s1,z1,MR _,λz hz=>by cases hz⟩ ?_ ?_⟩
 ·rintro i σ Hx hi ⟨b,v4,v5,v6,v7,zs,rfl,sx,zx,lx,bx⟩
  rw[MN]at hi;have hk:atI (ns.map V.int) (0+(i:Int))=some (.int ns[i]):=by rw[Int.zero_add];exact jw (by rw[MY,MP hi];rfl)
  refine⟨_,rfl,_,rfl,a,_,_,_,rfl,rfl,hpa sx,hk,?_⟩;simp only[mP];refine uD λN hN=>?_;have rest:∀(r:Int) (v6:Option V),N [some (.ref a),some (.int m),some (.ref p),some (.bl b),some (.int (0+(i:Int))),some (.int r),v6,v7] Hx:=by
   intro r v6;refine hN _ _ ?_;refine⟨4,rfl,by decide,by decide,oB (lo:=0) (n:=4) (λj σ Hy=>∃(r:Int) (v7:Option V) (zs:List Int),σ=[some (.ref a),some (.int m),some (.ref p),some (.bl b),some (.int (0+(i:Int))),some (.int r),v6,v7]∧ay H Hy∧Hy p=some (.lst (zs.map V.int))∧zs.length≤4*i+j∧∀ z∈zs,0≤z∧z<1048576) ⟨r,v7,zs,rfl,sx,zx,by omega,bx⟩ ?_ ?_⟩
   ·rintro j σ Hy hj ⟨r,v7,zs,rfl,sy,zy,ly,by_⟩
    refine⟨_,rfl,.inl ⟨rfl,_,SqL.of zy⟩,_,rfl,r,1048576,rfl,rfl,(by show(0:Int)<1048576;decide),p,_,_,rfl,rfl,zy,NQ (show(zs.map V.int).length≤1000 by rw[MN];omega) (by decide),?_⟩;refine⟨_,rfl,r,1048576,rfl,rfl,⟨by decide,by decide⟩,r/1048576,_,zs++[r%1048576],rfl,λb u g=>by rw[ab (ao g hp)];exact sy b u g,by rw[ag,MV];rfl,by rw[M8,NV];omega,λz hz=>?_⟩;rcases MS.mp hz with g|g
    ·exact by_ z g
    ·rw[MO.mp g]
     exact⟨NX _ (by decide),NO _ (by decide)⟩
   ·rintro σ Hy ⟨r,v7,zs,rfl,sy,zy,ly,by_⟩
    exact⟨b,_,_,_,_,zs,rfl,sy,zy,by omega,by_⟩
  refine⟨_,rfl,b,rfl,bu (λ_=>?_) (λ_=>rest _ v6)⟩;refine⟨_,rfl,ns[i],2147483647,rfl,rfl,(by show(0:Int)<2147483647;decide),_,rfl,977,0+(i:Int),rfl,rfl,.inl ⟨by decide,by decide⟩,_,_,rfl,rfl,_,11,rfl,rfl,_,48271,rfl,rfl,.inr ⟨by decide,by decide⟩,_,2147483647,rfl,rfl,(by show(0:Int)<2147483647;decide),?_⟩;have q0:=NX ((ns[i]%2147483647+977*(0+(i:Int))+11)*48271) (show(2147483647:Int)≠0 by decide);have q1:=NO ((ns[i]%2147483647+977*(0+(i:Int))+11)*48271) (show(0:Int)<2147483647 by decide);obtain⟨n2,en2⟩:∃ n2:Int,(ns[i]%2147483647+977*(0+(i:Int))+11)*48271%2147483647=n2:=⟨_,rfl⟩;rw[en2]at q0 q1;simp only[en2,mP];refine⟨_,rfl,_,rfl,n2,n2,rfl,rfl,.inl ⟨by omega,by omega⟩,_,2147483647,rfl,rfl,(by show(0:Int)<2147483647;decide),?_⟩;have q2:=NX (n2*n2) (show(2147483647:Int)≠0 by decide);have q3:=NO (n2*n2) (show(0:Int)<2147483647 by decide);obtain⟨n3,en3⟩:∃ n3:Int,n2*n2%2147483647=n3:=⟨_,rfl⟩;rw[en3]at q2 q3;simp only[en3,mP];refine⟨_,rfl,_,rfl,n3,n3,rfl,rfl,.inl ⟨by omega,by omega⟩,_,69621,rfl,rfl,.inr ⟨by decide,by decide⟩,_,rfl,_,n3,rfl,rfl,?_⟩;exact rest _ _
 ·rintro σ Hx ⟨b,v4,v5,v6,v7,zs,rfl,sx,zx,lx,bx⟩
  rw[MN]at lx;obtain⟨cs,ec,cl,cm,cb⟩:=m6 zs none (some m);refine⟨_,rfl,_,rfl,_,rfl,p,_,rfl,SqL.of zx,λq hq=>?_⟩;rw[ec];have hq0:H q=none:=ay.none sx hq;exact k q cs _ (sx.trans (ay.upd hq)) hq0 ag (cb m rfl m0) (λz hz=>bx z (cm z hz))
noncomputable def Bj(D:Ad):Sp:=λvs H Q E=>∃ x A s,∃ c:Int,vs=[.ref x,.int c]∧IH D H x A s∧Gd s∧s.nxt<10000∧0≤c∧c<1048576∧Fin D x A s H (dDo s (cdD c)) Q E
theorem sT{a b:Int}(y:decide (V.int a=V.int b)=true):a=b:=by
 have:=of_decide_eq_true y
 injection this
theorem mN{a b:Int}(y:¬decide (V.int a=V.int b)=true):¬a=b:=λz=>y (decide_eq_true (by rw[z]))
noncomputable abbrev wa:List Str:=["heap", "code", "kind", "h", "g", "k"]
theorem dG:au wa ["heap", "code"] (aj vF):=fsc
theorem mC(T:Txt w K mg D):Ok P w K mg base 9 D.vN ["heap", "code"] (Bj D):=by
 refine T.o2 "_law_done" dG λcdv A' outer s' H vs Q E hr h=>?_;obtain⟨x,A,s,c,rfl,J,Gs,hnx,c0,c1,k⟩:=h;refine⟨_,(ai (aD (i:=2) dG.nd rfl (Or.inl rfl) (aT cy (pv 1) ar))
  (ai (aD (i:=3) dG.nd rfl (Or.inl rfl) (aT cy (aT dq (pv 1) ar) ar))
  (ai (aD (i:=4) dG.nd rfl (Or.inl rfl) (aT cy (aT dq (pv 1) ar) ar))
  (ai (aD (i:=5) dG.nd rfl (Or.inl rfl) (aT cy (aT dq (pv 1) ar) ar))
  (ak (a6 (aE km (pv 2) ar (aO _))
   (ak (az ((fG T).m T.ae hr (pv 0) px (aa (pv 3) (aa (pv 5) aq)))))
   (ak (a6 (aE kh (pv 2) ar (aO _))
    (ak (az ((ui T).m T.ae hr (pv 0) px (aa (pv 3) (aa (pv 4) (aa (aT cy (pv 5) ar) aq))))))
    (ak (a6 (aE km (pv 2) ar (aO _))
     (ak (az ((sF T).m T.ae hr (pv 0) px (aa (pv 4) (aa (aT cy (pv 5) ar) (aa (pv 3) aq))))))
     (ak (a6 (aE kh (pv 2) ar (aO _))
      (ak (az ((ue T).m T.ae hr (pv 0) px (aa (pv 3) (aa (pv 4) aq)))))
      (ak (a6 (aE kh (pv 2) ar (aO _))
       (ak (az ((ug T).m T.ae hr (pv 0) px (aa (pv 3) aq))))
       (ak (a6 (aE kh (pv 2) ar (aO _))
        (ak (az ((qD T).m T.ae hr (pv 0) px (aa (pv 3) (aa (aT ER (aT dq (pv 1) ar) ar) aq)))))
        (ak (a6 (aE km (pv 2) ar (aO _))
         (ak (az ((mh T).m T.ae hr (pv 0) px (aa (aT cy (aT dq (pv 1) ar) ar) (aa (pv 3) aq)))))
         (ak (a6 (aE kh (pv 2) ar (aO _))
          (ak (az ((lU T).m T.ae hr (pv 0) px (aa (pv 3) (aa (aT cy (aT dq (pv 1) ar) ar) aq)))))
          (ak (a6 (aE kh (pv 2) ar (aO _))
           (ak (az ((uh T).m T.ae hr (pv 0) px (aa (pv 3) (aa (aT dq (pv 1) ar) aq)))))
           (ak (az ((c7 T).m0 T.ae hr (pv 0) px))))))))))))))))))))))))),?_⟩
 have G:=Gs.g;have b1:=m8 c 16;have b2:=m8 c 128;have b3:=m8 c 8192;have b4:0≤c/1024%6∧c/1024%6<6:=⟨NX _ (by decide),NO _ (by decide)⟩;have b5:0≤c/1024%6%3∧c/1024%6%3<3:=⟨NX _ (by decide),NO _ (by decide)⟩;have b6:0≤c/1024∧c/1024<1024:=by omega
 replace k:Fin D x A s H (dDo s (cdK (c%16) (c/16%8) (c/128%8) (c/1024%6) (c/1024) (c/8192%8))) Q E:=k;refine⟨_,rfl,c,16,rfl,rfl,(by show(0:Int)<16;decide),?_⟩;refine⟨_,rfl,c,16,rfl,rfl,⟨by decide,by decide⟩,_,8,rfl,rfl,(by show(0:Int)<8;decide),?_⟩;refine⟨_,rfl,c,128,rfl,rfl,⟨by decide,by decide⟩,_,8,rfl,rfl,(by show(0:Int)<8;decide),?_⟩;refine⟨_,rfl,c,1024,rfl,rfl,⟨by decide,by decide⟩,_,6,rfl,rfl,(by show(0:Int)<6;decide),?_⟩;refine⟨_,rfl,_,4,rfl,rfl,_,rfl,bu (λy=>?_) (λy=>?_)⟩
 ·replace k:Fin D x A s H (dDo s (.make (c/16%8) (c/1024%6))) Q E:=by have e:cdK (c%16) (c/16%8) (c/128%8) (c/1024%6) (c/1024) (c/8192%8)=.make (c/16%8) (c/1024%6):=if_pos (of_decide_eq_true y);rw[e]at k;exact k
  exact⟨_,rfl,x,_,_,rfl,J.ax,(by kernel_rfl),_,rfl,_,rfl,x,A,s,(c/16%8),(c/1024%6),rfl,J,Gs,hnx,Sm.of (by omega) (by omega),Sm.of (by omega) (by omega),k⟩
 have n0:=show ¬_ from λz=>y (decide_eq_true z);refine⟨_,rfl,rfl,_,rfl,bu (λy=>?_) (λy=>?_)⟩
 ·replace k:Fin D x A s H (dDo s (.load (c/16%8) (c/128%8) ((c/1024%6)%3))) Q E:=by have e:cdK (c%16) (c/16%8) (c/128%8) (c/1024%6) (c/1024) (c/8192%8)=.load (c/16%8) (c/128%8) ((c/1024%6)%3):=(if_neg (n0)).trans (if_pos (sT y));rw[e]at k;exact k
  exact⟨_,rfl,x,_,_,rfl,J.ax,(by kernel_rfl),_,rfl,_,rfl,_,rfl,_,3,rfl,rfl,(by show(0:Int)<3;decide),x,A,s,(c/16%8),(c/128%8),(c/1024%6)%3,rfl,J,G,Sm.of (by omega) (by omega),Sm.of (by omega) (by omega),Sm.of (by omega) (by omega),k⟩
 have n1:=show ¬_ from mN y;refine⟨_,rfl,_,8,rfl,rfl,_,rfl,bu (λy=>?_) (λy=>?_)⟩
 ·replace k:Fin D x A s H (dDo s (.store (c/128%8) ((c/1024%6)%3) (c/16%8))) Q E:=by have e:cdK (c%16) (c/16%8) (c/128%8) (c/1024%6) (c/1024) (c/8192%8)=.store (c/128%8) ((c/1024%6)%3) (c/16%8):=(if_neg (n0)).trans ((if_neg (n1)).trans (if_pos (of_decide_eq_true y)));rw[e]at k;exact k
  exact⟨_,rfl,x,_,_,rfl,J.ax,(by kernel_rfl),_,rfl,_,rfl,_,3,rfl,rfl,(by show(0:Int)<3;decide),_,rfl,x,A,s,(c/128%8),(c/1024%6)%3,(c/16%8),rfl,J,G,Sm.of (by omega) (by omega),Sm.of (by omega) (by omega),Sm.of (by omega) (by omega),k⟩
 have n2:=show ¬_ from λz=>y (decide_eq_true z);refine⟨_,rfl,rfl,_,rfl,bu (λy=>?_) (λy=>?_)⟩
 ·replace k:Fin D x A s H (dDo s (.copy (c/16%8) (c/128%8))) Q E:=by have e:cdK (c%16) (c/16%8) (c/128%8) (c/1024%6) (c/1024) (c/8192%8)=.copy (c/16%8) (c/128%8):=(if_neg (n0)).trans ((if_neg (n1)).trans ((if_neg (n2)).trans (if_pos (sT y))));rw[e]at k;exact k
  exact⟨_,rfl,x,_,_,rfl,J.ax,(by kernel_rfl),_,rfl,_,rfl,x,A,s,(c/16%8),(c/128%8),rfl,J,G,Sm.of (by omega) (by omega),Sm.of (by omega) (by omega),k⟩
 have n3:=show ¬_ from mN y;refine⟨_,rfl,rfl,_,rfl,bu (λy=>?_) (λy=>?_)⟩
 ·replace k:Fin D x A s H (dDo s (.drop (c/16%8))) Q E:=by have e:cdK (c%16) (c/16%8) (c/128%8) (c/1024%6) (c/1024) (c/8192%8)=.drop (c/16%8):=(if_neg (n0)).trans ((if_neg (n1)).trans ((if_neg (n2)).trans ((if_neg (n3)).trans (if_pos (sT y)))));rw[e]at k;exact k
  exact⟨_,rfl,x,_,_,rfl,J.ax,(by kernel_rfl),_,rfl,x,A,s,(c/16%8),rfl,J,G,Sm.of (by omega) (by omega),k⟩
 have n4:=show ¬_ from mN y;refine⟨_,rfl,rfl,_,rfl,bu (λy=>?_) (λy=>?_)⟩
 ·replace k:Fin D x A s H (dDo s (.number (c/16%8) ((c/1024)-500))) Q E:=by have e:cdK (c%16) (c/16%8) (c/128%8) (c/1024%6) (c/1024) (c/8192%8)=.number (c/16%8) ((c/1024)-500):=(if_neg (n0)).trans ((if_neg (n1)).trans ((if_neg (n2)).trans ((if_neg (n3)).trans ((if_neg (n4)).trans (if_pos (sT y))))));rw[e]at k;exact k
  exact⟨_,rfl,x,_,_,rfl,J.ax,(by kernel_rfl),_,rfl,_,rfl,c,1024,rfl,rfl,⟨by decide,by decide⟩,_,500,rfl,rfl,x,A,s,(c/16%8),(c/1024)-500,rfl,J,G,Sm.of (by omega) (by omega),Sm.of (by omega) (by omega),k⟩
 have n5:=show ¬_ from mN y;refine⟨_,rfl,_,13,rfl,rfl,_,rfl,bu (λy=>?_) (λy=>?_)⟩
 ·replace k:Fin D x A s H (dDo s (.name (c/8192%8) (c/16%8))) Q E:=by have e:cdK (c%16) (c/16%8) (c/128%8) (c/1024%6) (c/1024) (c/8192%8)=.name (c/8192%8) (c/16%8):=(if_neg (n0)).trans ((if_neg (n1)).trans ((if_neg (n2)).trans ((if_neg (n3)).trans ((if_neg (n4)).trans ((if_neg (n5)).trans (if_pos (of_decide_eq_true y)))))));rw[e]at k;exact k
  exact⟨_,rfl,x,_,_,rfl,J.ax,(by kernel_rfl),_,rfl,c,8192,rfl,rfl,⟨by decide,by decide⟩,_,8,rfl,rfl,(by show(0:Int)<8;decide),_,rfl,x,A,s,(c/8192%8),(c/16%8),rfl,J,G,Sm.of (by omega) (by omega),Sm.of (by omega) (by omega),k⟩
 have n6:=show ¬_ from λz=>y (decide_eq_true z);refine⟨_,rfl,rfl,_,rfl,bu (λy=>?_) (λy=>?_)⟩
 ·replace k:Fin D x A s H (dDo s (.read (c/16%8) (c/8192%8))) Q E:=by have e:cdK (c%16) (c/16%8) (c/128%8) (c/1024%6) (c/1024) (c/8192%8)=.read (c/16%8) (c/8192%8):=(if_neg (n0)).trans ((if_neg (n1)).trans ((if_neg (n2)).trans ((if_neg (n3)).trans ((if_neg (n4)).trans ((if_neg (n5)).trans ((if_neg (n6)).trans (if_pos (sT y))))))));rw[e]at k;exact k
  exact⟨_,rfl,x,_,_,rfl,J.ax,(by kernel_rfl),_,rfl,_,rfl,c,8192,rfl,rfl,⟨by decide,by decide⟩,_,8,rfl,rfl,(by show(0:Int)<8;decide),x,A,s,(c/16%8),(c/8192%8),rfl,J,G,Sm.of (by omega) (by omega),Sm.of (by omega) (by omega),k⟩
 have n7:=show ¬_ from mN y;refine⟨_,rfl,rfl,_,rfl,bu (λy=>?_) (λy=>?_)⟩
 ·replace k:Fin D x A s H (dDo s (.word (c/16%8) (c/1024))) Q E:=by have e:cdK (c%16) (c/16%8) (c/128%8) (c/1024%6) (c/1024) (c/8192%8)=.word (c/16%8) (c/1024):=(if_neg (n0)).trans ((if_neg (n1)).trans ((if_neg (n2)).trans ((if_neg (n3)).trans ((if_neg (n4)).trans ((if_neg (n5)).trans ((if_neg (n6)).trans ((if_neg (n7)).trans (if_pos (sT y)))))))));rw[e]at k;exact k
  exact⟨_,rfl,x,_,_,rfl,J.ax,(by kernel_rfl),_,rfl,_,rfl,c,1024,rfl,rfl,⟨by decide,by decide⟩,x,A,s,(c/16%8),(c/1024),rfl,J,G,Sm.of (by omega) (by omega),Sm.of (by omega) (by omega),k⟩
 have n8:=show ¬_ from mN y;replace k:Fin D x A s H (dDo s .small) Q E:=by have e:cdK (c%16) (c/16%8) (c/128%8) (c/1024%6) (c/1024) (c/8192%8)=.small:=(if_neg (n0)).trans ((if_neg (n1)).trans ((if_neg (n2)).trans ((if_neg (n3)).trans ((if_neg (n4)).trans ((if_neg (n5)).trans ((if_neg (n6)).trans ((if_neg (n7)).trans ((if_neg (n8)).trans (rfl)))))))));rw[e]at k;exact k
 exact⟨_,rfl,x,_,_,rfl,J.ax,(by kernel_rfl),x,A,s,rfl,J,G,λA' H' J' fr=>k A' H' J' fr⟩
theorem DD(T:Txt w K mg D)(e:Er):∃ cd,du K (D.er e) cd∧cd.mro.contains (.ref D.pk)=true:=by
 cases e with
 | hand=>exact(T.sub D.ba)
 | name=>exact(T.sub D.cN)
 | field=>exact(T.sub D.dX)
 | count=>exact(T.sub D.bo)
 | room=>exact(T.sub D.mU)
 | words=>exact(T.sub D.cG)
 | on=>exact(T.sub D.jr)
 | no=>exact(T.sub D.js)
noncomputable def Bk(D:Ad):Sp:=λvs H Q _=>∃ x A s,∃ c:Int,vs=[.ref x,.int c]∧IH D H x A s∧Gd s∧s.nxt<10000∧0≤c∧c<1048576∧∀ A' H',IH D H' x A' (dDo s (cdD c)).2→Fr (aJ x A s) H (aJ x A' (dDo s (cdD c)).2) H'→Q (.bl (dDo s (cdD c)).1.isSome) H'
noncomputable abbrev uq:List Str:=["heap", "code", "refused"]
theorem fX:au uq ["heap", "code"] (aj tT):=fsc
theorem jK(T:Txt w K mg D):Ok P w K mg base 10 D.tY ["heap", "code"] (Bk D):=by
 refine T.o2 "_law_tried" fX λcdv A' outer s' H vs Q E hr h=>?_;obtain⟨x,A,s,c,rfl,J,Gs,hnx,c0,c1,k⟩:=h;obtain⟨cdH,xH⟩:=(T.h D.pk);refine⟨_,(ai (aD (i:=2) fX.nd rfl (Or.inl rfl) dR)
  (ai (C6 rfl rfl rfl T.m xH (λpins E' EK hp=>ak (az (bG (mC T).g (hr.mono (by decide)) rfl T.m T.kp (mC (P:=P) (base:=base) T).b .nil hp (aa (pv 0) (aa (pv 1) aq))))) (λea=>ak (aD (i:=2) fX.nd rfl (Or.inl rfl) dR)))
  (ak (aG (pv 2))))),?_⟩
 refine⟨_,rfl,_,rfl,x,A,s,c,rfl,J,Gs,hnx,c0,c1,λA1 H1 J1 fr=>?_⟩;cases e:(dDo s (cdD c)).1 with
 | none =>
  rw[e]at k;exact⟨_,rfl,k A1 H1 J1 fr⟩
 | some er =>
  rw[e]at k;obtain⟨cd,xc,hm⟩:=DD T er;exact⟨D.er er,cd,rfl,xc,hm,⟨_,rfl,k A1 H1 J1 fr⟩⟩
theorem uI{c:Int}(h:c%16=13):cdD c=.read (c/16%8) (c/8192%8):=by
 unfold cdD cdK;rw[h,if_neg (by decide),if_neg (by decide),if_neg (by decide),if_neg (by decide),if_neg (by decide),if_neg (by decide),if_neg (by decide),if_pos rfl]
theorem DE{s:HS}{c:Int}(h:c%16=13):(dDo s (cdD c)).1=none:=by
 rw[uI h];show(bA s (c/16%8) (c/8192%8)).1=none;unfold bA;rw[if_pos (m8 c 16),if_pos (m8 c 8192)]
noncomputable def Bl(D:Ad):Sp:=λvs H Q _=>∃ x A s,∃ c:Int,vs=[.ref x,.int c]∧IH D H x A s∧Gd s∧s.nxt<10000∧0≤c∧c<1048576∧∀ A' H' p,IH D H' x A' (dDo s (cdD c)).2→Fr (aJ x A s) H (aJ x A' (dDo s (cdD c)).2) H'→H p=none→¬aJ x A' (dDo s (cdD c)).2 p→H' p=some (.lst ((rdL s c).map V.int))→Q (.ref p) H'
noncomputable abbrev wc:List Str:=["heap", "code", "thing", "refused"]
theorem gG:au wc ["heap", "code"] (aj vG):=fsc
theorem ur(T:Txt w K mg D):Ok P w K mg base 11 D.vO ["heap", "code"] (Bl D):=by
 refine T.o2 "_law_read" gG λcdv A' outer s' H vs Q E hr h=>?_;obtain⟨x,A,s,c,rfl,J,Gs,hnx,c0,c1,k⟩:=h;refine⟨_,(PSs.nox (ai (aD (i:=2) gG.nd rfl (Or.inl rfl) (a7 dr ((kc T).m0 T.ae hr (pv 0) aV) (aT cy (aT dq (pv 1) ar) ar) (λ_ _=>rfl)))
  (ai (aD (i:=3) gG.nd rfl (Or.inl rfl) ((jK T).c hr aV (aa (pv 0) (aa (pv 1) aq))))
  (ai (a6 (PW.pt (pw_and (aE kh (aT cy (pv 1) ar) ar (aO _)) (pw_and (gy (fN (pv 3))) (pw_and1 (aE fY (pv 2) bK (aO _))))))
   (ak (aG (fP (aa (pv 2) aq))))
   aI)
  (ak (aG (fP aq))))))),?_⟩
 have G:=Gs.g;have b3:=m8 c 8192;obtain⟨n,en⟩:∃ n,s.names.getD (c/8192%8).toNat none=n:=⟨_,rfl⟩;have wn:s.names[(c/8192%8).toNat]?=some n:=by
  have hl:(c/8192%8).toNat<s.names.length:=by rw[G.n8];omega
  rw[←en,OJ,MP hl];rfl
 refine⟨_,rfl,x,_,_,rfl,J.ax,(by kernel_rfl),x,A,s,rfl,J,G,λp1 H1 s1 hp1 z1=>?_⟩;have J1:=J.same s1;refine⟨_,rfl,c,8192,rfl,rfl,⟨by decide,by decide⟩,_,8,rfl,rfl,(by show(0:Int)<8;decide),p1,_,c/8192%8,nmV n,rfl,rfl,SqL.of z1,?_,?_⟩
 ·obtain⟨j,ej⟩:∃ j:Nat,c/8192%8=(j:Int):=⟨(c/8192%8).toNat,by omega⟩
  rw[ej]at wn ⊢;exact jw (by rw[MY,show s.names[j]?=some n from wn];rfl)
 refine⟨_,rfl,_,rfl,x,A,s,c,rfl,J1,Gs,hnx,c0,c1,λA' H2 J2 fr=>?_⟩;have fr':=(Fr.same s1).trans fr;have fin:∀(zs:List Int),zs=rdL s c→∀ l,H2 l=none→Q (.ref l) (upd H2 l (.lst (zs.map V.int))):=λzs ez l hl=>by
  have s3:=ay.upd (o:=.lst (zs.map V.int)) hl;exact k A' _ l (J2.same s3) (fr'.trans (Fr.same s3)) (fr'.none hl) (J2.fresh hl) (by rw[←ez];exact ag)
 refine⟨_,rfl,c,16,rfl,rfl,(by show(0:Int)<16;decide),rfl,_,rfl,bu (λy=>?_) (λy=>?_)⟩
 ·have h13:=sT y
  have e1:=DE (s:=s) h13;refine⟨_,rfl,_,rfl,?_⟩;rw[e1];refine dt ⟨_,rfl,?_⟩;cases n with
  | none =>
   refine⟨rfl,_,rfl,b8 ⟨by show 0≤sizeLine;decide,λl hl=>fin [] ?_ l hl⟩⟩;unfold rdL;rw[if_pos h13,en];rfl
  | some t =>
   refine⟨rfl,_,rfl,dt ⟨_,rfl,by show 1≤sizeLine;decide,λl hl=>fin [t] ?_ l hl⟩⟩;unfold rdL;rw[if_pos h13,en];rfl
 ·refine b8 ⟨by show 0≤sizeLine;decide,λl hl=>fin [] ?_ l hl⟩
  unfold rdL;rw[if_neg (mN y)]
end
end K72
end
section
namespace K72.R
open PySem L2 LX
section
variable{P:Program}{w:World}{K:W.Frag}{mg:Str→Option Value}{base:Heap}
noncomputable def wIn(kvs:List (Key×V)):Option Int→Bool
 | none=>true
 | some n=>(cE kvs (Sum.inl n)).isSome
noncomputable def rG:Sp:=λvs H Q _=>∃(l i:Addr) (fs:List (Option Int)) (kvs:List (Key×V)),vs=[.ref l,.ref i]∧H l=some (.lst (fs.map oV))∧fs.length≤1000∧H i=some (.dK kvs)∧∀ H',ay H H'→Q (.bl (fs.all (wIn kvs))) H'
theorem scW:au ["told", "inside"] ["told", "inside"] (aj ow):=⟨rfl,rfl,rfl,by decide +kernel,rfl,by decide +kernel,by decide +kernel⟩
noncomputable def EA:Option Expr→Option Expr
 | some (.Call _ (a::_) _ _)=>some a
 | _=>none
noncomputable abbrev Ks:Scope:=qV (EA (Ez ((aw ow).head!)))
theorem cW:sR (aj ow) Ks "t" ["inside"] ["told", "inside"] [1]:=by decide +kernel
theorem zW{f:Addr}{fd:FuncData}(F:Fun K "tells_within" "tells_within" ow f fd)(za:mg "all" = none):cL P w K mg base (CXE P w) 1 f fd ["told", "inside"] rG:=by
 refine F.okE scW (λvs H Q E h=>?_) (λcdv A outer s H vs Q E hr h=>?_)
 ·obtain⟨l,i,fs,kvs,rfl,_⟩:=h
  rfl
 ·obtain⟨l,i,fs,kvs,rfl,hl,hz,hi,k⟩:=h
  have hu:=b7 hr;have co:fU (cxE P w K mg base ["told", "inside"] "tells_within" (aj ow) f cdv A outer s H E).nox Ks [("inside",s.heap.objs.size+1)] "t" [1] ["t", "inside"] :=
   cB rfl rfl rfl cW rfl rfl (by intro q hq;rw[MO.mp hq];rfl)
  refine⟨_,PSs.nox (ak (aG (aP (wJ rfl) rfl za PyProof.Rows.Boot.«all» (aa (ft co rfl (a9 (pv 0))
   (λC fp s₀ H₀=>IF (jv rT (pv 0) bK (aO _)) (rO (Bv (qe hu (pv 0) (pv 1)))))) aq)))),?_⟩
  refine⟨_,rfl,l,rfl,⟨_,SqL.of hl⟩,λD hD=>?_⟩;refine d7 (K:=K) (a:=l) (xs:=fs.map oV) (λj zs H2=>zs=((fs.take j).map (wIn kvs)).map V.bl∧ay H H2∧H2 D=some (.lst zs)) ⟨rfl,ay.upd hD,ag⟩
   (λj zs H2 hj ⟨e,_,z⟩=>⟨z,by rw[MN]at hj;rw[e,MN,MN,MZ];omega⟩) (λj zs H2 _ ⟨_,s2,_⟩=>SqL.of (s2 _ _ hl)) (Nh (by rw[MN];exact hz) (by decide))
   (λj x zs H2 hx ⟨e,s2,z⟩=>?_) (λzs H2 ⟨e,s2,z⟩=>?_)
  ·have hlt:j<fs.length:=by have:=(MQ.mp hx).1;rwa[MN]at this
   have tk:fs.take (j+1)=fs.take j++[fs[j]]:=MT hlt;have hxe:x=oV fs[j]:=by
    rw[MY,MP hlt]at hx;exact(Nf hx).symm
   subst hxe;have fin:∀ b:Bool,wIn kvs fs[j]=b→H2 D=some (.lst zs)∧(zs++[V.bl b]=((fs.take (j+1)).map (wIn kvs)).map V.bl∧ay H (upd H2 D (.lst (zs++[V.bl b])))∧upd H2 D (.lst (zs++[V.bl b])) D=some (.lst (zs++[V.bl b]))):=λb hb =>
    ⟨z,by rw[tk,e,MV,MV,←hb];rfl,λc u g=>by rw[ab (ao g hD)];exact s2 c u g,ag⟩
   cases hc:fs[j] with
   | none=>exact⟨_,rfl,rfl,_,rfl,dt (fin true (by rw[hc];rfl))⟩
   | some n=>exact⟨_,rfl,rfl,_,rfl,b8 ⟨_,rfl,_,rfl,i,_,rfl,eK.k (k:=Sum.inl n) (s2 _ _ hi),fin _ (by rw[hc];rfl)⟩⟩
  ·rw[MN,MW (MR _)]at e
   refine⟨D,fs.map (wIn kvs),rfl,by rw[←e];exact SqL.of z,?_⟩;rw[List.all_map];exact k H2 s2
noncomputable def Cl(rs:List (Option Int))(ks:Fs)(ns:List Int):Prop:=ns.Pairwise (·< ·)∧(∀ t∈ns,t∈keys ks)∧(∀ n,some n∈rs→n∈ns)∧∀ p∈ks,p.1∈ns→∀ n,some n∈p.2→n∈ns
noncomputable def jL(l:List Int):List (Key×V):=l.map λt=>(Sum.inl t,V.bl true)
theorem rH(t:Int):∀ l:List Int,cE (jL l) (Sum.inl t)=if t∈l then some (V.bl true) else none
 | []=>rfl
 | k::r=>by
  have ih:=rH t r;by_cases e:k=t
  ·subst e
   rw[show jL (k::r)=(Sum.inl k,V.bl true)::jL r from rfl,de rfl,if_pos (by simp)]
  ·rw[show jL (k::r)=(Sum.inl k,V.bl true)::jL r from rfl,di (λz=>e (by injection z)),ih]
   have:(t∈k::r)↔t∈r:=by
    rw[Nk];exact⟨λz=>z.resolve_left λy=>e y.symm,.inr⟩
   simp only[this]
theorem yI(ns:List Int)(x:Option Int):wIn (jL ns) x=true↔∀ n,x=some n→n∈ns:=by
 cases x with
 | none=>simp[wIn]
 | some n =>
  show(cE (jL ns) (Sum.inl n)).isSome=true↔_;rw[rH];by_cases h:n∈ns
  ·rw[if_pos h]
   exact⟨λ_ m e=>by injection e with e;rw[←e];exact h,λ_=>rfl⟩
  ·rw[if_neg h]
   exact⟨λz=>absurd z (by decide),λz=>absurd (z n rfl) h⟩
theorem qW(ns:List Int)(fs:List (Option Int)):fs.all (wIn (jL ns))=true↔∀ n,some n∈fs→n∈ns:=by
 rw[Oq];exact⟨λh n hn=>(yI ns _).mp (h _ hn) n rfl,λh x hx=>(yI ns x).mpr λn e=>h n (by rw[←e];exact hx)⟩
theorem zX{l:List Int}{t:Int}(h:l.Pairwise (·< ·))(hm:∀ m,l.getLast?=some m→m<t):(l++[t]).Pairwise (·< ·):=by
 rw[Nq];refine⟨h,Oz _ _,λa ha b hb=>?_⟩;rw[MO.mp hb];rcases List.eq_nil_or_concat l with e|⟨l',m,e⟩
 ·rw[e]at ha;cases ha
 ·rw[List.concat_eq_append]at e
  subst e;have hm':=hm m (by simp);rcases MS.mp ha with g|g
  ·have:=(Nq.mp h).2.2 a g m (MO.mpr rfl)
   omega
  ·rw[MO.mp g];exact hm'
theorem zY{l r:List Int}{t m:Int}(h:(l++t::r).Pairwise (·< ·))(e:l.getLast?=some m):m<t:=by
 obtain⟨ys,rfl⟩:=List.getLast?_eq_some_iff.mp e;exact(Nq.mp h).2.2 m (by simp) t (Nu ..)
theorem Bm{ns:List Int}{i:Nat}(h:i<ns.length):ns=ns.take i++ns[i]::ns.drop (i+1):=by
 rw[←NY h,Np]
noncomputable def Iq(K:W.Frag):Sp:=λvs H Q _=>∃(v r d th:Addr) (o:Obj) (ad:Int→Addr) (rs:List (Option Int)) (ks:Fs) (ns:List Int),vs=[.ref v,.ref th]∧SqT K H v [.ref r,.ref d]∧Vw H r d o ad rs ks∧Rt rs ks∧H th=some (.lst (ns.map V.int))∧ns.length≤63 ∧
 ∀(b:Bool) (H':Hp),ay H H'→(b=true↔Cl rs ks ns)→Q (.bl b) H'
noncomputable abbrev NI:List Str:=["view", "things", "fields", "inside", "last", "t"]
theorem scI:au NI ["view", "things"] (aj sIn):=⟨rfl,rfl,rfl,by decide +kernel,rfl,by decide +kernel,by decide +kernel⟩
noncomputable def Mv:Option Expr→Option Expr
 | some (.BoolOp _ (_::b::_) _)=>some b
 | _=>none
noncomputable abbrev Kt:Scope:=qV (EA (Mv (Ez ((aw sIn).getD 4 (.Pass ⟨0,0,0,0⟩)))))
theorem cI:sR (aj sIn) Kt "t" ["inside", "fields"] NI [3,2]:=by decide +kernel
theorem JJ{f fW:Addr}{fd fdW:FuncData}(F:Fun K "closed_in" "closed_in" sIn f fd)(za:mg "all" = none)(GW:cL P w K mg base (CXE P w) 1 fW fdW ["told", "inside"] rG)(mW:mg "tells_within" = some (.ref fW))(kW:PySem.W.keepIn K (.ref fW)=true)(bW:Binds K fdW ["told", "inside"] []) :
  cL P w K mg base (CXE P w) 2 f fd ["view", "things"] (Iq K):=by
 refine F.okE scI (λvs H Q E h=>?_) (λcdv A outer s H vs Q E hr h=>?_)
 ·obtain⟨v,r,d,th,o,ad,rs,ks,ns,rfl,_⟩:=h
  rfl
 ·obtain⟨v,r,d,th,o,ad,rs,ks,ns,rfl,ht,hv,rt,hth,hz,k⟩:=h
  have hu:=b7 hr;have co:fU (cxE P w K mg base NI "closed_in" (aj sIn) f cdv A outer s H E).nox Kt [("inside",s.heap.objs.size+2),("fields",s.heap.objs.size+1)] "t" [3,2] ["t", "inside", "fields"] :=
   cB rfl rfl rfl cI rfl rfl (by
    intro q hq;rcases Nk.mp hq with e|e
    ·rw[e];rfl
    ·rw[MO.mp e];rfl)
  refine⟨_,PSs.nox (ai (aD (i:=2) scI.nd rfl (Or.inr rfl) (a7 aX (pv 0) ar (λ_ _=>rfl)))
   (ai (aD (i:=3) scI.nd rfl (Or.inr rfl) bY)
   (ai (aD (i:=4) scI.nd rfl (Or.inl rfl) bK)
   (ai (bF Nl rfl (a9 (pv 1)) (aN (i:=5) scI.nd rfl (Or.inl rfl))
    (ai (a6 (PW.pt (pw_or (cR (bV hu (pv 5) (pv 2)) (by with_unfolding_all rfl)) (pw_or1 (PW.pt (pw_and (aE fY (pv 4) bK (aO _)) (pw_and1 (aE ko (pv 5) (pv 4) (aO _)))))))) (ak (aG dR)) aI)
    (ai (cH hu (pv 3) (pv 5) dR rfl)
    (ak (aD (i:=4) scI.nd rfl (Or.inl rfl) (pv 5))))))
   (ak (aG (rP (bG GW hr rfl mW kW bW .nil aV (aa (a7 aX (pv 0) ar (λ_ _=>rfl)) (aa (pv 3) aq)))
    (rO (aP (wJ rfl) rfl za PyProof.Rows.Boot.«all» (aa (ft co rfl (a9 (pv 1))
     (λC fp s₀ H₀=>bG GW hr rfl mW kW bW .nil uX (aa (cS hu (pv 2) (pv 0) (λ_ _=>rfl)) (aa (pv 1) aq)))) aq)))))))))),?_⟩
  refine⟨_,rfl,v,_,1,.ref d,rfl,rfl,ht,rfl,?_⟩;refine λiA hiA=>?_;refine⟨_,rfl,th,rfl,⟨_,SqL.of (ay.upd hiA _ _ hth)⟩,cg (K:=K) (a:=th) (xs:=ns.map V.int) (λi σ H2=>∃ v5,σ=[some (.ref v),some (.ref th),some (.ref d),some (.ref iA),some (oV (ns.take i).getLast?),v5]∧ay H H2∧H2 iA=some (.dK (jL (ns.take i)))∧(ns.take i).Pairwise (·< ·)∧∀ t∈ns.take i,t∈keys ks)
   ⟨none,rfl,ay.upd hiA,ag,List.Pairwise.nil,(λt h=>nomatch h)⟩ (λi σ H2 _ ⟨_,_,s2,_⟩=>SqL.of (s2 _ _ hth)) ?_ ?_⟩
  ·rintro i x σ H2 hx ⟨v5,rfl,s2,h2,pw,hk⟩
   have hlt:i<ns.length:=(by have:=(MQ.mp hx).1;rwa[MN]at this);have hxe:x=.int ns[i]:=by
    rw[MY,MP hlt]at hx;exact(Nf hx).symm
   subst hxe;have tk:ns.take (i+1)=ns.take i++[ns[i]]:=MT hlt;have sp:=Bm hlt;have hd2:=s2 _ _ hv.hd;have bad:¬Cl rs ks ns→(λ(b:Bool)=>Q (.bl b) H2) false:=λh=>k false H2 s2 ⟨λz=>absurd z (by decide),λz=>absurd z h⟩;obtain⟨gl,egl⟩:∃ gl,(ns.take i).getLast?=gl:=⟨_,rfl⟩;have nx:(∀ m,gl=some m→m<ns[i])→jx H2 iA (.int ns[i]) (.bl true) (upd H2 iA (.dK (jL (ns.take (i+1)))))∧(ns.take (i+1)).getLast?=some ns[i]∧ay H (upd H2 iA (.dK (jL (ns.take (i+1)))))∧(ns.take (i+1)).Pairwise (·< ·):=λhm=>by
    have pw2:=zX pw (by rw[egl];exact hm);have nm:ns[i]∉ns.take i:=λg=>by
     have:=(Nq.mp pw2).2.2 _ g _ (MO.mpr rfl)
     omega
    have ei:jL (ns.take (i+1))=putK (jL (ns.take i)) (Sum.inl ns[i]) (.bl true):=by
     rw[dM _ (by rw[rH,if_neg nm]),tk];unfold jL;rw[MV];rfl
    refine⟨?_,by rw[tk,List.getLast?_append,List.getLast?_singleton];rfl,λc u g=>by rw[ab (ao g hiA)];exact s2 c u g,by rw[tk];exact pw2⟩;rw[ei];exact jx.k (k:=Sum.inl ns[i]) h2 (NQ (show(jL (ns.take i)).length≤63 by unfold jL;rw[MN,MZ];omega) (by decide))
   rw[egl];by_cases hin:ns[i]∈keys ks
   ·have hk2:∀ t∈ns.take (i+1),t∈keys ks:=by
     rw[tk];intro t g;rcases MS.mp g with g|g
     ·exact hk t g
     ·rw[MO.mp g];exact hin
    refine⟨_,rfl,_,rfl,d,_,rfl,jJ hd2 hin,_,rfl,b8 ?_⟩;cases gl with
    | none =>
     obtain⟨n1,n2,n3,n4⟩:=nx (λm e=>nomatch e);exact⟨_,rfl,rfl,_,rfl,b8 (b8 ⟨_,rfl,_,rfl,iA,_,rfl,n1,_,rfl,some (.int ns[i]),by rw[n2];rfl,n3,ag,n4,hk2⟩)⟩
    | some m =>
     refine⟨_,rfl,rfl,_,rfl,dt ⟨_,rfl,_,rfl,ns[i],m,rfl,rfl,_,rfl,bu (λh=>?_) (λh=>?_)⟩⟩
     ·have h1:ns[i]≤m:=by simpa using h
      refine bad λz=>?_;have z1:=z.1;rw[sp]at z1
      have:=zY z1 egl
      omega
     ·have h1:¬ns[i]≤m:=by simpa using h
      obtain⟨n1,n2,n3,n4⟩:=nx (λm' e=>by injection e with e;omega);exact⟨_,rfl,_,rfl,iA,_,rfl,n1,_,rfl,some (.int ns[i]),by rw[n2];rfl,n3,ag,n4,hk2⟩
   ·refine⟨_,rfl,_,rfl,d,_,rfl,B7 hd2 ns[i],_,rfl,?_⟩
    rw[if_neg hin];exact dt (dt (bad λz=>hin (z.2.1 _ (NK hlt))))
  ·rintro σ H2 ⟨v5,rfl,s2,h2,pw,hk⟩
   rw[MN,MW (MR _)]at h2 pw hk;have v2:=hv.same s2;refine⟨_,rfl,v,_,0,.ref r,rfl,rfl,cp ht s2,rfl,_,rfl,r,iA,rs,jL ns,rfl,v2.hr,Nh rt.rl (by decide),h2,λH3 s3=>⟨_,rfl,bu (λhc=>?_) (λhc=>?_)⟩⟩
   ·have s3':=s2.trans s3
    have v3:=hv.same s3';refine⟨_,rfl,th,rfl,⟨_,SqL.of (s3' _ _ hth)⟩,λD hD=>?_⟩;have hD0:H D=none:=s3'.free hD;refine d7 (K:=K) (a:=th) (xs:=ns.map V.int) (λj zs H4=>zs=((ns.take j).map λt=>(cQ ks t).all (wIn (jL ns))).map V.bl∧ay H3 H4∧H4 D=some (.lst zs)) ⟨rfl,ay.upd hD,ag⟩
     (λj zs H4 hj ⟨e,_,z⟩=>⟨z,by rw[MN]at hj;rw[e,MN,MN,MZ];omega⟩) (λj zs H4 _ ⟨_,s4,_⟩=>SqL.of (s4 _ _ (s3' _ _ hth))) (Nh (by rw[MN];exact hz) (by decide))
     (λj x zs H4 hx ⟨e,s4,z⟩=>?_) (λzs H4 ⟨e,s4,z⟩=>?_)
    ·have hlt:j<ns.length:=by have:=(MQ.mp hx).1;rwa[MN]at this
     have tk:ns.take (j+1)=ns.take j++[ns[j]]:=MT hlt;have hxe:x=.int ns[j]:=by
      rw[MY,MP hlt]at hx;exact(Nf hx).symm
     subst hxe;have hin:ns[j]∈keys ks:=hk _ (NK hlt);have v4:=v3.same s4;obtain⟨f1,f2,f3⟩:=Ak v4 rt hin;refine⟨_,rfl,_,rfl,d,_,rfl,jJ v4.hd hin,_,rfl,ad ns[j],iA,cQ ks ns[j],jL ns,rfl,f1,Nh f2 (by decide),s4 _ _ (s3 _ _ h2),λH5 s5=>⟨s5 _ _ z,?_,?_,ag⟩⟩
     ·rw[tk,e,MV,MV];rfl
     ·exact λc u g=>by rw[ab (ao g hD)];exact s5 _ _ (s4 c u g)
    ·rw[MN,MW (MR _)]at e
     refine⟨D,ns.map λt=>(cQ ks t).all (wIn (jL ns)),rfl,by rw[←e];exact SqL.of z,?_⟩;refine k _ H4 (s3'.trans s4) ?_;rw[List.all_map,Oq];constructor
     ·intro h
      refine⟨pw,hk,(qW ns rs).mp hc,λp hp hm=>?_⟩
      have:=h p.1 hm
      simp only[Function.comp,id]at this;rw[eG rt.nd hp]at this;exact(qW ns p.2).mp this
     ·intro h t htm
      simp only[Function.comp,id];obtain⟨p,hp,rfl⟩:=Nc.mp (hk t htm);rw[eG rt.nd hp];exact(qW ns p.2).mpr (h.2.2.2 p hp htm)
   ·refine k false H3 (s2.trans s3) ⟨λz=>absurd z (by decide),λz=>absurd ((qW ns rs).mpr z.2.2.1) hc⟩
end
section
variable{P:Program}{w:World}{K:W.Frag}{mg:Str→Option Value}{base:Heap}
noncomputable abbrev Tr:=Option Int×Option Int×Option Int
noncomputable def trV(t:Tr):List V:=[oV t.1,oV t.2.1,oV t.2.2]
noncomputable def At(fs:List (Option Int))(pl:Option Int)(n:Int):Prop:=∃ p:Nat,pl=some (p:Int)∧fs[p]?=some (some n)
noncomputable def Ir(rs:List (Option Int))(ks:Fs)(met:List Int)(si pl:Option Int)(n:Int):Prop:=match si with
 | none=>At rs pl n
 | some o=>o∈met∧At (cQ ks o) pl n
noncomputable def u6(rs:List (Option Int))(ks:Fs)(met:List Int)(t:Tr)(n:Int):Prop:=t.1=some n∧n∉met∧Ir rs ks met t.2.1 t.2.2 n
inductive Runs(rs:List (Option Int))(ks:Fs):List Int→List Tr→List Int→Prop
 | nil {m:List Int}:Runs rs ks m [] m
 | cons {m:List Int} {t:Tr} {n:Int} {ts:List Tr} {m':List Int}:u6 rs ks m t n→Runs rs ks (m++[n]) ts m'→Runs rs ks m (t::ts) m'
noncomputable def Jd(rs:List (Option Int))(ks:Fs)(ts:List Tr):Prop:=∃ m,Runs rs ks [] ts m∧(∀ n,some n∈rs→n∈m)∧Au ks m
section
variable{rs:List (Option Int)}{ks:Fs}
theorem qX:∀ {xs ys:List Tr} {a m:List Int},Runs rs ks a (xs++ys) m→∃ b,Runs rs ks a xs b∧Runs rs ks b ys m
 | [],ys,a,m,h=>⟨a,.nil,h⟩
 | x::xs,ys,a,m,h=>by
  cases h with
  | cons s r =>
   obtain⟨b,h1,h2⟩:=qX r;exact⟨b,.cons s h1,h2⟩
theorem rJ:∀ {xs:List Tr} {a b c:List Int},Runs rs ks a xs b→Runs rs ks a xs c→b=c
 | [],a,b,c,h1,h2=>by
  cases h1;cases h2;rfl
 | x::xs,a,b,c,h1,h2=>by
  cases h1 with
  | cons s1 r1 =>
   cases h2 with
   | cons s2 r2 =>
    have e:=s1.1.symm.trans s2.1;injection e with e;subst e;exact rJ r1 r2
theorem jt:∀ {xs:List Tr} {a m:List Int} {t:Tr} {n:Int},Runs rs ks a xs m→u6 rs ks m t n→Runs rs ks a (xs++[t]) (m++[n])
 | [],a,m,t,n,h,s=>by
  cases h;exact .cons s .nil
 | x::xs,a,m,t,n,h,s=>by
  cases h with
  | cons s1 r1=>exact .cons s1 (jt r1 s)
theorem wR(rt:Rt rs ks){met:List Int}(hm:∀ m∈met,m∈keys ks){si pl:Option Int}{n:Int}(h:Ir rs ks met si pl n):n∈keys ks:=by
 cases si with
 | none =>
  obtain⟨p,_,e⟩:=h;exact rt.ri n (Na e)
 | some o =>
  obtain⟨h1,p,_,e⟩:=h;obtain⟨q,hq,eq⟩:=Nc.mp (hm o h1);rw[←eq,eG rt.nd hq]at e;exact rt.fi q hq n (Na e)
theorem el:∀ {ts:List Tr} {a m:List Int},Runs rs ks a ts m→m.map some=a.map some++ts.map (·.1)
 | [],a,m,r=>by
  cases r;simp
 | t::ts,a,m,r=>by
  cases r with
  | cons s r =>
   rw[el r,MV,Ni];show _=a.map some++(t.1::ts.map (·.1));rw[s.1];rfl
theorem kD:∀ {ts:List Tr} {a m:List Int},a.Nodup→Runs rs ks a ts m→m.Nodup
 | [],a,m,h,r=>by
  cases r;exact h
 | t::ts,a,m,h,r=>by
  cases r with
  | cons s r =>
   refine kD ?_ r;rw[Of];refine⟨h,by simp,λx hx b hb=>?_⟩;rw[MO.mp hb];exact λz=>s.2.1 (by rw[←z];exact hx)
end
theorem eI{kvs:List (Key×V)}{ms:List Int}(h:kvs.map (·.1)=ms.map Sum.inl)(n:Int):(cE kvs (Sum.inl n)).isSome=decide (n∈ms):=by
 rw[←gA,OE,List.any_eq_true,decide_eq_true_eq];constructor
 ·rintro⟨kv,h1,h2⟩
  have h3:kv.1=Sum.inl n:=by simpa using h2
  have h4:(Sum.inl n:Key)∈ms.map Sum.inl:=by rw[←h,←h3];exact ON h1
  obtain⟨m,hm,e⟩:=Nc.mp h4;injection e with e;rw[←e];exact hm
 ·intro hn
  have h4:(Sum.inl n:Key)∈kvs.map (·.1):=by rw[h];exact ON hn
  obtain⟨kv,h1,h2⟩:=Nc.mp h4;exact⟨kv,h1,by simpa using h2⟩
noncomputable def uJ:Sp:=λvs H Q _=>∃(l:Addr) (pl:Option Int) (n:Int) (fs:List (Option Int)),vs=[.ref l,oV pl,.int n]∧H l=some (.lst (fs.map oV))∧∀ b:Bool,(b=true↔At fs pl n)→Q (.bl b) H
theorem Mw:au ["told", "place", "thing"] ["told", "place", "thing"] (aj BX):=⟨rfl,rfl,rfl,by decide +kernel,rfl,by decide +kernel,by decide +kernel⟩
theorem Bn{f:Addr}{fd:FuncData}(F:Fun K "tells_at" "tells_at" BX f fd)(zn:mg "len" = none):cL P w K mg base (CXE P w) 1 f fd ["told", "place", "thing"] uJ:=by
 refine F.okE Mw (λvs H Q E h=>?_) (λcdv A outer s H vs Q E hr h=>?_)
 ·obtain⟨l,pl,n,fs,rfl,_⟩:=h
  rfl
 ·obtain⟨l,pl,n,fs,rfl,hl,k⟩:=h
  refine⟨_,PSs.nox (ak (aG (rP (jv fY (pv 1) bK (aO _)) (rP (Ax ko km ar (pv 1) (aP bM rfl zn PyProof.Rows.Boot.«len» (aa (pv 0) aq))) (rO (jv kh (a7 dr (pv 0) (pv 1) (λ_ _=>rfl)) (pv 2) (aO _))))))),?_⟩;have no:¬At fs pl n→Q (.bl false) H:=λh=>k false ⟨λz=>absurd z (by decide),λz=>absurd z h⟩;cases pl with
  | none=>exact⟨_,rfl,rfl,_,rfl,b8 (no λ⟨p,e,_⟩=>nomatch e)⟩
  | some p =>
   refine⟨_,rfl,rfl,_,rfl,dt ⟨_,rfl,0,p,rfl,rfl,_,rfl,bu (λh0=>?_) (λh0=>?_)⟩⟩
   ·have h0:0≤p:=by simpa using h0
    obtain⟨m,rfl⟩:∃ m:Nat,p=(m:Int):=⟨p.toNat,by omega⟩;refine⟨_,rfl,l,_,rfl,.inl (SqL.of hl),_,_,rfl,rfl,_,rfl,bu (λh1=>?_) (λh1=>?_)⟩
    ·have h1:m<fs.length:=by
      have h2:(m:Int)<((fs.map oV).length:Int):=(by simpa using h1);rw[MN]at h2;omega
     refine⟨_,rfl,_,rfl,l,_,_,oV fs[m],rfl,rfl,SqL.of hl,jw (by rw[MY,MP h1];rfl),_,rfl,?_,k _ ?_⟩
     ·cases fs[m]<;>rfl
     ·rw[decide_eq_true_eq]
      constructor
      ·intro e
       refine⟨m,rfl,?_⟩;rw[MP h1];cases hc:fs[m] with
       | none=>rw[hc]at e;exact nomatch (show V.non=V.int n from e)
       | some y=>rw[hc]at e;injection (show V.int y=V.int n from e) with e;rw[e]
      ·rintro⟨p,e,h⟩
       injection e with e;have e:m=p:=(by omega);subst e;rw[MP h1]at h;rw[Nf h];rfl
    ·refine no ?_
     rintro⟨p,e,h⟩;injection e with e;have e:m=p:=(by omega);subst e;have h3:=(MQ.mp h).1;have h2:¬(m:Int)<((fs.map oV).length:Int):=(by simpa using h1);rw[MN]at h2;omega
   ·refine⟨_,rfl,b8 (no ?_)⟩
    rintro⟨m,e,_⟩;injection e with e;have h0:¬0≤p:=(by simpa using h0);omega
noncomputable def yd(K:W.Frag):Sp:=λvs H Q _=>∃(v r d a tx:Addr) (o:Obj) (ad:Int→Addr) (rs:List (Option Int)) (ks:Fs) (kvs:List (Key×V)) (met:List Int) (t:Tr),vs=[.ref v,.ref a,.ref tx]∧SqT K H v [.ref r,.ref d]∧Vw H r d o ad rs ks∧Rt rs ks∧H a=some (.dK kvs)∧kvs.map (·.1)=met.map Sum.inl∧(∀ m∈met,m∈keys ks)∧H tx=some (.tup (trV t)) ∧
 ∀ b:Bool,(b=true↔∃ n,u6 rs ks met t n)→Q (.bl b) H
theorem Iu:au ["view", "ahead", "triple", "thing", "origin"] ["view", "ahead", "triple"] (aj Ey):=⟨rfl,rfl,rfl,by decide +kernel,rfl,by decide +kernel,by decide +kernel⟩
theorem DF{f fT:Addr}{fd fdT:FuncData}(F:Fun K "is_step" "is_step" Ey f fd)(GT:cL P w K mg base (CXE P w) 1 fT fdT ["told", "place", "thing"] uJ)(mT:mg "tells_at" = some (.ref fT))(kT:PySem.W.keepIn K (.ref fT)=true)(bT:Binds K fdT ["told", "place", "thing"] []):cL P w K mg base (CXE P w) 2 f fd ["view", "ahead", "triple"] (yd K):=by
 refine F.okE Iu (λvs H Q E h=>?_) (λcdv A outer s H vs Q E hr h=>?_)
 ·obtain⟨v,r,d,a,tx,o,ad,rs,ks,kvs,met,t,rfl,_⟩:=h
  rfl
 ·obtain⟨v,r,d,a,tx,o,ad,rs,ks,kvs,met,⟨t1,t2,t3⟩,rfl,ht,hv,rt,ha,hk,hm,htx,k⟩:=h
  have hu:=b7 hr;refine⟨_,PSs.nox (ai (aD (i:=3) Iu.nd rfl (Or.inl rfl) (a7 aX (pv 2) ar (λ_ _=>rfl)))
   (ai (aD (i:=4) Iu.nd rfl (Or.inl rfl) (a7 aX (pv 2) ar (λ_ _=>rfl)))
   (ai (a6 (PW.pt (pw_or (aE rT (pv 3) bK (aO _)) (pw_or1 (cR (qe hu (pv 3) (pv 1)) (by with_unfolding_all rfl))))) (ak (aG dR)) aI)
   (ai (a6 (aE rT (pv 4) bK (aO _)) (ak (aG (bG GT hr rfl mT kT bT .nil aV (aa (a7 aX (pv 0) ar (λ_ _=>rfl)) (aa (a7 aX (pv 2) ar (λ_ _=>rfl)) (aa (pv 3) aq)))))) aI)
   (ak (aG (rP (Bv (qe hu (pv 4) (pv 1))) (rO (bG GT hr rfl mT kT bT .nil aV (aa (cS hu (a7 aX (pv 0) ar (λ_ _=>rfl)) (pv 4) (λ_ _=>rfl)) (aa (a7 aX (pv 2) ar (λ_ _=>rfl)) (aa (pv 3) aq)))))))))))),?_⟩
  have no:(¬∃ n,u6 rs ks met (t1,t2,t3) n)→Q (.bl false) H:=λh=>k false ⟨λz=>absurd z (by decide),λz=>absurd z h⟩;refine⟨_,rfl,tx,_,0,oV t1,rfl,rfl,SqT.of htx,rfl,?_⟩;refine⟨_,rfl,tx,_,1,oV t2,rfl,rfl,SqT.of htx,rfl,?_⟩;cases t1 with
  | none=>exact⟨_,rfl,rfl,_,rfl,dt (dt (no λ⟨n,h,_⟩=>nomatch h))⟩
  | some n =>
   refine⟨_,rfl,rfl,_,rfl,b8 ⟨_,rfl,_,rfl,a,_,rfl,eK.k (k:=Sum.inl n) ha,_,rfl,?_⟩⟩;rw[eI hk];by_cases hn:n∈met
   ·rw[decide_eq_true hn]
    exact dt (no λ⟨m,h,h2,_⟩=>by injection h with h;rw[←h]at h2;exact h2 hn)
   ·rw[decide_eq_false hn]
    refine b8 ?_;cases t2 with
    | none =>
     refine⟨_,rfl,rfl,_,rfl,dt ⟨_,rfl,v,_,0,.ref r,rfl,rfl,ht,rfl,_,rfl,tx,_,2,oV t3,rfl,rfl,SqT.of htx,rfl,_,rfl,r,t3,n,rs,rfl,hv.hr,λb hb=>k b (hb.trans ⟨λh=>⟨n,rfl,hn,h⟩,?_⟩)⟩⟩;rintro⟨m,h,_,h3⟩;injection h with h;rw[h];exact h3
    | some og =>
     refine⟨_,rfl,rfl,_,rfl,b8 ⟨_,rfl,_,rfl,a,_,rfl,eK.k (k:=Sum.inl og) ha,_,rfl,?_⟩⟩;rw[eI hk];by_cases ho:og∈met
     ·rw[decide_eq_true ho]
      obtain⟨f1,f2,f3⟩:=Ak hv rt (hm og ho);refine dt ⟨_,rfl,v,_,1,.ref d,rfl,rfl,ht,rfl,_,rfl,d,_,rfl,jJ hv.hd (hm og ho),_,rfl,tx,_,2,oV t3,rfl,rfl,SqT.of htx,rfl,_,rfl,ad og,t3,n,cQ ks og,rfl,f1,λb hb=>k b (hb.trans ⟨λh=>⟨n,rfl,hn,ho,h⟩,?_⟩)⟩;rintro⟨m,h,_,_,h3⟩;injection h with h;rw[h];exact h3
     ·rw[decide_eq_false ho]
      exact b8 (no λ⟨m,_,_,h,_⟩=>ho h)
noncomputable def rK(K:W.Frag):Sp:=λvs H Q _=>∃(v r d l:Addr) (o:Obj) (ad:Int→Addr) (rs:List (Option Int)) (ks:Fs) (xs:List Addr) (tr:Addr→Tr),vs=[.ref v,.ref l]∧SqT K H v [.ref r,.ref d]∧Vw H r d o ad rs ks∧Rt rs ks∧H l=some (.lst (xs.map V.ref))∧(∀ x∈xs,H x=some (.tup (trV (tr x))))∧xs.length≤63 ∧
 ∀(b:Bool) (H':Hp),ay H H'→(b=true↔Jd rs ks (xs.map tr))→Q (.bl b) H'
theorem scJ:au ["view", "triples", "ahead", "triple"] ["view", "triples"] (aj yE):=⟨rfl,rfl,rfl,by decide +kernel,rfl,by decide +kernel,by decide +kernel⟩
theorem zZ{f fL fS fI:Addr}{fd fdL fdS fdI:FuncData}(F:Fun K "paper_judged" "paper_judged" yE f fd)(zs:mg "sorted" = none)(GL:cL P w K mg base (CXE P w) 2 fL fdL ["view"] (u5 K))(mL:mg "look_at_view" = some (.ref fL))(kL:PySem.W.keepIn K (.ref fL)=true)(bL:Binds K fdL ["view"] [])
  (GS:cL P w K mg base (CXE P w) 2 fS fdS ["view", "ahead", "triple"] (yd K)) (mS:mg "is_step" = some (.ref fS)) (kS:PySem.W.keepIn K (.ref fS)=true) (bS:Binds K fdS ["view", "ahead", "triple"] [])
  (GI:cL P w K mg base (CXE P w) 2 fI fdI ["view", "things"] (Iq K)) (mI:mg "closed_in" = some (.ref fI)) (kI:PySem.W.keepIn K (.ref fI)=true) (bI:Binds K fdI ["view", "things"] []):cL P w K mg base (CXE P w) 3 f fd ["view", "triples"] (rK K):=by
 refine F.okE scJ (λvs H Q E h=>?_) (λcdv A outer s H vs Q E hr h=>?_)
 ·obtain⟨v,r,d,l,o,ad,rs,ks,xs,tr,rfl,_⟩:=h
  rfl
 ·obtain⟨v,r,d,l,o,ad,rs,ks,xs,tr,rfl,ht,hv,rt,hl,hx,xl,k⟩:=h
  have hu:=b7 hr;refine⟨_,PSs.nox (ai (az (bG GL hr rfl mL kL bL .nil aV (aa (pv 0) aq)))
   (ai (aD (i:=2) scJ.nd rfl (Or.inl rfl) bY)
   (ai (bF Nl rfl (a9 (pv 1)) (aN (i:=3) scJ.nd rfl (Or.inl rfl))
    (ai (a6 (gy (fN (bG GS hr rfl mS kS bS .nil aV (aa (pv 0) (aa (pv 2) (aa (pv 3) aq)))))) (ak (aG dR)) aI)
    (ak (cH hu (pv 2) (a7 aX (pv 3) ar (λ_ _=>rfl)) dR rfl))))
   (ak (aG (bG GI hr rfl mI kI bI .nil aV (aa (pv 0) (aa (aP (lY rfl) rfl zs PyProof.Rows.Boot.«sorted» (aa (pv 2) aq)) aq)))))))),?_⟩
  refine⟨_,rfl,v,r,d,o,ad,rs,ks,rfl,ht,hv,rt,?_⟩;refine λa ha=>?_;have kk:(keys ks).length=ks.length:=MN _;have kl:=rt.kl;have s0:ay H (upd H a (.dK [])):=ay.upd ha;refine⟨_,rfl,l,rfl,⟨_,SqL.of (s0 _ _ hl)⟩,cg (K:=K) (a:=l) (xs:=xs.map V.ref) (λi σ H2=>∃(v3:Option V) (kvs:List (Key×V)) (met:List Int),σ=[some (.ref v),some (.ref l),some (.ref a),v3]∧ay H H2∧H2 a=some (.dK kvs)∧kvs.map (·.1)=met.map Sum.inl∧met.Nodup∧(∀ m∈met,m∈keys ks)∧Runs rs ks [] ((xs.take i).map tr) met)
   ⟨none,[],[],rfl,s0,ag,rfl,OA,(λm h=>nomatch h),.nil⟩ (λi σ H2 _ ⟨_,_,_,_,s2,_⟩=>SqL.of (s2 _ _ hl)) ?_ ?_⟩
  ·rintro i y σ H2 hy ⟨v3,kvs,met,rfl,s2,z2,hk,nd,hm,hR⟩
   have hlt:i<xs.length:=(by have:=(MQ.mp hy).1;rwa[MN]at this);have tk:xs.take (i+1)=xs.take i++[xs[i]]:=MT hlt;have hxe:y=.ref xs[i]:=by
    rw[MY,MP hlt]at hy;exact(Nf hy).symm
   subst hxe;have hxi:=hx _ (NK hlt);refine⟨_,rfl,_,rfl,_,rfl,v,r,d,a,xs[i],o,ad,rs,ks,kvs,met,tr xs[i],rfl,cp ht s2,hv.same s2,rt,z2,hk,hm,s2 _ _ hxi,λb hb=>⟨_,rfl,bu (λh=>?_) (λh=>?_)⟩⟩
   ·have hb0:¬b=true:=by simpa using h
    refine k false H2 s2 ⟨λz=>absurd z (by decide),λz=>absurd (hb.mpr ?_) hb0⟩;obtain⟨m,hr',_⟩:=z;have e:xs.map tr=(xs.take i).map tr++tr xs[i]::(xs.drop (i+1)).map tr:=by
     rw[←Nz,←NY hlt,←MV,Np]
    rw[e]at hr';obtain⟨m2,h1,h2⟩:=qX hr';rw[rJ h1 hR]at h2;cases h2 with
    | cons s _=>exact⟨_,s⟩
   ·have hb1:b=true:=by simpa using h
    obtain⟨n,hs⟩:=hb.mp hb1;have lk:kvs.length=met.length:=by
     have:=congrArg List.length hk
     simpa using this
    have ml:=jo nd hm;have vn:cE kvs (Sum.inl n)=none:=by
     have:=eI hk n
     rw[decide_eq_false hs.2.1]at this;simpa using this
    refine⟨_,rfl,_,rfl,xs[i],_,0,oV (tr xs[i]).1,rfl,rfl,SqT.of (s2 _ _ hxi),rfl,a,_,rfl,(by rw[hs.1];exact jx.k (k:=Sum.inl n) z2 (NQ (show kvs.length≤200 by omega) (by decide))),?_⟩;rw[dM _ vn];refine⟨_,kvs++[(Sum.inl n,V.bl true)],met++[n],rfl,λc u g=>by rw[ab (ao g ha)];exact s2 c u g,ag,by rw[MV,hk,MV];rfl,?_,λm h=>?_,?_⟩
    ·rw[Of]
     refine⟨nd,by simp,λc hc b hb=>?_⟩;rw[MO.mp hb];exact λz=>hs.2.1 (by rw[←z];exact hc)
    ·rcases MS.mp h with g|g
     ·exact hm m g
     ·rw[MO.mp g]
      exact wR rt hm hs.2.2
    ·rw[tk,MV]
     exact jt hR hs
  ·rintro σ H2 ⟨v3,kvs,met,rfl,s2,z2,hk,nd,hm,hR⟩
   rw[MN,MW (MR _)]at hR;have ml:met.length≤63:=(by have:=congrArg List.length (el hR);simp at this;omega);refine⟨_,rfl,_,rfl,a,kvs,met,rfl,.inl z2,hk,by omega,λq ms hq pm pw=>?_⟩;have s3:=s2.trans (ay.upd (o:=.lst (ms.map V.int)) hq);refine⟨v,r,d,q,o,ad,rs,ks,ms,rfl,cp ht s3,hv.same s3,rt,ag,by rw[pm.length_eq];omega,λb H4 s4 hb=>k b H4 (s3.trans s4) (hb.trans ?_)⟩;have rise:ms.Pairwise (·< ·):=(pw.and (pm.nodup_iff.mpr nd)).imp λ⟨h1,h2⟩=>Int.lt_iff_le_and_ne.mpr ⟨h1,h2⟩;constructor
   ·rintro⟨_,_,c3,c4⟩
    refine⟨met,hR,λn hn=>pm.mem_iff.mp (c3 n hn),λt ht' n hn=>?_⟩;obtain⟨p,hp,rfl⟩:=Nc.mp (hm t ht');rw[eG rt.nd hp]at hn;exact pm.mem_iff.mp (c4 p hp (pm.mem_iff.mpr ht') n hn)
   ·rintro⟨m2,hR2,c1,c2⟩
    have e:=rJ hR2 hR;subst e;refine⟨rise,λt ht'=>hm t (pm.mem_iff.mp ht'),λn hn=>pm.mem_iff.mpr (c1 n hn),λp hp hpm n hn=>pm.mem_iff.mpr (c2 p.1 (pm.mem_iff.mp hpm) n (by rw[eG rt.nd hp];exact hn))⟩
end
section
variable{P:Program}{w:World}{K:W.Frag}{mg:Str→Option Value}{base:Heap}
structure Pap(H:Hp)(l:Addr)(xs:List Addr)(tr:Addr→Tr):Prop where
 hl:H l=some (.lst (xs.map V.ref))
 hx:∀ x∈xs,H x=some (.tup (trV (tr x)))
noncomputable def xQ(tr:Addr→Tr)(u:Addr)(t:Tr):Addr→Tr:=λy=>if y=u then t else tr y
theorem Pap.same{H H':Hp}{l:Addr}{xs:List Addr}{tr:Addr→Tr}(p:Pap H l xs tr)(s:ay H H'):Pap H' l xs tr:=⟨s _ _ p.hl,λx h=>s _ _ (p.hx x h)⟩
theorem ux{xs:List Addr}{tr:Addr→Tr}{u:Addr}{t:Tr}(h:u∉xs):xs.map (xQ tr u t)=xs.map tr:=NG λx hx=>if_neg λz=>h (by rw[←z];exact hx)
theorem Pap.add{H:Hp}{l:Addr}{xs:List Addr}{tr:Addr→Tr}(p:Pap H l xs tr){u:Addr}(hu:H u=none)(t:Tr):Pap (upd (upd H u (.tup (trV t))) l (.lst (xs.map V.ref++[V.ref u]))) l (xs++[u]) (xQ tr u t)∧(xs++[u]).map (xQ tr u t)=xs.map tr++[t]:=by
 have hn:u∉xs:=λh=>by have:=p.hx u h;rw[hu]at this;cases this
 have e:xQ tr u t u=t:=if_pos rfl;refine⟨⟨by rw[ag,MV];rfl,λx h=>?_⟩,by rw[MV,ux hn,List.map_singleton,e]⟩;rcases MS.mp h with g|g
 ·have hx:=p.hx x g
  rw[ab (av hx p.hl (by intro z;cases z)),show xQ tr u t x=tr x from if_neg λz=>hn (by rw[←z];exact g)];exact ay.upd hu _ _ hx
 ·rw[MO.mp g,e]
  have nl:u≠l:=λz=>by rw[z,p.hl]at hu;cases hu
  rw[ab nl,ag]
theorem o5{rs:List (Option Int)}{ks:Fs}(rt:Rt rs ks):∀ {ts:List Tr} {a m:List Int},(∀ x∈a,x∈keys ks)→Runs rs ks a ts m→∀ x∈m,x∈keys ks
 | [],a,m,h,r=>by
  cases r;exact h
 | t::ts,a,m,h,r=>by
  cases r with
  | cons s r =>
   refine o5 rt (λx hx=>?_) r;rcases MS.mp hx with g|g
   ·exact h x g
   ·rw[MO.mp g]
    exact wR rt h s.2.2
theorem wU{rs:List (Option Int)}{ks:Fs}{ts:List Tr}{m:List Int}(r:Runs rs ks [] ts m):ts.length=m.length:=by
 have:=congrArg List.length (el r)
 simpa using this.symm
theorem kE{rs:List (Option Int)}{ks:Fs}(rt:Rt rs ks){ts:List Tr}{m:List Int}(r:Runs rs ks [] ts m):m.length≤200:=by
 have:=jo (kD OA r) (o5 rt (a:=[]) (λx h=>nomatch h) r)
 have:=rt.kl
 have kk:(keys ks).length=ks.length:=MN _;omega
theorem qY{rs:List (Option Int)}{ks:Fs}{xs:List Addr}{tr:Addr→Tr}{m:List Int}(hR:Runs rs ks [] (xs.map tr) m):(xs.map λx=>oV (tr x).1)=m.map V.int:=by
 have h:=el hR;rw[Oy,Pj,Ny]at h;have h2:=congrArg (List.map oV) h;rw[Ny,Ny]at h2;exact h2.symm
end
section
variable{P:Program}{w:World}{K:W.Frag}{mg:Str→Option Value}{base:Heap}
theorem Bo{kvs:List (Key×V)}{k:Key}(v:V)(h:(cE kvs k).isSome=true):(putK kvs k v).map (·.1)=kvs.map (·.1):=by
 unfold putK;rw[gA,h,if_pos rfl,Ny];refine NG λp _=>?_;show(if p.1=k then(p.1,v) else p).1=p.1;split<;>rfl
theorem wV{H:Hp}{a:Addr}{kvs:List (Key×V)}{ms:List Int}(hs:H a=some (.dK kvs))(hk:kvs.map (·.1)=ms.map Sum.inl)(nd:ms.Nodup)(hl:ms.length≤1000)(n:Int) :
  ∃(Ca:List (Key×V)) (ms':List Int),jx H a (.int n) (.bl true) (upd H a (.dK Ca))∧Ca.map (·.1)=ms'.map Sum.inl∧ms'.Nodup∧(∀ k,k∈ms'↔k∈ms∨k=n)∧ms'.length≤ms.length+1:=by
 have lk:kvs.length=ms.length:=by
  have:=congrArg List.length hk
  simpa using this
 have hv:=eI hk n;have dp:=jx.k (k:=Sum.inl n) (v:=.bl true) hs (NQ (show kvs.length≤1000 by omega) (by decide));by_cases h:n∈ms
 ·rw[decide_eq_true h]at hv
  refine⟨putK kvs (Sum.inl n) (.bl true),ms,dp,by rw[Bo _ hv,hk],nd,λk=>⟨.inl,λz=>z.elim id λe=>by rw[e];exact h⟩,OF _⟩
 ·rw[decide_eq_false h]at hv
  have vn:cE kvs (Sum.inl n)=none:=by simpa using hv
  rw[dM _ vn]at dp;refine⟨_,ms++[n],dp,by rw[MV,hk,MV];rfl,?_,λk=>by rw[MS,MO],Nat.le_of_eq (by rw[M8,NV])⟩;rw[Of];refine⟨nd,by simp,λc hc b hb=>?_⟩;rw[MO.mp hb];exact λz=>h (by rw[←z];exact hc)
theorem DG{ms us:List Int}(nd:ms.Nodup)(pm:us.Perm ms)(pw:us.Pairwise (·≤·)):us.Pairwise (·< ·):=(pw.and (pm.nodup_iff.mpr nd)).imp λ⟨h1,h2⟩=>Int.lt_iff_le_and_ne.mpr ⟨h1,h2⟩
theorem yJ(us:List Int):us.map V.int=(us.map some).map oV:=by rw[Ny];rfl
noncomputable def m7(K:W.Frag):Sp:=λvs H Q _=>∃(v r d b:Addr) (rs:List (Option Int)) (bs:List Int),vs=[.ref v,.ref b]∧SqT K H v [.ref r,.ref d]∧H r=some (.lst (rs.map oV))∧rs.length≤90∧H b=some (.lst (bs.map V.int))∧bs.length≤200∧(∀ ms:List Int,ms.Nodup→(∀ m∈ms,m∈bs)→ms.length<64) ∧
 ∀(v' r':Addr) (us:List Int) (H':Hp),ay H H'→H' v'=some (.tup [.ref r',.ref d])→H' r'=some (.lst ((rs++us.map some).map oV))→us.Pairwise (·< ·)→(∀ k,k∈us↔k∈bs)→Q (.ref v') H'
theorem Iv:au ["view", "read", "given_back", "thing"] ["view", "read"] (aj yF):=⟨rfl,rfl,rfl,by decide +kernel,rfl,by decide +kernel,by decide +kernel⟩
theorem z7{f:Addr}{fd:FuncData}(F:Fun K "rooted_view" "rooted_view" yF f fd)(zs:mg "sorted" = none):cL P w K mg base (CXE P w) 1 f fd ["view", "read"] (m7 K):=by
 refine F.okE Iv (λvs H Q E h=>?_) (λcdv A outer s H vs Q E hr h=>?_)
 ·obtain⟨v,r,d,b,rs,bs,rfl,_⟩:=h
  rfl
 ·obtain⟨v,r,d,b,rs,bs,rfl,ht,hr0,hz,hb,hy,h64,k⟩:=h
  have hu:=b7 hr;refine⟨_,PSs.nox (ai (aD (i:=2) Iv.nd rfl (Or.inl rfl) bY)
   (ai (bF Nl rfl (a9 (pv 1)) (aN (i:=3) Iv.nd rfl (Or.inl rfl)) (ak (cH hu (pv 2) (pv 3) dR rfl)))
   (ak (aG (dU (aa (aT EX (a7 aX (pv 0) ar (λ_ _=>rfl)) (aP (lY rfl) rfl zs PyProof.Rows.Boot.«sorted» (aa (pv 2) aq))) (aa (a7 aX (pv 0) ar (λ_ _=>rfl)) aq))))))),?_⟩
  refine λa ha=>?_;have s0:ay H (upd H a (.dK [])):=ay.upd ha;refine⟨_,rfl,b,rfl,⟨_,SqL.of (s0 _ _ hb)⟩,cg (K:=K) (a:=b) (xs:=bs.map V.int) (λi σ H2=>∃(v3:Option V) (kvs:List (Key×V)) (ms:List Int),σ=[some (.ref v),some (.ref b),some (.ref a),v3]∧ay H H2∧H2 a=some (.dK kvs)∧kvs.map (·.1)=ms.map Sum.inl∧ms.Nodup∧ms.length≤i∧∀ k,k∈ms↔k∈bs.take i)
   ⟨none,[],[],rfl,s0,ag,rfl,OA,MR _,λk=>Iff.rfl⟩ (λi σ H2 _ ⟨_,_,_,_,s2,_⟩=>SqL.of (s2 _ _ hb)) ?_ ?_⟩
  ·rintro i y σ H2 hy' ⟨v3,kvs,ms,rfl,s2,z2,hk,nd,ml,hm⟩
   have hlt:i<bs.length:=(by have:=(MQ.mp hy').1;rwa[MN]at this);have tk:bs.take (i+1)=bs.take i++[bs[i]]:=MT hlt;have hxe:y=.int bs[i]:=by
    rw[MY,MP hlt]at hy';exact(Nf hy').symm
   subst hxe;obtain⟨Ca,ms',dp,hk',nd',hm',ml'⟩:=wV z2 hk nd (by omega) bs[i];refine⟨_,rfl,_,rfl,a,_,rfl,dp,_,Ca,ms',rfl,λc u g=>by rw[ab (ao g ha)];exact s2 c u g,ag,hk',nd',by omega,λk=>?_⟩;rw[hm',hm,tk,MS,MO]
  ·rintro σ H2 ⟨v3,kvs,ms,rfl,s2,z2,hk,nd,ml,hm⟩
   rw[MN]at ml;rw[MN,MW (MR _)]at hm;refine⟨_,rfl,v,_,0,.ref r,rfl,rfl,cp ht s2,rfl,_,rfl,a,kvs,ms,rfl,.inl z2,hk,h64 ms nd (λm h=>(hm m).mp h),λq us hq pm pw=>?_⟩;have s3:=s2.trans (ay.upd (o:=.lst (us.map V.int)) hq);have ul:us.length≤200:=(by rw[pm.length_eq];omega);refine⟨r,q,rs.map oV,us.map V.int,rfl,rfl,s3 _ _ hr0,ag,Nh (show(rs.map oV).length+(us.map V.int).length≤400 by rw[MN,MN];omega) (by decide),λr' hr'=>?_⟩;rw[yJ,←MV];have s4:=s3.trans (ay.upd (o:=.lst ((rs++us.map some).map oV)) hr');rw[yJ]at s4;refine⟨_,rfl,v,_,1,.ref d,rfl,rfl,cp ht s4,rfl,by show 2≤sizeLine;decide,λv' hv'=>?_⟩;exact k v' r' us _ (s4.trans (ay.upd hv')) ag (ay.upd hv' _ _ ag) (DG nd pm pw) λk=>pm.mem_iff.trans (hm k)
noncomputable def Gn(ks:Fs)(ts:List Tr)(gs:List Int):Prop:=gs.Pairwise (·< ·)∧∀ t,t∈gs↔t∈keys ks∧some t∉ts.map (·.1)
theorem Gn.one{ks:Fs}{ts:List Tr}{a b:List Int}(h1:Gn ks ts a)(h2:Gn ks ts b):a=b:=gB h1.1 h2.1 λk=>(h1.2 k).trans (h2.2 k).symm
noncomputable def ju(K:W.Frag):Sp:=λvs H Q _=>∃(v r d l:Addr) (o:Obj) (ad:Int→Addr) (rs:List (Option Int)) (ks:Fs) (xs:List Addr) (tr:Addr→Tr),vs=[.ref v,.ref l]∧SqT K H v [.ref r,.ref d]∧Vw H r d o ad rs ks∧Rt rs ks∧Pap H l xs tr∧xs.length≤200∧(∀ x∈xs,∃ n,(tr x).1=some n) ∧
 ∀(q:Addr) (ws:List Int) (H':Hp),ay H H'→H q=none→H' q=some (.lst (ws.map V.int))→Gn ks (xs.map tr) ws→Q (.ref q) H'
noncomputable abbrev NT:List Str:=["view", "triples", "kept", "triple"]
theorem Iw:au NT ["view", "triples"] (aj jk):=⟨rfl,rfl,rfl,by decide +kernel,rfl,by decide +kernel,by decide +kernel⟩
noncomputable abbrev Ku:Scope:=qV (Ez ((aw jk).getD 2 (.Pass ⟨0,0,0,0⟩)))
theorem cT:sR (aj jk) Ku "t" ["kept"] NT [2]:=by decide +kernel
theorem xR{f:Addr}{fd:FuncData}(F:Fun K "things_without" "things_without" jk f fd)(zs:mg "sorted" = none):cL P w K mg base (CXE P w) 1 f fd ["view", "triples"] (ju K):=by
 refine F.okE Iw (λvs H Q E h=>?_) (λcdv A outer s H vs Q E hr h=>?_)
 ·obtain⟨v,r,d,l,o,ad,rs,ks,xs,tr,rfl,_⟩:=h
  rfl
 ·obtain⟨v,r,d,l,o,ad,rs,ks,xs,tr,rfl,ht,hv,rt,pap,xl,hwh,k⟩:=h
  have hu:=b7 hr;have co:fU (cxE P w K mg base NT "things_without" (aj jk) f cdv A outer s H E).nox Ku [("kept",s.heap.objs.size+1)] "t" [2] ["t", "kept"] :=
   cB rfl rfl rfl cT rfl rfl (by intro q hq;rw[MO.mp hq];rfl)
  refine⟨_,PSs.nox (ai (aD (i:=2) Iw.nd rfl (Or.inr rfl) bY)
   (ai (bF Nl rfl (a9 (pv 1)) (aN (i:=3) Iw.nd rfl (Or.inl rfl)) (ak (cH hu (pv 2) (a7 aX (pv 3) ar (λ_ _=>rfl)) dR rfl)))
   (ak (aG (rE co rfl (a9 (aP (dF rfl) rfl zs PyProof.Rows.Boot.«sorted» (aa (a7 aX (pv 0) ar (λ_ _=>rfl)) aq))) (λC fp s₀ H₀=>cR (bV hu (pv 0) (pv 1)) (by with_unfolding_all rfl)) (λC fp s₀ H₀=>pv 0)))))),?_⟩
  refine λa ha=>?_;have s0:ay H (upd H a (.dK [])):=ay.upd ha;refine⟨_,rfl,l,rfl,⟨_,SqL.of (s0 _ _ pap.hl)⟩,cg (K:=K) (a:=l) (xs:=xs.map V.ref) (λi σ H2=>∃(v3:Option V) (kvs:List (Key×V)) (ms:List Int),σ=[some (.ref v),some (.ref l),some (.ref a),v3]∧ay H H2∧H2 a=some (.dK kvs)∧kvs.map (·.1)=ms.map Sum.inl∧ms.Nodup∧ms.length≤i∧∀ k,k∈ms↔some k∈((xs.take i).map tr).map (·.1))
   ⟨none,[],[],rfl,s0,ag,rfl,OA,MR _,λk=>by simp⟩ (λi σ H2 _ ⟨_,_,_,_,s2,_⟩=>SqL.of (s2 _ _ pap.hl)) ?_ ?_⟩
  ·rintro i y σ H2 hy' ⟨v3,kvs,ms,rfl,s2,z2,hk,nd,ml,hm⟩
   have hlt:i<xs.length:=(by have:=(MQ.mp hy').1;rwa[MN]at this);have tk:xs.take (i+1)=xs.take i++[xs[i]]:=MT hlt;have hxe:y=.ref xs[i]:=by
    rw[MY,MP hlt]at hy';exact(Nf hy').symm
   subst hxe;obtain⟨n,en⟩:=hwh _ (NK hlt);have hxi:=s2 _ _ (pap.hx _ (NK hlt));obtain⟨Ca,ms',dp,hk',nd',hm',ml'⟩:=wV z2 hk nd (by omega) n;refine⟨_,rfl,_,rfl,xs[i],_,0,oV (tr xs[i]).1,rfl,rfl,SqT.of hxi,rfl,a,_,rfl,(by rw[en];exact dp),_,Ca,ms',rfl,λc u g=>by rw[ab (ao g ha)];exact s2 c u g,ag,hk',nd',by omega,λk=>?_⟩;rw[hm',hm,tk,MV,MV,MS];show _↔_∨some k∈[(tr xs[i]).1];rw[en,MO];exact⟨λz=>z.imp id λe=>by rw[e],λz=>z.imp id λe=>by injection e⟩
  ·rintro σ H2 ⟨v3,kvs,ms,rfl,s2,z2,hk,nd,ml,hm⟩
   rw[MN,MW (MR _)]at hm;have v2:=hv.same s2;have kl:=rt.kl;have kk:(keys ks).length=ks.length:=MN _;refine⟨_,rfl,v,_,1,.ref d,rfl,rfl,cp ht s2,rfl,d,kvl ad ks,keys ks,rfl,CF v2,mZ ad ks,by omega,rt.asc.imp (λh=>NZ h),λq hq=>?_⟩;obtain⟨us,eus⟩:∃ us,keys ks=us:=⟨_,rfl⟩;have pm:us.Perm (keys ks):=(by rw[eus]);have rise:us.Pairwise (·< ·):=(by rw[←eus];exact rt.asc);rw[eus];have s3:=ay.upd (o:=.lst (us.map V.int)) hq;have ul:us.length≤200:=(by rw[pm.length_eq];omega);refine⟨q,rfl,⟨_,SqL.of ag⟩,λD hD=>?_⟩;refine fu (K:=K) (a:=q) (xs:=us.map V.int) (λm ys H5=>ys=((us.take m).filter λt=>!decide (t∈ms)).map V.int∧ay (upd H2 q (.lst (us.map V.int))) H5∧H5 D=some (.lst ys)) ⟨rfl,ay.upd hD,ag⟩ (λm ys H5 hm' ⟨e,_,z⟩=>⟨z,?_⟩)
    (λm ys H5 _ ⟨_,s5,_⟩=>SqL.of (s5 _ _ ag)) (Nh (show(us.map V.int).length≤200 by rw[MN];exact ul) (by decide)) (λm x ys H5 hx ⟨e,s5,z⟩=>?_) (λys H5 ⟨e,s5,z⟩=>?_)
   ·rw[e,MN]
    exact Nh (NF _ _) (by rw[MZ];omega)
   ·have hlm:m<us.length:=by have:=(MQ.mp hx).1;rwa[MN]at this
    have tm:us.take (m+1)=us.take m++[us[m]]:=MT hlm;have hxe:x=.int us[m]:=by
     rw[MY,MP hlm]at hx;exact(Nf hx).symm
    subst hxe;refine⟨_,rfl,_,rfl,a,_,rfl,eK.k (k:=Sum.inl us[m]) (s5 _ _ (s3 _ _ z2)),_,rfl,?_⟩;rw[eI hk];by_cases h:us[m]∈ms
    ·rw[decide_eq_true h]
     refine b8 ⟨?_,s5,z⟩;rw[tm,NJ,MV,e,List.filter_cons_of_neg (p:=λt=>!decide (t∈ms)) (by simp[h])];simp
    ·rw[decide_eq_false h]
     refine dt ⟨_,rfl,z,?_,λb u q=>by rw[ab (ao q hD)];exact s5 b u q,ag⟩;rw[tm,NJ,MV,e,List.filter_cons_of_pos (p:=λt=>!decide (t∈ms)) (by simp[h])];rfl
   ·rw[MN,MW (MR _)]at e
    subst e;refine k D _ H5 ((s2.trans s3).trans s5) ((s2.trans s3).free hD) z ⟨rise.sublist NW,λt=>?_⟩;rw[NA,pm.mem_iff,←hm t];simp
noncomputable def yK(K:W.Frag):Sp:=λvs H Q _=>∃(v r d b p l g:Addr) (o:Obj) (ad:Int→Addr) (rs:List (Option Int)) (ks:Fs) (bs us:List Int) (xs:List Addr) (tr:Addr→Tr) (gs:List Int),vs=[.ref v,.ref b,.ref p]∧SqT K H v [.ref r,.ref d]∧Vw H r d o ad rs ks∧Rt rs ks∧Rt (rs++us.map some) ks ∧
 H b=some (.lst (bs.map V.int))∧bs.length≤200∧(∀ ms:List Int,ms.Nodup→(∀ m∈ms,m∈bs)→ms.length<64)∧us.Pairwise (·< ·)∧(∀ k,k∈us↔k∈bs)∧SqT K H p [.ref l,.ref g]∧Pap H l xs tr∧xs.length≤63∧H g=some (.lst (gs.map V.int))∧gs.length≤200 ∧
 ∀(b:Bool) (H':Hp),ay H H'→(b=true↔Jd (rs++us.map some) ks (xs.map tr)∧Gn ks (xs.map tr) gs)→Q (.bl b) H'
theorem Kv:au ["view", "read", "paper", "rooted"] ["view", "read", "paper"] (aj BZ):=⟨rfl,rfl,rfl,by decide +kernel,rfl,by decide +kernel,by decide +kernel⟩
theorem Bp{f fR fJ fW:Addr}{fd fdR fdJ fdW:FuncData}(F:Fun K "round_judged" "round_judged" BZ f fd)(zl:mg "list" = none)
  (GR:cL P w K mg base (CXE P w) 1 fR fdR ["view", "read"] (m7 K)) (mR:mg "rooted_view" = some (.ref fR)) (kR:PySem.W.keepIn K (.ref fR)=true) (bR:Binds K fdR ["view", "read"] [])
  (GJ:cL P w K mg base (CXE P w) 3 fJ fdJ ["view", "triples"] (rK K)) (mJ:mg "paper_judged" = some (.ref fJ)) (kJ:PySem.W.keepIn K (.ref fJ)=true) (bJ:Binds K fdJ ["view", "triples"] [])
  (GW:cL P w K mg base (CXE P w) 1 fW fdW ["view", "triples"] (ju K)) (mW:mg "things_without" = some (.ref fW)) (kW:PySem.W.keepIn K (.ref fW)=true) (bW:Binds K fdW ["view", "triples"] []):cL P w K mg base (CXE P w) 4 f fd ["view", "read", "paper"] (yK K):=by
 refine F.okE Kv (λvs H Q E h=>?_) (λcdv A outer s H vs Q E hr h=>?_)
 ·obtain⟨v,r,d,b,p,l,g,o,ad,rs,ks,bs,us,xs,tr,gs,rfl,_⟩:=h
  rfl
 ·obtain⟨v,r,d,b,p,l,g,o,ad,rs,ks,bs,us,xs,tr,gs,rfl,ht,hv,rt,rt2,hb,hbl,h64,upw,umm,hp,pap,xl,hg,gl,k⟩:=h
  have hu:=b7 hr;have hu0:=Nat.lt_of_succ_lt hu;have r1:=hr.mono (show 1≤3 by decide);refine⟨_,PSs.nox (ai (aD (i:=3) Kv.nd rfl (Or.inl rfl) (bG GR r1 rfl mR kR bR .nil aV (aa (pv 0) (aa (pv 1) aq))))
   (ak (aG (rP (bG GJ hr rfl mJ kJ bJ .nil aV (aa (pv 3) (aa (a7 aX (pv 2) ar (λ_ _=>rfl)) aq)))
    (rO (jv (Ff hu0) (cM cK rfl zl PyProof.Rows.Boot.«list» (aa (a7 aX (pv 2) ar (λ_ _=>rfl)) aq)) (bG GW r1 rfl mW kW bW .nil aV (aa (pv 0) (aa (a7 aX (pv 2) ar (λ_ _=>rfl)) aq))) (aO _))))))),?_⟩
  have rl:=rt.rl;refine⟨_,rfl,_,rfl,v,r,d,b,rs,bs,rfl,ht,hv.hr,rl,hb,hbl,h64,λv' r' us' H1 s1 hv1 hr1 pw1 mm1=>?_⟩;have eu:us'=us:=gB pw1 upw λk=>(mm1 k).trans (umm k).symm;subst eu;have vv:Vw H1 r' d o ad (rs++us'.map some) ks:=⟨hr1,(hv.same s1).hd,(hv.same s1).hl⟩;have Kw:=pap.same s1;refine⟨_,rfl,_,rfl,p,_,0,.ref l,rfl,rfl,cp hp s1,rfl,v',r',d,l,o,ad,rs++us'.map some,ks,xs,tr,rfl,SqT.of hv1,vv,rt2,Kw.hl,Kw.hx,xl,λb1 H2 s2 hb1=>⟨_,rfl,bu (λhc=>?_) (λhc=>?_)⟩⟩
  ·have s2':=s1.trans s2
   obtain⟨m,hR,_⟩:=hb1.mp hc;have hth:=qY hR;refine⟨_,rfl,p,_,1,.ref g,rfl,rfl,cp hp s2',rfl,g,_,rfl,.inl (SqL.of (s2' _ _ hg)),λq hq=>?_⟩;have s3:=s2'.trans (ay.upd (o:=.lst (gs.map V.int)) hq);refine⟨_,rfl,_,rfl,p,_,0,.ref l,rfl,rfl,cp hp s3,rfl,v,r,d,l,o,ad,rs,ks,xs,tr,rfl,cp ht s3,hv.same s3,rt,pap.same s3,(by omega),λx hx=>?_,λq2 ws H4 s4 hq2 z4 hG=>?_⟩
   ·have h1:oV (tr x).1∈m.map V.int:=by rw[←hth];exact Nc.mpr ⟨x,hx,rfl⟩
    obtain⟨n,_,e⟩:=Nc.mp h1;cases ht1:(tr x).1 with
    | none=>rw[ht1]at e;exact nomatch (show V.int n=V.non from e)
    | some n=>exact⟨n,rfl⟩
   ·refine⟨q,q2,gs,ws,rfl,rfl,SqL.of (s4 _ _ ag),SqL.of z4,k _ H4 (s3.trans s4) ?_⟩
    rw[decide_eq_true_eq];exact⟨λe=>⟨hb1.mp hc,by rw[e];exact hG⟩,λ⟨_,e⟩=>e.one hG⟩
  ·have hc:b1=false:=by simpa using hc
   subst hc;exact k false H2 (s1.trans s2) ⟨λz=>absurd z (by decide),λz=>absurd (hb1.mpr z.1) (by decide)⟩
end
theorem Kx:au ["view", "steps"] ["view"] (aj sO):=⟨rfl,rfl,rfl,by decide +kernel,rfl,by decide +kernel,by decide +kernel⟩
theorem Iy:au ["view", "read", "rooted", "triples"] ["view", "read"] (aj BY):=⟨rfl,rfl,rfl,by decide +kernel,rfl,by decide +kernel,by decide +kernel⟩
theorem oK{d:Addr}{o:Obj}{kvs:List (Key×V)}{te:TE}{Q:VK}{D:Addr}{τ:St}{H:Hp}(Pv:Nat→List V→Hp→Prop)(h0:Pv 0 [] H)(hD:∀ i ys H,i≤kvs.length→Pv i ys H→H D=some (.lst ys)∧ys.length=i)(hl:∀ i ys H,i≤kvs.length→Pv i ys H→H d=some (.frz o (.dK kvs)))(hn:kvs.length≤sizeLine)
  (hs:∀ i p ys H,kvs[i]?=some p→Pv i ys H→te (some (kV p.1)::τ) H λv H4=>H4 D=some (.lst ys)∧Pv (i+1) (ys++[v]) (upd H4 D (.lst (ys++[v])))) (hd:∀ ys H,Pv kvs.length ys H→Q (.ref D) H):uW (Itd d o kvs) D τ te Q H:=by
 refine⟨λi m ys H=>m=kvs.length-i∧i≤kvs.length∧Pv i ys H,⟨kvs.length,by simp,NH _,h0⟩,?_⟩;rintro i m ys H2 ⟨rfl,hi,p⟩;obtain⟨d1,d2⟩:=hD i ys H2 hi p;refine⟨d1,?_⟩;have hS:=hl i ys H2 hi p;by_cases hlt:i<kvs.length
 ·refine .inr ⟨⟨hS,hlt⟩,by omega,Pv (i+1),λzs H' p'=>⟨kvs.length-(i+1),by omega,rfl,hlt,p'⟩,λy H3 q=>?_⟩
  obtain⟨e1,q',e2,e3⟩:=q;subst e1 e3;exact hs i q' ys _ e2 p
 ·have e:i=kvs.length:=by omega
  subst e;exact .inl ⟨⟨hS,MR _⟩,hd ys H2 p⟩
section
variable{P:Program}{w:World}{K:W.Frag}{mg:Str→Option Value}{base:Heap}
noncomputable def kvS(ua:Int→Addr)(ms:List Int):List (Key×V):=ms.map λt=>(Sum.inl t,V.ref (ua t))
noncomputable def tsS(tf:Int→Option Int×Option Int)(ms:List Int):List Tr:=ms.map λt=>(some t,(tf t).1,(tf t).2)
theorem jm(ua:Int→Addr)(ms:List Int):(kvS ua ms).map (·.1)=ms.map Sum.inl:=by
 unfold kvS;rw[Ny];rfl
noncomputable def Cb(ua:Int→Addr)(n:Int)(u:Addr):Int→Addr:=λk=>if k=n then u else ua k
noncomputable def dz(tf:Int→Option Int×Option Int)(n:Int)(x:Option Int×Option Int):Int→Option Int×Option Int:=λk=>if k=n then x else tf k
structure Stp(H:Hp)(st:Addr)(ua:Int→Addr)(tf:Int→Option Int×Option Int)(ms:List Int):Prop where
 hs:H st=some (.dK (kvS ua ms))
 hu:∀ t∈ms,H (ua t)=some (.tup [oV (tf t).1,oV (tf t).2])
theorem Stp.same{H H':Hp}{st:Addr}{ua:Int→Addr}{tf:Int→Option Int×Option Int}{ms:List Int}(p:Stp H st ua tf ms)(s:ay H H'):Stp H' st ua tf ms:=⟨s _ _ p.hs,λt h=>s _ _ (p.hu t h)⟩
theorem Stp.other{H:Hp}{st m:Addr}{ua:Int→Addr}{tf:Int→Option Int×Option Int}{ms:List Int}{ys zs:List V}(p:Stp H st ua tf ms)(hm:H m=some (.lst ys)):Stp (upd H m (.lst zs)) st ua tf ms :=
 ⟨(ab (av p.hs hm (by intro z;cases z))).trans p.hs,λt h=>(ab (av (p.hu t h) hm (by intro z;cases z))).trans (p.hu t h)⟩
theorem Stp.add{H:Hp}{st:Addr}{ua:Int→Addr}{tf:Int→Option Int×Option Int}{ms:List Int}(p:Stp H st ua tf ms){u:Addr}(hu:H u=none){n:Int}(hn:n∉ms)(hl:ms.length≤1000)(x:Option Int×Option Int) :
  jx (upd H u (.tup [oV x.1,oV x.2])) st (.int n) (.ref u) (upd (upd H u (.tup [oV x.1,oV x.2])) st (.dK (kvS (Cb ua n u) (ms++[n]))))∧Stp (upd (upd H u (.tup [oV x.1,oV x.2])) st (.dK (kvS (Cb ua n u) (ms++[n])))) st (Cb ua n u) (dz tf n x) (ms++[n])∧tsS (dz tf n x) (ms++[n])=tsS tf ms++[(some n,x.1,x.2)]:=by
 have hz:=ay.upd (o:=.tup [oV x.1,oV x.2]) hu _ _ p.hs;have e1:kvS (Cb ua n u) (ms++[n])=kvS ua ms++[(Sum.inl n,V.ref u)]:=by
  unfold kvS;rw[MV];congr 1
  ·refine NG λt ht=>?_
   show(Sum.inl t,V.ref (if t=n then u else ua t))=_;rw[if_neg λz=>hn (by rw[←z];exact ht)]
  ·show[(Sum.inl n,V.ref (if n=n then u else ua n))]=_
   rw[if_pos rfl]
 have vn:cE (kvS ua ms) (Sum.inl n)=none:=by
  have:=eI (jm ua ms) n
  rw[decide_eq_false hn]at this;simpa using this
 have lk:(kvS ua ms).length=ms.length:=by unfold kvS;rw[MN]
 refine⟨?_,⟨ag,λt h=>?_⟩,?_⟩
 ·rw[e1,←dM (.ref u) vn]
  exact jx.k (k:=Sum.inl n) hz (NQ (show(kvS ua ms).length≤1000 by omega) (by decide))
 ·have nt:∀ {a:Addr} {xs:List V},upd H u (.tup [oV x.1,oV x.2]) a=some (.tup xs)→a≠st:=λg=>av g hz (by intro z;cases z)
  by_cases e:t=n
  ·subst e
   show upd _ st _ (if t=t then u else ua t)=some (.tup [oV (if t=t then x else tf t).1,oV (if t=t then x else tf t).2]);rw[if_pos rfl,if_pos rfl,ab (nt ag),ag]
  ·have ht:t∈ms:=by
    rcases MS.mp h with g|g
    ·exact g
    ·exact absurd (MO.mp g) e
   have h2:=ay.upd (o:=.tup [oV x.1,oV x.2]) hu _ _ (p.hu t ht);show upd _ st _ (if t=n then u else ua t)=some (.tup [oV (if t=n then x else tf t).1,oV (if t=n then x else tf t).2]);rw[if_neg e,if_neg e,ab (nt h2)];exact h2
 ·unfold tsS
  rw[MV];congr 1
  ·refine NG λt ht=>?_
   show(some t,(if t=n then x else tf t).1,(if t=n then x else tf t).2)=_;rw[if_neg λz=>hn (by rw[←z];exact ht)]
  ·show[(some n,(if n=n then x else tf n).1,(if n=n then x else tf n).2)]=_
   rw[if_pos rfl]
noncomputable def stepT(o:Option Int)(i:Nat)(x:Option Int)(acc:List Tr):List Tr:=match x with
 | none=>acc
 | some n=>if some n∈acc.map (·.1) then acc else acc++[(some n,o,some (i:Int))]
noncomputable def iF(o:Option Int):Nat→List (Option Int)→List Tr→List Tr
 | _,[],acc=>acc
 | k,x::r,acc=>iF o (k+1) r (stepT o k x acc)
theorem mD(o:Option Int)(x:Option Int):∀(l:List (Option Int)) (k:Nat) (acc:List Tr),iF o k (l++[x]) acc=stepT o (k+l.length) x (iF o k l acc)
 | [],k,acc=>rfl
 | y::l,k,acc=>by
  show iF o (k+1) (l++[x]) (stepT o k y acc)=stepT o (k+(l.length+1)) x (iF o (k+1) l (stepT o k y acc));rw[mD o x l (k+1),show k+1+l.length=k+(l.length+1) by omega]
theorem qZ{o:Option Int}{fs:List (Option Int)}{i:Nat}(hi:i<fs.length)(acc:List Tr):iF o 0 (fs.take (i+1)) acc=stepT o i fs[i] (iF o 0 (fs.take i) acc):=by
 rw[MT hi,mD,MZ,Nat.zero_add,O7 (OP hi)]
noncomputable def bfs(ks:Fs):Nat→Nat→List Tr→List Tr
 | 0,_,acc=>acc
 | f+1,dn,acc=>match acc[dn]? with
  | none=>acc
  | some t=>bfs ks f (dn+1) (iF t.1 0 (cQ ks (t.1.getD 0)) acc)
theorem DH{ks:Fs}{f dn:Nat}{acc:List Tr}(h:acc.length≤dn):bfs ks f dn acc=acc:=by
 cases f with
 | zero=>rfl
 | succ f =>
  show(match acc[dn]? with|none=>acc|some t=>_)=acc
  rw[List.getElem?_eq_none h]
theorem Fz{ks:Fs}{f dn:Nat}{acc:List Tr}{t:Tr}(h:acc[dn]?=some t):bfs ks (f+1) dn acc=bfs ks f (dn+1) (iF t.1 0 (cQ ks (t.1.getD 0)) acc):=by
 show(match acc[dn]? with|none=>acc|some t=>_)=_
 rw[h]
noncomputable def oy(rs:List (Option Int))(ks:Fs):List Tr:=bfs ks 201 0 (iF none 0 rs [])
theorem yL{tf:Int→Option Int×Option Int}{ms:List Int}{n:Int}:some n∈(tsS tf ms).map (·.1)↔n∈ms:=by
 unfold tsS;rw[Ny,Nc];exact⟨λ⟨x,hx,e⟩=>by injection e with e;rw[←e];exact hx,λh=>⟨n,h,rfl⟩⟩
theorem yM{o:Option Int}{i:Nat}{n:Int}{tf:Int→Option Int×Option Int}{ms:List Int}(h:n∈ms):stepT o i (some n) (tsS tf ms)=tsS tf ms:=if_pos (yL.mpr h)
theorem wW{o:Option Int}{i:Nat}{n:Int}{tf:Int→Option Int×Option Int}{ms:List Int}(h:n∉ms):stepT o i (some n) (tsS tf ms)=tsS tf ms++[(some n,o,some (i:Int))]:=if_neg λz=>h (yL.mp z)
noncomputable def uK(K:W.Frag):Sp:=λvs H Q _=>∃(v r d:Addr) (o:Obj) (ad:Int→Addr) (rs:List (Option Int)) (ks:Fs),vs=[.ref v]∧SqT K H v [.ref r,.ref d]∧Vw H r d o ad rs ks∧Rt rs ks ∧
 ∀(st:Addr) (ua:Int→Addr) (tf:Int→Option Int×Option Int) (ms:List Int) (H':Hp),ay H H'→H st=none→Stp H' st ua tf ms→Runs rs ks [] (tsS tf ms) ms→(∀ n,some n∈rs→n∈ms)→Au ks ms→tsS tf ms=oy rs ks→Q (.ref st) H'
noncomputable abbrev NSt:List Str:=["view", "steps", "place", "thing", "met", "done"]
theorem xS:au NSt ["view"] (aj BW):=⟨rfl,rfl,rfl,by decide +kernel,rfl,by decide +kernel,by decide +kernel⟩
noncomputable def WS(H:Hp)(v st mt:Addr)(rs:List (Option Int))(ks:Fs)(m:Nat)(σ:St)(H4:Hp):Prop:=∃(dn:Nat) (v2 v3:Option V) (ua:Int→Addr) (tf:Int→Option Int×Option Int) (ms:List Int),m=201-dn∧σ=[some (.ref v),some (.ref st),v2,v3,some (.ref mt),some (.int (dn:Int))]∧ay H H4∧Stp H4 st ua tf ms∧H4 mt=some (.lst (ms.map V.int)) ∧
 Runs rs ks [] (tsS tf ms) ms∧(∀ n,some n∈rs→n∈ms)∧(∀ t∈ms.take dn,∀ n,some n∈cQ ks t→n∈ms)∧dn≤ms.length∧bfs ks (201-dn) dn (tsS tf ms)=oy rs ks
theorem Bq{f:Addr}{fd:FuncData}(F:Fun K "last_steps" "last_steps" BW f fd)(zl:mg "list" = none)(ze:mg "enumerate" = none)(zn:mg "len" = none):cL P w K mg base (CXE P w) 1 f fd ["view"] (uK K):=by
 refine F.okE xS (λvs H Q E h=>?_) (λcdv A outer s H vs Q E hr h=>?_)
 ·obtain⟨v,r,d,o,ad,rs,ks,rfl,_⟩:=h
  rfl
 ·obtain⟨v,r,d,o,ad,rs,ks,rfl,ht,hv,rt,k⟩:=h
  have hu:=b7 hr;refine⟨_,PSs.nox (ai (aD (i:=1) xS.nd rfl (Or.inl rfl) bY)
   (ai (bF Nl rfl (qJ rfl ze (aa (a7 aX (pv 0) ar (λ_ _=>rfl)) aq)) (rQ rfl (dc (aN (i:=2) xS.nd rfl (Or.inl rfl)) (dc (aN (i:=3) xS.nd rfl (Or.inl rfl)) nu)))
    (ak (a6 (PW.pt (pw_and (aE fY (pv 3) bK (aO _)) (pw_and1 (cR (bV hu (pv 3) (pv 1)) (by with_unfolding_all rfl))))) (ak (cH hu (pv 1) (pv 3) (dU (aa bK (aa (pv 2) aq))) rfl)) aI)))
   (ai (aD (i:=4) xS.nd rfl (Or.inl rfl) (cM (kz rfl) rfl zl PyProof.Rows.Boot.«list» (aa (pv 1) aq)))
   (ai (aD (i:=5) xS.nd rfl (Or.inl rfl) ar)
   (ai (wq Nl (aE km (pv 5) (aP bM rfl zn PyProof.Rows.Boot.«len» (aa (pv 4) aq)) (aO _))
    (ai (bF Nl rfl (qJ rfl ze (aa (cS hu (a7 aX (pv 0) ar (λ_ _=>rfl)) (a7 dr (pv 4) (pv 5) (λ_ _=>rfl)) (λ_ _=>rfl)) aq)) (rQ rfl (dc (aN (i:=2) xS.nd rfl (Or.inl rfl)) (dc (aN (i:=3) xS.nd rfl (Or.inl rfl)) nu)))
     (ak (a6 (PW.pt (pw_and (aE fY (pv 3) bK (aO _)) (pw_and1 (cR (bV hu (pv 3) (pv 1)) (by with_unfolding_all rfl)))))
      (ai (cH hu (pv 1) (pv 3) (dU (aa (a7 dr (pv 4) (pv 5) (λ_ _=>rfl)) (aa (pv 2) aq))) rfl)
      (ak (az (uT PySem.F.plainAttrs_list PySem.F.slot_list_append PySem.F.type_list_append gp (pv 4) (aa (pv 3) aq))))) aI)))
    (ak (Bw (i:=5) xS.nd rfl (Or.inl rfl) ar Bx))))
   (ak (aG (pv 1)))))))),?_⟩
  refine λst hst=>?_;have s0:ay H (upd H st (.dK [])):=ay.upd hst;have hr0:=s0 _ _ hv.hr;have small:∀ {ts:List Tr} {m:List Int},Runs rs ks [] ts m→m.length≤200:=λr=>kE rt r;refine⟨_,rfl,v,_,0,.ref r,rfl,rfl,cp ht s0,rfl,r,rfl,⟨_,SqL.of hr0⟩,mQ (K:=K) (a:=r) (xs:=rs.map oV) (λi σ H2=>∃(v2 v3:Option V) (ua:Int→Addr) (tf:Int→Option Int×Option Int) (ms:List Int),σ=[some (.ref v),some (.ref st),v2,v3,none,none]∧ay H H2∧Stp H2 st ua tf ms∧Runs rs ks [] (tsS tf ms) ms∧(∀ n,some n∈rs.take i→n∈ms)∧tsS tf ms=iF none 0 (rs.take i) [])
   ⟨none,none,λ_=>0,λ_=>(none,none),[],rfl,s0,⟨ag,λt h=>nomatch h⟩,.nil,(λn h=>nomatch h),rfl⟩ (λi σ H2 _ ⟨_,_,_,_,_,_,s2,_⟩=>SqL.of (s2 _ _ hv.hr)) ?_ ?_⟩
  ·rintro i x σ H2 t hx ⟨v2,v3,ua,tf,ms,rfl,s2,M,hR,eN,hfo⟩ htt
   have hlt:i<rs.length:=(by have:=(MQ.mp hx).1;rwa[MN]at this);have tk:rs.take (i+1)=rs.take i++[rs[i]]:=MT hlt;have hxe:x=oV rs[i]:=by
    rw[MY,MP hlt]at hx;exact(Nf hx).symm
   subst hxe;have s3:ay H2 (upd H2 t (.tup [.int (i:Int),oV rs[i]])):=ay.upd htt;have M3:=M.same s3;have ml:=small hR;refine⟨t,_,rfl,SqT.of ag,rfl,_,_,rfl,_,_,rfl,rfl,?_⟩;have fsn:=qZ (o:=none) hlt [];rw[←hfo]at fsn;rw[fsn,tk];have hat:rs[i]?=some rs[i]:=MP hlt;cases hc:rs[i] with
   | none =>
    rw[hc]at s3 M3;refine⟨_,rfl,rfl,_,rfl,b8 (b8 ⟨_,_,ua,tf,ms,rfl,s2.trans s3,M3,hR,λn hn=>?_,rfl⟩)⟩;rcases MS.mp hn with g|g
    ·exact eN n g
    ·exact nomatch (MO.mp g)
   | some n =>
    rw[hc]at s3 M3 hat;refine⟨_,rfl,rfl,_,rfl,dt ⟨_,rfl,_,rfl,st,_,rfl,eK.k (k:=Sum.inl n) M3.hs,_,rfl,?_⟩⟩;rw[eI (jm ua ms)];by_cases hin:n∈ms
    ·rw[decide_eq_true hin]
     refine b8 ⟨_,_,ua,tf,ms,rfl,s2.trans s3,M3,hR,λn' hn=>?_,(yM hin).symm⟩;rcases MS.mp hn with g|g
     ·exact eN n' g
     ·injection (MO.mp g) with g
      rw[g];exact hin
    ·rw[decide_eq_false hin]
     refine dt ⟨_,rfl,by show 2≤sizeLine;decide,λu hu'=>?_⟩;obtain⟨pd,M5,e5⟩:=M3.add hu' hin (by omega) (none,some (i:Int));refine⟨_,rfl,_,rfl,st,_,rfl,pd,_,_,_,_,ms++[n],rfl,λc u' g=>?_,M5,?_,λn' hn=>?_,by rw[e5,wW hin]⟩
     ·rw[ab (ao g hst)]
      exact ay.upd hu' _ _ (s3 _ _ (s2 c u' g))
     ·rw[e5]
      exact jt hR ⟨rfl,hin,i,rfl,hat⟩
     ·rcases MS.mp hn with g|g
      ·exact Nd _ (eN n' g)
      ·injection (MO.mp g) with g
       exact MX _ (by rw[g];exact MO.mpr rfl)
  ·rintro σ H2 ⟨v2,v3,ua,tf,ms,rfl,s2,M,hR,eN,hfo⟩
   rw[MN,MW (MR _)]at eN hfo;refine⟨_,rfl,st,kvS ua ms,ms,rfl,.inl M.hs,jm ua ms,λmt hmt=>?_⟩;have s3:=ay.upd (o:=.lst (ms.map V.int)) hmt;have Io:H mt=none:=s2.free hmt;refine⟨WS H v st mt rs ks,⟨201,0,v2,v3,ua,tf,ms,rfl,rfl,s2.trans s3,M.same s3,ag,hR,eN,(λt h=>nomatch h),NH _,by rw[hfo];rfl⟩,?_⟩;clear M hR eN s3 s2 hfo;rintro m σ H4 ⟨dn,v2,v3,ua,tf,ms,rfl,rfl,s4,M,zm,hR,hro,CG,hdl,hbf⟩;have ml:=small hR;have min:=o5 rt (a:=[]) (λx h=>nomatch h) hR;refine⟨_,rfl,_,rfl,mt,_,rfl,.inl (SqL.of zm),_,_,rfl,rfl,_,rfl,bu (λh=>?_) (λh=>?_)⟩
   ·have hlt:dn<ms.length:=by
     have h1:(dn:Int)<((ms.map V.int).length:Int):=(by simpa using h);rw[MN]at h1;omega
    refine⟨λσ' H'=>∃ m',m'<201-dn∧WS H v st mt rs ks m' σ' H',λ_ _ h=>h,?_⟩;have tk:ms.take (dn+1)=ms.take dn++[ms[dn]]:=MT hlt;obtain⟨t,et⟩:∃ t,ms[dn]=t:=⟨_,rfl⟩;have htm:t∈ms:=(by rw[←et];exact NK hlt);have hin:t∈keys ks:=min t htm;have hat:∀ ex:List Int,atI ((ms++ex).map V.int) (dn:Int)=some (.int t):=λex=>jw (by rw[MY,Oh hlt,MP hlt,et];rfl);have v4:=hv.same s4;obtain⟨f1,f2,f3⟩:=Ak v4 rt hin;obtain⟨acc,Ky⟩:∃ acc,tsS tf ms=acc:=⟨_,rfl⟩;have Mx:bfs ks (201-(dn+1)) (dn+1) (iF (some t) 0 (cQ ks t) acc)=oy rs ks:=by
     have hg:(tsS tf ms)[dn]?=some (some t,(tf t).1,(tf t).2):=by
      unfold tsS;rw[MY,MP hlt,et];rfl
     rw[show 201-dn=(201-(dn+1))+1 by omega,Fz hg,Ky]at hbf;exact hbf
    refine⟨_,rfl,v,_,1,.ref d,rfl,rfl,cp ht s4,rfl,_,rfl,_,rfl,mt,_,_,.int t,rfl,rfl,SqL.of zm,(by have:=hat [];rwa[N3]at this),d,_,rfl,jJ v4.hd hin,ad t,rfl,⟨_,SqL.of f1⟩,
     mQ (K:=K) (a:=ad t) (xs:=(cQ ks t).map oV) (λj σ H6=>∃(v2 v3:Option V) (ua:Int→Addr) (tf:Int→Option Int×Option Int) (ex:List Int),σ=[some (.ref v),some (.ref st),v2,v3,some (.ref mt),some (.int (dn:Int))]∧ay H H6∧Stp H6 st ua tf (ms++ex)∧H6 mt=some (.lst ((ms++ex).map V.int))∧Runs rs ks [] (tsS tf (ms++ex)) (ms++ex)∧(∀ n,some n∈(cQ ks t).take j→n∈ms++ex)∧tsS tf (ms++ex)=iF (some t) 0 ((cQ ks t).take j) acc)
     ⟨v2,v3,ua,tf,[],rfl,s4,by rw[N3];exact M,by rw[N3];exact zm,by rw[N3];exact hR,(λn h=>nomatch h),by rw[N3];exact Ky⟩ (λj σ H6 _ ⟨_,_,_,_,_,_,s6,_⟩=>SqL.of (Ak (hv.same s6) rt hin).1) ?_ ?_⟩
    ·rintro j x σ H6 u hx ⟨v2,v3,ua,tf,ex,rfl,s6,M6,zm6,hR6,eN,hfo⟩ hut
     have hlj:j<(cQ ks t).length:=(by have:=(MQ.mp hx).1;rwa[MN]at this);have tj:(cQ ks t).take (j+1)=(cQ ks t).take j++[(cQ ks t)[j]]:=MT hlj;have hxe:x=oV (cQ ks t)[j]:=by
      rw[MY,MP hlj]at hx;exact(Nf hx).symm
     subst hxe;have ml6:=small hR6;have Kz:(cQ ks t)[j]?=some (cQ ks t)[j]:=MP hlj;refine⟨u,_,rfl,SqT.of ag,rfl,_,_,rfl,_,_,rfl,rfl,?_⟩;have fsn:=qZ (o:=some t) hlj acc;rw[←hfo]at fsn;rw[fsn,tj];cases hc:(cQ ks t)[j] with
     | none =>
      have s7:=ay.upd (o:=.tup [.int (j:Int),oV none]) hut;refine⟨_,rfl,rfl,_,rfl,b8 (b8 ⟨_,_,ua,tf,ex,rfl,s6.trans s7,M6.same s7,s7 _ _ zm6,hR6,λn hn=>?_,rfl⟩)⟩;rcases MS.mp hn with g|g
      ·exact eN n g
      ·exact nomatch (MO.mp g)
     | some n =>
      rw[hc]at Kz;have s7:=ay.upd (o:=.tup [.int (j:Int),oV (some n)]) hut;have M7:=M6.same s7;refine⟨_,rfl,rfl,_,rfl,dt ⟨_,rfl,_,rfl,st,_,rfl,eK.k (k:=Sum.inl n) M7.hs,_,rfl,?_⟩⟩;rw[eI (jm ua _)];by_cases hn6:n∈ms++ex
      ·rw[decide_eq_true hn6]
       refine b8 ⟨_,_,ua,tf,ex,rfl,s6.trans s7,M7,s7 _ _ zm6,hR6,λn' hn=>?_,(yM hn6).symm⟩;rcases MS.mp hn with g|g
       ·exact eN n' g
       ·injection (MO.mp g) with g
        rw[g];exact hn6
      ·rw[decide_eq_false hn6]
       refine dt ⟨_,rfl,_,rfl,mt,_,_,.int t,rfl,rfl,SqL.of (s7 _ _ zm6),hat ex,_,rfl,by show 2≤sizeLine;decide,λu2 hu2=>?_⟩;obtain⟨pd,M9,e9⟩:=M7.add hu2 hn6 (by omega) (some t,some (j:Int));have s8:=ay.upd (o:=.tup [oV (some t),oV (some (j:Int))]) hu2;have zm8:=s8 _ _ (s7 _ _ zm6);have nms:mt≠st:=av zm8 (s8 _ _ M7.hs) (by intro z;cases z);have zm9:=(ab (o:=.dK (kvS (Cb ua n u2) (ms++ex++[n]))) nms).trans zm8;refine⟨_,rfl,_,rfl,st,_,rfl,pd,?_⟩;refine⟨_,rfl,.inl ⟨rfl,_,SqL.of zm9⟩,_,rfl,mt,_,_,rfl,rfl,zm9,NQ (show((ms++ex).map V.int).length≤200 by rw[MN];exact ml6) (by decide),?_⟩;refine⟨_,_,Cb ua n u2,dz tf n (some t,some (j:Int)),ex++[n],rfl,λc u' g=>?_,?_,?_,?_,λn' hn=>?_,by rw[←Ni,e9,wW hn6]⟩
       ·rw[ab (ao g Io),ab (ao g hst)]
        exact s8 _ _ (s7 _ _ (s6 c u' g))
       ·rw[←Ni]
        exact M9.other zm9
       ·rw[ag,←Ni,MV (l₁:=ms++ex)]
        rfl
       ·rw[←Ni,e9]
        exact jt hR6 ⟨rfl,hn6,Nd _ htm,j,rfl,Kz⟩
       ·rw[←Ni]
        rcases MS.mp hn with g|g
        ·exact Nd _ (eN n' g)
        ·injection (MO.mp g) with g
         exact MX _ (by rw[g];exact MO.mpr rfl)
    ·rintro σ H6 ⟨v2,v3,ua,tf,ex,rfl,s6,M6,zm6,hR6,eN,hfo⟩
     rw[MN,MW (MR _)]at eN hfo;have ml6:=small hR6;have fin:∃ m',m'<201-dn∧WS H v st mt rs ks m' [some (.ref v),some (.ref st),v2,v3,some (.ref mt),some (.int ((dn:Int)+1))] H6:=by
      refine⟨201-(dn+1),by rw[M8]at ml6;omega,dn+1,v2,v3,ua,tf,ms++ex,rfl,rfl,s6,M6,zm6,hR6,λn h=>Nd _ (hro n h),λc h n hn=>?_,by rw[M8];omega,by rw[hfo];exact Mx⟩;rw[O0 (by omega),tk,et]at h;rcases MS.mp h with g|g
      ·exact Nd _ (CG c g n hn)
      ·rw[MO.mp g]at hn
       exact eN n hn
     exact⟨_,rfl,_,1,rfl,rfl,fin⟩
   ·have hge:ms.length≤dn:=by
     have h1:¬(dn:Int)<((ms.map V.int).length:Int):=(by simpa using h);rw[MN]at h1;omega
    rw[MW hge]at CG;exact⟨_,rfl,k st ua tf ms H4 s4 hst M hR hro CG (by rw[←hbf,DH (by unfold tsS;rw[MN];exact hge)])⟩
noncomputable abbrev KA:Scope:=qV (Ez ((aw sO).getD 2 (.Pass ⟨0,0,0,0⟩)))
theorem cP:sR (aj sO) KA "thing" ["steps"] ["view", "steps"] [1]:=by decide +kernel
noncomputable def uL(K:W.Frag):Sp:=λvs H Q _=>∃(v r d:Addr) (o:Obj) (ad:Int→Addr) (rs:List (Option Int)) (ks:Fs),vs=[.ref v]∧SqT K H v [.ref r,.ref d]∧Vw H r d o ad rs ks∧Rt rs ks ∧
 ∀(l:Addr) (xs:List Addr) (tr:Addr→Tr) (ms:List Int) (H':Hp),ay H H'→H l=none→Pap H' l xs tr→Runs rs ks [] (xs.map tr) ms→(∀ n,some n∈rs→n∈ms)→Au ks ms→xs.map tr=oy rs ks→Q (.ref l) H'
theorem Br{f fL fS:Addr}{fd fdL fdS:FuncData}(F:Fun K "reach_paper" "reach_paper" sO f fd)(GL:cL P w K mg base (CXE P w) 2 fL fdL ["view"] (u5 K))(mL:mg "look_at_view" = some (.ref fL))(kL:PySem.W.keepIn K (.ref fL)=true)(bL:Binds K fdL ["view"] [])
  (GS:cL P w K mg base (CXE P w) 1 fS fdS ["view"] (uK K)) (mS:mg "last_steps" = some (.ref fS)) (kS:PySem.W.keepIn K (.ref fS)=true) (bS:Binds K fdS ["view"] []):cL P w K mg base (CXE P w) 3 f fd ["view"] (uL K):=by
 refine F.okE Kx (λvs H Q E h=>?_) (λcdv A outer s H vs Q E hr h=>?_)
 ·obtain⟨v,r,d,o,ad,rs,ks,rfl,_⟩:=h
  rfl
 ·obtain⟨v,r,d,o,ad,rs,ks,rfl,ht,hv,rt,k⟩:=h
  have hu:=b7 hr;have co:fU (cxE P w K mg base ["view", "steps"] "reach_paper" (aj sO) f cdv A outer s H E).nox KA [("steps",s.heap.objs.size+1)] "thing" [1] ["thing", "steps"] :=
   cB rfl rfl rfl cP rfl rfl (by intro q hq;rw[MO.mp hq];rfl)
  refine⟨_,PSs.nox (ai (az (bG GL hr rfl mL kL bL .nil aV (aa (pv 0) aq)))
   (ai (aD (i:=1) Kx.nd rfl (Or.inr rfl) (bG GS (hr.mono (by decide)) rfl mS kS bS .nil aV (aa (pv 0) aq)))
   (ak (aG (ft co rfl (f7 (jB (pv 1))) (λC fp s₀ H₀=>dU (aa (pv 0) (aa (a7 (r:=Ee K) aX (cS hu (pv 1) (pv 0) (λ_ _=>rfl)) ar (λ_ _=>rfl)) (aa (a7 (r:=Ee K) aX (cS hu (pv 1) (pv 0) (λ_ _=>rfl)) ar (λ_ _=>rfl)) aq))))))))),?_⟩
  refine⟨_,rfl,v,r,d,o,ad,rs,ks,rfl,ht,hv,rt,?_⟩;refine⟨_,rfl,v,r,d,o,ad,rs,ks,rfl,ht,hv,rt,λst ua tf ms H1 s1 hst M hR hro hsh hpa=>?_⟩;refine⟨_,rfl,st,kvS ua ms,M.hs,λoF=>⟨st,oF,kvS ua ms,rfl,ag,λD hD=>?_⟩⟩;have ml:=kE rt hR;have lk:(kvS ua ms).length=ms.length:=by unfold kvS;rw[MN]
  obtain⟨H2,e2⟩:∃ H2,upd H1 st (.frz oF (.dK (kvS ua ms)))=H2:=⟨_,rfl⟩;have s2:ay H H2:=λc u q=>by rw[←e2,ab (ao q hst)];exact s1 c u q
  have zst:H2 st=some (.frz oF (.dK (kvS ua ms))):=by rw[←e2];exact ag
  have hu2:∀ t∈ms,H2 (ua t)=some (.tup [oV (tf t).1,oV (tf t).2]):=λt h=>by
   rw[←e2,ab (av (M.hu t h) M.hs (by intro z;cases z))];exact M.hu t h
  rw[e2]at hD ⊢;refine oK (d:=st) (o:=oF) (kvs:=kvS ua ms) (λi ys H3=>∃(xs:List Addr) (tr:Addr→Tr),ys=xs.map V.ref∧xs.length=i∧ay H2 H3∧Pap H3 D xs tr∧xs.map tr=tsS tf (ms.take i)) ⟨[],λ_=>(none,none,none),rfl,rfl,ay.upd hD,⟨ag,λx h=>nomatch h⟩,rfl⟩
   (λi ys H3 _ ⟨xs,tr,e,l,_,p,_⟩=>⟨by rw[e];exact p.hl,by rw[e,MN];exact l⟩) (λi ys H3 _ ⟨_,_,_,_,s3,_⟩=>s3 _ _ zst) (Nh (show(kvS ua ms).length≤200 by omega) (by decide)) (λi p ys H3 hp ⟨xs,tr,e,l,s3,pp,et⟩=>?_) (λys H3 ⟨xs,tr,e,l,s3,pp,et⟩=>?_)
  ·have hlt:i<ms.length:=by rw[←lk];exact(MQ.mp hp).1
   obtain⟨t,ett⟩:∃ t,ms[i]=t:=⟨_,rfl⟩;have hpe:p.1=Sum.inl t:=by
    have h1:((kvS ua ms).map (·.1))[i]?=some p.1:=(by rw[MY,hp];rfl);rw[jm,MY,MP hlt,ett]at h1;exact(Nf h1).symm
   have htm:t∈ms:=(by rw[←ett];exact NK hlt);have tk:ms.take (i+1)=ms.take i++[t]:=(by rw[MT hlt,ett]);have gv:cE (kvS ua ms) (Sum.inl t)=some (V.ref (ua t)):=by
    have:∀ l:List Int,t∈l→cE (kvS ua l) (Sum.inl t)=some (V.ref (ua t)):=by
     intro l;induction l with
     | nil=>intro h;cases h
     | cons a r ih =>
      intro h;by_cases ea:a=t
      ·subst ea
       exact de rfl
      ·rcases Nk.mp h with g|g
       ·exact absurd g.symm ea
       ·show cE ((Sum.inl a,V.ref (ua a))::kvS ua r) (Sum.inl t)=_
        rw[di (λz=>ea (by injection z))];exact ih g
    exact this ms htm
   have hz:=s3 _ _ (hu2 t htm);have dg:eK H3 st (.int t) (some (V.ref (ua t))):=.inl ⟨_,Sum.inl t,.inr ⟨oF,s3 _ _ zst⟩,rfl,gv.symm⟩;rw[hpe];refine⟨_,rfl,_,rfl,_,rfl,st,_,rfl,dg,ua t,_,0,oV (tf t).1,rfl,rfl,SqT.of hz,rfl,_,rfl,_,rfl,st,_,rfl,dg,ua t,_,1,oV (tf t).2,rfl,rfl,SqT.of hz,rfl,by show 3≤sizeLine;decide,λu hu'=>?_⟩;subst e;obtain⟨p5,e5⟩:=pp.add hu' (some t,(tf t).1,(tf t).2);refine⟨ay.upd hu' _ _ pp.hl,xs++[u],_,by rw[MV];rfl,by rw[M8,NV,l],λc v g=>?_,p5,?_⟩
   ·rw[ab (ao g hD)]
    exact ay.upd hu' _ _ (s3 c v g)
   ·rw[e5,et,tk]
    unfold tsS;rw[MV];rfl
  ·rw[lk,MW (MR _)]at et
   exact k D xs tr ms H3 (s2.trans s3) (s2.free hD) pp (by rw[et];exact hR) hro hsh (by rw[et];exact hpa)
noncomputable def yN(K:W.Frag):Sp:=λvs H Q _=>∃(v r d b:Addr) (o:Obj) (ad:Int→Addr) (rs:List (Option Int)) (ks:Fs) (bs us:List Int),vs=[.ref v,.ref b]∧SqT K H v [.ref r,.ref d]∧Vw H r d o ad rs ks∧Rt rs ks∧Rt (rs++us.map some) ks ∧
 H b=some (.lst (bs.map V.int))∧bs.length≤200∧(∀ ms:List Int,ms.Nodup→(∀ m∈ms,m∈bs)→ms.length<64)∧us.Pairwise (·< ·)∧(∀ k,k∈us↔k∈bs) ∧
 ∀(tp l g:Addr) (xs:List Addr) (tr:Addr→Tr) (ms gs:List Int) (H':Hp),ay H H'→H l=none→H g=none→l≠g→H' tp=some (.tup [.ref l,.ref g])→Pap H' l xs tr→Runs (rs++us.map some) ks [] (xs.map tr) ms→(∀ n,some n∈rs++us.map some→n∈ms)→Au ks ms→H' g=some (.lst (gs.map V.int))→Gn ks (xs.map tr) gs→xs.map tr=oy (rs++us.map some) ks→Q (.ref tp) H'
theorem Bs{f fR fL fW:Addr}{fd fdR fdL fdW:FuncData}(F:Fun K "round_paper" "round_paper" BY f fd)(GR:cL P w K mg base (CXE P w) 1 fR fdR ["view", "read"] (m7 K))(mR:mg "rooted_view" = some (.ref fR))(kR:PySem.W.keepIn K (.ref fR)=true)(bR:Binds K fdR ["view", "read"] [])
  (GL:cL P w K mg base (CXE P w) 3 fL fdL ["view"] (uL K)) (mL:mg "reach_paper" = some (.ref fL)) (kL:PySem.W.keepIn K (.ref fL)=true) (bL:Binds K fdL ["view"] [])
  (GW:cL P w K mg base (CXE P w) 1 fW fdW ["view", "triples"] (ju K)) (mW:mg "things_without" = some (.ref fW)) (kW:PySem.W.keepIn K (.ref fW)=true) (bW:Binds K fdW ["view", "triples"] []):cL P w K mg base (CXE P w) 4 f fd ["view", "read"] (yN K):=by
 refine F.okE Iy (λvs H Q E h=>?_) (λcdv A outer s H vs Q E hr h=>?_)
 ·obtain⟨v,r,d,b,o,ad,rs,ks,bs,us,rfl,_⟩:=h
  rfl
 ·obtain⟨v,r,d,b,o,ad,rs,ks,bs,us,rfl,ht,hv,rt,rtw,hb,hbl,h64,upw,umm,k⟩:=h
  have r1:=hr.mono (show 1≤3 by decide);refine⟨_,PSs.nox (ai (aD (i:=2) Iy.nd rfl (Or.inl rfl) (bG GR r1 rfl mR kR bR .nil aV (aa (pv 0) (aa (pv 1) aq))))
   (ai (aD (i:=3) Iy.nd rfl (Or.inl rfl) (bG GL hr rfl mL kL bL .nil aV (aa (pv 2) aq)))
   (ak (aG (dU (aa (pv 3) (aa (bG GW r1 rfl mW kW bW .nil aV (aa (pv 0) (aa (pv 3) aq))) aq))))))),?_⟩
  refine⟨_,rfl,_,rfl,v,r,d,b,rs,bs,rfl,ht,hv.hr,rt.rl,hb,hbl,h64,λv' r' us' H1 s1 hv1 hr1 pw1 mm1=>?_⟩;have eu:us'=us:=gB pw1 upw λk=>(mm1 k).trans (umm k).symm;subst eu;refine⟨_,rfl,v',r',d,o,ad,rs++us'.map some,ks,rfl,SqT.of hv1,⟨hr1,(hv.same s1).hd,(hv.same s1).hl⟩,rtw,λl xs tr ms H2 s2 hl pap hR hro hsh hpa=>?_⟩;have s2':=s1.trans s2;have ml:=kE rtw hR;have xl:xs.length≤200:=by have:=wU hR;rw[MN]at this;omega
  refine⟨_,rfl,_,rfl,_,rfl,v,r,d,l,o,ad,rs,ks,xs,tr,rfl,cp ht s2',hv.same s2',rt,pap,by omega,λx hx=>?_,λg gs H3 s3 hg zg hG=>⟨by show 2≤sizeLine;decide,λtp htp=>?_⟩⟩
  ·have hth:=qY hR
   have h1:oV (tr x).1∈ms.map V.int:=(by rw[←hth];exact Nc.mpr ⟨x,hx,rfl⟩);obtain⟨n,_,e⟩:=Nc.mp h1;cases ht1:(tr x).1 with
   | none=>rw[ht1]at e;exact nomatch (show V.int n=V.non from e)
   | some n=>exact⟨n,rfl⟩
  ·have st:=ay.upd (o:=.tup [V.ref l,V.ref g]) htp
   exact k tp l g xs tr ms gs _ ((s2'.trans s3).trans st) (s1.free hl) (s2'.free hg) (λz=>by rw[←z,pap.hl]at hg;cases hg) ag ((pap.same s3).same st) hR hro hsh (st _ _ zg) hG hpa
end
end K72.R
end
section
namespace K72
open PySem L2 LX
section
variable{P:Program}{w:World}{K:W.Frag}{x qual:Str}{st:Stmt}{f:Addr}{fd:FuncData}
theorem _root_.L2.Fun.b1{p0:Str}(F:Fun K x qual st f fd)(h:∀(kV doc pm:Value) (an:Option Addr) (cdv ct:Value) (u0:Value),bindArgs (PySem.W.fnOf x qual (bN st) (aw st) (aj st) .none kV doc pm an cdv ct) ⟨[u0],[]⟩=pure (([p0]:List Str).zip [u0]):=by intros;rfl):Binds K fd [p0] []:=F.binds (ps:=[p0]) λkV doc pm an cdv ct us hl=>match us,hl with|[u0],_=>h kV doc pm an cdv ct u0
theorem _root_.L2.Fun.b2{p0 p1:Str}(F:Fun K x qual st f fd)(h:∀(kV doc pm:Value) (an:Option Addr) (cdv ct:Value) (u0 u1:Value),bindArgs (PySem.W.fnOf x qual (bN st) (aw st) (aj st) .none kV doc pm an cdv ct) ⟨[u0,u1],[]⟩=pure (([p0,p1]:List Str).zip [u0,u1]):=by intros;rfl):Binds K fd [p0,p1] []:=F.binds (ps:=[p0,p1]) λkV doc pm an cdv ct us hl=>match us,hl with|[u0,u1],_=>h kV doc pm an cdv ct u0 u1
theorem _root_.L2.Fun.b3{p0 p1 p2:Str}(F:Fun K x qual st f fd)(h:∀(kV doc pm:Value) (an:Option Addr) (cdv ct:Value) (u0 u1 u2:Value),bindArgs (PySem.W.fnOf x qual (bN st) (aw st) (aj st) .none kV doc pm an cdv ct) ⟨[u0,u1,u2],[]⟩=pure (([p0,p1,p2]:List Str).zip [u0,u1,u2]):=by intros;rfl):Binds K fd [p0,p1,p2] []:=F.binds (ps:=[p0,p1,p2]) λkV doc pm an cdv ct us hl=>match us,hl with|[u0,u1,u2],_=>h kV doc pm an cdv ct u0 u1 u2
end
section
variable{P:Program}{w:World}{K:W.Frag}{mg:Str→Option Value}{base:Heap}{D:Ad}
theorem gL(T:Txt w K mg D):Ok P w K mg base 1 D.iO ["told", "fields"] (R.uH) :=
 have F:=T.fnn (st:=iJ) (f:=D.iO) "look_at_told" "look_at_told"
 ⟨⟨T.e,T.mm,T.zz⟩,R.Bh F,F.b2⟩
theorem cX(T:Txt w K mg D):Ok P w K mg base 2 D.iN ["view"] (R.u5 K) :=
 have F:=T.fnn (st:=iI) (f:=D.iN) "look_at_view" "look_at_view"
 ⟨⟨T.e,T.mm,T.zz⟩,R.DB F (gL T).g T.m T.kp (gL (P:=P) (base:=base) T).b,F.b1⟩
theorem gM(T:Txt w K mg D):Ok P w K mg base 1 D.gF ["view"] (R.uK K) :=
 have F:=T.fnn (st:=gE) (f:=D.gF) "last_steps" "last_steps"
 ⟨⟨T.e,T.mm,T.zz⟩,R.Bq F T.z T.z T.z,F.b1⟩
theorem iW(T:Txt w K mg D):Ok P w K mg base 3 D.jF ["view"] (R.uL K) :=
 have F:=T.fnn (st:=jC) (f:=D.jF) "reach_paper" "reach_paper"
 ⟨⟨T.e,T.mm,T.zz⟩,R.Br F (cX T).g T.m T.kp (cX (P:=P) (base:=base) T).b (gM T).g T.m T.kp (gM (P:=P) (base:=base) T).b,F.b1⟩
theorem gN(T:Txt w K mg D):Ok P w K mg base 1 D.iQ ["told", "inside"] (R.rG) :=
 have F:=T.fnn (st:=iL) (f:=D.iQ) "tells_within" "tells_within"
 ⟨⟨T.e,T.mm,T.zz⟩,R.zW F T.z,F.b2⟩
theorem mF(T:Txt w K mg D):Ok P w K mg base 2 D.pq ["view", "things"] (R.Iq K) :=
 have F:=T.fnn (st:=pj) (f:=D.pq) "closed_in" "closed_in"
 ⟨⟨T.e,T.mm,T.zz⟩,R.JJ F T.z (gN T).g T.m T.kp (gN (P:=P) (base:=base) T).b,F.b2⟩
theorem pE(T:Txt w K mg D):Ok P w K mg base 1 D.qN ["told", "place", "thing"] (R.uJ) :=
 have F:=T.fnn (st:=qM) (f:=D.qN) "tells_at" "tells_at"
 ⟨⟨T.e,T.mm,T.zz⟩,R.Bn F T.z,F.b3⟩
theorem q8(T:Txt w K mg D):Ok P w K mg base 2 D.tI ["view", "ahead", "triple"] (R.yd K) :=
 have F:=T.fnn (st:=tH) (f:=D.tI) "is_step" "is_step"
 ⟨⟨T.e,T.mm,T.zz⟩,R.DF F (pE T).g T.m T.kp (pE (P:=P) (base:=base) T).b,F.b3⟩
theorem gO(T:Txt w K mg D):Ok P w K mg base 3 D.iP ["view", "triples"] (R.rK K) :=
 have F:=T.fnn (st:=iK) (f:=D.iP) "paper_judged" "paper_judged"
 ⟨⟨T.e,T.mm,T.zz⟩,R.zZ F T.z (cX T).g T.m T.kp (cX (P:=P) (base:=base) T).b (q8 T).g T.m T.kp (q8 (P:=P) (base:=base) T).b (mF T).g T.m T.kp (mF (P:=P) (base:=base) T).b,F.b2⟩
theorem dE(T:Txt w K mg D):Ok P w K mg base 1 D.jH ["view", "read"] (R.m7 K) :=
 have F:=T.fnn (st:=jE) (f:=D.jH) "rooted_view" "rooted_view"
 ⟨⟨T.e,T.mm,T.zz⟩,R.z7 F T.z,F.b2⟩
theorem cA(T:Txt w K mg D):Ok P w K mg base 1 D.gc ["view", "triples"] (R.ju K) :=
 have F:=T.fnn (st:=f9) (f:=D.gc) "things_without" "things_without"
 ⟨⟨T.e,T.mm,T.zz⟩,R.xR F T.z,F.b2⟩
theorem cY(T:Txt w K mg D):Ok P w K mg base 4 D.iR ["view", "read", "paper"] (R.yK K) :=
 have F:=T.fnn (st:=iM) (f:=D.iR) "round_judged" "round_judged"
 ⟨⟨T.e,T.mm,T.zz⟩,R.Bp F T.z (dE T).g T.m T.kp (dE (P:=P) (base:=base) T).b (gO T).g T.m T.kp (gO (P:=P) (base:=base) T).b (cA T).g T.m T.kp (cA (P:=P) (base:=base) T).b,F.b3⟩
theorem iX(T:Txt w K mg D):Ok P w K mg base 4 D.jG ["view", "read"] (R.yN K) :=
 have F:=T.fnn (st:=jD) (f:=D.jG) "round_paper" "round_paper"
 ⟨⟨T.e,T.mm,T.zz⟩,R.Bs F (dE T).g T.m T.kp (dE (P:=P) (base:=base) T).b (iW T).g T.m T.kp (iW (P:=P) (base:=base) T).b (cA T).g T.m T.kp (cA (P:=P) (base:=base) T).b,F.b2⟩
end
end K72
end
section
namespace L2
open PySem PySem.Spec PyProof.Rows LX
structure SB(a₀:Array Keyed)(st:SortSt):Prop where
 perm:(arrOf st).Perm a₀
 kind:kindOf st=oneType'
 ok:failedOf st=none
theorem SB.size{a₀:Array Keyed}{st:SortSt}(h:SB a₀ st):(arrOf st).size=a₀.size:=h.perm.size_eq
theorem SB.key{a₀:Array Keyed}{st:SortSt}(h:SB a₀ st)(ik:IntKeys a₀){i:Nat}(hi:i<a₀.size):∃ t q,(arrOf st)[i]?=some (.int (K (arrOf st) i) t,q) :=
 SBase.at (st:=SortSt.mk' (kindOf st) (arrOf st) #[] (gallopOf st) (failedOf st)) ⟨h.perm,h.kind,h.ok,rfl⟩ ik hi
noncomputable def eL(xs:Array Keyed)(lo hi:Nat):Prop:=∀ i j,lo≤i→i≤j→j<hi→K xs i≤K xs j
noncomputable def Oth(xs ys:Array Keyed)(lo hi:Nat):Prop:=∀ k,k<lo∨hi≤k→ys[k]?=xs[k]?
theorem Oth.trans{xs ys zs:Array Keyed}{lo hi:Nat}(a:Oth xs ys lo hi)(b:Oth ys zs lo hi):Oth xs zs lo hi:=λk h=>(b k h).trans (a k h)
theorem Oth.refl{xs:Array Keyed}{lo hi:Nat}:Oth xs xs lo hi:=λ_ _=>rfl
structure Aft(a₀:Array Keyed)(st st':SortSt)(lo hi:Nat):Prop where
 b:SB a₀ st'
 p:pendingOf st'=pendingOf st
 o:Oth (arrOf st) (arrOf st') lo hi
theorem Aft.trans{a₀:Array Keyed}{st st1 st2:SortSt}{lo hi:Nat}(x:Aft a₀ st st1 lo hi)(y:Aft a₀ st1 st2 lo hi):Aft a₀ st st2 lo hi:=⟨y.b,y.p.trans x.p,x.o.trans y.o⟩
noncomputable def Unl(xs:Array Keyed):Prop:=(xs.toList.map λp=>numOf p.1).Nodup
theorem Cc{a₀:Array Keyed}{st:SortSt}(h:SB a₀ st)(u:Unl a₀){i j:Nat}(hi:i<a₀.size)(hj:j<a₀.size)(e:K (arrOf st) i=K (arrOf st) j):i=j:=by
 have u':Unl (arrOf st):=((OK.mp h.perm).map _).nodup_iff.mpr u;have li:i<(arrOf st).size:=by rw[h.size];exact hi
 have lj:j<(arrOf st).size:=by rw[h.size];exact hj
 rw[K_eq li,K_eq lj]at e;exact(List.getElem_inj (i:=i) (j:=j) (h₀:=by simpa using li) (h₁:=by simpa using lj) u').mp (by simpa using e)
section
variable{prog:Program}{w:World}{A:Around}{E:Value→Shared→Prop}{s:Shared}{a₀:Array Keyed}
theorem jM{st:SortSt}{i j:Nat}{Q:Option Bool→SortSt→Prop}(B:SB a₀ st)(ik:IntKeys a₀)(hi:i<a₀.size)(hj:j<a₀.size)(q:Q (some (decide (K (arrOf st) i<K (arrOf st) j))) st):wpS (model prog w) A E s (ltAt' i j) Q st:=by
 obtain⟨t,p,e⟩:=B.key ik hi;obtain⟨u,r,e'⟩:=B.key ik hj;exact wpS_ltAt B.kind e e' q
theorem DI{st:SortSt}{lo n ok:Nat}{Q:Bool→SortSt→Prop}(ik:IntKeys a₀)(hn:lo+n≤a₀.size)(h1:1≤ok)(hok:ok≤n)(B:SB a₀ st)(up:eL (arrOf st) lo (lo+ok))(q:∀ st',Aft a₀ st st' lo (lo+n)→eL (arrOf st') lo (lo+n)→Q true st'):wpS (model prog w) A E s (binarySort' lo n ok) Q st:=by
 rw[binarySort'_eq];have em:max ok 1=ok:=by omega
 rw[em];refine wpS_bind (wpS_mono (wpS_forRange (I:=λk c st'=>c=(none,())∧Aft a₀ st st' lo (lo+n)∧eL (arrOf st') lo (lo+k)) (Q:=λc st'=>c=(none,())∧Aft a₀ st st' lo (lo+n)∧eL (arrOf st') lo (lo+n)) ?one ?all ⟨rfl,⟨B,rfl,.refl⟩,up⟩) ?rest)
 case rest =>
  rintro c st' ⟨rfl,af,rs⟩;exact wpS_pure (q st' af rs)
 case all =>
  rintro c st' ⟨hc,af,rs⟩;exact⟨hc,af,by rwa[show max ok n=n by omega]at rs⟩
 case one =>
  rintro k c st1 hk1 hk2 ⟨rfl,af,rs⟩;have kb:lo+k<a₀.size:=by omega
  refine wpS_bind (wpS_mono (wpS_forRange (I:=λx c st2=>st2=st1∧∃ l r,c=(none,l,r)∧l≤r∧r≤k∧r-l≤k-x∧(∀ i,i<l→K (arrOf st1) (lo+i)≤K (arrOf st1) (lo+k))∧∀ i,r≤i→i<k→K (arrOf st1) (lo+k)<K (arrOf st1) (lo+i))
   (Q:=λc st2=>st2=st1∧∃ l r,c=(none,l,r)∧l≤k∧(∀ i,i<l→K (arrOf st1) (lo+i)≤K (arrOf st1) (lo+k))∧∀ i,l≤i→i<k→K (arrOf st1) (lo+k)<K (arrOf st1) (lo+i)) ?two ?My ⟨rfl,0,k,rfl,by omega,by omega,by omega,(λi hi=>by omega),(λi z1 z2=>by omega)⟩) ?put)
  case My =>
   rintro c st2 ⟨rfl,l,r,rfl,c1,c2,c3,c4,c5⟩;obtain rfl:l=r:=(by omega);exact⟨rfl,l,l,rfl,c2,c4,c5⟩
  case two =>
   rintro x c st2 _ hx ⟨rfl,l,r,rfl,c1,c2,c3,c4,c5⟩;dsimp only;by_cases g:l≥r
   ·rw[if_pos g]
    obtain rfl:l=r:=(by omega);exact wpS_pure ⟨rfl,l,l,rfl,c2,c4,c5⟩
   ·rw[if_neg g]
    refine wpS_bind (jM af.b ik kb (by omega) ?_);by_cases d:K (arrOf st2) (lo+k)<K (arrOf st2) (lo+(l+r)/2)
    ·simp only[d,decide_true,if_true]
     exact wpS_pure ⟨rfl,l,(l+r)/2,rfl,by omega,by omega,by omega,c4,λi z1 z2=>Int.lt_of_lt_of_le d (rs _ _ (by omega) (by omega) (by omega))⟩
    ·simp only[d,decide_false,Nx,if_false]
     exact wpS_pure ⟨rfl,(l+r)/2+1,r,rfl,by omega,by omega,by omega,(λi z1=>OX (rs (lo+i) (lo+(l+r)/2) (by omega) (by omega) (by omega)) (Pm.mp d)),c5⟩
  case put =>
   rintro c st2 ⟨rfl,l,r,rfl,c2,c4,c5⟩;show wpS _ _ _ _ (do moveDown' (lo+k) (lo+l);pure (ForInStep.yield (none,()))) _ _
   rw[moveDown'_eq];have ks:lo+k<(arrOf st2).size:=(by rw[af.b.size];exact kb);refine wpS_bind (wpS_modify (wpS_pure ⟨rfl,af.trans ⟨⟨(bubble_perm _ _ _).trans af.b.perm,af.b.kind,af.b.ok⟩,rfl,λx hx=>?_⟩,λi j z0 z1 z2=>?_⟩))
   ·show(bubble (arrOf st2) (lo+k) (lo+k-(lo+l)))[x]?=_
    rw[getElem?_bubble ks _ (by omega),if_neg (by omega),if_neg (by omega)]
   ·show K (bubble (arrOf st2) (lo+k) (lo+k-(lo+l))) i≤K (bubble (arrOf st2) (lo+k) (lo+k-(lo+l))) j
    rw[K_bubble ks (by omega),K_bubble ks (by omega),show lo+k-(lo+k-(lo+l))=lo+l by omega];have up1:∀ i,lo≤i→i<lo+l→K (arrOf st2) i≤K (arrOf st2) (lo+k):=λi y1 y2=>by
     have:=c4 (i-lo) (by omega)
     rwa[show lo+(i-lo)=i by omega]at this
    have up2:∀ i,lo+l≤i→i<lo+k→K (arrOf st2) (lo+k)<K (arrOf st2) i:=λi y1 y2=>by
     have:=c5 (i-lo) (by omega) (by omega)
     rwa[show lo+(i-lo)=i by omega]at this
    repeat' split
    all_goals first
     | (exfalso;omega)
     | exact NL _
     | exact up1 _ (by omega) (by omega)
     | exact NZ (up2 _ (by omega) (by omega))
     | exact rs _ _ (by omega) (by omega) (by omega)
theorem DJ{st:SortSt}{lo m:Nat}{Q:Option Nat→SortSt→Prop}(ik:IntKeys a₀)(u:Unl a₀)(hm:lo+m≤a₀.size)(h1:1≤m)(B:SB a₀ st)(q:∀ n st',1≤n→n≤m→Aft a₀ st st' lo (lo+n)→eL (arrOf st') lo (lo+n)→Q (some n) st'):wpS (model prog w) A E s (countRun' lo m) Q st:=by
 rw[countRun'_eq];have Mz:∀ st:SortSt,eL (arrOf st) lo (lo+1):=λst i j z0 z1 z2=>by
  have:i=j:=by omega
  rw[this];exact NL _
 have snoc:∀ {st:SortSt} {n:Nat},1≤n→eL (arrOf st) lo (lo+n)→¬K (arrOf st) (lo+n)<K (arrOf st) (lo+n-1)→eL (arrOf st) lo (lo+(n+1)):=λ{st n} hn rs d i j z0 z1 z2=>by
  by_cases c:j<lo+n
  ·exact rs i j z0 z1 c
  ·obtain rfl:j=lo+n:=by omega
   by_cases e:i=lo+n
   ·rw[e];exact NL _
   ·exact OX (rs i (lo+n-1) z0 (by omega) (by omega)) (Pm.mp d)
 refine wpS_bind (wpS_mono (wpS_forRange (I:=λx c st'=>st'=st∧c=(none,x)∧eL (arrOf st) lo (lo+x)) (Q:=λc st'=>st'=st∧∃ n,c=(none,n)∧1≤n∧n≤m∧eL (arrOf st) lo (lo+n)∧(n=m∨K (arrOf st) (lo+n)<K (arrOf st) (lo+n-1))) ?one ?all ⟨rfl,rfl,Mz st⟩) ?rest)
 case all =>
  rintro c st' ⟨rfl,rfl,rs⟩;rw[show max 1 m=m by omega]at rs ⊢;exact⟨rfl,m,rfl,h1,MR _,rs,.inl rfl⟩
 case one =>
  rintro x c st' x1 x2 ⟨rfl,rfl,rs⟩;dsimp only;refine wpS_bind (jM B ik (by omega) (by omega) ?_);by_cases d:K (arrOf st') (lo+x)<K (arrOf st') (lo+x-1)
  ·simp only[d,decide_true,if_true]
   exact wpS_pure ⟨rfl,x,rfl,x1,by omega,rs,.inr d⟩
  ·simp only[d,decide_false,Nx,if_false]
   exact wpS_pure ⟨rfl,rfl,snoc x1 rs d⟩
 case rest =>
  rintro c st' ⟨rfl,n,rfl,n1,n2,rs,o⟩;dsimp only;by_cases e:n=m
  ·rw[if_pos (by simp[e])]
   exact wpS_pure (q n st' n1 n2 ⟨B,rfl,.refl⟩ rs)
  ·rw[if_neg (by simp[e])]
   replace o:=o.resolve_left e;by_cases g:n>1
   ·rw[if_pos g]
    refine wpS_bind (jM B ik (by omega) (by omega) ?_);have d:K (arrOf st') lo<K (arrOf st') (lo+n-1):=by
     have a:=rs lo (lo+n-1) (by omega) (by omega) (by omega);have b:K (arrOf st') lo≠K (arrOf st') (lo+n-1):=λz=>by
      have:=Cc B u (by omega) (by omega) z
      omega
     omega
    simp only[d,decide_true,if_true];exact wpS_pure (q n st' n1 n2 ⟨B,rfl,.refl⟩ rs)
   ·rw[if_neg g]
    obtain rfl:n=1:=(by omega);refine wpS_bind (wpS_lift (wpAny_rule ⟨rfl,?_⟩));refine wpS_bind (wpS_mono (wpS_forRange (I:=λx c st2=>st2=st'∧c=(none,x,0)∧∀ i j,lo≤i→i≤j→j<lo+x→K (arrOf st') j≤K (arrOf st') i) (Q:=λc st2=>st2=st'∧∃ n,c=(none,n,0)∧2≤n∧n≤m∧∀ i j,lo≤i→i≤j→j<lo+n→K (arrOf st') j≤K (arrOf st') i) ?MA ?all2 ⟨rfl,rfl,?ini⟩) ?JK)
    case ini =>
     intro i j z0 z1 z2;by_cases c:i=j
     ·rw[c];exact NL _
     ·obtain rfl:i=lo:=by omega
      obtain rfl:j=i+1:=(by omega);exact NZ o
    case all2 =>
     rintro c st2 ⟨rfl,rfl,fa⟩;rw[show max (1+1) m=m by omega]at fa ⊢;exact⟨rfl,m,rfl,by omega,MR _,fa⟩
    case MA =>
     rintro x c st2 x1 x2 ⟨rfl,rfl,fa⟩;dsimp only;refine wpS_bind (jM B ik (by omega) (by omega) ?_);by_cases d:K (arrOf st2) (lo+x)<K (arrOf st2) (lo+x-1)
     ·simp only[d,decide_true,if_true]
      rw[if_neg (by omega)];refine wpS_pure ⟨rfl,rfl,λi j z0 z1 z2=>?_⟩;by_cases c:j<lo+x
      ·exact fa i j z0 z1 c
      ·obtain rfl:j=lo+x:=by omega
       by_cases e:i=lo+x
       ·rw[e];exact NL _
       ·exact OX (NZ d) (fa i (lo+x-1) z0 (by omega) (by omega))
     ·simp only[d,decide_false,Nx,if_false]
      refine wpS_bind (jM B ik (by omega) (by omega) ?_);have d2:K (arrOf st2) (lo+x-1)<K (arrOf st2) (lo+x):=by
       have b:K (arrOf st2) (lo+x-1)≠K (arrOf st2) (lo+x):=λz=>by
        have:=Cc B u (by omega) (by omega) z
        omega
       omega
      simp only[d2,decide_true,if_true];exact wpS_pure ⟨rfl,x,rfl,by omega,by omega,fa⟩
    case JK =>
     rintro c st2 ⟨rfl,n,rfl,m1,m2,fa⟩;dsimp only;rw[if_neg (by omega)];have sz:lo+n≤(arrOf st2).size:=(by rw[B.size];omega);refine wpS_bind (wpS_reverse ?_);obtain⟨st3,e3⟩:∃ st3,setArr st2 (mirror (arrOf st2) lo (lo+n) ((lo+n-lo)/2))=st3:=⟨_,rfl⟩;rw[e3];have a3:arrOf st3=mirror (arrOf st2) lo (lo+n) ((lo+n-lo)/2):=(by rw[←e3]);have B3:SB a₀ st3:=(by rw[←e3];exact⟨(mirror_perm _ _ _ _).trans B.perm,B.kind,B.ok⟩);have p3:pendingOf st3=pendingOf st2:=(by rw[←e3]);have rs3:eL (arrOf st3) lo (lo+n):=λi j z0 z1 z2=>by
      rw[a3,K_mirror sz,K_mirror sz,if_pos (by omega),if_pos (by omega)];exact fa _ _ (by omega) (by omega) (by omega)
     have o3:Oth (arrOf st2) (arrOf st3) lo (lo+n):=λk hk=>by
      rw[a3,getElem?_mirror_all sz,if_neg (by omega)]
     refine wpS_bind (wpS_mono (wpS_forRange (I:=λx c st4=>st4=st3∧c=(none,x)∧eL (arrOf st3) lo (lo+x)) (Q:=λc st4=>st4=st3∧∃ n',c=(none,n')∧n≤n'∧n'≤m∧eL (arrOf st3) lo (lo+n')) ?MB ?MC ⟨rfl,rfl,rs3⟩) ?JL)
     case MC =>
      rintro c st4 ⟨rfl,rfl,rs⟩;rw[show max n m=m by omega]at rs ⊢;exact⟨rfl,m,rfl,m2,MR _,rs⟩
     case MB =>
      rintro x c st4 x1 x2 ⟨rfl,rfl,rs⟩;dsimp only;refine wpS_bind (jM B3 ik (by omega) (by omega) ?_);by_cases d:K (arrOf st4) (lo+x)<K (arrOf st4) (lo+x-1)
      ·simp only[d,decide_true,if_true]
       exact wpS_pure ⟨rfl,x,rfl,x1,by omega,rs⟩
      ·simp only[d,decide_false,Nx,if_false]
       exact wpS_pure ⟨rfl,rfl,snoc (by omega) rs d⟩
     case JL =>
      rintro c st4 ⟨rfl,n',rfl,w1,w2,rs⟩;exact wpS_pure (q n' st4 (by omega) w2 ⟨B3,p3,λk hk=>o3 k (by omega)⟩ rs)
end
noncomputable def gal:Bool→Keyed→Array Keyed→Nat→Nat→Nat→StateT SortSt Sem (Option Nat):=sortPriv% PySem.Builtin.gallop
noncomputable def bey(left:Bool)(key:Keyed)(xs:Array Keyed)(b i:Nat):StateT SortSt Sem (Option Bool):=do
 let x ←elem' xs (b+i)
 if left then lt' x key else return (←lt' key x).map (!·)
theorem FA(left:Bool)(key:Keyed)(xs:Array Keyed)(b n k:Nat):gal left key xs b n k=(do
 let mut p:=0
 let mut o:=1
 let mut l:=0
 let mut r:=0
 let some g ←bey left key xs b k|return none
 if g then
  let z:=n-k
  for _ in [0:n] do
   if o≥z then break
   let some t ←bey left key xs b (k+o)|return none
   if !t then break
   p:=o
   o:=2*o+1
  l:=k+p+1
  r:=k+min o z
 else
  let z:=k+1
  for _ in [0:n] do
   if o≥z then break
   let some t ←bey left key xs b (k-o)|return none
   if t then break
   p:=o
   o:=2*o+1
  l:=k+1-min o z
  r:=k-p
 for _ in [0:n] do
  if l≥r then break
  let c:=l+(r-l)/2
  let some t ←bey left key xs b c|return none
  if t then l:=c+1 else r:=c
 return some r):=rfl
section
variable{prog:Program}{w:World}{A:Around}{E:Value→Shared→Prop}{s:Shared}{a₀:Array Keyed}
theorem m9{st:SortSt}{a c:Int}{t u:Tok}{p q:Value}{Q:Option Bool→SortSt→Prop}(hk:kindOf st=oneType')(h:Q (some (decide (a<c))) st):wpS (model prog w) A E s (lt' (.int a t,p) (.int c u,q)) Q st:=by
 rw[lt'_eq];refine wpS_bind (wpS_get ?_);rw[hk,keyLt'_oneType];exact wpS_bind (wpS_lift (wpAny_attempt (oneLt_int ⟨rfl,wpS_pure h⟩)))
noncomputable def bU(left:Bool)(c x:Int):Bool:=if left then decide (x<c) else !decide (c<x)
theorem DK{st:SortSt}{left:Bool}{xs:Array Keyed}{b i:Nat}{c x:Int}{t u:Tok}{p q:Value}{Q:Option Bool→SortSt→Prop}(hk:kindOf st=oneType')(hx:xs[b+i]?=some (.int x t,p))(h:Q (some (bU left c x)) st):wpS (model prog w) A E s (bey left (.int c u,q) xs b i) Q st:=by
 unfold bey;rw[elem'_eq,hx];refine wpS_bind (wpS_pure ?_);cases left with
 | true=>exact m9 hk h
 | false=>exact wpS_bind (m9 hk (wpS_pure h))
theorem q9{st:SortSt}{left:Bool}{xs:Array Keyed}{b n k:Nat}{c:Int}{u:Tok}{q:Value}{Q:Option Nat→SortSt→Prop}(hk:kindOf st=oneType')(v:Nat→Int)(hx:∀ i,i<n→∃ t p,xs[b+i]?=some (.int (v i) t,p))(up:∀ i j,i≤j→j<n→v i≤v j)(kn:k<n)
  (h:∀ r,r≤n→(∀ i,i<r→bU left c (v i)=true)→(∀ i,r≤i→i<n→bU left c (v i)=false)→Q (some r) st):wpS (model prog w) A E s (gal left (.int c u,q) xs b n k) Q st:=by
 have mono:∀ i j,i≤j→j<n→bU left c (v j)=true→bU left c (v i)=true:=λi j ij jn z=>by
  have:=up i j ij jn
  cases left with
  | true =>
   have z:decide (v j<c)=true:=z;show decide (v i<c)=true;rw[decide_eq_true_eq]at z ⊢;omega
  | false =>
   have z:(!decide (c<v j))=true:=z;show(!decide (c<v i))=true;simp only[Bool.not_eq_true',decide_eq_false_iff_not]at z ⊢;omega
 have Iz:∀ i j,i≤j→j<n→bU left c (v i)=false→bU left c (v j)=false:=λi j ij jn z=>by
  cases e:bU left c (v j) with
  | false=>rfl
  | true=>rw[mono i j ij jn e]at z;cases z
 have ask:∀ {i:Nat} {Q:Option Bool→SortSt→Prop},i<n→Q (some (bU left c (v i))) st→wpS (model prog w) A E s (bey left (.int c u,q) xs b i) Q st:=λ{i Q} hi hq=>by
  obtain⟨t,p,e⟩:=hx i hi;exact DK hk e hq
 have fin:∀(l r:Nat) (f:Nat→Option (Option Nat)×Nat×Nat→StateT SortSt Sem (ForInStep (Option (Option Nat)×Nat×Nat))) (g:Option (Option Nat)×Nat×Nat→StateT SortSt Sem (Option Nat)),l≤r→r≤n→(∀ i,i<l→bU left c (v i)=true)→(∀ i,r≤i→i<n→bU left c (v i)=false) →
   (∀ x l r,f x (none,l,r)=(if l≥r then pure (ForInStep.done (none,l,r)) else bey left (.int c u,q) xs b (l+(r-l)/2) >>= λt=>match t with|some t=>if t=true then pure (ForInStep.yield (none,l+(r-l)/2+1,r)) else pure (ForInStep.yield (none,l,l+(r-l)/2))|none=>pure (ForInStep.done (some none,l,r))))→(∀ l r,g (none,l,r)=pure (some r)) →
   wpS (model prog w) A E s (forIn [0:n] (none,l,r) f >>= g) Q st:=by
  intro l r f g lr rn nr fr hf hg;refine wpS_bind (wpS_mono (wpS_forRange (I:=λx d st'=>st'=st∧∃ l r,d=(none,l,r)∧l≤r∧r≤n∧r-l≤n-x∧(∀ i,i<l→bU left c (v i)=true)∧∀ i,r≤i→i<n→bU left c (v i)=false) (Q:=λd st'=>st'=st∧∃ l r,d=(none,l,r)∧l=r∧r≤n∧(∀ i,i<l→bU left c (v i)=true)∧∀ i,r≤i→i<n→bU left c (v i)=false) ?one ?all ⟨rfl,l,r,rfl,lr,rn,by omega,nr,fr⟩) ?rest)
  case all =>
   rintro d st' ⟨rfl,l,r,rfl,c1,c2,c3,c4,c5⟩;exact⟨rfl,l,r,rfl,by omega,c2,c4,c5⟩
  case one =>
   rintro x d st' _ xn ⟨rfl,l,r,rfl,c1,c2,c3,c4,c5⟩;rw[hf];by_cases g:l≥r
   ·rw[if_pos g]
    exact wpS_pure ⟨rfl,l,r,rfl,by omega,c2,c4,c5⟩
   ·rw[if_neg g]
    refine wpS_bind (ask (by omega) ?_);cases e:bU left c (v (l+(r-l)/2)) with
    | true =>
     dsimp only;rw[if_pos rfl];exact wpS_pure ⟨rfl,_,r,rfl,by omega,c2,by omega,(λi hi=>mono i _ (by omega) (by omega) e),c5⟩
    | false =>
     dsimp only;rw[if_neg (by decide)];exact wpS_pure ⟨rfl,l,_,rfl,by omega,by omega,by omega,c4,λi z1 z2=>Iz _ i z1 z2 e⟩
  case rest =>
   rintro d st' ⟨rfl,l,r,rfl,rfl,c2,c4,c5⟩;rw[hg];exact wpS_pure (h l c2 c4 c5)
 rw[FA];refine wpS_bind (ask kn ?_);cases e0:bU left c (v k) with
 | true =>
  dsimp only;rw[if_pos rfl];refine wpS_bind (wpS_mono (wpS_forRange (I:=λx d st'=>st'=st∧∃ p o,d=(none,p,o)∧p<o∧x+1≤o∧k+p<n∧bU left c (v (k+p))=true) (Q:=λd st'=>st'=st∧∃ p o,d=(none,p,o)∧p<o∧k+p<n∧bU left c (v (k+p))=true∧(n-k≤o∨(k+o<n∧bU left c (v (k+o))=false))) ?one ?all ⟨rfl,0,1,rfl,by omega,by omega,by omega,e0⟩) ?rest)
  case all =>
   rintro d st' ⟨rfl,p,o,rfl,c1,c2,c3,c4⟩;exact⟨rfl,p,o,rfl,c1,c3,c4,.inl (by omega)⟩
  case one =>
   rintro x d st' _ xn ⟨rfl,p,o,rfl,c1,c2,c3,c4⟩;dsimp only;by_cases g:o≥n-k
   ·rw[if_pos g]
    exact wpS_pure ⟨rfl,p,o,rfl,c1,c3,c4,.inl g⟩
   ·rw[if_neg g]
    refine wpS_bind (ask (by omega) ?_);cases e:bU left c (v (k+o)) with
    | false =>
     dsimp only;rw[if_pos (by decide)];exact wpS_pure ⟨rfl,p,o,rfl,c1,c3,c4,.inr ⟨by omega,e⟩⟩
    | true =>
     dsimp only;rw[if_neg (by decide)];exact wpS_pure ⟨rfl,o,2*o+1,rfl,by omega,by omega,by omega,e⟩
  case rest =>
   rintro d st' ⟨rfl,p,o,rfl,c1,c3,c4,oo⟩;dsimp only;refine fin _ _ _ _ ?_ ?_ (λi hi=>mono i (k+p) (by omega) c3 c4) (λi z1 z2=>?_) (λx l r=>?_) (λl r=>rfl)
   ·rcases oo with z|⟨z,_⟩<;>omega
   ·omega
   ·rcases oo with z|⟨z,e⟩
    ·omega
    ·exact Iz (k+o) i (by omega) z2 e
   ·dsimp only
    split
    ·rfl
    ·congr 1
     funext t
     cases t with
     | none=>rfl
     | some t=>cases t<;>rfl
 | false =>
  dsimp only;rw[if_neg (by decide)];refine wpS_bind (wpS_mono (wpS_forRange (I:=λx d st'=>st'=st∧∃ p o,d=(none,p,o)∧p<o∧x+1≤o∧p≤k∧bU left c (v (k-p))=false) (Q:=λd st'=>st'=st∧∃ p o,d=(none,p,o)∧p<o∧p≤k∧bU left c (v (k-p))=false∧(k+1≤o∨(o≤k∧bU left c (v (k-o))=true))) ?one ?all ⟨rfl,0,1,rfl,by omega,by omega,by omega,e0⟩) ?rest)
  case all =>
   rintro d st' ⟨rfl,p,o,rfl,c1,c2,c3,c4⟩;exact⟨rfl,p,o,rfl,c1,c3,c4,.inl (by omega)⟩
  case one =>
   rintro x d st' _ xn ⟨rfl,p,o,rfl,c1,c2,c3,c4⟩;dsimp only;by_cases g:o≥k+1
   ·rw[if_pos g]
    exact wpS_pure ⟨rfl,p,o,rfl,c1,c3,c4,.inl g⟩
   ·rw[if_neg g]
    refine wpS_bind (ask (by omega) ?_);cases e:bU left c (v (k-o)) with
    | true =>
     dsimp only;rw[if_pos rfl];exact wpS_pure ⟨rfl,p,o,rfl,c1,c3,c4,.inr ⟨by omega,e⟩⟩
    | false =>
     dsimp only;rw[if_neg (by decide)];exact wpS_pure ⟨rfl,o,2*o+1,rfl,by omega,by omega,by omega,e⟩
  case rest =>
   rintro d st' ⟨rfl,p,o,rfl,c1,c3,c4,oo⟩;dsimp only;refine fin _ _ _ _ ?_ (by omega) (λi hi=>?_) (λi z1 z2=>Iz (k-p) i z1 z2 c4) (λx l r=>?_) (λl r=>rfl)
   ·rcases oo with z|⟨z,_⟩<;>omega
   ·rcases oo with z|⟨z,e⟩
    ·omega
    ·exact mono i (k-o) (by omega) (by omega) e
   ·dsimp only
    split
    ·rfl
    ·congr 1
     funext t
     cases t with
     | none=>rfl
     | some t=>cases t<;>rfl
end
noncomputable def kn(p:Keyed):Int:=numOf p.1
noncomputable abbrev Up(l:List Keyed):Prop:=l.Pairwise λx y=>kn x≤kn y
structure MI(a b o:List Keyed)(i j:Nat):Prop where
 pm:o.Perm (a.take i++b.take j)
 up:Up o
 la:∀ x∈o,∀ y∈a.drop i,kn x≤kn y
 lb:∀ x∈o,∀ y∈b.drop j,kn x≤kn y
section
variable{a b o:List Keyed}{i j k:Nat}
theorem DL{l:List Keyed}{i k:Nat}(h:Up l):∀ x∈(l.drop i).take k,∀ y∈l.drop (i+k),kn x≤kn y:=by
 have h2:Up ((l.drop i).take k++(l.drop i).drop k):=by rw[Np];exact h.sublist (Ox _ _)
 intro x hx y hy;rw[←List.drop_drop]at hy;exact(Nq.mp h2).2.2 x hx y hy
theorem MI.ca(m:MI a b o i j)(ua:Up a)(h:∀ x∈(a.drop i).take k,∀ y∈b.drop j,kn x≤kn y):MI a b (o++(a.drop i).take k) (i+k) j where
 pm:=by
  rw[show a.take (i+k)=a.take i++(a.drop i).take k from List.take_add];refine(m.pm.append_right _).trans ?_;rw[Ni,Ni];exact List.Perm.append_left _ N5
 up:=Nq.mpr ⟨m.up,(ua.sublist (Ox _ _)).sublist (Om _ _),λx hx y hy=>m.la x hx y (Oj hy)⟩
 la:=λx hx y hy=>(MS.mp hx).elim (λz=>m.la x z y (by rw[←List.drop_drop]at hy;exact Ol hy)) λz=>DL ua x z y hy
 lb:=λx hx y hy=>(MS.mp hx).elim (λz=>m.lb x z y hy) λz=>h x z y hy
theorem MI.sw(m:MI a b o i j):MI b a o j i:=⟨m.pm.trans N5,m.up,m.lb,m.la⟩
theorem MI.cb(m:MI a b o i j)(ub:Up b)(h:∀ x∈(b.drop j).take k,∀ y∈a.drop i,kn x≤kn y):MI a b (o++(b.drop j).take k) i (j+k):=(m.sw.ca ub h).sw
theorem MI.DM(m:MI a b o i j)(ua:Up a)(ub:Up b)(h:∀ x∈b.drop j,∀ y∈a.drop i,kn x≤kn y):(o++b.drop j++a.drop i).Perm (a++b)∧Up (o++b.drop j++a.drop i):=by
 constructor
 ·refine((m.pm.append_right _).append_right _).trans ?_
  have e1:a=a.take i++a.drop i:=(Np _ _).symm;have e2:b=b.take j++b.drop j:=(Np _ _).symm;rw[Ni,Ni];refine List.Perm.trans (l₂:=a.take i++(b++a.drop i)) ?_ ?_
  ·refine List.Perm.append_left _ ?_
   rw[←Ni,Np]
  ·refine List.Perm.trans (List.Perm.append_left _ N5) ?_
   rw[←Ni,Np]
 ·refine Nq.mpr ⟨Nq.mpr ⟨m.up,ub.sublist (Ox _ _),m.lb⟩,ua.sublist (Ox _ _),λx hx y hy=>?_⟩
  exact(MS.mp hx).elim (λz=>m.la x z y hy) λz=>h x z y hy
theorem MI.IA(m:MI a b o i j)(ua:Up a)(ub:Up b)(h:∀ x∈a.drop i,∀ y∈b.drop j,kn x≤kn y):(o++a.drop i++b.drop j).Perm (a++b)∧Up (o++a.drop i++b.drop j) :=
 let ⟨x,y⟩:=m.sw.DM ub ua h;⟨x.trans N5,y⟩
theorem drop_one{l:List Keyed}{i:Nat}(h:i<l.length):(l.drop i).take 1=[l[i]]:=by
 rw[NY h];rfl
theorem rL{l:List Keyed}{i:Nat}(u:Up l)(h:i<l.length):∀ y∈l.drop i,kn l[i]≤kn y:=λy hy=>by
 have u2:Up (l.drop i):=u.sublist (Ox _ _);rw[NY h]at hy u2;rcases Nk.mp hy with e|e
 ·rw[e];exact NL _
 ·exact(Pb.mp u2).1 y e
end
noncomputable def mlo:Array Keyed→Array Keyed→StateT SortSt Sem (Array Keyed):=sortPriv% PySem.Builtin.mergeLo
noncomputable def smg:Nat→StateT SortSt Sem Unit:=sortPriv% PySem.Builtin.setMinGallop
theorem u7(g:Nat):smg g=modify λs=>SortSt.mk' (kindOf s) (arrOf s) (pendingOf s) g (failedOf s):=rfl
noncomputable def fiA(a b o:Array Keyed)(i j:Nat):Array Keyed:=o++a.extract i a.size++b.extract j b.size
noncomputable def laA(a b o:Array Keyed)(i j:Nat):Array Keyed:=o++b.extract j b.size++a.extract i a.size
theorem FC(a b:Array Keyed):mlo a b=(do
 rule "list.sort.merge-lo"
 let mut o:Array Keyed:=#[←elem' b 0]
 let mut i:=0
 let mut j:=1
 if j == b.size then return fiA a b o i j
 if i+1 == a.size then return laA a b o i j
 let mut g:=gallopOf (←get)
 for _ in [0:a.size+b.size] do
  let mut x:=0
  let mut y:=0
  for _ in [0:a.size+b.size] do
   let some t ←lt' (←elem' b j) (←elem' a i)|return fiA a b o i j
   if t then
    o:=o.push (←elem' b j);j:=j+1;y:=y+1;x:=0
    if j == b.size then return fiA a b o i j
    if y≥g then break
   else
    o:=o.push (←elem' a i);i:=i+1;x:=x+1;y:=0
    if i+1 == a.size then return laA a b o i j
    if x≥g then break
  rule "list.sort.gallop"
  g:=g+1
  for _ in [0:a.size+b.size] do
   if g>1 then g:=g-1
   smg g
   let some k ←gal false (←elem' b j) a i (a.size-i) 0|return fiA a b o i j
   x:=k
   if k>0 then
    o:=o++a.extract i (i+k);i:=i+k
    if i+1 == a.size then return laA a b o i j
    if i == a.size then return fiA a b o i j
   o:=o.push (←elem' b j);j:=j+1
   if j == b.size then return fiA a b o i j
   let some k ←gal true (←elem' a i) b j (b.size-j) 0|return fiA a b o i j
   y:=k
   if k>0 then
    o:=o++b.extract j (j+k);j:=j+k
    if j == b.size then return fiA a b o i j
   o:=o.push (←elem' a i);i:=i+1
   if i+1 == a.size then return laA a b o i j
   if x<7&&y<7 then break
  g:=g+1
  smg g
 unsupported "internal:list.sort.merge-bound"):=rfl
section
variable{prog:Program}{w:World}{A:Around}{E:Value→Shared→Prop}{s:Shared}
structure Rn1(a:Array Keyed):Prop where
 n:∀ p∈a.toList,∃ z t,p.1=.int z t
 up:Up a.toList
structure Gs(st st':SortSt):Prop where
 k:kindOf st'=kindOf st
 a:arrOf st'=arrOf st
 p:pendingOf st'=pendingOf st
 f:failedOf st'=failedOf st
noncomputable abbrev T7:=Option (Array Keyed)×Array Keyed×Nat×Nat×Nat×Nat×Nat
noncomputable def jp2(a b:Array Keyed)(i g x y:Nat)(o:Array Keyed)(j:Nat):StateT SortSt Sem (ForInStep T7):=do
 let e ←elem' a i
 if(i+1+1 == a.size)=true then pure (.done (some (laA a b (o.push e) (i+1) j),o.push e,i+1,j,g,x,y))
 else if(decide (x<7)&&decide (y<7))=true then pure (.done (none,o.push e,i+1,j,g,x,y)) else pure (.yield (none,o.push e,i+1,j,g,x,y))
noncomputable def jp1(a b:Array Keyed)(j g x y:Nat)(o:Array Keyed)(i:Nat):StateT SortSt Sem (ForInStep T7):=do
 let e ←elem' b j
 if(j+1 == b.size)=true then pure (.done (some (fiA a b (o.push e) i (j+1)),o.push e,i,j+1,g,x,y))
 else do
  let f ←elem' a i
  let z ←gal true f b (j+1) (b.size-(j+1)) 0
  match z with
  | some k=>if k>0 then(if(j+1+k == b.size)=true then pure (.done (some (fiA a b (o.push e++b.extract (j+1) (j+1+k)) i (j+1+k)),o.push e++b.extract (j+1) (j+1+k),i,j+1+k,g,x,k)) else jp2 a b i g x k (o.push e++b.extract (j+1) (j+1+k)) (j+1+k)) else jp2 a b i g x k (o.push e) (j+1)
  | _=>pure (.done (some (fiA a b (o.push e) i (j+1)),o.push e,i,j+1,g,x,y))
theorem qb{a:Array Keyed}(r:Rn1 a){i:Nat}(h:i<a.size):∃ t,a[i]=(.int (kn a[i]) t,a[i].2):=by
 obtain⟨z,t,e⟩:=r.n a[i] (by simp);refine⟨t,Prod.ext ?_ rfl⟩;show a[i].1=.int (numOf a[i].1) t;rw[e];rfl
theorem rf(a:Array Keyed)(i:Nat):(a.extract i a.size).toList=a.toList.drop i:=by
 rw[OL];show(a.toList.drop i).take (a.size-i)=_;rw[MW (by rw[ND,Nj];exact MR _)]
theorem yO(a:Array Keyed)(i k:Nat):(a.extract i (i+k)).toList=(a.toList.drop i).take k:=by
 rw[OL];show(a.toList.drop i).take (i+k-i)=_;rw[Nat.add_sub_cancel_left]
structure Wm(a b o:Array Keyed)(i j:Nat):Prop where
 m:MI a.toList b.toList o.toList i j
 i:i+1<a.size
 j:j<b.size
noncomputable def Rs(a b m:Array Keyed):Prop:=m.toList.Perm (a.toList++b.toList)∧Up m.toList
section
variable{a b o:Array Keyed}{i j k:Nat}
theorem xT(m:MI a.toList b.toList o.toList i j)(ra:Rn1 a)(rb:Rn1 b)(h:j=b.size∨i=a.size):Rs a b (fiA a b o i j):=by
 have e:(fiA a b o i j).toList=o.toList++a.toList.drop i++b.toList.drop j:=by unfold fiA;rw[NR,NR,rf,rf]
 have z:=m.IA ra.up rb.up λx hx y hy=>by
  rcases h with h|h
  ·rw[OD (by rw[h];simp)]at hy;cases hy
  ·rw[OD (by rw[h];simp)]at hx;cases hx
 unfold Rs;rw[e];exact z
theorem Al(m:MI a.toList b.toList o.toList i j)(ra:Rn1 a)(rb:Rn1 b)(h:i+1=a.size)(h2:∀ x∈b.toList,kn x≤kn (a[a.size-1]'(by omega))):Rs a b (laA a b o i j):=by
 have e:(laA a b o i j).toList=o.toList++b.toList.drop j++a.toList.drop i:=by unfold laA;rw[NR,NR,rf,rf]
 have z:=m.DM ra.up rb.up λx hx y hy=>by
  have hl:i<a.toList.length:=by simp;omega
  have:a.toList.drop i=[a.toList[i]]:=by rw[←drop_one hl,MW (by rw[ND,Nj];omega)]
  rw[this]at hy;rw[MO.mp hy];have e2:a.toList[i]=a[a.size-1]'(by omega):=by simp;congr 1;omega
  rw[e2];exact h2 x (Ol hx)
 unfold Rs;rw[e];exact z
theorem ye(m:MI a.toList b.toList o.toList i j)(ra:Rn1 a)(rb:Rn1 b)(hi:i<a.size)(h:∀ h:j<b.size,kn a[i]≤kn b[j]):MI a.toList b.toList (o.push a[i]).toList (i+1) j:=by
 have hl:i<a.toList.length:=by simpa using hi
 have:=m.ca (k:=1) ra.up λx hx y hy=>by
  rw[drop_one hl]at hx;rw[MO.mp hx];have jl:j<b.toList.length:=by
   rcases Oa j b.toList.length with z|z
   ·exact z
   ·rw[OD z]at hy;cases hy
  have:=rL rb.up jl y hy
  exact OX (by simpa using h (by simpa using jl)) this
 rw[drop_one hl]at this;rw[Pe];simpa using this
theorem yh(m:MI a.toList b.toList o.toList i j)(ra:Rn1 a)(rb:Rn1 b)(hj:j<b.size)(h:∀ h:i<a.size,kn b[j]≤kn a[i]):MI a.toList b.toList (o.push b[j]).toList i (j+1):=(ye m.sw rb ra hj h).sw
end
end
theorem Gs.trans{st st1 st2:SortSt}(x:Gs st st1)(y:Gs st1 st2):Gs st st2:=⟨y.k.trans x.k,y.a.trans x.a,y.p.trans x.p,y.f.trans x.f⟩
theorem Gs.refl{st:SortSt}:Gs st st:=⟨rfl,rfl,rfl,rfl⟩
noncomputable def P3(a b:Array Keyed)(n:Nat)(st:SortSt)(r:ForInStep T7)(st':SortSt):Prop:=Gs st st'∧match r with
 | .done c=>(∃ m,c.1=some m∧Rs a b m)∨∃ o i j g x y,c=(none,o,i,j,g,x,y)∧Wm a b o i j∧n≤i+j
 | .yield c=>∃ o i j g x y,c=(none,o,i,j,g,x,y)∧Wm a b o i j∧n≤i+j
section
variable{prog:Program}{w:World}{A:Around}{E:Value→Shared→Prop}{s:Shared}{a b o:Array Keyed}{i j n g x y:Nat}{st st':SortSt}
theorem cz{a:Array Keyed}{i:Nat}{Q:Keyed→SortSt→Prop}(h:i<a.size)(q:Q a[i] st):wpS (model prog w) A E s (elem' a i) Q st:=by
 rw[elem'_eq,NS h];exact wpS_pure q
theorem yP(ra:Rn1 a)(rb:Rn1 b)(h2:∀ h:0<a.size,∀ x∈b.toList,kn x≤kn (a[a.size-1]'(by omega)))(m:MI a.toList b.toList o.toList i j)(hi:i+1<a.size)(hj:j<b.size)(c:kn (a[i]'(by omega))≤kn b[j])(hn:n≤i+j+1)(gs:Gs st st'):wpS (model prog w) A E s (jp2 a b i g x y o j) (P3 a b n st) st':=by
 unfold jp2;refine wpS_bind (cz (by omega) ?_);have m':=ye m ra rb (by omega) λ_=>c;by_cases e:i+1+1=a.size
 ·rw[if_pos (by simp[e])]
  exact wpS_pure ⟨gs,.inl ⟨_,rfl,Al m' ra rb e (h2 (by omega))⟩⟩
 ·rw[if_neg (by simp[e])]
  have w:Wm a b (o.push (a[i]'(by omega))) (i+1) j:=⟨m',by omega,hj⟩;split
  ·exact wpS_pure ⟨gs,.inr ⟨_,_,_,_,_,_,rfl,w,by omega⟩⟩
  ·exact wpS_pure ⟨gs,_,_,_,_,_,_,rfl,w,by omega⟩
theorem Cd{a:Array Keyed}(r:Rn1 a){b i:Nat}(h:i<a.size-b):∃ t p,a[b+i]?=some (.int (kn (a[b+i]'(by omega))) t,p):=by
 obtain⟨t,e⟩:=qb r (i:=b+i) (by omega);exact⟨t,_,by rw[NS (by omega),←e]⟩
theorem EB{a:Array Keyed}(r:Rn1 a){i j:Nat}(ij:i≤j)(h:j<a.size):kn (a[i]'(by omega))≤kn a[j]:=by
 rcases Oa i j with c|c
 ·have:=Ov.mp r.up i j (by simp;omega) (by simpa using h) c
  simpa using this
 ·have:i=j:=by omega
  subst this;exact NL _
noncomputable def vAt(a:Array Keyed)(b i:Nat):Int:=match a[b+i]? with
 | some p=>kn p
 | none=>0
theorem mO{a:Array Keyed}{b i:Nat}(h:b+i<a.size):vAt a b i=kn a[b+i]:=by unfold vAt;rw[NS h]
theorem wX{a:Array Keyed}{left:Bool}{bs:Nat}{key:Keyed}{Q:Option Nat→SortSt→Prop}(hk:kindOf st=oneType')(ra:Rn1 a)(hb:bs<a.size)(kk:∃ t,key=(.int (kn key) t,key.2))
  (q:∀ r,bs+r≤a.size→(∀ i (h:bs+i<a.size),i<r→bU left (kn key) (kn a[bs+i])=true)→(∀ i (h:bs+i<a.size),r≤i→bU left (kn key) (kn a[bs+i])=false)→Q (some r) st):wpS (model prog w) A E s (gal left key a bs (a.size-bs) 0) Q st:=by
 obtain⟨t,e⟩:=kk;rw[e];refine q9 hk (vAt a bs) (λi hi=>?_) (λi j ij jn=>?_) (by omega) λr rn h1 h3=>q r (by omega) (λi h hi=>?_) (λi h hi=>?_)
 ·obtain⟨t,p,z⟩:=Cd ra hi
  exact⟨t,p,by rw[mO (by omega)];exact z⟩
 ·rw[mO (by omega),mO (by omega)]
  exact EB ra (by omega) (by omega)
 ·rw[←mO h];exact h1 i hi
 ·rw[←mO h];exact h3 i hi (by omega)
theorem u9{c v:Int}(h:bU false c v=true):v≤c:=by
 have h:(!decide (c<v))=true:=h;simp at h;exact h
theorem rg{c v:Int}(h:bU false c v=false):c<v:=by
 have h:(!decide (c<v))=false:=h;simpa using h
theorem va{c v:Int}(h:bU true c v=true):v<c:=of_decide_eq_true h
theorem rh{c v:Int}(h:bU true c v=false):c≤v:=Pm.mp (of_decide_eq_false h)
theorem yQ(hk:kindOf st'=oneType')(ra:Rn1 a)(rb:Rn1 b)(h2:∀ h:0<a.size,∀ x∈b.toList,kn x≤kn (a[a.size-1]'(by omega)))(m:MI a.toList b.toList o.toList i j)(hi:i+1<a.size)(hj:j<b.size)(c:kn b[j]≤kn (a[i]'(by omega)))(hn:n≤i+j+1)(gs:Gs st st'):wpS (model prog w) A E s (jp1 a b j g x y o i) (P3 a b n st) st':=by
 unfold jp1;refine wpS_bind (cz hj ?_);have m1:=yh m ra rb hj λ_=>c;by_cases e:j+1=b.size
 ·rw[if_pos (by simp[e])]
  exact wpS_pure ⟨gs,.inl ⟨_,rfl,xT m1 ra rb (.inl e)⟩⟩
 ·rw[if_neg (by simp[e])]
  refine wpS_bind (cz (by omega) ?_);refine wpS_bind (wX hk rb (by omega) (qb ra (by omega)) λk hk1 hk2 hk3=>?_);dsimp only;by_cases k0:k>0
  ·rw[if_pos k0]
   have m2:MI a.toList b.toList (o.push b[j]++b.extract (j+1) (j+1+k)).toList i (j+1+k):=by
    rw[NR,yO];refine m1.cb rb.up λz hz y hy=>?_;obtain⟨q,hq,rfl⟩:=O8 hz;have hq':q<k∧j+1+q<b.size:=by
     rw[MZ,ND,Nj]at hq;omega
    have ez:((b.toList.drop (j+1)).take k)[q]=b[j+1+q]'hq'.2:=(by simp);rw[ez];have z1:=va (hk2 q hq'.2 hq'.1);have z2:=rL ra.up (i:=i) (by simp;omega) y hy;have z3:kn (a.toList[i]'(by simp;omega))=kn (a[i]'(by omega)):=(by simp);omega
   by_cases e2:j+1+k=b.size
   ·rw[if_pos (by simp[e2])]
    exact wpS_pure ⟨gs,.inl ⟨_,rfl,xT m2 ra rb (.inl e2)⟩⟩
   ·rw[if_neg (by simp[e2])]
    exact yP ra rb h2 m2 hi (by omega) (rh (hk3 k (by omega) (MR _))) (by omega) gs
  ·rw[if_neg k0]
   obtain rfl:k=0:=(by omega);exact yP ra rb h2 m1 hi (by omega) (rh (hk3 0 (by omega) (MR _))) (by omega) gs
theorem DN{w_:World}{Q:Array Keyed→SortSt→Prop}(hk:kindOf st=oneType')(ra:Rn1 a)(rb:Rn1 b)(na:0<a.size)(nb:0<b.size)(h1:kn b[0]≤kn a[0])(h2:∀ x∈b.toList,kn x≤kn (a[a.size-1]'(by omega)))
  (q:∀ m st',Gs st st'→Rs a b m→Q m st'):wpS (model prog w_) A E s (mlo a b) Q st:=by
 rw[FC];refine wpS_bind (wpS_lift (wpAny_rule ⟨rfl,?_⟩));refine wpS_bind (cz nb ?_);have m0:MI a.toList b.toList (#[]:Array Keyed).toList 0 0:=⟨by simp,List.Pairwise.nil,(λx h=>nomatch h),(λx h=>nomatch h)⟩;have m1:MI a.toList b.toList (#[b[0]]:Array Keyed).toList 0 1:=yh m0 ra rb nb λ_=>h1;dsimp only;by_cases e:1=b.size
 ·rw[if_pos (by simp[e])]
  exact wpS_pure (q _ _ .refl (xT m1 ra rb (.inl e)))
 rw[if_neg (by simp[e])];by_cases e2:0+1=a.size
 ·rw[if_pos (by simp[e2])]
  exact wpS_pure (q _ _ .refl (Al m1 ra rb e2 h2))
 rw[if_neg (by simp;omega)];refine wpS_bind (wpS_get ?_);refine wpS_bind (wpS_mono (wpS_forRange (I:=λn c st'=>Gs st st'∧∃ o i j g,c=(none,o,i,j,g)∧Wm a b o i j∧n≤i+j) (Q:=λc st'=>Gs st st'∧∃ m,c.1=some m∧Rs a b m) ?one ?all ⟨.refl,_,_,_,_,rfl,⟨m1,by omega,by omega⟩,by omega⟩) ?rest)
 case rest =>
  rintro c st' ⟨gs,m,em,rs⟩;rw[em];exact wpS_pure (q m st' gs rs)
 case all =>
  rintro c st' ⟨gs,o,i,j,g,rfl,w,hn⟩
  have:=w.i
  have:=w.j
  omega
 case one =>
  rintro n c st1 _ hn ⟨gs,o,i,j,g,rfl,w,hij⟩;dsimp only;refine wpS_bind (wpS_mono (wpS_forRange (I:=λ_ c st'=>st'=st1∧∃ o i j x y,c=(none,o,i,j,x,y)∧Wm a b o i j∧n≤i+j) (Q:=λc st'=>st'=st1∧((∃ m,c.1=some m∧Rs a b m)∨∃ o i j x y,c=(none,o,i,j,x,y)∧Wm a b o i j∧n≤i+j)) ?in1 ?inE ⟨rfl,_,_,_,_,_,rfl,w,hij⟩) ?mid)
  case inE =>
   rintro c st' ⟨rfl,z⟩;exact⟨rfl,.inr z⟩
  case in1 =>
   rintro t c st' _ _ ⟨rfl,o,i,j,x,y,rfl,w,hij⟩;have wi:=w.i;have wj:=w.j;dsimp only;refine wpS_bind (cz wj (wpS_bind (cz (by omega) ?_)));obtain⟨ta,ea⟩:=qb ra (i:=i) (by omega);obtain⟨tb,eb⟩:=qb rb wj;rw[ea,eb];refine wpS_bind (m9 (by rw[gs.k];exact hk) ?_);by_cases d:kn b[j]<kn (a[i]'(by omega))
   ·rw[decide_eq_true d]
    dsimp only;rw[if_pos rfl];refine wpS_bind (cz wj ?_);have m2:=yh w.m ra rb wj λ_=>NZ d;by_cases f:j+1=b.size
    ·rw[if_pos (by simp[f])]
     exact wpS_pure ⟨rfl,.inl ⟨_,rfl,xT m2 ra rb (.inl f)⟩⟩
    ·rw[if_neg (by simp[f])]
     have w2:Wm a b (o.push b[j]) i (j+1):=⟨m2,wi,by omega⟩;split
     ·exact wpS_pure ⟨rfl,.inr ⟨_,_,_,_,_,rfl,w2,by omega⟩⟩
     ·exact wpS_pure ⟨rfl,_,_,_,_,_,rfl,w2,by omega⟩
   ·rw[decide_eq_false d]
    dsimp only;rw[if_neg (by decide)];refine wpS_bind (cz (by omega) ?_);have m2:=ye w.m ra rb (by omega) λ_=>Pm.mp d;by_cases f:i+1+1=a.size
    ·rw[if_pos (by simp[f])]
     exact wpS_pure ⟨rfl,.inl ⟨_,rfl,Al m2 ra rb f h2⟩⟩
    ·rw[if_neg (by simp[f])]
     have w2:Wm a b (o.push (a[i]'(by omega))) (i+1) j:=⟨m2,by omega,wj⟩;split
     ·exact wpS_pure ⟨rfl,.inr ⟨_,_,_,_,_,rfl,w2,by omega⟩⟩
     ·exact wpS_pure ⟨rfl,_,_,_,_,_,rfl,w2,by omega⟩
  case mid =>
   rintro⟨r,o,i,j,x,y⟩ st' ⟨rfl,z⟩;rcases z with⟨m,em,rs⟩|⟨o,i,j,x,y,ec,w,hij⟩
   ·cases em
    dsimp only;exact wpS_pure ⟨gs,m,rfl,rs⟩
   ·cases ec
    dsimp only;refine wpS_bind (wpS_lift (wpAny_rule ⟨rfl,?_⟩));refine wpS_bind (wpS_mono (wpS_forRange (I:=λt c st2=>Gs st st2∧∃ o i j g x y,c=(none,o,i,j,g,x,y)∧Wm a b o i j∧n+t≤i+j) (Q:=λc st2=>Gs st st2∧((∃ m,c.1=some m∧Rs a b m)∨∃ o i j g x y,c=(none,o,i,j,g,x,y)∧Wm a b o i j∧n+1≤i+j)) ?th1 ?thE ⟨gs,_,_,_,_,_,_,rfl,w,by omega⟩) ?fin)
    case thE =>
     rintro c st2 ⟨gs2,o,i,j,g,x,y,rfl,w,hij⟩;exact⟨gs2,.inr ⟨_,_,_,_,_,_,rfl,w,by omega⟩⟩
    case fin =>
     rintro⟨r,o,i,j,g,x,y⟩ st2 ⟨gs2,z⟩;rcases z with⟨m,em,rs⟩|⟨o,i,j,g,x,y,ec,w,hij⟩
     ·cases em
      dsimp only;exact wpS_pure ⟨gs2,m,rfl,rs⟩
     ·cases ec
      dsimp only;rw[u7];exact wpS_bind (wpS_modify (wpS_pure ⟨gs2.trans ⟨rfl,rfl,rfl,rfl⟩,_,_,_,_,rfl,w,by omega⟩))
    case th1 =>
     rintro t c st2 _ _ ⟨gs2,o,i,j,g,x,y,rfl,w,hij⟩;have wi:=w.i;have wj:=w.j;have body:∀ g,wpS (model prog w_) A E s (do
       smg g
       let e ←elem' b j
       let z ←gal false e a i (a.size-i) 0
       match z with
       | some k=>if k>0 then(if(i+k+1 == a.size)=true then pure (.done (some (laA a b (o++a.extract i (i+k)) (i+k) j),o++a.extract i (i+k),i+k,j,g,k,y)) else if(i+k == a.size)=true then pure (.done (some (fiA a b (o++a.extract i (i+k)) (i+k) j),o++a.extract i (i+k),i+k,j,g,k,y)) else jp1 a b j g k y (o++a.extract i (i+k)) (i+k)) else jp1 a b j g k y o i
       | _=>pure (.done (some (fiA a b o i j),o,i,j,g,x,y))) (P3 a b (n+t+1) st) st2:=by
      intro g;rw[u7];refine wpS_bind (wpS_modify ?_);obtain⟨st3,e3⟩:∃ st3,SortSt.mk' (kindOf st2) (arrOf st2) (pendingOf st2) g (failedOf st2)=st3:=⟨_,rfl⟩;rw[e3];have gs3:Gs st st3:=gs2.trans (by rw[←e3];exact⟨rfl,rfl,rfl,rfl⟩);have hk3:kindOf st3=oneType':=(by rw[gs3.k];exact hk);refine wpS_bind (cz wj ?_);refine wpS_bind (wX hk3 ra (by omega) (qb rb wj) λk k1 k2 k3=>?_);dsimp only;by_cases k0:k>0
      ·rw[if_pos k0]
       have m2:MI a.toList b.toList (o++a.extract i (i+k)).toList (i+k) j:=by
        rw[NR,yO];refine w.m.ca ra.up λz hz y hy=>?_;obtain⟨q,hq,rfl⟩:=O8 hz;have hq':q<k∧i+q<a.size:=by
         rw[MZ,ND,Nj]at hq;omega
        have ez:((a.toList.drop i).take k)[q]=a[i+q]'hq'.2:=(by simp);rw[ez];have z1:=u9 (k2 q hq'.2 hq'.1);have z2:=rL rb.up (i:=j) (by simpa using wj) y hy;have z3:kn (b.toList[j]'(by simpa using wj))=kn b[j]:=(by simp);omega
       by_cases f1:i+k+1=a.size
       ·rw[if_pos (by simp[f1])]
        exact wpS_pure ⟨gs3,.inl ⟨_,rfl,Al m2 ra rb f1 h2⟩⟩
       ·rw[if_neg (by simp[f1])]
        by_cases f2:i+k=a.size
        ·rw[if_pos (by simp[f2])]
         exact wpS_pure ⟨gs3,.inl ⟨_,rfl,xT m2 ra rb (.inr f2)⟩⟩
        ·rw[if_neg (by simp[f2])]
         exact yQ hk3 ra rb (λ_=>h2) m2 (by omega) wj (NZ (rg (k3 k (by omega) (MR _)))) (by omega) gs3
      ·rw[if_neg k0]
       obtain rfl:k=0:=(by omega);exact yQ hk3 ra rb (λ_=>h2) w.m wi wj (NZ (rg (k3 0 (by omega) (MR _)))) (by omega) gs3
     have conv:∀(r:ForInStep T7) st3,P3 a b (n+t+1) st r st3→(match r with|.done c'=>Gs st st3∧((∃ m,c'.1=some m∧Rs a b m)∨∃ o i j g x y,c'=(none,o,i,j,g,x,y)∧Wm a b o i j∧n+1≤i+j)|.yield c'=>Gs st st3∧∃ o i j g x y,c'=(none,o,i,j,g,x,y)∧Wm a b o i j∧n+(t+1)≤i+j):=by
      rintro r st3 ⟨g3,z⟩;cases r with
      | done c'=>exact⟨g3,z.imp id λ⟨o,i,j,g,x,y,e,w,l⟩=>⟨o,i,j,g,x,y,e,w,by omega⟩⟩
      | yield c'=>obtain⟨o,i,j,g,x,y,e,w,l⟩:=z;exact⟨g3,o,i,j,g,x,y,e,w,by omega⟩
     by_cases gg:g>1
     ·refine wpS_mono (Q:=P3 a b (n+t+1) st) ?_ λr st3 hz=>by(have zz:=conv r st3 hz;cases r<;>exact zz)
      have z:=body (g-1);show wpS (model prog w_) A E s (if g>1 then _ else _) _ _;rw[if_pos gg];exact z
     ·refine wpS_mono (Q:=P3 a b (n+t+1) st) ?_ λr st3 hz=>by(have zz:=conv r st3 hz;cases r<;>exact zz)
      have z:=body g;show wpS (model prog w_) A E s (if g>1 then _ else _) _ _;rw[if_neg gg];exact z
end
structure MH(a b o:List Keyed)(i j:Nat):Prop where
 pm:o.Perm (a.drop i++b.drop j)
 up:Up o
 la:∀ y∈a.take i,∀ x∈o,kn y≤kn x
 lb:∀ y∈b.take j,∀ x∈o,kn y≤kn x
section
variable{a b o:List Keyed}{i j k:Nat}
theorem MH.sw(m:MH a b o i j):MH b a o j i:=⟨m.pm.trans N5,m.up,m.lb,m.la⟩
theorem eh{l:List Keyed}(ki:k≤i):l.take i=l.take k++(l.take i).drop k:=by
 have:(l.take i).take k=l.take k:=by rw[List.take_take,O7 ki]
 rw[←this,Np]
theorem MH.ca(m:MH a b o i j)(ua:Up a)(ki:k≤i)(h:∀ x∈(a.take i).drop k,∀ y∈b.take j,kn y≤kn x):MH a b ((a.take i).drop k++o) k j where
 pm:=by
  have e:a.drop k=(a.take i).drop k++a.drop i:=by
   have h1:a.take k++a.drop k=a.take k++((a.take i).drop k++a.drop i):=(by rw[Np,←Ni,←eh ki,Np]);exact List.append_cancel_left h1
  rw[e,Ni];exact List.Perm.append_left _ m.pm
 up:=Nq.mpr ⟨(ua.sublist (Om _ _)).sublist (Ox _ _),m.up,λx hx y hy=>m.la x (Ol hx) y hy⟩
 la:=λy hy x hx=>by
  have u2:Up (a.take k++(a.take i).drop k):=by rw[←eh ki];exact ua.sublist (Om _ _)
  rcases MS.mp hx with z|z
  ·exact(Nq.mp u2).2.2 y hy x z
  ·exact m.la y (by rw[eh ki];exact Nd _ hy) x z
 lb:=λy hy x hx=>(MS.mp hx).elim (λz=>h x z y hy) λz=>m.lb y hy x z
theorem MH.cb(m:MH a b o i j)(ub:Up b)(kj:k≤j)(h:∀ x∈(b.take j).drop k,∀ y∈a.take i,kn y≤kn x):MH a b ((b.take j).drop k++o) i k:=(m.sw.ca ub kj h).sw
theorem MH.DM(m:MH a b o i j)(ua:Up a)(ub:Up b)(h:∀ y∈b.take j,∀ x∈a.take i,kn y≤kn x):(b.take j++a.take i++o).Perm (a++b)∧Up (b.take j++a.take i++o):=by
 constructor
 ·refine(List.Perm.append_left _ m.pm).trans ?_
  rw[Ni,←Ni (a.take i),Np];refine N5.trans ?_;rw[Ni];refine List.Perm.append_left _ ?_;refine N5.trans ?_;rw[Np]
 ·refine Nq.mpr ⟨Nq.mpr ⟨ub.sublist (Om _ _),ua.sublist (Om _ _),h⟩,m.up,λx hx y hy=>?_⟩
  exact(MS.mp hx).elim (λz=>m.lb x z y hy) λz=>m.la x z y hy
theorem MH.IA(m:MH a b o i j)(ua:Up a)(ub:Up b)(h:∀ y∈a.take i,∀ x∈b.take j,kn y≤kn x):(a.take i++b.take j++o).Perm (a++b)∧Up (a.take i++b.take j++o) :=
 let ⟨x,y⟩:=m.sw.DM ub ua h;⟨x.trans N5,y⟩
theorem DO{l:List Keyed}(h:i<l.length):(l.take (i+1)).drop i=[l[i]]:=by
 rw[MT h,List.drop_append_of_le_length (by rw[MZ];omega),OD (by rw[MZ];omega)];rfl
theorem uM{l:List Keyed}(u:Up l)(h:i<l.length):∀ y∈l.take (i+1),kn y≤kn l[i]:=λy hy=>by
 have u2:Up (l.take (i+1)):=u.sublist (Om _ _);rw[MT h]at hy u2;rcases MS.mp hy with z|z
 ·exact(Nq.mp u2).2.2 y z _ (MO.mpr rfl)
 ·rw[MO.mp z];exact NL _
end
noncomputable def mhi:Array Keyed→Array Keyed→StateT SortSt Sem (Array Keyed):=sortPriv% PySem.Builtin.mergeHi
noncomputable def doA(a b o:Array Keyed)(i j:Nat):Array Keyed:=a.extract 0 i++b.extract 0 j++o.reverse
noncomputable def fbA(a b o:Array Keyed)(i j:Nat):Array Keyed:=b.extract 0 j++a.extract 0 i++o.reverse
theorem FD(a b:Array Keyed):mhi a b=(do
 rule "list.sort.merge-hi"
 let mut i:=a.size-1
 let mut j:=b.size
 let mut o:Array Keyed:=#[←elem' a i]
 if i == 0 then return doA a b o i j
 if j == 1 then return fbA a b o i j
 let mut g:=gallopOf (←get)
 for _ in [0:a.size+b.size] do
  let mut x:=0
  let mut y:=0
  for _ in [0:a.size+b.size] do
   let some t ←lt' (←elem' b (j-1)) (←elem' a (i-1))|return doA a b o i j
   if t then
    i:=i-1;o:=o.push (←elem' a i);x:=x+1;y:=0
    if i == 0 then return doA a b o i j
    if x≥g then break
   else
    j:=j-1;o:=o.push (←elem' b j);y:=y+1;x:=0
    if j == 1 then return fbA a b o i j
    if y≥g then break
  rule "list.sort.gallop"
  g:=g+1
  for _ in [0:a.size+b.size] do
   if g>1 then g:=g-1
   smg g
   let some r ←gal false (←elem' b (j-1)) a 0 i (i-1)|return doA a b o i j
   let k:=i-r
   x:=k
   if k>0 then
    o:=o++(a.extract r i).reverse;i:=r
    if i == 0 then return doA a b o i j
   j:=j-1;o:=o.push (←elem' b j)
   if j == 1 then return fbA a b o i j
   let some r ←gal true (←elem' a (i-1)) b 0 j (j-1)|return doA a b o i j
   let k:=j-r
   y:=k
   if k>0 then
    o:=o++(b.extract r j).reverse;j:=r
    if j == 1 then return fbA a b o i j
    if j == 0 then return doA a b o i j
   i:=i-1;o:=o.push (←elem' a i)
   if i == 0 then return doA a b o i j
   if x<7&&y<7 then break
  g:=g+1
  smg g
 unsupported "internal:list.sort.merge-bound"):=rfl
structure Wh(a b o:Array Keyed)(i j:Nat):Prop where
 m:MH a.toList b.toList o.toList.reverse i j
 i0:0<i
 il:i<a.size
 j0:1<j
 jl:j≤b.size
section
variable{a b o:Array Keyed}{i j k:Nat}
theorem EC(a:Array Keyed)(i:Nat):(a.extract 0 i).toList=a.toList.take i:=by
 rw[OL];show(a.toList.drop 0).take (i-0)=_;rw[List.drop_zero,Nat.sub_zero]
theorem jN(a:Array Keyed)(r i:Nat):(a.extract r i).toList=(a.toList.take i).drop r:=by
 rw[OL,List.drop_take]
theorem xU(m:MH a.toList b.toList o.toList.reverse i j)(ra:Rn1 a)(rb:Rn1 b)(h:i=0∨j=0):Rs a b (doA a b o i j):=by
 have e:(doA a b o i j).toList=a.toList.take i++b.toList.take j++o.toList.reverse:=by unfold doA;rw[NR,NR,EC,EC,O3]
 have z:=m.IA ra.up rb.up λy hy x hx=>by
  rcases h with h|h
  ·rw[h]at hy;cases hy
  ·rw[h]at hx;cases hx
 unfold Rs;rw[e];exact z
theorem Am(m:MH a.toList b.toList o.toList.reverse i j)(ra:Rn1 a)(rb:Rn1 b)(nb:0<b.size)(h:j=1)(h1:∀ x∈a.toList,kn b[0]≤kn x):Rs a b (fbA a b o i j):=by
 have e:(fbA a b o i j).toList=b.toList.take j++a.toList.take i++o.toList.reverse:=by unfold fbA;rw[NR,NR,EC,EC,O3]
 have z:=m.DM ra.up rb.up λy hy x hx=>by
  rw[h,MT (by simpa using nb)]at hy
  have:y=b[0]:=by simpa using hy
  rw[this];exact h1 x (Oj hx)
 unfold Rs;rw[e];exact z
theorem rj(m:MH a.toList b.toList o.toList.reverse i j)(ra:Rn1 a)(rb:Rn1 b)(hi:0<i)(il:i≤a.size)(jl:j≤b.size)(h:∀ h:0<j,kn (b[j-1]'(by omega))≤kn (a[i-1]'(by omega))):MH a.toList b.toList (o.push (a[i-1]'(by omega))).toList.reverse (i-1) j:=by
 have hl:i-1<a.toList.length:=by simp;omega
 have sg:(a.toList.take i).drop (i-1)=[a.toList[i-1]]:=by
  have:=DO hl
  rwa[show i-1+1=i by omega]at this
 have:=m.ca (k:=i-1) ra.up (by omega) λx hx y hy=>by
  rw[sg]at hx;rw[MO.mp hx];have j0:0<j:=by
   rcases Nat.eq_zero_or_pos j with z|z
   ·rw[z]at hy;cases hy
   ·exact z
  have jl':j-1<b.toList.length:=by simp;omega
  have z:=uM rb.up jl' y (by rw[show j-1+1=j by omega];exact hy);have z2:=h j0;have e1:kn (b.toList[j-1]'jl')=kn (b[j-1]'(by omega)):=by simp
  have e2:kn (a.toList[i-1]'hl)=kn (a[i-1]'(by omega)):=by simp
  omega
 rw[sg]at this;rw[Pe,List.reverse_append];simpa using this
theorem yR(m:MH a.toList b.toList o.toList.reverse i j)(ra:Rn1 a)(rb:Rn1 b)(hj:0<j)(jl:j≤b.size)(il:i≤a.size)(h:∀ h:0<i,kn (a[i-1]'(by omega))≤kn (b[j-1]'(by omega))):MH a.toList b.toList (o.push (b[j-1]'(by omega))).toList.reverse i (j-1):=(rj m.sw rb ra hj jl il h).sw
end
noncomputable abbrev T7h:=Option (Array Keyed)×Nat×Nat×Array Keyed×Nat×Nat×Nat
noncomputable def P4(a b:Array Keyed)(n:Nat)(st:SortSt)(r:ForInStep T7h)(st':SortSt):Prop:=Gs st st'∧match r with
 | .done c=>(∃ m,c.1=some m∧Rs a b m)∨∃ i j o g x y,c=(none,i,j,o,g,x,y)∧Wh a b o i j∧i+j+n≤a.size+b.size
 | .yield c=>∃ i j o g x y,c=(none,i,j,o,g,x,y)∧Wh a b o i j∧i+j+n≤a.size+b.size
noncomputable def jq2(a b:Array Keyed)(i g x y:Nat)(o:Array Keyed)(j:Nat):StateT SortSt Sem (ForInStep T7h):=do
 let e ←elem' a (i-1)
 if(i-1 == 0)=true then pure (.done (some (doA a b (o.push e) (i-1) j),i-1,j,o.push e,g,x,y))
 else if(decide (x<7)&&decide (y<7))=true then pure (.done (none,i-1,j,o.push e,g,x,y)) else pure (.yield (none,i-1,j,o.push e,g,x,y))
section
variable{prog:Program}{w:World}{A:Around}{E:Value→Shared→Prop}{s:Shared}{a b o:Array Keyed}{i j n g x y:Nat}{st st':SortSt}
theorem yS(ra:Rn1 a)(rb:Rn1 b)(m:MH a.toList b.toList o.toList.reverse i j)(hi:0<i)(il:i<a.size)(hj:1<j)(jl:j≤b.size)(c:kn (b[j-1]'(by omega))≤kn (a[i-1]'(by omega)))(hn:i+j+n≤a.size+b.size+1)(gs:Gs st st'):wpS (model prog w) A E s (jq2 a b i g x y o j) (P4 a b n st) st':=by
 unfold jq2;refine wpS_bind (cz (by omega) ?_);have m':=rj m ra rb hi (by omega) jl λ_=>c;by_cases e:i-1=0
 ·rw[if_pos (by simp[e])]
  exact wpS_pure ⟨gs,.inl ⟨_,rfl,xU m' ra rb (.inl e)⟩⟩
 ·rw[if_neg (by simp[e])]
  have w:Wh a b (o.push (a[i-1]'(by omega))) (i-1) j:=⟨m',by omega,by omega,hj,jl⟩;split
  ·exact wpS_pure ⟨gs,.inr ⟨_,_,_,_,_,_,rfl,w,by omega⟩⟩
  ·exact wpS_pure ⟨gs,_,_,_,_,_,_,rfl,w,by omega⟩
theorem wY{a:Array Keyed}{left:Bool}{n k:Nat}{key:Keyed}{Q:Option Nat→SortSt→Prop}(hk:kindOf st=oneType')(ra:Rn1 a)(hn:n≤a.size)(kn':k<n)(kk:∃ t,key=(.int (kn key) t,key.2))
  (q:∀ r,r≤n→(∀ i (h:i<n),i<r→bU left (kn key) (kn (a[i]'(by omega)))=true)→(∀ i (h:i<n),r≤i→bU left (kn key) (kn (a[i]'(by omega)))=false)→Q (some r) st):wpS (model prog w) A E s (gal left key a 0 n k) Q st:=by
 obtain⟨t,e⟩:=kk;rw[e];have ev:∀ {i:Nat} (h:i<n),vAt a 0 i=kn (a[i]'(by omega)):=λ{i} h=>by rw[mO (by omega)];congr 2;omega
 refine q9 hk (vAt a 0) (λi hi=>?_) (λi j ij jn=>?_) kn' λr rn h1 h3=>q r rn (λi h hi=>?_) (λi h hi=>?_)
 ·obtain⟨t,p,z⟩:=Cd ra (b:=0) (i:=i) (by omega)
  exact⟨t,p,by rw[mO (by omega)];exact z⟩
 ·rw[ev (by omega),ev jn]
  exact EB ra ij (by omega)
 ·rw[←ev h];exact h1 i hi
 ·rw[←ev h];exact h3 i hi h
end
noncomputable def jq1(a b:Array Keyed)(j g x y:Nat)(o:Array Keyed)(i:Nat):StateT SortSt Sem (ForInStep T7h):=do
 let e ←elem' b (j-1)
 if(j-1 == 1)=true then pure (.done (some (fbA a b (o.push e) i (j-1)),i,j-1,o.push e,g,x,y))
 else do
  let f ←elem' a (i-1)
  let z ←gal true f b 0 (j-1) (j-1-1)
  match z with
  | some r=>if j-1-r>0 then(if(r == 1)=true then pure (.done (some (fbA a b (o.push e++(b.extract r (j-1)).reverse) i r),i,r,o.push e++(b.extract r (j-1)).reverse,g,x,j-1-r)) else if(r == 0)=true then pure (.done (some (doA a b (o.push e++(b.extract r (j-1)).reverse) i r),i,r,o.push e++(b.extract r (j-1)).reverse,g,x,j-1-r)) else jq2 a b i g x (j-1-r) (o.push e++(b.extract r (j-1)).reverse) r) else jq2 a b i g x (j-1-r) (o.push e) (j-1)
  | _=>pure (.done (some (doA a b (o.push e) i (j-1)),i,j-1,o.push e,g,x,y))
section
variable{prog:Program}{w:World}{A:Around}{E:Value→Shared→Prop}{s:Shared}{a b o:Array Keyed}{i j n g x y:Nat}{st st':SortSt}
theorem yT(o:Array Keyed)(l:Array Keyed):(o++l.reverse).toList.reverse=l.toList++o.toList.reverse:=by
 rw[NR,List.reverse_append,O3,List.reverse_reverse]
theorem uN{a:Array Keyed}{r i:Nat}{p:Keyed}(il:i≤a.size)(h:p∈(a.toList.take i).drop r):∃ q,r≤q∧∃ h:q<i,p=a[q]'(by omega):=by
 obtain⟨k,hk,rfl⟩:=O8 h;have hk':k<i-r:=by
  rw[ND,MZ,Nj]at hk;omega
 exact⟨r+k,by omega,by omega,by simp⟩
theorem yU(hk:kindOf st'=oneType')(ra:Rn1 a)(rb:Rn1 b)(h1:∀ h:0<b.size,∀ x∈a.toList,kn b[0]≤kn x)(m:MH a.toList b.toList o.toList.reverse i j)(hi:0<i)(il:i<a.size)(hj:1<j)(jl:j≤b.size)(c:kn (a[i-1]'(by omega))≤kn (b[j-1]'(by omega)))(hn:i+j+n≤a.size+b.size+1)(gs:Gs st st'):wpS (model prog w) A E s (jq1 a b j g x y o i) (P4 a b n st) st':=by
 unfold jq1;refine wpS_bind (cz (by omega) ?_);have m1:=yR m ra rb (by omega) jl (by omega) λ_=>c;by_cases e:j-1=1
 ·rw[if_pos (by simp[e])]
  exact wpS_pure ⟨gs,.inl ⟨_,rfl,Am m1 ra rb (by omega) e (h1 (by omega))⟩⟩
 ·rw[if_neg (by simp[e])]
  refine wpS_bind (cz (by omega) ?_);refine wpS_bind (wY hk rb (by omega) (by omega) (qb ra (by omega)) λr rn k2 k3=>?_);dsimp only;by_cases k0:j-1-r>0
  ·rw[if_pos k0]
   have m2:MH a.toList b.toList (o.push (b[j-1]'(by omega))++(b.extract r (j-1)).reverse).toList.reverse i r:=by
    rw[yT,jN];refine m1.cb rb.up (by omega) λp hp y hy=>?_;obtain⟨q,q1,q2,rfl⟩:=uN (by omega) hp;have z1:=rh (k3 q q2 q1);have hl:i-1<a.toList.length:=(by simp;omega);have z2:=uM ra.up hl y (by rw[show i-1+1=i by omega];exact hy);have z3:kn (a.toList[i-1]'hl)=kn (a[i-1]'(by omega)):=(by simp);omega
   by_cases f1:r=1
   ·rw[if_pos (by simp[f1])]
    exact wpS_pure ⟨gs,.inl ⟨_,rfl,Am m2 ra rb (by omega) f1 (h1 (by omega))⟩⟩
   ·rw[if_neg (by simp[f1])]
    by_cases f2:r=0
    ·rw[if_pos (by simp[f2])]
     exact wpS_pure ⟨gs,.inl ⟨_,rfl,xU m2 ra rb (.inr f2)⟩⟩
    ·rw[if_neg (by simp[f2])]
     exact yS ra rb m2 hi il (by omega) (by omega) (NZ (va (k2 (r-1) (by omega) (by omega)))) (by omega) gs
  ·rw[if_neg k0]
   exact yS ra rb m1 hi il (by omega) (by omega) (NZ (va (k2 (j-1-1) (by omega) (by omega)))) (by omega) gs
theorem DP{w_:World}{Q:Array Keyed→SortSt→Prop}(hk:kindOf st=oneType')(ra:Rn1 a)(rb:Rn1 b)(na:0<a.size)(nb:0<b.size)(h1:∀ x∈a.toList,kn b[0]≤kn x)(h2:kn (b[b.size-1]'(by omega))≤kn (a[a.size-1]'(by omega)))
  (q:∀ m st',Gs st st'→Rs a b m→Q m st'):wpS (model prog w_) A E s (mhi a b) Q st:=by
 rw[FD];refine wpS_bind (wpS_lift (wpAny_rule ⟨rfl,?_⟩));refine wpS_bind (cz (by omega) ?_);have m0:MH a.toList b.toList (#[]:Array Keyed).toList.reverse a.size b.size:=⟨by simp,List.Pairwise.nil,(λy _ x h=>nomatch h),(λy _ x h=>nomatch h)⟩;have m1:MH a.toList b.toList (#[a[a.size-1]'(by omega)]:Array Keyed).toList.reverse (a.size-1) b.size:=rj m0 ra rb na (MR _) (MR _) λ_=>h2;dsimp only;by_cases e:a.size-1=0
 ·rw[if_pos (by simp[e])]
  exact wpS_pure (q _ _ .refl (xU m1 ra rb (.inl e)))
 rw[if_neg (by simp[e])];by_cases e2:b.size=1
 ·rw[if_pos (by simp[e2])]
  exact wpS_pure (q _ _ .refl (Am m1 ra rb nb e2 h1))
 rw[if_neg (by simp[e2])];refine wpS_bind (wpS_get ?_);refine wpS_bind (wpS_mono (wpS_forRange (I:=λn c st'=>Gs st st'∧∃ i j o g,c=(none,i,j,o,g)∧Wh a b o i j∧i+j+n≤a.size+b.size) (Q:=λc st'=>Gs st st'∧∃ m,c.1=some m∧Rs a b m) ?one ?all ⟨.refl,_,_,_,_,rfl,⟨m1,by omega,by omega,by omega,MR _⟩,by omega⟩) ?rest)
 case rest =>
  rintro c st' ⟨gs,m,em,rs⟩;rw[em];exact wpS_pure (q m st' gs rs)
 case all =>
  rintro c st' ⟨gs,i,j,o,g,rfl,w,hn⟩
  have:=w.i0
  have:=w.j0
  omega
 case one =>
  rintro n c st1 _ hn ⟨gs,i,j,o,g,rfl,w,hij⟩;dsimp only;refine wpS_bind (wpS_mono (wpS_forRange (I:=λ_ c st'=>st'=st1∧∃ i j o x y,c=(none,i,j,o,x,y)∧Wh a b o i j∧i+j+n≤a.size+b.size) (Q:=λc st'=>st'=st1∧((∃ m,c.1=some m∧Rs a b m)∨∃ i j o x y,c=(none,i,j,o,x,y)∧Wh a b o i j∧i+j+n≤a.size+b.size)) ?in1 ?inE ⟨rfl,_,_,_,_,_,rfl,w,hij⟩) ?mid)
  case inE =>
   rintro c st' ⟨rfl,z⟩;exact⟨rfl,.inr z⟩
  case in1 =>
   rintro t c st' _ _ ⟨rfl,i,j,o,x,y,rfl,w,hij⟩;obtain⟨wm,wi,wil,wj,wjl⟩:=w;dsimp only;refine wpS_bind (cz (by omega) (wpS_bind (cz (by omega) ?_)));obtain⟨ta,ea⟩:=qb ra (i:=i-1) (by omega);obtain⟨tb,eb⟩:=qb rb (i:=j-1) (by omega);rw[ea,eb];refine wpS_bind (m9 (by rw[gs.k];exact hk) ?_);by_cases d:kn (b[j-1]'(by omega))<kn (a[i-1]'(by omega))
   ·rw[decide_eq_true d]
    dsimp only;rw[if_pos rfl];refine wpS_bind (cz (by omega) ?_);have m2:=rj wm ra rb wi (by omega) wjl λ_=>NZ d;by_cases f:i-1=0
    ·rw[if_pos (by simp[f])]
     exact wpS_pure ⟨rfl,.inl ⟨_,rfl,xU m2 ra rb (.inl f)⟩⟩
    ·rw[if_neg (by simp[f])]
     have w2:Wh a b (o.push (a[i-1]'(by omega))) (i-1) j:=⟨m2,by omega,by omega,wj,wjl⟩;split
     ·exact wpS_pure ⟨rfl,.inr ⟨_,_,_,_,_,rfl,w2,by omega⟩⟩
     ·exact wpS_pure ⟨rfl,_,_,_,_,_,rfl,w2,by omega⟩
   ·rw[decide_eq_false d]
    dsimp only;rw[if_neg (by decide)];refine wpS_bind (cz (by omega) ?_);have m2:=yR wm ra rb (by omega) wjl (by omega) λ_=>Pm.mp d;by_cases f:j-1=1
    ·rw[if_pos (by simp[f])]
     exact wpS_pure ⟨rfl,.inl ⟨_,rfl,Am m2 ra rb nb f h1⟩⟩
    ·rw[if_neg (by simp[f])]
     have w2:Wh a b (o.push (b[j-1]'(by omega))) i (j-1):=⟨m2,wi,wil,by omega,by omega⟩;split
     ·exact wpS_pure ⟨rfl,.inr ⟨_,_,_,_,_,rfl,w2,by omega⟩⟩
     ·exact wpS_pure ⟨rfl,_,_,_,_,_,rfl,w2,by omega⟩
  case mid =>
   rintro⟨r,i,j,o,x,y⟩ st' ⟨rfl,z⟩;rcases z with⟨m,em,rs⟩|⟨i,j,o,x,y,ec,w,hij⟩
   ·cases em
    dsimp only;exact wpS_pure ⟨gs,m,rfl,rs⟩
   ·cases ec
    dsimp only;refine wpS_bind (wpS_lift (wpAny_rule ⟨rfl,?_⟩));refine wpS_bind (wpS_mono (wpS_forRange (I:=λt c st2=>Gs st st2∧∃ i j o g x y,c=(none,i,j,o,g,x,y)∧Wh a b o i j∧i+j+(n+t)≤a.size+b.size) (Q:=λc st2=>Gs st st2∧((∃ m,c.1=some m∧Rs a b m)∨∃ i j o g x y,c=(none,i,j,o,g,x,y)∧Wh a b o i j∧i+j+(n+1)≤a.size+b.size)) ?th1 ?thE ⟨gs,_,_,_,_,_,_,rfl,w,by omega⟩) ?fin)
    case thE =>
     rintro c st2 ⟨gs2,i,j,o,g,x,y,rfl,w,hij⟩;exact⟨gs2,.inr ⟨_,_,_,_,_,_,rfl,w,by omega⟩⟩
    case fin =>
     rintro⟨r,i,j,o,g,x,y⟩ st2 ⟨gs2,z⟩;rcases z with⟨m,em,rs⟩|⟨i,j,o,g,x,y,ec,w,hij⟩
     ·cases em
      dsimp only;exact wpS_pure ⟨gs2,m,rfl,rs⟩
     ·cases ec
      dsimp only;rw[u7];exact wpS_bind (wpS_modify (wpS_pure ⟨gs2.trans ⟨rfl,rfl,rfl,rfl⟩,_,_,_,_,rfl,w,by omega⟩))
    case th1 =>
     rintro t c st2 _ _ ⟨gs2,i,j,o,g,x,y,rfl,w,hij⟩;obtain⟨wm,wi,wil,wj,wjl⟩:=w;have body:∀ g,wpS (model prog w_) A E s (do
       smg g
       let e ←elem' b (j-1)
       let z ←gal false e a 0 i (i-1)
       match z with
       | some r=>if i-r>0 then(if(r == 0)=true then pure (.done (some (doA a b (o++(a.extract r i).reverse) r j),r,j,o++(a.extract r i).reverse,g,i-r,y)) else jq1 a b j g (i-r) y (o++(a.extract r i).reverse) r) else jq1 a b j g (i-r) y o i
       | _=>pure (.done (some (doA a b o i j),i,j,o,g,x,y))) (P4 a b (n+t+1) st) st2:=by
      intro g;rw[u7];refine wpS_bind (wpS_modify ?_);obtain⟨st3,e3⟩:∃ st3,SortSt.mk' (kindOf st2) (arrOf st2) (pendingOf st2) g (failedOf st2)=st3:=⟨_,rfl⟩;rw[e3];have gs3:Gs st st3:=gs2.trans (by rw[←e3];exact⟨rfl,rfl,rfl,rfl⟩);have hk3:kindOf st3=oneType':=(by rw[gs3.k];exact hk);refine wpS_bind (cz (by omega) ?_);refine wpS_bind (wY hk3 ra (by omega) (by omega) (qb rb (by omega)) λr rn k2 k3=>?_);dsimp only;by_cases k0:i-r>0
      ·rw[if_pos k0]
       have m2:MH a.toList b.toList (o++(a.extract r i).reverse).toList.reverse r j:=by
        rw[yT,jN];refine wm.ca ra.up rn λp hp y hy=>?_;obtain⟨q,q1,q2,rfl⟩:=uN (by omega) hp;have z1:=rg (k3 q q2 q1);have hl:j-1<b.toList.length:=(by simp;omega);have z2:=uM rb.up hl y (by rw[show j-1+1=j by omega];exact hy);have z3:kn (b.toList[j-1]'hl)=kn (b[j-1]'(by omega)):=(by simp);omega
       by_cases f1:r=0
       ·rw[if_pos (by simp[f1])]
        exact wpS_pure ⟨gs3,.inl ⟨_,rfl,xU m2 ra rb (.inl f1)⟩⟩
       ·rw[if_neg (by simp[f1])]
        exact yU hk3 ra rb (λ_=>h1) m2 (by omega) (by omega) wj wjl (u9 (k2 (r-1) (by omega) (by omega))) (by omega) gs3
      ·rw[if_neg k0]
       exact yU hk3 ra rb (λ_=>h1) wm wi wil wj wjl (u9 (k2 (i-1) (by omega) (by omega))) (by omega) gs3
     have conv:∀(r:ForInStep T7h) st3,P4 a b (n+t+1) st r st3→(match r with|.done c'=>Gs st st3∧((∃ m,c'.1=some m∧Rs a b m)∨∃ i j o g x y,c'=(none,i,j,o,g,x,y)∧Wh a b o i j∧i+j+(n+1)≤a.size+b.size)|.yield c'=>Gs st st3∧∃ i j o g x y,c'=(none,i,j,o,g,x,y)∧Wh a b o i j∧i+j+(n+(t+1))≤a.size+b.size):=by
      rintro r st3 ⟨g3,z⟩;cases r with
      | done c'=>exact⟨g3,z.imp id λ⟨i,j,o,g,x,y,e,w,l⟩=>⟨i,j,o,g,x,y,e,w,by omega⟩⟩
      | yield c'=>obtain⟨i,j,o,g,x,y,e,w,l⟩:=z;exact⟨g3,i,j,o,g,x,y,e,w,by omega⟩
     by_cases gg:g>1
     ·refine wpS_mono (Q:=P4 a b (n+t+1) st) ?_ λr st3 hz=>by(have zz:=conv r st3 hz;cases r<;>exact zz)
      have z:=body (g-1);show wpS (model prog w_) A E s (if g>1 then _ else _) _ _;rw[if_pos gg];exact z
     ·refine wpS_mono (Q:=P4 a b (n+t+1) st) ?_ λr st3 hz=>by(have zz:=conv r st3 hz;cases r<;>exact zz)
      have z:=body g;show wpS (model prog w_) A E s (if g>1 then _ else _) _ _;rw[if_neg gg];exact z
end
noncomputable def putAll(xs:Array Keyed)(d:Nat)(l:List Keyed)(k:Nat):Array Keyed:=(l.zipIdx k).foldl (λc q=>c.setIfInBounds (d+q.2) q.1) xs
theorem FE(i:Nat):mergeAt' i=(do
 let s ←get
 let (some (d,n,pw),some (e,m,_)):=((pendingOf s)[i]?,(pendingOf s)[i+1]?)|unsupported "internal:list.sort.pending"
 set (setPending s (((pendingOf s).setIfInBounds i (d,n+m,pw)).eraseIdxIfInBounds (i+1)))
 let some k ←gal false (←elem' (arrOf s) e) (arrOf s) d n 0|return false
 let (d,n):=(d+k,n-k)
 if n == 0 then return true
 let some m ←gal true (←elem' (arrOf s) (d+n-1)) (arrOf s) e m (m-1)|return false
 if m == 0 then return true
 let x:=(arrOf s).extract d e
 let y:=(arrOf s).extract e (e+m)
 let z ←if n≤m then mlo x y else mhi x y
 modify λs=>setArr s (putAll (arrOf s) d z.toList 0)
 return (failedOf (←get)).isNone):=rfl
theorem wZ:∀(l z p t:List Keyed) (d k:Nat) (xs:Array Keyed),xs.toList=p++z++t→z.length=l.length→p.length=d+k→(putAll xs d l k).toList=p++l++t
 | [],z,p,t,d,k,xs,h,hz,hp=>by
  cases z with
  | nil=>exact h
  | cons=>cases hz
 | x::l,[],p,t,d,k,xs,h,hz,hp=>by cases hz
 | x::l,y::z,p,t,d,k,xs,h,hz,hp=>by
  show(putAll (xs.setIfInBounds (d+k) x) d l (k+1)).toList=_;rw[wZ l z (p++[x]) t d (k+1) _ ?_ (by simpa using hz) (by rw[M8,hp];rfl)]
  ·simp
  ·rw[Pa,h,←hp]
   simp
noncomputable abbrev sg(xs:Array Keyed)(lo hi:Nat):List Keyed:=(xs.toList.take hi).drop lo
theorem DQ{xs:Array Keyed}{i:Nat}(h:i<xs.size):K xs i=kn xs[i]:=K_eq h
theorem iG{xs:Array Keyed}{lo hi:Nat}{p:Keyed}(hh:hi≤xs.size)(h:p∈sg xs lo hi):∃ q,lo≤q∧q<hi∧kn p=K xs q:=by
 obtain⟨q,q1,q2,rfl⟩:=uN hh h;exact⟨q,q1,q2,(DQ (by omega)).symm⟩
theorem CI{xs:Array Keyed}{lo hi:Nat}(hh:hi≤xs.size)(r:eL xs lo hi):Up (sg xs lo hi):=by
 refine Ov.mpr λi j hi' hj' ij=>?_;have hl:(sg xs lo hi).length=hi-lo:=by rw[ND,MZ,Nj];omega
 have e:∀(k:Nat) (h:k<(sg xs lo hi).length),kn (sg xs lo hi)[k]=K xs (lo+k):=λk h=>by
  rw[DQ (by omega)];simp
 rw[e i hi',e j hj'];exact r _ _ (by omega) (by omega) (by omega)
theorem DR{xs:Array Keyed}{lo hi:Nat}(hh:hi≤xs.size)(u:Up (sg xs lo hi)):eL xs lo hi:=λi j z0 z1 z2=>by
 rcases Oa i j with c|c
 ·have hl:(sg xs lo hi).length=hi-lo:=by rw[ND,MZ,Nj];omega
  have e:∀(k:Nat) (h:k<(sg xs lo hi).length),kn (sg xs lo hi)[k]=K xs (lo+k):=λk h=>by
   rw[DQ (by omega)];simp
  have:=Ov.mp u (i-lo) (j-lo) (by omega) (by omega) (by omega)
  rw[e,e,show lo+(i-lo)=i by omega,show lo+(j-lo)=j by omega]at this;exact this
 ·have:i=j:=by omega
  rw[this];exact NL _
section
variable{prog:Program}{w:World}{A:Around}{E:Value→Shared→Prop}{s:Shared}{a₀:Array Keyed}{st:SortSt}
theorem DS{st1:SortSt}{Q:PUnit→SortSt→Prop}(h:Q ⟨⟩ st1):wpS (model prog w) A E s (set st1:StateT SortSt Sem PUnit) Q st:=wpS_modify (f:=λ_=>st1) h
theorem back{xs:Array Keyed}{z:List Keyed}{d e f n m:Nat}(h1:d≤e)(h2:e≤f)(h3:f≤xs.size)(pz:z.Perm (sg xs d e++sg xs e f)):(putAll xs d z 0).toList=xs.toList.take d++z++xs.toList.drop f:=by
 have l1:(sg xs d e).length=e-d:=by rw[ND,MZ,Nj];omega
 have l2:(sg xs e f).length=f-e:=by rw[ND,MZ,Nj];omega
 refine wZ z (sg xs d e++sg xs e f) _ _ d 0 xs ?_ (by rw[pz.length_eq]) (by rw[MZ,Nj];omega);have e1:xs.toList.take e=xs.toList.take d++sg xs d e:=eh h1;have e2:xs.toList.take f=xs.toList.take e++sg xs e f:=eh h2;rw[←Ni,←e1,←e2,Np]
theorem ED{xs:Array Keyed}{lo hi:Nat}(hh:hi≤xs.size)(ik:IntKeys xs)(r:eL xs lo hi):Rn1 (xs.extract lo hi):=by
 refine⟨λp hp=>?_,?_⟩
 ·rw[jN]at hp
  exact ik p (Oj (Ol hp))
 ·rw[jN]
  exact CI hh r
theorem DT{i d n m pw pw2:Nat}{Q:Bool→SortSt→Prop}(ik:IntKeys a₀)(B:SB a₀ st)(p1:(pendingOf st)[i]?=some (d,n,pw))(p2:(pendingOf st)[i+1]?=some (d+n,m,pw2))(hn:0<n)(hm:0<m)(sz:d+n+m≤a₀.size)(r1:eL (arrOf st) d (d+n))(r2:eL (arrOf st) (d+n) (d+n+m))
  (q:∀ st',SB a₀ st'→pendingOf st'=((pendingOf st).setIfInBounds i (d,n+m,pw)).eraseIdxIfInBounds (i+1)→Oth (arrOf st) (arrOf st') d (d+n+m)→eL (arrOf st') d (d+n+m)→Q true st'):wpS (model prog w) A E s (mergeAt' i) Q st:=by
 rw[FE];refine wpS_bind (wpS_get ?_);rw[p1,p2];dsimp only;refine wpS_bind (DS ?_);obtain⟨st1,e1⟩:∃ st1,setPending st (((pendingOf st).setIfInBounds i (d,n+m,pw)).eraseIdxIfInBounds (i+1))=st1:=⟨_,rfl⟩;rw[e1];have a1:arrOf st1=arrOf st:=by rw[←e1]
 have b1:SB a₀ st1:=by rw[←e1];exact⟨B.perm,B.kind,B.ok⟩
 have pe1:pendingOf st1=((pendingOf st).setIfInBounds i (d,n+m,pw)).eraseIdxIfInBounds (i+1):=by rw[←e1]
 obtain⟨xs,ex⟩:∃ xs,arrOf st=xs:=⟨_,rfl⟩;have key:∀ i,i<a₀.size→∃ t p,xs[i]?=some (.int (K xs i) t,p):=λi hi=>by rw[←ex];exact B.key ik hi
 have xz:xs.size=a₀.size:=by rw[←ex];exact B.size
 rw[ex]at r1 r2 q a1 ⊢;have fin:eL xs d (d+n+m)→Q true st1:=λr=>q st1 b1 pe1 (by rw[a1];exact .refl) (by rw[a1];exact r);refine wpS_bind (cz (by omega) ?_);obtain⟨t,p,ek⟩:=key (d+n) (by omega);rw[NS (by omega)]at ek;rw[Nf ek];refine wpS_bind (q9 b1.kind (λi=>K xs (d+i)) (λi hi=>key (d+i) (by omega)) (λi j ij jn=>r1 _ _ (by omega) (by omega) (by omega)) hn λk kn1 k2 k3=>?_);dsimp only;have lo1:∀ i,i<k→K xs (d+i)≤K xs (d+n):=λi hi=>u9 (k2 i hi);have hi1:∀ i,k≤i→i<n→K xs (d+n)<K xs (d+i):=λi z1 z2=>rg (k3 i z1 z2);by_cases f1:n-k=0
 ·rw[if_pos (by simp[f1])]
  refine wpS_pure (fin λi j z0 z1 z2=>?_);rcases Oa j (d+n) with c|c
  ·exact r1 i j z0 z1 c
  ·rcases Oa i (d+n) with c2|c2
   ·have:=lo1 (i-d) (by omega)
    rw[show d+(i-d)=i by omega]at this;exact OX this (r2 _ _ (MR _) c (by omega))
   ·exact r2 i j c2 z1 (by omega)
 rw[if_neg (by simp[f1])];refine wpS_bind (cz (by omega) ?_);obtain⟨t',p',ek'⟩:=key (d+k+(n-k)-1) (by omega);rw[NS (by omega)]at ek';rw[Nf ek'];refine wpS_bind (q9 b1.kind (λi=>K xs (d+n+i)) (λi hi=>key (d+n+i) (by omega)) (λi j ij jn=>r2 _ _ (by omega) (by omega) (by omega)) (by omega) λm' mn1 m2 m3=>?_);dsimp only;rw[show d+k+(n-k)-1=d+n-1 by omega]at m2 m3;have lo2:∀ i,i<m'→K xs (d+n+i)<K xs (d+n-1):=λi hi=>va (m2 i hi);have hi2:∀ i,m'≤i→i<m→K xs (d+n-1)≤K xs (d+n+i):=λi z1 z2=>rh (m3 i z1 z2);by_cases f2:m'=0
 ·rw[if_pos (by simp[f2])]
  refine wpS_pure (fin λi j z0 z1 z2=>?_);rcases Oa j (d+n) with c|c
  ·exact r1 i j z0 z1 c
  ·rcases Oa i (d+n) with c2|c2
   ·have:=hi2 (j-(d+n)) (by omega) (by omega)
    rw[show d+n+(j-(d+n))=j by omega]at this;exact OX (r1 _ _ z0 (by omega) (by omega)) this
   ·exact r2 i j c2 z1 (by omega)
 rw[if_neg (by simp[f2])];have kx:IntKeys xs:=λp hp=>ik p ((OK.mp (by rw[←ex];exact B.perm:xs.Perm a₀)).mem_iff.mp hp);have rX:eL xs (d+k) (d+n):=λi j z0 z1 z2=>r1 i j (by omega) z1 z2;have rY:eL xs (d+n) (d+n+m'):=λi j z0 z1 z2=>r2 i j z0 z1 (by omega);have RX:=ED (by omega) kx rX;have RY:=ED (by omega) kx rY;have sX:(xs.extract (d+k) (d+n)).size=n-k:=by rw[Array.size_extract];omega
 have sY:(xs.extract (d+n) (d+n+m')).size=m':=by rw[Array.size_extract];omega
 have gX:∀(q:Nat) (h:q<(xs.extract (d+k) (d+n)).size),kn (xs.extract (d+k) (d+n))[q]=K xs (d+k+q):=λq h=>by rw[DQ (by omega),Array.getElem_extract]
 have gY:∀(q:Nat) (h:q<(xs.extract (d+n) (d+n+m')).size),kn (xs.extract (d+n) (d+n+m'))[q]=K xs (d+n+q):=λq h=>by rw[DQ (by omega),Array.getElem_extract]
 have vX:∀ p∈(xs.extract (d+k) (d+n)).toList,∃ q,d+k≤q∧q<d+n∧kn p=K xs q:=λp hp=>by rw[jN]at hp;exact iG (by omega) hp
 have vY:∀ p∈(xs.extract (d+n) (d+n+m')).toList,∃ q,d+n≤q∧q<d+n+m'∧kn p=K xs q:=λp hp=>by rw[jN]at hp;exact iG (by omega) hp
 have c1:∀ q,d+k≤q→q<d+n→K xs (d+n)<K xs q:=λq z1 z2=>by
  have:=hi1 (q-d) (by omega) (by omega)
  rwa[show d+(q-d)=q by omega]at this
 have c2:∀ q,d+n≤q→q<d+n+m'→K xs q<K xs (d+n-1):=λq z1 z2=>by
  have:=lo2 (q-(d+n)) (by omega)
  rwa[show d+n+(q-(d+n))=q by omega]at this
 have merged:∀ z st2,Gs st1 st2→Rs (xs.extract (d+k) (d+n)) (xs.extract (d+n) (d+n+m')) z→wpS (model prog w) A E s (do modify λs=>setArr s (putAll (arrOf s) (d+k) z.toList 0);return (failedOf (←get)).isNone) Q st2:=by
  rintro z st2 gs ⟨pz,uz⟩;rw[jN,jN]at pz;refine wpS_bind (wpS_modify (wpS_bind (wpS_get (wpS_pure ?_))));have a2:arrOf st2=xs:=by rw[gs.a,a1]
  obtain⟨st3,e3⟩:∃ st3,setArr st2 (putAll (arrOf st2) (d+k) z.toList 0)=st3:=⟨_,rfl⟩;rw[e3];have a3:arrOf st3=putAll xs (d+k) z.toList 0:=by rw[←e3,←a2]
  have f3:failedOf st3=none:=by rw[←e3];exact gs.f.trans b1.ok
  have k3':kindOf st3=oneType':=by rw[←e3];exact gs.k.trans b1.kind
  have p3:pendingOf st3=pendingOf st1:=by rw[←e3];exact gs.p
  have bk:=back (n:=n) (m:=m) (d:=d+k) (e:=d+n) (f:=d+n+m') (by omega) (by omega) (by omega) pz;rw[←a3]at bk;have e1':xs.toList.take (d+n)=xs.toList.take (d+k)++sg xs (d+k) (d+n):=eh (by omega);have e2':xs.toList.take (d+n+m')=xs.toList.take (d+n)++sg xs (d+n) (d+n+m'):=eh (by omega);have zl:z.toList.length=n-k+m':=by
   rw[pz.length_eq,M8,ND,MZ,ND,MZ,Nj];omega
  have pm:(arrOf st3).Perm xs:=by
   refine OK.mpr ?_;rw[bk];refine((List.Perm.append_left _ pz).append_right _).trans ?_;rw[←Ni,←e1',←e2',Np]
  have sz3:(arrOf st3).size=xs.size:=pm.size_eq;rw[f3];refine q st3 ⟨pm.trans (by rw[←ex];exact B.perm),k3',f3⟩ (p3.trans pe1) (λx hx=>?_) ?_
  ·rw[←Ot,←Ot,bk]
   rcases hx with hx|hx
   ·rw[Ni,Oh (by rw[MZ,Nj];omega),OR (by omega)]
   ·rw[Oe (by rw[M8,MZ,Nj,zl];omega),List.getElem?_drop,M8,MZ,Nj,zl]
    congr 1
    omega
  ·refine DR (by omega) ?_
   have es:sg (arrOf st3) d (d+n+m)=sg xs d (d+k)++z.toList++sg xs (d+n+m') (d+n+m):=by
    have lp:(xs.toList.take (d+k)).length=d+k:=(by rw[MZ,Nj];omega);have lpz:(xs.toList.take (d+k)++z.toList).length=d+n+m':=(by rw[M8,lp,zl];omega);show((arrOf st3).toList.take (d+n+m)).drop d=_;rw[bk,List.take_append,MW (by omega),lpz,Ni,List.drop_append,lp,show d-(d+k)=0 by omega,List.drop_zero];show _=(xs.toList.take (d+k)).drop d++z.toList++(xs.toList.take (d+n+m)).drop (d+n+m');rw[show((xs.toList.take (d+n+m)).drop (d+n+m'))=(xs.toList.drop (d+n+m')).take (d+n+m-(d+n+m')) from List.drop_take,Ni]
   rw[es];refine Nq.mpr ⟨Nq.mpr ⟨CI (by omega) (λi j z0 z1 z2=>r1 i j z0 z1 (by omega)),uz,λx hx y hy=>?_⟩,CI (by omega) (λi j z0 z1 z2=>r2 i j (by omega) z1 z2),λx hx y hy=>?_⟩
   ·obtain⟨q1,y1,y2,y3⟩:=iG (by omega) hx
    have hy':=pz.mem_iff.mp hy;have t1:=lo1 (q1-d) (by omega);rw[show d+(q1-d)=q1 by omega]at t1;rcases MS.mp hy' with hy'|hy'
    ·obtain⟨q2,w1,w2,w3⟩:=iG (by omega) hy'
     have:=c1 q2 w1 w2
     omega
    ·obtain⟨q2,w1,w2,w3⟩:=iG (by omega) hy'
     have:=r2 (d+n) q2 (MR _) w1 (by omega)
     omega
   ·obtain⟨q2,w1,w2,w3⟩:=iG (by omega) hy
    have t2:=hi2 (q2-(d+n)) (by omega) (by omega);rw[show d+n+(q2-(d+n))=q2 by omega]at t2;have t3:∀ q1,d≤q1→q1<d+n→K xs q1≤K xs (d+n-1):=λq1 y1 y2=>r1 _ _ y1 (by omega) (by omega);rcases MS.mp hx with hx|hx
    ·obtain⟨q1,y1,y2,y3⟩:=iG (by omega) hx
     have:=t3 q1 y1 (by omega)
     omega
    ·rcases MS.mp (pz.mem_iff.mp hx) with hx|hx
     ·obtain⟨q1,y1,y2,y3⟩:=iG (by omega) hx
      have:=t3 q1 (by omega) y2
      omega
     ·obtain⟨q1,y1,y2,y3⟩:=iG (by omega) hx
      have:=r2 q1 q2 y1 (by omega) (by omega)
      omega
 by_cases f3:n-k≤m'
 ·rw[if_pos f3]
  refine wpS_bind (DN b1.kind RX RY (by omega) (by omega) ?_ (λp hp=>?_) λz st2 gs rs=>merged z st2 gs rs)
  ·rw[gX,gY]
   have:=c1 (d+k) (by omega) (by omega)
   simp only[Nat.add_zero];omega
  ·obtain⟨q2,w1,w2,w3⟩:=vY p hp
   have:=c2 q2 w1 w2
   rw[gX,w3,show d+k+((xs.extract (d+k) (d+n)).size-1)=d+n-1 by omega];omega
 ·rw[if_neg f3]
  refine wpS_bind (DP b1.kind RX RY (by omega) (by omega) (λp hp=>?_) ?_ λz st2 gs rs=>merged z st2 gs rs)
  ·obtain⟨q2,w1,w2,w3⟩:=vX p hp
   have:=c1 q2 w1 w2
   rw[gY,w3];simp only[Nat.add_zero];omega
  ·rw[gX,gY,show d+k+((xs.extract (d+k) (d+n)).size-1)=d+n-1 by omega,show d+n+((xs.extract (d+n) (d+n+m')).size-1)=d+n+m' - 1 by omega]
   have:=c2 (d+n+m' - 1) (by omega) (by omega)
   omega
end
noncomputable abbrev Ru3:=Nat×Nat×Nat
noncomputable def Cov:List Ru3→Nat→Nat→Prop
 | [],a,b=>a=b
 | r::l,a,b=>r.1=a∧0<r.2.1∧Cov l (a+r.2.1) b
theorem Cov.le:∀ {l:List Ru3} {a b:Nat},Cov l a b→a+l.length≤b
 | [],a,b,h=>by rw[show a=b from h];exact MR _
 | r::l,a,b,⟨h1,h2,h3⟩=>by have:=h3.le;rw[NU];omega
theorem Cov.mem:∀ {l:List Ru3} {a b:Nat},Cov l a b→∀ r∈l,a≤r.1∧r.1+r.2.1≤b
 | [],a,b,h,r,m=>nomatch m
 | q::l,a,b,⟨h1,h2,h3⟩,r,m=>by
  have:=h3.le
  rcases Nk.mp m with e|m
  ·rw[e];omega
  ·have:=h3.mem r m;omega
theorem Cov.snoc:∀ {l:List Ru3} {a b n p:Nat},Cov l a b→0<n→Cov (l++[(b,n,p)]) a (b+n)
 | [],a,b,n,p,h,hn=>⟨(show a=b from h).symm,hn,by show a+n=b+n;rw[show a=b from h]⟩
 | r::l,a,b,n,p,⟨h1,h2,h3⟩,hn=>⟨h1,h2,h3.snoc hn⟩
theorem Cov.merge:∀ {l:List Ru3} {a b i s n p s' n' p':Nat},Cov l a b→l[i]?=some (s,n,p)→l[i+1]?=some (s',n',p')→s'=s+n∧0<n∧0<n'∧s+n+n'≤b∧Cov ((l.set i (s,n+n',p)).eraseIdx (i+1)) a b∧∀ r∈(l.set i (s,n+n',p)).eraseIdx (i+1),r=(s,n+n',p)∨(r∈l∧(r.1+r.2.1≤s∨s+n+n'≤r.1))
 | [],a,b,i,s,n,p,s',n',p',h,e,_=>by cases e
 | [q],a,b,i,s,n,p,s',n',p',h,e,e'=>by cases i<;>cases e'
 | q::q'::l,a,b,0,s,n,p,s',n',p',⟨h1,h2,h3,h4,h5⟩,e,e'=>by
  cases e;cases e';replace h1:s=a:=h1;replace h3:s'=a+n:=h3;replace h2:0<n:=h2;replace h4:0<n':=h4;replace h5:Cov l (a+n+n') b:=h5
  have:=h5.le
  refine⟨by omega,h2,h4,by show s+n+n'≤b;omega,⟨h1,by show 0<n+n';omega,by show Cov l (a+(n+n')) b;rw[←Nat.add_assoc];exact h5⟩,λr m=>?_⟩;rcases Nk.mp (show r∈(s,n+n',p)::l from m) with z|z
  ·exact .inl z
  ·exact .inr ⟨Nn _ (Nn _ z),.inr (by have:=(h5.mem r z).1;omega)⟩
 | q::q'::l,a,b,i+1,s,n,p,s',n',p',⟨h1,h2,h3⟩,e,e'=>by
  obtain⟨c1,c2,c3,c4,c5,c6⟩:=Cov.merge (i:=i) h3 e e';have sm:=h3.mem (s,n,p) (Na e);refine⟨c1,c2,c3,c4,⟨h1,h2,c5⟩,λr m=>?_⟩;rcases Nk.mp (show r∈q::(((q'::l).set i (s,n+n',p)).eraseIdx (i+1)) from m) with z|z
  ·exact .inr ⟨by rw[z];exact Nu,.inl (by rw[z];have:=sm.1;show q.1+q.2.1≤s;replace h1:q.1=a:=h1;omega)⟩
  ·exact(c6 r z).imp id λ⟨y1,y2⟩=>⟨Nn _ y1,y2⟩
noncomputable def MD(xs:Array Keyed)(l:List Ru3):Prop:=∀ r∈l,eL xs r.1 (r.1+r.2.1)
theorem eL.oth{xs ys:Array Keyed}{lo hi d e:Nat}(r:eL xs lo hi)(o:Oth xs ys d e)(h:hi≤d∨e≤lo):eL ys lo hi:=λi j z0 z1 z2=>by
 rw[K_congr (o i (by omega)),K_congr (o j (by omega))];exact r i j z0 z1 z2
section
variable{prog:Program}{w:World}{A:Around}{E:Value→Shared→Prop}{s:Shared}{a₀:Array Keyed}{st:SortSt}
structure Pn(a₀:Array Keyed)(st:SortSt)(b:Nat):Prop where
 sb:SB a₀ st
 c:Cov (pendingOf st).toList 0 b
 r:MD (arrOf st) (pendingOf st).toList
theorem yV{i b:Nat}{Q:Bool→SortSt→Prop}(ik:IntKeys a₀)(P:Pn a₀ st b)(hb:b≤a₀.size)(hi:i+1<(pendingOf st).size)
  (q:∀ st',Pn a₀ st' b→(pendingOf st').size+1=(pendingOf st).size→Oth (arrOf st) (arrOf st') 0 b→Q true st'):wpS (model prog w) A E s (mergeAt' i) Q st:=by
 obtain⟨⟨d,n,p⟩,e⟩:∃ r,(pendingOf st)[i]?=some r:=⟨_,NS (by omega)⟩;obtain⟨⟨d',n',p'⟩,e'⟩:∃ r,(pendingOf st)[i+1]?=some r:=⟨_,NS hi⟩;have l1:(pendingOf st).toList[i]?=some (d,n,p):=by rw[Ot];exact e
 have l2:(pendingOf st).toList[i+1]?=some (d',n',p'):=by rw[Ot];exact e'
 obtain⟨rfl,c2,c3,c4,c5,c6⟩:=P.c.merge l1 l2;refine DT ik P.sb e e' c2 c3 (by omega) (P.r _ (Na l1)) (P.r _ (Na l2)) λst' B' pe o rs=>?_;have pl:(pendingOf st').toList=((pendingOf st).toList.set i (d,n+n',p)).eraseIdx (i+1):=by
  rw[pe,Array.toList_eraseIdxIfInBounds,Pa]
 refine q st' ⟨B',by rw[pl];exact c5,λr m=>?_⟩ ?_ λk hk=>o k (by omega)
 ·rw[pl]at m
  rcases c6 r m with z|⟨z1,z2⟩
  ·rw[z];show eL _ d (d+(n+n'));rw[←Nat.add_assoc];exact rs
  ·exact(P.r r z1).oth o (by omega)
 ·rw[←Nj,pl,List.length_eraseIdx,if_pos (by rw[Oi,Nj];exact hi),Oi,Nj]
  omega
end
theorem Cov.pw:∀ {l:List Ru3} {a b i:Nat} {f:Ru3→Ru3},(∀ r,(f r).1=r.1∧(f r).2.1=r.2.1)→Cov l a b→Cov (l.modify i f) a b
 | [],a,b,i,f,hf,h=>by cases i<;>exact h
 | r::l,a,b,0,f,hf,⟨h1,h2,h3⟩=>⟨(hf r).1.trans h1,by rw[(hf r).2];exact h2,by rw[(hf r).2];exact h3⟩
 | r::l,a,b,i+1,f,hf,⟨h1,h2,h3⟩=>⟨h1,h2,h3.pw hf⟩
theorem Ce:∀ {l:List Ru3} {i:Nat} {f:Ru3→Ru3},(∀ r,(f r).1=r.1∧(f r).2.1=r.2.1)→∀ r∈l.modify i f,∃ r'∈l,r.1=r'.1∧r.2.1=r'.2.1
 | [],i,f,hf,r,m=>by cases i<;>cases m
 | q::l,0,f,hf,r,m=>by
  rcases Nk.mp (show r∈f q::l from m) with z|z
  ·exact⟨q,Nu,by rw[z];exact(hf q).1,by rw[z];exact(hf q).2⟩
  ·exact⟨r,Nn _ z,rfl,rfl⟩
 | q::l,i+1,f,hf,r,m=>by
  rcases Nk.mp (show r∈q::l.modify i f from m) with z|z
  ·exact⟨q,Nu,by rw[z],by rw[z]⟩
  ·obtain⟨r',m',e⟩:=Ce hf r z
   exact⟨r',Nn _ m',e⟩
section
variable{prog:Program}{w:World}{A:Around}{E:Value→Shared→Prop}{s:Shared}{a₀:Array Keyed}{st:SortSt}
theorem Pn.pw{b i:Nat}{f:Ru3→Ru3}(P:Pn a₀ st b)(hf:∀ r,(f r).1=r.1∧(f r).2.1=r.2.1):Pn a₀ (setPending st ((pendingOf st).modify i f)) b:=by
 have e:((pendingOf st).modify i f).toList=(pendingOf st).toList.modify i f:=Array.toList_modify;refine⟨⟨P.sb.perm,P.sb.kind,P.sb.ok⟩,?_,λr m=>?_⟩
 ·show Cov ((pendingOf st).modify i f).toList 0 b
  rw[e];exact P.c.pw hf
 ·obtain⟨r',m',e1,e2⟩:=Ce hf r (by rw[←e];exact m)
  rw[e1,e2];exact P.r r' m'
theorem Pn.push{b n:Nat}(P:Pn a₀ st b)(hn:0<n)(rs:eL (arrOf st) b (b+n)):Pn a₀ (setPending st ((pendingOf st).push (b,n,0))) (b+n):=by
 have e:((pendingOf st).push (b,n,0)).toList=(pendingOf st).toList++[(b,n,0)]:=Pe;refine⟨⟨P.sb.perm,P.sb.kind,P.sb.ok⟩,?_,λr m=>?_⟩
 ·show Cov ((pendingOf st).push (b,n,0)).toList 0 (b+n)
  rw[e];exact P.c.snoc hn
 ·have m:r∈(pendingOf st).toList++[(b,n,0)]:=by rw[←e];exact m
  rcases MS.mp m with z|z
  ·exact P.r r z
  ·rw[MO.mp z];exact rs
theorem DU{Q:Unit→SortSt→Prop}(ik:IntKeys a₀)(u:Unl a₀)(B:SBase a₀ st)(n2:2≤a₀.size)
  (q:∀ st',(arrOf st').Perm a₀→failedOf st'=none→SortedTo (arrOf st') a₀.size→Q () st'):wpS (model prog w) A E s sortRuns' Q st:=by
 rw[sortRuns'_eq];refine wpS_bind (wpS_get ?_);dsimp only;simp only[B.size];generalize minRun' a₀.size a₀.size 0=mr;have P0:Pn a₀ st 0:=⟨⟨B.perm,B.kind,B.failed⟩,by rw[B.pend];rfl,by rw[B.pend];exact λr m=>nomatch m⟩;refine wpS_bind (wpS_mono (wpS_forRange (I:=λx c st'=>∃ lo,c=(none,lo)∧Pn a₀ st' lo∧lo≤a₀.size∧(x≤lo∨lo=a₀.size)) (Q:=λc st'=>c=(none,a₀.size)∧Pn a₀ st' a₀.size) ?one ?all ⟨0,rfl,P0,by omega,.inl (MR _)⟩) ?rest)
 case all =>
  rintro c st' ⟨lo,rfl,P,l1,l2⟩
  have:lo=a₀.size:=by omega
  subst this;exact⟨rfl,P⟩
 case rest =>
  rintro c st' ⟨rfl,P⟩;dsimp only;refine wpS_bind (wpS_mono (wpS_forRange (I:=λx c st2=>c=(none,())∧Pn a₀ st2 a₀.size∧(pendingOf st2).size≤max 1 (a₀.size-x)) (Q:=λc st2=>c=(none,())∧Pn a₀ st2 a₀.size∧(pendingOf st2).size≤1) ?m1 ?mE ⟨rfl,P,?m0⟩) ?mR)
  case m0=>have:=P.c.le;rw[Nj]at this;omega
  case mE =>
   rintro c st2 ⟨hc,P2,z⟩;exact⟨hc,P2,by omega⟩
  case mR =>
   rintro c st2 ⟨rfl,P2,z⟩;refine wpS_pure (q st2 P2.sb.perm P2.sb.ok λi j ij hj=>?_);have hc:=P2.c;have hr:=P2.r;have hl:(pendingOf st2).toList.length≤1:=by rw[Nj];exact z
   match (pendingOf st2).toList,hl,hc,hr with
   | [],_,hc,_=>have:0=a₀.size:=hc;omega
   | [r],_,⟨c1,c2,c3⟩,hr =>
    have c3:0+r.2.1=a₀.size:=c3
    have:=hr r (MO.mpr rfl)
    rw[c1]at this;exact this i j (by omega) ij (by omega)
   | _::_::_,h,_,_=>simp at h
  case m1 =>
   rintro x c st2 _ hx ⟨rfl,P2,z⟩;refine wpS_bind (wpS_get ?_);by_cases g:(pendingOf st2).size≤1
   ·rw[if_pos g]
    exact wpS_pure ⟨rfl,P2,g⟩
   ·rw[if_neg g]
    have fin:∀ k,k+1<(pendingOf st2).size→wpS (model prog w) A E s (mergeAt' k) (λb st3=>b=true∧Pn a₀ st3 a₀.size∧(pendingOf st3).size≤max 1 (a₀.size-(x+1))) st2:=λk hk=>yV ik P2 (MR _) hk λst3 P3 e _=>⟨rfl,P3,by omega⟩;refine wpS_bind (wpS_mono (fin _ ?_) λb st3 hb=>?_)
    ·repeat' split
     all_goals omega
    ·obtain⟨rfl,P3,z3⟩:=hb
     simp only[Bool.not_true,Nx,if_false];exact wpS_pure ⟨rfl,P3,z3⟩
 case one =>
  rintro x c st' _ hx ⟨lo,rfl,P,l1,l2⟩;dsimp only;by_cases g:lo≥a₀.size
  ·rw[if_pos g]
   have:lo=a₀.size:=by omega
   subst this;exact wpS_pure ⟨rfl,P⟩
  ·rw[if_neg g]
   refine wpS_bind (DJ ik u (by omega) (by omega) P.sb λn st1 n1 n2' af rs=>?_);dsimp only;have hle:lo+n≤a₀.size:=(by omega);have P1:Pn a₀ st1 lo:=⟨af.b,by rw[af.p];exact P.c,λr m=>by rw[af.p]at m;exact(P.r r m).oth af.o (.inl (P.c.mem r m).2)⟩;by_cases lt:n<mr
   case' pos =>
    rw[if_pos lt];refine wpS_bind (wpS_lift (wpAny_rule ⟨rfl,?_⟩));refine wpS_bind (DI ik (by omega) n1 (by omega) af.b rs λst2 af2 rs2=>?_);simp only[Bool.not_true,Nx,if_false];have P2:Pn a₀ st2 lo:=⟨af2.b,by rw[af2.p];exact P1.c,λr m=>by rw[af2.p]at m;exact(P1.r r m).oth af2.o (.inl (P1.c.mem r m).2)⟩;generalize hm:min (a₀.size-lo) mr=m at *;have m1:0<m:=(by omega);have m2:lo+m≤a₀.size:=(by omega);clear hm af2 P1 hle rs af;clear st1;clear lt n2' n1;clear n;revert m2;revert m1;revert rs2;revert P2;revert st2;revert m
   case' neg =>
    rw[if_neg lt];clear lt af n2';revert hle;revert n1;revert rs;revert P1;revert st1;revert n
   all_goals
    intro n st1 P1 rs n1 hle;refine wpS_bind (wpS_get ?_);have done:∀ st2,Pn a₀ st2 lo→eL (arrOf st2) lo (lo+n)→∃ lo',((none:Option Unit),lo+n)=(none,lo')∧Pn a₀ (setPending st2 ((pendingOf st2).push (lo,n,0))) lo'∧lo'≤a₀.size∧(x+1≤lo'∨lo'=a₀.size):=λst2 P2 rs2=>⟨lo+n,rfl,P2.push n1 rs2,hle,by omega⟩;cases hb:(pendingOf st1).back? with
    | none=>exact wpS_bind (wpS_modify (wpS_pure (done st1 P1 rs)))
    | some r =>
     obtain⟨s1,n',q'⟩:=r;dsimp only;refine wpS_bind (wpS_mono (wpS_forRange (I:=λ_ c st2=>c=(none,())∧Pn a₀ st2 lo∧eL (arrOf st2) lo (lo+n)) (Q:=λc st2=>c=(none,())∧Pn a₀ st2 lo∧eL (arrOf st2) lo (lo+n)) ?k1 (λc st2 h=>h) ⟨rfl,P1,rs⟩) ?k2)
     case k2 =>
      rintro c st2 ⟨rfl,P2,rs2⟩;refine wpS_bind (wpS_modify ?_);exact wpS_bind (wpS_modify (wpS_pure (done _ (P2.pw (λr=>⟨rfl,rfl⟩)) rs2)))
     case k1 =>
      rintro y c st2 _ _ ⟨rfl,P2,rs2⟩;refine wpS_bind (wpS_get ?_);by_cases g2:(pendingOf st2).size>1
      ·rw[if_pos g2,NS (by omega)]
       dsimp only;split
       ·exact wpS_pure ⟨rfl,P2,rs2⟩
       ·refine wpS_bind (yV ik P2 l1 (by omega) λst3 P3 _ o=>?_)
        simp only[Bool.not_true,Nx,if_false];exact wpS_pure ⟨rfl,P3,rs2.oth o (.inr (MR _))⟩
      ·rw[if_neg g2]
       exact wpS_pure ⟨rfl,P2,rs2⟩
end
theorem z8{vs:List Value}{ns:List Int}(hI:IntsAre vs ns)(un:ns.Nodup):Unl (pairsOf vs):=by
 unfold Unl;rw[pairsOf_toList];have e:(vs.zip vs).map (λp=>numOf p.1)=ns:=by
  rw[←hI.nums]
  have:((vs.zip vs).map λp=>numOf p.1)=((vs.zip vs).map Prod.fst).map numOf:=by rw[Ny];rfl
  rw[this,List.map_fst_zip (MR _)]
 rw[e];exact un
section
variable{prog:Program}{w:World}{A:Around}{E:Value→Shared→Prop}{s:Shared}{a₀:Array Keyed}
theorem uu{a:Addr}{vs:List Value}{ns:List Int}{n:Nat}{P:Fin→Shared→Prop}(ho:s.heap.get? a=some (seqObj "list" vs.toArray n))(hI:IntsAre vs ns)(few:vs.length≤20000)(un:ns.Nodup)
  (h:∀(out:Array Value) (ns':List Int),IntsAre out.toList ns'→ns'.Perm ns→ns'.Pairwise (·≤·)→P (.done (.ret .none)) {s with heap:=sortedHeap s.heap a vs out}):wpAny (model prog w) A (Builtin.«list.sort» ⟨[.ref a],[]⟩) P E s:=by
 have hz:vs.length≤sizeLine:=OP (NQ few (by decide));rw[list_sort_plain];have la:a<s.heap.objs.size:=Nb ho;refine wpAny_bind (listItems_at ho rfl (wpAny_bind (listUpdate_at ho rfl ?_ (by rw[M0];exact hz) (NH _))));obtain⟨e1,g1⟩:∃ e1,(s.heap.update a (Obj.mapSeq λ_=>#[])).get? a=some (seqObj "list" #[] e1):=⟨_,get?_update_seq ho (λ_=>#[])⟩;refine wpAny_bind (seqEpoch_at g1 rfl (wpAny_bind (wpAny_newTuple (wpAny_bind (wpAny_newList (wpAny_holding ?_) (NH _))) (by show vs.length≤_;exact hz))));have g6:(((s.heap.update a (Obj.mapSeq λ_=>#[])).push (seqObj "tuple" vs.toArray 0)).push (seqObj "list" #[] 0)).get? a=some (seqObj "list" #[] e1):=MU _ (MU _ g1);show wpAny (model prog w) A _ P E {s with heap:=((s.heap.update a (Obj.mapSeq λ_=>#[])).push (seqObj "tuple" vs.toArray 0)).push (seqObj "list" #[] 0)};dsimp only;have zs:(pairsOf vs).size=vs.length:=pairsOf_size vs;have fin:∀ st':SortSt,(arrOf st').Perm (pairsOf vs)→SortedTo (arrOf st') (pairsOf vs).size→P (.done (.ret .none)) {s with heap:=sortedHeap s.heap a vs ((arrOf st').map (·.2))}:=λst' hp hs=>by
  obtain⟨ns',q1,q2,q3⟩:=sorted_out hI hp hs;exact h _ ns' q1 q2 q3
 by_cases c:vs.toArray.size<2
 ·rw[if_pos c,if_pos c]
  refine wpAny_bind (wpAny_pure ?_);rw[StateT.run_pure];refine wpAny_bind (wpAny_pure ?_);dsimp only;refine wpAny_bind (seqEpoch_at g6 rfl (wpAny_bind (listUpdate_at g6 rfl ?_ (hsz2:=by rw[Pd];show(pairsOf vs).size≤_;rw[zs];omega))));simp only[bne_self_eq_false,Nx,if_false];exact wpAny_pure (fin (SortSt.mk' general' (vs.toArray.zip vs.toArray) #[] 7 none) (O6 _) (λi j ij hj=>by have:i=j:=by {have hh:=hj;rw[zs]at hh;simp at c;omega};subst this;exact NL _))
 ·rw[if_neg c,if_neg c]
  obtain⟨v1,v2,r,rfl⟩:∃ v1 v2 r,vs=v1::v2::r:=by
   match vs,c with
   | [],c=>simp at c
   | [_],c=>simp at c
   | v1::v2::r,_=>exact⟨v1,v2,r,rfl⟩
  rw[keyKind_ints hI];refine wpAny_bind (wpAny_pure (wpAny_bind (wpAny_mono (DU (a₀:=pairsOf (v1::v2::r)) (st:=SortSt.mk' oneType' ((v1::v2::r).toArray.zip (v1::v2::r).toArray) #[] 7 none)
   (Q:=λ_ st'=>(arrOf st').Perm (pairsOf (v1::v2::r))∧failedOf st'=none∧SortedTo (arrOf st') (pairsOf (v1::v2::r)).size) hI.intKeys (z8 hI un) ⟨O6 _,rfl,rfl,rfl⟩ (by rw[zs];simp) λst' a1 a2 a3=>⟨a1,a2,a3⟩) ?_ λ_ _ e=>e)))
  rintro⟨⟨⟩,st'⟩ s' ⟨rfl,hp,hf,hs⟩;dsimp only;refine wpAny_bind (seqEpoch_at g6 rfl (wpAny_bind (listUpdate_at g6 rfl ?_ (hsz2:=Nh (Nat.le_of_eq ((Pd ..).trans (hp.size_eq.trans zs))) (Nat.le_succ_of_le hz)))));rw[hf];simp only[bne_self_eq_false,Nx,if_false];exact wpAny_pure (fin st' hp hs)
end
section
variable{X:Cx}
noncomputable def FF(K:W.Frag):List V→Hp→VK→Prop:=λvs H Q=>∃(p:Addr) (ns:List Int),vs=[.ref p]∧SqL K H p (ns.map V.int)∧ns.length≤20000∧ns.Nodup∧∀(l:Addr) (us:List Int),H l=none→us.Perm ns→us.Pairwise (·≤·)→Q (.ref l) (upd H l (.lst (us.map V.int)))
theorem xV:gI X (.builtin "sorted") (FF X.K):=by
 rintro pins s σ H xs us Q I r ⟨p,ns,rfl,hq,few,un,q⟩;obtain⟨u,rfl,ru⟩:=r.one;cases (show u=Value.ref p from ru);obtain⟨its,rv,pl,hz⟩:=I.list hq;have hI:=intsAre_of rv;have hlen:=rv.length;rw[MN]at hlen hz;refine Ou kind_sorted plain_sorted entry_sorted (args_sorted1 _) ?_;unfold Builtin.«sorted»;refine wpAny_bind (m:=checkCount "sorted" 1 1 _) (wpAny_pure ?_);have iz:its.length≤sizeLine:=by omega
 refine wpAny_bind (collect_list pl.isList ?_ iz);refine wpAny_bind (wpAny_newList ?_ iz);have sz:((s.heap.push (seqObj "list" #[] 0)).update s.heap.objs.size (Obj.mapSeq (·++its.toArray))).objs.size=s.heap.objs.size+1:=by rw[Heap.size_update,size_push']
 have hoL:(((s.heap.push (seqObj "list" #[] 0)).update s.heap.objs.size (Obj.mapSeq (·++its.toArray))).push (seqObj "list" its.toArray 0)).get? (s.heap.objs.size+1)=some (seqObj "list" its.toArray 0):=by rw[←sz];exact NB _ rfl
 show wpAny _ _ _ _ _ {s with heap:=((s.heap.push (seqObj "list" #[] 0)).update s.heap.objs.size (Obj.mapSeq (·++its.toArray))).push (seqObj "list" its.toArray 0)};rw[sz];refine wpAny_bind (wpAny_holding (wpAny_call_entry slot_list_sort ⟨_,hoL,rfl⟩ entry_list_sort (uu hoL hI (by omega) un λout ns' a1 a2 a3=>⟨_,rfl,?_⟩) (args_list_sort _)));refine wpAny_pure ⟨_,rfl,?_⟩;obtain⟨e,he⟩:=sortedAll_at s.heap its out;refine⟨.ref (s.heap.objs.size+1),_,I.laid (a:=s.heap.objs.size+1) (o:=.lst (ns'.map V.int)) (t':=s.toks) (λ_ _=>sortedAll_old) (OF _) ?_,rfl,q _ ns' (I.hok.fresh (OF _)) a2 a3⟩;refine⟨by rw[MN,a2.length_eq];exact hz,out.toList,e,dZ a1,?_⟩;show(sortedAll s.heap its out).get? _=_;rw[he]
end
end L2
end
section
namespace K72
open PySem L2 LX
section
variable{P:Program}{w:World}{K:W.Frag}{mg:Str→Option Value}{base:Heap}{D:Ad}
theorem EE{t:Int}{zs:List Int}:inV (.int t) (zs.map V.int)=decide (t∈zs):=Ew (n:=some t) (f:=nmV) rfl (λ_=>rfl)
theorem jO{H:Hp}{p:Addr}{zs:List Int}(h:H p=some (.lst (zs.map V.int))):Rp H 1 (.ref p) (.l (zs.map λt=>.a (.int t))):=Fv (n:=0) (λt=>.a (.int t)) h λz _=>fli
section
variable{rs:List (Option Int)}{ks:R.Fs}{a m gs:List Int}{ts:List R.Tr}
theorem DV(r:R.Runs rs ks a ts m):(∀ x∈a,Rc rs (R.cQ ks) x)→∀ x∈m,Rc rs (R.cQ ks) x:=by
 induction r with
 | nil=>exact λh=>h
 | cons s _ ih =>
  intro h;refine ih λx hx=>?_;rcases MS.mp hx with g|g
  ·exact h x g
  ·rw[MO.mp g]
   obtain⟨_,_,fr⟩:=s;unfold R.Ir at fr;split at fr
   ·obtain⟨p,_,e⟩:=fr
    exact .root (Na e)
   ·obtain⟨mo,p,_,e⟩:=fr
    exact .step (h _ mo) (Na e)
theorem yW(r:R.Runs rs ks [] ts m)(hr:∀ n,some n∈rs→n∈m)(sh:R.Au ks m)(t:Int):t∈m↔Rc rs (R.cQ ks) t :=
 ⟨DV r (λ_ h=>nomatch h) t,λh=>by
  induction h with
  | root a=>exact hr _ a
  | step _ b ih=>exact sh _ ih _ b⟩
theorem FG(r:R.Runs rs ks [] ts m)(t:Int):some t∈ts.map (·.1)↔t∈m:=by
 have e:=R.el r;rw[Oy,Pj]at e;rw[←e,Nc];exact⟨λ⟨u,mu,e⟩=>by cases e;exact mu,λh=>⟨t,h,rfl⟩⟩
theorem CJ(r:R.Runs rs ks [] ts m)(hr:∀ n,some n∈rs→n∈m)(sh:R.Au ks m)(g:R.Gn ks ts gs)(t:Int):t∈gs↔t∈R.keys ks∧¬Rc rs (R.cQ ks) t:=by rw[g.2 t,FG r,yW r hr sh]
theorem uO{vs:List Int}(rt:R.Rt rs ks)(h8:rs.length≤8)(l:vs.length<64)(h:∀ n∈vs,n∈R.keys ks):R.Rt (rs++vs.map some) ks:=by
 refine {rt with rl:=?_,ri:=λn hn=>?_}
 ·rw[M8,MN];omega
 ·rcases MS.mp hn with g|g
  ·exact rt.ri n g
  ·obtain⟨u,mu,e⟩:=Nc.mp g
   cases e;exact h n mu
end
noncomputable def H64(bs:List Int):Prop:=∀ ms:List Int,ms.Nodup→(∀ m∈ms,m∈bs)→ms.length<64
theorem Cf{ks:R.Fs}{ts:List R.Tr}{gs:List Int}(rt:(R.keys ks).length≤200)(g:R.Gn ks ts gs):gs.length≤200:=Nh (ck (br g.1) λt m=>((g.2 t).mp m).1) rt
theorem Cg{xs:List V}{h:Int}(h0:0≤h)(h1:h≤xs.length):wz xs (some h) none=xs.drop h.toNat:=by
 unfold wz;rw[HT.wy];have e:HT.sIx xs.length 0 (some h)=h.toNat:=by
  show(if h<0 then(h+(xs.length:Int)).toNat else min h.toNat xs.length)=_;rw[if_neg (by omega),O7 (by omega)]
 rw[e,MW (by rw[ND];exact MR _)]
noncomputable def Bt(D:Ad):Sp:=λvs H Q _=>∃(v r d b p l g:Addr) (o:Obj) (ad:Int→Addr) (rs:List (Option Int)) (ks:R.Fs) (bs us gs ms:List Int) (xs:List Addr) (tr:Addr→R.Tr),vs=[.ref v,.ref b,.ref p]∧H v=some (.tup [.ref r,.ref d])∧R.Vw H r d o ad rs ks∧R.Rt rs ks∧rs.length≤8∧H b=some (.lst (bs.map V.int))∧bs.length≤200∧H64 bs∧(∀ n∈bs,n∈R.keys ks)∧us.Pairwise (·< ·)∧(∀ k,k∈us↔k∈bs)∧H p=some (.tup [.ref l,.ref g])∧R.Pap H l xs tr∧xs.length≤63∧R.Runs (rs++us.map some) ks [] (xs.map tr) ms∧(∀ n,some n∈rs++us.map some→n∈ms)∧R.Au ks ms∧H g=some (.lst (gs.map V.int))∧R.Gn ks (xs.map tr) gs∧∀ H',ay H H'→Q (.bl false) H'
noncomputable abbrev dD:List Str:=["view", "read", "paper", "triples", "gone", "kept", "t", "less"]
theorem aU:au dD ["view", "read", "paper"] (aj dA):=fsc
theorem kg(T:Txt w K mg D):Ok P w K mg base 6 D.lh ["view", "read", "paper"] (Bt D):=by
 refine T.o3 "_law_wrong_told" aU λcdv A' outer s' H vs Q E hr h=>?_;obtain⟨v,r,d,b,p,l,g,o,ad,rs,ks,bs,us,gs,ms,xs,tr,rfl,hv,vw,rt,r8,hb,hbl,h64,bk,upw,umm,hp,pap,xl,hR,hro,hsh,hg,hG,k⟩:=h;have hu:=b7 hr;refine⟨_,(PSs.nox (ai (qc (pv 2) (rQ rfl (dc (aN (i:=3) aU.nd rfl (Or.inl rfl)) (dc (aN (i:=4) aU.nd rfl (Or.inr rfl)) nu))))
  (ai (rD (cl:=[("gone",s'.heap.objs.size+1)]) (x := "t") (idx:=[4]) (NC:=["t", "gone"]) (i:=5) aU.nd rfl rfl ?co2 rfl (a9 (aP (dF rfl) rfl T.z PyProof.Rows.Boot.«sorted» (aa (a7 aX (pv 0) ar (λ_ _=>rfl)) aq))) (λC fp s₀ H₀=>(aE (r:=rIn K true) lX (pv 0) (pv 1) (by with_unfolding_all rfl))) (λC fp s₀ H₀=>(pv 0)))
  (ai (bF Nl rfl (a9 (fA hU (pv 4) g9 (hJ ar))) (aN (i:=6) aU.nd rfl (Or.inr rfl))
   (ak (a6 (fN ((cY T).c hr aV (aa (pv 0) (aa (pv 1) (aa (dU (aa (cM cK rfl T.z PyProof.Rows.Boot.«list» (aa (pv 3) aq)) (aa (fA hU (pv 4) (hJ ar) g9) aq))) aq)))))
    (ak (aG dR))
    aI)))
  (ai (bF Nl rfl (a9 (fA hU (pv 5) g9 (hJ ar))) (aN (i:=6) aU.nd rfl (Or.inr rfl))
   (ak (a6 (fN ((cY T).c hr aV (aa (pv 0) (aa (pv 1) (aa (dU (aa (cM cK rfl T.z PyProof.Rows.Boot.«list» (aa (pv 3) aq)) (aa (aP xV rfl T.z PyProof.Rows.Boot.«sorted» (aa (aT C4 (pv 4) (fP (aa (pv 6) aq))) aq)) aq))) aq)))))
    (ak (aG dR))
    aI)))
  (ai (bF Nl rfl (a9 (fA hU (pv 1) g9 (hJ ar))) (aN (i:=6) aU.nd rfl (Or.inr rfl))
   (ai (rD (cl:=[("t",s'.heap.objs.size+2)]) (x := "other") (idx:=[6]) (NC:=["other", "t"]) (i:=7) aU.nd rfl rfl ?co1 rfl (a9 (pv 1)) (λC fp s₀ H₀=>(aE Co (pv 0) (pv 1) (aO _))) (λC fp s₀ H₀=>(pv 0)))
   (ak (a6 (PW.pt (pw_and (aE (ya (n:=1) (b7 hr)) (a7 aX ((iX T).c hr aV (aa (pv 0) (aa (pv 7) aq))) ar (λ_ _=>rfl)) (pv 4) (aO _)) (pw_and1 (fN ((cY T).c hr aV (aa (pv 0) (aa (pv 7) (aa (pv 2) aq))))))))
    (ak (aG dR))
    aI))))
  (ak (aG dR)))))))),?_⟩
 case co1 =>
  exact cB (sc:=aj dA) (N:=dD) (ns:=["t"]) rfl rfl rfl (by decide +kernel) rfl rfl (by
   intro q hq;rw[MO.mp hq];rfl)
 case co2 =>
  exact cB (sc:=aj dA) (N:=dD) (ns:=["gone"]) rfl rfl rfl (by decide +kernel) rfl rfl (by
   intro q hq;rw[MO.mp hq];rfl)
 have kk:(R.keys ks).length≤200:=by rw[MN];exact rt.kl
 have gl:=Cf kk hG;have ul:us.length<64:=h64 us (br upw) λm h=>(umm m).mp h;have rt2:R.Rt (rs++us.map some) ks:=uO rt r8 ul λn h=>bk n ((umm n).mp h);have one:∀ gs',R.Gn ks (xs.map tr) gs'→gs'=gs:=λgs' h=>h.one hG;refine⟨_,rfl,p,_,rfl,SqT.of hp,rfl,_,_,rfl,_,_,rfl,rfl,?_⟩;refine⟨_,rfl,v,_,1,.ref d,rfl,rfl,SqT.of hv,rfl,d,_,R.keys ks,rfl,R.CF vw,R.mZ ad ks,by omega,rt.asc.imp (λh=>NZ h),λq hq=>⟨q,rfl,⟨_,SqL.of ag⟩,λkp hkp=>?_⟩⟩;have u1:=ay.upd (o:=.lst ((R.keys ks).map V.int)) hq;have zg1:=u1 _ _ hg;have zq1:=bt u1;generalize upd H q (.lst ((R.keys ks).map V.int))=H1 at *;refine fu (K:=K) (a:=q) (xs:=(R.keys ks).map V.int) (λi ys Hc=>ys=(((R.keys ks).take i).filter λt=>decide (t∉gs)).map V.int∧ay H1 Hc∧Hc kp=some (.lst ys)) ⟨rfl,ay.upd hkp,ag⟩ (λi ys Hc _ ⟨e,_,z⟩=>⟨z,by rw[e,MN];exact Nh (NF _ _) (by rw[MZ];omega)⟩) (λi ys Hc _ ⟨_,sc,_⟩=>SqL.of (sc _ _ zq1)) (by rw[MN];exact fe (by omega)) (λi y ys Hc hi ⟨e,sc,z⟩=>?_) (λys Hc ⟨e,sc,z⟩=>?_)
 ·rw[MY]at hi
  obtain⟨t,ht,rfl⟩:=Ng.mp hi;have tk:=take_snoc ht;refine⟨_,rfl,_,rfl,g,_,rfl,.inl (SqL.of (sc _ _ zg1)),rfl,eZ gs,_,rfl,?_⟩;show if(!inV (.int t) (gs.map V.int))=true then _ else _;rw[EE];by_cases c:t∈gs
  ·rw[decide_eq_true c]
   exact b8 ⟨by rw[tk,NJ,e];simp[c],sc,z⟩
  ·rw[decide_eq_false c]
   exact dt ⟨_,rfl,z,by rw[tk,NJ,e];simp[c],λb u q=>by rw[ab (ao q hkp)];exact sc b u q,ag⟩
 rw[MN,MW (MR _)]at e;subst e;have S2:=u1.trans sc;have kpn:∀ t∈(R.keys ks).filter (λt=>decide (t∉gs)),t∉gs:=λt m=>by simpa using (NA.mp m).2
 have kpk:∀ t∈(R.keys ks).filter (λt=>decide (t∉gs)),t∈R.keys ks:=λt m=>(NA.mp m).1;generalize (R.keys ks).filter (λt=>decide (t∉gs))=kps at *;clear u1 sc zg1 zq1 hq hkp;refine⟨_,rfl,_,rfl,g,_,rfl,SqL.of (S2 _ _ hg),λg1 hg1=>?_⟩;obtain⟨c1,ec1,_,mc1,_⟩:=m6 gs none (some 1);rw[ec1];have u2:=ay.upd (o:=.lst (c1.map V.int)) hg1;refine⟨g1,rfl,⟨_,SqL.of (bt u2)⟩,cg (K:=K) (a:=g1) (xs:=c1.map V.int) (λi σ Hx=>∃ v6 v7,σ=[some (.ref v),some (.ref b),some (.ref p),some (.ref l),some (.ref g),some (.ref kp),v6,v7]∧ay (upd Hc g1 (.lst (c1.map V.int))) Hx) ⟨none,none,rfl,ay.refl _⟩ (λi σ Hx _ ⟨_,_,_,sx⟩=>SqL.of (sx _ _ (bt u2))) ?_ ?_⟩
 ·rintro i y σ Hx hi ⟨v6,v7,rfl,sx⟩
  rw[MY]at hi;obtain⟨t,ht,rfl⟩:=Ng.mp hi;have mt:=mc1 t (Na ht);have S3:=(S2.trans u2).trans sx;refine⟨_,rfl,_,rfl,_,rfl,l,_,rfl,.inl (SqL.of (S3 _ _ pap.hl)),λl2 hl2=>?_⟩;have w1:=ay.upd (o:=.lst (xs.map V.ref)) hl2;refine⟨_,rfl,_,rfl,g,_,rfl,SqL.of (w1 _ _ (S3 _ _ hg)),λg2 hg2=>?_⟩;rw[Cg (xs:=gs.map V.int) (h:=1) (by decide) (by rw[MN];have:=OC mt;omega),show((1:Int).toNat)=1 from rfl,←List.map_drop];have w2:=ay.upd (o:=.lst ((gs.drop 1).map V.int)) hg2;refine⟨by show 2≤sizeLine;decide,λp2 hp2=>?_⟩;have w3:=ay.upd (o:=.tup [V.ref l2,V.ref g2]) hp2;have S4:=((S3.trans w1).trans w2).trans w3;refine⟨v,r,d,b,p2,l2,g2,o,ad,rs,ks,bs,us,xs,tr,gs.drop 1,rfl,SqT.of (S4 _ _ hv),vw.same (S4),rt,rt2,S4 _ _ hb,hbl,h64,upw,umm,SqT.of (bt w3),⟨w3 _ _ (w2 _ _ (bt w1)),λx hx=>S4 _ _ (pap.hx x hx)⟩,xl,w3 _ _ (bt w2),by rw[ND];omega,λbb H5 s5 hbb=>?_⟩;have hf:bb=false:=NM.mpr λz=>by
   have:=congrArg List.length (one _ (hbb.mp z).2)
   rw[ND]at this
   have:=OC mt
   omega
  subst hf;exact⟨_,rfl,b8 ⟨_,_,rfl,(((sx.trans w1).trans w2).trans w3).trans s5⟩⟩
 rintro σ Ha ⟨v6,v7,rfl,sa⟩;have S5:=(S2.trans u2).trans sa;have zk5:=sa _ _ (u2 _ _ z);clear u2 sa hg1 ec1 mc1;refine⟨_,rfl,_,rfl,kp,_,rfl,SqL.of zk5,λg1 hg1=>?_⟩;obtain⟨c2,ec2,_,mc2,_⟩:=m6 kps none (some 1);rw[ec2];have u2:=ay.upd (o:=.lst (c2.map V.int)) hg1;refine⟨g1,rfl,⟨_,SqL.of (bt u2)⟩,cg (K:=K) (a:=g1) (xs:=c2.map V.int) (λi σ Hx=>∃ v6 v7,σ=[some (.ref v),some (.ref b),some (.ref p),some (.ref l),some (.ref g),some (.ref kp),v6,v7]∧ay (upd Ha g1 (.lst (c2.map V.int))) Hx) ⟨v6,v7,rfl,ay.refl _⟩ (λi σ Hx _ ⟨_,_,_,sx⟩=>SqL.of (sx _ _ (bt u2))) ?_ ?_⟩
 ·rintro i y σ Hx hi ⟨v6,v7,rfl,sx⟩
  rw[MY]at hi;obtain⟨t,ht,rfl⟩:=Ng.mp hi;have nt:=kpn t (mc2 t (Na ht));have S3:=(S5.trans u2).trans sx;refine⟨_,rfl,_,rfl,_,rfl,l,_,rfl,.inl (SqL.of (S3 _ _ pap.hl)),λl2 hl2=>?_⟩;have w1:=ay.upd (o:=.lst (xs.map V.ref)) hl2;refine⟨_,rfl,_,rfl,by show 1≤sizeLine;decide,λa1 ha1=>?_⟩;have w2:=ay.upd (o:=.lst [V.int t]) ha1;refine⟨g,a1,_,_,rfl,rfl,SqL.of (w2 _ _ (w1 _ _ (S3 _ _ hg))),SqL.of (bt w2),fe (by rw[MN,NV];omega),λa2 ha2=>?_⟩;rw[show gs.map V.int++[V.int t]=(gs++[t]).map V.int by rw[MV];rfl];have w3:=ay.upd (o:=.lst ((gs++[t]).map V.int)) ha2;refine⟨a2,gs++[t],rfl,SqL.of (bt w3),by rw[M8,NV];omega,rF (br hG.1) nt,λa3 us3 ha3 pm srt=>?_⟩;have w4:=ay.upd (o:=.lst (us3.map V.int)) ha3;refine⟨by show 2≤sizeLine;decide,λp2 hp2=>?_⟩;have w5:=ay.upd (o:=.tup [V.ref l2,V.ref a3]) hp2;have wA:=(((w1.trans w2).trans w3).trans w4).trans w5;have S4:=S3.trans wA;have l3:us3.length=gs.length+1:=by rw[pm.length_eq,M8];rfl
  have gk:gs.length+1≤200:=by
   have hk:gs.length+1≤(R.keys ks).length:=by
    have:=ck (rF (br hG.1) nt) (ks:=R.keys ks) λx hx=>by
     rcases MS.mp hx with h|h
     ·exact((hG.2 x).mp h).1
     ·rw[MO.mp h];exact kpk t (mc2 t (Na ht))
    rw[M8,NV]at this;exact this
   omega
  refine⟨v,r,d,b,p2,l2,a3,o,ad,rs,ks,bs,us,xs,tr,us3,rfl,SqT.of (S4 _ _ hv),vw.same (S4),rt,rt2,S4 _ _ hb,hbl,h64,upw,umm,SqT.of (bt w5),⟨w5 _ _ (w4 _ _ (w3 _ _ (w2 _ _ (bt w1)))),λx hx=>S4 _ _ (pap.hx x hx)⟩,xl,w5 _ _ (bt w4),by omega,λbb H5 s5 hbb=>?_⟩;have hf:bb=false:=NM.mpr λz=>by
   have:=congrArg List.length (one _ (hbb.mp z).2)
   omega
  subst hf;exact⟨_,rfl,b8 ⟨_,_,rfl,(sx.trans wA).trans s5⟩⟩
 rintro σ Hb ⟨v6,v7,rfl,sb⟩;have S6:=(S5.trans u2).trans sb;clear u2 sb hg1 ec2 mc2 zk5 S5;refine⟨_,rfl,_,rfl,b,_,rfl,SqL.of (S6 _ _ hb),λg1 hg1=>?_⟩;obtain⟨c3,ec3,_,mc3,_⟩:=m6 bs none (some 1);rw[ec3];have u2:=ay.upd (o:=.lst (c3.map V.int)) hg1;refine⟨g1,rfl,⟨_,SqL.of (bt u2)⟩,cg (K:=K) (a:=g1) (xs:=c3.map V.int) (λi σ Hx=>∃ v6 v7,σ=[some (.ref v),some (.ref b),some (.ref p),some (.ref l),some (.ref g),some (.ref kp),v6,v7]∧ay (upd Hb g1 (.lst (c3.map V.int))) Hx) ⟨v6,v7,rfl,ay.refl _⟩ (λi σ Hx _ ⟨_,_,_,sx⟩=>SqL.of (sx _ _ (bt u2))) ?_ ?_⟩
 ·rintro i y σ Hx hi ⟨v6,v7,rfl,sx⟩
  rw[MY]at hi;obtain⟨t,ht,rfl⟩:=Ng.mp hi;have S3:=(S6.trans u2).trans sx;refine⟨_,rfl,b,rfl,⟨_,SqL.of (S3 _ _ hb)⟩,λls hls=>?_⟩;refine fu (K:=K) (a:=b) (xs:=bs.map V.int) (λi ys Hd=>ys=((bs.take i).filter λu=>decide (u≠t)).map V.int∧ay Hx Hd∧Hd ls=some (.lst ys)) ⟨rfl,ay.upd hls,ag⟩ (λi ys Hd _ ⟨e,_,z⟩=>⟨z,by rw[e,MN];exact Nh (NF _ _) (by rw[MZ];omega)⟩) (λi ys Hd _ ⟨_,sc,_⟩=>SqL.of (sc _ _ (S3 _ _ hb))) (by rw[MN];exact fe (by omega)) (λi y ys Hd hi ⟨e,sc,z⟩=>?_) (λys Hd ⟨e,sc,z⟩=>?_)
  ·rw[MY]at hi
   obtain⟨u,hu9,rfl⟩:=Ng.mp hi;have tk:=take_snoc hu9;refine⟨_,rfl,_,rfl,rfl,_,rfl,?_⟩;by_cases c:u=t
   ·refine qP (by rw[c];simp) ⟨by rw[tk,NJ,e];simp[c],sc,z⟩
   ·refine xJ (by simp[c]) ⟨_,rfl,z,by rw[tk,NJ,e];simp[c],λb u q=>by rw[ab (ao q hls)];exact sc b u q,ag⟩
  rw[MN,MW (MR _)]at e;subst e;have S7:=S3.trans sc;have lf:(bs.filter λu=>decide (u≠t)).length≤200:=Nh (NF _ _) hbl;have m2:∀ x,x∈us.filter (λu=>decide (u≠t))↔x∈bs.filter (λu=>decide (u≠t)):=λx=>by rw[NA,NA,umm x]
  have up2:(us.filter λu=>decide (u≠t)).Pairwise (·< ·):=N4 NW upw;have IB:H64 (bs.filter λu=>decide (u≠t)):=λms nd h=>h64 ms nd λm hm=>(NA.mp (h m hm)).1;generalize us.filter (λu=>decide (u≠t))=us2 at *;have bk2:∀ n∈us2,n∈R.keys ks:=λn h=>bk n (NA.mp ((m2 n).mp h)).1;generalize bs.filter (λu=>decide (u≠t))=bs2 at *;have ul2:us2.length<64:=IB us2 (br up2) λm h=>(m2 m).mp h;have rt3:R.Rt (rs++us2.map some) ks:=uO rt r8 ul2 bk2;refine⟨_,rfl,_,rfl,v,r,d,ls,o,ad,rs,ks,bs2,us2,rfl,SqT.of (S7 _ _ hv),vw.same S7,rt,rt3,z,lf,IB,up2,m2,λtp l2 g2 xs2 tr2 ms2 gs2 H5 s5 _ _ _ htp pap2 hR2 hro2 hsh2 zg2 hG2 _=>?_⟩;have S8:=S7.trans s5;have ra:=jO zg2;have rb:=jO (S8 _ _ hg);refine⟨tp,_,1,.ref g2,rfl,rfl,SqT.of htp,rfl,_,rfl,_,_,ra,rb,_,rfl,?_⟩;have skip:∃ v6 v7,([some (.ref v),some (.ref b),some (.ref p),some (.ref l),some (.ref g),some (.ref kp),some (.int t),some (.ref ls)]:St)=[some (.ref v),some (.ref b),some (.ref p),some (.ref l),some (.ref g),some (.ref kp),v6,v7]∧ay (upd Hb g1 (.lst (c3.map V.int))) H5:=⟨_,_,rfl,(sx.trans sc).trans s5⟩;by_cases eg:gs2=gs
  ·rw[eg]at ra ⊢
   exact qP (by rw[i6 rb rb];rfl) (b8 skip)
  ·refine bu (λ_=>?_) (λ_=>b8 skip)
   refine⟨_,rfl,_,rfl,_,rfl,v,r,d,ls,p,l,g,o,ad,rs,ks,bs2,us2,xs,tr,gs,rfl,SqT.of (S8 _ _ hv),vw.same S8,rt,rt3,s5 _ _ z,lf,IB,up2,m2,SqT.of (S8 _ _ hp),pap.same S8,xl,S8 _ _ hg,gl,λbb H6 s6 hbb=>?_⟩;have hf:bb=false:=NM.mpr λz=>by
    obtain⟨⟨m,r1,r2,r3⟩,_⟩:=hbb.mp z;exact eg (gB hG2.1 hG.1 λx=>(CJ hR2 hro2 hsh2 hG2 x).trans (CJ r1 r2 r3 hG x).symm)
   subst hf;exact⟨_,rfl,b8 ⟨_,_,rfl,((sx.trans sc).trans s5).trans s6⟩⟩
 rintro σ Hz ⟨v6,v7,rfl,sz⟩;exact k Hz ((S6.trans u2).trans sz)
noncomputable def thW(ws:List Wd):List Int:=ws.filterMap λw=>match w with|.th t=>some t|_=>none
theorem yX{ws:List Wd}{t:Int}:t∈thW ws↔Wd.th t∈ws:=by
 unfold thW;rw[N6];constructor
 ·rintro⟨w,m,e⟩
  cases w with
  | no=>cases e
  | num n=>cases e
  | th u=>cases e;exact m
 ·intro m
  exact⟨_,m,rfl⟩
theorem Ci(ws:List Wd):(thW ws).length≤ws.length:=OT _ _
noncomputable def tot(fs:List (Int×List Wd)):Nat:=(fs.map λp=>(thW p.2).length).sum
noncomputable def cnt(s:HS):Nat:=tot s.aC
theorem DW{a b:List (Int×List Wd)}:tot (a++b)=tot a+tot b:=by unfold tot;rw[MV,List.sum_append]
theorem gP{fs:List (Int×List Wd)}{p:Int×List Wd→Bool}:tot (fs.filter p)≤tot fs:=by
 induction fs with
 | nil=>exact MR _
 | cons q r ih =>
  rw[List.filter_cons];have e:tot (q::r)=(thW q.2).length+tot r:=rfl;by_cases c:p q=true
  ·rw[if_pos c,e]
   show(thW q.2).length+tot (r.filter p)≤_;omega
  ·rw[if_neg c,e]
   omega
theorem DX{ws:List Wd}{k:Nat}{w:Wd}:(thW (ws.set k w)).length≤(thW ws).length+1:=by
 induction ws generalizing k with
 | nil=>simp[thW]
 | cons a r ih =>
  have split:∀(b:Wd) (l:List Wd),(thW (b::l)).length=(thW [b]).length+(thW l).length:=λb l=>by
   have:thW (b::l)=thW [b]++thW l:=by unfold thW;rw[←List.filterMap_append];rfl
   rw[this,M8]
  have one:∀ b:Wd,(thW [b]).length≤1:=λb=>Ci [b];cases k with
  | zero =>
   have i:=one w;rw[List.set_cons_zero,split w r,split a r];omega
  | succ k =>
   have i:=ih (k:=k);rw[List.set_cons_succ,split a (r.set k w),split a r];omega
theorem DY{fs:List (Int×List Wd)}(nd:(fs.map (·.1)).Nodup){t:Int}{ws w0:List Wd}(m:(t,w0)∈fs)(h:(thW ws).length≤(thW w0).length+1):tot (dz fs t ws)≤tot fs+1:=by
 induction fs with
 | nil=>cases m
 | cons q r ih =>
  rw[Nz,Oc]at nd;have e1:tot (q::r)=(thW q.2).length+tot r:=rfl;have e2:tot (dz (q::r) t ws)=(thW (if q.1=t then(t,ws) else q).2).length+tot (dz r t ws):=rfl;rw[e1,e2];rcases Nk.mp m with e|m
  ·cases e
   rw[if_pos rfl];have er:dz r t ws=r:=by
    unfold dz;rw[NG (g:=id) λp hp=>by rw[if_neg λz=>nd.1 (by rw[←z];exact Nc.mpr ⟨p,hp,rfl⟩)];rfl];simp
   rw[er];show(thW ws).length+tot r≤_;have h:(thW ws).length≤(thW w0).length+1:=h;show _≤(thW w0).length+tot r+1;omega
  ·have:=ih nd.2 m
   rw[if_neg λz=>nd.1 (by rw[z];exact Nc.mpr ⟨_,m,rfl⟩)];omega
theorem DZ{n:Nat}:thW (List.replicate n Wd.no)=[]:=by
 induction n with
 | zero=>rfl
 | succ n ih=>rw[N9];unfold thW at ih ⊢;rw[List.filterMap_cons];exact ih
theorem FH{s:HS}{n:Int}:cnt (mkR s n)≤cnt s:=by
 unfold mkR;split
 ·exact gP
 ·exact MR _
theorem FI{s:HS}{n:Option Int}:cnt (rdR s n)=cnt s:=by
 unfold rdR;split
 ·split<;>rfl
 ·rfl
theorem vc{s:HS}(d:Gd s){dd:Dd}:(dDo s dd).2.nxt+(cnt (dDo s dd).2:Int)≤s.nxt+cnt s+1:=by
 have same:s.nxt+(cnt s:Int)≤s.nxt+cnt s+1:=by omega
 have nd:=br d.g.asc;cases dd with
 | make h n =>
  show(bp s h n).2.nxt+(cnt (bp s h n).2:Int)≤_;have c1:=FH (s:=s) (n:=n);have n1:=hW (s:=s) (n:=n);unfold bp;split
  ·split
   ·split
    ·show(mkR s n).nxt+(cnt (mkR s n):Int)≤_
     omega
    ·have:cnt (tK (mkR s n) h n)=cnt (mkR s n):=by
      show tot ((mkR s n).aC++[((mkR s n).nxt,List.replicate n.toNat Wd.no)])=_;rw[DW];show _+((thW (List.replicate n.toNat Wd.no)).length+0)=_;rw[DZ];rfl
     show(mkR s n).nxt+1+(cnt (tK (mkR s n) h n):Int)≤_;omega
   ·exact same
  ·exact same
 | store g k h =>
  show(a8 s g k h).2.nxt+(cnt (a8 s g k h).2:Int)≤_;unfold a8;split
  ·rename_i t e
   split
   ·rename_i w e2
    split
    ·have:=DY nd (d.g.hand e) (DX (ws:=fld s t) (k:=k.toNat) (w:=w))
     show s.nxt+(tot (dz s.aC t ((fld s t).set k.toNat w)):Int)≤s.nxt+(tot s.aC:Int)+1;omega
    ·exact same
   ·exact same
  ·exact same
 | load h g k =>
  show(bP s h g k).2.nxt+(cnt (bP s h g k).2:Int)≤_;unfold bP;split
  ·split
   ·split<;>exact same
   ·exact same
  ·exact same
 | copy h g =>
  show(cF s h g).2.nxt+(cnt (cF s h g).2:Int)≤_;unfold cF;split
  ·split<;>exact same
  ·exact same
 | drop h =>
  show(cO s h).2.nxt+(cnt (cO s h).2:Int)≤_;unfold cO;split<;>exact same
 | number h x =>
  show(aZ s h x).2.nxt+(cnt (aZ s h x).2:Int)≤_;unfold aZ;split
  ·split<;>exact same
  ·exact same
 | name w h =>
  show(bH s w h).2.nxt+(cnt (bH s w h).2:Int)≤_;unfold bH;split
  ·split<;>exact same
  ·exact same
 | read h w =>
  show(bA s h w).2.nxt+(cnt (bA s h w).2:Int)≤_;unfold bA;split
  ·split
   ·show(rdR _ _).nxt+(cnt (rdR _ _):Int)≤_
    rw[uG,FI];exact same
   ·exact same
  ·exact same
 | word h x =>
  show(bQ s h x).2.nxt+(cnt (bQ s h x).2:Int)≤_;unfold bQ;split
  ·split
   ·split<;>exact same
   ·exact same
  ·exact same
 | small =>
  have:cnt (bz s)≤cnt s:=gP
  show s.nxt+(cnt (bz s):Int)≤_;omega
 | turn =>
  show(qU s).2.nxt+(cnt (qU s).2:Int)≤_;unfold qU;split
  ·rename_i c
   rw[show As s=(none,qk s) from if_pos c]
   have:cnt (qk s)≤cnt s:=gP
   show s.nxt+(cnt (qk s):Int)≤_;omega
  ·rename_i c
   rw[show mM s=(none,qj (bz s)) from if_neg c]
   have:cnt (qj (bz s))≤cnt s:=gP
   show s.nxt+(cnt (qj (bz s)):Int)≤_;omega
theorem yY{s s':HS}{gs:List Int}(g:Good s)(e:s'.aC=drG s.aC gs){t:Int}(m:t∉gs)(k:t∈keys s):fld s' t=fld s t:=by
 obtain⟨ws,mw⟩:=mem_keys.mp k;have e2:s'.aC.lookup t=some ws:=by rw[e];exact mem_lookup (br (N4 (Pg _ NW) g.asc)) (bO.mpr ⟨mw,m⟩)
 rw[g.fld mw];unfold fld;rw[e2];rfl
theorem xW{α:Type}{fs:List (Int×α)}{t u:Int}{w:α}(h:u≠t):(fs++[(t,w)]).lookup u=fs.lookup u:=by
 induction fs with
 | nil=>show List.lookup u [(t,w)]=none;rw[NN,beq_eq_false_iff_ne.mpr h];rfl
 | cons p r ih =>
  obtain⟨a,b⟩:=p;rw[List.cons_append,NN,NN,ih]
theorem we{fs:List (Int×List Wd)}{t u:Int}{ws:List Wd}(h:u≠t):(dz fs t ws).lookup u=fs.lookup u:=by
 induction fs with
 | nil=>rfl
 | cons p r ih =>
  obtain⟨a,b⟩:=p;show List.lookup u ((if a=t then(t,ws) else(a,b))::dz r t ws)=_;by_cases c:a=t
  ·rw[if_pos c,NN,NN,ih,c,beq_eq_false_iff_ne.mpr h]
  ·rw[if_neg c,NN,NN,ih]
noncomputable def Cj:Dd→Bool
 | .turn=>true
 | _=>false
theorem uP{s:HS}{n:Int}:(mkR s n).aF=s.aF:=by unfold mkR;split<;>rfl
theorem Ck{s:HS}(d:Gd s){n t:Int}(m:t∈s.aF):fld (mkR s n) t=fld s t∧t∈keys (mkR s n):=by
 obtain⟨ws,mw⟩:=d.g.dk t m;unfold mkR;split
 ·have ng:t∉cU s:=λz=>d.dy t m (bD.mp z).1
  exact⟨yY (gs:=cU s) d.g rfl ng (mem_keys.mpr ⟨ws,mw⟩),mem_keys.mpr ⟨ws,bO.mpr ⟨mw,ng⟩⟩⟩
 ·exact⟨rfl,mem_keys.mpr ⟨ws,mw⟩⟩
theorem Aa{s:HS}(d:Gd s){dd:Dd}(nt:Cj dd=false){t:Int}(m:t∈(dDo s dd).2.aF):t∈s.aF∧fld (dDo s dd).2 t=fld s t:=by
 cases dd with
 | make h n =>
  revert m;show t∈(bp s h n).2.aF→_∧fld (bp s h n).2 t=_;unfold bp;split
  ·split
   ·split
    ·intro m
     have m:t∈(mkR s n).aF:=m;rw[uP]at m;exact⟨m,(Ck d m).1⟩
    ·intro m
     have m:t∈(mkR s n).aF:=m;rw[uP]at m;obtain⟨f1,f2⟩:=Ck (n:=n) d m;refine⟨m,Eq.trans ?_ f1⟩;obtain⟨ws,mw⟩:=mem_keys.mp f2;have lt:=(d.mkd.g.lt _ _ mw).2;show(((mkR s n).aC++[((mkR s n).nxt,List.replicate n.toNat Wd.no)]).lookup t).getD []=_;rw[xW (by omega)];rfl
   ·exact λm=>⟨m,rfl⟩
  ·exact λm=>⟨m,rfl⟩
 | store g k h =>
  revert m;show t∈(a8 s g k h).2.aF→_∧fld (a8 s g k h).2 t=_;unfold a8;split
  ·rename_i u e
   split
   ·split
    ·intro m
     have m:t∈s.aF:=m;have ne:t≠u:=λz=>(d.hnd e u rfl).2 (by rw[←z];exact m);refine⟨m,?_⟩;show((dz s.aC u _).lookup t).getD []=_;rw[we ne];rfl
    ·exact λm=>⟨m,rfl⟩
   ·exact λm=>⟨m,rfl⟩
  ·exact λm=>⟨m,rfl⟩
 | load h g k =>
  revert m;show t∈(bP s h g k).2.aF→_∧fld (bP s h g k).2 t=_;unfold bP;split
  ·split
   ·split<;>exact λm=>⟨m,rfl⟩
   ·exact λm=>⟨m,rfl⟩
  ·exact λm=>⟨m,rfl⟩
 | copy h g =>
  revert m;show t∈(cF s h g).2.aF→_∧fld (cF s h g).2 t=_;unfold cF;split
  ·split<;>exact λm=>⟨m,rfl⟩
  ·exact λm=>⟨m,rfl⟩
 | drop h =>
  revert m;show t∈(cO s h).2.aF→_∧fld (cO s h).2 t=_;unfold cO;split<;>exact λm=>⟨m,rfl⟩
 | number h x =>
  revert m;show t∈(aZ s h x).2.aF→_∧fld (aZ s h x).2 t=_;unfold aZ;split
  ·split<;>exact λm=>⟨m,rfl⟩
  ·exact λm=>⟨m,rfl⟩
 | name w h =>
  revert m;show t∈(bH s w h).2.aF→_∧fld (bH s w h).2 t=_;unfold bH;split
  ·split<;>exact λm=>⟨m,rfl⟩
  ·exact λm=>⟨m,rfl⟩
 | read h w =>
  revert m;show t∈(bA s h w).2.aF→_∧fld (bA s h w).2 t=_;unfold bA;split
  ·split
   ·unfold rdR
    split
    ·split
     ·intro m
      exact⟨(d9.mp m).1,rfl⟩
     ·exact λm=>⟨m,rfl⟩
    ·exact λm=>⟨m,rfl⟩
   ·exact λm=>⟨m,rfl⟩
  ·exact λm=>⟨m,rfl⟩
 | word h x =>
  revert m;show t∈(bQ s h x).2.aF→_∧fld (bQ s h x).2 t=_;unfold bQ;split
  ·split
   ·split<;>exact λm=>⟨m,rfl⟩
   ·exact λm=>⟨m,rfl⟩
  ·exact λm=>⟨m,rfl⟩
 | small =>
  have m:t∈s.aF:=m;obtain⟨ws,mw⟩:=d.g.dk t m;exact⟨m,yY (gs:=cU s) d.g rfl (λz=>d.dy t m (bD.mp z).1) (mem_keys.mpr ⟨ws,mw⟩)⟩
 | turn=>cases nt
theorem ve{s:HS}{dd:Dd}(nt:Cj dd=false):(dDo s dd).2.rnd=s.rnd:=by
 cases dd with
 | make h n =>
  show(bp s h n).2.rnd=_;have e:(mkR s n).rnd=s.rnd:=by unfold mkR;split<;>rfl
  unfold bp;split
  ·split
   ·split<;>exact e
   ·rfl
  ·rfl
 | store g k h=>show(a8 s g k h).2.rnd=_;unfold a8;split<;>(try split)<;>(try split)<;>rfl
 | load h g k=>show(bP s h g k).2.rnd=_;unfold bP;split<;>(try split)<;>(try split)<;>rfl
 | copy h g=>show(cF s h g).2.rnd=_;unfold cF;split<;>(try split)<;>rfl
 | drop h=>show(cO s h).2.rnd=_;unfold cO;split<;>rfl
 | number h x=>show(aZ s h x).2.rnd=_;unfold aZ;split<;>(try split)<;>rfl
 | name w h=>show(bH s w h).2.rnd=_;unfold bH;split<;>(try split)<;>rfl
 | read h w =>
  show(bA s h w).2.rnd=_;unfold bA;split
  ·split
   ·unfold rdR
    split
    ·split<;>rfl
    ·rfl
   ·rfl
  ·rfl
 | word h x=>show(bQ s h x).2.rnd=_;unfold bQ;split<;>(try split)<;>(try split)<;>rfl
 | small=>rfl
 | turn=>cases nt
theorem D1{F:Int→List Wd}{S:List Int}{t u:Int}(l:Led [.th t] F S u):t∈S:=by
 induction l with
 | root m d=>cases MO.mp m;exact d
 | step _ _ _ ih=>exact ih
theorem D2{s:HS}{h:Int}{n:Option Int}{u:Int}:u∈(rdR (eR s h (nmW n)) n).aF↔u∈s.aF∧¬∃ t,n=some t∧Led [.th t] (fld s) s.aF u:=by
 cases n with
 | none=>exact⟨λm=>⟨m,λ⟨_,e,_⟩=>nomatch e⟩,λm=>m.1⟩
 | some t =>
  unfold rdR;dsimp only;by_cases c:t∈s.aF
  ·rw[if_pos (show t∈(eR s h (nmW (some t))).aF from c),d9]
   exact and_congr Iff.rfl (not_congr ⟨λl=>⟨t,rfl,l⟩,λ⟨_,e,l⟩=>by cases e;exact l⟩)
  ·rw[if_neg (show t∉(eR s h (nmW (some t))).aF from c)]
   refine⟨λm=>⟨m,λ⟨_,e,l⟩=>?_⟩,λm=>m.1⟩;cases e;exact c (D1 l)
noncomputable def EF:Dd→Bool
 | .read ..=>true
 | _=>false
theorem D3{s:HS}{dd:Dd}(nt:Cj dd=false)(nr:EF dd=false):(dDo s dd).2.aF=s.aF:=by
 cases dd with
 | make h n =>
  show(bp s h n).2.aF=_;unfold bp;split
  ·split
   ·split<;>exact uP
   ·rfl
  ·rfl
 | store g k h=>show(a8 s g k h).2.aF=_;unfold a8;split<;>(try split)<;>(try split)<;>rfl
 | load h g k=>show(bP s h g k).2.aF=_;unfold bP;split<;>(try split)<;>(try split)<;>rfl
 | copy h g=>show(cF s h g).2.aF=_;unfold cF;split<;>(try split)<;>rfl
 | drop h=>show(cO s h).2.aF=_;unfold cO;split<;>rfl
 | number h x=>show(aZ s h x).2.aF=_;unfold aZ;split<;>(try split)<;>rfl
 | name w h=>show(bH s w h).2.aF=_;unfold bH;split<;>(try split)<;>rfl
 | read h w=>cases nr
 | word h x=>show(bQ s h x).2.aF=_;unfold bQ;split<;>(try split)<;>(try split)<;>rfl
 | small=>rfl
 | turn=>cases nt
theorem Cm(s:HS)(c:Int):(rdL s c).length≤1:=by
 unfold rdL;split
 ·cases s.names.getD (c/8192%8).toNat none<;>simp
 ·simp
theorem vg(c:Int):Cj (cdD c)=false:=by
 unfold cdD cdK
 repeat' split
 all_goals rfl
theorem JM{c:Int}(h:¬c%16=13):EF (cdD c)=false:=by
 unfold cdD cdK
 repeat' split
 all_goals first|rfl|exact absurd (by assumption) h
theorem Bu{w:Wd}{t:Int}:thO w=some t↔w=.th t:=by
 cases w with
 | no=>exact⟨(λh=>by cases h),(λh=>by cases h)⟩
 | num n=>exact⟨(λh=>by cases h),(λh=>by cases h)⟩
 | th u=>exact⟨(λh=>by cases h;rfl),(λh=>by cases h;rfl)⟩
theorem cV{ws:List Wd}{t:Int}:some t∈ws.map thO↔Wd.th t∈ws:=by
 rw[Nc];exact⟨λ⟨w,m,e⟩=>by rw[←Bu.mp e];exact m,λm=>⟨_,m,rfl⟩⟩
theorem cD{b:HS}:R.keys (vks b)=keys b:=by
 show(vks b).map (·.1)=keys b;unfold vks;rw[Ny];exact List.map_id _
theorem Cn{b:HS}(g:Good b){t:Int}(m:t∈keys b):R.cQ (vks b) t=(fld b t).map thO :=
 R.eG (ks:=vks b) (p:=(t,(fld b t).map thO)) (by show(R.keys (vks b)).Nodup;rw[cD];exact br g.asc) (Nc.mpr ⟨t,m,rfl⟩)
theorem oz{b:HS}(g:Good b){rd:List Int}(rk:∀ n∈rd,n∈keys b){t:Int}(h:Rc (vrs b++rd.map some) (R.cQ (vks b)) t):t∈keys b:=by
 induction h with
 | root m =>
  rcases MS.mp m with m|m
  ·exact mem_keys.mpr (g.hh _ (cV.mp m))
  ·obtain⟨u,mu,e⟩:=Nc.mp m
   cases e;exact rk _ mu
 | step _ m ih =>
  rw[Cn g ih]at m;obtain⟨ws,mw⟩:=mem_keys.mp ih;rw[g.fld mw]at m;exact mem_keys.mpr (g.ff _ _ _ mw (cV.mp m))
theorem FJ{b:HS}(g:Good b){t:Int}:Led b.aL (fld b) (keys b) t↔Rc (vrs b++([]:List Int).map some) (R.cQ (vks b)) t:=by
 constructor
 ·intro h
  induction h with
  | root m _=>exact .root (Nd _ (cV.mpr m))
  | step a m _ ih=>exact .step ih (by rw[Cn g a.mem];exact cV.mpr m)
 ·intro h
  induction h with
  | root m =>
   rcases MS.mp m with m|m
   ·exact .root (cV.mp m) (mem_keys.mpr (g.hh _ (cV.mp m)))
   ·cases m
  | step a m ih =>
   have mk:=oz g (rd:=[]) (λn h=>nomatch h) (.step a m);rw[Cn g ih.mem]at m;exact .step ih (cV.mp m) mk
theorem uQ{rs rs':List (Option Int)}{F:Int→List (Option Int)}(h:∀ o∈rs,o∈rs'){t:Int}(r:Rc rs F t):Rc rs' F t:=by
 induction r with
 | root m=>exact .root (h _ m)
 | step _ m ih=>exact .step ih m
structure Dm(b s:HS)(rd:List Int):Prop where
 mem:∀ t,t∈s.aF↔t∈keys b∧¬Rc (vrs b++rd.map some) (R.cQ (vks b)) t
 fl:∀ t∈s.aF,fld s t=fld b t
 rk:∀ n∈rd,n∈keys b
theorem dm0{s:HS}(d:Gd s):Dm (qj (bz s)) (qj (bz s)) [] where
 mem:=λt=>by
  have g:=(d.small.beg rfl).g;show t∈qS (bz s)↔_;rw[d8,←FJ g];exact Iff.rfl
 fl:=λ_ _=>rfl
 rk:=λ_ h=>nomatch h
theorem Dm.step{b s:HS}(gb:Good b)(gs:Gd s){rd:List Int}(d:Dm b s rd)(c:Int):Dm b (dDo s (cdD c)).2 (rd++(rdL s c).filter λt=>decide (t∈keys b)):=by
 have fl:∀ t∈(dDo s (cdD c)).2.aF,fld (dDo s (cdD c)).2 t=fld b t:=λt m=>by
  obtain⟨m1,m2⟩:=Aa gs (vg c) m;rw[m2];exact d.fl t m1
 have same:(dDo s (cdD c)).2.aF=s.aF→(rdL s c).filter (λt=>decide (t∈keys b))=[]→Dm b (dDo s (cdD c)).2 (rd++(rdL s c).filter λt=>decide (t∈keys b)):=λe1 e2=>by
  rw[e2,N3];exact⟨λt=>by rw[e1];exact d.mem t,fl,d.rk⟩
 by_cases h:c%16=13
 ·obtain⟨n,en⟩:∃ n,s.names.getD (c/8192%8).toNat none=n:=⟨_,rfl⟩
  have er:rdL s c=n.toList:=by unfold rdL;rw[if_pos h,en]
  have ed:(dDo s (cdD c)).2=rdR (eR s (c/16%8) (nmW n)) n:=by
   rw[uI h];show(bA s _ _).2=_;unfold bA;rw[if_pos (m8 c 16),if_pos (m8 c 8192),en]
  have md:∀ u,u∈(dDo s (cdD c)).2.aF↔u∈s.aF∧¬∃ t,n=some t∧Led [.th t] (fld s) s.aF u:=λu=>by rw[ed];exact D2
  cases n with
  | none=>exact same (by rw[ed];rfl) (by rw[er];rfl)
  | some t =>
   by_cases tk:t∈keys b
   ·have ef:(rdL s c).filter (λt=>decide (t∈keys b))=[t]:=by rw[er];simp[tk]
    rw[ef];refine⟨λu=>?_,fl,λm hm=>(MS.mp hm).elim (d.rk m) λz=>by rw[MO.mp z];exact tk⟩;rw[md u,d.mem u,MV,←Ni];have old:∀ {v:Int},Rc (vrs b++rd.map some) (R.cQ (vks b)) v→Rc (vrs b++rd.map some++[t].map some) (R.cQ (vks b)) v:=uQ λo ho=>Nd _ ho;have rk2:∀ n∈rd++[t],n∈keys b:=λm hm=>(MS.mp hm).elim (d.rk m) λz=>by rw[MO.mp z];exact tk
    have part:∀ {v:Int},v∈keys b→Rc (vrs b++rd.map some) (R.cQ (vks b)) v∨v∈s.aF:=λ{v} mv=>by
     by_cases z:Rc (vrs b++rd.map some) (R.cQ (vks b)) v
     ·exact .inl z
     ·exact .inr ((d.mem v).mpr ⟨mv,z⟩)
    have new:∀ {v:Int},Rc (vrs b++rd.map some++[t].map some) (R.cQ (vks b)) v→Rc (vrs b++rd.map some) (R.cQ (vks b)) v∨Led [.th t] (fld s) s.aF v:=λ{v} r=>by
     induction r with
     | root m =>
      rcases MS.mp m with m|m
      ·exact .inl (.root m)
      ·have e:t=_:=Nf (MO.mp m).symm
       rw[←e];exact(part tk).imp id λz=>.root (MO.mpr rfl) z
     | step a m ih =>
      rename_i v w;have mv:v∈keys b:=oz gb rk2 (by rw[MV,←Ni];exact a);have mw:w∈keys b:=oz gb rk2 (by rw[MV,←Ni];exact .step a m);rcases ih with ih|ih
      ·exact .inl (.step ih m)
      ·refine(part mw).imp id λz=>.step ih ?_ z
       rw[d.fl v ih.mem];rw[Cn gb mv]at m;exact cV.mp m
    have back:∀ {v:Int},Led [.th t] (fld s) s.aF v→Rc (vrs b++rd.map some++[t].map some) (R.cQ (vks b)) v:=λ{v} r=>by
     induction r with
     | root m _ =>
      have e:=MO.mp m;injection e with e;exact .root (MX _ (MO.mpr (by rw[e])))
     | step a m _ ih =>
      refine .step ih ?_;rw[Cn gb ((d.mem _).mp a.mem).1];rw[d.fl _ a.mem]at m;exact cV.mpr m
    constructor
    ·rintro⟨⟨k1,k2⟩,k3⟩
     exact⟨k1,λr=>(new r).elim k2 λz=>k3 ⟨t,rfl,z⟩⟩
    ·rintro⟨k1,k2⟩
     refine⟨⟨k1,λr=>k2 (old r)⟩,?_⟩;rintro⟨t',e,z⟩;cases e;exact k2 (back z)
   ·refine same ?_ (by rw[er];simp[tk])
    rw[ed];unfold rdR;dsimp only;rw[if_neg (show t∉(eR s (c/16%8) (nmW (some t))).aF from λz=>tk ((d.mem t).mp z).1)];rfl
 ·exact same (D3 (vg c) (JM h)) (by unfold rdL;rw[if_neg h];rfl)
structure Nm(s:HS)(rd nm:List Int)(i:Nat):Prop where
 nn:∀ t,some t∈s.names→t∈nm
 rn:∀ t∈rd,t∈nm
 le:nm.length+rd.length≤8+i
 lr:rd.length≤i
theorem EG{s:HS}{gs:List Int}{t:Int}(h:some t∈s.names.map (nmG gs)):some t∈s.names:=by
 obtain⟨o,mo,e⟩:=Nc.mp h;cases o with
 | none=>cases e
 | some u =>
  have e:(if u∈gs then none else some u)=some t:=e;split at e
  ·cases e
  ·cases e;exact mo
theorem JN{s:HS}{n t:Int}(h:some t∈(mkR s n).names):some t∈s.names:=by
 unfold mkR at h;split at h
 ·exact EG h
 ·exact h
theorem JO{s:HS}{dd:Dd}(nt:Cj dd=false):∃ x:List Int,x.length≤1∧(EF dd=true→x=[])∧∀ t,some t∈(dDo s dd).2.names→some t∈s.names∨t∈x:=by
 have same:(∀ t,some t∈(dDo s dd).2.names→some t∈s.names)→∃ x:List Int,x.length≤1∧(EF dd=true→x=[])∧∀ t,some t∈(dDo s dd).2.names→some t∈s.names∨t∈x:=λh=>⟨[],NH _,λ_=>rfl,λt m=>.inl (h t m)⟩;cases dd with
 | make h n =>
  refine same ?_;show ∀ t,some t∈(bp s h n).2.names→_;unfold bp;split
  ·split
   ·split<;>exact λt m=>JN (n:=n) m
   ·exact λt m=>m
  ·exact λt m=>m
 | store g k h=>refine same ?_;show ∀ t,some t∈(a8 s g k h).2.names→_;unfold a8;split<;>(try split)<;>(try split)<;>exact λt m=>m
 | load h g k=>refine same ?_;show ∀ t,some t∈(bP s h g k).2.names→_;unfold bP;split<;>(try split)<;>(try split)<;>exact λt m=>m
 | copy h g=>refine same ?_;show ∀ t,some t∈(cF s h g).2.names→_;unfold cF;split<;>(try split)<;>exact λt m=>m
 | drop h=>refine same ?_;show ∀ t,some t∈(cO s h).2.names→_;unfold cO;split<;>exact λt m=>m
 | number h x=>refine same ?_;show ∀ t,some t∈(aZ s h x).2.names→_;unfold aZ;split<;>(try split)<;>exact λt m=>m
 | name w h =>
  show ∃ x:List Int,x.length≤1∧_∧∀ t,some t∈(bH s w h).2.names→_;unfold bH;split
  ·rename_i u _
   split
   ·exact⟨[u],MR _,(λz=>nomatch z),λt m=>(eE m).imp id λe=>by cases e;exact MO.mpr rfl⟩
   ·exact⟨[],NH _,λ_=>rfl,λt m=>.inl m⟩
  ·exact⟨[],NH _,λ_=>rfl,λt m=>.inl m⟩
 | read h w =>
  refine same ?_;show ∀ t,some t∈(bA s h w).2.names→_;unfold bA;split
  ·split
   ·unfold rdR
    split
    ·split<;>exact λt m=>m
    ·exact λt m=>m
   ·exact λt m=>m
  ·exact λt m=>m
 | word h x=>refine same ?_;show ∀ t,some t∈(bQ s h x).2.names→_;unfold bQ;split<;>(try split)<;>(try split)<;>exact λt m=>m
 | small=>exact same λt m=>EG m
 | turn=>cases nt
theorem Nm.step{s:HS}{rd nm:List Int}{i:Nat}(n:Nm s rd nm i)(g:Good s)(c:Int)(S:List Int):∃ nm',Nm (dDo s (cdD c)).2 (rd++(rdL s c).filter λt=>decide (t∈S)) nm' (i+1):=by
 obtain⟨x,x1,x2,x3⟩:=JO (s:=s) (vg c);have le:=n.le;have sub:∀ t∈(rdL s c).filter (λt=>decide (t∈S)),t∈nm:=λt m=>by
  have m:=(NA.mp m).1;unfold rdL at m;split at m
  ·cases q:s.names.getD (c/8192%8).toNat none with
   | none=>rw[q]at m;cases m
   | some u =>
    rw[q]at m;rw[MO.mp m];refine n.nn u ?_;have b3:=m8 c 8192;have hl:(c/8192%8).toNat<s.names.length:=(by rw[g.n8];omega);rw[OJ,MP hl]at q;exact Na (by rw[MP hl];exact congrArg some q)
  ·cases m
 have lr:=n.lr;have l1:((rdL s c).filter λt=>decide (t∈S)).length≤1:=by
  refine Nh (NF _ _) ?_;unfold rdL;split
  ·cases s.names.getD (c/8192%8).toNat none<;>simp
  ·simp
 refine⟨nm++x,λt m=>?_,λt m=>Nd _ ((MS.mp m).elim (n.rn t) (sub t)),?_,by rw[M8];omega⟩
 ·exact(x3 t m).elim (λz=>Nd _ (n.nn t z)) λz=>MX _ z
 ·rw[M8,M8]
  by_cases h:c%16=13
  ·have e:x=[]:=x2 (by rw[uI h];rfl)
   rw[e,Pk];omega
  ·have e:(rdL s c)=[]:=by unfold rdL;rw[if_neg h]
   rw[e,List.filter_nil,Pk];omega
theorem Nm.few{s:HS}{rd nm:List Int}{i:Nat}(n:Nm s rd nm i)(hi:i≤110):H64 rd:=λms nd h=>by
 have a:=ck nd h;have b:=ck nd (ks:=nm) λm hm=>n.rn m (h m hm)
 have:=n.le
 omega
theorem nm0{s:HS}(g:Good s):∃ nm,Nm s [] nm 0:=⟨s.names.filterMap id,λt m=>N6.mpr ⟨_,m,rfl⟩,(λt h=>nomatch h),by
 have:=OT id s.names
 rw[g.n8]at this;exact this,MR _⟩
theorem FK{b:HS}(g:Good b){us:List Int}(few:b.nxt+(cnt b:Int)+us.length≤119)(rk:∀ n∈us,n∈keys b){ms:List Int}(nd:ms.Nodup)(h:∀ m∈ms,Rc (vrs b++us.map some) (R.cQ (vks b)) m):ms.length≤63:=by
 have l1:ms.length≤(thW b.aL++us++b.aC.flatMap λp=>thW p.2).length:=ck nd λm mm=>by
  cases h m mm with
  | root r =>
   rcases MS.mp r with z|z
   ·exact Nd _ (Nd _ (yX.mpr (cV.mp z)))
   ·obtain⟨u,mu,e⟩:=Nc.mp z
    cases e;exact Nd _ (MX _ mu)
  | step a z =>
   rename_i u;have mu:=oz g rk a;obtain⟨ws,mw⟩:=mem_keys.mp mu;rw[Cn g mu,g.fld mw]at z;exact MX _ (List.mem_flatMap.mpr ⟨(u,ws),mw,yX.mpr (cV.mp z)⟩)
 have l2:ms.length≤(keys b).length:=ck nd λm mm=>oz g rk (h m mm);have l5:(b.aC.flatMap λp=>thW p.2).length=cnt b:=by show _=tot b.aC;unfold tot;rw[List.length_flatMap]
 rw[M8,M8,l5]at l1;have l3:=Ci b.aL;rw[g.h8]at l3;have l4:(keys b).length=b.aC.length:=by unfold keys;rw[MN]
 have:=g.sd
 omega
end
end K72
end
section
namespace L2
open PySem PySem.Spec PyProof.Rows LX
end L2
end
section
namespace K72
open PySem L2 LX
section
variable{P:Program}{w:World}{K:W.Frag}{mg:Str→Option Value}{base:Heap}{D:Ad}
theorem D4{n:Option Int}:nmG [] n=n:=by cases n<;>simp[nmG]
theorem D5{ns:List (Option Int)}:ns.map (nmG [])=ns:=by rw[show(nmG [])=id from funext λn=>D4];simp
theorem D6{bs:List (Int×Int)}:brG bs []=bs:=by unfold brG;simp
theorem JP(S:Int):∃ y:Int,atI [V.int 0,V.int (7+S%58),V.int (7+S/58%58)] (S/7%3)=some (.int y)∧(y=0∨(7≤y∧y≤64)):=by
 have a1:=NX S (show(58:Int)≠0 by decide);have a2:=NO S (show(0:Int)<58 by decide);have b1:=NX (S/58) (show(58:Int)≠0 by decide);have b2:=NO (S/58) (show(0:Int)<58 by decide);have c1:=NX (S/7) (show(3:Int)≠0 by decide);have c2:=NO (S/7) (show(0:Int)<3 by decide);generalize S/7%3=c at c1 c2;rcases(show c=0∨c=1∨c=2 by omega) with rfl|rfl|rfl
 ·exact⟨_,rfl,.inl rfl⟩
 ·exact⟨_,rfl,.inr ⟨by omega,by omega⟩⟩
 ·exact⟨_,rfl,.inr ⟨by omega,by omega⟩⟩
theorem w8:∀ {fs:List (Int×List Wd)} {t:Int} {ws:List Wd},fs.lookup t=some ws→(t,ws)∈fs
 | [],_,_,e=>by cases e
 | (a,b)::r,t,ws,e=>by
  rw[NN]at e;by_cases c:t=a
  ·rw[beq_iff_eq.mpr c]at e
   cases e;rw[c];exact Nu
  ·rw[beq_eq_false_iff_ne.mpr c]at e
   exact Nn _ (w8 e)
theorem ME{s:HS}(g:Good s)(t:Int):(fld s t).length≤6:=by
 unfold fld;cases e:s.aC.lookup t with
 | none=>exact NH _
 | some ws=>exact g.f6 t ws (w8 e)
theorem yZ{s:HS}(g:Good s):∀ ts:List Int,wsum s ts≤7*(ts.length:Int)
 | []=>by show(0:Int)≤7*0;decide
 | t::r=>by
  have i:=yZ g r;have f:=ME g t;show((fld s t).length:Int)+1+wsum s r≤7*((r.length+1:Nat):Int);omega
structure Kf(s:HS)(i:Nat):Prop where
 g:Gd s
 n:s.nxt=i
 l:s.limit=400
 k:keys s=(List.range i).map λj:Nat=>(j:Int)
 h:∀ j:Nat,j<i→s.aL[j]?=some (.th (j:Int))
 b:s.aR=[]
 z:s.hV=[]
theorem Kf.mk0{s:HS}{i:Nat}(f:Kf s i)(hi:i<8){n:Int}:∃ y,mkR s n={s with yng:=y}:=by
 unfold mkR;split
 ·have e:cU s=[]:=by
   rw[List.eq_nil_iff_forall_not_mem];intro t m;obtain⟨ws,mw⟩:=oW f.g.g t m;have mk:t∈keys s:=mem_keys.mpr ⟨ws,mw⟩;rw[f.k]at mk;obtain⟨j,mj,rfl⟩:=Nc.mp mk;have hj:=f.h j (OW.mp mj);exact yC (Na hj) m
  refine⟨[],?_⟩;unfold bz;rw[e];unfold letGo;rw[uF,D5,D6,show sdG s.aR []=[] from rfl,N3]
 ·exact⟨s.yng,rfl⟩
theorem Kf.make{s:HS}{i:Nat}(f:Kf s i)(hi:i<4){n:Int}(n0:0≤n)(n6:n≤6):∃ s2,bp s (i:Int) n=(none,s2)∧Kf s2 (i+1)∧s2.names=s.names:=by
 obtain⟨y,ey⟩:=f.mk0 (by omega) (n:=n);have o8:ok8 (i:Int):=⟨by omega,by omega⟩;obtain⟨g1,_,_⟩:=Aj f.g (by rw[f.n];omega) (dd:=.make (i:Int) n) ⟨o8,n0,n6⟩;have gm:=f.g.mkd (n:=n);have hl:held (mkR s n)≤28:=by
  have:=yZ gm.g (keys (mkR s n))
  have e:keys (mkR s n)=keys s:=by rw[ey];rfl
  rw[e,f.k,MN,List.length_range]at this;have e2:held (mkR s n)=wsum (mkR s n) (keys s):=by rw[←e];rfl
  rw[f.k]at e2;omega
 have ed:bp s (i:Int) n=(none,tK (mkR s n) (i:Int) n):=by
  unfold bp;rw[if_pos o8,if_pos ⟨n0,n6⟩,if_neg (by rw[f.l];omega)]
 have h8:=f.g.g.h8;refine⟨_,ed,?_,by rw[ey];rfl⟩;replace g1:Gd (bp s (i:Int) n).2:=g1;rw[ed]at g1;refine⟨g1,by rw[ey];show s.nxt+1=_;rw[f.n];omega,by rw[ey];exact f.l,?_,λj hj=>?_,by rw[ey];exact f.b,by rw[ey];exact f.z⟩
 ·rw[ey]
  show(s.aC++[(s.nxt,List.replicate n.toNat Wd.no)]).map (·.1)=_;rw[MV,List.range_succ,MV,←f.k,f.n];rfl
 ·rw[ey]
  show(s.aL.set (i:Int).toNat (.th s.nxt))[j]?=_;rw[Int.toNat_natCast];by_cases c:i=j
  ·subst c
   rw[OV (by rw[h8];omega),f.n]
  ·rw[O1 c]
   exact f.h j (by omega)
theorem Kf.name{s:HS}{i:Nat}(f:Kf s (i+1))(hi:i<4):∃ s2,bH s (i:Int) (i:Int)=(none,s2)∧Kf s2 (i+1)∧s2.names=s.names.set i (some (i:Int)):=by
 have o8:ok8 (i:Int):=⟨by omega,by omega⟩;obtain⟨g1,_,_⟩:=Aj f.g (by rw[f.n];omega) (dd:=.name (i:Int) (i:Int)) ⟨o8,o8⟩;have ed:bH s (i:Int) (i:Int)=(none,{s with names:=s.names.set i (some (i:Int))}):=by
  unfold bH;rw[show wat s.aL (i:Int)=some (.th (i:Int)) by unfold wat;rw[if_pos o8,Int.toNat_natCast];exact f.h i (by omega)];show(if ok8 (i:Int) then _ else _)=_;rw[if_pos o8,Int.toNat_natCast]
 replace g1:Gd (bH s (i:Int) (i:Int)).2:=g1;rw[ed]at g1;exact⟨_,ed,⟨g1,f.n,f.l,f.k,f.h,f.b,f.z⟩,rfl⟩
structure Od(b s:HS):Prop where
 h:∀ t∈keys b,t∈keys s∧t∉s.yng
theorem Ab{s:HS}{t:Int}{ws:List Wd}:keys {s with aC:=dz s.aC t ws}=keys s:=by
 show(dz s.aC t ws).map (·.1)=s.aC.map (·.1);unfold dz;rw[Ny];refine NG λp hp=>?_;show(if p.1=t then(t,ws) else p).1=p.1;by_cases c:p.1=t
 ·rw[if_pos c];exact c.symm
 ·rw[if_neg c]
theorem xa{s:HS}{t:Int}(a:t∈keys s)(b:t∉s.yng):t∈keys (bz s)∧t∉(bz s).yng:=by
 obtain⟨ws,mw⟩:=mem_keys.mp a;exact⟨mem_keys.mpr ⟨ws,bO.mpr ⟨mw,λz=>b (bD.mp z).1⟩⟩,λz=>nomatch z⟩
theorem JQ{s:HS}{n t:Int}(a:t∈keys s)(b:t∉s.yng):t∈keys (mkR s n)∧t∉(mkR s n).yng:=by
 unfold mkR;split
 ·exact xa a b
 ·exact⟨a,b⟩
theorem JR{s:HS}{dd:Dd}(g:Good s)(nt:Cj dd=false){t:Int}(a:t∈keys s)(b:t∉s.yng):t∈keys (dDo s dd).2∧t∉(dDo s dd).2.yng:=by
 cases dd with
 | make h n =>
  show t∈keys (bp s h n).2∧t∉(bp s h n).2.yng;have nm:=hW (s:=s) (n:=n);obtain⟨a1,b1⟩:=JQ (n:=n) a b;obtain⟨ws,mw⟩:=mem_keys.mp a;have lt:=(g.lt _ _ mw).2;unfold bp;split
  ·split
   ·split
    ·exact⟨a1,b1⟩
    ·refine⟨?_,?_⟩
     ·show t∈((mkR s n).aC++[((mkR s n).nxt,List.replicate n.toNat Wd.no)]).map (·.1)
      rw[MV];exact Nd _ a1
     ·show t∉(if(mkR s n).my=true then(mkR s n).yng++[(mkR s n).nxt] else(mkR s n).yng)
      split
      ·intro z
       rcases MS.mp z with z|z
       ·exact b1 z
       ·have:=MO.mp z;omega
      ·exact b1
   ·exact⟨a,b⟩
  ·exact⟨a,b⟩
 | store g k h =>
  show t∈keys (a8 s g k h).2∧t∉(a8 s g k h).2.yng;unfold a8;split
  ·split
   ·split
    ·exact⟨by show t∈keys {s with aC:=_};rw[Ab];exact a,b⟩
    ·exact⟨a,b⟩
   ·exact⟨a,b⟩
  ·exact⟨a,b⟩
 | load h g k=>show t∈keys (bP s h g k).2∧t∉(bP s h g k).2.yng;unfold bP;split<;>(try split)<;>(try split)<;>exact⟨a,b⟩
 | copy h g=>show t∈keys (cF s h g).2∧t∉(cF s h g).2.yng;unfold cF;split<;>(try split)<;>exact⟨a,b⟩
 | drop h=>show t∈keys (cO s h).2∧t∉(cO s h).2.yng;unfold cO;split<;>exact⟨a,b⟩
 | number h x=>show t∈keys (aZ s h x).2∧t∉(aZ s h x).2.yng;unfold aZ;split<;>(try split)<;>exact⟨a,b⟩
 | name w h=>show t∈keys (bH s w h).2∧t∉(bH s w h).2.yng;unfold bH;split<;>(try split)<;>exact⟨a,b⟩
 | read h w =>
  show t∈keys (bA s h w).2∧t∉(bA s h w).2.yng;unfold bA;split
  ·split
   ·unfold rdR
    split
    ·split<;>exact⟨a,b⟩
    ·exact⟨a,b⟩
   ·exact⟨a,b⟩
  ·exact⟨a,b⟩
 | word h x=>show t∈keys (bQ s h x).2∧t∉(bQ s h x).2.yng;unfold bQ;split<;>(try split)<;>(try split)<;>exact⟨a,b⟩
 | small=>exact xa a b
 | turn=>cases nt
theorem MF{b:HS}(g:Good b)(n:b.nxt≤200):R.Rt (vrs b) (vks b) where
 nd:=by show(R.keys (vks b)).Nodup;rw[cD];exact br g.asc
 pos:=λp hp=>by obtain⟨t,m,rfl⟩:=Nc.mp hp;obtain⟨ws,mw⟩:=mem_keys.mp m;exact(g.lt _ _ mw).1
 kl:=by unfold vks keys;rw[MN,MN];have:=g.sd;omega
 asc:=by show(R.keys (vks b)).Pairwise (·< ·);rw[cD];exact g.asc
 rl:=by unfold vrs;rw[MN,g.h8];decide
 fl:=λp hp=>by obtain⟨t,m,rfl⟩:=Nc.mp hp;obtain⟨ws,mw⟩:=mem_keys.mp m;show((fld b t).map thO).length≤6;rw[MN,g.fld mw];exact g.f6 _ _ mw
 ri:=λn h=>by show n∈R.keys (vks b);rw[cD];exact mem_keys.mpr (g.hh n (cV.mp h))
 fi:=λp hp n h=>by
  obtain⟨t,m,rfl⟩:=Nc.mp hp;obtain⟨ws,mw⟩:=mem_keys.mp m;show n∈R.keys (vks b);rw[cD];have h:some n∈(fld b t).map thO:=h;rw[g.fld mw]at h;exact mem_keys.mpr (g.ff _ _ n mw (cV.mp h))
theorem FL{xs:List V}{h:Int}(h0:0≤h)(h1:h≤xs.length):wz xs none (some h)=xs.take h.toNat:=by
 unfold wz;rw[HT.wy,List.drop_zero,Nat.sub_zero];show xs.take (if h<0 then(h+(xs.length:Int)).toNat else min h.toNat xs.length)=_;rw[if_neg (by omega),O7 (by omega)]
theorem xb{b s:HS}(o:Od b s){t:Int}(m:t∈keys b):t∉keys (qk s)↔t∈s.aF:=by
 obtain⟨ws,mw⟩:=mem_keys.mp (o.h t m).1;constructor
 ·intro h
  exact N7 λz=>h (mem_keys.mpr ⟨ws,bO.mpr ⟨mw,z⟩⟩)
 ·intro h z
  obtain⟨ws,mw⟩:=mem_keys.mp z;exact(bO.mp mw).2 h
noncomputable abbrev eB:List Str:=["script", "codes", "young", "heap", "h", "first", "code", "view", "read", "paper", "left"]
theorem fq:au eB ["script"] (aj aH):=fsc
theorem FO(T:Txt w K mg D):Ok P w K mg base 12 D.fv ["script"] (CD K):=by
 refine T.o1 "law" fq λcdv A' outer s' H vs Q E hr h=>?_;obtain⟨a,ns,rfl,hS,hlen,k⟩:=h;have hu:=b7 hr;have S0:PS (cxE P w K mg base eB "law" (aj aH) D.fv cdv A' outer s' H E).nox ((aw aH).getD 0 (.Pass ⟨0,0,0,0⟩)) _:=(aD (i:=1) fq.nd rfl (Or.inl rfl) ((sP T).c hr aV (aa (pv 0) (aa ar aq))));have S1:PS (cxE P w K mg base eB "law" (aj aH) D.fv cdv A' outer s' H E).nox ((aw aH).getD 1 (.Pass ⟨0,0,0,0⟩)) _:=(aD (i:=2) fq.nd rfl (Or.inl rfl) (a7 dr (fP (aa ar (aa (aT fO ar (aT cy (aP (e7 rfl) rfl T.z PyProof.Rows.Boot.«sum» (aa (pv 0) aq)) ar)) (aa (aT fO ar (aT cy (aT dq (aP (e7 rfl) rfl T.z PyProof.Rows.Boot.«sum» (aa (pv 0) aq)) ar) ar)) aq)))) (aT cy (aT dq (aP (e7 rfl) rfl T.z PyProof.Rows.Boot.«sum» (aa (pv 0) aq)) ar) ar) (λ_ _=>rfl)));have S2:PS (cxE P w K mg base eB "law" (aj aH) D.fv cdv A' outer s' H E).nox ((aw aH).getD 2 (.Pass ⟨0,0,0,0⟩)) _:=(aD (i:=3) fq.nd rfl (Or.inl rfl) (CN (T.mkk D.ah) (dJ T).g (hr.mono (by decide)) rfl T.m (dJ (P:=P) (base:=base) T).b .nil Fi (aa (pv 2) (aa ar aq))));have S3:PS (cxE P w K mg base eB "law" (aj aH) D.fv cdv A' outer s' H E).nox ((aw aH).getD 3 (.Pass ⟨0,0,0,0⟩)) _:=(bF Nl rfl (oA rfl T.z (aa ar aq)) (aN (i:=4) fq.nd rfl (Or.inl rfl))
   (ai (az ((fG T).m T.ae hr (pv 3) aV (aa (pv 4) (aa (aT fO ar (aT cy (pv 4) ar)) aq))))
   (ak (az ((mh T).m T.ae hr (pv 3) aV (aa (pv 4) (aa (pv 4) aq)))))))
 have S4:PS (cxE P w K mg base eB "law" (aj aH) D.fv cdv A' outer s' H E).nox ((aw aH).getD 4 (.Pass ⟨0,0,0,0⟩)) _:=(aD (i:=5) fq.nd rfl (Or.inl rfl) (aT cy (aT dq (aP (e7 rfl) rfl T.z PyProof.Rows.Boot.«sum» (aa (pv 0) aq)) ar) (aT fO (aP bM rfl T.z PyProof.Rows.Boot.«len» (aa (pv 1) aq)) ar)));have S5:PS (cxE P w K mg base eB "law" (aj aH) D.fv cdv A' outer s' H E).nox ((aw aH).getD 5 (.Pass ⟨0,0,0,0⟩)) _:=(bF Nl rfl (a9 (fA hU (pv 1) g9 (hJ (pv 5)))) (aN (i:=6) fq.nd rfl (Or.inl rfl))
   (ak (az ((jK T).c hr aV (aa (pv 3) (aa (pv 6) aq))))))
 have S6:PS (cxE P w K mg base eB "law" (aj aH) D.fv cdv A' outer s' H E).nox ((aw aH).getD 6 (.Pass ⟨0,0,0,0⟩)) _:=(az ((j6 T).m0 T.ae hr (pv 3) aV));have S7:PS (cxE P w K mg base eB "law" (aj aH) D.fv cdv A' outer s' H E).nox ((aw aH).getD 7 (.Pass ⟨0,0,0,0⟩)) _:=(aD (i:=7) fq.nd rfl (Or.inr rfl) ((xP T).c hr aV (aa (pv 3) aq)));have S8:PS (cxE P w K mg base eB "law" (aj aH) D.fv cdv A' outer s' H E).nox ((aw aH).getD 8 (.Pass ⟨0,0,0,0⟩)) _:=(aD (i:=8) fq.nd rfl (Or.inl rfl) (fP aq));have S9:PS (cxE P w K mg base eB "law" (aj aH) D.fv cdv A' outer s' H E).nox ((aw aH).getD 9 (.Pass ⟨0,0,0,0⟩)) _:=(bF Nl rfl (a9 (fA hU (pv 1) (hJ (pv 5)) g9)) (aN (i:=6) fq.nd rfl (Or.inl rfl))
   (ak (az (uT PySem.F.plainAttrs_list PySem.F.slot_list_extend PySem.F.type_list_extend tE (pv 8) (aa (rE (cl:=[("view",s'.heap.objs.size+1)]) (x := "t") (idx:=[7]) (NC:=["t", "view"]) (by exact cB (sc:=aj aH) (N:=eB) (ns:=["view"]) rfl rfl rfl (by decide +kernel) rfl rfl (by intro q hq;rw[MO.mp hq];rfl)) rfl (a9 ((ur T).c hr aV (aa (pv 3) (aa (pv 6) aq)))) (λC fp s₀ H₀=>(cR (qe hu (pv 0) (a7 (r:=Ee K) aX (pv 1) ar (λ_ _=>rfl))) (by with_unfolding_all rfl))) (λC fp s₀ H₀=>(pv 0))) aq)))))
 have S10:PS (cxE P w K mg base eB "law" (aj aH) D.fv cdv A' outer s' H E).nox ((aw aH).getD 10 (.Pass ⟨0,0,0,0⟩)) _:=(aD (i:=9) fq.nd rfl (Or.inl rfl) ((iX T).c hr aV (aa (pv 7) (aa (pv 8) aq))));have S11:PS (cxE P w K mg base eB "law" (aj aH) D.fv cdv A' outer s' H E).nox ((aw aH).getD 11 (.Pass ⟨0,0,0,0⟩)) _:=(a6 (PW.pt (pw_or (aE (ya (n:=1) (b7 hr)) ((ji T).m0 T.ae hr (pv 3) aV) (a7 aX (pv 9) ar (λ_ _=>rfl)) (aO _)) (pw_or1 (gy (fN ((cY T).c hr aV (aa (pv 7) (aa (pv 8) (aa (pv 9) aq)))))))))
   (ak (aG dR))
   aI)
 have S12:PS (cxE P w K mg base eB "law" (aj aH) D.fv cdv A' outer s' H E).nox ((aw aH).getD 12 (.Pass ⟨0,0,0,0⟩)) _:=(az ((oq T).m0 T.ae hr (pv 3) aV));have S13:PS (cxE P w K mg base eB "law" (aj aH) D.fv cdv A' outer s' H E).nox ((aw aH).getD 13 (.Pass ⟨0,0,0,0⟩)) _:=(aD (i:=10) fq.nd rfl (Or.inr rfl) ((eF T).m0 T.ae hr (pv 3) aV));have S14:PS (cxE P w K mg base eB "law" (aj aH) D.fv cdv A' outer s' H E).nox ((aw aH).getD 14 (.Pass ⟨0,0,0,0⟩)) _:=(a6 (aE (ya (n:=1) (b7 hr)) (rE (cl:=[("left",s'.heap.objs.size+2)]) (x := "t") (idx:=[10]) (NC:=["t", "left"]) (by exact cB (sc:=aj aH) (N:=eB) (ns:=["left"]) rfl rfl rfl (by decide +kernel) rfl rfl (by intro q hq;rw[MO.mp hq];rfl)) rfl (a9 (aP (dF rfl) rfl T.z PyProof.Rows.Boot.«sorted» (aa (a7 aX (pv 7) ar (λ_ _=>rfl)) aq))) (λC fp s₀ H₀=>(aE (r:=rIn K true) lX (pv 0) (pv 1) (by with_unfolding_all rfl))) (λC fp s₀ H₀=>(pv 0))) (a7 aX (pv 9) ar (λ_ _=>rfl)) (aO _))
   (ak (aG dR))
   aI)
 have S15:PS (cxE P w K mg base eB "law" (aj aH) D.fv cdv A' outer s' H E).nox ((aw aH).getD 15 (.Pass ⟨0,0,0,0⟩)) _:=(aG (EN ((kg T).c hr aV (aa (pv 7) (aa (pv 8) (aa (pv 9) aq))))));have hb:aw aH=[(aw aH).getD 0 (.Pass ⟨0,0,0,0⟩),(aw aH).getD 1 (.Pass ⟨0,0,0,0⟩),(aw aH).getD 2 (.Pass ⟨0,0,0,0⟩),(aw aH).getD 3 (.Pass ⟨0,0,0,0⟩),(aw aH).getD 4 (.Pass ⟨0,0,0,0⟩),(aw aH).getD 5 (.Pass ⟨0,0,0,0⟩),(aw aH).getD 6 (.Pass ⟨0,0,0,0⟩),(aw aH).getD 7 (.Pass ⟨0,0,0,0⟩),(aw aH).getD 8 (.Pass ⟨0,0,0,0⟩),(aw aH).getD 9 (.Pass ⟨0,0,0,0⟩),(aw aH).getD 10 (.Pass ⟨0,0,0,0⟩),(aw aH).getD 11 (.Pass ⟨0,0,0,0⟩),(aw aH).getD 12 (.Pass ⟨0,0,0,0⟩),(aw aH).getD 13 (.Pass ⟨0,0,0,0⟩),(aw aH).getD 14 (.Pass ⟨0,0,0,0⟩),(aw aH).getD 15 (.Pass ⟨0,0,0,0⟩)]:=rfl;generalize (aw aH).getD 0 (.Pass ⟨0,0,0,0⟩)=st0 at S0 hb;generalize (aw aH).getD 1 (.Pass ⟨0,0,0,0⟩)=st1 at S1 hb;generalize (aw aH).getD 2 (.Pass ⟨0,0,0,0⟩)=st2 at S2 hb;generalize (aw aH).getD 3 (.Pass ⟨0,0,0,0⟩)=st3 at S3 hb;generalize (aw aH).getD 4 (.Pass ⟨0,0,0,0⟩)=st4 at S4 hb;generalize (aw aH).getD 5 (.Pass ⟨0,0,0,0⟩)=st5 at S5 hb;generalize (aw aH).getD 6 (.Pass ⟨0,0,0,0⟩)=st6 at S6 hb;generalize (aw aH).getD 7 (.Pass ⟨0,0,0,0⟩)=st7 at S7 hb;generalize (aw aH).getD 8 (.Pass ⟨0,0,0,0⟩)=st8 at S8 hb;generalize (aw aH).getD 9 (.Pass ⟨0,0,0,0⟩)=st9 at S9 hb;generalize (aw aH).getD 10 (.Pass ⟨0,0,0,0⟩)=st10 at S10 hb;generalize (aw aH).getD 11 (.Pass ⟨0,0,0,0⟩)=st11 at S11 hb;generalize (aw aH).getD 12 (.Pass ⟨0,0,0,0⟩)=st12 at S12 hb;generalize (aw aH).getD 13 (.Pass ⟨0,0,0,0⟩)=st13 at S13 hb;generalize (aw aH).getD 14 (.Pass ⟨0,0,0,0⟩)=st14 at S14 hb;generalize (aw aH).getD 15 (.Pass ⟨0,0,0,0⟩)=st15 at S15 hb;generalize aw aH=bd at hb ⊢;subst hb;refine⟨_,(PSs.nox (ai S0 (ai S1 (ai S2 (ai S3 (ai S4 (ai S5 (ai S6 (ai S7 (ai S8 (ai S9 (ai S10 (ai S11 (ai S12 (ai S13 (ai S14 (ak S15))))))))))))))))),?_⟩;refine⟨_,rfl,a,ns,110,rfl,hS,hlen,by decide,λld zs H0 sH0 hld zld lzs bzs=>?_⟩;replace lzs:zs.length≤110:=lzs;obtain⟨y,hy,y7⟩:=JP ns.sum;have hS0:=sH0.seq hS;refine⟨_,rfl,a,ns,rfl,hS0,_,58,rfl,rfl,(by show(0:Int)<58;decide),_,_,rfl,rfl,_,rfl,a,ns,rfl,hS0,_,58,rfl,rfl,⟨by decide,by decide⟩,_,58,rfl,rfl,(by show(0:Int)<58;decide),_,_,rfl,rfl,by show 3≤sizeLine;decide,λp0 hp0=>?_⟩;have a0:=ay.upd (o:=.lst [V.int 0,V.int (7+ns.sum%58),V.int (7+ns.sum/58%58)]) hp0;refine⟨_,rfl,a,ns,rfl,(a0.seq hS0),_,7,rfl,rfl,⟨by decide,by decide⟩,_,3,rfl,rfl,(by show(0:Int)<3;decide),p0,_,_,_,rfl,rfl,SqL.of (bt a0),hy,?_⟩;refine⟨_,rfl,?_⟩;intro x dx hx hdx nd;refine⟨x,dx,_,_,rfl,ag,y7,by decide,by decide,λA H1 J0 B0 F0=>⟨rfl,?_⟩⟩;have s1:ay (upd H0 p0 (.lst [V.int 0,V.int (7+ns.sum%58),V.int (7+ns.sum/58%58)])) H1:=λb u q=>B0 b u (ao q hx) (by rw[ab (ao q hx),ab (ao q hdx)];exact q);have F1:∀ b,aJ x A (s0 (decide (y>0)) y 400) b→H0 b=none:=λb fb=>by
  rcases F0 b fb with e|e
  ·rw[e];exact ay.none a0 hx
  ·refine ay.none a0 ?_
   by_cases c:b=x
   ·rw[c];exact hx
   ·by_cases c2:b=dx
    ·rw[c2];exact hdx
    ·rw[ab c,ab c2]at e;exact e
 have S1:=a0.trans s1;have R1:ay H0 (res H1 (aJ x A (s0 (decide (y>0)) y 400))):=λb u q=>sN (S1 _ _ q) (.inl λh=>by rw[F1 b h]at q;cases q);have f0:Kf (s0 (decide (y>0)) y 400) 0:=⟨gd0,rfl,rfl,rfl,λj h=>absurd h (O5 _),rfl,rfl⟩;have q0:=R1.seq hS0;have z0:=R1 _ _ zld;clear F0 B0 nd s1 F1 S1 R1 a0 hx hdx hp0 hS0;refine⟨4,rfl,by decide,by decide,oB (lo:=0) (n:=4) (λi σ Hx=>∃ A s v4,σ=[some (.ref a),some (.ref ld),some (.int y),some (.ref x),v4,none,none,none,none,none,none]∧IH D Hx x A s∧Kf s i∧s.nxt+(cnt s:Int)≤2*i∧s.rnd=false∧SqL K (res Hx (aJ x A s)) a (ns.map V.int)∧res Hx (aJ x A s) ld=some (.lst (zs.map V.int))) ⟨A,_,none,rfl,J0,f0,by show(0:Int)+((0:Nat):Int)≤_;decide,rfl,q0,z0⟩ ?_ ?_⟩
 ·clear J0 q0 z0 f0
  rintro i σ Hx hi ⟨A,s,v4,rfl,J,fk,hc,hrn,q0,z0⟩;rw[Int.zero_add];have m2:0≤(i:Int)%2∧(i:Int)%2<2:=⟨NX _ (by decide),NO _ (by decide)⟩;obtain⟨s1,ed1,fk1,en1⟩:=fk.make hi (n:=2+(i:Int)%2) (by omega) (by omega);have c1:=vc (dd:=.make (i:Int) (2+(i:Int)%2)) fk.g;have r1:=ve (s:=s) (dd:=.make (i:Int) (2+(i:Int)%2)) rfl;rw[show dDo s (.make (i:Int) (2+(i:Int)%2))=(none,s1) from ed1]at c1 r1;refine⟨_,rfl,x,_,_,rfl,J.ax,(by kernel_rfl),_,rfl,_,rfl,(i:Int),2,rfl,rfl,(by show(0:Int)<2;decide),2,_,rfl,rfl,x,A,s,(i:Int),2+(i:Int)%2,rfl,J,fk.g,by rw[fk.n];omega,Sm.of (by omega) (by omega),Sm.of (by omega) (by omega),?_⟩;rw[ed1];intro A1 H1 J1 fr1;obtain⟨s2,ed2,fk2,en2⟩:=fk1.name hi;have c2:=vc (dd:=.name (i:Int) (i:Int)) fk1.g;have r2:=ve (s:=s1) (dd:=.name (i:Int) (i:Int)) rfl;rw[show dDo s1 (.name (i:Int) (i:Int))=(none,s2) from ed2]at c2 r2;refine⟨_,rfl,x,_,_,rfl,J1.ax,(by kernel_rfl),_,rfl,_,rfl,x,A1,s1,(i:Int),(i:Int),rfl,J1,fk1.g.g,Sm.of (by omega) (by omega),Sm.of (by omega) (by omega),?_⟩;rw[ed2];intro A2 H2 J2 fr2;have F:=fr1.trans fr2;exact⟨A2,s2,_,rfl,J2,fk2,by dsimp only at c1 c2;omega,r2.trans (r1.trans hrn),(jf F).seq q0,jf F _ _ z0⟩
 clear J0 q0 z0 f0;rintro σ Hx ⟨A,s,v4,rfl,J,fk,hc,hrn,q0,z0⟩;have zc:=mY _ _ z0;refine⟨_,rfl,a,ns,rfl,(mY.seq q0),_,1009,rfl,rfl,⟨by decide,by decide⟩,_,rfl,ld,_,rfl,.inl (SqL.of zc),_,1,rfl,rfl,_,_,rfl,rfl,(by show(0:Int)<((zs.map V.int).length:Int)+1;omega),?_⟩;obtain⟨fi,efi⟩:∃ fi,ns.sum/1009%(((zs.map V.int).length:Int)+1)=fi:=⟨_,rfl⟩;have g0:0≤fi:=by rw[←efi];exact NX _ (by omega)
 have g1:fi<(zs.length:Int)+1:=by have:=NO (ns.sum/1009) (show(0:Int)<((zs.map V.int).length:Int)+1 by omega);rw[efi,MN]at this;exact this
 show mP 5 (V.int (ns.sum/1009%(((zs.map V.int).length:Int)+1))) _ _ _;rw[efi];clear efi q0;have fg:=fk.g;have hc8:s.nxt+(cnt s:Int)≤8:=by omega
 clear fk hc;refine⟨_,rfl,_,rfl,_,rfl,ld,_,rfl,SqL.of zc,λl1 hl1=>?_⟩;rw[FL g0 (by rw[MN];omega),←List.map_take];have u1:=ay.upd (o:=.lst ((zs.take fi.toNat).map V.int)) hl1;have nl1:=J.fresh hl1;refine⟨l1,rfl,⟨_,SqL.of (bt u1)⟩,cg (K:=K) (a:=l1) (xs:=(zs.take fi.toNat).map V.int) (λi σ Hy=>∃ A s v6,σ=[some (.ref a),some (.ref ld),some (.int y),some (.ref x),v4,some (.int fi),v6,none,none,none,none]∧IH D Hy x A s∧Gd s∧s.nxt+(cnt s:Int)≤8+i∧s.rnd=false∧res Hy (aJ x A s) l1=some (.lst ((zs.take fi.toNat).map V.int))∧res Hy (aJ x A s) ld=some (.lst (zs.map V.int))) ⟨A,s,none,rfl,J.same u1,fg,by omega,hrn,sN (bt u1) (.inl nl1),Bg u1 _ _ z0⟩ (λi σ Hy _ ⟨_,_,_,_,_,_,_,_,z,_⟩=>SqL.of (mY _ _ z)) ?_ ?_⟩
 ·clear J hrn z0 zc u1 nl1 hl1 fg hc8
  rintro i v σ Hy hi ⟨A,s,v6,rfl,J,g,hc,hrn,z1,z0⟩;rw[MY]at hi;obtain⟨c,hci,rfl⟩:=Ng.mp hi;have hil:i<(zs.take fi.toNat).length:=(MQ.mp hci).1;rw[MZ]at hil;have bc:=bzs c (Oj (Na hci));have cn:=vc (dd:=cdD c) g;have few:s.nxt<10000:=by omega
  obtain⟨g',_,_⟩:=Aj g few (B9 bc.1 bc.2);have r1:=ve (s:=s) (vg c);exact⟨_,rfl,_,rfl,x,A,s,c,rfl,J,g,few,bc.1,bc.2,λA' H' J' fr=>⟨A',_,_,rfl,J',g',by omega,r1.trans hrn,jf fr _ _ z1,jf fr _ _ z0⟩⟩
 clear J hrn z0 zc u1 nl1 hl1 fg hc8;rintro σ Hy ⟨A,s,v6,rfl,J,g,hc,hrn,_,z0⟩;rw[MN,MZ]at hc;have tn:=vc (dd:=.turn) g;have IC:¬s.rnd=true:=by rw[hrn];decide
 rw[show dDo s .turn=(none,qj (bz s)) from(if_neg IC).trans (if_neg IC)]at tn;refine⟨_,rfl,x,_,_,rfl,J.ax,(by kernel_rfl),x,A,s,rfl,J,g,?_⟩;rw[show mM s=(none,qj (bz s)) from if_neg IC];intro A1 H1 J1 fr1;have gb:=g.small.beg rfl;have D0:=dm0 g;have y0:(qj (bz s)).yng=[]:=rfl;have r0:(qj (bz s)).rnd=true:=rfl;have z1:=jf fr1 _ _ z0;obtain⟨b,eb⟩:∃ b,qj (bz s)=b:=⟨_,rfl⟩;have tn2:b.nxt+(cnt b:Int)≤s.nxt+cnt s+1:=by rw[←eb];exact tn
 replace J1:IH D H1 x A1 b:=by rw[←eb];exact J1
 replace z1:res H1 (aJ x A1 b) ld=some (.lst (zs.map V.int)):=by rw[←eb];exact z1
 rw[eb]at gb D0 y0 r0;clear eb tn fr1 z0 J g;have Gb:=gb.g;have cb0:(0:Int)≤(cnt b:Int):=Int.natCast_nonneg _;have bn:b.nxt≤119:=by omega
 refine⟨_,rfl,x,A1,b,rfl,J1,Gb,λv r d oo ad H2 s2 hd hr2 had zv vw=>?_⟩;refine⟨by show 0≤sizeLine;decide,λrl hrl=>?_⟩;have s3:=ay.upd (o:=.lst ([]:List V)) hrl;have J3:=(J1.same s2).same s3;have zl3:=s3 _ _ (s2 _ _ (mY _ _ z1));have nfl:¬aJ x A1 b ld:=by
  rcases(res_some z1).2 with h|⟨us,h⟩
  ·exact h
  ·cases h
 refine⟨_,rfl,_,rfl,_,rfl,ld,_,rfl,SqL.of zl3,λl2 hl2=>?_⟩;rw[Cg g0 (by rw[MN];omega),←List.map_drop];have s4:=ay.upd (o:=.lst ((zs.drop fi.toNat).map V.int)) hl2;obtain⟨Hs,eHs⟩:∃ Hs,upd (upd H2 rl (.lst ([]:List V))) l2 (.lst ((zs.drop fi.toNat).map V.int))=Hs:=⟨_,rfl⟩;have z2s:Hs l2=some (.lst ((zs.drop fi.toNat).map V.int)):=by rw[←eHs];exact bt s4
 have zrs:Hs rl=some (.lst ([]:List V)):=by rw[←eHs];exact s4 _ _ (bt s3)
 have s34:ay H2 Hs:=by rw[←eHs];exact s3.trans s4
 have J4:IH D Hs x A1 b:=by rw[←eHs];exact J3.same s4
 rw[eHs];have zvs:=s34 _ _ zv;have vws:=vw.same s34;have nrl:¬aJ x A1 b rl:=(J1.same s2).fresh hrl;have nl2:¬aJ x A1 b l2:=J3.fresh hl2;have el2:l2≠rl:=Nv (ao (bt s3) hl2);have nr:¬aJ x A1 b r:=J1.fresh hr2;have nd:¬aJ x A1 b d:=J1.fresh hd;have er:r≠rl:=ao vw.hr hrl;have edd:d≠rl:=ao vw.hd hrl;have ead:∀ p∈vks b,ad p.1≠rl∧¬aJ x A1 b (ad p.1):=λp hp=>⟨ao (vw.hl p hp) hrl,by obtain⟨t,m,rfl⟩:=Nc.mp hp;exact J1.fresh (had t m)⟩;clear eHs s3 s4 J3 hl2 hrl zl3 s34 vw zv had hd hr2 z1 nfl;have rt:=MF Gb (by omega);have kpt:∀(Hz:Hp),(∃ F:Addr→Prop,∀ c u,c≠rl→¬aJ x A1 b c→Hs c=some u→Hz c=some u∧F c)→∀ c us,Hs c=some (.tup us)→Hz c=some (.tup us):=λHz ⟨F,kp⟩ c us q=>(kp c _ (av q zrs (by intro z;cases z)) (λf=>by obtain⟨u,h1,h2⟩:=J4.is f;rw[q]at h1;exact h2 us (Nf h1).symm) q).1;have kyb:Kys (R.kvl ad (vks b)) (keys b):=by unfold Kys;rw[R.mZ,cD]
 obtain⟨MG,N0⟩:=nm0 Gb;refine⟨l2,rfl,⟨_,SqL.of z2s⟩,cg (K:=K) (a:=l2) (xs:=(zs.drop fi.toNat).map V.int) (λi σ Hz=>∃ A s rd nm v6,σ=[some (.ref a),some (.ref ld),some (.int y),some (.ref x),v4,some (.int fi),v6,some (.ref v),some (.ref rl),none,none]∧IH D Hz x A s∧Gd s∧s.nxt≤119+i∧s.rnd=true∧Dm b s rd∧Nm s rd nm i∧Od b s∧Hz rl=some (.lst (rd.map V.int))∧¬aJ x A s rl∧∀ c u,c≠rl→¬aJ x A1 b c→Hs c=some u→Hz c=some u∧¬aJ x A s c)
  ⟨A1,b,[],MG,v6,rfl,J4,gb,by omega,r0,D0,N0,⟨λt m=>⟨m,by rw[y0];exact λz=>nomatch z⟩⟩,zrs,nrl,λc u _ n q=>⟨q,n⟩⟩ (λi σ Hz _ ⟨_,_,_,_,_,_,_,_,_,_,_,_,_,_,_,kp⟩=>SqL.of (kp _ _ el2 nl2 z2s).1) ?_ ?_⟩
 ·rintro i w σ Hz hi ⟨A,s,rd,nm,v6,rfl,J,g,nx,hrn,dm,nmi,od,zrl,nfr,kp⟩
  rw[MY]at hi;obtain⟨c,hci,rfl⟩:=Ng.mp hi;have hil:i<(zs.drop fi.toNat).length:=(MQ.mp hci).1;rw[ND]at hil;have bc:=bzs c (Ol (Na hci));have few:s.nxt<10000:=by omega
  obtain⟨g',n1',n2'⟩:=Aj g few (B9 bc.1 bc.2);have dm':=dm.step Gb g c;obtain⟨nm',MJ⟩:=nmi.step g.g c (keys b);have od':Od b (dDo s (cdD c)).2:=⟨λt m=>JR g.g (vg c) (od.h t m).1 (od.h t m).2⟩;have r1:=ve (s:=s) (vg c);refine⟨_,rfl,.inl ⟨rfl,_,SqL.of zrl⟩,_,rfl,_,rfl,x,A,s,c,rfl,J,g,few,bc.1,bc.2,λA' H' p J' fr hp nfp zp=>⟨p,rfl,⟨_,SqL.of zp⟩,λL hL=>?_⟩⟩;have er1:=fr.out nfr zrl;have kp':∀ c9 u,c9≠rl→¬aJ x A1 b c9→Hs c9=some u→H' c9=some u∧¬aJ x A' (dDo s (cdD c)).2 c9:=λc' u n1 n2 q=>fr.out (kp c' u n1 n2 q).2 (kp c' u n1 n2 q).1;have zd':=(kp' _ _ edd nd vws.hd).1;have zv':H' v=some (.tup [.ref r,.ref d]):=fr.tup _ _ (kpt Hz ⟨_,kp⟩ _ _ zvs);refine fu (K:=K) (a:=p) (xs:=(rdL s c).map V.int) (λi ys Hc=>ys=(((rdL s c).take i).filter λt=>decide (t∈keys b)).map V.int∧ay H' Hc∧Hc L=some (.lst ys)) ⟨rfl,ay.upd hL,ag⟩ (λi ys Hc _ ⟨e,_,z⟩=>⟨z,by rw[e,MN];exact Nh (NF _ _) (by rw[MZ];omega)⟩) (λi ys Hc _ ⟨_,sc,_⟩=>SqL.of (sc _ _ zp)) (by rw[MN];exact fe (by have:=Cm s c;omega)) (λi w ys Hc hi ⟨e,sc,z⟩=>?_) (λys Hc ⟨e,sc,z⟩=>?_)
  ·rw[MY]at hi
   obtain⟨t,ht,rfl⟩:=Ng.mp hi;have tk:=take_snoc ht;refine⟨_,rfl,_,rfl,v,_,1,.ref d,rfl,rfl,SqT.of (sc _ _ zv'),rfl,d,_,rfl,.inl ⟨R.kvl ad (vks b),Sum.inl t,.inr ⟨oo,sc _ _ zd'⟩,rfl,rfl⟩,_,rfl,?_⟩;rw[kyb.isS];by_cases cc:t∈keys b
   ·rw[decide_eq_true cc]
    exact dt ⟨_,rfl,z,by rw[tk,NJ,e];simp[cc],λb u q=>by rw[ab (ao q hL)];exact sc b u q,ag⟩
   ·rw[decide_eq_false cc]
    exact b8 ⟨by rw[tk,NJ,e];simp[cc],sc,z⟩
  ·rw[MN,MW (MR _)]at e
   subst e;have lr:=nmi.lr;have zr2:=sc _ _ er1.1;have lrd:=Nh (NF (λt=>decide (t∈keys b)) (rdL s c)) (Cm s c);refine⟨rl,L,_,_,rfl,rfl,zr2,z,fe (by rw[MN,MN];omega),?_⟩;have Jc:=J'.same sc;refine⟨A',_,_,nm',_,rfl,Jc.keep (λc' u f q=>by rw[ab λe=>er1.2 (by rw[←e];exact f)];exact q) (bE.set zr2 λ_ h=>nomatch h),g',by omega,r1.trans hrn,dm',MJ,od',by rw[ag,MV],er1.2,λc' u n1 n2 q=>⟨by rw[ab n1];exact sc _ _ (kp' c' u n1 n2 q).1,(kp' c' u n1 n2 q).2⟩⟩
 rintro σ Hz ⟨A,s,rd,nm,v6,rfl,J,g,nx,hrn,dm,nmi,od,zrl,nfr,kp⟩;rw[MN,ND]at nmi nx;have h64:H64 rd:=nmi.few (by omega);have vwz:R.Vw Hz r d oo ad (vrs b) (vks b):=⟨(kp _ _ er nr vws.hr).1,(kp _ _ edd nd vws.hd).1,λp hp=>(kp _ _ (ead p hp).1 (ead p hp).2 (vws.hl p hp)).1⟩;have nfs:¬aJ x A s r∧¬aJ x A s d∧∀ p∈vks b,¬aJ x A s (ad p.1):=⟨(kp _ _ er nr vws.hr).2,(kp _ _ edd nd vws.hd).2,λp hp=>(kp _ _ (ead p hp).1 (ead p hp).2 (vws.hl p hp)).2⟩;have zvz:=kpt Hz ⟨_,kp⟩ _ _ zvs;clear kp J4 zrs nrl nl2 el2 nr nd er edd ead z2s vws zvs N0 J1;obtain⟨us,eus⟩:∃ us,((keys b).filter λt=>decide (t∈rd))=us:=⟨_,rfl⟩;have upw:us.Pairwise (·< ·):=by rw[←eus];exact N4 NW Gb.asc
 have umm:∀ t,t∈us↔t∈rd:=λt=>by rw[←eus,NA,decide_eq_true_iff];exact⟨λh=>h.2,λh=>⟨dm.rk t h,h⟩⟩
 have usk:∀ n∈us,n∈keys b:=λn h=>dm.rk n ((umm n).mp h);have r8:(vrs b).length≤8:=by unfold vrs;rw[MN,Gb.h8];exact MR _
 have ul:us.length<64:=h64 us (br upw) λm h=>(umm m).mp h;have ulr:us.length≤rd.length:=ck (br upw) λm h=>(umm m).mp h;have rt2:R.Rt (vrs b++us.map some) (vks b):=uO rt r8 ul λn h=>by rw[cD];exact usk n h
 have lr:=nmi.lr;have lrd:rd.length≤200:=by omega
 refine⟨_,rfl,_,rfl,v,r,d,rl,oo,ad,vrs b,vks b,rd,us,rfl,SqT.of zvz,vwz,rt,rt2,zrl,lrd,h64,upw,umm,λtp l gg xs tr ms gs H5 s5 hl5 hg5 _ htp pap hR hro hsh zg hG _=>?_⟩;have J5:=J.same s5;have gi:=CJ hR hro hsh hG;have nms:=R.kD OA hR;have ml:ms.length≤63:=FK Gb (us:=us) (by omega) usk nms λm hm=>(yW hR hro hsh m).mp hm;have xl:xs.length≤63:=by have:=R.wU hR;rw[MN]at this;omega
 have kk:(R.keys (vks b)).length≤200:=by rw[cD];unfold keys;rw[MN];have:=Gb.sd;omega
 have gl:=Cf kk hG;have edm:s.aF=gs:=gB g.g.pB hG.1 λt=>by
  rw[dm.mem t,gi t,cD];refine and_congr Iff.rfl (not_congr ⟨uQ λo ho=>?_,uQ λo ho=>?_⟩)
  ·rcases MS.mp ho with h|h
   ·exact Nd _ h
   ·obtain⟨n,mn,rfl⟩:=Nc.mp h
    exact MX _ (Nc.mpr ⟨n,(umm n).mpr mn,rfl⟩)
  ·rcases MS.mp ho with h|h
   ·exact Nd _ h
   ·obtain⟨n,mn,rfl⟩:=Nc.mp h
    exact MX _ (Nc.mpr ⟨n,(umm n).mp mn,rfl⟩)
 refine⟨_,rfl,x,_,_,rfl,J5.ax,(by kernel_rfl),x,A,s,rfl,J5,g.g,λp6 H6 s6 _ z6=>?_⟩;rw[edm]at z6;have S6:=s5.trans s6;have ra:=jO z6;have rb:=jO (s6 _ _ zg);refine⟨_,rfl,tp,_,1,.ref gg,rfl,rfl,SqT.of (s6 _ _ htp),rfl,_,_,ra,rb,_,rfl,qP (by rw[i6 ra ra];rfl) ?_⟩;refine⟨_,rfl,_,rfl,_,rfl,v,r,d,rl,tp,l,gg,oo,ad,vrs b,vks b,rd,us,xs,tr,gs,rfl,SqT.of (S6 _ _ zvz),vwz.same S6,rt,rt2,S6 _ _ zrl,lrd,h64,upw,umm,SqT.of (s6 _ _ htp),pap.same s6,xl,s6 _ _ zg,gl,λbb H7 s7 hbb=>?_⟩;have hbt:bb=true:=hbb.mpr ⟨⟨ms,hR,hro,hsh⟩,hG⟩;subst hbt;refine⟨true,rfl,b8 ?_⟩;have S7:=S6.trans s7;have J7:=(J5.same s6).same s7;refine⟨_,rfl,x,_,_,rfl,J7.ax,(by kernel_rfl),x,A,s,rfl,J7,g,?_⟩;rw[show As s=(none,qk s) from if_pos hrn];intro A2 H8 J8 fr8;have G8:=g.fin.g;have nl5:=J.fresh hl5;have ng5:=J.fresh hg5;have vw8:R.Vw H8 r d oo ad (vrs b) (vks b):=⟨fr8.ext _ _ nfs.1 ((vwz.same S7).hr),fr8.ext _ _ nfs.2.1 ((vwz.same S7).hd),λp hp=>fr8.ext _ _ (nfs.2.2 p hp) ((vwz.same S7).hl p hp)⟩;have zv8:=fr8.tup _ _ (S7 _ _ zvz);have zr8:=fr8.ext _ _ nfr (S7 _ _ zrl);have tp8:=fr8.tup _ _ (s7 _ _ (s6 _ _ htp));have zg8:=fr8.ext _ _ ng5 (s7 _ _ (s6 _ _ zg));have MK:R.Pap H8 l xs tr:=⟨fr8.ext _ _ nl5 (s7 _ _ (s6 _ _ pap.hl)),λq hq=>fr8.tup _ _ (s7 _ _ (s6 _ _ (pap.hx q hq)))⟩;clear J5 J7 S6 S7 s5 s6 s7 ra rb z6 J fr8 vwz zvz zrl htp zg pap;refine⟨_,rfl,x,_,_,rfl,J8.ax,(by kernel_rfl),x,A2,qk s,rfl,J8,G8,λp9 H9 s9 _ z9=>?_⟩;refine⟨_,rfl,v,_,1,.ref d,rfl,rfl,SqT.of (s9 _ _ zv8),rfl,d,_,R.keys (vks b),rfl,R.CF (vw8.same s9),R.mZ ad (vks b),by omega,rt.asc.imp (λh=>NZ h),λq hq=>⟨q,rfl,⟨_,SqL.of ag⟩,λL hL=>?_⟩⟩;have u1:=ay.upd (o:=.lst ((R.keys (vks b)).map V.int)) hq;have zq1:=bt u1;have z91:=u1 _ _ z9;generalize upd H9 q (.lst ((R.keys (vks b)).map V.int))=H10 at *;refine fu (K:=K) (a:=q) (xs:=(R.keys (vks b)).map V.int) (λi ys Hc=>ys=(((R.keys (vks b)).take i).filter λt=>decide (t∉keys (qk s))).map V.int∧ay H10 Hc∧Hc L=some (.lst ys)) ⟨rfl,ay.upd hL,ag⟩ (λi ys Hc _ ⟨e,_,z⟩=>⟨z,by rw[e,MN];exact Nh (NF _ _) (by rw[MZ];omega)⟩) (λi ys Hc _ ⟨_,sc,_⟩=>SqL.of (sc _ _ zq1)) (by rw[MN];exact fe (by omega)) (λi w ys Hc hi ⟨e,sc,z⟩=>?_) (λys Hc ⟨e,sc,z⟩=>?_)
 ·rw[MY]at hi
  obtain⟨t,ht,rfl⟩:=Ng.mp hi;have tk:=take_snoc ht;refine⟨_,rfl,_,rfl,p9,_,rfl,.inl (SqL.of (sc _ _ z91)),rfl,eZ (keys (qk s)),_,rfl,?_⟩;show if(!inV (.int t) ((keys (qk s)).map V.int))=true then _ else _;rw[EE];by_cases c:t∈keys (qk s)
  ·rw[decide_eq_true c]
   exact b8 ⟨by rw[tk,NJ,e];simp[c],sc,z⟩
  ·rw[decide_eq_false c]
   exact dt ⟨_,rfl,z,by rw[tk,NJ,e];simp[c],λb u q=>by rw[ab (ao q hL)];exact sc b u q,ag⟩
 rw[MN,MW (MR _)]at e;have ee:((R.keys (vks b)).filter λt=>decide (t∉keys (qk s)))=gs:=by
  refine gB (N4 NW rt.asc) hG.1 λt=>?_;rw[NA,decide_eq_true_iff,←edm];constructor
  ·rintro⟨m,h⟩
   rw[cD]at m;exact(xb od m).mp h
  ·intro h
   have m:=((dm.mem t).mp h).1;exact⟨by rw[cD];exact m,(xb od m).mpr h⟩
 rw[ee]at e;subst e;have S9:=(s9.trans u1).trans sc;have ra:=jO z;have rb:=jO (S9 _ _ zg8);refine⟨_,rfl,tp,_,1,.ref gg,rfl,rfl,SqT.of (S9 _ _ tp8),rfl,_,_,ra,rb,_,rfl,qP (by rw[i6 ra ra];rfl) ?_⟩;exact⟨_,rfl,_,rfl,_,rfl,v,r,d,rl,tp,l,gg,oo,ad,vrs b,vks b,rd,us,gs,ms,xs,tr,rfl,S9 _ _ zv8,vw8.same S9,rt,r8,S9 _ _ zr8,lrd,h64,(λn h=>by rw[cD];exact dm.rk n h),upw,umm,S9 _ _ tp8,MK.same S9,xl,hR,hro,hsh,S9 _ _ zg8,hG,λH11 _=>⟨false,rfl,k H11⟩⟩
end
end K72
end
section
namespace K72
open PySem L2 LX
open PySem.W
theorem all_mk{l:OpenLaw}{w:World}{h:Heap}{mg:Str→Option Value}{fa:Addr}(X:(hK w.params).In h)(G:h.Ns mainGlobals mg)(hfa:mg "law" = some (.ref fa)):∃ fd:FuncData,(∀(s:Shared) (v:Value),BindsTo s fd ⟨[v],[]⟩ [("script",v)])∧∀ base:Heap,(hK w.params).In base→base.Ns mainGlobals mg→cL l.prog w (hK w.params) mg base (CXE l.prog w) 12 fa fd ["script"] (CD (hK w.params)):=by
 have T:Txt w (hK w.params) mg ⟨⟩:=⟨rfl,λh=>mg_of X G h,λh=>mg_none_of X G h⟩;have e:=(T.m (na := "law") (v:=.ref 916)).symm.trans hfa;cases e;refine⟨fdA w.params 916,λs v=>?_,λbase _ _=>(FO (P:=l.prog) (base:=base) T).g⟩;obtain⟨_,_,_,_,_,_,_,_,_,e,_⟩:=(T.fn (st:=aH) (f:=916) "law").ex;rw[e];exact .of_eq rfl
theorem walk{l:OpenLaw}{q:Program}{loose:List Str}{XP:(Str→Option Value)→Heap→Prop}{YP:World→Heap→Prop}{d:DefRec}(hn:l.most=some 63)(hdf:d.params.defaults=[])(hd:d.name = "law")(hY:∀(w:World) (h:Heap),YP w h→(hK w.params).In h):WalkO q loose XP YP l.row.toRowW d [] (λf vs=>PySem.call f vs) :=
 L2.CU (n:=63) (k:=12) (x := "script") (CX:=λw=>CXE l.prog w) (sp:=λw=>CD (hK w.params)) hn (by decide) hdf ⟨rfl,by decide,by decide⟩ hY (λw mg fa h KX G hmg=>all_mk KX G (hd ▸ hmg)) (λ_ _ a ns hl _ hS=>⟨a,ns,rfl,hS,hl,λ_=>rfl⟩) λ_ _ _ _ _ z=>Jm z
end K72
open PySem PySem.W PyProof.Rows
theorem K72.wsd:PySem.Challenge.rw_stillheap_k72_whole_just_these_went.wellSaid=true:=by kernel_rfl
set_option maxRecDepth 100000 in
set_option maxHeartbeats 0 in
theorem PySem.Challenge.cw_stillheap_k72_whole_just_these_went_holds : PySem.Challenge.rw_stillheap_k72_whole_just_these_went.Holds := by
 w_on;refine holds_law K72.wsd λhV=>?_
 refine holds_open (q:=K72.hQ) (loose:=K72.hLo) (Xt:=λs=>xlAt K72.hQ [] s&&recOk (RowW.records (OpenRow.toRowW (OpenLaw.row PySem.Challenge.rw_stillheap_k72_whole_just_these_went))) s)
  (XP:=XL K72.hQ []) (Yf:=Hook.obs (kHook K72.hK K72.hAs K72.fQ)) (Ya:=Hook.val (kHook K72.hK K72.hAs K72.fQ)) (YP:=Hook.says (kHook K72.hK K72.hAs K72.fQ)) (N:=13164)
  K72.Ja (Hook.of (kHook K72.hK K72.hAs K72.fQ)) (Hook.keeps (kHook K72.hK K72.hAs K72.fQ))
  (λs e=>xl_of s (Bool.and_eq_true_iff.mp e).1) XL.keeps (by rfl) (by rfl) (by rfl)
  (λs e=>recFacts_of (Bool.and_eq_true_iff.mp e).2) (by rfl) (by first|assumption|decide +kernel)
  (by decide +kernel) ⟨rfl,rfl,rfl,rfl,rfl,by decide +kernel⟩ ?hw ?hc
 (case hw=>w_witness2)
 refine K72.walk (l:=PySem.Challenge.rw_stillheap_k72_whole_just_these_went) rfl rfl rfl (λw h Y=>PySem.W.kIn_of Y)
end
