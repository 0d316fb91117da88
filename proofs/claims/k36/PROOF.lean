import PyProof.Rows.All
import Wide.All
import OpenK.AllK
import Wide.FinOn
import PyProof.EqAt
import PyProof.EqKinds
import PyProof.TupleCall
import OpenK.KCls
import PyProof.ExcClass2
import PyProof.ExcBaseAll.ValueError
import PyProof.ExcArgs
import PyProof.Rows.Exc
import KE.KIsAll
import PyProof.StationsW
import PyProof.EnumFor
import PyProof.EnumStmt
import PyProof.EnumMake
import PyProof.NeKinds
import PyProof.Rows.SumAny
import KE.KDictSum
import PyProof.Rows.SortWalk
import PyProof.Rows.Range3
import PyProof.Rows.SetFrom
import KE.KEqDict
import PyProof.Rows.DictUnroll
import KE.KRevSl
import PyProof.AutoListH
import PyProof.AttrMiss
import KE.KRevIter
import PyProof.SeqI3
import Wide.Seal
import PySem.Challenge.RW_stillheap_k36_right_pictures
set_option Elab.async false
set_option linter.all false
set_option maxRecDepth 100000
set_option maxHeartbeats 4000000
set_option exponentiation.threshold 4000
section
open PySem PySem.W PySem.Spec PyProof.Rows
noncomputable def ai6:=@List.getElem?_eq_some_iff
noncomputable def ai7:=@List.getElem?_eq_getElem
noncomputable def ai8:=@List.length_map
noncomputable def ai9:=@List.mem_singleton
noncomputable def aja:=@Heap.get?_push_of_some
noncomputable def ajb:=@Nat.le_refl
noncomputable def ajc:=@Bool.false_ne_true
noncomputable def ajd:=@List.size_toArray
noncomputable def aje:=@List.mem_of_getElem?
noncomputable def ajf:=@List.mem_append_right
noncomputable def ajg:=@Heap.lt_size
noncomputable def ajh:=@List.getElem?_map
noncomputable def aji:=@List.length_append
noncomputable def ajj:=@List.take_of_length_le
noncomputable def ajk:=@Option.map_eq_some_iff
noncomputable def ajl:=@Nat.ne_of_lt
noncomputable def ajm:=@Ne.symm
noncomputable def ajn:=@Nat.lt_of_lt_of_le
noncomputable def ajo:=@List.mem_cons
noncomputable def ajp:=@List.length_take
noncomputable def ajq:=@List.map_append
noncomputable def ajr:=@PassesOwn.never
noncomputable def ajs:=@List.mem_append
noncomputable def ajt:=@List.mem_cons_self
noncomputable def aju:=@List.map_cons
noncomputable def ajv:=@List.mem_cons_of_mem
noncomputable def ajw:=@Array.getElem?_eq_some_iff
noncomputable def ajx:=@Option.some.inj
noncomputable def ajy:=@Nat.le_trans
noncomputable def ajz:=@List.mem_map
noncomputable def ajA:=@List.take_succ_eq_append_getElem
noncomputable def ajB:=@Int.emod_lt_of_pos
noncomputable def ajC:=@Heap.get?_push_size
noncomputable def ajD:=@List.mem_append_left
noncomputable def ajE:=@List.length_cons
noncomputable def ajF:=@Heap.get?_update_other
noncomputable def ajG:=@List.length_set
noncomputable def ajH:=@Int.emod_nonneg
noncomputable def ajI:=@List.length_singleton
noncomputable def ajJ:=@List.getElem?_append_right
noncomputable def ajK:=@List.replicate_succ
noncomputable def ajL:=@Bool.eq_false_iff
noncomputable def ajM:=@Nat.zero_le
noncomputable def ajN:=@Bool.false_eq_true
noncomputable def ajO:=@List.map_map
noncomputable def ajP:=@List.mem_filter
noncomputable def ajQ:=@List.getElem?_append_left
noncomputable def ajR:=@PySem.mem_of_lookup
noncomputable def ajS:=@Int.le_refl
noncomputable def ajT:=@List.length_replicate
noncomputable def ajU:=@List.eq_of_mem_replicate
noncomputable def ajV:=@List.append_nil
noncomputable def ajW:=@Nat.lt_of_le_of_lt
noncomputable def ajX:=@List.getElem_mem
noncomputable def ajY:=@List.getElem?_set_self
noncomputable def ajZ:=@List.mem_iff_getElem?
noncomputable def aj0:=@List.mem_filterMap
noncomputable def aj1:=@Nat.lt_or_ge
noncomputable def aj2:=@List.nodup_append
noncomputable def aj3:=@List.filter_congr
noncomputable def aj4:=@Option.map_some
noncomputable def aj5:=@List.map_congr_left
noncomputable def aj6:=@List.lookup_cons
noncomputable def aj7:=@List.length_filter_le
noncomputable def aj8:=@List.pairwise_iff_getElem
noncomputable def aj9:=@List.getElem?_set_ne
noncomputable def aka:=@List.mem_of_mem_take
noncomputable def akb:=@List.flatten_cons
noncomputable def akc:=@Option.isSome_map
noncomputable def akd:=@List.length_range
noncomputable def ake:=@Nat.lt_irrefl
noncomputable def akf:=@List.getElem?_replicate
noncomputable def akg:=@List.filter_sublist
noncomputable def akh:=@List.all_eq_true
noncomputable def aki:=@List.mem_range
noncomputable def akj:=@List.take_zero
noncomputable def akk:=@Nat.ne_of_gt
noncomputable def akl:=@List.nodup_cons
noncomputable def akm:=@List.find?_cons
noncomputable def akn:=@List.Pairwise.sublist
noncomputable def ako:=@List.append_assoc
noncomputable def akp:=@List.getD_eq_getElem?_getD
noncomputable def akq:=@List.mem_iff_getElem
noncomputable def akr:=@Heap.size_push
noncomputable def aks:=@List.drop_eq_getElem_cons
noncomputable def akt:=@Classical.byContradiction
noncomputable def aku:=@List.not_mem_nil
noncomputable def akv:=@Option.isSome_iff_exists
noncomputable def akw:=@Bool.eq_iff_iff
noncomputable def akx:=@Calls.spliced_cons
noncomputable def aky:=@List.any_cons
noncomputable def akz:=@Nat.not_lt_zero
noncomputable def akA:=@List.filter_append
noncomputable def akB:=@List.pairwise_singleton
noncomputable def akC:=@Calls.callWith_builtin
noncomputable def akD:=@Nat.le_succ
noncomputable def akE:=@Nat.lt_succ_of_lt
noncomputable def akF:=@List.map_nil
noncomputable def akG:=@List.take_append_drop
noncomputable def akH:=@Nat.lt_succ_self
noncomputable def akI:=@Bool.and_eq_true
noncomputable def akJ:=@List.mem_nil_iff
noncomputable def akK:=@Calls.evalArgs_plain
noncomputable def akL:=@List.pairwise_append
noncomputable def akM:=@Array.length_toList
noncomputable def akN:=@Calls.Name_function_global
noncomputable def akO:=@Nat.le_of_lt
noncomputable def akP:=@Nat.sub_self
noncomputable def akQ:=@Bool.and_false
noncomputable def akR:=@Calls.spliced_nil
noncomputable def akS:=@List.getElem_take
noncomputable def akT:=@Paired.length
noncomputable def akU:=@List.of_mem_zip
noncomputable def akV:=@List.filter_map
end
section
namespace L2
open PySem PySem.Spec PyProof.Rows
noncomputable abbrev Key:=Sum Int Str
noncomputable def sO:Key→Value→Bool
  | .inl k,v=>Value.isInt k v
  | .inr x,v=>Value.isStrOf x v
noncomputable def YE(w:World):Key→Int
  | .inl k=>hashInt k
  | .inr x=>hashStr w x
theorem cq:∀ {k:Key} {v:Value},sO k v=true→(∃ i t,k=Sum.inl i∧v=Value.int i t)∨(∃ x t,k=Sum.inr x∧v=Value.str x t)
  | .inl i,v,h=>by
    obtain⟨t,e⟩:=Value.isInt_shape (k:=i) (v:=v) h;exact .inl ⟨i,t,rfl,e⟩
  | .inr x,v,h=>by
    obtain⟨t,e⟩:=Value.isStrOf_shape (x:=x) (v:=v) h;exact .inr ⟨x,t,rfl,e⟩
theorem O8(i:Int)(t:Tok):sO (.inl i) (.int i t)=true:=by simp[sO,Value.isInt]
theorem O9(x:Str)(t:Tok):sO (.inr x) (.str x t)=true:=by simp[sO,Value.isStrOf]
theorem UL(a b:Int):decide ((Sum.inl a:Key)=Sum.inl b)=(a == b):=by
  by_cases e:a=b
  · subst e;simp
  · have h:¬(Sum.inl a:Key)=Sum.inl b:=λq=>e (Sum.inl.inj q)
    rw[decide_eq_false h];exact(beq_eq_false_iff_ne.mpr e).symm
theorem UM(a b:Str):decide ((Sum.inr a:Key)=Sum.inr b)=decide (a=b):=by
  by_cases e:a=b
  · subst e;simp
  · have h:¬(Sum.inr a:Key)=Sum.inr b:=λq=>e (Sum.inr.inj q)
    rw[decide_eq_false h,decide_eq_false e]
theorem UN(a:Int)(b:Str):decide ((Sum.inl a:Key)=Sum.inr b)=false:=decide_eq_false (λq=>nomatch q)
theorem UO(a:Str)(b:Int):decide ((Sum.inr a:Key)=Sum.inl b)=false:=decide_eq_false (λq=>nomatch q)
noncomputable def cx(prog:Program)(w:World):PySem.KeyKind prog w Key where
  is:=sO
  hash:=YE w
  inj:=λv a b ha hb=>by
    rcases cq ha with⟨i,t,rfl,rfl⟩|⟨x,t,rfl,rfl⟩
    · rcases cq hb with⟨j,u,rfl,e⟩|⟨y,u,rfl,e⟩
      · injection e with e1 _;rw[e1]
      · exact nomatch e
    · rcases cq hb with⟨j,u,rfl,e⟩|⟨y,u,rfl,e⟩
      · exact nomatch e
      · injection e with e1 _;rw[e1]
  byValue:=λk v h=>by
    rcases cq h with⟨i,t,rfl,rfl⟩|⟨x,t,rfl,rfl⟩<;>rfl
  pyHash:=λhv h=>by
    rcases cq hv with⟨i,t,rfl,rfl⟩|⟨x,t,rfl,rfl⟩
    · exact wpAny_pyHash_int h
    · exact wpAny_pyHash_str h
  eqBool:=λhu hv h=>by
    rcases cq hu with⟨i,t,rfl,rfl⟩|⟨x,t,rfl,rfl⟩
    · rcases cq hv with⟨j,u,rfl,rfl⟩|⟨y,u,rfl,rfl⟩
      · rw[UL]at h;exact wpAny_eqBool_int h
      · rw[UN]at h;exact SeqAt.EqAt.int_str i t y u _ _ _ _ h
    · rcases cq hv with⟨j,u,rfl,rfl⟩|⟨y,u,rfl,rfl⟩
      · rw[UO]at h;exact SeqAt.EqAt.str_int x t j u _ _ _ _ h
      · rw[UM]at h;exact wpAny_eqBool_str h
  «strs» := λk x t v h=>by
    rcases cq h with⟨i,u,rfl,e⟩|⟨y,u,rfl,e⟩
    · exact nomatch e
    · injection e with e1 _
      subst e1;cases v<;>rfl
theorem KD(prog:Program)(w:World)(i:Int)(t:Tok):(cx prog w).is (.inl i) (.int i t)=true:=O8 i t
theorem KG(prog:Program)(w:World)(x:Str)(t:Tok):(cx prog w).is (.inr x) (.str x t)=true:=O9 x t
end L2
namespace L2
open PySem PySem.Spec PyProof.Rows
inductive V where
  | non|bl (b:Bool)|int (i:Int)|str (x:Str)|byt (b:Array UInt8)|flt (b:UInt64)|ref (a:Addr)|ty (n:String)
  deriving DecidableEq
noncomputable def RelV:V→Value→Prop
  | .non,u=>u=Value.none
  | .bl b,u=>u=Value.bool b
  | .int i,u=>∃ t,u=Value.int i t
  | .str x,u=>∃ t,u=Value.str x t
  | .byt b,u=>∃ t,u=Value.bytes b t
  | .flt b,u=>∃ t,u=Value.float b t
  | .ref a,u=>u=Value.ref a
  | .ty n,u=>u=Value.type n
noncomputable abbrev Vals:List V→List Value→Prop:=Paired RelV
theorem Vals.length{xs:List V}{us:List Value}(r:Vals xs us):xs.length=us.length:=akT r
theorem Vals.get:∀ {xs:List V} {us:List Value} {i:Nat} {x:V},Vals xs us→xs[i]?=some x→∃ u,us[i]?=some u∧RelV x u
  | _,_,_,_,.nil,e=>by simp at e
  | _,_,0,_,.cons r _,e=>by simp at e;subst e;exact⟨_,rfl,r⟩
  | _,_,i+1,x,.cons _ t,e=>by
    obtain⟨u,h1,h2⟩:=Vals.get (i:=i) (x:=x) t (by simpa using e);exact⟨u,by simpa using h1,h2⟩
theorem Vals.set{x:V}{u:Value}(r:RelV x u):∀ {xs:List V} {us:List Value} (i:Nat),Vals xs us→Vals (xs.set i x) (us.set i u)
  | _,_,_,.nil=>.nil
  | _,_,0,.cons _ t=>.cons r t
  | _,_,i+1,.cons q t=>.cons q (Vals.set r i t)
theorem Vals.append:∀ {xs ys:List V} {us ws:List Value},Vals xs us→Vals ys ws→Vals (xs++ys) (us++ws)
  | _,_,_,_,.nil,s=>s
  | _,_,_,_,.cons r t,s=>.cons r (Vals.append t s)
theorem Vals.take:∀ {xs:List V} {us:List Value} (n:Nat),Vals xs us→Vals (xs.take n) (us.take n)
  | _,_,0,_=>.nil
  | _,_,_+1,.nil=>.nil
  | _,_,n+1,.cons r t=>.cons r (Vals.take n t)
theorem Vals.drop:∀ {xs:List V} {us:List Value} (n:Nat),Vals xs us→Vals (xs.drop n) (us.drop n)
  | _,_,0,r=>r
  | _,_,_+1,.nil=>.nil
  | _,_,n+1,.cons _ t=>Vals.drop n t
noncomputable def yh:Option V→Option Value→Prop
  | some v,some u=>RelV v u
  | none,none=>True
  | _,_=>False
noncomputable def KV{κ:Type}:List (κ×V)→List (κ×Value)→Prop:=Paired λ(p:κ×V) (q:κ×Value)=>p.1=q.1∧RelV p.2 q.2
noncomputable def kV:Key→V
  | .inl i=>.int i
  | .inr x=>.str x
inductive HO where
  | lst (xs:List V)
  | tup (xs:List V)
  | dK (kvs:List (Key×V))|dT (kvs:List (List Key×V))
  | set (S:Int→Bool) (n:Nat)
  | ins (C dx:Addr) (fs:List (Str×V))
  | own (x:Addr)
  | xd (fs:List (Str×V))
  | met (f x:Addr)
  | rng (lo hi:Int)
  | frz (o:Obj) (u:HO)
  | tbl (ps:Array Value)
  | ext (φ:Heap→Prop)
noncomputable abbrev Hp:=Addr→Option HO
noncomputable def upd(H:Hp)(a:Addr)(o:HO):Hp:=λb=>if b=a then some o else H b
theorem ah{H:Hp}{a:Addr}{o:HO}:upd H a o a=some o:=by unfold upd;rw[if_pos rfl]
theorem af{H:Hp}{a b:Addr}{o:HO}(h:b≠a):upd H a o b=H b:=by unfold upd;rw[if_neg h]
theorem ay{H:Hp}{a b:Addr}{o u:HO}(h:H a=some o)(h':H b=some u)(d:o≠u):a≠b:=by
  intro e;subst e;rw[h]at h';exact d (ajx h')
theorem aq{H:Hp}{a b:Addr}{o:HO}(h:H a=some o)(h':H b=none):a≠b:=by
  intro e;subst e;rw[h]at h';cases h'
section
variable(P:Program)(w:World)
noncomputable def iJ(H:Hp)(h:Heap)(a:Addr):HO→Prop
  | .lst xs=>xs.length≤sizeLine∧∃(its:List Value) (n:Nat),Vals xs its∧h.get? a=some {cls:=.type "list",data:=.seq its.toArray n}
  | .tup xs=>xs.length≤sizeLine∧∃ its:List Value,Vals xs its∧IsTup h a its.toArray
  | .dK kvs=>kvs.length≤sizeLine∧(a == sysModules)=false∧∃ vs,KV kvs vs∧h.DictOf (cx P w) a vs
  | .dT kvs=>kvs.length≤sizeLine∧(a == sysModules)=false∧∃ xs:List (List Key×Addr×Value),
      Paired (λ(p:List Key×V) (q:List Key×Addr×Value)=>p.1=q.1∧H q.2.1=some (.tup (p.1.map kV))∧RelV p.2 q.2.2) kvs xs ∧
      ∃ o es ep,h.get? a=some o∧o.ExactDict∧o.data=.dict es ep∧es.toList=xs.map (entryOfKey (tupleKind (cx P w)))∧(xs.map (·.1)).Nodup
  | .set S n=>h.SetOf (intKind P w) a S n
  | .ins C dx fs=>H dx=some (.own a)∧fs.length≤1000∧dx≠a∧h.get? a=some (PySem.W.instObj C dx) ∧
      ∃ mA,h.Ns1 dx mA∧(∀ f,yh (fs.lookup f) (mA f))∧PySem.Within mA (fs.map (·.1))
  | .own _=>∃ o,h.get? a=some o
  | .xd fs=>∃ mA,h.Ns1 a mA∧∀ f,yh (fs.lookup f) (mA f)
  | .rng lo hi=>∃ t u v,h.get? a=some {cls:=.type "range",data:=.fields #[.int lo t,.int hi u,.int 1 v]}
  | .frz o u=>h.get? a=some o∧iJ H h a u
  | .tbl ps=>h.get? a=some {cls:=.none,data:=.fields ps}
  | .met f x=>h.get? a=some (PySem.W.methodObj (.ref f) (.ref x))
  | .ext φ=>φ h∧(∃ o,h.get? a=some o)∧∀ h1 h2:Heap,φ h1→(∀ o,h1.get? a=some o→h2.get? a=some o)→φ h2
noncomputable def HOk(H:Hp)(h:Heap):Prop:=∀ a o,H a=some o→iJ P w H h a o
end
section
variable{P:Program}{w:World}{H H':Hp}{h h':Heap}{a:Addr}{o:HO}
theorem iJ.lt(x:iJ P w H h a o):a<h.objs.size:=by
  cases o with
  | lst xs=>obtain⟨_,_,_,_,e⟩:=x;exact ajg e
  | tup xs=>obtain⟨_,_,_,p⟩:=x;exact p.lt
  | dK kvs=>obtain⟨_,_,_,_,o,_,_,e,_⟩:=x;exact ajg e
  | dT kvs=>obtain⟨_,_,_,_,o,_,_,e,_⟩:=x;exact ajg e
  | set S n=>obtain⟨o,_,_,_,e,_⟩:=x;exact ajg e
  | ins C dx fs=>obtain⟨_,_,_,e,_⟩:=x;exact ajg e
  | own y=>obtain⟨_,e⟩:=x;exact ajg e
  | xd fs=>obtain⟨_,⟨_,_,_,e,_⟩,_⟩:=x;exact ajg e
  | rng lo hi=>obtain⟨_,_,_,e⟩:=x;exact ajg e
  | frz ob u=>obtain⟨e,_⟩:=x;exact ajg e
  | tbl ps=>exact ajg (show h.get? a=some _ from x)
  | met f y=>exact ajg (show h.get? a=some _ from x)
  | ext φ=>obtain⟨_,⟨_,e⟩,_⟩:=x;exact ajg e
theorem Paired.VC{α β:Type}{F G:α→β→Prop}:∀ {l₁:List α} {l₂:List β},Paired F l₁ l₂→(∀ a b,F a b→G a b)→Paired G l₁ l₂
  | _,_,.nil,_=>.nil
  | _,_,.cons r t,f=>.cons (f _ _ r) (Paired.VC t f)
theorem iJ.LS(x:iJ P w H h a o)(k:∀ b u,(b=a∨H b=some (.own a))→h.get? b=some u→h'.get? b=some u)
    (ho:∀ b,H b=some (.own a)→H' b=some (.own a)) (ht:∀ b xs,H b=some (.tup xs)→H' b=some (.tup xs)):iJ P w H' h' a o:=by
  induction o with
  | lst xs=>obtain⟨z,its,n,r,e⟩:=x;exact⟨z,its,n,r,k _ _ (.inl rfl) e⟩
  | tup xs=>obtain⟨z,its,r,ob,e,c⟩:=x;exact⟨z,its,r,ob,k _ _ (.inl rfl) e,c⟩
  | dK kvs=>obtain⟨z,y,vs,r,ob,es,ep,e,c⟩:=x;exact⟨z,y,vs,r,ob,es,ep,k _ _ (.inl rfl) e,c⟩
  | dT kvs =>
    obtain⟨z,y,xs,r,ob,es,ep,e,c⟩:=x;exact⟨z,y,xs,Paired.VC r λp q z=>⟨z.1,ht _ _ z.2.1,z.2.2⟩,ob,es,ep,k _ _ (.inl rfl) e,c⟩
  | set S n=>obtain⟨ob,es,ep,t,e,c⟩:=x;exact⟨ob,es,ep,t,k _ _ (.inl rfl) e,c⟩
  | ins C dx fs =>
    obtain⟨d,z,ne,e,mA,⟨od,es,ep,e2,c⟩,r⟩:=x;exact⟨ho _ d,z,ne,k _ _ (.inl rfl) e,mA,⟨od,es,ep,k _ _ (.inr d) e2,c⟩,r⟩
  | own y=>obtain⟨ob,e⟩:=x;exact⟨ob,k _ _ (.inl rfl) e⟩
  | xd fs=>obtain⟨mA,⟨od,es,ep,e,c⟩,r⟩:=x;exact⟨mA,⟨od,es,ep,k _ _ (.inl rfl) e,c⟩,r⟩
  | rng lo hi=>obtain⟨t,u,v,e⟩:=x;exact⟨t,u,v,k _ _ (.inl rfl) e⟩
  | frz ob u ih=>obtain⟨e,q⟩:=x;exact⟨k _ _ (.inl rfl) e,ih q⟩
  | tbl ps =>
    have e:h.get? a=some {cls:=.none,data:=.fields ps}:=x;show h'.get? a=some {cls:=.none,data:=.fields ps};exact k a _ (.inl rfl) e
  | met f y =>
    have e:h.get? a=some (PySem.W.methodObj (.ref f) (.ref y)):=x;show h'.get? a=some (PySem.W.methodObj (.ref f) (.ref y));exact k a _ (.inl rfl) e
  | ext φ=>obtain⟨p,⟨o,e⟩,st⟩:=x;exact⟨st _ _ p λo q=>k _ _ (.inl rfl) q,⟨o,k _ _ (.inl rfl) e⟩,st⟩
theorem HOk.lt(x:HOk P w H h)(e:H a=some o):a<h.objs.size:=(x a o e).lt
theorem HOk.fresh(x:HOk P w H h)(e:h.objs.size≤a):H a=none:=by
  cases q:H a with
  | none=>rfl
  | some u=>exact absurd (ajn (x.lt q) e) (ake _)
theorem HOk.kept(x:HOk P w H h)(k:∀ b u,h.get? b=some u→h'.get? b=some u):HOk P w H h':=λa o e =>
  (x a o e).LS (λb u _ q=>k b u q) (λ_ q=>q) λ_ _ q=>q
theorem HOk.laid(x:HOk P w H h)(k:∀ b u,h.get? b=some u→h'.get? b=some u)(hp:h.objs.size≤a)(new:iJ P w (upd H a o) h' a o):HOk P w (upd H a o) h':=λb u e=>by
  have hn:=x.fresh hp;by_cases hb:b=a
  · subst hb;rw[ah]at e;cases e;exact new
  · rw[af hb]at e
    exact(x b u e).LS (λc v _ q=>k c v q) (λc q=>by rw[af (aq q hn)];exact q) λc xs q=>by rw[af (aq q hn)];exact q
end
noncomputable def Rd(H:Hp)(a:Addr)(u:HO):Prop:=H a=some u∨∃ o,H a=some (.frz o u)
theorem Rd.ok{P:Program}{w:World}{H:Hp}{h:Heap}{a:Addr}{u:HO}(r:Rd H a u)(x:HOk P w H h):iJ P w H h a u:=by
  rcases r with r|⟨o,r⟩
  · exact x a u r
  · obtain⟨_,q⟩:=x a _ r
    exact q
noncomputable def Mut:Option HO→Prop
  | some (.lst _)=>True
  | some (.dK _)=>True
  | some (.dT _)=>True
  | some (.set _ _)=>True
  | some (.ins _ _ _)=>True
  | some (.ext _)=>True
  | _=>False
section
variable{P:Program}{w:World}{H:Hp}{h h':Heap}{x e:Addr}{o':HO}
theorem HOk.write(ok:HOk P w H h)(mu:Mut (H x))(he:e=x∨H e=some (.own x))(k:∀ b u,b≠e→h.get? b=some u→h'.get? b=some u)(heo:∃ u,h'.get? e=some u)
    (new:iJ P w (upd H x o') h' x o'):HOk P w (upd H x o') h':=λb u q=>by
  have YF:∀ c y,H c=some (.own y)→c≠x:=λc y r z=>by subst z;rw[r]at mu;exact mu
  have aeM:∀ c xs,H c=some (.tup xs)→c≠x:=λc xs r z=>by subst z;rw[r]at mu;exact mu
  by_cases hb:b=x
  · subst hb;rw[ah]at q;cases q;exact new
  · rw[af hb]at q
    by_cases hbe:b=e
    · have q':H b=some (.own x):=by
        rcases he with z|z
        · exact absurd (hbe.trans z) hb
        · rw[hbe];exact z
      rw[q]at q';cases q';obtain⟨v,hv⟩:=heo;exact⟨v,by rw[hbe];exact hv⟩
    · refine(ok b u q).LS (λc v hc r=>k c v ?_ r) (λc r=>by rw[af (YF c b r)];exact r) λc xs r=>by rw[af (aeM c xs r)];exact r
      rcases hc with rfl|hc
      · exact hbe
      · rintro rfl
        rcases he with z|z
        · exact YF c b hc z
        · rw[hc]at z;cases z;exact hb rfl
end
structure Un(fs ex:List Addr)(H H':Hp)(h h':Heap):Prop where
  keep:∀ b o,h.get? b=some o→H b=none→b∉fs→b∉ex→h'.get? b=some o
  slot:∀ b o,h.get? b=some o→H b=none→b∈fs→b∉ex→∃ sl,h'.get? b=some {o with slots:=sl}
  free:∀ b o,h.get? b=some o→H b=none→b∉ex→H' b=none
  there:∀ b o,h.get? b=some o→b∉ex→∃ o',h'.get? b=some o'
  HC:∀ b xs,H b=some (.tup xs)→H' b=some (.tup xs)
  FV:∀ b o u,H b=some (.frz o u)→H' b=some (.frz o u)
  HD:∀ b ps,H b=some (.tbl ps)→∃ more,H' b=some (.tbl (ps++more))
section
variable{fs fs' ex ex':List Addr}{H H1 H2:Hp}{h h1 h2 h':Heap}{a x e:Addr}{o:HO}
theorem Un.any(u:Un fs ex H H1 h h1){b:Addr}{ob:Obj}(q:h.get? b=some ob)(n:H b=none)(hx:b∉ex):∃ sl,h1.get? b=some {ob with slots:=sl}:=by
  by_cases hb:b∈fs
  · exact u.slot b ob q n hb hx
  · exact⟨ob.slots,u.keep b ob q n hb hx⟩
theorem Un.kept(k:∀ b u,h.get? b=some u→h'.get? b=some u):Un fs ex H H h h' :=
  ⟨λb ob q _ _ _=>k b ob q,λb ob q _ _ _=>⟨ob.slots,k b ob q⟩,λ_ _ _ n _=>n,λb ob q _=>⟨ob,k b ob q⟩,λ_ _ q=>q,λ_ _ _ q=>q,λ_ ps q=>⟨#[],by rw[q];simp⟩⟩
theorem Un.refl:Un fs ex H H h h:=Un.kept λ_ _ q=>q
theorem Un.laid(k:∀ b u,h.get? b=some u→h'.get? b=some u)(hp:h.objs.size≤a)(hn:H a=none):Un fs ex H (upd H a o) h h' where
  keep:=λb u q _ _ _=>k b u q
  slot:=λb u q _ _ _=>⟨u.slots,k b u q⟩
  free:=λb u q n _=>by rw[af (ajl (ajn (ajg q) hp))];exact n
  there:=λb u q _=>⟨u,k b u q⟩
  HC:=λb xs q=>by rw[af (aq q hn)];exact q
  FV:=λb u xs q=>by rw[af (aq q hn)];exact q
  HD:=λb ps q=>⟨#[],by rw[af (aq q hn),q];simp⟩
theorem Un.write(mu:Mut (H x))(he:e=x∨H e=some (.own x))(k:∀ b u,b≠e→h.get? b=some u→h'.get? b=some u)(heo:∃ u,h'.get? e=some u):Un fs ex H (upd H x o) h h':=by
  have hx:∀ b,H b=none→b≠x:=λb n z=>by subst z;rw[n]at mu;exact mu
  have hb:∀ b,H b=none→b≠e:=λb n z=>by
    subst z;rcases he with r|r
    · exact hx b n r
    · rw[n]at r;cases r
  have hm:∀ b u,H b=some u→¬Mut (some u)→b≠x:=λb u q nm z=>by subst z;rw[q]at mu;exact nm mu
  refine⟨λb u q n _ _=>k b u (hb b n) q,λb u q n _ _=>⟨u.slots,k b u (hb b n) q⟩,λb u q n _=>by rw[af (hx b n)];exact n,λb u q _=>?_,
    λb xs q=>by rw[af (hm b _ q λz=>z)];exact q,λb u xs q=>by rw[af (hm b _ q λz=>z)];exact q,λb ps q=>⟨#[],by rw[af (hm b _ q λz=>z),q];simp⟩⟩
  by_cases hbe:b=e
  · subst hbe;exact heo
  · exact⟨u,k b u hbe q⟩
end
noncomputable def trk(h:Heap)(H:Hp):List Addr:=(List.range h.objs.size).filter λa=>(H a).isSome
noncomputable def MT(h:Heap)(H:Hp):Heap:=PySem.W.hideAll h (trk h H)
theorem Pa(h:Heap)(H:Hp):(MT h H).objs.size=h.objs.size:=PySem.W.hideAll_size _ _
theorem QE{h:Heap}{H:Hp}{b:Addr}{o:Obj}(e:h.get? b=some o)(n:H b=none):(MT h H).get? b=some o :=
  PySem.W.hideAll_get _ e λhm=>by
    have q:(H b).isSome=true:=(ajP.mp hm).2;rw[n]at q;simp at q
theorem SE{h:Heap}{H:Hp}{b:Addr}{o:Obj}(e:(MT h H).get? b=some o):h.get? b=some o∧H b=none:=by
  have e':h.get? b=some o:=PySem.W.of_hideAll (trk h H) e;refine⟨e',?_⟩;cases q:H b with
  | none=>rfl
  | some x =>
    have hm:b∈trk h H:=ajP.mpr ⟨aki.mpr (ajg e'),by simp[q]⟩;have z:(MT h H).get? b=none:=PySem.W.hideAll_none (trk h H) hm;rw[z]at e;cases e
end L2
namespace L2
open PySem PySem.Spec PyProof.Rows
structure Mod(K:W.Frag)(mg:Str→Option Value)(base:Heap):Prop where
  kin:K.In base
  glob:base.Ns mainGlobals mg
  blt:∃ mb,base.Ns builtinsNs mb∧∀ x:Str,x ≠ "__name__" → mb x=bootBuiltins x
  nolimit:base.NoLimit
structure Cx where
  prog:Program
  w:World
  K:W.Frag
  mg:Str→Option Value
  base:Heap
  A:Around
  N:List Str
  s₀:Shared
  H₀:Hp
  env:Env
  outer:List Env
  stack:List Env
  ex:List Addr
  fn:Str→Bool
  calm:Bool
  pn:List (Addr×Obj)
  xe:Value→Shared→Prop
noncomputable def frs(l:List Env):List Addr:=l.filterMap (·.frame)
noncomputable abbrev Cx.fs(X:Cx):List Addr:=frs X.outer
noncomputable def Vis(sc:Scope)(x:Str):Prop:=sc.names.lookup x=some .local∨sc.names.lookup x=some .cell∨sc.names.lookup x=some .free
noncomputable def Loc(sc:Scope)(x:Str):Prop:=sc.names.lookup x=some .local∨sc.names.lookup x=some .cell
noncomputable def Look(env:Env)(h:Heap)(m:Str→Option Value)(x:Str)(u:Value):Prop :=
  (env.kindOf x=some .local∧m x=some u)∨((env.kindOf x=some .cell∨env.kindOf x=some .free)∧∃ c,env.cells.lookup x=some c∧h.IsCell c (some u))
structure Cx.Ok(X:Cx):Prop where
  mod:Mod X.K X.mg X.base
  kind:X.env.scope.kind=.function
  glob:X.env.globals=mainGlobals
  blt:X.env.builtins=builtinsNs
  above:X.s₀.heap.objs.size≤X.env.locals
  inj:∀ x y c,X.env.cells.lookup x=some c→X.env.cells.lookup y=some c→x=y
  has:∀ x,(X.env.kindOf x=some .cell∨X.env.kindOf x=some .free)→∃ c,X.env.cells.lookup x=some c
  cab:∀ x c,X.fn x=true→X.env.cells.lookup x=some c→X.s₀.heap.objs.size≤c
  hd:X.calm=true→X.A.handled=none
  frames:X.A.frames=some X.stack
  stk:X.stack=X.outer∨(X.stack=X.env::X.outer∧X.env.frame=some X.env.locals)
  exf:∀ b∈X.ex,b≠X.env.locals∧∀ x c,X.env.cells.lookup x=some c→c≠b
  bs:∀ b o,X.base.get? b=some o→X.s₀.heap.get? b=some o∧X.H₀ b=none
  bsz:X.base.objs.size≤X.s₀.heap.objs.size
  Oi:∀ b o,X.base.get? b=some o→b∉X.ex
  Qq:∀ b∈X.ex,b∉X.fs
  D3:X.s₀.heap.FunFrames X.base X.outer
  frf:∀ b∈X.fs,X.H₀ b=none
structure Inv(X:Cx)(pins:List (Addr×Obj))(σ:List (Option V))(H:Hp)(s:Shared):Prop where
  ok:X.Ok
  os:s.os=X.s₀.os
  bare:AllBare s.gens
  base:Un X.fs X.ex X.H₀ H X.s₀.heap s.heap
  loc:∃ m,s.heap.Ns X.env.locals m∧∀(i:Nat) (x:Str) (v:V),X.N[i]?=some x→σ[i]?=some (some v)→Vis X.env.scope x→∃ u,RelV v u∧Look X.env s.heap m x u
  cell:∀ x c,X.env.cells.lookup x=some c→∃ v,s.heap.IsCell c v
  free:H X.env.locals=none
  qg:∀ x c,X.env.cells.lookup x=some c→H c=none
  pin:∀ p∈X.pn++pins,s.heap.get? p.1=some p.2∧H p.1=none∧p.1≠X.env.locals∧p.1∉X.fs∧∀ v,p.2.data≠.cell v
  hok:HOk X.prog X.w H s.heap
  len:σ.length=X.N.length
section
variable{X:Cx}{pins:List (Addr×Obj)}{σ:List (Option V)}{H H':Hp}{s:Shared}{h':Heap}
theorem Cx.Ok.aeN(ok:X.Ok){b:Addr}{o:Obj}(e:X.base.get? b=some o):b∉X.fs:=λhb=>by
  have:=(ok.D3.mem hb).1
  rw[e]at this;cases this
theorem Inv.bs(I:Inv X pins σ H s):∀ b o,X.base.get? b=some o→s.heap.get? b=some o∧H b=none:=λb o e =>
  ⟨I.base.keep b o (I.ok.bs b o e).1 (I.ok.bs b o e).2 (I.ok.aeN e) (I.ok.Oi b o e),I.base.free b o (I.ok.bs b o e).1 (I.ok.bs b o e).2 (I.ok.Oi b o e)⟩
theorem Inv.bk(I:Inv X pins σ H s):∀ b o,X.base.get? b=some o→s.heap.get? b=some o:=λb o e=>(I.bs b o e).1
theorem Inv.mod(I:Inv X pins σ H s):Mod X.K X.mg X.base:=I.ok.mod
theorem Inv.kIn(I:Inv X pins σ H s):X.K.In s.heap:=I.ok.mod.kin.keeps I.bk
theorem Inv.lt(I:Inv X pins σ H s):X.env.locals<s.heap.objs.size:=let ⟨_,hn,_⟩:=I.loc;hn.lt
theorem Inv.sz(I:Inv X pins σ H s):X.s₀.heap.objs.size≤s.heap.objs.size:=ajy I.ok.above (akO I.lt)
theorem Inv.aeO(I:Inv X pins σ H s){a:Addr}(h:s.heap.objs.size≤a):a∉X.fs:=λhb=>by
  obtain⟨_,o,ho,_⟩:=I.ok.D3.mem hb;exact absurd (ajn (ajg ho) (ajy I.sz h)) (ake _)
theorem Inv.cne(I:Inv X pins σ H s):∀ x c,X.env.cells.lookup x=some c→c≠X.env.locals:=λx c e z=>by
  obtain⟨v,o,ho,hd⟩:=I.cell x c e;obtain⟨m,⟨o',es,ep,ho',hd',_⟩,_⟩:=I.loc;rw[z,ho']at ho;cases ho;rw[hd']at hd;cases hd
theorem Inv.D3(I:Inv X pins σ H s):s.heap.FunFrames X.base X.outer:=by
  have all:∀(l:List Env),(∀ b∈frs l,b∈X.fs)→X.s₀.heap.FunFrames X.base l→s.heap.FunFrames X.base l:=by
    intro l;induction l with
    | nil=>intro _ _;trivial
    | cons env r ih =>
      intro hs hl;obtain⟨hk,⟨L,o,hf,hn,ho,hd⟩,hr⟩:=hl;have hL:L∈X.fs:=hs L (by unfold frs;rw[List.filterMap_cons,hf];exact ajt);obtain⟨sl,e⟩:=I.base.slot L o ho (I.ok.frf L hL) hL λz=>I.ok.Qq L z hL;exact⟨hk,⟨L,_,hf,hn,e,hd⟩,ih (λb hb=>hs b (by unfold frs;rw[List.filterMap_cons,hf];exact ajv _ hb)) hr⟩
  exact all X.outer (λ_ hb=>hb) I.ok.D3
theorem Inv.stack(I:Inv X pins σ H s):s.heap.FunFrames X.base X.stack:=by
  rcases I.ok.stk with e|⟨e,hf⟩
  · rw[e];exact I.D3
  · rw[e]
    obtain⟨m,hn,_⟩:=I.loc;refine .cons (by rw[I.ok.kind];decide) hf hn ?_ I.D3;exact Heap.get?_none_of_le (ajy I.ok.bsz I.ok.above)
theorem Inv.AV(I:Inv X pins σ H s):∀ b∈frs X.stack,b∈X.env.locals::X.fs:=λb hb=>by
  rcases I.ok.stk with e|⟨e,hf⟩
  · rw[e]at hb;exact ajv _ hb
  · rw[e]at hb
    unfold frs at hb;rw[List.filterMap_cons,hf]at hb;exact hb
theorem Inv.Bg(I:Inv X pins σ H s):∀ b∈frs X.stack,H b=none:=λb hb=>by
  rcases ajo.mp (I.AV b hb) with e|hb
  · rw[e];exact I.free
  · obtain⟨_,o,ho,_⟩:=I.ok.D3.mem hb
    exact I.base.free b o ho (I.ok.frf b hb) λz=>I.ok.Qq b z hb
theorem Inv.step{g':Array GenState}{t':Nat}{d':Drawn}{ch:List Addr}(I:Inv X pins σ H s)
    (hch:∀ b∈ch,(b∈X.ex∨X.s₀.heap.objs.size≤b)∧b≠X.env.locals∧(∀ x c,X.env.cells.lookup x=some c→c≠b)∧∀ p∈X.pn++pins,p.1≠b)
    (keep:∀ b o,b≠X.env.locals→b∉X.fs→b∉ch→s.heap.get? b=some o→H b=none→h'.get? b=some o)
    (slot:∀ b o,b≠X.env.locals→b∈X.fs→b∉ch→s.heap.get? b=some o→H b=none→∃ sl,h'.get? b=some {o with slots:=sl}) (free:∀ b o,b∉ch→s.heap.get? b=some o→H b=none→H' b=none)
    (there:∀ b o,b∉ch→s.heap.get? b=some o→∃ o',h'.get? b=some o')
    (HC:∀ b xs,H b=some (.tup xs)→H' b=some (.tup xs)) (FV:∀ b o u,H b=some (.frz o u)→H' b=some (.frz o u)) (HD:∀ b ps,H b=some (.tbl ps)→∃ more,H' b=some (.tbl (ps++more)))
    (ns:∀ m,s.heap.Ns X.env.locals m→h'.Ns X.env.locals m) (hok:HOk X.prog X.w H' h') (hg:AllBare g') :
    Inv X pins σ H' {s with heap:=h',gens:=g',drawn:=d',toks:=t'}:=by
  have neL:∀ b o,X.s₀.heap.get? b=some o→b≠X.env.locals:=λb o e=>ajl (ajn (ajg e) I.ok.above);have neC:∀ b o,X.s₀.heap.get? b=some o→b∉X.ex→b∉ch:=λb o e hx hb=>by
    rcases(hch b hb).1 with z|z
    · exact hx z
    · exact absurd (ajn (ajg e) z) (ake _)
  have cellK:∀ x c,X.env.cells.lookup x=some c→∀ v,s.heap.IsCell c v→h'.IsCell c v:=λx c e v ⟨o,ho,hd⟩=>by
    have nch:c∉ch:=λz=>(hch c z).2.2.1 x c e rfl;by_cases hc:c∈X.fs
    · obtain⟨sl,q⟩:=slot c o (I.cne x c e) hc nch ho (I.qg x c e)
      exact⟨_,q,hd⟩
    · exact⟨o,keep c o (I.cne x c e) hc nch ho (I.qg x c e),hd⟩
  refine⟨I.ok,I.os,hg,⟨λb o e n hb hx=>?_,λb o e n hb hx=>?_,λb o e n hx=>?_,λb o e hx=>?_,λb xs e=>HC b xs (I.base.HC b xs e),λb o xs e=>FV b o xs (I.base.FV b o xs e),λb ps e=>?_⟩,?_,λx c e=>?_,?_,λx c e=>?_,λp hp=>?_,hok,I.len⟩
  · exact keep b o (neL b o e) hb (neC b o e hx) (I.base.keep b o e n hb hx) (I.base.free b o e n hx)
  · obtain⟨sl,e1⟩:=I.base.slot b o e n hb hx
    obtain⟨sl',e2⟩:=slot b _ (neL b o e) hb (neC b o e hx) e1 (I.base.free b o e n hx);exact⟨sl',e2⟩
  · obtain⟨o',e1⟩:=I.base.there b o e hx
    exact free b o' (neC b o e hx) e1 (I.base.free b o e n hx)
  · obtain⟨o',e1⟩:=I.base.there b o e hx
    exact there b o' (neC b o e hx) e1
  · obtain⟨m1,e1⟩:=I.base.HD b ps e
    obtain⟨m2,e2⟩:=HD b _ e1;exact⟨m1++m2,by rw[e2,Array.append_assoc]⟩
  · obtain⟨m,hn,hl⟩:=I.loc
    refine⟨m,ns m hn,λi x v e1 e2 e3=>?_⟩;obtain⟨u,r,l⟩:=hl i x v e1 e2 e3;refine⟨u,r,?_⟩;rcases l with l|⟨k,c,e,z⟩
    · exact .inl l
    · exact .inr ⟨k,c,e,cellK x c e _ z⟩
  · obtain⟨v,z⟩:=I.cell x c e
    exact⟨v,cellK x c e v z⟩
  · obtain⟨m,⟨o,_,_,ho,_⟩,_⟩:=I.loc
    exact free _ o (λz=>(hch _ z).2.1 rfl) ho I.free
  · obtain⟨v,o,ho,hd⟩:=I.cell x c e
    exact free c o (λz=>(hch c z).2.2.1 x c e rfl) ho (I.qg x c e)
  · obtain⟨e,n,ne,nf,d⟩:=I.pin p hp
    have nch:p.1∉ch:=λz=>(hch p.1 z).2.2.2 p hp rfl;exact⟨keep p.1 p.2 ne nf nch e n,free p.1 p.2 nch e n,ne,nf,d⟩
theorem Inv.un{t':Nat}(I:Inv X pins σ H s)(u:Un X.fs [] H H' s.heap h')(hok:HOk X.prog X.w H' h'):Inv X pins σ H' {s with heap:=h',toks:=t'}:=by
  obtain⟨m,⟨o,es,ep,ho,r⟩,_⟩:=id I.loc;obtain⟨sl,hL⟩:=u.any ho I.free (by simp);exact I.step (g':=s.gens) (d':=s.drawn) (ch:=[]) (λ_ z=>nomatch z) (λb o _ hb _ e n=>u.keep b o e n hb (by simp)) (λb o _ hb _ e n=>u.slot b o e n hb (by simp)) (λb o _ e n=>u.free b o e n (by simp)) (λb o _ e=>u.there b o e (by simp)) u.HC u.FV u.HD (λm' hm=>by
    obtain⟨o',es',ep',ho',r'⟩:=hm;rw[ho]at ho';cases ho';exact⟨_,es',ep',hL,r'⟩) hok I.bare
theorem Inv.call{g':Array GenState}{t':Nat}{d':Drawn}{ch:List Addr}(I:Inv X pins σ H s)(u:Un (frs X.stack) ch H H' s.heap h')(hok:HOk X.prog X.w H' h')(hg:AllBare g')
    (hch:∀ b∈ch,(b∈X.ex∨X.s₀.heap.objs.size≤b)∧b≠X.env.locals∧(∀ x c,X.env.cells.lookup x=some c→c≠b)∧∀ p∈X.pn++pins,p.1≠b) :
    Inv X pins σ H' {s with heap:=h',gens:=g',drawn:=d',toks:=t'}:=by
  obtain⟨m,⟨o,es,ep,ho,r⟩,_⟩:=id I.loc;obtain⟨sl,hL⟩:=u.any ho I.free λz=>(hch _ z).2.1 rfl;exact I.step (ch:=ch) hch (λb o hL hb hc e n=>u.keep b o e n (λz=>(ajo.mp (I.AV b z)).elim hL hb) hc) (λb o _ _ hc e n=>u.any e n hc) (λb o hc e n=>u.free b o e n hc) (λb o hc e=>u.there b o e hc) u.HC u.FV u.HD (λm' hm=>by
    obtain⟨o',es',ep',ho',r'⟩:=hm;rw[ho]at ho';cases ho';exact⟨_,es',ep',hL,r'⟩) hok hg
theorem Inv.turned{t':Nat}{it:Addr}(I:Inv X pins σ H s)(k:∀ b o,b≠it→s.heap.get? b=some o→h'.get? b=some o)(hn:H it=none)(hL:it≠X.env.locals)
    (h1:it∈X.ex∨X.s₀.heap.objs.size≤it) (h2:∀ x c,X.env.cells.lookup x=some c→c≠it) (h3:∀ p∈X.pn++pins,p.1≠it):Inv X pins σ H {s with heap:=h',toks:=t'}:=by
  have nit:∀ b u,H b=some u→b≠it:=λb u e z=>by rw[z,hn]at e;cases e
  refine I.step (g':=s.gens) (d':=s.drawn) (ch:=[it]) (λb hb=>?_) (λb o _ _ hc e _=>k b o (λz=>hc (by simp[z])) e) (λb o _ _ hc e _=>⟨o.slots,k b o (λz=>hc (by simp[z])) e⟩) (λ_ _ _ _ n=>n)
    (λb o hc e=>⟨o,k b o (λz=>hc (by simp[z])) e⟩) (λ_ _ e=>e) (λ_ _ _ e=>e) (λb ps e=>⟨#[],by rw[e];simp⟩) (λm hm=>?_) (λb u e=>?_) I.bare
  · have e:b=it:=by simpa using hb
    subst e;exact⟨h1,hL,h2,h3⟩
  · obtain⟨o,es,ep,ho,r⟩:=hm
    exact⟨o,es,ep,k _ o (ajm hL) ho,r⟩
  · refine(I.hok b u e).LS (λc v hc q=>k c v ?_ q) (λ_ q=>q) λ_ _ q=>q
    rcases hc with z|z
    · rw[z];exact nit b u e
    · exact nit c _ z
theorem Inv.tok(I:Inv X pins σ H s)(t:Nat):Inv X pins σ H {s with toks:=t}:=I.un (h':=s.heap) (t':=t) Un.refl I.hok
theorem Inv.kept{t':Nat}(I:Inv X pins σ H s)(k:∀ b u,s.heap.get? b=some u→h'.get? b=some u):Inv X pins σ H {s with heap:=h',toks:=t'}:=I.un (Un.kept k) (I.hok.kept k)
theorem Inv.laid{a:Addr}{o:HO}{t':Nat}(I:Inv X pins σ H s)(k:∀ b u,s.heap.get? b=some u→h'.get? b=some u)(hp:s.heap.objs.size≤a)(new:iJ X.prog X.w (upd H a o) h' a o) :
    Inv X pins σ (upd H a o) {s with heap:=h',toks:=t'}:=I.un (Un.laid k hp (I.hok.fresh hp)) (I.hok.laid k hp new)
theorem Inv.write{x e:Addr}{o:HO}{t':Nat}(I:Inv X pins σ H s)(mu:Mut (H x))(he:e=x∨H e=some (.own x))(k:∀ b u,b≠e→s.heap.get? b=some u→h'.get? b=some u)(heo:∃ u,h'.get? e=some u)
    (new:iJ X.prog X.w (upd H x o) h' x o):Inv X pins σ (upd H x o) {s with heap:=h',toks:=t'}:=I.un (Un.write mu he k heo) (I.hok.write mu he k heo new)
theorem Inv.Oj{MU:List (Addr×Obj)}(I:Inv X pins σ H s)(h:∀ p∈MU,s.heap.get? p.1=some p.2∧H p.1=none∧p.1≠X.env.locals∧p.1∉X.fs∧∀ v,p.2.data≠.cell v):Inv X MU σ H s :=
  ⟨I.ok,I.os,I.bare,I.base,I.loc,I.cell,I.free,I.qg,λp hp=>(ajs.mp hp).elim (λz=>I.pin p (ajD _ z)) (h p),I.hok,I.len⟩
theorem LU{N:List Str}(hN:N.Nodup){i j:Nat}{x:Str}(a:N[i]?=some x)(b:N[j]?=some x):i=j:=by
  obtain⟨h1,e1⟩:=ai6.mp a;obtain⟨h2,e2⟩:=ai6.mp b;exact(List.getElem_inj hN).mp (e1.trans e2.symm)
theorem Pb{M:Model}{A:Around}{E:Value→Shared→Prop}{i:Nat}{x:Str}{v:V}{u:Value}{Q:Unit→Shared→Prop}(I:Inv X pins σ H s)(hN:X.N.Nodup)(hi:X.N[i]?=some x)(hx:Loc X.env.scope x)(r:RelV v u)
    (h:∀ s',Inv X pins (σ.set i (some v)) H s'→(∃ a,Heap.SameBut a s.heap s'.heap∧(a=X.env.locals∨X.env.cells.lookup x=some a))→Q () s') (hf:X.fn x=true∨X.env.scope.names.lookup x=some .local:=by first|exact .inl rfl|exact .inr rfl|assumption):wpAny M A (storeName X.env x u) Q E s:=by
  obtain⟨m,hn,hl⟩:=id I.loc;have aeP:(X.env.scope.kind == .class||(X.env.scope.kind == .module&&X.env.locals != X.env.globals))=false:=by rw[I.ok.kind];rfl
  have hiσ:i<σ.length:=by rw[I.len];exact(ai6.mp hi).1
  have cne:=I.cne;have tracked:∀ {a:Addr} {h':Heap},(∃ o,s.heap.get? a=some o∧H a=none)→Heap.SameBut a s.heap h'→HOk X.prog X.w H h':=λ{a h'} ha hs b ob e=>by
    obtain⟨_,_,T7⟩:=ha;refine(I.hok b ob e).LS (λc w' hc q=>(hs.2 c ?_).trans q) (λ_ q=>q) λ_ _ q=>q;rintro rfl;rcases hc with rfl|hc
    · rw[T7]at e;cases e
    · rw[T7]at hc;cases hc
  rcases hx with hk|hk
  · refine wpAny_storeName_local hk hn (λh' hn' hs=>?_) aeP
    obtain⟨oL,_,_,hoL,_⟩:=id hn;refine h _ ⟨I.ok,I.os,I.bare,⟨λb o e n hb hx=>?_,λb o e n hb hx=>?_,I.base.free,λb o e hx=>?_,I.base.HC,I.base.FV,I.base.HD⟩,⟨_,hn',λj y v' e1 e2 e3=>?_⟩,λy c e=>?_,I.free,I.qg,λp hp=>?_,tracked ⟨oL,hoL,I.free⟩ hs,by simpa using I.len⟩ ⟨_,hs,.inl rfl⟩
    · exact(hs.2 b (ajl (ajn (ajg e) I.ok.above))).trans (I.base.keep b o e n hb hx)
    · obtain⟨sl,e1⟩:=I.base.slot b o e n hb hx
      exact⟨sl,(hs.2 b (ajl (ajn (ajg e) I.ok.above))).trans e1⟩
    · obtain⟨o',e1⟩:=I.base.there b o e hx
      exact⟨o',(hs.2 b (ajl (ajn (ajg e) I.ok.above))).trans e1⟩
    · by_cases hj:j=i
      · subst hj
        rw[hi]at e1;cases e1;rw[ajY hiσ]at e2;cases e2;exact⟨u,r,.inl ⟨hk,by simp⟩⟩
      · rw[aj9 (ajm hj)]at e2
        obtain⟨u',r',q⟩:=hl j y v' e1 e2 e3;refine⟨u',r',?_⟩;rcases q with⟨k,e⟩|⟨k,c,e,z⟩
        · refine .inl ⟨k,?_⟩
          have:y≠x:=λe=>hj (LU hN e1 (e ▸ hi))
          simp[this,e]
        · exact .inr ⟨k,c,e,z.sameBut hs (cne y c e)⟩
    · obtain⟨w',z⟩:=I.cell y c e
      exact⟨w',z.sameBut hs (cne y c e)⟩
    · obtain⟨e,n,ne,nf,d⟩:=I.pin p hp
      exact⟨(hs.2 p.1 ne).trans e,n,ne,nf,d⟩
  · have hfn:X.fn x=true:=by
      rcases hf with z|z
      · exact z
      · rw[z]at hk;cases hk
    obtain⟨c,hc⟩:=I.ok.has x (.inl hk);obtain⟨w',z⟩:=I.cell x c hc;refine wpAny_storeName_cell I.ok.kind hk hc z (λh' hc' hs=>?_);obtain⟨oc,hoc,aeQ⟩:=id z;refine h {s with heap:=h'} ⟨I.ok,I.os,I.bare,⟨λb o e n hb hx=>?_,λb o e n hb hx=>?_,I.base.free,λb o e hx=>?_,I.base.HC,I.base.FV,I.base.HD⟩,⟨m,hn.sameBut hs (ajm (cne x c hc)),λj y v' e1 e2 e3=>?_⟩,λy c' e=>?_,I.free,I.qg,λp hp=>?_,tracked ⟨oc,hoc,I.qg x c hc⟩ hs,by simpa using I.len⟩ ⟨c,hs,.inr hc⟩
    · exact(hs.2 b (ajl (ajn (ajg e) (I.ok.cab x c hfn hc)))).trans (I.base.keep b o e n hb hx)
    · obtain⟨sl,e1⟩:=I.base.slot b o e n hb hx
      exact⟨sl,(hs.2 b (ajl (ajn (ajg e) (I.ok.cab x c hfn hc)))).trans e1⟩
    · obtain⟨o',e1⟩:=I.base.there b o e hx
      exact⟨o',(hs.2 b (ajl (ajn (ajg e) (I.ok.cab x c hfn hc)))).trans e1⟩
    · by_cases hj:j=i
      · subst hj
        rw[hi]at e1;cases e1;rw[ajY hiσ]at e2;cases e2;exact⟨u,r,.inr ⟨.inl hk,c,hc,hc'⟩⟩
      · rw[aj9 (ajm hj)]at e2
        obtain⟨u',r',q⟩:=hl j y v' e1 e2 e3;refine⟨u',r',?_⟩;rcases q with q|⟨k,c',e,z'⟩
        · exact .inl q
        · refine .inr ⟨k,c',e,z'.sameBut hs ?_⟩
          rintro rfl;exact hj (LU hN e1 (I.ok.inj _ _ _ e hc ▸ hi))
    · by_cases hcc:c'=c
      · subst hcc;exact⟨_,hc'⟩
      · obtain⟨w2,z2⟩:=I.cell y c' e
        exact⟨w2,z2.sameBut hs hcc⟩
    · obtain⟨e,n,ne,nf,d⟩:=I.pin p hp
      refine⟨(hs.2 p.1 ?_).trans e,n,ne,nf,d⟩;intro q;rw[q,hoc]at e;have q':oc=p.2:=ajx e;exact d w' (by rw[←q'];exact aeQ)
theorem FD{M:Model}{A:Around}{E:Value→Shared→Prop}{i:Nat}{x:Str}{v:V}{u:Value}{Q:Unit→Shared→Prop}(I:Inv X pins σ H s)(hN:X.N.Nodup)(hi:X.N[i]?=some x)(hx:Loc X.env.scope x)(r:RelV v u)
    (h:∀ s',Inv X pins (σ.set i (some v)) H s'→Q () s') (hf:X.fn x=true∨X.env.scope.names.lookup x=some .local:=by first|exact .inl rfl|exact .inr rfl|assumption):wpAny M A (storeName X.env x u) Q E s :=
  Pb I hN hi hx r (λs' I' _=>h s' I') hf
theorem Inv.Kj{s':Shared}{ch:List Addr}(I:Inv X pins σ H s)(ho:s'.os=s.os)(u:Un (frs X.stack) ch H H' s.heap s'.heap)(hok:HOk X.prog X.w H' s'.heap)(hg:AllBare s'.gens)
    (hch:∀ b∈ch,(b∈X.ex∨X.s₀.heap.objs.size≤b)∧b≠X.env.locals∧(∀ x c,X.env.cells.lookup x=some c→c≠b)∧∀ p∈X.pn++pins,p.1≠b):Inv X pins σ H' s':=by
  obtain⟨h',g',d',t',o'⟩:=s';have e:o'=s.os:=ho;subst e;exact I.call (g':=g') (t':=t') (d':=d') u hok hg hch
end
noncomputable abbrev XK:=Value→Option Addr→Hp→Prop
noncomputable abbrev St:=List (Option V)
noncomputable abbrev VK:=V→Hp→Prop
noncomputable abbrev TE:=St→Hp→VK→Prop
noncomputable abbrev TT:=St→Hp→(Bool→Hp→Prop)→Prop
noncomputable abbrev TA:=St→Hp→(List V→Hp→Prop)→Prop
structure Ends where
  nx:St→Hp→Prop
  rt:VK
  bk:St→Hp→Prop:=λ_ _=>False
  ct:St→Hp→Prop:=λ_ _=>False
noncomputable abbrev TS:=Ends→St→Hp→Prop
noncomputable def EP(X:Cx)(pins:List (Addr×Obj))(σ:St)(Q:VK)(u:Value)(s':Shared):Prop:=∃ v H',Inv X pins σ H' s'∧RelV v u∧Q v H'
noncomputable def TP(X:Cx)(pins:List (Addr×Obj))(σ:St)(Q:Bool→Hp→Prop)(b:Bool)(s':Shared):Prop:=∃ H',Inv X pins σ H' s'∧Q b H'
noncomputable def AP(X:Cx)(pins:List (Addr×Obj))(σ:St)(Q:List V→Hp→Prop)(us:List Value)(s':Shared):Prop:=∃ vs H',Inv X pins σ H' s'∧Vals vs us∧Q vs H'
noncomputable def SP(X:Cx)(pins:List (Addr×Obj))(D:Ends)(f:Flow)(s':Shared):Prop :=
  match f with
  | .next=>∃ σ' H',Inv X pins σ' H' s'∧D.nx σ' H'
  | .brk=>∃ σ' H',Inv X pins σ' H' s'∧D.bk σ' H'
  | .cont=>∃ σ' H',Inv X pins σ' H' s'∧D.ct σ' H'
  | .ret u=>∃ v σ' H',Inv X pins σ' H' s'∧RelV v u∧D.rt v H'
noncomputable def PE(X:Cx)(e:Expr)(t:TE):Prop :=
  ∀(pins:List (Addr×Obj)) (s:Shared) (σ:St) (H:Hp) (Q:VK),Inv X pins σ H s→t σ H Q→wpAny (model X.prog X.w) X.A (eval e X.env) (EP X pins σ Q) X.xe s
noncomputable def PT(X:Cx)(e:Expr)(t:TT):Prop :=
  ∀(pins:List (Addr×Obj)) (s:Shared) (σ:St) (H:Hp) (Q:Bool→Hp→Prop),Inv X pins σ H s→t σ H Q→wpAny (model X.prog X.w) X.A (isTrue e X.env (eval e X.env)) (TP X pins σ Q) X.xe s
noncomputable def PW(X:Cx)(e:Expr)(t:TT):Prop :=
  ∀(whole:Sem Value) (pins:List (Addr×Obj)) (s:Shared) (σ:St) (H:Hp) (Q:Bool→Hp→Prop),Inv X pins σ H s→t σ H Q→wpAny (model X.prog X.w) X.A (isTrue e X.env whole) (TP X pins σ Q) X.xe s
theorem PW.pt{X:Cx}{e:Expr}{t:TT}(h:PW X e t):PT X e t:=h _
noncomputable def PA(X:Cx)(es:List Expr)(t:TA):Prop :=
  ∀(pos:Pos) (pins:List (Addr×Obj)) (s:Shared) (σ:St) (H:Hp) (Q:List V→Hp→Prop),Inv X pins σ H s→t σ H Q→wpAny (model X.prog X.w) X.A (spliced (backTo pos (starEach es X.env))) (AP X pins σ Q) X.xe s
noncomputable def PS(X:Cx)(st:Stmt)(t:TS):Prop :=
  ∀(pins:List (Addr×Obj)) (s:Shared) (σ:St) (H:Hp) (D:Ends),Inv X pins σ H s→t D σ H→wpAny (model X.prog X.w) X.A (exec st X.env) (SP X pins D) X.xe s
noncomputable def PSs(X:Cx)(st:List Stmt)(t:TS):Prop :=
  ∀(pins:List (Addr×Obj)) (s:Shared) (σ:St) (H:Hp) (D:Ends),Inv X pins σ H s→t D σ H→wpAny (model X.prog X.w) X.A (execs st X.env) (SP X pins D) X.xe s
theorem thn{α:Type}{t:Sem α}{Q Q':α→Shared→Prop}{M:Model}{A:Around}{E:Value→Shared→Prop}{s:Shared}(h:wpAny M A t Q E s)(hQ:∀ a s,Q a s→Q' a s):wpAny M A t Q' E s:=wpAny_mono h hQ λ_ _ x=>x
end L2
namespace L2
open PySem PySem.Spec PyProof.Rows
section
variable{X:Cx}
noncomputable def YG(i:Nat):TE:=λσ H Q=>∃ v,σ[i]?=some (some v)∧Q v H
noncomputable def tC(v:V):TE:=λ_ H Q=>Q v H
theorem UP{i:Nat}{x:Str}{pos:Pos}(hN:X.N[i]?=some x)(hv:Vis X.env.scope x)(hd:(x == ("__debug__" : Str))=false:=by decide)(hcd:(x == ("__classdict__" : Str))=false:=by decide):PE X (.Name x pos) (YG i):=by
  intro pins s σ H Q I h;obtain⟨v,e,h⟩:=h;obtain⟨m,hn,hl⟩:=I.loc;obtain⟨u,r,l⟩:=hl i x v hN e hv;have fin:EP X pins σ Q u s:=⟨v,H,I,r,h⟩;rcases l with⟨hk,hm⟩|⟨hk,c,hc,Qg⟩
  · exact wpAny_Name (wpAny_loadName_local I.ok.kind hk hn hm fin) hd
  · rcases hk with hk|hk
    · exact wpAny_Name (wpAny_loadName_cell I.ok.kind hk hc Qg fin) hd
    · exact wpAny_Name (wpAny_loadName_free I.ok.kind hk hc Qg fin hcd) hd
theorem au{i j pos}:PE X (.Constant (.int i) j pos) (tC (.int i)):=λ_ _ _ H _ I h=>wpAny_Constant_int ⟨.int i,H,I.tok _,⟨_,rfl⟩,h⟩
theorem yi{b j pos}:PE X (.Constant (.bool b) j pos) (tC (.bl b)):=λ_ _ _ H _ I h=>Constant_bool ⟨.bl b,H,I,rfl,h⟩
theorem dY{j pos}:PE X (.Constant .none j pos) (tC .non):=λ_ _ _ H _ I h=>Constant_none ⟨.non,H,I,rfl,h⟩
theorem fg{x j pos}:PE X (.Constant (.str x) j pos) (tC (.str x)):=λ_ _ _ H _ I h=>Calls.Constant_str ⟨.str x,H,I.tok _,⟨_,rfl⟩,h⟩
noncomputable def Gl(X:Cx)(x:Str):Prop:=X.env.kindOf x=some .globalImplicit
theorem tT{E:Value→Shared→Prop}{pins:List (Addr×Obj)}{s:Shared}{σ:St}{H:Hp}{x:Str}{u:Value}{pos:Pos}{Q:Value→Shared→Prop}(I:Inv X pins σ H s)(hg:Gl X x)(hm:X.mg x=some u)(h:Q u s)
    (hd:(x == ("__debug__" : Str))=false:=by decide):wpAny (model X.prog X.w) X.A (eval (.Name x pos) X.env) Q E s :=
  akN I.ok.kind hg (Calls.loadGlobal_global (by rw[I.ok.glob];exact I.mod.glob.keeps I.bk) hm h) hd
theorem FW{E:Value→Shared→Prop}{pins:List (Addr×Obj)}{s:Shared}{σ:St}{H:Hp}{x:Str}{u:Value}{pos:Pos}{Q:Value→Shared→Prop}(I:Inv X pins σ H s)(hg:Gl X x)(hm:X.mg x=none)(hv:bootBuiltins x=some u)(h:Q u s)
    (hn:x ≠ "__name__" := by decide) (hd:(x == ("__debug__" : Str))=false:=by decide):wpAny (model X.prog X.w) X.A (eval (.Name x pos) X.env) Q E s:=by
  obtain⟨mb,h1,h2⟩:=I.mod.blt;exact akN I.ok.kind hg (Calls.loadGlobal_builtin (by rw[I.ok.glob];exact I.mod.glob.keeps I.bk) hm (by rw[I.ok.blt];exact h1.keeps I.bk) ((h2 x hn).trans hv) h) hd
theorem lN{x:Str}{v:V}{u:Value}{pos:Pos}(hg:Gl X x)(hm:X.mg x=some u)(r:RelV v u)(hd:(x == ("__debug__" : Str))=false:=by decide):PE X (.Name x pos) (tC v) :=
  λ_ _ _ H _ I h=>tT I hg hm ⟨v,H,I,r,h⟩ hd
variable{a b:Expr}{ta tb:TE}{pos:Pos}
noncomputable def PC(X:Cx)(op:CmpOp)(a b:Expr)(t:TE):Prop :=
  ∀(pins:List (Addr×Obj)) (s:Shared) (σ:St) (H:Hp) (Q:VK),Inv X pins σ H s→t σ H Q →
    wpAny (model X.prog X.w) X.A (eval a X.env) (λv s₁=>wpAny (model X.prog X.w) X.A (eval b X.env) (λu s₂=>wpAny (model X.prog X.w) X.A (compareOp op v u) (EP X pins σ Q) X.xe s₂) X.xe s₁) X.xe s
noncomputable def tB(t:TE):TT:=λσ H Q=>t σ H λx H1=>∃ c,x=.bl c∧Q c H1
theorem rT{op:CmpOp}{t:TE}(h:PC X op a b t)(h1:behindInMarks op b=false:=by first|exact nobehind _ (by decide) (by decide)|rfl):PT X (.Compare a [op] [b] pos) (tB t):=by
  intro pins s σ H Q I hw;refine wpAny_isTrue_Compare1 (thn (h pins s σ H _ I hw) λv s1 h1=>thn h1 λu s2 h2=>thn h2 λc s3 ⟨x,H1,I1,r1,q1⟩=>?_) h1;obtain⟨d,rfl,q⟩:=q1;cases r1;exact wpAny_truthy_bool ⟨H1,I1,q⟩
theorem AW{e:Expr}{t:TE}(h:PE X e t)(he:∀ whole,isTrue e X.env whole=(do let v ←whole;standAt e.pos;holding [v] (truthy v)):=by intro _;rfl):PT X e (tB t):=by
  intro pins s σ H Q I hw;refine isTrue_plain (thn (h pins s σ H _ I hw) λv s1 ⟨x,H1,I1,r1,q1⟩=>?_) (he _);obtain⟨d,rfl,q⟩:=q1;cases r1;exact wpAny_truthy_bool ⟨H1,I1,q⟩
variable{tA tB':TT}{rest:List Expr}
noncomputable def aeR(t u:TT):TT:=λσ H Q=>t σ H λc H1=>if c=true then u σ H1 Q else Q false H1
noncomputable def tOr(t u:TT):TT:=λσ H Q=>t σ H λc H1=>if c=true then Q true H1 else u σ H1 Q
noncomputable def aeS(t:TT):TT:=λσ H Q=>t σ H λc H1=>Q (!c) H1
theorem pw_and1(ha:PT X a tA):PW X (.BoolOp .And [a] pos) tA:=by
  intro wh pins s σ H Q I h;refine isTrue_and (thn (ha pins s σ H Q I h) λc s1 e=>?_);cases c with
  | true=>exact isTrue_and_nil e
  | false=>exact e
theorem pw_or1(ha:PT X a tA):PW X (.BoolOp .Or [a] pos) tA:=by
  intro wh pins s σ H Q I h;refine isTrue_or (thn (ha pins s σ H Q I h) λc s1 e=>?_);cases c with
  | false=>exact isTrue_or_nil e
  | true=>exact e
theorem pw_and(ha:PT X a tA)(hb:PW X (.BoolOp .And (b::rest) pos) tB'):PW X (.BoolOp .And (a::b::rest) pos) (aeR tA tB'):=by
  intro wh pins s σ H Q I h;refine isTrue_and (thn (ha pins s σ H _ I h) λc s1 ⟨H1,I1,q1⟩=>?_);cases c with
  | true=>exact hb wh pins s1 σ H1 Q I1 q1
  | false=>exact⟨H1,I1,q1⟩
theorem pw_or(ha:PT X a tA)(hb:PW X (.BoolOp .Or (b::rest) pos) tB'):PW X (.BoolOp .Or (a::b::rest) pos) (tOr tA tB'):=by
  intro wh pins s σ H Q I h;refine isTrue_or (thn (ha pins s σ H _ I h) λc s1 ⟨H1,I1,q1⟩=>?_);cases c with
  | true=>exact⟨H1,I1,q1⟩
  | false=>exact hb wh pins s1 σ H1 Q I1 q1
theorem qv(ha:PT X a tA):PT X (.UnaryOp .Not a pos) (aeS tA):=by
  intro pins s σ H Q I h;exact isTrue_not (ha pins s σ H (λc H1=>Q (!c) H1) I h)
noncomputable def XB(ta tb:TE):TE:=λσ H Q=>ta σ H λx H1=>∃ c,x=.bl c∧if c=true then tb σ H1 Q else Q (.bl false) H1
theorem UQ{op}{t:TE}(h:PE X a t):PE X (.BoolOp op [a] pos) t:=λpins s σ H Q I hw=>BoolOp_one (h pins s σ H Q I hw)
theorem UR(ha:PE X a ta)(hb:PE X (.BoolOp .And (b::rest) pos) tb):PE X (.BoolOp .And (a::b::rest) pos) (XB ta tb):=by
  intro pins s σ H Q I h;refine BoolOp_and (thn (ha pins s σ H _ I h) λv s1 ⟨x,H1,I1,r1,q1⟩=>?_);obtain⟨c,rfl,q1⟩:=q1;cases r1;refine wpAny_truthy_bool ?_;cases c with
  | true=>exact hb pins s1 σ H1 Q I1 q1
  | false=>exact⟨.bl false,H1,I1,rfl,q1⟩
noncomputable def tIf(t:TT)(ta tb:TE):TE:=λσ H Q=>t σ H λc H1=>if c=true then ta σ H1 Q else tb σ H1 Q
theorem pJ{c:Expr}(hc:PT X c tA)(ha:PE X a ta)(hb:PE X b tb):PE X (.IfExp c a b pos) (tIf tA ta tb):=by
  intro pins s σ H Q I h;refine wpAny_IfExp (thn (hc pins s σ H _ I h) λd s1 ⟨H1,I1,q1⟩=>?_);cases d with
  | true=>exact ha pins s1 σ H1 Q I1 q1
  | false=>exact hb pins s1 σ H1 Q I1 q1
end
end L2
namespace L2
open PySem PySem.Spec PyProof.Rows
noncomputable def SqL(K:W.Frag)(H:Hp)(a:Addr)(xs:List V):Prop :=
  Rd H a (.lst xs) ∨
    ∃(o:Obj) (its:Array Value) (n:Nat),K.lookup a=some o∧o.cls=.type "list" ∧ o.dict=none∧o.data=.seq its n∧its.size≤sizeLine∧Vals xs its.toList
noncomputable def SqT(K:W.Frag)(H:Hp)(a:Addr)(xs:List V):Prop :=
  Rd H a (.tup xs) ∨
    ∃(o:Obj) (its:Array Value) (n:Nat),K.lookup a=some o∧o.cls=.type "tuple" ∧ o.data=.seq its n∧its.size≤sizeLine∧Vals xs its.toList
noncomputable def aeT:Value→Option V
  | .none=>some .non
  | .bool b=>some (.bl b)
  | .int i _=>some (.int i)
  | .str x _=>some (.str x)
  | .bytes b _=>some (.byt b)
  | .float b _=>some (.flt b)
  | .ref a=>some (.ref a)
  | .type n=>some (.ty n)
  | _=>none
theorem RelV.abs{x:V}{u:Value}(r:RelV x u):aeT u=some x:=by
  cases x with
  | non=>cases r;rfl
  | bl _=>cases r;rfl
  | int _=>obtain⟨t,rfl⟩:=r;rfl
  | str _=>obtain⟨t,rfl⟩:=r;rfl
  | byt _=>obtain⟨t,rfl⟩:=r;rfl
  | flt _=>obtain⟨t,rfl⟩:=r;rfl
  | ref _=>cases r;rfl
  | ty _=>cases r;rfl
theorem RelV.inj{x y:V}{u:Value}(r:RelV x u)(q:RelV y u):x=y:=ajx (r.abs.symm.trans q.abs)
theorem Vals.inj:∀ {xs ys:List V} {us:List Value},Vals xs us→Vals ys us→xs=ys
  | _,_,_,.nil,.nil=>rfl
  | _,_,_,.cons r t,.cons r' t'=>by rw[r.inj r',Vals.inj t t']
section
variable{X:Cx}{pins:List (Addr×Obj)}{σ:St}{H:Hp}{s:Shared}{a:Addr}{xs ys:List V}
theorem SqL.of{K:W.Frag}(h:H a=some (.lst xs)):SqL K H a xs:=.inl (.inl h)
theorem SqT.of{K:W.Frag}(h:H a=some (.tup xs)):SqT K H a xs:=.inl (.inl h)
theorem Inv.list(I:Inv X pins σ H s)(h:SqL X.K H a xs):∃ its:List Value,Vals xs its∧PlainL s.heap a its.toArray∧xs.length≤sizeLine:=by
  rcases h with h|⟨o,its,n,hk,hc,hd,hs,hz,r⟩
  · obtain⟨z,its,n,r,e⟩:=h.ok I.hok
    exact⟨its,r,⟨_,n,e,rfl,rfl,rfl⟩,z⟩
  · refine⟨its.toList,r,⟨o,n,I.kIn a o hk,hc,hd,by simpa using hs⟩,?_⟩
    have e:=r.length;simp only[akM]at e;omega
theorem Inv.tuple(I:Inv X pins σ H s)(h:SqT X.K H a xs):∃ its:List Value,Vals xs its∧IsTup s.heap a its.toArray∧xs.length≤sizeLine:=by
  rcases h with h|⟨o,its,n,hk,hc,hs,hz,r⟩
  · obtain⟨z,its,r,p⟩:=h.ok I.hok
    exact⟨its,r,p,z⟩
  · refine⟨its.toList,r,⟨o,I.kIn a o hk,hc,n,by simpa using hs⟩,?_⟩
    have e:=r.length;simp only[akM]at e;omega
theorem Inv.LV(I:Inv X pins σ H s)(h:SqL X.K H a xs)(h':SqL X.K H a ys):xs=ys:=by
  obtain⟨its,r,⟨o,n,e,_,_,d⟩,_⟩:=I.list h;obtain⟨FY,r',⟨o',n',e',_,_,d'⟩,_⟩:=I.list h';rw[e]at e';cases e';rw[d]at d';injection d' with d1 _
  have:its=FY:=by simpa using congrArg Array.toList d1
  subst this;exact r.inj r'
end
noncomputable abbrev Cx.FZ(X:Cx)(E:Value→Shared→Prop):Cx:={X with xe:=E}
noncomputable abbrev Cx.nox(X:Cx):Cx:=X.FZ λ_ _=>False
theorem Cx.Ok.FZ{X:Cx}(ok:X.Ok)(E:Value→Shared→Prop):(X.FZ E).Ok :=
  ⟨ok.mod,ok.kind,ok.glob,ok.blt,ok.above,ok.inj,ok.has,ok.cab,ok.hd,ok.frames,ok.stk,ok.exf,ok.bs,ok.bsz,ok.Oi,ok.Qq,ok.D3,ok.frf⟩
theorem Cx.Ok.qw{X:Cx}{E:Value→Shared→Prop}(ok:(X.FZ E).Ok):X.Ok :=
  ⟨ok.mod,ok.kind,ok.glob,ok.blt,ok.above,ok.inj,ok.has,ok.cab,ok.hd,ok.frames,ok.stk,ok.exf,ok.bs,ok.bsz,ok.Oi,ok.Qq,ok.D3,ok.frf⟩
section
variable{X:Cx}{pins:List (Addr×Obj)}{σ:St}{H:Hp}{s:Shared}{E:Value→Shared→Prop}
theorem Inv.FZ(I:Inv X pins σ H s)(E:Value→Shared→Prop):Inv (X.FZ E) pins σ H s:=⟨I.ok.FZ E,I.os,I.bare,I.base,I.loc,I.cell,I.free,I.qg,I.pin,I.hok,I.len⟩
theorem Inv.qw(I:Inv (X.FZ E) pins σ H s):Inv X pins σ H s:=⟨I.ok.qw,I.os,I.bare,I.base,I.loc,I.cell,I.free,I.qg,I.pin,I.hok,I.len⟩
theorem SP.qw{D:Ends}{f:Flow}{s':Shared}(h:SP (X.FZ E) pins D f s'):SP X pins D f s':=by
  cases f with
  | next=>obtain⟨σ',H',I,q⟩:=h;exact⟨σ',H',I.qw,q⟩
  | brk=>obtain⟨σ',H',I,q⟩:=h;exact⟨σ',H',I.qw,q⟩
  | cont=>obtain⟨σ',H',I,q⟩:=h;exact⟨σ',H',I.qw,q⟩
  | ret u=>obtain⟨v,σ',H',I,r,q⟩:=h;exact⟨v,σ',H',I.qw,r,q⟩
theorem PSs.nox{st:List Stmt}{t:TS}(h:PSs X.nox st t):PSs X st t:=λpins s σ H D I hw =>
  wpAny_mono (h pins s σ H D (I.FZ _) hw) (λ_ _ q=>q.qw) λ_ _ z=>False.elim z
end
section
variable{X:Cx}{st:Stmt}{rest:List Stmt}{t u:TS}{e:Expr}{te:TE}{pos:Pos}
noncomputable def XC:TS:=λD σ H=>D.nx σ H
noncomputable def JZ(t u:TS):TS:=λD σ H=>t {D with nx:=u D} σ H
theorem a7:PSs X [] XC:=λ_ _ σ H _ I h=>wpAny_execs_nil ⟨σ,H,I,h⟩
theorem ak(h1:PS X st t)(h2:PSs X rest u):PSs X (st::rest) (JZ t u):=by
  intro pins s σ H D I h;refine wpAny_execs_cons (thn (h1 pins s σ H {D with nx:=u D} I h) λf s1 q=>?_);cases f with
  | next =>
    obtain⟨σ',H',I',q⟩:=q;exact h2 pins s1 σ' H' D I' q
  | ret v=>exact q
  | brk=>exact q
  | cont=>exact q
theorem ai(h1:PS X st t):PSs X [st] t:=by
  intro pins s σ H D I h;refine wpAny_execs_cons (thn (h1 pins s σ H D I h) λf s1 q=>?_);cases f with
  | next=>exact wpAny_execs_nil q
  | ret v=>exact q
  | brk=>exact q
  | cont=>exact q
theorem Inv.quiet{pins:List (Addr×Obj)}{σ:St}{H:Hp}{s:Shared}(I:Inv X pins σ H s):interactive X.env=false:=by simp[interactive,I.ok.kind]
noncomputable def XD(te:TE):TS:=λD σ H=>te σ H λ_ H1=>D.nx σ H1
theorem aJ(he:PE X e te)(hs:swapsWith e none pos.line X.env=pure false:=by rfl):PS X (.Expr e pos) (XD te):=by
  intro pins s σ H D I h;exact wpAny_Expr_any (thn (he pins s σ H _ I h) λv s1 ⟨x,H1,I1,r1,q1⟩=>⟨σ,H1,I1,q1⟩) I.quiet hs
noncomputable def aeU(te:TE):TS:=λD σ H=>te σ H D.rt
theorem aP(he:PE X e te):PS X (.Return (some e) pos) (aeU te):=by
  intro pins s σ H D I h;exact wpAny_Return_some (thn (he pins s σ H _ I h) λv s1 ⟨x,H1,I1,r1,q1⟩=>⟨x,σ,H1,I1,r1,q1⟩)
noncomputable def aeV(c:TT)(t u:TS):TS:=λD σ H=>c σ H λb H1=>if b=true then t D σ H1 else u D σ H1
theorem cV{c:Expr}{a b:List Stmt}{tc:TT}(hc:PT X c tc)(ha:PSs X a t)(hb:PSs X b u):PS X (.If c a b pos) (aeV tc t u):=by
  intro pins s σ H D I h;refine wpAny_If (thn (hc pins s σ H _ I h) λd s1 ⟨H1,I1,q1⟩=>?_);cases d with
  | true=>exact ha pins s1 σ H1 D I1 q1
  | false=>exact hb pins s1 σ H1 D I1 q1
end
noncomputable abbrev TG:=V→St→Hp→(St→Hp→Prop)→Prop
noncomputable abbrev TGs:=List V→St→Hp→(St→Hp→Prop)→Prop
noncomputable def PG(X:Cx)(target:Expr)(t:TG):Prop :=
  ∀(pins:List (Addr×Obj)) (s:Shared) (σ:St) (H:Hp) (v:V) (u:Value) (Q:St→Hp→Prop),Inv X pins σ H s→RelV v u→t v σ H Q →
    wpAny (model X.prog X.w) X.A (assign target X.env u) (λ_ s'=>∃ σ' H',Inv X pins σ' H' s'∧Q σ' H') X.xe s
noncomputable def PGs(X:Cx)(ts:List Expr)(t:TGs):Prop :=
  ∀(pins:List (Addr×Obj)) (s:Shared) (σ:St) (H:Hp) (vs:List V) (us:List Value) (Q:St→Hp→Prop),Inv X pins σ H s→Vals vs us→t vs σ H Q →
    wpAny (model X.prog X.w) X.A (assignInOrder ((assignEach ts X.env).map (·.2)) us) (λ_ s'=>∃ σ' H',Inv X pins σ' H' s'∧Q σ' H') X.xe s
noncomputable abbrev VD:=V→V→V→Hp→(Hp→Prop)→Prop
noncomputable def YH(X:Cx)(t:VD):Prop :=
  ∀(pins:List (Addr×Obj)) (s:Shared) (σ:St) (H:Hp) (o i v:V) (ov iv u:Value) (Q:Hp→Prop),Inv X pins σ H s→RelV o ov→RelV i iv→RelV v u→t o i v H Q →
    wpAny (model X.prog X.w) X.A (setItem ov iv u) (λ_ s'=>∃ H',Inv X pins σ H' s'∧Q H') X.xe s
noncomputable abbrev TIp:=V→V→Hp→VK→Prop
noncomputable def PIp(X:Cx)(op:Operator)(t:TIp):Prop :=
  ∀(pins:List (Addr×Obj)) (s:Shared) (σ:St) (H:Hp) (x y:V) (v u:Value) (Q:VK),Inv X pins σ H s→RelV x v→RelV y u→t x y H Q →
    wpAny (model X.prog X.w) X.A (inplaceOp op v u) (EP X pins σ Q) X.xe s
section
variable{X:Cx}{pos:Pos}
noncomputable def yj(i:Nat):TG:=λv σ H Q=>Q (σ.set i (some v)) H
theorem a8{i:Nat}{x:Str}(hN:X.N.Nodup)(hi:X.N[i]?=some x)(hx:Loc X.env.scope x)(hf:X.fn x=true∨X.env.scope.names.lookup x=some .local:=by first|exact .inl rfl|exact .inr rfl|assumption):PG X (.Name x pos) (yj i):=by
  intro pins s σ H v u Q I r h;exact wpAny_assign_Name (FD I hN hi hx r (λs' I'=>⟨_,H,I',h⟩) hf)
noncomputable def aeW:TGs:=λvs σ H Q=>vs=[]∧Q σ H
noncomputable def XE(t:TG)(u:TGs):TGs:=λvs σ H Q=>∃ v r,vs=v::r∧t v σ H λσ' H'=>u r σ' H' Q
theorem qX:PGs X [] aeW:=by
  intro pins s σ H vs us Q I r h;obtain⟨e,h⟩:=h;subst e;cases r;exact assignInOrder_nil ⟨σ,H,I,h⟩
theorem eQ{e:Expr}{es:List Expr}{t:TG}{u:TGs}(h1:PG X e t)(h2:PGs X es u)
    (hs:(assignEach (e::es) X.env).map (·.2)=assign e X.env::(assignEach es X.env).map (·.2):=by rfl):PGs X (e::es) (XE t u):=by
  intro pins s σ H vs us Q I r h;obtain⟨v,vr,e1,h⟩:=h;subst e1;cases r with
  | cons r rr =>
    rw[hs];refine assignInOrder_cons (thn (h1 pins s σ H _ _ _ I r h) λ_ s1 ⟨σ1,H1,I1,q1⟩=>?_);exact h2 pins s1 σ1 H1 _ _ Q I1 rr q1
noncomputable def aeX(K:W.Frag)(n:Nat)(t:TGs):TG:=λv σ H Q=>∃ a xs,v=.ref a∧SqT K H a xs∧xs.length=n∧t xs σ H Q
theorem vZ{es:List Expr}{k:Nat}{t:TGs}{n:Nat}(hc:X.calm=true)(h:PGs X es t)
    (hn:(assignEach es X.env).length=n:=by rfl) (hst:(assignEach es X.env).findIdx? (·.1)=none:=by rfl):PG X (.Tuple es k pos) (aeX X.K n t):=by
  intro pins s σ H v u Q I r hw;obtain⟨a,xs,e1,hq,hl,hw⟩:=hw;subst e1;cases r;obtain⟨its,rv,ht,hz⟩:=I.tuple hq;refine assign_Tuple_tuple (I.ok.hd hc) ht (by simp[hn,←hl,rv.length]) hst λh' hx=>?_;have I1:Inv X pins σ H {s with heap:=h'}:=I.kept (t':=s.toks) λb o e=>hx b o (ajl (ajg e)) e;exact h pins _ σ H xs _ Q I1 (by simpa using rv) hw
noncomputable def aeY(to ti:TE)(t:VD):TG:=λv σ H Q=>to σ H λo H1=>ti σ H1 λi H2=>t o i v H2 λH3=>Q σ H3
theorem rU{o i:Expr}{to ti:TE}{t:VD}(ho:PE X o to)(hi:PE X i ti)(hs:YH X t)
    (ha:∀ v,assign (.Subscript o i pos) X.env v=(do
      let ov ←holding [v] (eval o X.env)
      let iv ←holding [v,ov] (eval i X.env)
      standAt pos
      holding [v,ov,iv] (setItem ov iv v)
      release [v,ov,iv] []):=by intro _;rfl):PG X (.Subscript o i pos) (aeY to ti t):=by
  intro pins s σ H v u Q I r h;rw[ha];refine wpAny_bind (wpAny_holding (thn (ho pins s σ H _ I h) λov s1 ⟨x,H1,I1,r1,q1⟩=>?_));refine wpAny_bind (wpAny_holding (thn (hi pins s1 σ H1 _ I1 q1) λiv s2 ⟨y,H2,I2,r2,q2⟩=>?_));refine wpAny_bind (wpAny_standAt (wpAny_bind (wpAny_holding (thn (hs pins s2 σ H2 x y v ov iv u _ I2 r1 r2 r q2) λ_ s3 ⟨H3,I3,q3⟩=>?_))));exact wpAny_release ⟨σ,H3,I3,q3⟩
noncomputable def SG(te:TE)(g:TG):TS:=λD σ H=>te σ H λx H1=>g x σ H1 D.nx
theorem oZ{tg e:Expr}{te:TE}{g:TG}(he:PE X e te)(hg:PG X tg g)(hs:swapsWithSole [tg] e pos.line X.env=pure false:=by rfl)(hw:swappedStores [tg] e X.env=pure none:=by rfl)
    (h1:(assignEach [tg] X.env).map (·.2)=[assign tg X.env]:=by rfl):PS X (.Assign [tg] e pos) (SG te g):=by
  intro pins s σ H D I h;refine wpAny_Assign_stores (thn (he pins s σ H _ I h) λv s1 ⟨x,H1,I1,r1,q1⟩=>?_) hs hw;rw[h1];exact thn (hg pins s1 σ H1 x v _ I1 r1 q1) λ_ s2 q=>q
theorem aW{i:Nat}{x:Str}{e:Expr}{te:TE}{pos':Pos}(hN:X.N.Nodup)(hi:X.N[i]?=some x)(hx:Loc X.env.scope x)(he:PE X e te)(hs:swapsWith e (some (.Name x pos')) pos.line X.env=pure false:=by rfl)(hf:X.fn x=true∨X.env.scope.names.lookup x=some .local:=by first|exact .inl rfl|exact .inr rfl|assumption) :
    PS X (.Assign [.Name x pos'] e pos) (SG te (yj i)):=by
  intro pins s σ H D I h;refine wpAny_Assign_Name (thn (he pins s σ H _ I h) λv s1 ⟨y,H1,I1,r1,q1⟩=>?_) hs;exact FD I1 hN hi hx r1 (λs2 I2=>⟨_,H1,I2,q1⟩) hf
noncomputable def aeZ(i:Nat)(te:TE)(ti:TIp):TS:=λD σ H=>∃ x,σ[i]?=some (some x)∧te σ H λy H1=>ti x y H1 λz H2=>D.nx (σ.set i (some z)) H2
theorem US{i:Nat}{x:Str}{e:Expr}{te:TE}{op:Operator}{ti:TIp}{pos':Pos}(hN:X.N.Nodup)(hi:X.N[i]?=some x)(hx:Loc X.env.scope x)(he:PE X e te)(ho:PIp X op ti)(hf:X.fn x=true∨X.env.scope.names.lookup x=some .local:=by first|exact .inl rfl|exact .inr rfl|assumption) :
    PS X (.AugAssign (.Name x pos') op e pos) (aeZ i te ti):=by
  intro pins s σ H D I h;obtain⟨v,e1,h⟩:=h;obtain⟨m,hn,hl⟩:=I.loc;have vis:Vis X.env.scope x:=by rcases hx with k|k;exact .inl k;exact .inr (.inl k)
  obtain⟨u,r,l⟩:=hl i x v hi e1 vis;refine wpAny_AugAssign_Name ?_;have go:wpAny (model X.prog X.w) X.A (eval e X.env) (λw s₂=>wpAny (model X.prog X.w) X.A (inplaceOp op u w) (λr s₃=>wpAny (model X.prog X.w) X.A (storeName X.env x r) (λ_=>SP X pins D .next) X.xe s₃) X.xe s₂) X.xe s:=by
    refine thn (he pins s σ H _ I h) λw s1 ⟨y,H1,I1,r1,q1⟩=>?_;refine thn (ho pins s1 σ H1 v y u w _ I1 r r1 q1) λz s2 ⟨zv,H2,I2,r2,q2⟩=>?_;exact FD I2 hN hi hx r2 (λs3 I3=>⟨_,H2,I3,q2⟩) hf
  rcases l with⟨hk,hm⟩|⟨hk,c,hc,Qg⟩
  · exact wpAny_loadName_local I.ok.kind hk hn hm go
  · rcases hk with hk|hk
    · exact wpAny_loadName_cell I.ok.kind hk hc Qg go
    · rcases hx with k|k
      · have:X.env.scope.names.lookup x=some .free:=hk
        rw[k]at this;cases this
      · have:X.env.scope.names.lookup x=some .free:=hk
        rw[k]at this;cases this
noncomputable def ipI(f:Int→Int→Int):TIp:=λx y H Q=>∃ i j,x=.int i∧y=.int j∧Q (.int (f i j)) H
theorem UT:PIp X .Add (ipI λi j=>i+j):=by
  intro pins s σ H x y v u Q I r1 r2 h;obtain⟨i,j,e1,e2,q⟩:=h;subst e1;subst e2;obtain⟨t,rfl⟩:=r1;obtain⟨t',rfl⟩:=r2;exact iadd_int ⟨.int _,H,I.tok _,⟨_,rfl⟩,q⟩
end
section
variable{X:Cx}{pos:Pos}
noncomputable def UU(c:TT)(tb:TS):TS:=λD σ H=>∃ W:Nat→St→Hp→Prop,(∃ m,W m σ H)∧∀ m σ H,W m σ H →
  c σ H λb H1=>if b=true then ∃ N:St→Hp→Prop,(∀ σ' H',N σ' H'→∃ m',m'<m∧W m' σ' H')∧tb {D with nx:=N,ct:=N,bk:=D.nx} σ H1 else D.nx σ H1
theorem FE{c:Expr}{body:List Stmt}{tc:TT}{tb:TS}(hp:PassesOwn (model X.prog X.w) X.A X.env X.xe)(hc:PT X c tc)(hb:PSs X body tb):PS X (.While c body [] pos) (UU tc tb):=by
  intro pins s σ H D I h;obtain⟨W,⟨m0,w0⟩,turn⟩:=h;refine wpAny_While (codeAny_whileLoop (λn s'=>∃ σ' H',Inv X pins σ' H' s'∧W n σ' H') ?_ m0 ⟨σ,H,I,w0⟩);rintro n s1 ⟨σ1,H1,I1,w1⟩;refine wpAny_passesOwn hp (thn (hc pins s1 σ1 H1 _ I1 (turn n σ1 H1 w1)) λb s2 ⟨H2,I2,q2⟩=>?_);cases b with
  | true =>
    obtain⟨N,hN,q2⟩:=q2;rw[if_pos rfl];refine wpAny_passesOwn hp (thn (hb pins s2 σ1 H2 _ I2 q2) λf s3 q3=>?_);cases f with
    | next =>
      obtain⟨σ3,H3,I3,n3⟩:=q3;obtain⟨m',hm,w3⟩:=hN σ3 H3 n3;exact⟨m',hm,σ3,H3,I3,w3⟩
    | cont =>
      obtain⟨σ3,H3,I3,n3⟩:=q3;obtain⟨m',hm,w3⟩:=hN σ3 H3 n3;exact⟨m',hm,σ3,H3,I3,w3⟩
    | brk=>exact q3
    | ret v=>exact q3
  | false =>
    rw[if_neg ajc];exact wpAny_execs_nil ⟨σ1,H2,I2,q2⟩
end
structure It where
  go:Nat→Hp→Prop
  yld:Nat→Hp→V→Hp→Prop
  stop:Nat→Hp→Prop
noncomputable def D4(X:Cx)(pins:List (Addr×Obj))(H:Hp)(b:Addr):Prop :=
  H b=none∧b≠X.env.locals∧b∉X.fs∧(b∈X.ex∨X.s₀.heap.objs.size≤b)∧(∀ x c,X.env.cells.lookup x=some c→c≠b)∧∀ p∈X.pn++pins,p.1≠b
theorem Inv.Rj{X:Cx}{pins:List (Addr×Obj)}{σ:St}{H H':Hp}{s:Shared}{b:Addr}(I:Inv X pins σ H s)(hb:s.heap.objs.size≤b)(hn:H' b=none):D4 X pins H' b:=by
  refine⟨hn,akk (ajn I.lt hb),I.aeO hb,.inr (ajy I.sz hb),λx c e z=>?_,λp hp z=>?_⟩
  · obtain⟨v,q⟩:=I.cell x c e
    exact absurd (ajn q.lt (by rw[z];exact hb)) (ake _)
  · exact absurd (ajn (ajg (I.pin p hp).1) (by rw[z];exact hb)) (ake _)
structure Turn(P:Program)(w:World)(K:W.Frag)(tg:Expr)(J:It)(fp:List Addr)(it:Addr)(tn:Nat→Heap→Prop):Prop where
  mem:it∈fp
  obj:∀ i h,tn i h→∀ b∈fp,∃ o,h.get? b=some o∧∀ v,o.data≠.cell v
  keep:∀ i h h',tn i h→(∀ b∈fp,∀ o,h.get? b=some o→h'.get? b=some o)→tn i h'
  item:∀(X:Cx),X.prog=P→X.w=w→X.K=K→X.calm=true→∀(i:Nat) (pins:List (Addr×Obj)) (s:Shared) (σ:St) (H:Hp) (E:Value→Shared→Prop),Inv X pins σ H s→(∀ b∈fp,D4 X pins H b)→tn i s.heap→J.go i H →
    wpAny (model P w) X.A (pyNext (.ref it)) (λr s1=>∃ u,r=some u ∧
      wpAny (model P w) X.A (letOwnedTupleGo tg (.ref it) u) (λ_ s2=>∃ x H',Inv X pins σ H' s2∧RelV x u∧J.yld i H x H'∧tn (i+1) s2.heap∧∀ b∈fp,H' b=none) E s1) E s
  done:∀(X:Cx),X.prog=P→X.w=w→X.K=K→X.calm=true→∀(i:Nat) (pins:List (Addr×Obj)) (s:Shared) (σ:St) (H:Hp) (E:Value→Shared→Prop),Inv X pins σ H s→(∀ b∈fp,D4 X pins H b)→tn i s.heap→J.stop i H →
    wpAny (model P w) X.A (pyNext (.ref it)) (λr s1=>r=none∧Inv X pins σ H s1) E s
  self:∀(A:Around) (i:Nat) (s:Shared) (Q:Value→Shared→Prop) (E:Value→Shared→Prop),tn i s.heap→Q (.ref it) s→wpAny (model P w) A (pyIter (.ref it)) Q E s
noncomputable abbrev TI:=St→Hp→(It→Hp→Prop)→Prop
noncomputable def PIE(X:Cx)(pins:List (Addr×Obj))(σ:St)(tg:Expr)(R:It→Hp→Prop)(itv:Value)(s2:Shared):Prop :=
  ∃(it:Addr) (fp:List Addr) (tn:Nat→Heap→Prop) (J:It) (H':Hp),itv=.ref it∧Inv X pins σ H' s2∧Turn X.prog X.w X.K tg J fp it tn∧tn 0 s2.heap∧(∀ b∈fp,D4 X pins H' b)∧R J H'
noncomputable def PI(X:Cx)(tg iter:Expr)(wi:TI):Prop :=
  ∀(pins:List (Addr×Obj)) (s:Shared) (σ:St) (H:Hp) (R:It→Hp→Prop),Inv X pins σ H s→wi σ H R →
    wpAny (model X.prog X.w) X.A (eval iter X.env) (λv s1=>wpAny (model X.prog X.w) X.A (pyIter v) (PIE X pins σ tg R) X.xe s1) X.xe s
theorem T8{M:Model}{A:Around}{E:Value→Shared→Prop}{s:Shared}{tg:Expr}{it:Addr}{u:Value}{o:Obj}{n:String}{vs:Array Value}{Q:Unit→Shared→Prop}(ho:s.heap.get? it=some o)(hc:o.cls=.type n)(hd:o.data=.fields vs)
    (hn:["enumerate", "zip", "dict_itemiterator", "dict_reverseitemiterator", "odict_iterator", "itertools.zip_longest", "itertools.pairwise"].contains n=false) (hQ:Q () s):wpAny M A (letOwnedTupleGo tg (.ref it) u) Q E s:=by
  unfold letOwnedTupleGo;cases tg<;>first
    | exact wpAny_pure hQ
    | (cases u<;>first
        | exact wpAny_pure hQ
        | (refine wpAny_bind (wpAny_load ho ?_)
           rw[hc,hd];show wpAny M A (if(["enumerate", "zip", "dict_itemiterator", "dict_reverseitemiterator", "odict_iterator", "itertools.zip_longest", "itertools.pairwise"].contains n&&vs[0]? == some (rawInt _))=true then _ else _) Q E s;rw[if_neg (by intro h;rw[hn,Bool.false_and]at h;cases h)];exact wpAny_pure hQ))
noncomputable def Itl(K:W.Frag)(a:Addr):It :=
  ⟨λi H=>∃ xs x,SqL K H a xs∧xs[i]?=some x,λi H x H'=>H'=H∧∀ xs,SqL K H a xs→xs[i]?=some x,λi H=>∃ xs,SqL K H a xs∧xs.length≤i⟩
noncomputable def Itr(lo:Int)(n:Nat):It:=⟨λi _=>i<n,λi H x H'=>H'=H∧x=.int (lo+i),λi _=>n≤i⟩
theorem Pc{P:Program}{w:World}{K:W.Frag}{tg:Expr}(a it:Addr):Turn P w K tg (Itl K a) [it] it (λi h=>h.IsListIter it a i) where
  mem:=by simp
  obj:=λi h st b hb=>by
    have e:b=it:=(by simpa using hb);subst e;obtain⟨o,e,c,d⟩:=st;exact⟨o,e,λv z=>by rw[d]at z;cases z⟩
  keep:=λi h h' st k=>st.at λo e=>k it (by simp) o e
  item:=by
    intro X hP hw hK hc i pins s σ H E I hf st hg;subst hP hw hK;obtain⟨xs,x,hq,hx⟩:=hg;obtain⟨its,rv,p,hz⟩:=I.list hq;obtain⟨u,hu,ru⟩:=rv.get hx;obtain⟨f0,f1,f2,f3,f4,f5⟩:=hf it (by simp);refine wpAny_pyNext_list_item st p.isList (x:=u) (by simpa using hu) λh' st' sb=>?_;have I1:Inv X pins σ H {s with heap:=h'}:=I.turned (t':=s.toks) (λb o hb e=>(sb.2 b hb).trans e) f0 f1 f3 f4 f5;obtain⟨o,e,c,d⟩:=id st';exact⟨u,rfl,T8 (s:={s with heap:=h'}) e c d (by decide) ⟨x,H,I1,ru,⟨rfl,λys hy=>by rw[I.LV hy hq];exact hx⟩,st',λb hb=>(hf b hb).1⟩⟩
  done:=by
    intro X hP hw hK hc i pins s σ H E I hf st hg;subst hP hw hK;obtain⟨xs,hq,hx⟩:=hg;obtain⟨its,rv,p,hz⟩:=I.list hq;obtain⟨f0,f1,f2,f3,f4,f5⟩:=hf it (by simp);have hl:=rv.length;exact wpAny_pyNext_list_end (I.ok.hd hc) st p.isList (by simp;omega) λh' eb=>⟨rfl,I.turned (t':=s.toks) (λb o hb e=>eb b o hb e) f0 f1 f3 f4 f5⟩
  self:=λ_ _ _ _ _ st h=>wpAny_pyIter_listiter st h
theorem MW{P:Program}{w:World}{K:W.Frag}{tg:Expr}(it:Addr)(lo:Int)(n:Nat):Turn P w K tg (Itr lo n) [it] it (λi h=>IsRangeIter h it (lo+(i:Nat)*1) ((n:Int)-(i:Nat)) 1) where
  mem:=by simp
  obj:=λi h st b hb=>by
    have e:b=it:=(by simpa using hb);subst e;exact⟨_,st,λv z=>by
      have z':Data.fields _=Data.cell v:=z;cases z'⟩
  keep:=λi h h' st k=>k it (by simp) _ st
  item:=by
    intro X hP hw hK hc i pins s σ H E I hf st hg;subst hP hw hK;obtain⟨f0,f1,f2,f3,f4,f5⟩:=hf it (by simp);have W:=Walks.range (prog:=X.prog) (w:=X.w) (I.ok.hd hc) it lo 1 n;refine W.item i s _ _ hg st λv h' tk hv st' kk=>?_;obtain⟨t,rfl⟩:=hv;have I1:Inv X pins σ H {s with heap:=h',toks:=tk}:=I.turned (λb o hb e=>kk b o (by simpa using hb) e) f0 f1 f3 f4 f5;refine⟨_,rfl,T8 (s:={s with heap:=h',toks:=tk}) (n := "range_iterator") st' rfl rfl (by decide) ⟨.int (lo+i),H,I1,⟨t,?_⟩,⟨rfl,rfl⟩,st',λb hb=>(hf b hb).1⟩⟩;rw[Int.mul_one]
  done:=by
    intro X hP hw hK hc i pins s σ H E I hf st hg;subst hP hw hK;obtain⟨f0,f1,f2,f3,f4,f5⟩:=hf it (by simp);exact wpAny_pyNext_range_end (I.ok.hd hc) st (by have:n≤i:=hg;omega) λh' eb=>⟨rfl,I.turned (t':=s.toks) (λb o hb e=>eb b o hb e) f0 f1 f3 f4 f5⟩
  self:=λ_ _ _ _ _ st h=>wpAny_pyIter_rangeiter st h
end L2
namespace L2
open PySem PySem.Spec PyProof.Rows
section
variable{X:Cx}{tg:Expr}
noncomputable def XF(K:W.Frag)(tl:TE):TI:=λσ H R=>tl σ H λx H1=>∃ a,x=.ref a∧(∃ xs,SqL K H1 a xs)∧R (Itl K a) H1
theorem f7{l:Expr}{tl:TE}(hl:PE X l tl):PI X tg l (XF X.K tl):=by
  intro pins s σ H R I h;refine thn (hl pins s σ H _ I h) λv s1 ⟨x,H1,I1,r1,q1⟩=>?_;obtain⟨a,e,⟨xs,hq⟩,q⟩:=q1;subst e;cases r1;obtain⟨its,rv,p,hz⟩:=I1.list hq;refine wpAny_pyIter_list p.isList ?_;refine⟨s1.heap.objs.size,[s1.heap.objs.size],_,_,H1,rfl,I1.kept (t':=s1.toks) λb o e=>aja _ e,Pc a _,⟨_,ajC _ rfl,rfl,rfl⟩,λb hb=>?_,q⟩;have e:b=s1.heap.objs.size:=by simpa using hb
  subst e;exact I1.Rj (ajb _) (I1.hok.fresh (ajb _))
theorem QF{pins:List (Addr×Obj)}{σ:St}{H:Hp}{s:Shared}{R:It→Hp→Prop}{E:Value→Shared→Prop}{lo hi:Int}{t u v:Tok}{tk:Nat}(I:Inv X pins σ H s)(h1:-(2 ^ 62)≤lo)(h2:lo<2 ^ 62)(h3:-(2 ^ 62)≤hi)(h4:hi<2 ^ 62)
    (q:R (Itr lo (hi-lo).toNat) H):wpAny (model X.prog X.w) X.A (pyIter (.ref s.heap.objs.size)) (PIE X pins σ tg R) E {s with heap:=s.heap.push {cls:=.type "range",data:=.fields #[.int lo t,.int hi u,.int 1 v]},toks:=tk}:=by
  refine wpAny_pyIter_range (IsRange.new ..) (small_one h1 h2 h3 h4) ?_;have I1:Inv X pins σ H {s with heap:=s.heap.push {cls:=.type "range",data:=.fields #[.int lo t,.int hi u,.int 1 v]},toks:=tk}:=I.kept λb o e=>aja _ e;refine⟨(s.heap.push {cls:=.type "range",data:=.fields #[.int lo t,.int hi u,.int 1 v]}).objs.size,[(s.heap.push {cls:=.type "range",data:=.fields #[.int lo t,.int hi u,.int 1 v]}).objs.size],_,_,H,rfl,
    I1.kept (t':=tk) λb o e=>aja _ e,MW _ lo (hi-lo).toNat,?_,λb hb=>?_,q⟩
  · have e1:lo+((0:Nat):Int)*1=lo:=by simp
    have e2:(((hi-lo).toNat:Nat):Int)-((0:Nat):Int)=Builtin.Range.rangeSize lo hi 1:=(by rw[rangeSize_one];split<;>omega);show IsRangeIter _ _ (lo+((0:Nat):Int)*1) ((((hi-lo).toNat:Nat):Int)-((0:Nat):Int)) 1;rw[e1,e2];exact ajC _ rfl
  · have e:b=(s.heap.push {cls:=.type "range",data:=.fields #[.int lo t,.int hi u,.int 1 v]}).objs.size:=by simpa using hb
    subst e;exact I1.Rj (ajb _) (I1.hok.fresh (ajb _))
noncomputable def XG(ta:TA):TI:=λσ H R=>ta σ H λvs H1=>∃ j:Int,vs=[.int j]∧-(2 ^ 62)≤j∧j<2 ^ 62∧R (Itr 0 j.toNat) H1
theorem rq{a:Expr}{ta:TA}{p pos:Pos}(hg:Gl X "range")(hm:X.mg "range" = none)(ha:PA X [a] ta)(hs:starEach [a] X.env=[(false,eval a X.env)]:=by rfl):PI X tg (.Call (.Name "range" p) [a] [] pos) (XG ta):=by
  intro pins s σ H R I h;refine Call_ (FW I hg hm boot_range (PyProof.Rows.callWith_type1 (thn (ha pos pins s σ H _ I h) λus s1 ⟨vs,H1,I1,r1,q1⟩=>?_) hs rfl));obtain⟨j,e,q1,q2,q⟩:=q1;subst e;cases r1 with
  | cons r rr =>
    cases rr;obtain⟨t,rfl⟩:=r;exact call_range_1 (QF I1 (by omega) (by omega) q1 q2 (by simpa using q))
noncomputable def ae0(wi:TI)(g:TG)(tb:TS):TS:=λD σ H=>wi σ H λJ H1=>∃ W:Nat→Nat→St→Hp→Prop,(∃ m,W 0 m σ H1)∧∀ i m σ H,W i m σ H →
  (J.stop i H∧D.nx σ H)∨(J.go i H∧∃ N:St→Hp→Prop,(∀ σ' H',N σ' H'→∃ m',m'<m∧W (i+1) m' σ' H')∧∀ x H',J.yld i H x H'→g x σ H' λσ2 H2=>tb {D with nx:=N,ct:=N,bk:=D.nx} σ2 H2)
noncomputable def F5(fp:List Addr)(h:Heap):List (Addr×Obj):=fp.filterMap λb=>(h.get? b).map λo=>(b,o)
theorem gN{fp:List Addr}{h:Heap}{b:Addr}{o:Obj}(hb:b∈fp)(e:h.get? b=some o):(b,o)∈F5 fp h:=aj0.mpr ⟨b,hb,by rw[e];rfl⟩
theorem Pd{fp:List Addr}{h:Heap}{p:Addr×Obj}(hp:p∈F5 fp h):p.1∈fp∧h.get? p.1=some p.2:=by
  obtain⟨b,hb,e⟩:=aj0.mp hp;cases q:h.get? b with
  | none=>rw[q]at e;cases e
  | some o =>
    rw[q]at e;have e':(b,o)=p:=ajx e;subst e';exact⟨hb,q⟩
theorem Inv.pinned{pins:List (Addr×Obj)}{σ:St}{H:Hp}{s:Shared}{fp:List Addr}(I:Inv X pins σ H s)(hf:∀ b∈fp,D4 X pins H b)(ho:∀ b∈fp,∃ o,s.heap.get? b=some o∧∀ v,o.data≠.cell v):Inv X (pins++F5 fp s.heap) σ H s :=
  I.Oj λp hp=>(ajs.mp hp).elim (λz=>I.pin p (ajf _ z)) λz=>by
    obtain⟨hb,e⟩:=Pd z;obtain⟨f0,f1,f2,_⟩:=hf p.1 hb;obtain⟨o,e',d⟩:=ho p.1 hb;rw[e]at e';cases e';exact⟨e,f0,f1,f2,d⟩
theorem Inv.nr{pins pl:List (Addr×Obj)}{σ:St}{H:Hp}{s:Shared}(I:Inv X (pins++pl) σ H s):Inv X pins σ H s:=I.Oj λp hp=>I.pin p (ajf _ (ajD _ hp))
theorem gg{iter:Expr}{body:List Stmt}{wi:TI}{g:TG}{tb:TS}{pos:Pos}(hp:PassesOwn (model X.prog X.w) X.A X.env X.xe)(hc:X.calm=true)(hi:PI X tg iter wi)(hg:PG X tg g)(hb:PSs X body tb)
    (hs:∀ x,foldedSetIterable iter X.env x=pure x:=by intro _;rfl):PS X (.For tg iter body [] pos) (ae0 wi g tb):=by
  intro pins s σ H D I h;refine wpAny_For (thn (hi pins s σ H _ I h) λv s1 h1=>thn h1 λitv s2 h2=>?_) hs;obtain⟨it,fp,tn,J,H2,e,I2,T,st2,f2,W,⟨m0,w0⟩,turn⟩:=h2;subst e;have D5:∀ {H':Hp},(∀ b∈fp,H' b=none)→∀ b∈fp,D4 X pins H' b:=λhn b hb=>⟨hn b hb,(f2 b hb).2⟩;refine codeAny_forLoop_any (λn s'=>∃ i σ' H',Inv X pins σ' H' s'∧tn i s'.heap∧(∀ b∈fp,H' b=none)∧W i n σ' H') ?_ m0 ⟨0,σ,H2,I2,st2,λb hb=>(f2 b hb).1,w0⟩;rintro n s3 ⟨i,σ3,H3,I3,st3,fr3,w3⟩;rcases turn i n σ3 H3 w3 with⟨stop,qn⟩|⟨go,N,hN,step⟩
  · refine wpAny_passesOwn hp (thn (T.done X rfl rfl rfl hc i pins s3 σ3 H3 X.xe I3 (D5 fr3) st3 stop) λr s4 ⟨hr,I4⟩=>?_)
    subst hr;exact wpAny_execs_nil ⟨σ3,H3,I4,qn⟩
  · refine wpAny_passesOwn hp (thn (T.item X rfl rfl rfl hc i pins s3 σ3 H3 X.xe I3 (D5 fr3) st3 go) λr s4 ⟨u,hr,h4⟩=>?_)
    subst hr;refine wpAny_passesOwn hp (thn h4 λ_ s5 ⟨x,H5,I5,r5,y5,st5,fr5⟩=>?_);have I5':=I5.pinned (D5 fr5) (T.obj _ _ st5);refine wpAny_passesOwn hp (thn (hg _ s5 σ3 H5 x u _ I5' r5 (step x H5 y5)) λ_ s6 ⟨σ6,H6,I6,q6⟩=>?_);refine wpAny_passesOwn hp (thn (hb _ s6 σ6 H6 _ I6 q6) λf s7 q7=>?_);have again:∀ {σ7:St} {H7:Hp},Inv X (pins++F5 fp s5.heap) σ7 H7 s7→N σ7 H7→∃ m,m<n∧∃ i σ' H',Inv X pins σ' H' s7∧tn i s7.heap∧(∀ b∈fp,H' b=none)∧W i m σ' H':=λ{σ7 H7} I7 n7=>by
      obtain⟨m',hm,w7⟩:=hN σ7 H7 n7;refine⟨m',hm,i+1,σ7,H7,I7.nr,T.keep _ _ _ st5 λb hb o e=>(I7.pin (b,o) (ajf _ (ajf _ (gN hb e)))).1,λb hb=>?_,w7⟩;obtain⟨o,e,d⟩:=T.obj _ _ st5 b hb;exact(I7.pin (b,o) (ajf _ (ajf _ (gN hb e)))).2.1
    cases f with
    | next=>obtain⟨σ7,H7,I7,n7⟩:=q7;exact again I7 n7
    | cont=>obtain⟨σ7,H7,I7,n7⟩:=q7;exact again I7 n7
    | brk=>obtain⟨σ7,H7,I7,q7⟩:=q7;exact⟨σ7,H7,I7.nr,q7⟩
    | ret v=>obtain⟨x7,σ7,H7,I7,r7,q7⟩:=q7;exact⟨x7,σ7,H7,I7.nr,r7,q7⟩
end
theorem jQ{K:W.Frag}{a:Addr}{xs:List V}{g:TG}{tb:TS}{D:Ends}{σ:St}{H:Hp}(Pv:Nat→St→Hp→Prop)(h0:Pv 0 σ H)(hl:∀ i σ H,i≤xs.length→Pv i σ H→SqL K H a xs)
    (hs:∀ i x σ H,xs[i]?=some x→Pv i σ H→g x σ H λσ2 H2=>tb {D with nx:=Pv (i+1),ct:=Pv (i+1),bk:=D.nx} σ2 H2) (hd:∀ σ H,Pv xs.length σ H→D.nx σ H) :
    ∃ W:Nat→Nat→St→Hp→Prop,(∃ m,W 0 m σ H)∧∀ i m σ H,W i m σ H →
      ((Itl K a).stop i H∧D.nx σ H)∨((Itl K a).go i H∧∃ N:St→Hp→Prop,(∀ σ' H',N σ' H'→∃ m',m'<m∧W (i+1) m' σ' H')∧∀ x H',(Itl K a).yld i H x H'→g x σ H' λσ2 H2=>tb {D with nx:=N,ct:=N,bk:=D.nx} σ2 H2):=by
  refine⟨λi m σ H=>m=xs.length-i∧i≤xs.length∧Pv i σ H,⟨xs.length,by simp,ajM _,h0⟩,?_⟩;rintro i m σ H ⟨rfl,hi,p⟩;have q:=hl i σ H hi p;by_cases hlt:i<xs.length
  · refine .inr ⟨⟨xs,xs[i],q,by simp[hlt]⟩,Pv (i+1),λσ' H' p'=>⟨xs.length-(i+1),by omega,rfl,hlt,p'⟩,λx H' y=>?_⟩
    obtain⟨e,y⟩:=y;subst e;exact hs i x σ _ (y xs q) p
  · have e:i=xs.length:=by omega
    subst e;exact .inl ⟨⟨xs,q,ajb _⟩,hd σ H p⟩
theorem CG{lo:Int}{n:Nat}{g:TG}{tb:TS}{D:Ends}{σ:St}{H:Hp}(Pv:Nat→St→Hp→Prop)(h0:Pv 0 σ H)
    (hs:∀ i σ H,i<n→Pv i σ H→g (.int (lo+i)) σ H λσ2 H2=>tb {D with nx:=Pv (i+1),ct:=Pv (i+1),bk:=D.nx} σ2 H2) (hd:∀ σ H,Pv n σ H→D.nx σ H) :
    ∃ W:Nat→Nat→St→Hp→Prop,(∃ m,W 0 m σ H)∧∀ i m σ H,W i m σ H →
      ((Itr lo n).stop i H∧D.nx σ H)∨((Itr lo n).go i H∧∃ N:St→Hp→Prop,(∀ σ' H',N σ' H'→∃ m',m'<m∧W (i+1) m' σ' H')∧∀ x H',(Itr lo n).yld i H x H'→g x σ H' λσ2 H2=>tb {D with nx:=N,ct:=N,bk:=D.nx} σ2 H2):=by
  refine⟨λi m σ H=>m=n-i∧i≤n∧Pv i σ H,⟨n,by simp,ajM _,h0⟩,?_⟩;rintro i m σ H ⟨rfl,hi,p⟩;by_cases hlt:i<n
  · refine .inr ⟨hlt,Pv (i+1),λσ' H' p'=>⟨n-(i+1),by omega,rfl,hlt,p'⟩,λx H' y=>?_⟩
    obtain⟨e,y⟩:=y;subst e y;exact hs i σ _ hlt p
  · have e:i=n:=by omega
    subst e;exact .inl ⟨ajb _,hd σ H p⟩
end L2
namespace L2
open PySem PySem.Spec PyProof.Rows
noncomputable abbrev R2:=V→V→Hp→VK→Prop
noncomputable def OpR(X:Cx)(f:Value→Value→Sem Value)(r:R2):Prop :=
  ∀(pins:List (Addr×Obj)) (s:Shared) (σ:St) (H:Hp) (x y:V) (v u:Value) (Q:VK),Inv X pins σ H s→RelV x v→RelV y u→r x y H Q →
    wpAny (model X.prog X.w) X.A (f v u) (EP X pins σ Q) X.xe s
noncomputable def vQ(X:Cx)(f:Value)(r:List V→Hp→VK→Prop):Prop :=
  ∀(pins:List (Addr×Obj)) (s:Shared) (σ:St) (H:Hp) (xs:List V) (us:List Value) (Q:VK),Inv X pins σ H s→Vals xs us→r xs H Q →
    wpAny (model X.prog X.w) X.A (call f us) (EP X pins σ Q) X.xe s
noncomputable def ae1(X:Cx)(r:V→Hp→(Bool→Hp→Prop)→Prop):Prop :=
  ∀(pins:List (Addr×Obj)) (s:Shared) (σ:St) (H:Hp) (x:V) (v:Value) (Q:Bool→Hp→Prop),Inv X pins σ H s→RelV x v→r x H Q →
    wpAny (model X.prog X.w) X.A (truthy v) (TP X pins σ Q) X.xe s
noncomputable def tOp(r:R2)(ta tb:TE):TE:=λσ H Q=>ta σ H λx H1=>tb σ H1 λy H2=>r x y H2 Q
noncomputable def rI(C:Int→Int→Prop)(g:Int→Int→V):R2:=λx y H Q=>∃ i j,x=.int i∧y=.int j∧C i j∧Q (g i j) H
noncomputable def rI0(g:Int→Int→V):R2:=λx y H Q=>∃ i j,x=.int i∧y=.int j∧Q (g i j) H
section
variable{X:Cx}{a b c:Expr}{ta tb tc:TE}{pos:Pos}
theorem VE(ha:PE X a ta)(hb:PE X b tb){pins:List (Addr×Obj)}{s:Shared}{σ:St}{H:Hp}{R:V→V→Hp→Prop}(I:Inv X pins σ H s)
    (h:ta σ H λx H1=>tb σ H1 λy H2=>R x y H2) {Q:Value→Shared→Prop} {f:Value→Value→Sem Value}
    (hf:∀ v u s2 x y H2,Inv X pins σ H2 s2→RelV x v→RelV y u→R x y H2→wpAny (model X.prog X.w) X.A (f v u) Q X.xe s2) :
    wpAny (model X.prog X.w) X.A (eval a X.env) (λv s₁=>wpAny (model X.prog X.w) X.A (eval b X.env) (λu s₂=>wpAny (model X.prog X.w) X.A (f v u) Q X.xe s₂) X.xe s₁) X.xe s:=by
  refine thn (ha pins s σ H _ I h) λv s1 ⟨x,H1,I1,r1,q1⟩=>?_;refine thn (hb pins s1 σ H1 _ I1 q1) λu s2 ⟨y,H2,I2,r2,q2⟩=>?_;exact hf v u s2 x y H2 I2 r1 r2 q2
theorem aO{op:Operator}{r:R2}(ho:OpR X (binaryOp op) r)(ha:PE X a ta)(hb:PE X b tb):PE X (.BinOp a op b pos) (tOp r ta tb):=by
  intro pins s σ H Q I h;exact wpAny_BinOp (VE ha hb I h λv u s2 x y H2 I2 rx ry q=>ho pins s2 σ H2 x y v u Q I2 rx ry q)
theorem opI{f:Value→Value→Sem Value}{C:Int→Int→Prop}{g:Int→Int→Int}
    (rule:∀(i j:Int) (t u:Tok) (s:Shared) (Q:Value→Shared→Prop) (E:Value→Shared→Prop),C i j→Q (.int (g i j) s.toks) {s with toks:=s.toks+1}→wpAny (model X.prog X.w) X.A (f (.int i t) (.int j u)) Q E s) :
    OpR X f (rI C λi j=>.int (g i j)):=by
  intro pins s σ H x y v u Q I rx ry h;obtain⟨i,j,rfl,rfl,hc,q⟩:=h;obtain⟨t,rfl⟩:=rx;obtain⟨t',rfl⟩:=ry;exact rule i j t t' s _ _ hc ⟨.int (g i j),H,I.tok _,⟨_,rfl⟩,q⟩
theorem YI{f:Value→Value→Sem Value}{g:Int→Int→Int}
    (rule:∀(i j:Int) (t u:Tok) (s:Shared) (Q:Value→Shared→Prop) (E:Value→Shared→Prop),Q (.int (g i j) s.toks) {s with toks:=s.toks+1}→wpAny (model X.prog X.w) X.A (f (.int i t) (.int j u)) Q E s) :
    OpR X f (rI0 λi j=>.int (g i j)):=by
  intro pins s σ H x y v u Q I rx ry h;obtain⟨i,j,rfl,rfl,q⟩:=h;obtain⟨t,rfl⟩:=rx;obtain⟨t',rfl⟩:=ry;exact rule i j t t' s _ _ ⟨.int (g i j),H,I.tok _,⟨_,rfl⟩,q⟩
theorem T9{f:Value→Value→Sem Value}{g:Int→Int→Bool}
    (rule:∀(i j:Int) (t u:Tok) (s:Shared) (Q:Value→Shared→Prop) (E:Value→Shared→Prop),Q (.bool (g i j)) s→wpAny (model X.prog X.w) X.A (f (.int i t) (.int j u)) Q E s) :
    OpR X f (rI0 λi j=>.bl (g i j)):=by
  intro pins s σ H x y v u Q I rx ry h;obtain⟨i,j,rfl,rfl,q⟩:=h;obtain⟨t,rfl⟩:=rx;obtain⟨t',rfl⟩:=ry;exact rule i j t t' s _ _ ⟨.bl (g i j),H,I,rfl,q⟩
noncomputable def ae2(i j:Int):Prop:=0<j∧j<1073741824
noncomputable def ae3(i j:Int):Prop:=0≤j∧j≤1000000∧i.natAbs<2 ^ 64
noncomputable def VF(i j:Int):Prop:=(-(2 ^ 64)<i∧i<2 ^ 64)∨(-(2 ^ 64)<j∧j<2 ^ 64)
theorem VF.ok{i j:Int}(h:VF i j):IntMulOk i j:=by
  rcases h with⟨h1,h2⟩|⟨h1,h2⟩
  · exact .of_left (intBits_le_64 h1 h2)
  · exact .of_right (intBits_le_64 h1 h2)
theorem cY:OpR X (binaryOp .Add) (rI0 λi j=>.int (i+j)):=YI λ_ _ _ _ _ _ _ q=>add_int q
theorem UW:OpR X (binaryOp .Sub) (rI0 λi j=>.int (i-j)):=YI λ_ _ _ _ _ _ _ q=>sub_int q
theorem jX:OpR X (binaryOp .Mult) (rI VF λi j=>.int (i*j)):=opI λ_ _ _ _ _ _ _ hc q=>mul_int q hc.ok
theorem qY:OpR X (binaryOp .FloorDiv) (rI ae2 λi j=>.int (i/j)):=opI λi j _ _ _ _ _ hc q=>by
  have h1:(0:Int)<j:=hc.1;have h2:j<1073741824:=hc.2;exact floordiv_int (by omega) (by rw[Int.fdiv_eq_ediv_of_nonneg i (by omega)];exact q) (.inl (PyProof.noPylong_small (by omega)))
theorem iS:OpR X (binaryOp .Mod) (rI (λ_ j=>0<j) λi j=>.int (i%j)):=opI λi j _ _ _ _ _ hc q=>by
  have h1:(0:Int)<j:=hc;exact mod_int' (by omega) (by rw[Int.fmod_eq_emod_of_nonneg i (by omega)];exact q)
theorem DW:OpR X (binaryOp .Pow) (rI ae3 λi j=>.int (i ^ j.toNat)):=opI λ_ _ _ _ _ _ _ hc q=>pow_int_small hc.1 hc.2.1 hc.2.2 q
end
noncomputable def YJ:V→V→Bool
  | .non,.non=>true|.non,.int _=>true|.int _,.non=>true|.non,.bl _=>true|.bl _,.non=>true|.non,.str _=>true|.str _,.non=>true
  | .int _,.int _=>true|.bl _,.bl _=>true|.str _,.str _=>true|.byt _,.byt _=>true
  | .int _,.str _=>true|.str _,.int _=>true|.bl _,.str _=>true|.str _,.bl _=>true
  | _,_=>false
noncomputable def rEq:R2:=λx y H Q=>YJ x y=true∧Q (.bl (decide (x=y))) H
noncomputable def rNe:R2:=λx y H Q=>YJ x y=true∧Q (.bl (!decide (x=y))) H
theorem Ol{i j:Int}:decide (V.int i=V.int j)=(i == j):=by
  rw[akw];simp
theorem Rk{i j:Bool}:decide (V.bl i=V.bl j)=(i == j):=by
  rw[akw];simp
theorem Om{i j:Str}:decide (V.str i=V.str j)=(i == j):=by
  rw[akw];simp
theorem Oo{i j:Array UInt8}:decide (V.byt i=V.byt j)=(i.toList == j.toList):=by
  rw[akw];cases i;cases j;simp
section
variable{X:Cx}{a b c:Expr}{ta tb tc:TE}{pos:Pos}
theorem dz{pins:List (Addr×Obj)}{σ:St}{H:Hp}{s:Shared}{Q:VK}{k k':Bool}(I:Inv X pins σ H s)(q:Q (.bl k) H)(e:k=k'):EP X pins σ Q (.bool k') s:=by
  subst e;exact⟨.bl k,H,I,rfl,q⟩
theorem tW:OpR X (compareOp .Eq) rEq:=by
  intro pins s σ H x y v u Q I rx ry h;obtain⟨hs,q⟩:=h;cases x with
  | non =>
    cases rx;cases y with
    | non=>cases ry;exact PySem.EqNone.eq_none_none (dz I q (by simp))
    | bl j=>cases ry;exact PySem.EqNone.eq_none_bool (dz I q (by simp))
    | int j=>obtain⟨t',rfl⟩:=ry;exact PySem.EqNone.eq_none_int (dz I q (by simp))
    | str j=>obtain⟨t',rfl⟩:=ry;exact PySem.EqNone.eq_none_str (dz I q (by simp))
    | _=>exact absurd (show false=true from hs) ajc
  | bl i =>
    cases rx;cases y with
    | non=>cases ry;exact PySem.EqNone.eq_bool_none (dz I q (by simp))
    | bl j=>cases ry;exact eq_bool (dz I q Rk)
    | str j=>obtain⟨t',rfl⟩:=ry;exact PySem.EqMixed.eq_bool_str (dz I q (by simp))
    | _=>exact absurd (show false=true from hs) ajc
  | int i =>
    obtain⟨t,rfl⟩:=rx;cases y with
    | non=>cases ry;exact PySem.EqNone.eq_int_none (dz I q (by simp))
    | int j=>obtain⟨t',rfl⟩:=ry;exact eq_int (dz I q Ol)
    | str j=>obtain⟨t',rfl⟩:=ry;exact PySem.EqMixed.eq_int_str (dz I q (by simp))
    | _=>exact absurd (show false=true from hs) ajc
  | str i =>
    obtain⟨t,rfl⟩:=rx;cases y with
    | non=>cases ry;exact PySem.EqNone.eq_str_none (dz I q (by simp))
    | bl j=>cases ry;exact PySem.EqMixed.eq_str_bool (dz I q (by simp))
    | int j=>obtain⟨t',rfl⟩:=ry;exact PySem.EqMixed.eq_str_int (dz I q (by simp))
    | str j=>obtain⟨t',rfl⟩:=ry;exact eq_str (dz I q Om)
    | _=>exact absurd (show false=true from hs) ajc
  | byt i =>
    obtain⟨t,rfl⟩:=rx;cases y with
    | byt j=>obtain⟨t',rfl⟩:=ry;exact PySem.W.eq_bytes (dz I q Oo)
    | _=>exact absurd (show false=true from hs) ajc
  | _=>cases y<;>exact absurd (show false=true from hs) ajc
theorem Qh:OpR X (compareOp .NotEq) rNe:=by
  intro pins s σ H x y v u Q I rx ry h;obtain⟨hs,q⟩:=h;cases x with
  | non =>
    cases rx;cases y with
    | non=>cases ry;exact PySem.EqNone.ne_none_none (dz I q (by simp))
    | bl j=>cases ry;exact PySem.EqNone.ne_none_bool (dz I q (by simp))
    | int j=>obtain⟨t',rfl⟩:=ry;exact PySem.EqNone.ne_none_int (dz I q (by simp))
    | str j=>obtain⟨t',rfl⟩:=ry;exact PySem.EqNone.ne_none_str (dz I q (by simp))
    | _=>exact absurd (show false=true from hs) ajc
  | bl i =>
    cases rx;cases y with
    | non=>cases ry;exact PySem.EqNone.ne_bool_none (dz I q (by simp))
    | bl j=>cases ry;exact ne_bool (dz I q (congrArg not Rk))
    | str j=>obtain⟨t',rfl⟩:=ry;exact PySem.EqMixed.ne_bool_str (dz I q (by simp))
    | _=>exact absurd (show false=true from hs) ajc
  | int i =>
    obtain⟨t,rfl⟩:=rx;cases y with
    | non=>cases ry;exact PySem.EqNone.ne_int_none (dz I q (by simp))
    | int j=>obtain⟨t',rfl⟩:=ry;exact ne_int (dz I q (congrArg not Ol))
    | str j=>obtain⟨t',rfl⟩:=ry;exact PySem.EqMixed.ne_int_str (dz I q (by simp))
    | _=>exact absurd (show false=true from hs) ajc
  | str i =>
    obtain⟨t,rfl⟩:=rx;cases y with
    | non=>cases ry;exact PySem.EqNone.ne_str_none (dz I q (by simp))
    | bl j=>cases ry;exact PySem.EqMixed.ne_str_bool (dz I q (by simp))
    | int j=>obtain⟨t',rfl⟩:=ry;exact PySem.EqMixed.ne_str_int (dz I q (by simp))
    | str j=>obtain⟨t',rfl⟩:=ry;exact ne_str (dz I q (congrArg not Om))
    | _=>exact absurd (show false=true from hs) ajc
  | byt i =>
    obtain⟨t,rfl⟩:=rx;cases y with
    | byt j=>obtain⟨t',rfl⟩:=ry;exact PySem.W.ne_bytes (dz I q (congrArg not Oo))
    | _=>exact absurd (show false=true from hs) ajc
  | _=>cases y<;>exact absurd (show false=true from hs) ajc
theorem AZ:OpR X (compareOp .Lt) (rI0 λi j=>.bl (decide (i<j))):=T9 λ_ _ _ _ _ _ _ q=>lt_int q
theorem yl:OpR X (compareOp .LtE) (rI0 λi j=>.bl (decide (i≤j))):=T9 λ_ _ _ _ _ _ _ q=>le_int q
theorem MX:OpR X (compareOp .Gt) (rI0 λi j=>.bl (decide (j<i))):=T9 λ_ _ _ _ _ _ _ q=>gt_int q
theorem XH:OpR X (compareOp .GtE) (rI0 λi j=>.bl (decide (j≤i))):=T9 λ_ _ _ _ _ _ _ q=>ge_int q
theorem qx:OpR X (compareOp .Is) (λx y H Q=>y=.non∧Q (.bl (decide (x=.non))) H):=by
  intro pins s σ H x y v u Q I rx ry h;obtain⟨rfl,q⟩:=h;cases ry;refine is_none_gen (dz I q ?_);cases x<;>first
    | (cases rx;rfl)
    | (obtain⟨t,rfl⟩:=rx;rfl)
theorem J9:OpR X (compareOp .IsNot) (λx y H Q=>y=.non∧Q (.bl (!decide (x=.non))) H):=by
  intro pins s σ H x y v u Q I rx ry h;obtain⟨rfl,q⟩:=h;cases ry;refine isnot_none_gen (dz I q ?_);cases x<;>first
    | (cases rx;rfl)
    | (obtain⟨t,rfl⟩:=rx;rfl)
theorem bC(b:Expr){op:CmpOp}(h:op≠.In:=by decide)(h2:op≠.NotIn:=by decide):behindInMarks op b=false:=by
  have e1:(op == CmpOp.In)=false:=by cases op<;>first|rfl|exact absurd rfl h
  have e2:(op == CmpOp.NotIn)=false:=by cases op<;>first|rfl|exact absurd rfl h2
  cases b<;>simp[behindInMarks,e1,e2]
theorem Bh{op:CmpOp}{r:R2}(ho:OpR X (compareOp op) r)(ha:PE X a ta)(hb:PE X b tb)(hm:behindInMarks op b=false):PE X (.Compare a [op] [b] pos) (tOp r ta tb):=by
  intro pins s σ H Q I h;exact wpAny_Compare1 (VE ha hb I h λv u s2 x y H2 I2 rx ry q=>ho pins s2 σ H2 x y v u Q I2 rx ry q) hm
noncomputable def Ua(t:TE):TT:=λσ H Q=>t σ H λx H'=>∃ k,x=.bl k∧Q k H'
theorem aV{op:CmpOp}{r:R2}(ho:OpR X (compareOp op) r)(ha:PE X a ta)(hb:PE X b tb)(hm:behindInMarks op b=false):PT X (.Compare a [op] [b] pos) (Ua (tOp r ta tb)):=by
  intro pins s σ H Q I h;refine wpAny_isTrue_Compare1 (thn (ha pins s σ H _ I h) λv s1 ⟨x,H1,I1,r1,q1⟩=>thn (hb pins s1 σ H1 _ I1 q1) λu s2 ⟨y,H2,I2,r2,q2⟩ =>
    thn (ho pins s2 σ H2 x y v u _ I2 r1 r2 q2) λc s3 ⟨z,H3,I3,r3,k,e,q3⟩=>?_) hm
  subst e;cases r3;exact wpAny_truthy_bool ⟨H3,I3,q3⟩
noncomputable def UX(r r':R2)(ta tb tc:TE):TE:=λσ H Q=>ta σ H λx H1=>tb σ H1 λy H2=>r x y H2 λz H3=>∃ k,z=.bl k ∧
  (if k=true then tc σ H3 λw' H4=>r' y w' H4 Q else Q (.bl false) H3)
theorem nv{op op':CmpOp}{r r':R2}(ho:OpR X (compareOp op) r)(ho':OpR X (compareOp op') r')(ha:PE X a ta)(hb:PE X b tb)(hc:PE X c tc)
    (hm:lastMarks [op,op'] [b,c]=false:=by with_unfolding_all rfl):PT X (.Compare a [op,op'] [b,c] pos) (Ua (UX r r' ta tb tc)):=by
  intro pins s σ H Q I h;refine isTrue_chain (thn (ha pins s σ H _ I h) λv s1 ⟨x,H1,I1,r1,q1⟩=>test_link (thn (hb pins s1 σ H1 _ I1 q1) λu s2 ⟨y,H2,I2,r2,q2⟩ =>
    thn (ho pins s2 σ H2 x y v u _ I2 r1 r2 q2) λd s3 ⟨z,H3,I3,r3,k,e,q3⟩=>?_)) hm
  subst e;cases r3;refine wpAny_truthy_bool ?_;cases k with
  | false =>
    obtain⟨k',e',q'⟩:=q3;cases e';exact ite_ff ⟨H3,I3,q'⟩
  | true =>
    refine ite_tt (test_last (thn (hc pins s3 σ H3 _ I3 q3) λw' s4 ⟨z',H4,I4,r4,q4⟩=>thn (ho' pins s4 σ H4 y z' u w' _ I4 r2 r4 q4) λd' s5 ⟨z2,H5,I5,r5,k2,e2,q5⟩=>?_));subst e2;cases r5;exact wpAny_truthy_bool ⟨H5,I5,q5⟩
noncomputable def YK(K:W.Frag)(x:V)(H:Hp)(k:Bool):Prop :=
  match x with
  | .non=>k=false
  | .bl b=>k=b
  | .int i=>k=(i != 0)
  | .str y=>y.length≤sizeLine∧k=((y.length:Int) != 0)
  | .byt y=>y.size≤sizeLine∧k=((y.size:Int) != 0)
  | .ref p=>(∃ xs,SqL K H p xs∧k=!xs.isEmpty)∨(∃ xs,SqT K H p xs∧k=!xs.isEmpty)∨∃ kvs,H p=some (.dK kvs)∧k=!kvs.isEmpty
  | _=>False
theorem MY{κ:Type}{kvs:List (κ×V)}{vs:List (κ×Value)}(r:KV kvs vs):(!vs.isEmpty)=!kvs.isEmpty:=by
  cases r<;>rfl
theorem Fb{xs:List V}{its:List Value}(r:Vals xs its):(!its.toArray.isEmpty)=!xs.isEmpty:=by
  cases r<;>simp
theorem F6:(sizeLine:Nat)<2 ^ 63:=by rw[sizeLine_eq];decide
theorem UY:ae1 X (λx H Q=>∃ k,YK X.K x H k∧Q k H):=by
  intro pins s σ H x v Q I rx h;obtain⟨k,e,q⟩:=h;have hl:=F6;have hs:sizeLine=16777216:=sizeLine_eq;cases x with
  | non =>
    cases rx;have e':k=false:=e;subst e';exact truthy_none ⟨H,I,q⟩
  | bl b =>
    cases rx;have e':k=b:=e;subst e';exact wpAny_truthy_bool ⟨H,I,q⟩
  | int i =>
    obtain⟨t,rfl⟩:=rx;have e':k=(i != 0):=e;subst e';exact PySem.P.truthy_int ⟨H,I,q⟩
  | str y =>
    obtain⟨t,rfl⟩:=rx;obtain⟨hy,e'⟩:y.length≤sizeLine∧k=((y.length:Int) != 0):=e;subst e';exact PySem.P.truthy_str (by omega) ⟨H,I.tok _,q⟩
  | byt y =>
    obtain⟨t,rfl⟩:=rx;obtain⟨hy,e'⟩:y.size≤sizeLine∧k=((y.size:Int) != 0):=e;subst e';exact PySem.W.truthy_bytes (by omega) ⟨H,I.tok _,q⟩
  | ref p =>
    cases rx;have e':(∃ xs,SqL X.K H p xs∧k=!xs.isEmpty)∨(∃ xs,SqT X.K H p xs∧k=!xs.isEmpty)∨∃ kvs,H p=some (.dK kvs)∧k=!kvs.isEmpty:=e;rcases e' with⟨xs,hx,e'⟩|⟨xs,hx,e'⟩|⟨kvs,hx,e'⟩
    · subst e'
      obtain⟨its,r,pl,hz⟩:=I.list hx;have hlen:=r.length;exact wpAny_truthy_list pl.isList (by simp only[ajd];omega) ⟨H,I.tok _,by rw[Fb r];exact q⟩
    · subst e'
      obtain⟨its,r,pl,hz⟩:=I.tuple hx;have hlen:=r.length;exact truthy_tuple pl (by simp only[ajd];omega) ⟨H,I.tok _,by rw[Fb r];exact q⟩
    · subst e'
      obtain⟨hz,hS,vs,r,m⟩:kvs.length≤sizeLine∧(p == sysModules)=false∧∃ vs,KV kvs vs∧s.heap.DictOf (cx X.prog X.w) p vs:=I.hok p _ hx;have hlen:kvs.length=vs.length:=akT r;exact wpAny_truthy_dict hS m (by omega) ⟨H,I.tok _,by rw[MY r];exact q⟩
  | _=>exact(show False from e).elim
theorem QG(ha:PE X a ta)(he:∀ whole,isTrue a X.env whole=(do let v ←whole;standAt a.pos;holding [v] (truthy v))) :
    PT X a (λσ H Q=>ta σ H λx H'=>∃ k,YK X.K x H' k∧Q k H'):=by
  intro pins s σ H Q I h;exact isTrue_plain (thn (ha pins s σ H _ I h) λv s1 ⟨x,H1,I1,r1,q1⟩=>UY pins s1 σ H1 x v Q I1 r1 q1) (he _)
theorem vals1{x:V}{us:List Value}(r:Vals [x] us):∃ u,us=[u]∧RelV x u:=by
  cases r with
  | cons r1 r2=>cases r2;exact⟨_,rfl,r1⟩
theorem QH:vQ X (.builtin "abs") (λxs H Q=>∃ i,xs=[.int i]∧Q (.int (if i<0 then -i else i)) H):=by
  intro pins s σ H xs us Q I r h;obtain⟨i,rfl,q⟩:=h;obtain⟨u,rfl,t,rfl⟩:=vals1 r;exact call_abs_int λu tk=>⟨.int (if i<0 then -i else i),H,I.tok _,⟨_,rfl⟩,q⟩
end
end L2
namespace L2
open PySem PySem.Spec PyProof.Rows
structure Qr(h:Heap)(x dx C:Addr)(mA:Str→Option Value):Prop where
  obj:h.get? x=some (PySem.W.instObj C dx)
  ns:h.Ns1 dx mA
  ne:dx≠x
theorem Pe{h:Heap}{dx:Addr}{mA:Str→Option Value}(n:h.Ns1 dx mA):∃ od,h.get? dx=some od∧∀ name,PySem.W.lookIn name od=some (mA name):=by
  obtain⟨o,es,ep,ho,hd,hk,_,hm⟩:=n;refine⟨o,ho,λname=>?_⟩;have e:=hm name;unfold nsFind findBy at e;rw[←Array.find?_toList]at e;unfold PySem.W.lookIn;rw[hd];dsimp only;split
  · rename_i y q
    rw[q]at e;exact congrArg some e
  · rename_i q
    rw[q]at e;have a:es.toList.any (·.refKey)=false:=by
      rw[List.any_eq_false];intro y hy;obtain⟨z,t,ae4⟩:=hk y (Array.mem_toList_iff.mp hy);simp[DictEntry.refKey,ae4]
    have a':¬es.toList.any (·.refKey)=true:=(by rw[a];exact ajc);rw[if_neg a'];exact congrArg some e
theorem Qr.look{h:Heap}{x dx C:Addr}{mA:Str→Option Value}(I:Qr h x dx C mA):∃ od,PySem.W.InstAt h x (PySem.W.instObj C dx) C (some od)∧∀ name,PySem.W.lookIn name od=some (mA name) :=
  let ⟨od,ho,hl⟩:=Pe I.ns
  ⟨od,⟨I.obj,rfl,rfl,ho⟩,hl⟩
section
variable{prog:Program}{w:World}{A:Around}{E:Value→Shared→Prop}{s:Shared}{K:W.Frag}{x dx C f:Addr}{mA:Str→Option Value}{name:Str}{v:Value}
theorem get_map{expr:Bool}{Q:Value→Shared→Prop}(X:K.In s.heap)(I:Qr s.heap x dx C mA)(hg:PySem.W.plainGet K C name=true)(hh:PySem.W.hasDictIn K C=true)
    (ha:PySem.W.findIn K (.ref C) name=some none) (hv:mA name=some v) (hv':PySem.W.handedIn v=true) (h:Q v {s with toks:=s.toks+1}) :
    wpAny (model prog w) A (getAttr (.ref x) name expr) Q E s:=by
  obtain⟨od,J,hl⟩:=I.look;exact PySem.W.get_value X J (PySem.W.plainGet_of hg).1 (PySem.W.findObj_own hh ha rfl (by rw[hl,hv])) hv' h
theorem QI{pl:Sem Bool}{Q:Value×List Value→Shared→Prop}(X:K.In s.heap)(I:Qr s.heap x dx C mA)(hg:PySem.W.plainGet K C name=true)
    (hf:PySem.W.findIn K (.ref C) name=some (some (.ref f))) (ht:PySem.W.isFn K (.ref f)=true) (hv:mA name=none) (h:Q (.ref f,[.ref x]) s) :
    wpAny (model prog w) A (getMethod (.ref x) name pl) Q E s:=by
  obtain⟨od,J,hl⟩:=I.look;exact PySem.W.method_fn X J (PySem.W.plainGet_of hg).1 (PySem.W.plainGet_of hg).2 hf (beq_iff_eq.mp ht) (by show(PySem.W.lookIn name od).map (·.isSome)=some false;rw[hl,hv];rfl) h
theorem SI{ns:List Str}{Q:Unit→Shared→Prop}(X:K.In s.heap)(I:Qr s.heap x dx C mA)
    (hs:PySem.W.findIn K (.ref C) "__setattr__" = some (some (.builtin "object.__setattr__"))) (hp:PySem.W.plainOver K C=true) (ht:PySem.W.takerIn K C name=some none) (hh:PySem.W.hasDictIn K C=true)
    (hw:PySem.Within mA ns) (hsz:ns.length≤sizeLine)
    (h:∀ h',Qr h' x dx C (λy=>if y=name then some v else mA y)→Heap.SameBut dx s.heap h'→Q () {s with heap:=h',toks:=s.toks+2}) :
    wpAny (model prog w) A (setAttr (.ref x) name v) Q E s:=by
  obtain⟨od,J,hl⟩:=I.look;refine PySem.W.set_plain X J hs (PySem.W.osa_open (s:={s with toks:=s.toks+1}) (r:=none) X J hp ht λb=>?_);obtain⟨cd,hc,hd'⟩:=PySem.W.any_some hh;have hx:s.heap.get? x=some ⟨.ref C,some dx,.plain,#[]⟩:=I.obj;refine wpAny_bind (wpAny_pure (wpAny_bind (wpAny_bind (wpAny_loadPart hx (wpAny_bind (PySem.W.Looks.here (s:={s with toks:=s.toks+1}) (PySem.W.looks_clsIn X hc) ?_))))));rw[hd'];refine wpAny_pure (a:=some dx) (wpAny_bind (wpAny_pure (wpAny_bind ?_)));refine wpAny_nsSet1 (s:={s with toks:=s.toks+1}) I.ns λh' hn2 hs2=>?_;obtain⟨oD,esD,epD,hoD,hdD,hcD⟩:=hn2.count (PySem.Within.cons name v hw);refine wpAny_bind (wpAny_lookBehind hoD (by rw[hdD];exact pastItsLine_dict (ajy hcD (by rw[ajE];omega))) ?_);exact wpAny_pure (h _ ⟨(hs2.2 _ (ajm I.ne)).trans I.obj,hn2,I.ne⟩ hs2)
theorem QJ{R:Result→Shared→Prop}{vs:List Value}{kw:List (Str×Value)}(X:K.In s.heap)(hm:PySem.W.makesIn K C=true)
    (hi:PySem.W.findIn K (.ref C) "__init__" = some (some (.ref f))) (hf:PySem.W.typeIn K (.ref f)=some (.type "function"))
    (h:codeAny (model prog w) (A.under (.builtin "type.__call__" ⟨.ref C::vs,kw⟩)) (.call (.ref f) ⟨.ref (s.heap.objs.size+1)::vs,kw⟩) (PySem.W.InitBack (s.heap.objs.size+1) R)
      {s with heap:=(s.heap.push PySem.W.emptyDict).push (PySem.W.instObj C s.heap.objs.size)}) :
    codeAny (model prog w) A (.call (.ref C) ⟨vs,kw⟩) R s:=by
  obtain⟨hh,g,d,t,os⟩:=s;exact PySem.W.make_core (PySem.W.makes_of X hm) (PySem.W.looks_findIn X hi) (λself=>PySem.W.bind_fn X self hf) (.inl rfl) h
end
noncomputable def iK(f:Str)(v:V):List (Str×V)→List (Str×V)
  | []=>[(f,v)]
  | (g,x)::r=>if g=f then(g,v)::r else(g,x)::iK f v r
theorem CT(f g:Str)(v:V):∀ fs:List (Str×V),(iK f v fs).lookup g=if g=f then some v else fs.lookup g
  | []=>by
    show List.lookup g [(f,v)]=_;by_cases h:g=f
    · have hb:(g == f)=true:=beq_iff_eq.mpr h
      simp only[List.lookup,hb,if_pos h]
    · have hb:(g == f)=false:=beq_eq_false_iff_ne.mpr h
      simp only[List.lookup,hb,if_neg h]
  | (k,x)::r=>by
    have ih:=CT f g v r;rw[show iK f v ((k,x)::r)=(if k=f then(k,v)::r else(k,x)::iK f v r) from rfl];by_cases hk:k=f
    · rw[if_pos hk]
      by_cases h:g=k
      · have hb:(g == k)=true:=beq_iff_eq.mpr h
        simp only[List.lookup,hb,if_pos (h.trans hk)]
      · have hb:(g == k)=false:=beq_eq_false_iff_ne.mpr h
        simp only[List.lookup,hb,if_neg (λe:g=f=>h (e.trans hk.symm))]
    · rw[if_neg hk]
      by_cases h:g=k
      · have hb:(g == k)=true:=beq_iff_eq.mpr h
        simp only[List.lookup,hb,if_neg (λe:g=f=>hk (h.symm.trans e))]
      · have hb:(g == k)=false:=beq_eq_false_iff_ne.mpr h
        simp only[List.lookup,hb];exact ih
theorem CI(f:Str)(v:V):∀ fs:List (Str×V),f∈(iK f v fs).map (·.1)∧∀ g,g∈fs.map (·.1)→g∈(iK f v fs).map (·.1)
  | []=>⟨by simp[iK],λg h=>by simp at h⟩
  | (k,x)::r=>by
    obtain⟨i1,i2⟩:=CI f v r;rw[show iK f v ((k,x)::r)=(if k=f then(k,v)::r else(k,x)::iK f v r) from rfl];by_cases hk:k=f
    · rw[if_pos hk]
      subst hk;exact⟨by simp,λg h=>by simpa using h⟩
    · rw[if_neg hk]
      refine⟨?_,λg h=>?_⟩
      · rw[aju]
        exact ajv _ i1
      · rw[aju]at h ⊢
        rcases ajo.mp h with e|e
        · exact ajo.mpr (.inl e)
        · exact ajv _ (i2 g e)
theorem CU(f:Str)(v:V):∀ fs:List (Str×V),(iK f v fs).length≤fs.length+1
  | []=>by simp[iK]
  | (k,x)::r=>by
    have ih:=CU f v r;rw[show iK f v ((k,x)::r)=(if k=f then(k,v)::r else(k,x)::iK f v r) from rfl];by_cases hk:k=f
    · rw[if_pos hk,ajE,ajE];omega
    · rw[if_neg hk,ajE,ajE];omega
theorem yh.some_of{v:V}{o:Option Value}(r:yh (some v) o):∃ u,o=some u∧RelV v u:=by
  cases o with
  | none=>exact(show False from r).elim
  | some u=>exact⟨u,rfl,r⟩
theorem yh.none_of{o:Option Value}(r:yh none o):o=none:=by
  cases o with
  | none=>rfl
  | some u=>exact(show False from r).elim
theorem Pf{v:V}{u:Value}(r:RelV v u):PySem.W.handedIn u=true:=by
  cases v with
  | non=>cases (show u=Value.none from r);rfl
  | bl b=>cases (show u=Value.bool b from r);rfl
  | int i=>obtain⟨t,e⟩:=(show ∃ t,u=Value.int i t from r);cases e;rfl
  | str x=>obtain⟨t,e⟩:=(show ∃ t,u=Value.str x t from r);cases e;rfl
  | byt b=>obtain⟨t,e⟩:=(show ∃ t,u=Value.bytes b t from r);cases e;rfl
  | flt b=>obtain⟨t,e⟩:=(show ∃ t,u=Value.float b t from r);cases e;rfl
  | ref a=>cases (show u=Value.ref a from r);rfl
  | ty n=>cases (show u=Value.type n from r);rfl
section
variable{P:Program}{w:World}{H H':Hp}{h h':Heap}{a C dx:Addr}{fs fs':List (Str×V)}
theorem Ka(hok:HOk P w H h)(e:H a=some (.ins C dx fs)):∃ mA,Qr h a dx C mA∧(∀ f,yh (fs.lookup f) (mA f))∧PySem.Within mA (fs.map (·.1))∧fs.length≤1000∧H dx=some (.own a):=by
  obtain⟨d,z,ne,ob,mA,n,r,q⟩:=(show iJ P w H h a (.ins C dx fs) from hok a _ e);exact⟨mA,⟨ob,n,ne⟩,r,q,z,d⟩
end
structure Cls(K:W.Frag)(C:Addr):Prop where
  pg:PySem.W.plainGet K C Str.empty=true
  hd:PySem.W.hasDictIn K C=true
  po:PySem.W.plainOver K C=true
  sa:PySem.W.findIn K (.ref C) "__setattr__" = some (some (.builtin "object.__setattr__"))
theorem Cls.get{K:W.Frag}{C:Addr}(c:Cls K C)(f:Str):PySem.W.plainGet K C f=true:=c.pg
noncomputable def eD(K:W.Frag)(C:Addr)(f:Str):Prop:=PySem.W.findIn K (.ref C) f=some none
theorem eD.XI{K:W.Frag}{C:Addr}{f:Str}(n:eD K C f):PySem.W.takerIn K C f=some none:=by
  unfold PySem.W.takerIn;rw[show PySem.W.findIn K (.ref C) f=some none from n];rfl
structure Meth(K:W.Frag)(C:Addr)(m:Str)(f:Addr):Prop where
  at_:PySem.W.findIn K (.ref C) m=some (some (.ref f))
  fn:PySem.W.isFn K (.ref f)=true
  kp:PySem.W.keepIn K (.ref f)=true
section
variable{X:Cx}{pins:List (Addr×Obj)}{σ:St}{H:Hp}{s:Shared}{a C dx:Addr}{fs:List (Str×V)}{f:Str}{v:V}{A:Around}{E:Value→Shared→Prop}
theorem MZ{b:Bool}{Q:Value→Shared→Prop}(I:Inv X pins σ H s)(e:H a=some (.ins C dx fs))(c:Cls X.K C)(n:eD X.K C f)(l:fs.lookup f=some v)
    (h:∀ u s',Inv X pins σ H s'→RelV v u→Q u s'):wpAny (model X.prog X.w) A (getAttr (.ref a) f b) Q E s:=by
  obtain⟨mA,O,r,_,_,_⟩:=Ka I.hok e;obtain⟨u,hu,ru⟩:=yh.some_of (v:=v) (o:=mA f) (by rw[←l];exact r f);exact get_map I.kIn O (c.get f) c.hd n hu (Pf ru) (h u _ (I.tok _) ru)
theorem Fc{m:Str}{g:Addr}{pl:Sem Bool}{Q:Value×List Value→Shared→Prop}(I:Inv X pins σ H s)(e:H a=some (.ins C dx fs))(c:Cls X.K C)(k:Meth X.K C m g)(l:fs.lookup m=none)
    (h:Q (.ref g,[.ref a]) s):wpAny (model X.prog X.w) A (getMethod (.ref a) m pl) Q E s:=by
  obtain⟨mA,O,r,_,_,_⟩:=Ka I.hok e;have hn:mA m=none:=yh.none_of (by rw[←l];exact r m);exact QI I.kIn O (c.get m) k.at_ k.fn hn h
theorem M0{y:V}{u:Value}{Q:Unit→Shared→Prop}(I:Inv X pins σ H s)(e:H a=some (.ins C dx fs))(c:Cls X.K C)(n:eD X.K C f)(hl:fs.length<1000)(ry:RelV y u)
    (h:∀ s',Inv X pins σ (upd H a (.ins C dx (iK f y fs))) s'→Q () s'):wpAny (model X.prog X.w) A (setAttr (.ref a) f u) Q E s:=by
  obtain⟨mA,O,r,wi,_,ho⟩:=Ka I.hok e;have hz:(fs.map (·.1)).length≤sizeLine:=by rw[ai8,sizeLine_eq];omega
  refine SI I.kIn O c.sa c.po n.XI c.hd wi hz λh' O' sb=>h _ ?_;have hd:∃ o,h'.get? dx=some o:=let ⟨o,_,_,e',_⟩:=O'.ns;⟨o,e'⟩;refine I.write (x:=a) (e:=dx) (by rw[e];exact True.intro) (.inr ho) (λb q hb z=>(sb.2 b hb).trans z) hd ?_;refine⟨by rw[af O.ne];exact ho,?_,O.ne,O'.obj,_,O'.ns,λg=>?_,λg hg=>?_⟩
  · have:=CU f y fs;omega
  · show yh ((iK f y fs).lookup g) (if g=f then some u else mA g)
    rw[CT];by_cases q:g=f
    · rw[if_pos q,if_pos q];exact ry
    · rw[if_neg q,if_neg q];exact r g
  · by_cases q:g=f
    · rw[q];exact(CI f y fs).1
    · refine(CI f y fs).2 g (wi g λz=>hg ?_)
      show(if g=f then some u else mA g)=none;rw[if_neg q];exact z
theorem Inv.made(I:Inv X pins σ H s):Inv X pins σ (upd (upd H s.heap.objs.size (.own (s.heap.objs.size+1))) (s.heap.objs.size+1) (.ins C s.heap.objs.size []))
    {s with heap:=(s.heap.push PySem.W.emptyDict).push (PySem.W.instObj C s.heap.objs.size)}:=by
  have e1:(s.heap.push PySem.W.emptyDict).get? s.heap.objs.size=some PySem.W.emptyDict:=ajC s.heap rfl;have e2:((s.heap.push PySem.W.emptyDict).push (PySem.W.instObj C s.heap.objs.size)).get? (s.heap.objs.size+1)=some (PySem.W.instObj C s.heap.objs.size):=by
    have:=ajC (s.heap.push PySem.W.emptyDict) (o:=PySem.W.instObj C s.heap.objs.size) rfl
    rwa[akr]at this
  have e3:(s.heap.push PySem.W.emptyDict).Ns s.heap.objs.size (λ_=>none):=⟨PySem.W.emptyDict,#[],_,e1,rfl,(λe he=>absurd he (by simp)),λ_=>rfl⟩;have I1:=I.laid (a:=s.heap.objs.size) (o:=.own (s.heap.objs.size+1)) (h':=s.heap.push PySem.W.emptyDict) (t':=s.toks) (λb u q=>aja _ q) (ajb _) ⟨_,e1⟩;refine I1.laid (a:=s.heap.objs.size+1) (o:=.ins C s.heap.objs.size []) (t':=s.toks) (λb u q=>aja _ q) (Nat.le_of_eq (akr _ _)) ?_;have ne:s.heap.objs.size≠s.heap.objs.size+1:=ajl (akH _);refine⟨by rw[af ne,ah],ajM _,ne,e2,λ_=>none,(Heap.Ns1.of_empty e3).at λo q=>aja _ q,λ_=>True.intro,λy hy=>absurd rfl hy⟩
theorem SJ{prog:Program}{w:World}{env:Env}{e:Expr}{f:Str}{pos:Pos}{s:Shared}{Q:Value→Shared→Prop}(hb:attributeBase e f env (eval e env)=eval e env)
    (h:wpAny (model prog w) A (eval e env) (λo s₁=>wpAny (model prog w) A (getAttr o f true) Q E s₁) E s):wpAny (model prog w) A (eval (.Attribute e f pos) env) Q E s :=
  Attribute_any_ h (by rw[arm_eval_Attribute,hb])
end
noncomputable def YL(K:W.Frag)(ta:TE)(f:Str):TE:=λσ H Q=>ta σ H λx H1=>∃ a C dx fs v,x=.ref a∧H1 a=some (.ins C dx fs)∧Cls K C∧eD K C f∧fs.lookup f=some v∧Q v H1
noncomputable def ae5(K:W.Frag)(ta tv:TE)(f:Str):TS:=λD σ H=>tv σ H λy H1=>ta σ H1 λx H2=>∃ a C dx fs,x=.ref a∧H2 a=some (.ins C dx fs)∧Cls K C∧eD K C f∧fs.length<1000 ∧
  D.nx σ (upd H2 a (.ins C dx (iK f y fs)))
section
variable{X:Cx}{o e value:Expr}{f:Str}{pos pos' ae6:Pos}{ta tv:TE}
theorem aI(he:PE X e ta)(hb:attributeBase e f X.env (eval e X.env)=eval e X.env):PE X (.Attribute e f pos) (YL X.K ta f):=by
  intro pins s σ H Q I h;refine SJ hb (thn (he pins s σ H _ I h) λu s1 ⟨x,H1,I1,rx,a,C,dx,fs,v,ex,ea,c,n,l,q⟩=>?_);subst ex;obtain rfl:u=Value.ref a:=rx;exact MZ I1 ea c n l λu' s2 I2 ru=>⟨v,H1,I2,ru,q⟩
theorem hJ(ha:PE X o ta)(hv:PE X value tv)(hs:swapsWith value (some (.Attribute o f pos')) pos.line X.env=pure false):PS X (.Assign [.Attribute o f pos'] value pos) (ae5 X.K ta tv f):=by
  intro pins s σ H D I h;refine plainObj_wpAny_Assign_Attribute (thn (hv pins s σ H _ I h) λu s1 ⟨y,H1,I1,ry,q⟩=>thn (ha pins s1 σ H1 _ I1 q) λov s2 ⟨x,H2,I2,rx,a,C,dx,fs,ex,ea,c,n,l,q2⟩=>?_) hs;subst ex;obtain rfl:ov=Value.ref a:=rx;exact M0 I2 ea c n l ry λs3 I3=>⟨σ,_,I3,q2⟩
end
section
variable{X:Cx}{pins:List (Addr×Obj)}{σ:St}{H:Hp}{s:Shared}{A:Around}{E:Value→Shared→Prop}{Q:Value→Shared→Prop}{c:Value}{b:Bool}
end
end L2
namespace L2
open PySem PySem.Spec PyProof.Rows
structure nI(k:Nat)(A:Around):Prop where
  hd:A.handled=none
  dp:A.depth+3*k+5<recursionLimit
  un:A.units+16*k+200<cLine
theorem nI.mono{j k:Nat}{A:Around}(r:nI k A)(h:j≤k):nI j A:=⟨r.hd,by have:=r.dp;omega,by have:=r.un;omega⟩
theorem nI.deeper{k:Nat}{A:Around}(r:nI (k+1) A)(env:Env):nI k (A.deeper env) :=
  ⟨r.hd,by have:=r.dp;show A.depth+1+3*k+5<_;omega,by have:=r.un;show A.units+3+16*k+200<_;omega⟩
theorem M4{A:Around}{C:Addr}{us:List Value}{kw:List (Str×Value)}:(A.under (.builtin "type.__call__" ⟨.ref C::us,kw⟩)).depth=A.depth+1:=by
  first|rfl|simp[Around.under,Code.weight,Code.isCreation,Code.isGuard,Code.isCaller,Code.frames,Code.isFrame,guardIds]
theorem M5{A:Around}{C:Addr}{us:List Value}{kw:List (Str×Value)}:(A.under (.builtin "type.__call__" ⟨.ref C::us,kw⟩)).units=A.units+1:=by
  first|rfl|simp[Around.under,Code.cUnits,Code.frames,Code.isFrame]
theorem nI.make{k:Nat}{A:Around}(r:nI (k+1) A)(C:Addr)(us:List Value)(kw:List (Str×Value)):nI k (A.under (.builtin "type.__call__" ⟨.ref C::us,kw⟩)) :=
  ⟨r.hd,by have:=r.dp;rw[M4];omega,by have:=r.un;rw[M5];omega⟩
theorem nI.depth{k:Nat}{A:Around}(r:nI k A):A.depth<recursionLimit:=by have:=r.dp;omega
theorem nI.units{k:Nat}{A:Around}(r:nI k A):A.units+64<cLine:=by have:=r.un;omega
theorem nI.UZ{k:Nat}{A:Around}(r:nI k A):A.units<cLine:=by have:=r.un;omega
noncomputable def VG:TA:=λ_ H Q=>Q [] H
noncomputable def XJ(ta:TE)(tr:TA):TA:=λσ H Q=>ta σ H λx H1=>tr σ H1 λxs H2=>Q (x::xs) H2
section
variable{X:Cx}{e:Expr}{es:List Expr}{te:TE}{t:TA}{pos:Pos}
theorem aj:PA X [] VG:=λ_ _ _ _ H Q I h=>akR ⟨[],H,I,.nil,h⟩
theorem ab(ha:PE X e te)(hr:PA X es t)(hs:starEach (e::es) X.env=(false,eval e X.env)::starEach es X.env:=by rfl):PA X (e::es) (XJ te t):=by
  intro pos pins s σ H Q I h;rw[hs];show wpAny _ _ (spliced ((false,eval e X.env)::backTo pos (starEach es X.env))) _ _ s;refine akx (thn (ha pins s σ H _ I h) λu s1 ⟨x,H1,I1,r1,q1⟩=>?_);exact thn (hr pos pins s1 σ H1 _ I1 q1) λus s2 ⟨xs,H2,I2,r2,q2⟩=>⟨x::xs,H2,I2,.cons r1 r2,q2⟩
noncomputable def ae7(t:TA):TE:=λσ H Q=>t σ H λxs H1=>xs.length≤sizeLine∧∀ p,H1 p=none→Q (.ref p) (upd H1 p (.tup xs))
noncomputable def ae8(t:TA):TE:=λσ H Q=>t σ H λxs H1=>xs.length≤sizeLine∧∀ p,H1 p=none→Q (.ref p) (upd H1 p (.lst xs))
theorem iT{x1}(h:PA X es t):PE X (.Tuple es x1 pos) (ae7 t):=by
  intro pins s σ H Q I hq;refine wpAny_Tuple_spliced (thn (h pos pins s σ H _ I hq) λus s1 ⟨xs,H1,I1,r,z,q⟩=>⟨by rw[←r.length];exact z,?_⟩);have hf:H1 s1.heap.objs.size=none:=I1.hok.fresh (ajb _);refine⟨.ref s1.heap.objs.size,upd H1 s1.heap.objs.size (.tup xs),I1.laid (t':=s1.toks) (λb u e=>aja _ e) (ajb _) ?_,rfl,q _ hf⟩;exact⟨z,us,r,⟨_,ajC _ rfl,rfl,_,rfl⟩⟩
theorem jY(h:PA X es t):PE X (.List es pos) (ae8 t):=by
  intro pins s σ H Q I hq;refine wpAny_List_spliced (thn (h pos pins s σ H _ I hq) λus s1 ⟨xs,H1,I1,r,z,q⟩=>⟨by rw[←r.length];exact z,?_⟩);have hf:H1 s1.heap.objs.size=none:=I1.hok.fresh (ajb _);refine⟨.ref s1.heap.objs.size,upd H1 s1.heap.objs.size (.lst xs),I1.laid (t':=s1.toks) (λb u e=>aja _ e) (ajb _) ?_,rfl,q _ hf⟩;exact⟨z,us,0,r,ajC _ rfl⟩
end
noncomputable abbrev Sp:=List V→Hp→VK→XK→Prop
noncomputable abbrev CXT:=List Env→Hp→Shared→XK→Value→Shared→Prop
structure Qs(P:Program)(w:World)(K:W.Frag)(mg:Str→Option Value)(base:Heap)(A:Around)(outer:List Env)(s:Shared)(H:Hp):Prop where
  frames:A.frames=some outer
  mod:Mod K mg base
  bs:∀ b o,base.get? b=some o→s.heap.get? b=some o∧H b=none
  bsz:base.objs.size≤s.heap.objs.size
  D3:s.heap.FunFrames base outer
  frf:∀ b∈frs outer,H b=none
  hok:HOk P w H s.heap
  bare:AllBare s.gens
noncomputable def CE(outer:List Env)(P:Program)(w:World)(H:Hp)(s:Shared)(Q:VK)(u:Value)(s':Shared):Prop :=
  ∃ v H',s'.os=s.os∧AllBare s'.gens∧Un (frs outer) [] H H' s.heap s'.heap∧HOk P w H' s'.heap∧RelV v u∧Q v H'
noncomputable def CR(CX:CXT)(outer:List Env)(P:Program)(w:World)(H:Hp)(s:Shared)(Q:VK)(E:XK)(r:Result)(s':Shared):Prop :=
  match r with
  | .ok (.ret u)=>CE outer P w H s Q u s'
  | .ok _=>False
  | .error e=>CX outer H s E e s'
structure Bi(P:Program)(w:World)(K:W.Frag)(mg:Str→Option Value)(base:Heap)(CX:CXT)(k:Nat)(f:Addr)(fd:FuncData)(ps:List Str)(sp:Sp):Prop where
  len:∀ vs H Q E,sp vs H Q E→vs.length=ps.length
  run:∀(A:Around) (outer:List Env) (s:Shared) (H:Hp) (args:Args) (us:List Value) (vs:List V) (Q:VK) (E:XK),nI k A→Qs P w K mg base A outer s H→BindsTo s fd args (ps.zip us)→Vals vs us→sp vs H Q E →
    codeAny (model P w) A (.call (.ref f) args) (CR CX outer P w H s Q E) s
theorem Qs.make{P:Program}{w:World}{K:W.Frag}{mg:Str→Option Value}{base:Heap}{A:Around}{outer:List Env}{s:Shared}{H:Hp}(e:Qs P w K mg base A outer s H)(C:Addr)(us:List Value)(kw:List (Str×Value)) :
    Qs P w K mg base (A.under (.builtin "type.__call__" ⟨.ref C::us,kw⟩)) outer s H:=⟨by first|exact e.frames|(simpa[Around.under,Code.envs,Code.isFrame,pushEnvs] using e.frames),e.mod,e.bs,e.bsz,e.D3,e.frf,e.hok,e.bare⟩
section
variable{X:Cx}{pins:List (Addr×Obj)}{σ:St}{H:Hp}{s s':Shared}
theorem Inv.VH(I:Inv X pins σ H s):Qs X.prog X.w X.K X.mg X.base X.A X.stack s H :=
  ⟨I.ok.frames,I.ok.mod,I.bs,ajy I.ok.bsz I.sz,I.stack,I.Bg,I.hok,I.bare⟩
theorem Inv.after{Q:VK}{u:Value}(I:Inv X pins σ H s)(h:CE X.stack X.prog X.w H s Q u s'):EP X pins σ Q u s':=by
  obtain⟨v,H',os,bare,un,hok,r,q⟩:=h;obtain⟨hh,g,d,t,os'⟩:=s';obtain rfl:os'=s.os:=os;exact⟨v,H',I.call (h':=hh) (g':=g) (d':=d) (t':=t) (ch:=[]) un hok bare (λb z=>absurd z (by simp)),r,q⟩
end
noncomputable def Ub(C:Addr)(sp:Sp)(dvs:List V)(E:XK)(t:TA):TE:=λσ H Q=>t σ H λvs H1=>∀ x dx,H1 x=none→H1 dx=none→dx≠x →
  sp (.ref x::(vs++dvs)) (upd (upd H1 dx (.own x)) x (.ins C dx [])) (λv H2=>v=.non∧Q (.ref x) H2) E
noncomputable def Binds(K:W.Frag)(fd:FuncData)(ps:List Str)(ds:List Value):Prop :=
  ∀(s:Shared) (us:List Value),K.In s.heap→(us++ds).length=ps.length→BindsTo s fd ⟨us,[]⟩ (ps.zip (us++ds))
theorem Binds.all{K:W.Frag}{fd:FuncData}{ps:List Str}(h:∀ us:List Value,us.length=ps.length→bindArgs fd ⟨us,[]⟩=pure (ps.zip us)):Binds K fd ps []:=λs us _ hl=>by
  rw[ajV]at hl ⊢;exact .of_eq (h us hl)
noncomputable def Passes(CX:CXT)(X:Cx)(E:XK):Prop:=∀(pins:List (Addr×Obj)) (σ:St) (H:Hp) (s:Shared) (e:Value) (s':Shared),Inv X pins σ H s→CX X.stack H s E e s'→X.xe e s'
section
variable{X:Cx}{CX:CXT}{k:Nat}{f C:Addr}{fd:FuncData}{ps:List Str}{sp:Sp}{dvs:List V}{ds:List Value}{E:XK}{x m:Str}{p pos apos:Pos}{e o:Expr}{es:List Expr}{ta:TE}{t:TA}
structure Mk(K:W.Frag)(C f:Addr):Prop where
  makes:PySem.W.makesIn K C=true
  init:PySem.W.findIn K (.ref C) "__init__" = some (some (.ref f))
  fn:PySem.W.isFn K (.ref f)=true
  kp:PySem.W.keepIn K (.ref C)=true
theorem LW{pins:List (Addr×Obj)}{σ:St}{H:Hp}{s:Shared}{Q:VK}{us:List Value}{vs:List V}(M:Mk X.K C f)(F:Bi X.prog X.w X.K X.mg X.base CX k f fd ps sp)(hr:nI (k+1) X.A)(hb:Binds X.K fd ps ds)(hd:Vals dvs ds)
    (hx:Passes CX X E) (I:Inv X pins σ H s) (r:Vals vs us)
    (h:∀ x dx,H x=none→H dx=none→dx≠x→sp (.ref x::(vs++dvs)) (upd (upd H dx (.own x)) x (.ins C dx [])) (λv H2=>v=.non∧Q (.ref x) H2) E) :
    wpAny (model X.prog X.w) X.A (call (.ref C) us) (EP X pins σ Q) X.xe s:=by
  have hq:=h (s.heap.objs.size+1) s.heap.objs.size (I.hok.fresh (akD _)) (I.hok.fresh (ajb _)) (ajl (akH _));have I2:=Inv.made (C:=C) I;have r2:Vals (V.ref (s.heap.objs.size+1)::(vs++dvs)) (Value.ref (s.heap.objs.size+1)::(us++ds)):=.cons rfl (r.append hd);have hl:(Value.ref (s.heap.objs.size+1)::us++ds).length=ps.length:=by
    have e:=r2.length;rw[F.len _ _ _ _ hq]at e;exact e.symm
  refine wpAny_call (QJ (f:=f) I.kIn M.makes M.init (beq_iff_eq.mp M.fn) (codeAny_mono (F.run _ X.stack _ _ ⟨Value.ref (s.heap.objs.size+1)::us,[]⟩ (Value.ref (s.heap.objs.size+1)::(us++ds)) _ _ E (hr.make C us [])
    (I2.VH.make C us []) (hb _ (Value.ref (s.heap.objs.size+1)::us) I2.kIn hl) r2 hq) λr s' hq'=>?_))
  cases r with
  | error e=>exact hx pins σ _ _ e s' I2 hq'
  | ok fl =>
    cases fl with
    | ret u =>
      obtain⟨v,H',I3,rv,ev,q3⟩:=I2.after hq';subst ev;exact⟨rv,⟨V.ref (s.heap.objs.size+1),H',I3,rfl,q3⟩⟩
    | next=>exact False.elim hq'
    | brk=>exact False.elim hq'
    | cont=>exact False.elim hq'
theorem Oq(M:Mk X.K C f)(F:Bi X.prog X.w X.K X.mg X.base CX k f fd ps sp)(hr:nI (k+1) X.A)(hg:Gl X x)(hm:X.mg x=some (.ref C))(hb:Binds X.K fd ps ds)(hd:Vals dvs ds)(hx:Passes CX X E)
    (ha:PA X (e::es) t) (hdb:(x == ("__debug__" : Str))=false:=by decide) (he:starEach (e::es) X.env=(false,eval e X.env)::starEach es X.env:=by rfl) (hpl:(backTo pos (starEach es X.env)).any (·.1)=false:=by rfl) :
    PE X (.Call (.Name x p) (e::es) [] pos) (Ub C sp dvs E t):=by
  intro pins s σ H Q I h;refine wpAny_Call_Name_kw (tT I hg hm ?_ hdb);refine PySem.W.callWith_K (h₀:=X.base) I.ok.mod.kin M.kp (thn (ha pos pins s σ H _ I h) λus s1 ⟨vs,H1,I1,r,q⟩=>⟨I1.kIn,?_⟩) he hpl;exact LW M F hr hb hd hx I1 r q
theorem FF(M:Mk X.K C f)(F:Bi X.prog X.w X.K X.mg X.base CX k f fd ps sp)(hr:nI (k+1) X.A)(hg:Gl X x)(hm:X.mg x=some (.ref C))(hb:Binds X.K fd ps ds)(hd:Vals dvs ds)(hx:Passes CX X E)
    (hdb:(x == ("__debug__" : Str))=false:=by decide):PE X (.Call (.Name x p) [] [] pos) (Ub C sp dvs E VG):=by
  intro pins s σ H Q I h;refine wpAny_Call_Name_kw (tT I hg hm ?_ hdb);exact PySem.W.callWith_K0 I.kIn M.kp (LW (us:=[]) M F hr hb hd hx I .nil h)
end
section
variable{X:Cx}{CX:CXT}{k:Nat}{f C:Addr}{fd:FuncData}{ps ks:List Str}{sp:Sp}{E:XK}{x m:Str}{p pos apos ai4:Pos}{e o:Expr}{es:List Expr}{kws:List Keyword}{te ta:TE}{t tk:TA}{nm:Option Str}
variable{g:List Value→List Value→List Value}{gV:List V→List V→List V}
end
structure aw(N P:List Str)(sc:Scope):Prop where
  kind:sc.kind=.function
  co:sc.isCoroutine=false
  gen:sc.isGenerator=false
  nd:N.Nodup
  pre:N.take P.length=P
  par:∀ x∈P,sc.names.lookup x=some .local∨sc.names.lookup x=some .cell
  U0:∀ y∈sc.names,y.2≠.free
theorem HE{kindOf:Str→Option NameKind}{x:Str}:∀ {binds:List (Str×Value)} {m:Str→Option Value},(∀ v,(x,v)∉binds)→bindL kindOf binds m x=m x
  | [],_,_=>rfl
  | (n,v)::r,m,h=>by
    unfold bindL;rw[HE λw hw=>h w (ajv _ hw)];split
    · have:x≠n:=by rintro rfl;exact h v ajt
      simp[this]
    · rfl
theorem HF{kindOf:Str→Option NameKind}{x:Str}:∀ {binds:List (Str×Value)} {m:Str→Option Value},(∀ v,(x,v)∉binds)→bindC kindOf binds m x=m x
  | [],_,_=>rfl
  | (n,v)::r,m,h=>by
    unfold bindC;rw[HF λw hw=>h w (ajv _ hw)];split
    · rfl
    · have:x≠n:=by rintro rfl;exact h v ajt
      simp[this]
theorem HG{kindOf:Str→Option NameKind}{x:Str}{v:Value}:∀ {P:List Str} {vs:List Value} {i:Nat} {m:Str→Option Value},P.Nodup→P[i]?=some x→vs[i]?=some v→kindOf x=some .local →
    bindL kindOf (P.zip vs) m x=some v
  | [],_,_,_,_,h,_,_=>by simp at h
  | _::_,[],_,_,_,_,h,_=>by simp at h
  | p::P,w::vs,0,m,nd,h1,h2,hk=>by
    simp at h1 h2;subst h1;subst h2;show bindL kindOf ((p,w)::P.zip vs) m p=_;unfold bindL;rw[HE λv hv=>(akl.mp nd).1 (akU hv).1,if_pos hk];simp
  | p::P,w::vs,i+1,m,nd,h1,h2,hk=>by
    show bindL kindOf ((p,w)::P.zip vs) m x=_;unfold bindL;exact HG (i:=i) (akl.mp nd).2 (by simpa using h1) (by simpa using h2) hk
theorem HH{kindOf:Str→Option NameKind}{x:Str}{v:Value}:∀ {P:List Str} {vs:List Value} {i:Nat} {m:Str→Option Value},P.Nodup→P[i]?=some x→vs[i]?=some v→kindOf x≠some .local →
    bindC kindOf (P.zip vs) m x=some v
  | [],_,_,_,_,h,_,_=>by simp at h
  | _::_,[],_,_,_,_,h,_=>by simp at h
  | p::P,w::vs,0,m,nd,h1,h2,hk=>by
    simp at h1 h2;subst h1;subst h2;show bindC kindOf ((p,w)::P.zip vs) m p=_;unfold bindC;rw[HF λv hv=>(akl.mp nd).1 (akU hv).1,if_neg hk];simp
  | p::P,w::vs,i+1,m,nd,h1,h2,hk=>by
    show bindC kindOf ((p,w)::P.zip vs) m x=_;unfold bindC;exact HH (i:=i) (akl.mp nd).2 (by simpa using h1) (by simpa using h2) hk
noncomputable def start(N:List Str)(vs:List V):St:=vs.map some++List.replicate (N.length-vs.length) none
noncomputable def Rl(CX:CXT)(P:Program)(w:World)(K:W.Frag)(mg:Str→Option Value)(base:Heap)(N:List Str)(qual:Str)(scope:Scope)(f:Addr)(cd:Value)(A:Around)(outer:List Env)(s:Shared)(H:Hp)(E:XK):Cx where
  prog:=P
  w:=w
  K:=K
  mg:=mg
  base:=base
  A:=A.deeper (envOfC qual scope s.heap.objs.size f cd)
  N:=N
  s₀:=s
  H₀:=H
  env:=envOfC qual scope s.heap.objs.size f cd
  outer:=outer
  stack:=envOfC qual scope s.heap.objs.size f cd::outer
  ex:=[]
  calm:=true
  fn:=λ_=>true
  pn:=[]
  xe:=λe s'=>wpAny (model P w) (A.deeper (envOfC qual scope s.heap.objs.size f cd)) (leaving (envOfC qual scope s.heap.objs.size f cd) e) (λ_ s''=>CX outer H s E e s'') (λe' s''=>CX outer H s E e' s'') s'
theorem LY{sc:Scope}{n:Nat}{x:Str}(h:sc.names.lookup x=some .cell):∃ c,(cellsFrom n sc.names []).lookup x=some c:=by
  have q:=PySem.W.cellsFrom_some sc.names n [] (.inl h);exact akv.mp q
theorem Pg{CX:CXT}{P:Program}{w:World}{K:W.Frag}{mg:Str→Option Value}{base:Heap}{N ps:List Str}{qual:Str}{scope:Scope}{f:Addr}{cd:Value}{A:Around}{outer:List Env}{s s1:Shared}{H:Hp}{E:XK}{us:List Value}{vs:List V}
    (S:aw N ps scope) (hd:A.handled=none) (e0:Qs P w K mg base A outer s H) (hl:vs.length=ps.length) (r:Vals vs us)
    (x:InCallC s s.heap.objs.size (bindL (envOfC qual scope s.heap.objs.size f cd).kindOf (ps.zip us) λ_=>none) (cellsFrom (s.heap.objs.size+1) scope.names []) (bindC (envOfC qual scope s.heap.objs.size f cd).kindOf (ps.zip us) λ_=>none) s1) :
    Inv (Rl CX P w K mg base N qual scope f cd A outer s H E) [] (start N vs) H s1:=by
  have hpl:ps.length≤N.length:=by have:=congrArg List.length S.pre;rw[ajp]at this;omega
  obtain⟨h1,tk,rfl,hk⟩:=x.done;have noA:∀ b:Addr,b∉(Rl CX P w K mg base N qual scope f cd A outer s H E).ex:=λb z=>absurd (show b∈([]:List Addr) from z) (by simp);refine⟨⟨e0.mod,S.kind,rfl,rfl,ajb _,λy z c h1 h2=>?_,λy hy=>?_,λy c _ h=>?_,λ_=>hd,Around.frames_deeper e0.frames,.inr ⟨rfl,rfl⟩,λb z=>absurd z (noA b),e0.bs,e0.bsz,λb _ _=>noA b,λb z=>absurd z (noA b),e0.D3,e0.frf⟩,
    rfl,e0.bare,Un.kept hk,⟨_,x.toInCall.ns,λi y v h1 h2 h3=>?_⟩,λy c h=>⟨_,x.cell y c h⟩,e0.hok.fresh (ajb _),λy c h=>?_,λp hp=>absurd (show p∈([]:List (Addr×Obj)) from hp) (by simp),e0.hok.kept hk,?_⟩
  · exact name_of_addr x.apart (ajR h1) (ajR h2)
  · have hy:scope.names.lookup y=some .cell∨scope.names.lookup y=some .free:=hy
    rcases hy with hy|hy
    · exact LY hy
    · exact absurd rfl (S.U0 _ (ajR hy))
  · exact akO (x.above y c (ajR h))
  · have hi:i<vs.length:=by
      unfold start at h2;by_cases hi:i<vs.length
      · exact hi
      · rw[ajJ (by simpa using hi)]at h2
        rw[akf]at h2;split at h2<;>cases h2
    have ha:vs[i]?=some v:=by
      unfold start at h2;rw[ajQ (by simpa using hi),ajh]at h2;cases e:vs[i]? with
      | none=>rw[e]at h2;cases h2
      | some a=>rw[e]at h2;cases h2;rfl
    obtain⟨u,hu,rv⟩:=r.get ha;have hp:ps[i]?=some y:=by
      rw[←S.pre,List.getElem?_take_of_lt (by omega)];exact h1
    have ndP:ps.Nodup:=(by rw[←S.pre];exact S.nd.sublist (List.take_sublist _ _));refine⟨u,rv,?_⟩;rcases S.par y (aje hp) with k|k
    · exact .inl ⟨k,HG ndP hp hu k⟩
    · obtain⟨c,e⟩:=LY (n:=s.heap.objs.size+1) k
      refine .inr ⟨.inl k,c,e,?_⟩;have q:=x.cell y c e;rw[HH ndP hp hu (by show scope.names.lookup y≠_;rw[k];decide)]at q;exact q
  · exact e0.hok.fresh (akO (x.above y c (ajR h)))
  · unfold start
    show _=N.length;rw[aji,ai8,ajT];omega
theorem XM{CX:CXT}{P:Program}{w:World}{K:W.Frag}{mg:Str→Option Value}{base:Heap}{k:Nat}{f:Addr}{name qual:Str}{params:Arguments}{body:List Stmt}{scope:Scope}{dV kV doc pm cdv ct oc:Value}{an od:Option Addr}
    {osl:Array (Option Value)} {N ps:List Str} {sp:Sp} (lk:K.lookup f=some ⟨oc,od,.func (PySem.W.fnOf name qual params body scope dV kV doc pm an cdv ct),osl⟩) (hcd:PySem.W.codeIn K cdv qual=true) (S:aw N ps scope)
    (len:∀ vs H Q E,sp vs H Q E→vs.length=ps.length)
    (RX:∀(A:Around) (outer:List Env) (s:Shared) (H:Hp) (vs:List V) (Q:VK) (E:XK),nI k (A.deeper (envOfC qual scope s.heap.objs.size f cdv))→sp vs H Q E →
      ∃ t,PSs (Rl CX P w K mg base N qual scope f cdv A outer s H E) body t∧t {nx:=λ_ H'=>Q .non H',rt:=Q} (start N vs) H) :
    Bi P w K mg base CX (k+1) f (PySem.W.fnOf name qual params body scope dV kV doc pm an cdv ct) ps sp:=by
  refine⟨len,λA outer s H args us vs Q E hr e0 hb r hsp=>?_⟩;have hl:=len _ _ _ _ hsp;have KX:K.In s.heap:=e0.mod.kin.keeps λb o e=>(e0.bs b o e).1;have lim:s.heap.NoLimit:=e0.mod.nolimit.keeps λb o e=>(e0.bs b o e).1;have XQ:∀ y∈ps.zip us,scope.names.lookup y.1=some .local∨(scope.names.lookup y.1=some .cell∧((cellsFrom (s.heap.objs.size+1) scope.names []).lookup y.1).isSome=true):=λ⟨n,v⟩ hy=>by
    rcases S.par n (akU hy).1 with q|q
    · exact .inl q
    · exact .inr ⟨q,PySem.W.cellsFrom_some _ _ _ (.inl q)⟩
  refine codeAny_call_function hr.depth (KX _ _ lk) rfl S.co S.gen rfl (PySem.W.codeRec_of KX hcd) (hb _ _ _ _ ?_);refine wpAny_newFunctionEnv_cells S.kind XQ λenv he s1 x=>?_;subst he;refine⟨lim.keeps x.toInCall.keep,codeAny_func ?_⟩;obtain⟨t,ht,hq⟩:=RX A outer s H vs Q E (hr.deeper _) hsp;have I:Inv (Rl CX P w K mg base N qual scope f cdv A outer s H E) [] (start N vs) H s1:=Pg S hr.hd e0 hl r x;refine wpAny_mono (ht [] s1 (start N vs) H _ I hq) (λfl s' hs=>?_) λe s' hs=>hs;have fin:∀ {σ':St} {H':Hp} {v:V} {u:Value},Inv (Rl CX P w K mg base N qual scope f cdv A outer s H E) [] σ' H' s'→RelV v u→Q v H'→CE outer P w H s Q u s' :=
    λ{σ' H' v u} J rv q=>⟨v,H',J.os,J.bare,J.base,J.hok,rv,q⟩
  cases fl with
  | ret u =>
    obtain⟨v,σ',H',J,rv,q⟩:=hs;exact fin J rv q
  | next =>
    obtain⟨σ',H',J,q⟩:=hs;exact fin (v:=V.non) (u:=Value.none) J rfl q
  | brk =>
    obtain⟨_,_,_,q⟩:=hs;exact False.elim q
  | cont =>
    obtain⟨_,_,_,q⟩:=hs;exact False.elim q
end L2
namespace L2
open PySem PySem.Spec PyProof.Rows
section
variable{X:Cx}{x:Str}{p pos:Pos}{e:Expr}{es:List Expr}{t:TA}{id T:String}{r:List V→Hp→VK→Prop}
noncomputable def tCB(r:List V→Hp→VK→Prop)(t:TA):TE:=λσ H Q=>t σ H λvs H1=>r vs H1 Q
theorem cw(hc:vQ X (.builtin id) r)(hg:Gl X x)(hm:X.mg x=none)(hv:bootBuiltins x=some (.builtin id))(ha:PA X (e::es) t)(hn:x ≠ "__name__" := by decide)(hdb:(x == ("__debug__" : Str))=false:=by decide)
    (he:starEach (e::es) X.env=(false,eval e X.env)::starEach es X.env:=by rfl) (hpl:(backTo pos (starEach es X.env)).any (·.1)=false:=by rfl):PE X (.Call (.Name x p) (e::es) [] pos) (tCB r t):=by
  intro pins s σ H Q I h;refine wpAny_Call_Name_kw (FW I hg hm hv ?_ hn hdb);exact PyProof.Rows.callWith_builtin1 (thn (ha pos pins s σ H _ I h) λus s1 ⟨vs,H1,I1,r1,q1⟩=>hc pins s1 σ H1 vs us Q I1 r1 q1) he hpl
theorem hZ(hc:vQ X (.type T) r)(hg:Gl X x)(hm:X.mg x=none)(hv:bootBuiltins x=some (.type T))(ha:PA X (e::es) t)(hn:x ≠ "__name__" := by decide)(hdb:(x == ("__debug__" : Str))=false:=by decide)
    (he:starEach (e::es) X.env=(false,eval e X.env)::starEach es X.env:=by rfl) (hpl:(backTo pos (starEach es X.env)).any (·.1)=false:=by rfl):PE X (.Call (.Name x p) (e::es) [] pos) (tCB r t):=by
  intro pins s σ H Q I h;refine wpAny_Call_Name_kw (FW I hg hm hv ?_ hn hdb);exact PyProof.Rows.callWith_type1 (thn (ha pos pins s σ H _ I h) λus s1 ⟨vs,H1,I1,r1,q1⟩=>hc pins s1 σ H1 vs us Q I1 r1 q1) he hpl
end
end L2
namespace HT
open PySem PyProof.Rows
section
open PySem.SeqAt
open PySem.AutoSeq1 (wpAny_loadPart')
open PySem.MeetsSeq PySem.MeetsSeq2 PySem.MeetsSeq3
end
section
variable{prog:Program}{w:World}{A:Around}{E:Value→Shared→Prop}{s:Shared}
noncomputable def sIx(n d:Nat):Option Int→Nat
  | none=>d
  | some v=>if v<0 then(v+(n:Int)).toNat else min v.toNat n
end
end HT
namespace L2
open PySem PySem.Spec PyProof.Rows
noncomputable abbrev TO:=St→Hp→(Option Int→Hp→Prop)→Prop
noncomputable def PO(X:Cx)(e:Option Expr)(t:TO):Prop :=
  ∀(pins:List (Addr×Obj)) (s:Shared) (σ:St) (H:Hp) (Q:Option Int→Hp→Prop),Inv X pins σ H s→t σ H Q →
    wpAny (model X.prog X.w) X.A (evalPart e X.env) (λu s'=>∃ o H',Inv X pins σ H' s'∧IsPart u o∧Q o H') X.xe s
noncomputable def SK:TO:=λ_ H Q=>Q none H
noncomputable def XS(t:TE):TO:=λσ H Q=>t σ H λx H1=>∃ i,x=.int i∧Q (some i) H1
theorem intsAre_of{ns:List Int}:∀ {us:List Value},Vals (ns.map V.int) us→IntsAre us ns:=by
  induction ns with
  | nil=>intro us r;rw[akF]at r;cases r;exact .nil
  | cons n ns ih =>
    intro us r;rw[aju]at r;cases r with
    | cons r1 r2 =>
      obtain⟨t,e⟩:=r1;subst e;exact .cons n t (ih r2)
section
variable{X:Cx}{e:Expr}{te:TE}{lo hi:Option Expr}{tl th:TO}{pos p2:Pos}
theorem SM:PO X none SK:=by
  intro pins s σ H Q I h;rw[evalPart_none];exact wpAny_pure ⟨none,H,I,.none,h⟩
theorem SN(h:PE X e te):PO X (some e) (XS te):=by
  intro pins s σ H Q I hw;rw[evalPart_some];refine thn (h pins s σ H _ I hw) λu s1 ⟨x,H1,I1,r1,q1⟩=>?_;obtain⟨i,rfl,q⟩:=q1;obtain⟨t,rfl⟩:=r1;exact⟨some i,H1,I1,.int i t,q⟩
noncomputable def SlR(X:Cx)(r:V→Option Int→Option Int→Hp→VK→Prop):Prop :=
  ∀(pins:List (Addr×Obj)) (s:Shared) (σ:St) (H:Hp) (x:V) (v vl vu:Value) (lo hi:Option Int) (sl:Addr) (Q:VK),Inv X pins σ H s→RelV x v→s.heap.IsSliceOf sl vl vu .none→IsPart vl lo→IsPart vu hi→r x lo hi H Q →
    ∃ T id,typeLookup (.type T) "__getitem__" = pure (some (.builtin id))∧s.TypeIs v T∧wpAny (model X.prog X.w) X.A (getItem v (.ref sl)) (EP X pins σ Q) X.xe s
noncomputable def tSl(r:V→Option Int→Option Int→Hp→VK→Prop)(te:TE)(tl th:TO):TE:=λσ H Q=>te σ H λx H1=>tl σ H1 λl H2=>th σ H2 λu H3=>r x l u H3 Q
theorem QK{r:V→Option Int→Option Int→Hp→VK→Prop}(hr:SlR X r)(he:PE X e te)(hl:PO X lo tl)(hu:PO X hi th):PE X (.Subscript e (.Slice lo hi none p2) pos) (tSl r te tl th):=by
  intro pins s σ H Q I h;refine Subscript_ (thn (he pins s σ H _ I h) λv s1 ⟨x,H1,I1,r1,q1⟩=>?_);refine wpAny_Slice (thn (hl pins s1 σ H1 _ I1 q1) λvl s2 ⟨l,H2,I2,pl,q2⟩=>thn (hu pins s2 σ H2 _ I2 q2) λvu s3 ⟨u,H3,I3,pu,q3⟩=>?_);rw[evalPart_none];refine wpAny_pure ?_;have I4:Inv X pins σ H3 {s3 with heap:=s3.heap.push {cls:=.type "slice",data:=.fields #[vl,vu,.none]}}:=I3.kept (t':=s3.toks) λb ob q=>aja _ q;obtain⟨T,id,hT,ht,hg⟩:=hr pins {s3 with heap:=s3.heap.push {cls:=.type "slice",data:=.fields #[vl,vu,.none]}} σ H3 x v vl vu l u s3.heap.objs.size Q I4 r1 (Heap.IsSliceOf.new ..) pl pu q3;show wpAny (model X.prog X.w) X.A (subscriptTail e (.Slice lo hi none p2) v (.ref s3.heap.objs.size)) (EP X pins σ Q) X.xe {s3 with heap:=s3.heap.push {cls:=.type "slice",data:=.fields #[vl,vu,.none]}};exact tail_any (ops:=[.ref s3.heap.objs.size,v]) ht hT hg (by with_unfolding_all rfl)
noncomputable def Rm(xs:List V)(lo hi:Option Int):List V:=(xs.drop (HT.sIx xs.length 0 lo)).take (HT.sIx xs.length xs.length hi-HT.sIx xs.length 0 lo)
theorem KH(xs:List V)(lo hi:Option Int):(Rm xs lo hi).length≤xs.length:=by
  unfold Rm;rw[ajp,List.length_drop];omega
end
end L2
namespace L2
open PySem PySem.Spec PyProof.Rows
noncomputable def ixN(n:Nat)(i:Int):Option Nat:=if 0≤i then(if i<n then some i.toNat else none) else if -(n:Int)≤i then some (i+n).toNat else none
noncomputable def atI{α:Type}(xs:List α)(i:Int):Option α:=(ixN xs.length i).bind λj=>xs[j]?
theorem Ot{n:Nat}{i:Int}{j:Nat}(h:ixN n i=some j):seqIndex? i n=some j∧j<n∧-(n:Int)≤i∧i<n:=by
  unfold ixN at h;by_cases h0:0≤i
  · rw[if_pos h0]at h
    by_cases h1:i<n
    · rw[if_pos h1]at h
      have e:i.toNat=j:=ajx h;exact⟨by rw[seqIndex_of h0 h1,e],by omega,by omega,h1⟩
    · rw[if_neg h1]at h;cases h
  · rw[if_neg h0]at h
    by_cases h1:-(n:Int)≤i
    · rw[if_pos h1]at h
      have e:(i+n).toNat=j:=ajx h;exact⟨by rw[seqIndex_neg (by omega) h1,e],by omega,h1,by omega⟩
    · rw[if_neg h1]at h;cases h
theorem Ou{α:Type}{xs:List α}{i:Int}{v:α}(h:atI xs i=some v):∃ j,seqIndex? i xs.length=some j∧xs[j]?=some v∧j<xs.length∧-(xs.length:Int)≤i∧i<xs.length:=by
  unfold atI at h;cases e:ixN xs.length i with
  | none=>rw[e]at h;cases h
  | some j =>
    rw[e]at h;obtain⟨h1,h2,h3,h4⟩:=Ot e;exact⟨j,h1,h,h2,h3,h4⟩
theorem Bj{α:Type}{xs:List α}{j:Nat}{v:α}(h:xs[j]?=some v):atI xs (j:Int)=some v:=by
  have hj:j<xs.length:=(ai6.mp h).1;have e:ixN xs.length (j:Int)=some j:=by
    unfold ixN;rw[if_pos (by omega),if_pos (by omega)];simp
  unfold atI;rw[e];exact h
noncomputable def SO(b:Expr):Prop:=∀ o i,subscripted b false o i=operate [o,i] (getItem o i)
noncomputable def IxR(X:Cx)(r:R2):Prop :=
  ∀(value slice:Expr) (pins:List (Addr×Obj)) (s:Shared) (σ:St) (H:Hp) (x y:V) (v u:Value) (Q:VK),Inv X pins σ H s→RelV x v→RelV y u→r x y H Q →
    subscripted slice false v u=operate [v,u] (getItem v u)→wpAny (model X.prog X.w) X.A (subscriptTail value slice v u) (EP X pins σ Q) X.xe s
noncomputable def MtR(X:Cx)(id:String)(r:V→List V→Hp→VK→Prop):Prop :=
  ∀(pins:List (Addr×Obj)) (s:Shared) (σ:St) (H:Hp) (x:V) (xs:List V) (v:Value) (us:List Value) (Q:VK),Inv X pins σ H s→RelV x v→Vals xs us→r x xs H Q →
    wpAny (model X.prog X.w) X.A (call (.builtin id) (v::us)) (EP X pins σ Q) X.xe s
section
variable{X:Cx}{a b:Expr}{ta tb:TE}{pos:Pos}
theorem du{r:R2}(hr:IxR X r)(ha:PE X a ta)(hb:PE X b tb)(hs:SO b):PE X (.Subscript a b pos) (tOp r ta tb):=by
  intro pins s σ H Q I h;exact Subscript_ (VE ha hb I h λv u s2 x y H2 I2 rx ry q=>hr a b pins s2 σ H2 x y v u Q I2 rx ry q (hs _ _))
noncomputable def YM(K:W.Frag):R2:=λx y H Q=>∃ p xs i v,x=.ref p∧y=.int i∧SqL K H p xs∧atI xs i=some v∧Q v H
noncomputable def VI(K:W.Frag):R2:=λx y H Q=>∃ p xs i v,x=.ref p∧y=.int i∧SqT K H p xs∧atI xs i=some v∧Q v H
theorem eu:IxR X (YM X.K):=by
  intro value slice pins s σ H x y v u Q I rx ry h hs;obtain⟨p,xs,i,z,rfl,rfl,hq,he,q⟩:=h;cases rx;obtain⟨t,rfl⟩:=ry;obtain⟨its,r,pl,hz⟩:=I.list hq;obtain⟨j,h1,h2,h3,h4,h5⟩:=Ou he;obtain⟨w,ew,rw'⟩:=r.get h2;have hl:=r.length;have hn:=F6;have fin:EP X pins σ Q w s:=⟨z,H,I,rw',q⟩;by_cases h0:0≤i
  · have hj:i.toNat=j:=by
      rw[seqIndex_of h0 h5]at h1;exact ajx h1
    exact item_listR pl.isList h0 (by omega) (by rw[hj];simpa using ew) fin hs
  · have hj:(i+(its.toArray.size:Int)).toNat=j:=by
      rw[seqIndex_neg (by omega) h4]at h1;rw[ajd,←hl];exact ajx h1
    exact subscriptTail_builtinR (x:=w) pl.isList.typeIs slot_list_getitem.lookup
      (wpAny_getItem_list_neg (Q:=λr s'=>r=w∧EP X pins σ Q r s') pl.isList (by omega) (by rw[ajd]<;>omega) (by omega) (by rw[hj];simpa using ew) ⟨rfl,fin⟩) hs
theorem gi:IxR X (VI X.K):=by
  intro value slice pins s σ H x y v u Q I rx ry h hs;obtain⟨p,xs,i,z,rfl,rfl,hq,he,q⟩:=h;cases rx;obtain⟨t,rfl⟩:=ry;obtain⟨its,r,pl,hz⟩:=I.tuple hq;obtain⟨j,h1,h2,h3,h4,h5⟩:=Ou he;obtain⟨w,ew,rw'⟩:=r.get h2;have hl:=r.length;have hn:=F6;have fin:EP X pins σ Q w s:=⟨z,H,I,rw',q⟩;exact subscriptTail_builtinR (x:=w) pl.typeIs slot_tuple_getitem.lookup
    (getItem_tuple (j:=j) (Q:=λr s'=>r=w∧EP X pins σ Q r s') pl (by omega) (by omega) (by rw[ajd,←hl];exact h1) (by simpa using ew) ⟨rfl,fin⟩) hs
theorem M6(its:List Value)(n j:Nat)(u:Value):Obj.mapSeq (·.setIfInBounds j u) {cls:=.type "list",data:=.seq its.toArray n}={cls:=.type "list",data:=.seq (its.set j u).toArray n}:=by
  simp[Obj.mapSeq]
theorem Inv.lst{pins:List (Addr×Obj)}{σ:St}{H:Hp}{s:Shared}{p:Addr}{xs:List V}(I:Inv X pins σ H s)(h:H p=some (.lst xs)) :
    ∃(its:List Value) (n:Nat),Vals xs its∧s.heap.get? p=some {cls:=.type "list",data:=.seq its.toArray n}∧xs.length≤sizeLine:=by
  obtain⟨z,its,n,r,e⟩:=I.hok p _ h;exact⟨its,n,r,e,z⟩
theorem Inv.U1{pins:List (Addr×Obj)}{σ:St}{H:Hp}{s:Shared}{p:Addr}{xs ys:List V}{its FY:List Value}{n n':Nat}{f:Obj→Obj}(I:Inv X pins σ H s)(h:H p=some (.lst xs))
    (ho:s.heap.get? p=some {cls:=.type "list",data:=.seq its.toArray n}) (hf:f {cls:=.type "list",data:=.seq its.toArray n}={cls:=.type "list",data:=.seq FY.toArray n'}) (r:Vals ys FY) (hz:ys.length≤sizeLine) (t:Nat) :
    Inv X pins σ (upd H p (.lst ys)) {s with heap:=s.heap.update p f,toks:=t}:=by
  have e:(s.heap.update p f).get? p=some {cls:=.type "list",data:=.seq FY.toArray n'}:=by
    rw[Heap.get?_update_self f ho (by rw[hf]<;>rfl),hf]
  refine I.write (x:=p) (e:=p) (by rw[h];trivial) (.inl rfl) (λb u hb q=>(ajF _ _ (ajm hb)).trans q) ⟨_,e⟩ ?_;exact⟨hz,FY,n',r,e⟩
noncomputable def XT:V→V→V→Hp→(Hp→Prop)→Prop:=λo i v H Q=>∃ p xs k j,o=.ref p∧i=.int k∧H p=some (.lst xs)∧ixN xs.length k=some j∧Q (upd H p (.lst (xs.set j v)))
theorem set_list:YH X XT:=by
  intro pins s σ H o i v ov iv u Q I ro ri rv h;obtain⟨p,xs,k,j,rfl,rfl,hp,hj,q⟩:=h;cases ro;obtain⟨t,rfl⟩:=ri;obtain⟨its,n,r,ho,hz⟩:=I.lst hp;obtain⟨h1,h2,h3,h4⟩:=Ot hj;have hl:=r.length;have hn:=F6;have I':Inv X pins σ (upd H p (.lst (xs.set j v))) {s with heap:=s.heap.update p (Obj.mapSeq (·.setIfInBounds j u))} :=
    I.U1 hp ho (M6 its n j u) (r.set rv j) (by rw[ajG];exact hz) s.toks
  by_cases h0:0≤k
  · have hk:k.toNat=j:=by
      rw[seqIndex_of h0 h4]at h1;exact ajx h1
    exact PySem.W.ki_setAt ho h0 (by omega) (by rw[ajd,←hl];exact h4) (by rw[hk];exact⟨_,I',q⟩)
  · have hk:(k+(its.toArray.size:Int)).toNat=j:=by
      rw[seqIndex_neg (by omega) h3]at h1;rw[ajd,←hl];exact ajx h1
    exact PySem.W.ki_setBack ho (by omega) (by rw[ajd,←hl];exact h3) (by omega) (by rw[hk];exact⟨_,I',q⟩)
theorem Io(lo hi:Option Int)(n:Nat):(sliceBounds lo hi none n).1=((HT.sIx n 0 lo:Nat):Int)∧(sliceBounds lo hi none n).2.1=((HT.sIx n n hi:Nat):Int)∧(sliceBounds lo hi none n).2.2=1:=by
  refine⟨?_,?_,rfl⟩
  · cases lo with
    | none=>simp[sliceBounds,HT.sIx]
    | some i =>
      simp only[sliceBounds,HT.sIx,Option.getD_none,show(1:Int)>0 by decide,if_true];by_cases h:i<0
      · simp only[h,if_true]<;>omega
      · simp only[h,if_false]<;>omega
  · cases hi with
    | none=>simp[sliceBounds,HT.sIx]
    | some i =>
      simp only[sliceBounds,HT.sIx,Option.getD_none,show(1:Int)>0 by decide,if_true];by_cases h:i<0
      · simp only[h,if_true]<;>omega
      · simp only[h,if_false]<;>omega
theorem F7(its:List Value)(lo hi:Option Int):slicePick its.toArray lo hi none=((its.drop (HT.sIx its.length 0 lo)).take (HT.sIx its.length its.length hi-HT.sIx its.length 0 lo)).toArray:=by
  obtain⟨h1,h2,h3⟩:=Io lo hi its.toArray.size;unfold slicePick;rw[h1,h2,h3];simp only[sliceRange_one,pick_run,ajd]<;>rfl
noncomputable def ae9(K:W.Frag):V→Option Int→Option Int→Hp→VK→Prop:=λx lo hi H Q=>∃ a xs,x=.ref a∧SqL K H a xs∧∀ p,H p=none→Q (.ref p) (upd H p (.lst (Rm xs lo hi)))
theorem SQ:SlR X (ae9 X.K):=by
  intro pins s σ H x v vl vu lo hi sl Q I rx hs pl pu h;obtain⟨a,xs,rfl,hx,q⟩:=h;cases rx;obtain⟨its,r,ht,hz⟩:=I.list hx;have hlen:=r.length;refine⟨"list",_,slot_list_getitem.lookup,ht.isList.typeIs,?_⟩;refine wpAny_getItem_list_slice ht.isList hs pl pu .none (by simp) ?_ (by rw[ajd]<;>omega);rw[F7,←hlen];refine⟨.ref s.heap.objs.size,_,I.laid (t':=s.toks) (o:=.lst (Rm xs lo hi)) (λb ob q=>aja _ q) (ajb _) ?_,rfl,q _ (I.hok.fresh (ajb _))⟩;exact⟨ajy (KH xs lo hi) hz,_,0,(r.drop (HT.sIx xs.length 0 lo)).take (HT.sIx xs.length xs.length hi-HT.sIx xs.length 0 lo),ajC _ rfl⟩
noncomputable def jU:V→Bool
  | .non=>true
  | .bl _=>true
  | .int _=>true
  | .str _=>true
  | _=>false
noncomputable def eqV:V→V→Bool
  | .non,.non=>true
  | .bl a,.bl b=>a == b
  | .bl a,.int b=>(if a then 1 else 0) == b
  | .int a,.bl b=>a == (if b then 1 else 0)
  | .int a,.int b=>a == b
  | .str a,.str b=>a == b
  | _,_=>false
theorem Kk{A:Around}{s:Shared}{y x:V}{u v:Value}(ry:RelV y u)(rx:RelV x v)(fy:jU y=true)(fx:jU x=true):SeqAt.EqAt A s u v (eqV y x):=by
  cases y with
  | non =>
    cases ry;cases x with
    | non=>cases rx;exact SeqAt.EqAt.same _
    | bl b=>cases rx;exact SeqAt.EqAt.none_bool b
    | int b=>obtain⟨t,rfl⟩:=rx;exact SeqAt.EqAt.none_int b t
    | str b=>obtain⟨t,rfl⟩:=rx;exact SeqAt.EqAt.none_str b t
    | _=>exact absurd (show false=true from fx) ajc
  | bl a =>
    cases ry;cases x with
    | non=>cases rx;exact SeqAt.EqAt.bool_none a
    | bl b=>cases rx;exact SeqAt.EqAt.bool_bool a b
    | int b=>obtain⟨t,rfl⟩:=rx;exact SeqAt.EqAt.bool_int a b t
    | str b=>obtain⟨t,rfl⟩:=rx;exact SeqAt.EqAt.bool_str a b t
    | _=>exact absurd (show false=true from fx) ajc
  | int a =>
    obtain⟨t',rfl⟩:=ry;cases x with
    | non=>cases rx;exact SeqAt.EqAt.int_none a t'
    | bl b=>cases rx;exact SeqAt.EqAt.int_bool a t' b
    | int b=>obtain⟨t,rfl⟩:=rx;exact SeqAt.EqAt.int_int a t' b t
    | str b=>obtain⟨t,rfl⟩:=rx;exact SeqAt.EqAt.int_str a t' b t
    | _=>exact absurd (show false=true from fx) ajc
  | str a =>
    obtain⟨t',rfl⟩:=ry;cases x with
    | non=>cases rx;exact SeqAt.EqAt.str_none a t'
    | bl b=>cases rx;exact SeqAt.EqAt.str_bool a t' b
    | int b=>obtain⟨t,rfl⟩:=rx;exact SeqAt.EqAt.str_int a t' b t
    | str b=>obtain⟨t,rfl⟩:=rx;exact SeqAt.EqAt.str_str a t' b t
    | _=>exact absurd (show false=true from fx) ajc
  | _=>exact absurd (show false=true from fy) ajc
noncomputable def eqU(x:V)(u:Value):Bool:=match u with
  | .none=>eqV .non x
  | .bool b=>eqV (.bl b) x
  | .int i _=>eqV (.int i) x
  | .str z _=>eqV (.str z) x
  | _=>false
theorem Rn{x y:V}{u:Value}(r:RelV y u)(f:jU y=true):eqU x u=eqV y x:=by
  cases y with
  | non=>cases r;rfl
  | bl b=>cases r;rfl
  | int i=>obtain⟨t,rfl⟩:=r;rfl
  | str z=>obtain⟨t,rfl⟩:=r;rfl
  | _=>exact absurd (show false=true from f) ajc
theorem Kb{x:V}:∀ {xs:List V} {us:List Value},Vals xs us→xs.all jU=true→us.any (eqU x)=xs.any λy=>eqV y x
  | _,_,.nil,_=>rfl
  | y::xs,u::us,.cons r t,f=>by
    rw[List.all_cons,akI]at f;rw[aky,aky,Rn r f.1,Kb t f.2]
theorem FG{A:Around}{s:Shared}{x:V}{v:Value}(rx:RelV x v)(fx:jU x=true):∀ {xs:List V} {us:List Value},Vals xs us→xs.all jU=true→∀ u∈us,SeqAt.EqAt A s u v (eqU x u)
  | _,_,.nil,_=>λu hu=>by cases hu
  | y::xs,u::us,.cons r t,f=>λu' hu=>by
    rw[List.all_cons,akI]at f;rcases ajo.mp hu with rfl|hu
    · rw[Rn r f.1];exact Kk r rx f.1 fx
    · exact FG rx fx t f.2 u' hu
noncomputable def inV(x:V)(xs:List V):Bool:=xs.any λy=>eqV y x
noncomputable def rIn(K:W.Frag)(neg:Bool):R2:=λx y H Q=>∃ p xs,y=.ref p∧(SqL K H p xs∨SqT K H p xs)∧jU x=true∧xs.all jU=true∧Q (.bl (if neg then !inV x xs else inV x xs)) H
theorem HI:OpR X (compareOp .In) (rIn X.K false):=by
  intro pins s σ H x y v u Q I rx ry h;obtain⟨p,xs,rfl,hq,fx,fs,q⟩:=h;cases ry;rcases hq with hq|hq
  · obtain⟨its,r,pl,hz⟩:=I.list hq
    refine SeqAt.in_listAt (eqU x) pl.isList (λw hw=>FG rx fx r fs w (by simpa using hw)) ⟨.bl _,H,I,rfl,?_⟩;rw[show its.toArray.any (eqU x)=its.any (eqU x) by simp,Kb r fs];exact q
  · obtain⟨its,r,pl,hz⟩:=I.tuple hq
    refine SeqAt.in_tupleAt (eqU x) pl (λw hw=>FG rx fx r fs w (by simpa using hw)) ⟨.bl _,H,I,rfl,?_⟩;rw[show its.toArray.any (eqU x)=its.any (eqU x) by simp,Kb r fs];exact q
theorem a6:vQ X (.builtin "len") (λxs H Q=>∃ p ys,xs=[.ref p]∧(SqL X.K H p ys∨SqT X.K H p ys)∧Q (.int ys.length) H):=by
  intro pins s σ H xs us Q I r h;obtain⟨p,ys,rfl,hq,q⟩:=h;obtain⟨u,rfl,rx⟩:=vals1 r;cases rx;have hn:=F6;rcases hq with hq|hq
  · obtain⟨its,r',pl,hz⟩:=I.list hq
    have hlen:=r'.length;exact Calls.call_len_list pl.isList (by simp only[ajd]<;>omega) ⟨.int ys.length,H,I.tok _,⟨s.toks+1,by rw[ajd,hlen]⟩,q⟩
  · obtain⟨its,r',pl,hz⟩:=I.tuple hq
    have hlen:=r'.length;exact len_tuple pl (by simp only[ajd]<;>omega) ⟨.int ys.length,H,I.tok _,⟨s.toks+1,by rw[ajd,hlen]⟩,q⟩
theorem iG:vQ X (.type "list") (λxs H Q=>∃ p ys,xs=[.ref p]∧(SqL X.K H p ys∨SqT X.K H p ys)∧∀ l,H l=none→Q (.ref l) (upd H l (.lst ys))):=by
  intro pins s σ H xs us Q I r h;obtain⟨p,ys,rfl,hq,q⟩:=h;obtain⟨u,rfl,rx⟩:=vals1 r;cases rx;have fin:∀(its:List Value),Vals ys its→ys.length≤sizeLine→∀(h':Heap) (c':Nat),(∀ b o',s.heap.get? b=some o'→h'.get? b=some o') →
      h'.get? s.heap.objs.size=some {cls:=.type "list",dict:=none,data:=.seq its.toArray c',slots:=#[]}→EP X pins σ Q (.ref s.heap.objs.size) {s with heap:=h'}:=λits r' hz h' c' kp e =>
    ⟨.ref s.heap.objs.size,_,I.laid (t':=s.toks) kp (ajb _) (show iJ X.prog X.w _ h' _ (.lst ys) from⟨hz,its,c',r',e⟩),rfl,q _ (I.hok.fresh (ajb _))⟩
  rcases hq with hq|hq
  · obtain⟨its,r',pl,hz⟩:=I.list hq
    have hlen:=r'.length;obtain⟨o,ho,hc,n,hd⟩:=pl.isList;exact call_list_seq p (.inl rfl) ho hc hd (λh' c' kp e=>fin its r' hz h' c' kp e) (by simp only[ajd]<;>omega)
  · obtain⟨its,r',pl,hz⟩:=I.tuple hq
    have hlen:=r'.length;obtain⟨o,ho,hc,n,hd⟩:=pl;exact call_list_seq p (.inr rfl) ho hc hd (λh' c' kp e=>fin its r' hz h' c' kp e) (by simp only[ajd]<;>omega)
noncomputable def tyV(K:W.Frag)(T:String)(x:V)(H:Hp):Prop:=match x with
  | .str _=>T = "str"
  | .int _=>T = "int"
  | .ref p=>(T = "list" ∧ ∃ xs,SqL K H p xs)∨(T = "tuple" ∧ ∃ o,K.lookup p=some o∧o.cls=.type "tuple" ∧ o.dict=none) ∨
      (T = "dict" ∧ ((∃ kvs,H p=some (.dK kvs))∨∃ kvs,H p=some (.dT kvs)))∨(T = "set" ∧ ∃ S n,H p=some (.set S n))
  | _=>False
theorem U2{pins:List (Addr×Obj)}{σ:St}{H:Hp}{s:Shared}{T:String}{x:V}{v:Value}(I:Inv X pins σ H s)(r:RelV x v)(ty:tyV X.K T x H) :
    s.TypeIs v T∧∀ a,v=.ref a→∃ ob,s.heap.get? a=some ob∧ob.dict=none:=by
  cases x with
  | str z =>
    obtain⟨t,rfl⟩:=r;cases (show T = "str" from ty);exact⟨typeIs_str s z t,λ_ e=>nomatch e⟩
  | int i =>
    obtain⟨t,rfl⟩:=r;cases (show T = "int" from ty);exact⟨typeIs_int s i t,λ_ e=>nomatch e⟩
  | ref p =>
    cases r;rcases ty with⟨rfl,xs,hq⟩|⟨rfl,o,hk,hc,hd⟩|⟨rfl,hk⟩|⟨rfl,S,n,hk⟩
    · obtain⟨its,_,pl,_⟩:=I.list hq
      refine⟨pl.isList.typeIs,λa e=>?_⟩;cases e;obtain⟨o,n,e,c,hd,_⟩:=pl;exact⟨o,e,hd⟩
    · refine⟨⟨o,I.kIn p o hk,hc⟩,λa e=>?_⟩
      cases e;exact⟨o,I.kIn _ o hk,hd⟩
    · have z:∃ o,s.heap.get? p=some o∧o.ExactDict:=by
        rcases hk with⟨kvs,hk⟩|⟨kvs,hk⟩
        · obtain⟨_,_,_,_,o,_,_,e,ex,_⟩:=I.hok p _ hk
          exact⟨o,e,ex⟩
        · obtain⟨_,_,_,_,o,_,_,e,ex,_⟩:=I.hok p _ hk
          exact⟨o,e,ex⟩
      obtain⟨o,e,ex⟩:=z;refine⟨⟨o,e,ex.1⟩,λa e2=>?_⟩;cases e2;exact⟨o,e,ex.2.1⟩
    · obtain⟨o,_,_,_,e,ex,_⟩:=I.hok p _ hk
      refine⟨⟨o,e,ex.1⟩,λa e2=>?_⟩;cases e2;exact⟨o,e,ex.2.1⟩
  | _=>exact False.elim ty
noncomputable def tBM(K:W.Frag)(T:String)(r:V→List V→Hp→VK→Prop)(to:TE)(t:TA):TE:=λσ H Q=>to σ H λx H1=>tyV K T x H1∧t σ H1 λxs H2=>r x xs H2 Q
variable{o e:Expr}{es:List Expr}{to:TE}{t:TA}{name:Str}{apos uE:Pos}{T id:String}{r:V→List V→Hp→VK→Prop}
theorem M7(pa:PlainAttrs T)(slot:Slot T name id)(hty:typeOf (.builtin id)=pure (.type "method_descriptor"))(hm:MtR X id r)(ho:PE X o to)(ha:PA X (e::es) t)
    (XU:attributeBase o name X.env (eval o X.env)=eval o X.env:=by rfl)
    (SR:((backTo uE (starEach (e::es) X.env)).all (λx=>!x.1)&&(backToKw uE (keywordEach [] X.env)).all (λx=>x.1.isSome)
      && decide ((e::es).length+([]:List Keyword).length+(if([]:List Keyword).isEmpty then 0 else 1)<30))=true:=by rfl)
    (XW:(apos.endLine == uE.line)=true:=by rfl) (hs:starEach (e::es) X.env=(false,eval e X.env)::starEach es X.env:=by rfl) (U3:(backTo uE (starEach es X.env)).any (·.1)=false:=by rfl) :
    PE X (.Call (.Attribute o name apos) (e::es) [] uE) (tBM X.K T r to t):=by
  intro pins s σ H Q I h;refine wpAny_Call_method_late XU SR XW rfl (thn (ho pins s σ H _ I h) λv s1 ⟨x,H1,I1,r1,ty,q1⟩=>?_);obtain⟨h1,h2⟩:=U2 I1 r1 ty;refine⟨T,id,pa,slot,hty,h1,h2,?_⟩;have hA:=ha uE pins s1 σ H1 _ I1 q1;rw[hs]at hA ⊢;refine akC (by show(false||(backTo uE (starEach es X.env)).any (·.1))=false;rw[U3]<;>rfl) (akK ?_);exact thn hA λus s2 ⟨vs,H2,I2,r2,q2⟩=>hm pins s2 σ H2 x vs v us Q I2 r1 r2 q2
end
end L2
namespace L2
open PySem PySem.Spec PyProof.Rows
noncomputable def MtM(X:Cx)(id:String)(r:V→List V→Hp→VK→Prop):Prop :=
  ∀(pins:List (Addr×Obj)) (s:Shared) (σ:St) (H:Hp) (x:V) (xs:List V) (v:Value) (us:List Value) (Q:VK),Inv X pins σ H s→RelV x v→Vals xs us→r x xs H Q →
    wpAny (model X.prog X.w) X.A (call (.builtin id) (v::us)) (EP X pins σ Q) X.xe s
theorem Vals.one:∀ {x:V} {us:List Value},Vals [x] us→∃ u,us=[u]∧RelV x u
  | _,_,.cons r .nil=>⟨_,rfl,r⟩
theorem Vals.eraseIdx:∀ {xs:List V} {us:List Value} (i:Nat),Vals xs us→Vals (xs.eraseIdx i) (us.eraseIdx i)
  | _,_,_,.nil=>.nil
  | _,_,0,.cons _ t=>t
  | _,_,i+1,.cons r t=>.cons r (Vals.eraseIdx i t)
theorem Vals.rep{xs:List V}{us:List Value}(h:Vals xs us):∀ k:Nat,Vals (List.replicate k xs).flatten (List.replicate k us).flatten
  | 0=>.nil
  | k+1=>by
    rw[ajK,ajK,akb,akb];exact Vals.append h (Vals.rep h k)
theorem HJ{α:Type}:∀(l:List α) (i:Nat),(l.eraseIdx i).length≤l.length
  | [],_=>ajb _
  | _::_,0=>akD _
  | _::r,i+1=>Nat.succ_le_succ (HJ r i)
theorem foldl_rep(its:List Value):∀(k:Nat) (acc:List Value),
    List.foldl (λx1 x2=>x1++x2) acc.toArray (List.replicate k its.toArray)=(acc++(List.replicate k its).flatten).toArray
  | 0,acc=>by simp
  | k+1,acc=>by
    have e:acc.toArray++its.toArray=(acc++its).toArray:=(by simp);have e2:(acc++its)++(List.replicate k its).flatten=acc++(List.replicate (k+1) its).flatten:=by
      rw[ajK,akb,ako]
    rw[←e2,←foldl_rep its k (acc++its),←e,ajK,List.foldl_cons]
section
variable{X:Cx}{pins:List (Addr×Obj)}{σ:St}{H:Hp}{s:Shared}{l b:Addr}{xs ys zs:List V}
theorem Inv.VJ{its FY:List Value}{n:Nat}{f:Array Value→Array Value}{t':Nat}(I:Inv X pins σ H s)(hH:H l=some (.lst xs))
    (e:s.heap.get? l=some {cls:=.type "list",data:=.seq its.toArray n}) (hf:f its.toArray=FY.toArray) (hv:Vals ys FY) (hz:ys.length≤sizeLine) :
    Inv X pins σ (upd H l (.lst ys)) {s with heap:=s.heap.update l (Obj.mapSeq f),toks:=t'}:=by
  have q:=PySem.IsL.update e f;rw[hf]at q;refine I.write (x:=l) (e:=l) (by rw[hH];exact trivial) (.inl rfl) (λb' u hb hu=>(ajF s.heap (Obj.mapSeq f) (ajm hb)).trans hu) ⟨_,q⟩ ?_;exact⟨hz,FY,_,hv,q⟩
theorem Inv.Uc{its:List Value}{t':Nat}(I:Inv X pins σ H s)(hv:Vals ys its)(hz:ys.length≤sizeLine) :
    Inv X pins σ (upd H s.heap.objs.size (.lst ys)) {s with heap:=s.heap.push {cls:=.type "list",data:=.seq its.toArray},toks:=t'} :=
  I.laid (λ_ _ q=>aja _ q) (ajb _) ⟨hz,its,0,hv,ajC _ rfl⟩
theorem Inv.fresh(I:Inv X pins σ H s):H s.heap.objs.size=none:=I.hok.fresh (ajb _)
theorem Inv.SS(I:Inv X pins σ H s)(hH:H l=some (.lst xs)):xs.length≤sizeLine∧∃(its:List Value) (n:Nat),Vals xs its∧xs.length=its.length∧s.heap.get? l=some {cls:=.type "list",data:=.seq its.toArray n}:=by
  obtain⟨z,its,n,r,e⟩:=I.hok l _ hH;exact⟨z,its,n,r,r.length,e⟩
theorem LZ{n:Nat}(h:n≤sizeLine):Builtin.List.listTooLong n=false:=by
  unfold Builtin.List.listTooLong;exact decide_eq_false (by omega)
end
section
variable{X:Cx}
noncomputable def SU:V→List V→Hp→VK→Prop:=λx vs H Q=>∃ l xs y,x=.ref l∧vs=[y]∧H l=some (.lst xs)∧xs.length<sizeLine∧Q .non (upd H l (.lst (xs++[y])))
theorem vR:MtM X "list.append" SU:=by
  intro pins s σ H x vs v us Q I rx rv h;obtain⟨l,xs,y,rfl,rfl,hH,hz,q⟩:=h;cases rx;obtain⟨u,rfl,ru⟩:=rv.one;obtain⟨z,its,n,r,hl,e⟩:=I.SS hH;refine call_meets F.slot_list_append ⟨_,e,rfl⟩ F.entry_list_append (F.args_list_append_2 _ _) (PySem.list_append l its.toArray n u (by rw[ajd];omega)) ⟨e,?_⟩;refine⟨.non,_,I.VJ (FY:=its++[u]) hH e (by simp) (r.append (.cons ru .nil)) ?_,rfl,q⟩;rw[aji,ajI];omega
noncomputable def SV:V→List V→Hp→VK→Prop:=λx vs H Q=>∃ l b xs zs,x=.ref l∧vs=[.ref b]∧H l=some (.lst xs)∧H b=some (.lst zs)∧xs.length+zs.length≤sizeLine∧Q .non (upd H l (.lst (xs++zs)))
theorem Ph:MtM X "list.extend" SV:=by
  intro pins s σ H x vs v us Q I rx rv h;obtain⟨l,b,xs,zs,rfl,rfl,hH,hB,hz,q⟩:=h;cases rx;obtain⟨u,rfl,ru⟩:=rv.one;cases ru;obtain⟨z,its,n,r,hl,e⟩:=I.SS hH;obtain⟨z2,Ud,n2,r2,hl2,e2⟩:=I.SS hB;have hsz:its.toArray.size+Ud.toArray.size≤sizeLine:=by rw[ajd,ajd];omega
  have RY:¬(!its.toArray.isEmpty&&Builtin.List.listTooLong (its.toArray.size+Ud.toArray.size))=true:=by
    rw[LZ hsz,akQ];exact ajc
  refine call_meets F.slot_list_extend ⟨_,e,rfl⟩ F.entry_list_extend (F.args_list_extend_2 _ _)
    (AutoSeq1.list_extend_list_list_0 l its.toArray n b Ud.toArray n2 RY (by rw[ajd];omega) (by omega)) ⟨e,e2,?_⟩
  refine⟨.non,_,I.VJ (FY:=its++Ud) hH e (by simp) (r.append r2) ?_,rfl,q⟩;rw[aji];omega
noncomputable def U6:V→List V→Hp→VK→Prop:=λx vs H Q=>∃ l xs i k y,x=.ref l∧vs=[.int i]∧H l=some (.lst xs)∧-(2 ^ 63)≤i∧i<2 ^ 63∧seqIndex? i xs.length=some k∧xs[k]?=some y∧Q y (upd H l (.lst (xs.eraseIdx k)))
theorem QL:MtM X "list.pop" U6:=by
  intro pins s σ H x vs v us Q I rx rv h;obtain⟨l,xs,i,k,y,rfl,rfl,hH,h1,h2,hk,hy,q⟩:=h;cases rx;obtain⟨u,rfl,ru⟩:=rv.one;obtain⟨t,rfl⟩:=ru;obtain⟨z,its,n,r,hl,e⟩:=I.SS hH;obtain⟨w,hw,rw'⟩:=r.get hy;refine call_meets F.slot_list_pop ⟨_,e,rfl⟩ F.entry_list_pop (F.args_list_pop_2 _ _)
    (MeetsSeq.list_pop_at l its.toArray n i t k w (fitsIndex_both h1 h2) (by rw[ajd,←hl];exact hk) (by rw[←Array.getElem?_toList];exact hw) (by rw[ajd];omega)) ⟨e,?_⟩
  refine⟨y,_,I.VJ (FY:=its.eraseIdx k) hH e ?_ (r.eraseIdx k) ?_,rw',q⟩
  · show its.toArray.eraseIdxIfInBounds k=(its.eraseIdx k).toArray
    rw[List.eraseIdxIfInBounds_toArray]
  · have:=HJ xs k
    omega
noncomputable def afa:R2:=λx y H Q=>∃ l k xs,x=.ref l∧y=.int k∧H l=some (.lst xs)∧-(2 ^ 63)≤k∧k<2 ^ 63∧xs.length*k.toNat≤sizeLine ∧
  ∀ p,H p=none→Q (.ref p) (upd H p (.lst (List.replicate k.toNat xs).flatten))
theorem len_rep{α:Type}(xs:List α)(k:Nat):(List.replicate k xs).flatten.length=k*xs.length:=by
  induction k with
  | zero=>simp
  | succ k ih=>rw[ajK,akb,aji,ih,Nat.succ_mul,Nat.add_comm]
theorem F9:OpR X (binaryOp .Mult) afa:=by
  intro pins s σ H x y v u Q I rx ry h;obtain⟨l,k,xs,rfl,rfl,hH,h1,h2,hz,q⟩:=h;cases rx;obtain⟨t,rfl⟩:=ry;obtain⟨z,its,n,r,hl,e⟩:=I.SS hH;have hlen:its.toArray.size*k.toNat≤sizeLine:=by rw[ajd,←hl];exact hz
  have afb:¬its.toArray.size*k.toNat>(2 ^ 63-1)/8:=by
    have:(sizeLine:Nat)≤(2 ^ 63-1)/8:=by decide
    omega
  have afc:¬(!Builtin.List.listFitsIndex k)=true:=by
    rw[fitsIndex_both h1 h2];exact ajc
  have RY:¬Builtin.List.listTooLong (its.toArray.size*k.toNat)=true:=by
    rw[LZ hlen];exact ajc
  have Ue:List.foldl (λx1 x2=>x1++x2) #[] (List.replicate (if its.toArray.isEmpty=true then 0 else k.toNat) its.toArray)=(List.replicate k.toNat its).flatten.toArray:=by
    have f0:∀ m:Nat,List.foldl (λx1 x2=>x1++x2) #[] (List.replicate m its.toArray)=(List.replicate m its).flatten.toArray:=λm=>by
      have:=foldl_rep its m []
      rw[List.nil_append]at this;exact this
    rw[f0];cases its with
    | nil=>simp
    | cons a r'=>rw[if_neg (by simp)]
  refine wpAny_binaryOp_repeat_ref (T := "list") (U := "int") (by decide) ⟨_,e,rfl⟩ (λs'=>typeIs_int s' k t) noFill_list_mul F.fills_int_mul F.slot_int_rmul repeat_list F.slot_int_index.lookup
    (call_meets F.slot_int_rmul (typeIs_int s k t) F.entry_int_rmul (F.args_int_rmul_2 _ _) (int___rmul___int_list k t l its.toArray n)
      ⟨e,rfl,⟨_,e,rfl⟩,call_meets F.slot_list_mul ⟨_,e,rfl⟩ F.entry_list_mul (F.args_list_mul_2 _ _) (AutoListH.list___mul___list_int_3 l its.toArray n k t afc afb RY) ⟨e,?_⟩⟩)
  rw[Ue];exact⟨.ref _,_,I.Uc (t':=s.toks) (r.rep k.toNat) (by rw[len_rep,Nat.mul_comm];exact hz),rfl,q _ I.fresh⟩
end
section
variable{prog:Program}{w:World}{A:Around}{E:Value→Shared→Prop}{s:Shared}
end
section
variable{X:Cx}
end
end L2
namespace Att
open PySem PySem.W PySem.Calls PyProof.Rows
theorem Dh{P:Params}{h:Heap}:∀(ns:List Int) (vs:List Value),WellAll P h vs (ns.map WData.int)→IntsAre vs ns:=by
  intro ns;induction ns with
  | nil =>
    intro vs w;rw[akF]at w;cases w;exact .nil
  | cons n ns ih =>
    intro vs w;rw[aju]at w;cases w with
    | cons a b =>
      cases a;exact .cons _ _ (ih _ b)
theorem Pj{l:OpenLaw}{n:Nat}(hn:l.most=some n){P:Params}{h:Heap}{args:List WData}{vals:List Value}
    (Ug:l.row.toRowW.claim.pre args=true) (hwl:WellAll P h vals args) :
    ∃ a vs ns,vals=[Value.ref a]∧args=[WData.list (ns.map WData.int)]∧h.get? a=some {cls:=.type "list",data:=.seq vs.toArray}∧IntsAre vs ns∧ns.length≤n:=by
  have hsh:WShape.hasAll [] args [.list .int]=true:=(pre_splitW Ug).1;have hc:l.pre.holds [] {args:=args}=true:=(pre_splitW Ug).2;obtain⟨d,r,rfl,h1,h2⟩:=hasAllW_cons hsh;obtain rfl:=hasAllW_nil h2;obtain⟨xs,rfl,h3⟩:=hasW_list h1;obtain⟨ns,rfl⟩:=items_int h3;have hlen:ns.length≤n:=by
    unfold OpenLaw.pre at hc;have h4:(WTm.not (.lt (.lit (.int (n:Int))) (.len (.arg 0)))).holds [] {args:=[.list (ns.map .int)]}=true:=by
      have h4:=(holds_andW hc).1;rw[hn]at h4;exact h4
    have h5:=condW_of h4 (w_not (w_lt w_lit (w_len_list (w_arg rfl))));rw[ai8]at h5;refine Nat.le_of_not_lt λq=>?_;have q':(n:Int)<((ns.length:Nat):Int):=by omega
    first
      | (rw[decide_eq_true q']at h5;exact absurd h5 (by decide))
      | (simp at h5;omega)
  cases hwl with
  | cons w1 w2 =>
    cases w2;cases w1 with
    | list ho D6=>exact⟨_,_,ns,rfl,rfl,ho,Dh ns _ D6,hlen⟩
theorem Pk(l:OpenLaw)(args:List WData):l.row.toRowW.claim.post args (.bool true) args=true :=
  postW_of (r:=l.row.toRowW) (X:=(true == true))
    (show WShape.has [] (.bool true) .bool=true by first|rfl|decide|simp[WShape.has,WShape.arms,WShape.armsAll])
    (show(WTm.eq .res (.lit (.bool true))).value [] {args:=args,res:=some (.bool true),after:=args}=some (.bool (true == true)) from w_eq_bool (w_res rfl) w_lit) rfl
theorem KI{l:OpenLaw}{n:Nat}{q:Program}{loose:List Str}{XP:(Str→Option Value)→Heap→Prop}{YP:World→Heap→Prop}{d:DefRec}
    (hn:l.most=some n) (hdf:d.params.defaults=[])
    (call:∀(w:World) (s₀ s₁:Shared) (mg mb:Str→Option Value) (fa:Addr) (o:Obj) (pm cd doc:Value) (a:Addr) (vs:List Value) (ns:List Int),
      Ground q loose [] XP w s₀ mg mb s₁.heap→YP w s₁.heap →
      s₁.heap.get? fa=some o→o.data=.func (docDef d.name d.params d.body d.scope pm cd doc)→s₁.heap.CodeRec cd d.name→mg d.name=some (.ref fa) →
      s₁.heap.get? a=some {cls:=.type "list",data:=.seq vs.toArray}→IntsAre vs ns→ns.length≤n→s₁.gens=#[] →
      codeAny (model l.prog w) callerA (.call (.ref fa) ⟨[.ref a],[]⟩) (λr s'=>r=.ok (.ret (.bool true))∧OldK s₁.heap s'.heap∧s'.os=s₁.os∧AllBare s'.gens) s₁) :
    WalkO q loose XP YP l.row.toRowW d [] (λf vs=>PySem.call f vs):=by
  intro w s₀ s₁ mg mb G Y fa o pm cd doc dV kV ho hd hcd hD hmg hg args vals as Ug hlay hrd hwl hlo;obtain rfl:dV=.none:=Dflts.none hD hdf;obtain rfl:kV=.none:=Dflts.noKw hD;obtain⟨a,vs,ns,rfl,rfl,VL,hints,hlen⟩:=Pj hn Ug hwl;refine enter_call (codeAny_mono (call w s₀ s₁ mg mb fa o pm cd doc a vs ns G Y ho (fd_plain hd) hcd hmg VL hints hlen hg) λr s' hq=>?_);obtain⟨rfl,h2,h3,h4⟩:=hq;exact⟨.inl ⟨.bool true,.bool true,[],rfl,λ_=>rfl,.bool true,Pk l _,λ_=>⟨List.Pairwise.nil,λ_ hm=>(nomatch hm)⟩⟩,h2,h3,h4⟩
section
variable{prog:Program}{w:World}{A:Around}{E:Value→Shared→Prop}{s:Shared}{K:Frag}
end
end Att
namespace L2
open PySem PySem.Spec PyProof.Rows
theorem rA:∀ {vs:List Value} {ns:List Int},IntsAre vs ns→Vals (ns.map V.int) vs
  | _,_,.nil=>.nil
  | _,_,.cons n t h=>.cons ⟨t,rfl⟩ (rA h)
noncomputable def VM(H:Hp):Prop:=∀ b,H b=none∨∃ o xs,H b=some (.frz o (.lst xs))
theorem QM{P:Program}{w:World}{K:W.Frag}{mg mb:Str→Option Value}{CX:CXT}{k:Nat}{fa a:Addr}{fd:FuncData}{x:Str}{sp:Sp}{s₁:Shared}{vs:List Value}{ns:List Int}
    (KX:K.In s₁.heap) (hns:s₁.heap.Ns mainGlobals mg) (hb:s₁.heap.Ns builtinsNs mb) (hbb:∀ x:Str,x ≠ "__name__" → mb x=bootBuiltins x) (afd:s₁.heap.NoLimit) (hg:s₁.gens=#[])
    (ha:s₁.heap.get? a=some {cls:=.type "list",data:=.seq vs.toArray}) (hi:IntsAre vs ns) (hl:ns.length≤sizeLine) (hr:nI k callerA)
    (F:∀ base:Heap,K.In base→base.Ns mainGlobals mg→Bi P w K mg base CX k fa fd [x] sp) (XX:∀(s:Shared) (u:Value),BindsTo s fd ⟨[u],[]⟩ [(x,u)])
    (hsp:∀ H:Hp,VM H→SqL K H a (ns.map V.int)→sp [.ref a] H (λv _=>v=.bl true) λ_ _ _=>False)
    (hCX:∀ H e s',CX [] H s₁ (λ_ _ _=>False) e s'→False) :
    codeAny (model P w) callerA (.call (.ref fa) ⟨[.ref a],[]⟩) (λr s'=>r=.ok (.ret (.bool true))∧OldK s₁.heap s'.heap∧s'.os=s₁.os∧AllBare s'.gens) s₁:=by
  have rv:=rA hi;have afe:=hi.length;have core:∀ H:Hp,VM H→SqL K H a (ns.map V.int)→HOk P w H s₁.heap→(∀ b,H b≠none→b=a)→(H a≠none→K.lookup a=none) →
      codeAny (model P w) callerA (.call (.ref fa) ⟨[.ref a],[]⟩) (λr s'=>r=.ok (.ret (.bool true))∧OldK s₁.heap s'.heap∧s'.os=s₁.os∧AllBare s'.gens) s₁:=by
    intro H hO hS hok hA hK;have Ov:∀ {b:Addr} {o:Obj},s₁.heap.get? b=some o→H b=none→(MT s₁.heap H).get? b=some o:=λe n=>QE e n;have noA:∀ {b:Addr} {o:Obj} {es:Array DictEntry} {ep:Nat},s₁.heap.get? b=some o→o.data=.dict es ep→H b=none:=λ{b o es ep} e d=>by
      cases q:H b with
      | none=>rfl
      | some u =>
        have e':b=a:=hA b (by rw[q];simp);subst e';rw[ha]at e;cases e;have d':Data.seq vs.toArray _=Data.dict es ep:=d;cases d'
    have nsK:∀ {b:Addr} {m:Str→Option Value},s₁.heap.Ns b m→(MT s₁.heap H).Ns b m:=λ{b m} ⟨o,es,ep,e,d,r⟩=>⟨o,es,ep,Ov e (noA e d),d,r⟩;have hKb:K.In (MT s₁.heap H):=λb o e=>Ov (KX b o e) (by
      cases q:H b with
      | none=>rfl
      | some u =>
        have e':b=a:=hA b (by rw[q];simp);subst e';rw[hK (by rw[q];simp)]at e;cases e)
    have hM:Mod K mg (MT s₁.heap H):=⟨hKb,nsK hns,⟨mb,nsK hb,hbb⟩,let ⟨mc,h1,h2⟩:=afd;⟨mc,nsK h1,h2⟩⟩;have e0:Qs P w K mg (MT s₁.heap H) callerA [] s₁ H:=⟨rfl,hM,λb o e=>SE e,Nat.le_of_eq (Pa _ _),trivial,λb hb=>absurd (show b∈([]:List Addr) from hb) (by simp),hok,.of_eq hg⟩;refine codeAny_mono ((F _ hKb (nsK hns)).run callerA [] s₁ H ⟨[.ref a],[]⟩ [.ref a] [.ref a] _ _ hr e0 (XX s₁ (.ref a)) (.cons rfl .nil) (hsp H hO hS)) λr s' h=>?_;cases r with
    | error e=>exact(hCX H e s' h).elim
    | ok fl =>
      cases fl with
      | next=>exact False.elim h
      | brk=>exact False.elim h
      | cont=>exact False.elim h
      | ret u =>
        obtain⟨v,H',os,bare,un,aff,r',q⟩:=h;have q':v=.bl true:=q;subst q';obtain rfl:u=Value.bool true:=r';refine⟨rfl,OldK.of_keep λb o e=>?_,os,bare⟩;cases q:H b with
        | none=>exact un.keep b o e q (by intro z;exact absurd (show b∈([]:List Addr) from z) (by simp)) (by simp)
        | some u =>
          rcases hO b with z|⟨ob,xs,z⟩
          · rw[q]at z;cases z
          · have z2:=un.FV b ob _ z
            obtain⟨e1,_⟩:=hok b _ z;obtain⟨e2,_⟩:=aff b _ z2;rw[e]at e1;cases e1;exact e2
  cases hk:K.lookup a with
  | some o =>
    have e:=KX a o hk;rw[ha]at e;cases e;refine core (λ_=>none) (λ_=>.inl rfl) (.inr ⟨_,vs.toArray,_,hk,rfl,rfl,rfl,by rw[ajd,afe];exact hl,by simpa using rv⟩) (λb u z=>by have z':(none:Option HO)=some u:=z;cases z') (λb z=>absurd rfl z) λz=>absurd rfl z
  | none =>
    refine core (λb=>if b=a then some (.frz {cls:=.type "list",data:=.seq vs.toArray} (.lst (ns.map V.int))) else none) (λb=>?_) (.inl (.inr ⟨{cls:=.type "list",data:=.seq vs.toArray},if_pos rfl⟩)) (λb u z=>?_) (λb z=>?_) λ_=>hk
    · by_cases hb:b=a
      · exact .inr ⟨_,_,if_pos hb⟩
      · exact .inl (if_neg hb)
    · by_cases hb:b=a
      · have z':=(if_pos hb).symm.trans z
        cases z';subst hb;exact⟨ha,by rw[ai8];exact hl,vs,_,rv,ha⟩
      · have z':=(if_neg hb).symm.trans z
        cases z'
    · by_cases hb:b=a
      · exact hb
      · exact absurd (if_neg hb) z
end L2
namespace L2
open PySem PySem.Spec PyProof.Rows
theorem SW{l:PySem.W.OpenLaw}{n k:Nat}{q:Program}{loose:List Str}{XP:(Str→Option Value)→Heap→Prop}{YP:World→Heap→Prop}{d:DefRec}{K:Params→W.Frag}{CX:World→CXT}{sp:World→Sp}{x:Str}
    (hn:l.most=some n) (hn2:n≤sizeLine) (hdf:d.params.defaults=[]) (hr:nI k callerA)
    (hY:∀(w:World) (h:Heap),YP w h→(K w.params).In h)
    (F:∀(w:World) (mg:Str→Option Value) (fa:Addr) (h:Heap),(K w.params).In h→h.Ns mainGlobals mg→mg d.name=some (.ref fa) →
      ∃ fd:FuncData,(∀(s:Shared) (u:Value),BindsTo s fd ⟨[u],[]⟩ [(x,u)]) ∧
        ∀ base:Heap,(K w.params).In base→base.Ns mainGlobals mg→Bi l.prog w (K w.params) mg base (CX w) k fa fd [x] (sp w))
    (hsp:∀(w:World) (H:Hp) (a:Addr) (ns:List Int),ns.length≤n→VM H→SqL (K w.params) H a (ns.map V.int)→sp w [.ref a] H (λv _=>v=.bl true) λ_ _ _=>False)
    (hCX:∀(w:World) (H:Hp) (s:Shared) (e:Value) (s':Shared),CX w [] H s (λ_ _ _=>False) e s'→False) :
    PySem.W.WalkO q loose XP YP l.row.toRowW d [] (λf vs=>PySem.call f vs):=by
  refine Att.KI hn hdf λw s₀ s₁ mg mb fa o pm cd doc a vs ns G Y ho hd hcd hmg VL hints hlen hg=>?_;have KX:=hY w _ Y;obtain⟨fd,hb,hF⟩:=F w mg fa _ KX G.T.g hmg;exact QM KX G.T.g G.T.b G.T.builtins G.T.nolimit hg VL hints (ajy hlen hn2) hr hF hb (λH hO hS=>hsp w H a ns hlen hO hS) λH e s'=>hCX w H s₁ e s'
end L2
namespace L2
open PySem PySem.Spec PyProof.Rows
noncomputable def inClass(s:Stmt)(j:Nat):Stmt:=match s with
  | .ClassDef _ _ _ body _ _ _ _ _ _ _=>body.getD j (.Pass ⟨0,0,0,0⟩)
  | _=>.Pass ⟨0,0,0,0⟩
noncomputable def tU(s:Stmt):Arguments:=match s with
  | .FunctionDef _ a _ _ _ _ _ _ _ _=>a
  | _=>{posonlyargs:=[],args:=[],vararg:=none,kwonlyargs:=[],kw_defaults:=[],kwarg:=none,defaults:=[]}
noncomputable def qZ(s:Stmt):List Stmt:=match s with
  | .FunctionDef _ _ b _ _ _ _ _ _ _=>b
  | _=>[]
noncomputable def ar(s:Stmt):Scope:=match s with
  | .FunctionDef _ _ _ _ _ _ sc _ _ _=>sc
  | _=>{kind:=.function,names:=[],isGenerator:=false,isCoroutine:=false}
structure Fun(K:W.Frag)(x qual:Str)(st:Stmt)(f:Addr)(fd:FuncData):Prop where
  ex:∃(oc:Value) (od:Option Addr) (kV doc pm:Value) (an:Option Addr) (cdv ct:Value) (osl:Array (Option Value)),
    fd=PySem.W.fnOf x qual (tU st) (qZ st) (ar st) .none kV doc pm an cdv ct∧K.lookup f=some ⟨oc,od,.func fd,osl⟩∧PySem.W.codeIn K cdv qual=true
  kp:PySem.W.keepIn K (.ref f)=true
section
variable{P:Program}{w:World}{K:W.Frag}{mg:Str→Option Value}{base:Heap}
theorem Fun.binds{x qual:Str}{st:Stmt}{f:Addr}{fd:FuncData}{ps:List Str}(F:Fun K x qual st f fd)
    (h:∀(kV doc pm:Value) (an:Option Addr) (cdv ct:Value) (us:List Value),us.length=ps.length→bindArgs (PySem.W.fnOf x qual (tU st) (qZ st) (ar st) .none kV doc pm an cdv ct) ⟨us,[]⟩=pure (ps.zip us)):Binds K fd ps []:=by
  obtain⟨oc,od,kV,doc,pm,an,cdv,ct,osl,rfl,lk,hcd⟩:=F.ex;exact .all (h kV doc pm an cdv ct)
theorem U7{x qual:Str}{st:Stmt}{f:Addr}{oc:Value}{od an:Option Addr}{osl:Array (Option Value)}{kV doc pm cdv ct:Value}(l:K.lookup f=some ⟨oc,od,.func (PySem.W.fnOf x qual (tU st) (qZ st) (ar st) .none kV doc pm an cdv ct),osl⟩)
    (c:PySem.W.codeIn K cdv qual=true) (k:PySem.W.keepIn K (.ref f)=true):Fun K x qual st f (PySem.W.fnOf x qual (tU st) (qZ st) (ar st) .none kV doc pm an cdv ct):=⟨⟨oc,od,kV,doc,pm,an,cdv,ct,osl,rfl,l,c⟩,k⟩
end
theorem jV{A:Around}{k:Nat}(hr:nI k A):A.units+1<cLine:=ajW (Nat.add_le_add_left (by decide:1≤64) _) hr.units
section
variable{X:Cx}
theorem pv(i:Nat){x:Str}{pos:Pos}(hN:X.N[i]?=some x:=by rfl)(hv:Vis X.env.scope x:=by first|exact Or.inl rfl|exact Or.inr (Or.inl rfl)|exact Or.inr (Or.inr rfl))(hd:(x == ("__debug__" : Str))=false:=by decide)
    (hcd:(x == ("__classdict__" : Str))=false:=by decide):PE X (.Name x pos) (YG i):=UP hN hv hd hcd
end
theorem u4{A B:Prop}(h:B):if false=true then A else B:=by
  rw[if_neg ajc];exact h
theorem wa{A B:Prop}(h:A):if true=true then A else B:=by
  rw[if_pos rfl];exact h
theorem eE{c A B:Prop}[Decidable c](h1:c→A)(h2:¬c→B):if c then A else B:=by
  by_cases h:c
  · rw[if_pos h]
    exact h1 h
  · rw[if_neg h]
    exact h2 h
noncomputable def aE(H H':Hp):Prop:=∀ b o,H b=some o→H' b=some o
theorem aE.refl(H:Hp):aE H H:=λ_ _ h=>h
theorem aE.trans{H H1 H2:Hp}(a:aE H H1)(b:aE H1 H2):aE H H2:=λc o h=>b c o (a c o h)
theorem aE.seq{K:W.Frag}{H H':Hp}{a:Addr}{xs:List V}(e:aE H H')(h:SqL K H a xs):SqL K H' a xs:=by
  rcases h with(h|⟨o,h⟩)|h
  · exact .inl (.inl (e _ _ h))
  · exact .inl (.inr ⟨o,e _ _ h⟩)
  · exact .inr h
end L2
end
section
namespace K36
open PySem PySem.W L2 PySem.PyData
noncomputable def top(i:Nat):Stmt:=PySem.Challenge.pw_stillheap_k36_right_pictures.main.body.getD i (.Pass ⟨0,0,0,0⟩)
noncomputable section
noncomputable abbrev OO:=Params→Obj
noncomputable abbrev FN:=Str×Str×Stmt
noncomputable def oF(f:FN)(m:Value)(r:Addr):OO:=λ_=>⟨.type "function",none,.func (fnOf f.1 f.2.1 (tU f.2.2) (qZ f.2.2) (ar f.2.2) .none .none .none m none (.ref r) .none),#[]⟩
noncomputable def oG(f:FN):OO:=λ_=>⟨.none,none,.func ⟨f.1,f.2.1,tU f.2.2,.stmts (qZ f.2.2),ar f.2.2,0,[],.none,.none,.none,.none,none,.none,.none,0⟩,#[]⟩
noncomputable def oT(l:List Value):OO:=λ_=>⟨.type "tuple",none,.seq (List.toArray l) 0,#[]⟩
noncomputable def oS:List Str→Tok→List Value
 | [],_=>[]
 | x::r,k=>.str x k::oS r (k+1)
noncomputable def oD(l:List (Str×Tok×Value))(n:Nat):OO:=λP=>⟨.type "dict",none,.dict (List.toArray (l.map λe=>⟨keyHash P e.1,.str e.1 e.2.1,e.2.2⟩)) n,#[]⟩
noncomputable def zB:List String→Tok→List (Str×Tok×Value)
 | [],_=>[]
 | x::r,k=>(Str.ofString x,k,.builtin x)::zB r (k+1)
noncomputable def zT:List String→Tok→List (Str×Tok×Value)
 | [],_=>[]
 | x::r,k=>(Str.ofString x,k,.type x)::zT r (k+1)
noncomputable def ap(a b:List (Str×Tok×Value)):List (Str×Tok×Value):=a++b
noncomputable def oC(f:FN)(t:Tok)(l a b c d:Int)(r:Addr)(e:Int)(g h i j:Addr)(z:Int)(u:Tok):OO:=λ_=>⟨.type "code",none,.fields (List.toArray [.str f.1 t,.str f.2.1 (t+1),.str "/claim/cut.py" (t+2),.int l 0,.int a 0,.int b 0,.int c 0,.int d 0,.ref r,.bool true,.int e 0,.ref g,.none,.ref h,.ref i,.ref j,.int z 0,.int l 0,.str "/claim/cut.py" u]),#[]⟩
noncomputable def oN(f:FN)(t:Tok)(l a b c d:Int)(r:Addr)(e:Int)(g j:Addr)(z:Int)(u:Tok):OO:=λ_=>⟨.type "code",none,.fields (List.toArray [.str f.1 t,.str f.2.1 (t+1),.str "/claim/cut.py" (t+2),.int l 0,.int a 0,.int b 0,.int c 0,.int d 0,.ref r,.bool true,.int e 0,.ref g,.none,.none,.none,.ref j,.int z 0,.int l 0,.str "/claim/cut.py" u]),#[]⟩
noncomputable def oM(n:Str)(t:Tok)(l:Int)(r:Addr)(e:Int)(f:Addr)(z:Int)(u:Tok):OO:=λ_=>⟨.type "code",none,.fields (List.toArray [.str n t,.str n (t+1),.str "/claim/cut.py" (t+2),.int l 0,.int 0 0,.int 0 0,.int 0 0,.int 0 0,.ref r,.bool false,.int e 0,.ref f,.none,.none,.none,.none,.int z 0,.int l 0,.str "/claim/cut.py" u]),#[]⟩
noncomputable def oI:List Nat→List Value
 | a::b::c::r=>.int a 0::.int b 0::.ref c::oI r
 | _=>[]
noncomputable def oX(l:List Nat):OO:=λ_=>⟨.none,none,.fields (List.toArray (oI l)),#[]⟩
noncomputable def oR(a b c:Addr)(m:Value):OO:=λ_=>⟨.type "frame",none,.plain,List.toArray [some (.ref a),some (.ref b),some (.ref c),none,some m,none,some (.ref 0)]⟩
noncomputable def oP(a b:Value):OO:=λ_=>⟨.type "builtin_function_or_method",none,.fields (List.toArray [a,b]),#[]⟩
noncomputable def oY(n:Str)(b m:List Value)(d:Addr)(u:List Value)(k:Option Value)(t1 t2:Tok)(w:Value):OO:=λ_=>⟨.type "type",none,.cls ⟨n,b,m,d,n,true,[],u,false,none,false⟩,List.toArray [k,none,some (.str n t1),some (.str n t2),some w,some (.bool true)]⟩
noncomputable def oU(a:Addr):OO:=λ_=>⟨.type "super",none,.fields (List.toArray [.ref a,.ref a,.ref a]),#[]⟩
noncomputable def spl:List OO→List OO×List OO
 | []=>([],[])
 | [a]=>([a],[])
 | a::b::r=>(a::(spl r).1,b::(spl r).2)
noncomputable def mkT(P:Params):Nat→List OO→BT
 | 0,_=>.nil
 | _+1,[]=>.nil
 | n+1,x::r=>.node (x P) (mkT P n (spl r).1) (mkT P n (spl r).2)
noncomputable def stT(l:List OO)(c:List (Nat×OO)):List OO:=c.foldl (λl p=>l.set p.1 p.2) l
noncomputable def fn0:FN:=("_wall","_wall",top 0)
noncomputable def fn1:FN:=("__init__","HeapError.__init__",inClass (top 2) 0)
noncomputable def fn2:FN:=("called","HeapError.called",inClass (top 2) 1)
noncomputable def fn3:FN:=("called","BadHand.called",inClass (top 3) 0)
noncomputable def fn4:FN:=("called","BadName.called",inClass (top 4) 0)
noncomputable def fn5:FN:=("called","BadField.called",inClass (top 5) 0)
noncomputable def fn6:FN:=("called","BadCount.called",inClass (top 6) 0)
noncomputable def fn7:FN:=("called","NoRoom.called",inClass (top 7) 0)
noncomputable def fn8:FN:=("called","TooManyWords.called",inClass (top 8) 0)
noncomputable def fn9:FN:=("called","RoundOn.called",inClass (top 9) 0)
noncomputable def VN:FN:=("called","NoRound.called",inClass (top 10) 0)
noncomputable def VO:FN:=("called","BadView.called",inClass (top 11) 0)
noncomputable def VP:FN:=("called","BadAddress.called",inClass (top 12) 0)
noncomputable def VQ:FN:=("number_value","number_value",top 20)
noncomputable def VR:FN:=("thing_value","thing_value",top 21)
noncomputable def VS:FN:=("kind_of","kind_of",top 22)
noncomputable def VT:FN:=("words_of","words_of",top 23)
noncomputable def VU:FN:=("look_at_number","look_at_number",top 24)
noncomputable def VV:FN:=("look_at_hand","look_at_hand",top 25)
noncomputable def VW:FN:=("look_at_name","look_at_name",top 26)
noncomputable def VX:FN:=("look_at_field","look_at_field",top 27)
noncomputable def VY:FN:=("look_at_limits","look_at_limits",top 28)
noncomputable def VZ:FN:=("resolved","resolved",top 30)
noncomputable def V0:FN:=("is_picture","is_picture",top 32)
noncomputable def V1:FN:=("first_unlike","first_unlike",top 33)
noncomputable def V2:FN:=("first_misplaced","first_misplaced",top 34)
noncomputable def V3:FN:=("addresses_of","addresses_of",top 35)
noncomputable def V4:FN:=("first_headless","first_headless",top 36)
noncomputable def V5:FN:=("first_unlike_field","first_unlike_field",top 37)
noncomputable def V6:FN:=("first_unlike_word","first_unlike_word",top 38)
noncomputable def V7:FN:=("is_like","is_like",top 39)
noncomputable def V8:FN:=("place_met","place_met",top 40)
noncomputable def V9:FN:=("__init__","Hands.__init__",inClass (top 42) 0)
noncomputable def Wa:FN:=("word_in","Hands.word_in",inClass (top 42) 1)
noncomputable def Wb:FN:=("all_words","Hands.all_words",inClass (top 42) 2)
noncomputable def Wc:FN:=("put","Hands.put",inClass (top 42) 3)
noncomputable def We:FN:=("copy","Hands.copy",inClass (top 42) 4)
noncomputable def Wf:FN:=("number","Hands.number",inClass (top 42) 5)
noncomputable def Wg:FN:=("kind","Hands.kind",inClass (top 42) 6)
noncomputable def Wh:FN:=("value","Hands.value",inClass (top 42) 7)
noncomputable def Wi:FN:=("same","Hands.same",inClass (top 42) 8)
noncomputable def Wj:FN:=("thing_due","Hands.thing_due",inClass (top 42) 9)
noncomputable def Wl:FN:=("__init__","WordTable.__init__",inClass (top 45) 0)
noncomputable def Wm:FN:=("bear","WordTable.bear",inClass (top 45) 1)
noncomputable def Wn:FN:=("word_of","WordTable.word_of",inClass (top 45) 2)
noncomputable def Wo:FN:=("bearers","WordTable.bearers",inClass (top 45) 3)
noncomputable def Wq:FN:=("settle","WordTable.settle",inClass (top 45) 4)
noncomputable def Wr:FN:=("take","WordTable.take",inClass (top 45) 5)
noncomputable def Ws:FN:=("said","WordTable.said",inClass (top 45) 6)
noncomputable def Wu:FN:=("last_steps","last_steps",top 47)
noncomputable def Wv:FN:=("__init__","NameTable.__init__",inClass (top 49) 0)
noncomputable def Ww:FN:=("name","NameTable.name",inClass (top 49) 1)
noncomputable def Wx:FN:=("named","NameTable.named",inClass (top 49) 2)
noncomputable def Wy:FN:=("all_named","NameTable.all_named",inClass (top 49) 3)
noncomputable def Wz:FN:=("settle","NameTable.settle",inClass (top 49) 4)
noncomputable def WA:FN:=("__init__","Heap.__init__",inClass (top 51) 0)
noncomputable def WB:FN:=("add_thing","Heap.add_thing",inClass (top 51) 1)
noncomputable def WC:FN:=("load","Heap.load",inClass (top 51) 2)
noncomputable def WD:FN:=("store","Heap.store",inClass (top 51) 3)
noncomputable def WE:FN:=("copy","Heap.copy",inClass (top 51) 4)
noncomputable def WG:FN:=("drop","Heap.drop",inClass (top 51) 5)
noncomputable def WH:FN:=("number","Heap.number",inClass (top 51) 6)
noncomputable def WI:FN:=("name","Heap.name",inClass (top 51) 7)
noncomputable def WJ:FN:=("read_thing","Heap.read_thing",inClass (top 51) 8)
noncomputable def WK:FN:=("word","Heap.word",inClass (top 51) 9)
noncomputable def WL:FN:=("small_round","Heap.small_round",inClass (top 51) 10)
noncomputable def WM:FN:=("let_go","Heap.let_go",inClass (top 51) 11)
noncomputable def WN:FN:=("look_at_held","Heap.look_at_held",inClass (top 51) 12)
noncomputable def WO:FN:=("field_value","Heap.field_value",inClass (top 51) 13)
noncomputable def WQ:FN:=("counts_held","Heap.counts_held",inClass (top 51) 14)
noncomputable def WR:FN:=("words_among","Heap.words_among",inClass (top 51) 15)
noncomputable def WS:FN:=("led_among","Heap.led_among",inClass (top 51) 16)
noncomputable def WT:FN:=("thing_among","thing_among",top 52)
noncomputable def WU:FN:=("__init__","IdealHeap.__init__",inClass (top 54) 0)
noncomputable def WW:FN:=("make","IdealHeap.make",inClass (top 54) 1)
noncomputable def WX:FN:=("read","IdealHeap.read",inClass (top 54) 2)
noncomputable def WY:FN:=("take","IdealHeap.take",inClass (top 54) 3)
noncomputable def WZ:FN:=("kind","IdealHeap.kind",inClass (top 54) 4)
noncomputable def W0:FN:=("value","IdealHeap.value",inClass (top 54) 5)
noncomputable def W2:FN:=("fields","IdealHeap.fields",inClass (top 54) 6)
noncomputable def W3:FN:=("same","IdealHeap.same",inClass (top 54) 7)
noncomputable def W5:FN:=("held","IdealHeap.held",inClass (top 54) 8)
noncomputable def W6:FN:=("small","IdealHeap.small",inClass (top 54) 9)
noncomputable def Xa:FN:=("begin","IdealHeap.begin",inClass (top 54) 10)
noncomputable def Xb:FN:=("end","IdealHeap.end",inClass (top 54) 11)
noncomputable def Xc:FN:=("round_on","IdealHeap.round_on",inClass (top 54) 12)
noncomputable def Xd:FN:=("hands","IdealHeap.hands",inClass (top 54) 13)
noncomputable def Xe:FN:=("names","IdealHeap.names",inClass (top 54) 14)
noncomputable def Xf:FN:=("things","IdealHeap.things",inClass (top 54) 15)
noncomputable def Xg:FN:=("fields_of","IdealHeap.fields_of",inClass (top 54) 16)
noncomputable def Xh:FN:=("is_old","IdealHeap.is_old",inClass (top 54) 17)
noncomputable def Xi:FN:=("word_of","IdealHeap.word_of",inClass (top 54) 18)
noncomputable def Xj:FN:=("doomed","IdealHeap.doomed",inClass (top 54) 19)
noncomputable def Xk:FN:=("said","IdealHeap.said",inClass (top 54) 20)
noncomputable def Xl:FN:=("made","IdealHeap.made",inClass (top 54) 21)
noncomputable def Xm:FN:=("spare","IdealHeap.spare",inClass (top 54) 22)
noncomputable def Xn:FN:=("__init__","Memory.__init__",inClass (top 56) 0)
noncomputable def Xo:FN:=("size","Memory.size",inClass (top 56) 1)
noncomputable def Xp:FN:=("at","Memory.at",inClass (top 56) 2)
noncomputable def Xq:FN:=("put","Memory.put",inClass (top 56) 3)
noncomputable def RZ:FN:=("copy_of","Memory.copy_of",inClass (top 56) 4)
noncomputable def R0:FN:=("look_at_address","Memory.look_at_address",inClass (top 56) 5)
noncomputable def R1:FN:=("_law_cell","_law_cell",top 58)
noncomputable def R3:FN:=("_law_mixed","_law_mixed",top 59)
noncomputable def R4:FN:=("_law_numbers","_law_numbers",top 60)
noncomputable def R5:FN:=("_law_deed","_law_deed",top 61)
noncomputable def R6:FN:=("_law_round","_law_round",top 62)
noncomputable def R7:FN:=("_law_heap","_law_heap",top 63)
noncomputable def R8:FN:=("_law_places","_law_places",top 64)
noncomputable def R9:FN:=("_law_spoken","_law_spoken",top 65)
noncomputable def Sa:FN:=("_law_model","_law_model",top 66)
noncomputable def Sb:FN:=("_law_memory","_law_memory",top 67)
noncomputable def Sd:FN:=("law","law",top 68)
noncomputable def xs0:List Nat:=[1,0,20,5,0,27,12,0,54,16,0,73,20,0,92,24,0,111,28,0,130,32,0,149,36,0,168,40,0,187,44,0,206,48,0,225,59,0,244,62,0,251,66,0,258,68,0,265,72,0,272,75,0,279,78,0,286,81,0,293,84,0,300,90,0,307,97,0,314,99,0,319,113,0,326,123,0,331,125,0,338,130,0,345,137,0,352,143,0,359,147,0,366,153,0,373,195,0,457,223,0,520,238,0,527,257,0,574,347,0,701,352,0,708,451,0,881,474,0,937,478,0,944,482,0,951,491,0,958,516,0,965,521,0,972,530,0,979,539,0,986,543,0,991,560,0,998,565,0,1003]
noncomputable def v0:Value:=.type "object"
noncomputable def v1:Value:=.str "stillheap.ideal" 1086
noncomputable def v2:Value:=.str "stillheap.errors" 194
noncomputable def v3:Value:=.str "stillheap.heaps" 901
noncomputable def v4:Value:=.type "ValueError"
noncomputable def v5:Value:=.builtin "object.__init_subclass__"
noncomputable def v6:Value:=.type "Exception"
noncomputable def v7:Value:=.type "BaseException"
noncomputable def v8:Value:=.builtin "ValueError.__new__"
noncomputable def v9:Value:=.type "getset_descriptor"
noncomputable def v10:Value:=.str "stillheap.hands" 641
noncomputable def v11:Value:=.str "law_stillheap_k36_right_pictures" 1361
noncomputable def v12:Value:=.str "stillheap.values" 459
noncomputable def v13:Value:=.str "stillheap.pictures" 549
noncomputable def v14:Value:=.str "stillheap.lastwords" 747
noncomputable def v15:Value:=.builtin "object.__new__"
noncomputable def v16:Value:=.str "stillheap.memory" 1291
noncomputable def v17:Value:=.builtin "ExceptionGroup.__weakref__"
noncomputable def v18:Value:=.str "stillheap.weaknames" 841
noncomputable def v19:Value:=.builtin "function.__dict__"
noncomputable def v20:Value:=.builtin "function.__dict__#set"
noncomputable def v21:Value:=.str "__main__" 164
noncomputable def o0:OO:=oD (ap [("__name__",1,.str "builtins" 160),("__doc__",2,.builtin "builtins.__doc__:str#opaque"),("__package__",3,.builtin "builtins.__package__:str#opaque"),("__loader__",4,.builtin "builtins.__loader__:shared#opaque"),("__spec__",5,.builtin "builtins.__spec__#opaque")] (ap (zB ["__build_class__","__import__","abs","all","any","ascii","bin","breakpoint","callable","chr","compile","delattr","dir","divmod","eval","exec","format","getattr","globals","hasattr","hash","hex","id","input","isinstance","issubclass","iter","aiter","len","locals","max","min","next","anext","oct","ord","pow","print","repr","round","setattr","sorted","sum","vars"] 6) (ap [("None",50,.none),("Ellipsis",51,.ellipsis),("NotImplemented",52,.notImplemented),("False",53,.bool false),("True",54,.bool true)] (ap (zT ["bool","memoryview","bytearray","bytes","classmethod","complex","dict","enumerate","filter","float","frozenset","property","int","list","map","object","range","reversed","set","slice","staticmethod","str","super","tuple","type","zip"] 55) (ap [("__debug__",81,.bool true)] (ap (zT ["BaseException","BaseExceptionGroup","Exception","GeneratorExit","KeyboardInterrupt","SystemExit","ArithmeticError","AssertionError","AttributeError","BufferError","EOFError","ImportError","LookupError","MemoryError","NameError","OSError","ReferenceError","RuntimeError","StopAsyncIteration","StopIteration","SyntaxError","SystemError","TypeError","ValueError","Warning","FloatingPointError","OverflowError","ZeroDivisionError","BytesWarning","DeprecationWarning","EncodingWarning","FutureWarning","ImportWarning","PendingDeprecationWarning","ResourceWarning","RuntimeWarning","SyntaxWarning","UnicodeWarning","UserWarning","BlockingIOError","ChildProcessError","ConnectionError","FileExistsError","FileNotFoundError","InterruptedError","IsADirectoryError","NotADirectoryError","PermissionError","ProcessLookupError","TimeoutError","IndentationError","_IncompleteInputError","IndexError","KeyError","ModuleNotFoundError","NotImplementedError","PythonFinalizationError","RecursionError","UnboundLocalError","UnicodeError"] 82) (ap (zT ["BrokenPipeError","ConnectionAbortedError","ConnectionRefusedError","ConnectionResetError","TabError","UnicodeDecodeError","UnicodeEncodeError","UnicodeTranslateError","ExceptionGroup"] 142) [("EnvironmentError",151,.type "OSError"),("IOError",152,.type "OSError"),("open",153,.builtin "open"),("quit",154,.builtin "builtins.quit#opaque"),("exit",155,.builtin "builtins.exit#opaque"),("copyright",156,.builtin "builtins.copyright#opaque"),("credits",157,.builtin "builtins.credits#opaque"),("license",158,.builtin "builtins.license#opaque"),("help",159,.builtin "builtins.help#opaque")]))))))) 159
noncomputable def o1:OO:=oD [("builtins",162,.ref 4),("__main__",163,.ref 5)] 2
noncomputable def o2:OO:=λ_=>⟨.none,none,(.dict #[] 0),#[]⟩
noncomputable def o3:OO:=oD [("__name__",165,.str "__main__" 164),("__doc__",166,.none),("__package__",167,.none),("__loader__",168,.builtin "__main__.__loader__#opaque"),("__spec__",169,.none),("__annotations__",170,.ref 6),("__builtins__",171,.ref 4),("__file__",173,.str "/claim/cut.py" 172),("__cached__",174,.none)] 9
noncomputable def o4:OO:=λ_=>⟨(.type "module"),(.some 0),.plain,#[]⟩
noncomputable def o5:OO:=λ_=>⟨(.type "module"),(.some 3),.plain,#[]⟩
noncomputable def o6:OO:=λ_=>⟨(.type "dict"),none,(.dict #[] 0),#[]⟩
noncomputable def o7:OO:=λ_=>⟨(.type "tuple"),none,(.seq #[] 0),#[]⟩
noncomputable def o8:OO:=λ_=>⟨.none,none,(.fields #[]),#[]⟩
noncomputable def o9:OO:=oM "<module>" 176 1 7 175 8 179 180
noncomputable def o10:OO:=oR 9 3 3 v21
noncomputable def o11:OO:=oM "<module>" 182 1 11 181 12 185 186
noncomputable def o12:OO:=oR 13 3 3 v21
noncomputable def o13:OO:=oD [("__name__",165,.str "stillheap.errors" 194),("__doc__",166,.none),("__package__",167,.none),("__loader__",168,.builtin "__main__.__loader__#opaque"),("__spec__",169,.none),("__annotations__",170,.ref 6),("__builtins__",171,.ref 4),("__file__",173,.str "/claim/cut.py" 172),("__cached__",174,.none),("_wall",193,.ref 21),("HeapError",228,.ref 45),("BadHand",251,.ref 65),("BadName",274,.ref 84),("BadField",297,.ref 103)] 14
noncomputable def o14:OO:=oX (xs0.take 15)
noncomputable def o15:OO:=oT (oS ["k"] 190)
noncomputable def o16:OO:=oG fn0
noncomputable def o17:OO:=oC fn0 187 1 1 0 0 3 15 181 16 17 18 19 191 192
noncomputable def o18:OO:=oF fn0 v21 20
noncomputable def o19:OO:=oT [v4]
noncomputable def o20:OO:=oP (.builtin "type.__prepare__") (.type "type")
noncomputable def o21:OO:=oD [("__module__",203,.str "stillheap.errors" 194),("__qualname__",205,.str "HeapError" 204),("__firstlineno__",207,.int 5 206),("__init__",215,.ref 35),("called",222,.ref 42),("__static_attributes__",223,.ref 43)] 6
noncomputable def o22:OO:=oX [7,4,34,10,4,41]
noncomputable def o23:OO:=oM "HeapError" 198 5 25 181 26 201 202
noncomputable def o24:OO:=oR 27 3 24 v2
noncomputable def o25:OO:=oT (oS ["self","text"] 211)
noncomputable def o26:OO:=oG fn1
noncomputable def o27:OO:=oC fn1 208 7 2 0 0 3 29 181 30 31 32 33 213 214
noncomputable def o28:OO:=oF fn1 v2 34
noncomputable def o29:OO:=oT (oS ["self"] 219)
noncomputable def o30:OO:=oG fn2
noncomputable def o31:OO:=oC fn2 216 10 1 0 0 3 36 181 37 38 39 40 220 221
noncomputable def o32:OO:=oF fn2 v2 41
noncomputable def o33:OO:=oD [("__module__",203,.str "stillheap.errors" 194),("__firstlineno__",207,.int 5 206),("__init__",215,.ref 35),("called",222,.ref 42),("__static_attributes__",223,.ref 43),("__weakref__",225,.ref 46),("__doc__",226,.none)] 3
noncomputable def o34:OO:=oY "HeapError" [v4] [(.ref 45),v4,v6,v7,v0] 44 [(.ref 65),(.ref 84),(.ref 103)] (.some (.ref 22)) 196 204 v8
noncomputable def o35:OO:=λ_=>⟨v9,none,(.fields (List.toArray [(.str "__weakref__" 224),(.ref 45),v17,.none])),#[]⟩
noncomputable def o36:OO:=oU 45
noncomputable def o37:OO:=oP v5 (.ref 45)
noncomputable def o38:OO:=oT [(.ref 45)]
noncomputable def o39:OO:=oD [("__module__",236,.str "stillheap.errors" 194),("__qualname__",238,.str "BadHand" 237),("__firstlineno__",240,.int 12 239),("called",247,.ref 62),("__static_attributes__",248,.ref 63)] 5
noncomputable def o40:OO:=oX [14,4,61]
noncomputable def o41:OO:=oM "BadHand" 231 12 52 181 53 234 235
noncomputable def o42:OO:=oR 54 3 51 v2
noncomputable def o43:OO:=oT (oS ["self"] 244)
noncomputable def o44:OO:=oG fn3
noncomputable def o45:OO:=oC fn3 241 14 1 0 0 3 56 181 57 58 59 60 245 246
noncomputable def o46:OO:=oF fn3 v2 61
noncomputable def o47:OO:=oD [("__module__",236,.str "stillheap.errors" 194),("__firstlineno__",240,.int 12 239),("called",247,.ref 62),("__static_attributes__",248,.ref 63),("__doc__",249,.none)] 2
noncomputable def o48:OO:=oY "BadHand" [(.ref 45)] [(.ref 65),(.ref 45),v4,v6,v7,v0] 64 [] (.some (.ref 49)) 229 237 v8
noncomputable def o49:OO:=oU 65
noncomputable def o50:OO:=oP v5 (.ref 65)
noncomputable def o51:OO:=oD [("__module__",259,.str "stillheap.errors" 194),("__qualname__",261,.str "BadName" 260),("__firstlineno__",263,.int 16 262),("called",270,.ref 81),("__static_attributes__",271,.ref 82)] 5
noncomputable def o52:OO:=oX [18,4,80]
noncomputable def o53:OO:=oM "BadName" 254 16 71 181 72 257 258
noncomputable def o54:OO:=oR 73 3 70 v2
noncomputable def o55:OO:=oT (oS ["self"] 267)
noncomputable def o56:OO:=oG fn4
noncomputable def o57:OO:=oC fn4 264 18 1 0 0 3 75 181 76 77 78 79 268 269
noncomputable def o58:OO:=oF fn4 v2 80
noncomputable def o59:OO:=oD [("__module__",259,.str "stillheap.errors" 194),("__firstlineno__",263,.int 16 262),("called",270,.ref 81),("__static_attributes__",271,.ref 82),("__doc__",272,.none)] 2
noncomputable def o60:OO:=oY "BadName" [(.ref 45)] [(.ref 84),(.ref 45),v4,v6,v7,v0] 83 [] (.some (.ref 68)) 252 260 v8
noncomputable def o61:OO:=oU 84
noncomputable def o62:OO:=oP v5 (.ref 84)
noncomputable def o63:OO:=oD [("__module__",282,.str "stillheap.errors" 194),("__qualname__",284,.str "BadField" 283),("__firstlineno__",286,.int 20 285),("called",293,.ref 100),("__static_attributes__",294,.ref 101)] 5
noncomputable def o64:OO:=oX [22,4,99]
noncomputable def o65:OO:=oM "BadField" 277 20 90 181 91 280 281
noncomputable def o66:OO:=oR 92 3 89 v2
noncomputable def o67:OO:=oT (oS ["self"] 290)
noncomputable def o68:OO:=oG fn5
noncomputable def o69:OO:=oC fn5 287 22 1 0 0 3 94 181 95 96 97 98 291 292
noncomputable def o70:OO:=oF fn5 v2 99
noncomputable def o71:OO:=oD [("__module__",282,.str "stillheap.errors" 194),("__firstlineno__",286,.int 20 285),("called",293,.ref 100),("__static_attributes__",294,.ref 101),("__doc__",295,.none)] 2
noncomputable def o72:OO:=oY "BadField" [(.ref 45)] [(.ref 103),(.ref 45),v4,v6,v7,v0] 102 [] (.some (.ref 87)) 275 283 v8
noncomputable def o73:OO:=oU 103
noncomputable def o74:OO:=oP v5 (.ref 103)
noncomputable def o75:OO:=oD [("__name__",165,.str "stillheap.errors" 194),("__doc__",166,.none),("__package__",167,.none),("__loader__",168,.builtin "__main__.__loader__#opaque"),("__spec__",169,.none),("__annotations__",170,.ref 6),("__builtins__",171,.ref 4),("__file__",173,.str "/claim/cut.py" 172),("__cached__",174,.none),("_wall",193,.ref 21),("HeapError",228,.ref 45),("BadHand",251,.ref 65),("BadName",274,.ref 84),("BadField",297,.ref 103),("BadCount",320,.ref 122),("NoRoom",343,.ref 141),("TooManyWords",366,.ref 160),("RoundOn",389,.ref 179)] 18
noncomputable def o76:OO:=oX (xs0.take 27)
noncomputable def o77:OO:=oY "HeapError" [v4] [(.ref 45),v4,v6,v7,v0] 44 [(.ref 65),(.ref 84),(.ref 103),(.ref 122),(.ref 141),(.ref 160),(.ref 179)] (.some (.ref 22)) 196 204 v8
noncomputable def o78:OO:=oD [("__module__",305,.str "stillheap.errors" 194),("__qualname__",307,.str "BadCount" 306),("__firstlineno__",309,.int 24 308),("called",316,.ref 119),("__static_attributes__",317,.ref 120)] 5
noncomputable def o79:OO:=oX [26,4,118]
noncomputable def o80:OO:=oM "BadCount" 300 24 109 181 110 303 304
noncomputable def o81:OO:=oR 111 3 108 v2
noncomputable def o82:OO:=oT (oS ["self"] 313)
noncomputable def o83:OO:=oG fn6
noncomputable def o84:OO:=oC fn6 310 26 1 0 0 3 113 181 114 115 116 117 314 315
noncomputable def o85:OO:=oF fn6 v2 118
noncomputable def o86:OO:=oD [("__module__",305,.str "stillheap.errors" 194),("__firstlineno__",309,.int 24 308),("called",316,.ref 119),("__static_attributes__",317,.ref 120),("__doc__",318,.none)] 2
noncomputable def o87:OO:=oY "BadCount" [(.ref 45)] [(.ref 122),(.ref 45),v4,v6,v7,v0] 121 [] (.some (.ref 106)) 298 306 v8
noncomputable def o88:OO:=oU 122
noncomputable def o89:OO:=oP v5 (.ref 122)
noncomputable def o90:OO:=oD [("__module__",328,.str "stillheap.errors" 194),("__qualname__",330,.str "NoRoom" 329),("__firstlineno__",332,.int 28 331),("called",339,.ref 138),("__static_attributes__",340,.ref 139)] 5
noncomputable def o91:OO:=oX [30,4,137]
noncomputable def o92:OO:=oM "NoRoom" 323 28 128 181 129 326 327
noncomputable def o93:OO:=oR 130 3 127 v2
noncomputable def o94:OO:=oT (oS ["self"] 336)
noncomputable def o95:OO:=oG fn7
noncomputable def o96:OO:=oC fn7 333 30 1 0 0 3 132 181 133 134 135 136 337 338
noncomputable def o97:OO:=oF fn7 v2 137
noncomputable def o98:OO:=oD [("__module__",328,.str "stillheap.errors" 194),("__firstlineno__",332,.int 28 331),("called",339,.ref 138),("__static_attributes__",340,.ref 139),("__doc__",341,.none)] 2
noncomputable def o99:OO:=oY "NoRoom" [(.ref 45)] [(.ref 141),(.ref 45),v4,v6,v7,v0] 140 [] (.some (.ref 125)) 321 329 v8
noncomputable def afg:OO:=oU 141
noncomputable def afi:OO:=oP v5 (.ref 141)
noncomputable def afj:OO:=oD [("__module__",351,.str "stillheap.errors" 194),("__qualname__",353,.str "TooManyWords" 352),("__firstlineno__",355,.int 32 354),("called",362,.ref 157),("__static_attributes__",363,.ref 158)] 5
noncomputable def afk:OO:=oX [34,4,156]
noncomputable def afm:OO:=oM "TooManyWords" 346 32 147 181 148 349 350
noncomputable def afn:OO:=oR 149 3 146 v2
noncomputable def YN:OO:=oT (oS ["self"] 359)
noncomputable def afo:OO:=oG fn8
noncomputable def YO:OO:=oC fn8 356 34 1 0 0 3 151 181 152 153 154 155 360 361
noncomputable def YQ:OO:=oF fn8 v2 156
noncomputable def YR:OO:=oD [("__module__",351,.str "stillheap.errors" 194),("__firstlineno__",355,.int 32 354),("called",362,.ref 157),("__static_attributes__",363,.ref 158),("__doc__",364,.none)] 2
noncomputable def YS:OO:=oY "TooManyWords" [(.ref 45)] [(.ref 160),(.ref 45),v4,v6,v7,v0] 159 [] (.some (.ref 144)) 344 352 v8
noncomputable def afp:OO:=oU 160
noncomputable def afq:OO:=oP v5 (.ref 160)
noncomputable def afr:OO:=oD [("__module__",374,.str "stillheap.errors" 194),("__qualname__",376,.str "RoundOn" 375),("__firstlineno__",378,.int 36 377),("called",385,.ref 176),("__static_attributes__",386,.ref 177)] 5
noncomputable def afs:OO:=oX [38,4,175]
noncomputable def aft:OO:=oM "RoundOn" 369 36 166 181 167 372 373
noncomputable def afu:OO:=oR 168 3 165 v2
noncomputable def YT:OO:=oT (oS ["self"] 382)
noncomputable def afv:OO:=oG fn9
noncomputable def YU:OO:=oC fn9 379 38 1 0 0 3 170 181 171 172 173 174 383 384
noncomputable def YV:OO:=oF fn9 v2 175
noncomputable def YW:OO:=oD [("__module__",374,.str "stillheap.errors" 194),("__firstlineno__",378,.int 36 377),("called",385,.ref 176),("__static_attributes__",386,.ref 177),("__doc__",387,.none)] 2
noncomputable def YX:OO:=oY "RoundOn" [(.ref 45)] [(.ref 179),(.ref 45),v4,v6,v7,v0] 178 [] (.some (.ref 163)) 367 375 v8
noncomputable def afw:OO:=oU 179
noncomputable def afx:OO:=oP v5 (.ref 179)
noncomputable def afy:OO:=oD (ap [("__name__",165,.str "stillheap.pictures" 549),("__doc__",166,.none),("__package__",167,.none),("__loader__",168,.builtin "__main__.__loader__#opaque"),("__spec__",169,.none),("__annotations__",170,.ref 6),("__builtins__",171,.ref 4),("__file__",173,.str "/claim/cut.py" 172),("__cached__",174,.none),("_wall",193,.ref 21),("HeapError",228,.ref 45),("BadHand",251,.ref 65),("BadName",274,.ref 84),("BadField",297,.ref 103),("BadCount",320,.ref 122),("NoRoom",343,.ref 141),("TooManyWords",366,.ref 160),("RoundOn",389,.ref 179),("NoRound",412,.ref 198),("BadView",435,.ref 217),("BadAddress",458,.ref 236),("HANDS",462,.int 8 461),("WEAK_NAMES",464,.int 8 463),("MOST_FIELDS",466,.int 6 465),("LEAST_ROOM",468,.int 7 467),("MOST_YOUNG",470,.int 64 469),("MOST_LIMIT",472,.int 400 471),("number_value",479,.ref 245)] [("thing_value",486,.ref 252),("kind_of",493,.ref 259),("words_of",500,.ref 266),("look_at_number",507,.ref 273),("look_at_hand",514,.ref 280),("look_at_name",521,.ref 287),("look_at_field",529,.ref 294),("look_at_limits",537,.ref 301),("resolved",548,.ref 308),("is_picture",561,.ref 315),("first_unlike",567,.ref 320),("first_misplaced",579,.ref 327)]) 40
noncomputable def afz:OO:=oX (xs0.take 75)
noncomputable def YY:OO:=oY "HeapError" [v4] [(.ref 45),v4,v6,v7,v0] 44 [(.ref 65),(.ref 84),(.ref 103),(.ref 122),(.ref 141),(.ref 160),(.ref 179),(.ref 198),(.ref 217),(.ref 236)] (.some (.ref 22)) 196 204 v8
noncomputable def afA:OO:=oD [("__module__",397,.str "stillheap.errors" 194),("__qualname__",399,.str "NoRound" 398),("__firstlineno__",401,.int 40 400),("called",408,.ref 195),("__static_attributes__",409,.ref 196)] 5
noncomputable def afB:OO:=oX [42,4,194]
noncomputable def afC:OO:=oM "NoRound" 392 40 185 181 186 395 396
noncomputable def afD:OO:=oR 187 3 184 v2
noncomputable def YZ:OO:=oT (oS ["self"] 405)
noncomputable def afE:OO:=oG VN
noncomputable def Y0:OO:=oC VN 402 42 1 0 0 3 189 181 190 191 192 193 406 407
noncomputable def Y1:OO:=oF VN v2 194
noncomputable def Y2:OO:=oD [("__module__",397,.str "stillheap.errors" 194),("__firstlineno__",401,.int 40 400),("called",408,.ref 195),("__static_attributes__",409,.ref 196),("__doc__",410,.none)] 2
noncomputable def Y3:OO:=oY "NoRound" [(.ref 45)] [(.ref 198),(.ref 45),v4,v6,v7,v0] 197 [] (.some (.ref 182)) 390 398 v8
noncomputable def afF:OO:=oU 198
noncomputable def afG:OO:=oP v5 (.ref 198)
noncomputable def afH:OO:=oD [("__module__",420,.str "stillheap.errors" 194),("__qualname__",422,.str "BadView" 421),("__firstlineno__",424,.int 44 423),("called",431,.ref 214),("__static_attributes__",432,.ref 215)] 5
noncomputable def afI:OO:=oX [46,4,213]
noncomputable def afJ:OO:=oM "BadView" 415 44 204 181 205 418 419
noncomputable def afK:OO:=oR 206 3 203 v2
noncomputable def Y4:OO:=oT (oS ["self"] 428)
noncomputable def afL:OO:=oG VO
noncomputable def Y5:OO:=oC VO 425 46 1 0 0 3 208 181 209 210 211 212 429 430
noncomputable def Y6:OO:=oF VO v2 213
noncomputable def Y7:OO:=oD [("__module__",420,.str "stillheap.errors" 194),("__firstlineno__",424,.int 44 423),("called",431,.ref 214),("__static_attributes__",432,.ref 215),("__doc__",433,.none)] 2
noncomputable def Y8:OO:=oY "BadView" [(.ref 45)] [(.ref 217),(.ref 45),v4,v6,v7,v0] 216 [] (.some (.ref 201)) 413 421 v8
noncomputable def afM:OO:=oU 217
noncomputable def afN:OO:=oP v5 (.ref 217)
noncomputable def afO:OO:=oD [("__module__",443,.str "stillheap.errors" 194),("__qualname__",445,.str "BadAddress" 444),("__firstlineno__",447,.int 48 446),("called",454,.ref 233),("__static_attributes__",455,.ref 234)] 5
noncomputable def afP:OO:=oX [50,4,232]
noncomputable def afQ:OO:=oM "BadAddress" 438 48 223 181 224 441 442
noncomputable def afR:OO:=oR 225 3 222 v2
noncomputable def Y9:OO:=oT (oS ["self"] 451)
noncomputable def afS:OO:=oG VP
noncomputable def Za:OO:=oC VP 448 50 1 0 0 3 227 181 228 229 230 231 452 453
noncomputable def Zb:OO:=oF VP v2 232
noncomputable def Zc:OO:=oD [("__module__",443,.str "stillheap.errors" 194),("__firstlineno__",447,.int 48 446),("called",454,.ref 233),("__static_attributes__",455,.ref 234),("__doc__",456,.none)] 2
noncomputable def Zd:OO:=oY "BadAddress" [(.ref 45)] [(.ref 236),(.ref 45),v4,v6,v7,v0] 235 [] (.some (.ref 220)) 436 444 v8
noncomputable def afT:OO:=oU 236
noncomputable def afU:OO:=oP v5 (.ref 236)
noncomputable def Ze:OO:=oT (oS ["x"] 476)
noncomputable def afV:OO:=oG VQ
noncomputable def Zf:OO:=oC VQ 473 59 1 0 0 3 239 181 240 241 242 243 477 478
noncomputable def Zg:OO:=oF VQ v12 244
noncomputable def Zh:OO:=oT (oS ["t"] 483)
noncomputable def afW:OO:=oG VR
noncomputable def Zi:OO:=oC VR 480 62 1 0 0 3 246 181 247 248 249 250 484 485
noncomputable def Zj:OO:=oF VR v12 251
noncomputable def Zk:OO:=oT (oS ["value"] 490)
noncomputable def afX:OO:=oG VS
noncomputable def Zl:OO:=oC VS 487 66 1 0 0 3 253 181 254 255 256 257 491 492
noncomputable def Zm:OO:=oF VS v12 258
noncomputable def Zn:OO:=oT (oS ["fields"] 497)
noncomputable def afY:OO:=oG VT
noncomputable def Zo:OO:=oC VT 494 68 1 0 0 3 260 181 261 262 263 264 498 499
noncomputable def Zp:OO:=oF VT v12 265
noncomputable def Zq:OO:=oT (oS ["x"] 504)
noncomputable def afZ:OO:=oG VU
noncomputable def Zr:OO:=oC VU 501 72 1 0 0 3 267 181 268 269 270 271 505 506
noncomputable def Zs:OO:=oF VU v12 272
noncomputable def Zt:OO:=oT (oS ["h"] 511)
noncomputable def af0:OO:=oG VV
noncomputable def Zu:OO:=oC VV 508 75 1 0 0 3 274 181 275 276 277 278 512 513
noncomputable def Zv:OO:=oF VV v12 279
noncomputable def Zw:OO:=oT (oS ["w"] 518)
noncomputable def af1:OO:=oG VW
noncomputable def Zx:OO:=oC VW 515 78 1 0 0 3 281 181 282 283 284 285 519 520
noncomputable def Zy:OO:=oF VW v12 286
noncomputable def Zz:OO:=oT (oS ["k","fields"] 525)
noncomputable def af2:OO:=oG VX
noncomputable def ZA:OO:=oC VX 522 81 2 0 0 3 288 181 289 290 291 292 527 528
noncomputable def ZC:OO:=oF VX v12 293
noncomputable def ZD:OO:=oT (oS ["young","limit"] 533)
noncomputable def af3:OO:=oG VY
noncomputable def ZE:OO:=oC VY 530 84 2 0 0 3 295 181 296 297 298 299 535 536
noncomputable def ZF:OO:=oF VY v12 300
noncomputable def ZG:OO:=oT (oS ["memory","a","word"] 543)
noncomputable def af4:OO:=oG VZ
noncomputable def ZH:OO:=oC VZ 540 90 2 0 0 3 302 181 303 304 305 306 546 547
noncomputable def ZI:OO:=oF VZ (.str "stillheap.layout" 538) 307
noncomputable def ZJ:OO:=oT (oS ["ideal","memory","hands","names","book"] 554)
noncomputable def af5:OO:=oG V0
noncomputable def ZK:OO:=oC V0 551 97 5 0 0 3 309 181 310 311 312 313 559 560
noncomputable def ZL:OO:=oF V0 v13 314
noncomputable def af6:OO:=oG V1
noncomputable def ZM:OO:=oN V1 562 99 5 0 0 3 316 181 317 318 565 566
noncomputable def ZN:OO:=oF V1 v13 319
noncomputable def ZO:OO:=oT (oS ["ideal","memory","book","uses","pair","a"] 571)
noncomputable def af7:OO:=oG V2
noncomputable def ZP:OO:=oC V2 568 113 3 0 0 3 321 181 322 323 324 325 577 578
noncomputable def ZQ:OO:=oF V2 v13 326
noncomputable def af8:OO:=oD (ap [("__name__",165,.str "stillheap.weaknames" 841),("__doc__",166,.none),("__package__",167,.none),("__loader__",168,.builtin "__main__.__loader__#opaque"),("__spec__",169,.none),("__annotations__",170,.ref 6),("__builtins__",171,.ref 4),("__file__",173,.str "/claim/cut.py" 172),("__cached__",174,.none),("_wall",193,.ref 21),("HeapError",228,.ref 45),("BadHand",251,.ref 65),("BadName",274,.ref 84),("BadField",297,.ref 103),("BadCount",320,.ref 122),("NoRoom",343,.ref 141),("TooManyWords",366,.ref 160),("RoundOn",389,.ref 179),("NoRound",412,.ref 198),("BadView",435,.ref 217),("BadAddress",458,.ref 236),("HANDS",462,.int 8 461),("WEAK_NAMES",464,.int 8 463),("MOST_FIELDS",466,.int 6 465),("LEAST_ROOM",468,.int 7 467),("MOST_YOUNG",470,.int 64 469),("MOST_LIMIT",472,.int 400 471),("number_value",479,.ref 245)] [("thing_value",486,.ref 252),("kind_of",493,.ref 259),("words_of",500,.ref 266),("look_at_number",507,.ref 273),("look_at_hand",514,.ref 280),("look_at_name",521,.ref 287),("look_at_field",529,.ref 294),("look_at_limits",537,.ref 301),("resolved",548,.ref 308),("is_picture",561,.ref 315),("first_unlike",567,.ref 320),("first_misplaced",579,.ref 327),("addresses_of",585,.ref 332),("first_headless",595,.ref 339),("first_unlike_field",608,.ref 346),("first_unlike_word",622,.ref 353),("is_like",632,.ref 360),("place_met",640,.ref 367),("Hands",746,.ref 447),("MOST_BEARERS",750,.int 12 749),("WordTable",826,.ref 510),("last_steps",840,.ref 521)]) 50
noncomputable def af9:OO:=oX (xs0.take 102)
noncomputable def aga:OO:=oG V3
noncomputable def ZR:OO:=oN V3 580 123 2 0 0 3 328 181 329 330 583 584
noncomputable def ZS:OO:=oF V3 v13 331
noncomputable def ZT:OO:=oT (oS ["ideal","memory","book","pair"] 589)
noncomputable def agb:OO:=oG V4
noncomputable def ZU:OO:=oC V4 586 125 3 0 0 3 333 181 334 335 336 337 593 594
noncomputable def ZV:OO:=oF V4 v13 338
noncomputable def ZW:OO:=oT (oS ["ideal","memory","book","stands","pair","k","value"] 599)
noncomputable def agc:OO:=oG V5
noncomputable def ZX:OO:=oC V5 596 130 3 0 0 3 340 181 341 342 343 344 606 607
noncomputable def ZY:OO:=oF V5 v13 345
noncomputable def ZZ:OO:=oT (oS ["kind","told","memory","words","book","stands","i","value"] 612)
noncomputable def agd:OO:=oG V6
noncomputable def Z0:OO:=oC V6 609 137 5 0 0 3 347 181 348 349 350 351 620 621
noncomputable def Z1:OO:=oF V6 v13 352
noncomputable def Z2:OO:=oT (oS ["value","memory","word","stands"] 626)
noncomputable def age:OO:=oG V7
noncomputable def Z3:OO:=oC V7 623 143 4 0 0 3 354 181 355 356 357 358 630 631
noncomputable def Z4:OO:=oF V7 v13 359
noncomputable def Z5:OO:=oT (oS ["memory","a"] 636)
noncomputable def agf:OO:=oG V8
noncomputable def Z6:OO:=oC V8 633 147 2 0 0 3 361 181 362 363 364 365 638 639
noncomputable def Z7:OO:=oF V8 v13 366
noncomputable def agg:OO:=oD [("__module__",650,.str "stillheap.hands" 641),("__qualname__",652,.str "Hands" 651),("__firstlineno__",654,.int 153 653),("__init__",661,.ref 381),("word_in",669,.ref 388),("all_words",676,.ref 395),("put",685,.ref 402),("copy",694,.ref 409),("number",703,.ref 416),("kind",712,.ref 423),("value",720,.ref 430),("same",729,.ref 437),("thing_due",737,.ref 444),("__static_attributes__",739,.ref 445)] 14
noncomputable def agh:OO:=oX [155,4,380,158,4,387,162,4,394,165,4,401,169,4,408,173,4,415,177,4,422,181,4,429,186,4,436,189,4,443]
noncomputable def agi:OO:=oM "Hands" 645 153 371 181 372 648 649
noncomputable def agj:OO:=oR 373 3 370 v10
noncomputable def Z8:OO:=oT (oS ["self"] 658)
noncomputable def agk:OO:=oG V9
noncomputable def Z9:OO:=oC V9 655 155 1 0 0 3 375 181 376 377 378 379 659 660
noncomputable def aaa:OO:=oF V9 v10 380
noncomputable def aab:OO:=oT (oS ["self","h"] 665)
noncomputable def agl:OO:=oG Wa
noncomputable def aac:OO:=oC Wa 662 158 2 0 0 3 382 181 383 384 385 386 667 668
noncomputable def aad:OO:=oF Wa v10 387
noncomputable def aae:OO:=oT (oS ["self"] 673)
noncomputable def agm:OO:=oG Wb
noncomputable def aaf:OO:=oC Wb 670 162 1 0 0 3 389 181 390 391 392 393 674 675
noncomputable def aag:OO:=oF Wb v10 394
noncomputable def aah:OO:=oT (oS ["self","h","word"] 680)
noncomputable def agn:OO:=oG Wc
noncomputable def aai:OO:=oC Wc 677 165 3 0 0 3 396 181 397 398 399 400 683 684
noncomputable def aaj:OO:=oF Wc v10 401
noncomputable def aak:OO:=oT (oS ["self","h","g"] 689)
noncomputable def ago:OO:=oG We
noncomputable def aal:OO:=oC We 686 169 3 0 0 3 403 181 404 405 406 407 692 693
noncomputable def aam:OO:=oF We v10 408
noncomputable def aan:OO:=oT (oS ["self","h","x"] 698)
noncomputable def agp:OO:=oG Wf
noncomputable def aao:OO:=oC Wf 695 173 3 0 0 3 410 181 411 412 413 414 701 702
noncomputable def aap:OO:=oF Wf v10 415
noncomputable def aaq:OO:=oT (oS ["self","h","kind"] 707)
noncomputable def agq:OO:=oG Wg
noncomputable def aar:OO:=oC Wg 704 177 2 0 0 3 417 181 418 419 420 421 710 711
noncomputable def aas:OO:=oF Wg v10 422
noncomputable def aat:OO:=oT (oS ["self","h"] 716)
noncomputable def agr:OO:=oG Wh
noncomputable def aau:OO:=oC Wh 713 181 2 0 0 3 424 181 425 426 427 428 718 719
noncomputable def aav:OO:=oF Wh v10 429
noncomputable def aaw:OO:=oT (oS ["self","h","g"] 724)
noncomputable def ags:OO:=oG Wi
noncomputable def aax:OO:=oC Wi 721 186 3 0 0 3 431 181 432 433 434 435 727 728
noncomputable def aay:OO:=oF Wi v10 436
noncomputable def aaz:OO:=oT (oS ["self","h"] 733)
noncomputable def agt:OO:=oG Wj
noncomputable def aaA:OO:=oC Wj 730 189 2 0 0 3 438 181 439 440 441 442 735 736
noncomputable def aaB:OO:=oF Wj v10 443
noncomputable def aaC:OO:=oT (oS ["words_held"] 738)
noncomputable def aaD:OO:=oD [("__module__",650,.str "stillheap.hands" 641),("__firstlineno__",654,.int 153 653),("__init__",661,.ref 381),("word_in",669,.ref 388),("all_words",676,.ref 395),("put",685,.ref 402),("copy",694,.ref 409),("number",703,.ref 416),("kind",712,.ref 423),("value",720,.ref 430),("same",729,.ref 437),("thing_due",737,.ref 444),("__static_attributes__",739,.ref 445),("__dict__",741,.ref 448),("__weakref__",743,.ref 449),("__doc__",744,.none)] 4
noncomputable def aaE:OO:=oY "Hands" [v0] [(.ref 447),v0] 446 [] none 643 651 v15
noncomputable def aaF:OO:=λ_=>⟨v9,none,(.fields (List.toArray [(.str "__dict__" 740),(.ref 447),v19,v20])),#[]⟩
noncomputable def aaG:OO:=λ_=>⟨v9,none,(.fields (List.toArray [(.str "__weakref__" 742),(.ref 447),v17,.none])),#[]⟩
noncomputable def agu:OO:=oU 447
noncomputable def agv:OO:=oP v5 (.ref 447)
noncomputable def agw:OO:=oD [("__module__",758,.str "stillheap.lastwords" 747),("__qualname__",760,.str "WordTable" 759),("__firstlineno__",762,.int 195 761),("__init__",769,.ref 465),("bear",778,.ref 472),("word_of",786,.ref 479),("bearers",793,.ref 486),("settle",802,.ref 493),("take",809,.ref 500),("said",816,.ref 507),("__static_attributes__",819,.ref 508)] 11
noncomputable def agx:OO:=oX [197,4,464,201,4,471,206,4,478,209,4,485,212,4,492,217,4,499,220,4,506]
noncomputable def agy:OO:=oM "WordTable" 753 195 455 181 456 756 757
noncomputable def agz:OO:=oR 457 3 454 v14
noncomputable def aaH:OO:=oT (oS ["self"] 766)
noncomputable def agA:OO:=oG Wl
noncomputable def aaI:OO:=oC Wl 763 197 1 0 0 3 459 181 460 461 462 463 767 768
noncomputable def aaJ:OO:=oF Wl v14 464
noncomputable def aaK:OO:=oT (oS ["self","t","x"] 773)
noncomputable def agB:OO:=oG Wm
noncomputable def aaL:OO:=oC Wm 770 201 3 0 0 3 466 181 467 468 469 470 776 777
noncomputable def aaM:OO:=oF Wm v14 471
noncomputable def aaN:OO:=oT (oS ["self","t"] 782)
noncomputable def agC:OO:=oG Wn
noncomputable def aaO:OO:=oC Wn 779 206 2 0 0 3 473 181 474 475 476 477 784 785
noncomputable def aaP:OO:=oF Wn v14 478
noncomputable def aaQ:OO:=oT (oS ["self"] 790)
noncomputable def agD:OO:=oG Wo
noncomputable def aaR:OO:=oC Wo 787 209 1 0 0 3 480 181 481 482 483 484 791 792
noncomputable def aaS:OO:=oF Wo v14 485
noncomputable def aaT:OO:=oT (oS ["self","things","t"] 797)
noncomputable def agE:OO:=oG Wq
noncomputable def aaU:OO:=oC Wq 794 212 2 0 0 3 487 181 488 489 490 491 800 801
noncomputable def aaV:OO:=oF Wq v14 492
noncomputable def aaW:OO:=oT (oS ["self"] 806)
noncomputable def agF:OO:=oG Wr
noncomputable def aaX:OO:=oC Wr 803 217 1 0 0 3 494 181 495 496 497 498 807 808
noncomputable def aaY:OO:=oF Wr v14 499
noncomputable def aaZ:OO:=oT (oS ["self"] 813)
noncomputable def agG:OO:=oG Ws
noncomputable def aa0:OO:=oC Ws 810 220 1 0 0 3 501 181 502 503 504 505 814 815
noncomputable def aa1:OO:=oF Ws v14 506
noncomputable def aa2:OO:=oT (oS ["words_borne","words_said"] 817)
noncomputable def aa3:OO:=oD [("__module__",758,.str "stillheap.lastwords" 747),("__firstlineno__",762,.int 195 761),("__init__",769,.ref 465),("bear",778,.ref 472),("word_of",786,.ref 479),("bearers",793,.ref 486),("settle",802,.ref 493),("take",809,.ref 500),("said",816,.ref 507),("__static_attributes__",819,.ref 508),("__dict__",821,.ref 511),("__weakref__",823,.ref 512),("__doc__",824,.none)] 4
noncomputable def aa4:OO:=oY "WordTable" [v0] [(.ref 510),v0] 509 [] none 751 759 v15
noncomputable def aa5:OO:=λ_=>⟨v9,none,(.fields (List.toArray [(.str "__dict__" 820),(.ref 510),v19,v20])),#[]⟩
noncomputable def aa6:OO:=λ_=>⟨v9,none,(.fields (List.toArray [(.str "__weakref__" 822),(.ref 510),v17,.none])),#[]⟩
noncomputable def agH:OO:=oU 510
noncomputable def agI:OO:=oP v5 (.ref 510)
noncomputable def aa7:OO:=oT (oS ["view","steps","place","thing","met","done"] 832)
noncomputable def agJ:OO:=oG Wu
noncomputable def aa8:OO:=oC Wu 829 223 1 0 0 3 515 181 516 517 518 519 838 839
noncomputable def aa9:OO:=oF Wu (.str "stillheap.reach" 827) 520
noncomputable def agK:OO:=oD (ap [("__name__",165,.str "stillheap.ideal" 1086),("__doc__",166,.none),("__package__",167,.none),("__loader__",168,.builtin "__main__.__loader__#opaque"),("__spec__",169,.none),("__annotations__",170,.ref 6),("__builtins__",171,.ref 4),("__file__",173,.str "/claim/cut.py" 172),("__cached__",174,.none),("_wall",193,.ref 21),("HeapError",228,.ref 45),("BadHand",251,.ref 65),("BadName",274,.ref 84),("BadField",297,.ref 103),("BadCount",320,.ref 122),("NoRoom",343,.ref 141),("TooManyWords",366,.ref 160),("RoundOn",389,.ref 179),("NoRound",412,.ref 198),("BadView",435,.ref 217),("BadAddress",458,.ref 236),("HANDS",462,.int 8 461),("WEAK_NAMES",464,.int 8 463),("MOST_FIELDS",466,.int 6 465),("LEAST_ROOM",468,.int 7 467),("MOST_YOUNG",470,.int 64 469),("MOST_LIMIT",472,.int 400 471),("number_value",479,.ref 245)] [("thing_value",486,.ref 252),("kind_of",493,.ref 259),("words_of",500,.ref 266),("look_at_number",507,.ref 273),("look_at_hand",514,.ref 280),("look_at_name",521,.ref 287),("look_at_field",529,.ref 294),("look_at_limits",537,.ref 301),("resolved",548,.ref 308),("is_picture",561,.ref 315),("first_unlike",567,.ref 320),("first_misplaced",579,.ref 327),("addresses_of",585,.ref 332),("first_headless",595,.ref 339),("first_unlike_field",608,.ref 346),("first_unlike_word",622,.ref 353),("is_like",632,.ref 360),("place_met",640,.ref 367),("Hands",746,.ref 447),("MOST_BEARERS",750,.int 12 749),("WordTable",826,.ref 510),("last_steps",840,.ref 521),("NameTable",900,.ref 564),("Heap",1077,.ref 691),("thing_among",1085,.ref 702)]) 53
noncomputable def agL:OO:=oX (xs0.take 111)
noncomputable def agM:OO:=oD [("__module__",850,.str "stillheap.weaknames" 841),("__qualname__",852,.str "NameTable" 851),("__firstlineno__",854,.int 238 853),("__init__",861,.ref 535),("name",870,.ref 542),("named",878,.ref 549),("all_named",885,.ref 556),("settle",891,.ref 561),("__static_attributes__",893,.ref 562)] 9
noncomputable def agN:OO:=oX [240,4,534,243,4,541,247,4,548,251,4,555,254,4,560]
noncomputable def agO:OO:=oM "NameTable" 845 238 525 181 526 848 849
noncomputable def agP:OO:=oR 527 3 524 v18
noncomputable def aba:OO:=oT (oS ["self"] 858)
noncomputable def agQ:OO:=oG Wv
noncomputable def abb:OO:=oC Wv 855 240 1 0 0 3 529 181 530 531 532 533 859 860
noncomputable def abc:OO:=oF Wv v18 534
noncomputable def abd:OO:=oT (oS ["self","w","t"] 865)
noncomputable def agR:OO:=oG Ww
noncomputable def abe:OO:=oC Ww 862 243 3 0 0 3 536 181 537 538 539 540 868 869
noncomputable def abf:OO:=oF Ww v18 541
noncomputable def abg:OO:=oT (oS ["self","w"] 874)
noncomputable def agS:OO:=oG Wx
noncomputable def abh:OO:=oC Wx 871 247 2 0 0 3 543 181 544 545 546 547 876 877
noncomputable def abi:OO:=oF Wx v18 548
noncomputable def abj:OO:=oT (oS ["self"] 882)
noncomputable def agT:OO:=oG Wy
noncomputable def abk:OO:=oC Wy 879 251 1 0 0 3 550 181 551 552 553 554 883 884
noncomputable def abl:OO:=oF Wy v18 555
noncomputable def agU:OO:=oG Wz
noncomputable def abm:OO:=oN Wz 886 254 2 0 0 3 557 181 558 559 889 890
noncomputable def abn:OO:=oF Wz v18 560
noncomputable def abo:OO:=oT (oS ["things_named"] 892)
noncomputable def abp:OO:=oD [("__module__",850,.str "stillheap.weaknames" 841),("__firstlineno__",854,.int 238 853),("__init__",861,.ref 535),("name",870,.ref 542),("named",878,.ref 549),("all_named",885,.ref 556),("settle",891,.ref 561),("__static_attributes__",893,.ref 562),("__dict__",895,.ref 565),("__weakref__",897,.ref 566),("__doc__",898,.none)] 4
noncomputable def abq:OO:=oY "NameTable" [v0] [(.ref 564),v0] 563 [] none 843 851 v15
noncomputable def abr:OO:=λ_=>⟨v9,none,(.fields (List.toArray [(.str "__dict__" 894),(.ref 564),v19,v20])),#[]⟩
noncomputable def abt:OO:=λ_=>⟨v9,none,(.fields (List.toArray [(.str "__weakref__" 896),(.ref 564),v17,.none])),#[]⟩
noncomputable def agV:OO:=oU 564
noncomputable def agW:OO:=oP v5 (.ref 564)
noncomputable def agX:OO:=oD [("__module__",910,.str "stillheap.heaps" 901),("__qualname__",912,.str "Heap" 911),("__firstlineno__",914,.int 257 913),("__init__",922,.ref 582),("add_thing",932,.ref 589),("load",943,.ref 596),("store",955,.ref 603),("copy",964,.ref 610),("drop",972,.ref 617),("number",981,.ref 624),("name",991,.ref 631),("read_thing",1001,.ref 638),("word",1011,.ref 645),("small_round",1017,.ref 650),("let_go",1026,.ref 657),("look_at_held",1034,.ref 664),("field_value",1043,.ref 671),("counts_held",1050,.ref 678),("words_among",1056,.ref 683),("led_among",1062,.ref 688),("__static_attributes__",1070,.ref 689)] 21
noncomputable def agY:OO:=oX [259,4,581,268,4,588,276,4,595,282,4,602,288,4,609,291,4,616,294,4,623,297,4,630,301,4,637,307,4,644,312,4,649,323,4,656,329,4,663,333,4,670,336,4,677,339,4,682,342,4,687]
noncomputable def agZ:OO:=oM "Heap" 905 257 572 181 573 908 909
noncomputable def ag0:OO:=oR 574 3 571 v3
noncomputable def abu:OO:=oT (oS ["self","makes_young"] 918)
noncomputable def ag1:OO:=oG WA
noncomputable def abv:OO:=oC WA 915 259 2 0 0 3 576 181 577 578 579 580 920 921
noncomputable def abw:OO:=oF WA v3 581
noncomputable def abx:OO:=oT (oS ["self","h","n","t"] 926)
noncomputable def ag2:OO:=oG WB
noncomputable def aby:OO:=oC WB 923 268 3 0 0 3 583 181 584 585 586 587 930 931
noncomputable def abz:OO:=oF WB v3 588
noncomputable def abA:OO:=oT (oS ["self","h","g","k","fields"] 936)
noncomputable def ag3:OO:=oG WC
noncomputable def abB:OO:=oC WC 933 276 4 0 0 3 590 181 591 592 593 594 941 942
noncomputable def abC:OO:=oF WC v3 595
noncomputable def abD:OO:=oT (oS ["self","g","k","h","fields","value"] 947)
noncomputable def ag4:OO:=oG WD
noncomputable def abE:OO:=oC WD 944 282 4 0 0 3 597 181 598 599 600 601 953 954
noncomputable def abF:OO:=oF WD v3 602
noncomputable def abG:OO:=oT (oS ["self","h","g"] 959)
noncomputable def ag5:OO:=oG WE
noncomputable def abH:OO:=oC WE 956 288 3 0 0 3 604 181 605 606 607 608 962 963
noncomputable def abI:OO:=oF WE v3 609
noncomputable def abJ:OO:=oT (oS ["self","h"] 968)
noncomputable def ag6:OO:=oG WG
noncomputable def abK:OO:=oC WG 965 291 2 0 0 3 611 181 612 613 614 615 970 971
noncomputable def abL:OO:=oF WG v3 616
noncomputable def abM:OO:=oT (oS ["self","h","x"] 976)
noncomputable def ag7:OO:=oG WH
noncomputable def abN:OO:=oC WH 973 294 3 0 0 3 618 181 619 620 621 622 979 980
noncomputable def abO:OO:=oF WH v3 623
noncomputable def abP:OO:=oT (oS ["self","w","h","t"] 985)
noncomputable def ag8:OO:=oG WI
noncomputable def abQ:OO:=oC WI 982 297 3 0 0 3 625 181 626 627 628 629 989 990
noncomputable def abR:OO:=oF WI v3 630
noncomputable def abS:OO:=oT (oS ["self","h","w","t"] 995)
noncomputable def ag9:OO:=oG WJ
noncomputable def abT:OO:=oC WJ 992 301 3 0 0 3 632 181 633 634 635 636 999 1000
noncomputable def abU:OO:=oF WJ v3 637
noncomputable def abV:OO:=oT (oS ["self","h","x","t"] 1005)
noncomputable def aha:OO:=oG WK
noncomputable def abW:OO:=oC WK 1002 307 3 0 0 3 639 181 640 641 642 643 1009 1010
noncomputable def abX:OO:=oF WK v3 644
noncomputable def ahb:OO:=oG WL
noncomputable def abY:OO:=oN WL 1012 312 1 0 0 3 646 181 647 648 1015 1016
noncomputable def abZ:OO:=oF WL v3 649
noncomputable def ab0:OO:=oT (oS ["self","gone","t"] 1021)
noncomputable def ahc:OO:=oG WM
noncomputable def ab1:OO:=oC WM 1018 323 2 0 0 3 651 181 652 653 654 655 1024 1025
noncomputable def ab2:OO:=oF WM v3 656
noncomputable def ab3:OO:=oT (oS ["self","t"] 1030)
noncomputable def ahe:OO:=oG WN
noncomputable def ab4:OO:=oC WN 1027 329 2 0 0 3 658 181 659 660 661 662 1032 1033
noncomputable def ab5:OO:=oF WN v3 663
noncomputable def ab6:OO:=oT (oS ["self","t","k"] 1038)
noncomputable def ahf:OO:=oG WO
noncomputable def ab7:OO:=oC WO 1035 333 3 0 0 3 665 181 666 667 668 669 1041 1042
noncomputable def ab8:OO:=oF WO v3 670
noncomputable def ab9:OO:=oT (oS ["self"] 1047)
noncomputable def ahg:OO:=oG WQ
noncomputable def aca:OO:=oC WQ 1044 336 1 0 0 3 672 181 673 674 675 676 1048 1049
noncomputable def acb:OO:=oF WQ v3 677
noncomputable def ahh:OO:=oG WR
noncomputable def acd:OO:=oN WR 1051 339 2 0 0 3 679 181 680 681 1054 1055
noncomputable def ace:OO:=oF WR v3 682
noncomputable def ahi:OO:=oG WS
noncomputable def acf:OO:=oN WS 1057 342 3 0 0 3 684 181 685 686 1060 1061
noncomputable def acg:OO:=oF WS v3 687
noncomputable def ach:OO:=oT (oS ["fields_held","in_hands","last_words","makes_young","next_thing","weak_names","young_things"] 1063)
noncomputable def aci:OO:=oD [("__module__",910,.str "stillheap.heaps" 901),("__firstlineno__",914,.int 257 913),("__init__",922,.ref 582),("add_thing",932,.ref 589),("load",943,.ref 596),("store",955,.ref 603),("copy",964,.ref 610),("drop",972,.ref 617),("number",981,.ref 624),("name",991,.ref 631),("read_thing",1001,.ref 638),("word",1011,.ref 645),("small_round",1017,.ref 650),("let_go",1026,.ref 657),("look_at_held",1034,.ref 664),("field_value",1043,.ref 671),("counts_held",1050,.ref 678),("words_among",1056,.ref 683),("led_among",1062,.ref 688),("__static_attributes__",1070,.ref 689),("__dict__",1072,.ref 692),("__weakref__",1074,.ref 693),("__doc__",1075,.none)] 4
noncomputable def ahj:OO:=oY "Heap" [v0] [(.ref 691),v0] 690 [] none 903 911 v15
noncomputable def acj:OO:=λ_=>⟨v9,none,(.fields (List.toArray [(.str "__dict__" 1071),(.ref 691),v19,v20])),#[]⟩
noncomputable def ack:OO:=λ_=>⟨v9,none,(.fields (List.toArray [(.str "__weakref__" 1073),(.ref 691),v17,.none])),#[]⟩
noncomputable def ahk:OO:=oU 691
noncomputable def ahm:OO:=oP v5 (.ref 691)
noncomputable def acm:OO:=oT (oS ["value","things"] 1081)
noncomputable def ahn:OO:=oG WT
noncomputable def acn:OO:=oC WT 1078 347 2 0 0 3 696 181 697 698 699 700 1083 1084
noncomputable def aco:OO:=oF WT v3 701
noncomputable def aho:OO:=oD (ap [("__name__",165,.str "stillheap.memory" 1291),("__doc__",166,.none),("__package__",167,.none),("__loader__",168,.builtin "__main__.__loader__#opaque"),("__spec__",169,.none),("__annotations__",170,.ref 6),("__builtins__",171,.ref 4),("__file__",173,.str "/claim/cut.py" 172),("__cached__",174,.none),("_wall",193,.ref 21),("HeapError",228,.ref 45),("BadHand",251,.ref 65),("BadName",274,.ref 84),("BadField",297,.ref 103),("BadCount",320,.ref 122),("NoRoom",343,.ref 141),("TooManyWords",366,.ref 160),("RoundOn",389,.ref 179),("NoRound",412,.ref 198),("BadView",435,.ref 217),("BadAddress",458,.ref 236),("HANDS",462,.int 8 461),("WEAK_NAMES",464,.int 8 463),("MOST_FIELDS",466,.int 6 465),("LEAST_ROOM",468,.int 7 467),("MOST_YOUNG",470,.int 64 469),("MOST_LIMIT",472,.int 400 471),("number_value",479,.ref 245)] [("thing_value",486,.ref 252),("kind_of",493,.ref 259),("words_of",500,.ref 266),("look_at_number",507,.ref 273),("look_at_hand",514,.ref 280),("look_at_name",521,.ref 287),("look_at_field",529,.ref 294),("look_at_limits",537,.ref 301),("resolved",548,.ref 308),("is_picture",561,.ref 315),("first_unlike",567,.ref 320),("first_misplaced",579,.ref 327),("addresses_of",585,.ref 332),("first_headless",595,.ref 339),("first_unlike_field",608,.ref 346),("first_unlike_word",622,.ref 353),("is_like",632,.ref 360),("place_met",640,.ref 367),("Hands",746,.ref 447),("MOST_BEARERS",750,.int 12 749),("WordTable",826,.ref 510),("last_steps",840,.ref 521),("NameTable",900,.ref 564),("Heap",1077,.ref 691),("thing_among",1085,.ref 702),("IdealHeap",1290,.ref 873)]) 54
noncomputable def ahp:OO:=oX (xs0.take 114)
noncomputable def acp:OO:=oY "Heap" [v0] [(.ref 691),v0] 690 [(.ref 873)] none 903 911 v15
noncomputable def acq:OO:=oT [(.ref 691)]
noncomputable def ahq:OO:=oD [("__module__",1095,.str "stillheap.ideal" 1086),("__qualname__",1097,.str "IdealHeap" 1096),("__firstlineno__",1099,.int 352 1098),("__init__",1108,.ref 716),("make",1118,.ref 723),("read",1128,.ref 730),("take",1135,.ref 737),("kind",1143,.ref 744),("value",1151,.ref 751),("fields",1159,.ref 758),("same",1168,.ref 765),("held",1175,.ref 772),("small",1182,.ref 779),("begin",1191,.ref 786),("end",1199,.ref 793),("round_on",1206,.ref 800),("hands",1213,.ref 807),("names",1220,.ref 814),("things",1227,.ref 821),("fields_of",1235,.ref 828),("is_old",1243,.ref 835),("word_of",1251,.ref 842),("doomed",1258,.ref 849),("said",1265,.ref 856),("made",1272,.ref 863),("spare",1282,.ref 870),("__static_attributes__",1287,.ref 871)] 27
noncomputable def ahr:OO:=oX [354,4,715,362,4,722,371,4,729,376,4,736,379,4,743,382,4,750,385,4,757,388,4,764,391,4,771,394,4,778,397,4,785,407,4,792,415,4,799,418,4,806,421,4,813,424,4,820,427,4,827,431,4,834,434,4,841,437,4,848,440,4,855,443,4,862,446,4,869]
noncomputable def ahs:OO:=oM "IdealHeap" 1090 352 706 181 707 1093 1094
noncomputable def aht:OO:=oR 708 3 705 v1
noncomputable def acr:OO:=oT (oS ["self","young","limit"] 1103)
noncomputable def ahu:OO:=oG WU
noncomputable def acs:OO:=oC WU 1100 354 3 0 0 3 710 181 711 712 713 714 1106 1107
noncomputable def acu:OO:=oF WU v1 715
noncomputable def acv:OO:=oT (oS ["self","h","n","size"] 1112)
noncomputable def ahv:OO:=oG WW
noncomputable def acw:OO:=oC WW 1109 362 3 0 0 3 717 181 718 719 720 721 1116 1117
noncomputable def acx:OO:=oF WW v1 722
noncomputable def acy:OO:=oT (oS ["self","h","w","t"] 1122)
noncomputable def ahw:OO:=oG WX
noncomputable def acz:OO:=oC WX 1119 371 3 0 0 3 724 181 725 726 727 728 1126 1127
noncomputable def acA:OO:=oF WX v1 729
noncomputable def acB:OO:=oT (oS ["self"] 1132)
noncomputable def ahx:OO:=oG WY
noncomputable def acC:OO:=oC WY 1129 376 1 0 0 3 731 181 732 733 734 735 1133 1134
noncomputable def acD:OO:=oF WY v1 736
noncomputable def acE:OO:=oT (oS ["self","h"] 1139)
noncomputable def ahy:OO:=oG WZ
noncomputable def acF:OO:=oC WZ 1136 379 2 0 0 3 738 181 739 740 741 742 1141 1142
noncomputable def acG:OO:=oF WZ v1 743
noncomputable def acH:OO:=oT (oS ["self","h"] 1147)
noncomputable def ahz:OO:=oG W0
noncomputable def acI:OO:=oC W0 1144 382 2 0 0 3 745 181 746 747 748 749 1149 1150
noncomputable def acJ:OO:=oF W0 v1 750
noncomputable def acK:OO:=oT (oS ["self","h"] 1155)
noncomputable def ahA:OO:=oG W2
noncomputable def acL:OO:=oC W2 1152 385 2 0 0 3 752 181 753 754 755 756 1157 1158
noncomputable def acM:OO:=oF W2 v1 757
noncomputable def acN:OO:=oT (oS ["self","h","g"] 1163)
noncomputable def ahB:OO:=oG W3
noncomputable def acO:OO:=oC W3 1160 388 3 0 0 3 759 181 760 761 762 763 1166 1167
noncomputable def acP:OO:=oF W3 v1 764
noncomputable def acQ:OO:=oT (oS ["self"] 1172)
noncomputable def ahC:OO:=oG W5
noncomputable def acR:OO:=oC W5 1169 391 1 0 0 3 766 181 767 768 769 770 1173 1174
noncomputable def acS:OO:=oF W5 v1 771
noncomputable def acT:OO:=oT (oS ["self"] 1179)
noncomputable def ahD:OO:=oG W6
noncomputable def acU:OO:=oC W6 1176 394 1 0 0 3 773 181 774 775 776 777 1180 1181
noncomputable def acV:OO:=oF W6 v1 778
noncomputable def acW:OO:=oT (oS ["self","kept","t"] 1186)
noncomputable def ahE:OO:=oG Xa
noncomputable def acX:OO:=oC Xa 1183 397 1 0 0 3 780 181 781 782 783 784 1189 1190
noncomputable def acY:OO:=oF Xa v1 785
noncomputable def acZ:OO:=oT (oS ["self","gone"] 1195)
noncomputable def ahF:OO:=oG Xb
noncomputable def ac0:OO:=oC Xb 1192 407 1 0 0 3 787 181 788 789 790 791 1197 1198
noncomputable def ac1:OO:=oF Xb v1 792
noncomputable def ac2:OO:=oT (oS ["self"] 1203)
noncomputable def ahG:OO:=oG Xc
noncomputable def ac3:OO:=oC Xc 1200 415 1 0 0 3 794 181 795 796 797 798 1204 1205
noncomputable def ac4:OO:=oF Xc v1 799
noncomputable def ac5:OO:=oT (oS ["self"] 1210)
noncomputable def ahH:OO:=oG Xd
noncomputable def ac6:OO:=oC Xd 1207 418 1 0 0 3 801 181 802 803 804 805 1211 1212
noncomputable def ac7:OO:=oF Xd v1 806
noncomputable def ac8:OO:=oT (oS ["self"] 1217)
noncomputable def ahI:OO:=oG Xe
noncomputable def ac9:OO:=oC Xe 1214 421 1 0 0 3 808 181 809 810 811 812 1218 1219
noncomputable def ada:OO:=oF Xe v1 813
noncomputable def adb:OO:=oT (oS ["self"] 1224)
noncomputable def ahJ:OO:=oG Xf
noncomputable def ade:OO:=oC Xf 1221 424 1 0 0 3 815 181 816 817 818 819 1225 1226
noncomputable def adf:OO:=oF Xf v1 820
noncomputable def adg:OO:=oT (oS ["self","t"] 1231)
noncomputable def ahK:OO:=oG Xg
noncomputable def adh:OO:=oC Xg 1228 427 2 0 0 3 822 181 823 824 825 826 1233 1234
noncomputable def adi:OO:=oF Xg v1 827
noncomputable def adj:OO:=oT (oS ["self","t"] 1239)
noncomputable def ahL:OO:=oG Xh
noncomputable def adk:OO:=oC Xh 1236 431 2 0 0 3 829 181 830 831 832 833 1241 1242
noncomputable def adl:OO:=oF Xh v1 834
noncomputable def adn:OO:=oT (oS ["self","t"] 1247)
noncomputable def ahM:OO:=oG Xi
noncomputable def ado:OO:=oC Xi 1244 434 2 0 0 3 836 181 837 838 839 840 1249 1250
noncomputable def adp:OO:=oF Xi v1 841
noncomputable def adq:OO:=oT (oS ["self"] 1255)
noncomputable def ahN:OO:=oG Xj
noncomputable def ads:OO:=oC Xj 1252 437 1 0 0 3 843 181 844 845 846 847 1256 1257
noncomputable def adt:OO:=oF Xj v1 848
noncomputable def adu:OO:=oT (oS ["self"] 1262)
noncomputable def ahO:OO:=oG Xk
noncomputable def adv:OO:=oC Xk 1259 440 1 0 0 3 850 181 851 852 853 854 1263 1264
noncomputable def adw:OO:=oF Xk v1 855
noncomputable def adx:OO:=oT (oS ["self"] 1269)
noncomputable def ahP:OO:=oG Xl
noncomputable def ady:OO:=oC Xl 1266 443 1 0 0 3 857 181 858 859 860 861 1270 1271
noncomputable def adz:OO:=oF Xl v1 862
noncomputable def adA:OO:=oT (oS ["self","t","spared","other"] 1276)
noncomputable def ahQ:OO:=oG Xm
noncomputable def adB:OO:=oC Xm 1273 446 2 0 0 3 864 181 865 866 867 868 1280 1281
noncomputable def adC:OO:=oF Xm v1 869
noncomputable def adD:OO:=oT (oS ["doomed_things","in_round","limit","young_room"] 1283)
noncomputable def adE:OO:=oD [("__module__",1095,.str "stillheap.ideal" 1086),("__firstlineno__",1099,.int 352 1098),("__init__",1108,.ref 716),("make",1118,.ref 723),("read",1128,.ref 730),("take",1135,.ref 737),("kind",1143,.ref 744),("value",1151,.ref 751),("fields",1159,.ref 758),("same",1168,.ref 765),("held",1175,.ref 772),("small",1182,.ref 779),("begin",1191,.ref 786),("end",1199,.ref 793),("round_on",1206,.ref 800),("hands",1213,.ref 807),("names",1220,.ref 814),("things",1227,.ref 821),("fields_of",1235,.ref 828),("is_old",1243,.ref 835),("word_of",1251,.ref 842),("doomed",1258,.ref 849),("said",1265,.ref 856),("made",1272,.ref 863),("spare",1282,.ref 870),("__static_attributes__",1287,.ref 871),("__doc__",1288,.none)] 2
noncomputable def adF:OO:=oY "IdealHeap" [(.ref 691)] [(.ref 873),(.ref 691),v0] 872 [] (.some (.ref 703)) 1088 1096 v15
noncomputable def ahR:OO:=oU 873
noncomputable def ahS:OO:=oP v5 (.ref 873)
noncomputable def adG:OO:=oD (ap [("__name__",165,.str "law_stillheap_k36_right_pictures" 1361),("__doc__",166,.none),("__package__",167,.none),("__loader__",168,.builtin "__main__.__loader__#opaque"),("__spec__",169,.none),("__annotations__",170,.ref 6),("__builtins__",171,.ref 4),("__file__",173,.str "/claim/cut.py" 172),("__cached__",174,.none),("_wall",193,.ref 21),("HeapError",228,.ref 45),("BadHand",251,.ref 65),("BadName",274,.ref 84),("BadField",297,.ref 103),("BadCount",320,.ref 122),("NoRoom",343,.ref 141),("TooManyWords",366,.ref 160),("RoundOn",389,.ref 179),("NoRound",412,.ref 198),("BadView",435,.ref 217),("BadAddress",458,.ref 236),("HANDS",462,.int 8 461),("WEAK_NAMES",464,.int 8 463),("MOST_FIELDS",466,.int 6 465),("LEAST_ROOM",468,.int 7 467),("MOST_YOUNG",470,.int 64 469),("MOST_LIMIT",472,.int 400 471),("number_value",479,.ref 245)] (ap [("thing_value",486,.ref 252),("kind_of",493,.ref 259),("words_of",500,.ref 266),("look_at_number",507,.ref 273),("look_at_hand",514,.ref 280),("look_at_name",521,.ref 287),("look_at_field",529,.ref 294),("look_at_limits",537,.ref 301),("resolved",548,.ref 308),("is_picture",561,.ref 315),("first_unlike",567,.ref 320),("first_misplaced",579,.ref 327),("addresses_of",585,.ref 332),("first_headless",595,.ref 339),("first_unlike_field",608,.ref 346),("first_unlike_word",622,.ref 353),("is_like",632,.ref 360),("place_met",640,.ref 367),("Hands",746,.ref 447),("MOST_BEARERS",750,.int 12 749),("WordTable",826,.ref 510),("last_steps",840,.ref 521),("NameTable",900,.ref 564),("Heap",1077,.ref 691),("thing_among",1085,.ref 702),("IdealHeap",1290,.ref 873),("Memory",1360,.ref 927),("_law_cell",1370,.ref 938)] [("_law_mixed",1380,.ref 945),("_law_numbers",1394,.ref 952),("_law_deed",1406,.ref 959),("_law_round",1414,.ref 966),("_law_heap",1425,.ref 973),("_law_places",1437,.ref 980),("_law_spoken",1446,.ref 987),("_law_model",1452,.ref 992),("_law_memory",1461,.ref 999),("law",1467,.ref 1004)])) 66
noncomputable def ahT:OO:=oX (xs0.take 150)
noncomputable def ahU:OO:=oD [("__module__",1300,.str "stillheap.memory" 1291),("__qualname__",1302,.str "Memory" 1301),("__firstlineno__",1304,.int 451 1303),("__init__",1312,.ref 889),("size",1319,.ref 896),("at",1327,.ref 903),("put",1336,.ref 910),("copy_of",1343,.ref 917),("look_at_address",1351,.ref 924),("__static_attributes__",1353,.ref 925)] 10
noncomputable def ahV:OO:=oX [453,4,888,456,4,895,459,4,902,463,4,909,467,4,916,470,4,923]
noncomputable def ahW:OO:=oM "Memory" 1295 451 879 181 880 1298 1299
noncomputable def ahX:OO:=oR 881 3 878 v16
noncomputable def adH:OO:=oT (oS ["self","size"] 1308)
noncomputable def ahY:OO:=oG Xn
noncomputable def adI:OO:=oC Xn 1305 453 2 0 0 3 883 181 884 885 886 887 1310 1311
noncomputable def adJ:OO:=oF Xn v16 888
noncomputable def adK:OO:=oT (oS ["self"] 1316)
noncomputable def ahZ:OO:=oG Xo
noncomputable def adL:OO:=oC Xo 1313 456 1 0 0 3 890 181 891 892 893 894 1317 1318
noncomputable def adM:OO:=oF Xo v16 895
noncomputable def adN:OO:=oT (oS ["self","a"] 1323)
noncomputable def ah0:OO:=oG Xp
noncomputable def adO:OO:=oC Xp 1320 459 2 0 0 3 897 181 898 899 900 901 1325 1326
noncomputable def adP:OO:=oF Xp v16 902
noncomputable def adQ:OO:=oT (oS ["self","a","word"] 1331)
noncomputable def ah1:OO:=oG Xq
noncomputable def adR:OO:=oC Xq 1328 463 3 0 0 3 904 181 905 906 907 908 1334 1335
noncomputable def adS:OO:=oF Xq v16 909
noncomputable def adT:OO:=oT (oS ["self"] 1340)
noncomputable def ah2:OO:=oG RZ
noncomputable def adU:OO:=oC RZ 1337 467 1 0 0 3 911 181 912 913 914 915 1341 1342
noncomputable def adV:OO:=oF RZ v16 916
noncomputable def adW:OO:=oT (oS ["self","a"] 1347)
noncomputable def ah3:OO:=oG R0
noncomputable def adX:OO:=oC R0 1344 470 2 0 0 3 918 181 919 920 921 922 1349 1350
noncomputable def adY:OO:=oF R0 v16 923
noncomputable def adZ:OO:=oT (oS ["cells"] 1352)
noncomputable def ad0:OO:=oD [("__module__",1300,.str "stillheap.memory" 1291),("__firstlineno__",1304,.int 451 1303),("__init__",1312,.ref 889),("size",1319,.ref 896),("at",1327,.ref 903),("put",1336,.ref 910),("copy_of",1343,.ref 917),("look_at_address",1351,.ref 924),("__static_attributes__",1353,.ref 925),("__dict__",1355,.ref 928),("__weakref__",1357,.ref 929),("__doc__",1358,.none)] 4
noncomputable def ad1:OO:=oY "Memory" [v0] [(.ref 927),v0] 926 [] none 1293 1301 v15
noncomputable def ad2:OO:=λ_=>⟨v9,none,(.fields (List.toArray [(.str "__dict__" 1354),(.ref 927),v19,v20])),#[]⟩
noncomputable def ad3:OO:=λ_=>⟨v9,none,(.fields (List.toArray [(.str "__weakref__" 1356),(.ref 927),v17,.none])),#[]⟩
noncomputable def ah4:OO:=oU 927
noncomputable def ah5:OO:=oP v5 (.ref 927)
noncomputable def ad4:OO:=oT (oS ["script","k"] 1366)
noncomputable def ah6:OO:=oG R1
noncomputable def ad5:OO:=oC R1 1363 474 2 0 0 3 932 181 933 934 935 936 1368 1369
noncomputable def ad6:OO:=oF R1 v11 937
noncomputable def ad7:OO:=oT (oS ["cell","k","first","second"] 1374)
noncomputable def ah7:OO:=oG R3
noncomputable def ad8:OO:=oC R3 1371 478 2 0 0 3 939 181 940 941 942 943 1378 1379
noncomputable def ad9:OO:=oF R3 v11 944
noncomputable def aea:OO:=oT (oS ["script","most","numbers","way","k","cell","rest","turn"] 1384)
noncomputable def ah8:OO:=oG R4
noncomputable def aeb:OO:=oC R4 1381 482 2 0 0 3 946 181 947 948 949 950 1392 1393
noncomputable def aec:OO:=oF R4 v11 951
noncomputable def aed:OO:=oT (oS ["heap","number","way","h","g","k"] 1398)
noncomputable def ah9:OO:=oG R5
noncomputable def aee:OO:=oC R5 1395 491 2 0 0 3 953 181 954 955 956 957 1404 1405
noncomputable def aef:OO:=oF R5 v11 958
noncomputable def aeg:OO:=oT (oS ["heap","way"] 1410)
noncomputable def aia:OO:=oG R6
noncomputable def aeh:OO:=oC R6 1407 516 2 0 0 3 960 181 961 962 963 964 1412 1413
noncomputable def aei:OO:=oF R6 v11 965
noncomputable def aej:OO:=oT (oS ["script","most","heap","refused","number"] 1418)
noncomputable def aib:OO:=oG R7
noncomputable def aek:OO:=oC R7 1415 521 2 0 0 3 967 181 968 969 970 971 1423 1424
noncomputable def ael:OO:=oF R7 v11 972
noncomputable def aem:OO:=oT (oS ["heap","seed","things","places","a","t"] 1429)
noncomputable def aic:OO:=oG R8
noncomputable def aen:OO:=oC R8 1426 530 2 0 0 3 974 181 975 976 977 978 1435 1436
noncomputable def aeo:OO:=oF R8 v11 979
noncomputable def aep:OO:=oT (oS ["value","leads","m"] 1441)
noncomputable def aid:OO:=oG R9
noncomputable def aeq:OO:=oC R9 1438 539 3 0 0 3 981 181 982 983 984 985 1444 1445
noncomputable def aer:OO:=oF R9 v11 986
noncomputable def aie:OO:=oG Sa
noncomputable def aes:OO:=oN Sa 1447 543 2 0 0 3 988 181 989 990 1450 1451
noncomputable def aet:OO:=oF Sa v11 991
noncomputable def aeu:OO:=oT (oS ["model","memory","a"] 1456)
noncomputable def aif:OO:=oG Sb
noncomputable def aev:OO:=oC Sb 1453 560 1 0 0 3 993 181 994 995 996 997 1459 1460
noncomputable def aew:OO:=oF Sb v11 998
noncomputable def aih:OO:=oG Sd
noncomputable def aex:OO:=oN Sd 1462 565 1 0 0 3 1000 181 1001 1002 1465 1466
noncomputable def aey:OO:=oF Sd v11 1003
noncomputable def hL:List OO:=o0::o1::o2::adG::o4::o5::o6::o7::o8::o9::o10::o7::ahT::o11::o12::o7::o8::o15::o7::o16::o17::o18::o19::o20::o21::o7::o22::o23::o24::o7::o8::o25::o7::o26::o27::o28::o7::o8::o29::o7::o30::o31::o32::o7::o33::YY::o35::o36::o37::o38::o20::o39::o7::o40::o41::o42::o7::o8::o43::o7::o44::o45::o46::o7::o47::o48::o49::o50::o38::o20::o51::o7::o52::o53::o54::o7::o8::o55::o7::o56::o57::o58::o7::o59::o60::o61::o62::o38::o20::o63::o7::o64::o65::o66::o7::o8::o67::o7::o68::o69::o70::o7::o71::o72::o73::o74::o38::o20::o78::o7::o79::o80::o81::o7::o8::o82::o7::o83::o84::o85::o7::o86::o87::o88::o89::o38::o20::o90::o7::o91::o92::o93::o7::o8::o94::o7::o95::o96::o97::o7::o98::o99::afg::afi::o38::o20::afj::o7::afk::afm::afn::o7::o8::YN::o7::afo::YO::YQ::o7::YR::YS::afp::afq::o38::o20::afr::o7::afs::aft::afu::o7::o8::YT::o7::afv::YU::YV::o7::YW::YX::afw::afx::o38::o20::afA::o7::afB::afC::afD::o7::o8::YZ::o7::afE::Y0::Y1::o7::Y2::Y3::afF::afG::o38::o20::afH::o7::afI::afJ::afK::o7::o8::Y4::o7::afL::Y5::Y6::o7::Y7::Y8::afM::afN::o38::o20::afO::o7::afP::afQ::afR::o7::o8::Y9::o7::afS::Za::Zb::o7::Zc::Zd::afT::afU::o7::o8::Ze::o7::afV::Zf::Zg::o7::o8::Zh::o7::afW::Zi::Zj::o7::o8::Zk::o7::afX::Zl::Zm::o7::o8::Zn::o7::afY::Zo::Zp::o7::o8::Zq::o7::afZ::Zr::Zs::o7::o8::Zt::o7::af0::Zu::Zv::o7::o8::Zw::o7::af1::Zx::Zy::o7::o8::Zz::o7::af2::ZA::ZC::o7::o8::ZD::o7::af3::ZE::ZF::o7::o8::ZG::o7::af4::ZH::ZI::o7::o8::ZJ::o7::af5::ZK::ZL::o7::o8::af6::ZM::ZN::o7::o8::ZO::o7::af7::ZP::ZQ::o7::o8::aga::ZR::ZS::o7::o8::ZT::o7::agb::ZU::ZV::o7::o8::ZW::o7::agc::ZX::ZY::o7::o8::ZZ::o7::agd::Z0::Z1::o7::o8::Z2::o7::age::Z3::Z4::o7::o8::Z5::o7::agf::Z6::Z7::o7::o20::agg::o7::agh::agi::agj::o7::o8::Z8::o7::agk::Z9::aaa::o7::o8::aab::o7::agl::aac::aad::o7::o8::aae::o7::agm::aaf::aag::o7::o8::aah::o7::agn::aai::aaj::o7::o8::aak::o7::ago::aal::aam::o7::o8::aan::o7::agp::aao::aap::o7::o8::aaq::o7::agq::aar::aas::o7::o8::aat::o7::agr::aau::aav::o7::o8::aaw::o7::ags::aax::aay::o7::o8::aaz::o7::agt::aaA::aaB::aaC::aaD::aaE::aaF::aaG::agu::agv::o7::o20::agw::o7::agx::agy::agz::o7::o8::aaH::o7::agA::aaI::aaJ::o7::o8::aaK::o7::agB::aaL::aaM::o7::o8::aaN::o7::agC::aaO::aaP::o7::o8::aaQ::o7::agD::aaR::aaS::o7::o8::aaT::o7::agE::aaU::aaV::o7::o8::aaW::o7::agF::aaX::aaY::o7::o8::aaZ::o7::agG::aa0::aa1::aa2::aa3::aa4::aa5::aa6::agH::agI::o7::o8::aa7::o7::agJ::aa8::aa9::o7::o20::agM::o7::agN::agO::agP::o7::o8::aba::o7::agQ::abb::abc::o7::o8::abd::o7::agR::abe::abf::o7::o8::abg::o7::agS::abh::abi::o7::o8::abj::o7::agT::abk::abl::o7::o8::agU::abm::abn::abo::abp::abq::abr::abt::agV::agW::o7::o20::agX::o7::agY::agZ::ag0::o7::o8::abu::o7::ag1::abv::abw::o7::o8::abx::o7::ag2::aby::abz::o7::o8::abA::o7::ag3::abB::abC::o7::o8::abD::o7::ag4::abE::abF::o7::o8::abG::o7::ag5::abH::abI::o7::o8::abJ::o7::ag6::abK::abL::o7::o8::abM::o7::ag7::abN::abO::o7::o8::abP::o7::ag8::abQ::abR::o7::o8::abS::o7::ag9::abT::abU::o7::o8::abV::o7::aha::abW::abX::o7::o8::ahb::abY::abZ::o7::o8::ab0::o7::ahc::ab1::ab2::o7::o8::ab3::o7::ahe::ab4::ab5::o7::o8::ab6::o7::ahf::ab7::ab8::o7::o8::ab9::o7::ahg::aca::acb::o7::o8::ahh::acd::ace::o7::o8::ahi::acf::acg::ach::aci::acp::acj::ack::ahk::ahm::o7::o8::acm::o7::ahn::acn::aco::acq::o20::ahq::o7::ahr::ahs::aht::o7::o8::acr::o7::ahu::acs::acu::o7::o8::acv::o7::ahv::acw::acx::o7::o8::acy::o7::ahw::acz::acA::o7::o8::acB::o7::ahx::acC::acD::o7::o8::acE::o7::ahy::acF::acG::o7::o8::acH::o7::ahz::acI::acJ::o7::o8::acK::o7::ahA::acL::acM::o7::o8::acN::o7::ahB::acO::acP::o7::o8::acQ::o7::ahC::acR::acS::o7::o8::acT::o7::ahD::acU::acV::o7::o8::acW::o7::ahE::acX::acY::o7::o8::acZ::o7::ahF::ac0::ac1::o7::o8::ac2::o7::ahG::ac3::ac4::o7::o8::ac5::o7::ahH::ac6::ac7::o7::o8::ac8::o7::ahI::ac9::ada::o7::o8::adb::o7::ahJ::ade::adf::o7::o8::adg::o7::ahK::adh::adi::o7::o8::adj::o7::ahL::adk::adl::o7::o8::adn::o7::ahM::ado::adp::o7::o8::adq::o7::ahN::ads::adt::o7::o8::adu::o7::ahO::adv::adw::o7::o8::adx::o7::ahP::ady::adz::o7::o8::adA::o7::ahQ::adB::adC::adD::adE::adF::ahR::ahS::o7::o20::ahU::o7::ahV::ahW::ahX::o7::o8::adH::o7::ahY::adI::adJ::o7::o8::adK::o7::ahZ::adL::adM::o7::o8::adN::o7::ah0::adO::adP::o7::o8::adQ::o7::ah1::adR::adS::o7::o8::adT::o7::ah2::adU::adV::o7::o8::adW::o7::ah3::adX::adY::adZ::ad0::ad1::ad2::ad3::ah4::ah5::o7::o8::ad4::o7::ah6::ad5::ad6::o7::o8::ad7::o7::ah7::ad8::ad9::o7::o8::aea::o7::ah8::aeb::aec::o7::o8::aed::o7::ah9::aee::aef::o7::o8::aeg::o7::aia::aeh::aei::o7::o8::aej::o7::aib::aek::ael::o7::o8::aem::o7::aic::aen::aeo::o7::o8::aep::o7::aid::aeq::aer::o7::o8::aie::aes::aet::o7::o8::aeu::o7::aif::aev::aew::o7::o8::aih::aex::aey::[]
noncomputable def hTa(P:Params):BT:=mkT P 12 (stT (hL.take 15) [(3,o3),(12,o8)])
noncomputable def hSa(w:World)(os:OsState):SharedT:=⟨hTa w.params,15,⟨[],[],[],0,[],[],false,(List.toArray []),[],0,false,false,false,0,[2000,10,10],false,0,true,[],[],0,false⟩,#[],⟨0,0,0,0⟩,187,os⟩
noncomputable def hTb(P:Params):BT:=mkT P 12 (stT (hL.take 15) [(3,o3),(12,o8)])
noncomputable def hSb(w:World)(os:OsState):SharedT:=⟨hTb w.params,15,⟨[],[],[],0,[],[],false,(List.toArray []),[],0,false,false,false,0,[2000,10,10],false,0,true,[],[],0,false⟩,#[],⟨0,0,0,0⟩,187,os⟩
noncomputable def hT0(P:Params):BT:=mkT P 12 (stT (hL.take 106) [(3,o13),(12,o14),(45,o34)])
noncomputable def hS0(w:World)(os:OsState):SharedT:=⟨hT0 w.params,106,⟨[],[],[],0,[],[],false,(List.toArray []),[],0,false,false,false,0,[2000,10,10],false,0,true,[],[],0,false⟩,#[],⟨0,0,0,0⟩,298,os⟩
noncomputable def hT1(P:Params):BT:=mkT P 12 (stT (hL.take 182) [(3,o75),(12,o76),(45,o77)])
noncomputable def hS1(w:World)(os:OsState):SharedT:=⟨hT1 w.params,182,⟨[],[],[],0,[],[],false,(List.toArray []),[],0,false,false,false,0,[2000,10,10],false,0,true,[],[],0,false⟩,#[],⟨0,0,0,0⟩,390,os⟩
noncomputable def hT2(P:Params):BT:=mkT P 12 (stT (hL.take 328) [(3,afy),(12,afz)])
noncomputable def hS2(w:World)(os:OsState):SharedT:=⟨hT2 w.params,328,⟨[],[],[],0,[],[],false,(List.toArray []),[],0,false,false,false,0,[2000,10,10],false,0,true,[],[],0,false⟩,#[],⟨0,0,0,0⟩,580,os⟩
noncomputable def hT3(P:Params):BT:=mkT P 12 (stT (hL.take 522) [(3,af8),(12,af9)])
noncomputable def hS3(w:World)(os:OsState):SharedT:=⟨hT3 w.params,522,⟨[],[],[],0,[],[],false,(List.toArray []),[],0,false,false,false,0,[2000,10,10],false,0,true,[],[],0,false⟩,#[],⟨0,0,0,0⟩,843,os⟩
noncomputable def hT4(P:Params):BT:=mkT P 12 (stT (hL.take 703) [(3,agK),(12,agL),(691,ahj)])
noncomputable def hS4(w:World)(os:OsState):SharedT:=⟨hT4 w.params,703,⟨[],[],[],0,[],[],false,(List.toArray []),[],0,false,false,false,0,[2000,10,10],false,0,true,[],[],0,false⟩,#[],⟨0,0,0,0⟩,1088,os⟩
noncomputable def hT5(P:Params):BT:=mkT P 12 (stT (hL.take 876) [(3,aho),(12,ahp)])
noncomputable def hS5(w:World)(os:OsState):SharedT:=⟨hT5 w.params,876,⟨[],[],[],0,[],[],false,(List.toArray []),[],0,false,false,false,0,[2000,10,10],false,0,true,[],[],0,false⟩,#[],⟨0,0,0,0⟩,1293,os⟩
noncomputable def hT6(P:Params):BT:=mkT P 12 hL
noncomputable def hS6(w:World)(os:OsState):SharedT:=⟨hT6 w.params,1005,⟨[],[],[],0,[],[],false,(List.toArray []),[],0,false,false,false,0,[2000,10,10],false,0,true,[],[],0,false⟩,#[],⟨0,0,0,0⟩,1468,os⟩
noncomputable def hTf(P:Params):BT:=mkT P 12 hL
noncomputable def hSf(w:World)(os:OsState):SharedT:=⟨hTf w.params,1005,⟨[],[],[],0,[],[],false,(List.toArray []),[],0,false,false,false,0,[2000,10,10],false,0,true,[],[],0,false⟩,#[],⟨0,0,0,0⟩,1468,os⟩
noncomputable def M8:Env:={scope:=(PySem.Challenge.pw_stillheap_k36_right_pictures).main.scope,locals:=mainNs,globals:=mainNs,cells:=[],code:=(.ref 13),frame:=some 14}
noncomputable def hG0:List Stmt:=[top 0,top 1,top 2,top 3,top 4,top 5]
noncomputable def hG1:List Stmt:=[top 6,top 7,top 8,top 9]
noncomputable def hG2:List Stmt:=[top 10,top 11,top 12,top 13,top 14,top 15,top 16,top 17,top 18,top 19,top 20,top 21,top 22,top 23,top 24,top 25,top 26,top 27,top 28,top 29,top 30,top 31,top 32,top 33,top 34]
noncomputable def hG3:List Stmt:=[top 35,top 36,top 37,top 38,top 39,top 40,top 41,top 42,top 43,top 44,top 45,top 46,top 47,top 48]
noncomputable def hG4:List Stmt:=[top 49,top 50,top 51,top 52,top 53]
noncomputable def hG5:List Stmt:=[top 54,top 55]
noncomputable def hG6:List Stmt:=[top 56,top 57,top 58,top 59,top 60,top 61,top 62,top 63,top 64,top 65,top 66,top 67,top 68]
noncomputable def hB:List Stmt:=hG0++(hG1++(hG2++(hG3++(hG4++(hG5++(hG6++[]))))))
noncomputable def hC:Code:=.body hB M8
noncomputable abbrev hF:List Frame:=[topFrame ⟨0,0,0,0⟩]
theorem aii(w:World)(os:OsState):topGo treeTable PySem.Challenge.pw_stillheap_k36_right_pictures w 11 (.some (.ref 6)) 12 ⟨boot_heap w.params,#[],boot_drawn,boot_toks,os⟩ (topStub PySem.Challenge.pw_stillheap_k36_right_pictures)=some ((hSa w os).abs,⟨denote treeTable hC,hC,⟨0,0,0,0⟩,hF⟩):=by kernel_rfl
theorem aij(w:World)(os:OsState):segRun treeTable PySem.Challenge.pw_stillheap_k36_right_pictures w 11 (.some (.ref 6)) 1 1 (hSa w os).abs (blockOf hB M8 hC ⟨0,0,0,0⟩ hF)=some (.next,(hSb w os).abs,hC,⟨0,0,0,0⟩):=by kernel_rfl
theorem hR0(w:World)(os:OsState):segRunT treeTable PySem.Challenge.pw_stillheap_k36_right_pictures w 11 (.some (.ref 6)) 1 1016 (hSb w os) (piecesOf hG0 M8 hC ⟨0,0,0,0⟩ hF)=some (.next,hS0 w os,hC,⟨20,0,23,16⟩):=by kernel_rfl
theorem hR1(w:World)(os:OsState):segRunT treeTable PySem.Challenge.pw_stillheap_k36_right_pictures w 11 (.some (.ref 6)) 1 973 (hS0 w os) (piecesOf hG1 M8 hC ⟨20,0,23,16⟩ hF)=some (.next,hS1 w os,hC,⟨36,0,39,16⟩):=by kernel_rfl
theorem hR2(w:World)(os:OsState):segRunT treeTable PySem.Challenge.pw_stillheap_k36_right_pictures w 11 (.some (.ref 6)) 1 1198 (hS1 w os) (piecesOf hG2 M8 hC ⟨36,0,39,16⟩ hF)=some (.next,hS2 w os,hC,⟨113,0,122,15⟩):=by kernel_rfl
theorem hR3(w:World)(os:OsState):segRunT treeTable PySem.Challenge.pw_stillheap_k36_right_pictures w 11 (.some (.ref 6)) 1 1197 (hS2 w os) (piecesOf hG3 M8 hC ⟨113,0,122,15⟩ hF)=some (.next,hS3 w os,hC,⟨237,0,237,8⟩):=by kernel_rfl
theorem hR4(w:World)(os:OsState):segRunT treeTable PySem.Challenge.pw_stillheap_k36_right_pictures w 11 (.some (.ref 6)) 1 1140 (hS3 w os) (piecesOf hG4 M8 hC ⟨237,0,237,8⟩ hF)=some (.next,hS4 w os,hC,⟨351,0,351,8⟩):=by kernel_rfl
theorem hR5(w:World)(os:OsState):segRunT treeTable PySem.Challenge.pw_stillheap_k36_right_pictures w 11 (.some (.ref 6)) 1 961 (hS4 w os) (piecesOf hG5 M8 hC ⟨351,0,351,8⟩ hF)=some (.next,hS5 w os,hC,⟨450,0,450,8⟩):=by kernel_rfl
theorem hR6(w:World)(os:OsState):segRunT treeTable PySem.Challenge.pw_stillheap_k36_right_pictures w 11 (.some (.ref 6)) 1 734 (hS5 w os) (piecesOf hG6 M8 hC ⟨450,0,450,8⟩ hF)=some (.next,hS6 w os,hC,⟨565,0,580,15⟩):=by kernel_rfl
theorem aik(w:World)(os:OsState):topRun treeTable PySem.Challenge.pw_stillheap_k36_right_pictures w 11 (.some (.ref 6)) 2 (hS6 w os).abs ⟨doneF .next,hC,⟨565,0,580,15⟩,hF⟩=some (hSf w os).abs:=by kernel_rfl
theorem ail(w:World)(os:OsState):topRun treeTable PySem.Challenge.pw_stillheap_k36_right_pictures w 11 (.some (.ref 6)) (12+(1+(1016+(973+(1198+(1197+(1140+(961+(734+2))))))))) ⟨boot_heap w.params,#[],boot_drawn,boot_toks,os⟩ (topStub PySem.Challenge.pw_stillheap_k36_right_pictures)=some (hSf w os).abs:=go_top (aii w os) (piece_block (aij w os) (piece_app (segRun_of (hR0 w os)) (piece_app (segRun_of (hR1 w os)) (piece_app (segRun_of (hR2 w os)) (piece_app (segRun_of (hR3 w os)) (piece_app (segRun_of (hR4 w os)) (piece_app (segRun_of (hR5 w os)) (piece_app (segRun_of (hR6 w os)) (aik w os)))))))))
noncomputable def hK(P:Params):Frag:=(nat_lit 2,o2 P)::(nat_lit 3,adG P)::(nat_lit 15,o7 P)::(nat_lit 17,o15 P)::(nat_lit 18,o7 P)::(nat_lit 20,o17 P)::(nat_lit 21,o18 P)::(nat_lit 22,o19 P)::(nat_lit 29,o7 P)::(nat_lit 31,o25 P)::(nat_lit 32,o7 P)::(nat_lit 34,o27 P)::(nat_lit 35,o28 P)::(nat_lit 36,o7 P)::(nat_lit 38,o29 P)::(nat_lit 39,o7 P)::(nat_lit 41,o31 P)::(nat_lit 42,o32 P)::(nat_lit 43,o7 P)::(nat_lit 44,o33 P)::(nat_lit 45,YY P)::(nat_lit 46,o35 P)::(nat_lit 49,o38 P)::(nat_lit 56,o7 P)::(nat_lit 58,o43 P)::(nat_lit 59,o7 P)::(nat_lit 61,o45 P)::(nat_lit 62,o46 P)::(nat_lit 63,o7 P)::(nat_lit 64,o47 P)::(nat_lit 65,o48 P)::(nat_lit 68,o38 P)::(nat_lit 75,o7 P)::(nat_lit 77,o55 P)::(nat_lit 78,o7 P)::(nat_lit 80,o57 P)::(nat_lit 81,o58 P)::(nat_lit 82,o7 P)::(nat_lit 83,o59 P)::(nat_lit 84,o60 P)::(nat_lit 87,o38 P)::(nat_lit 94,o7 P)::(nat_lit 96,o67 P)::(nat_lit 97,o7 P)::(nat_lit 99,o69 P)::(nat_lit 100,o70 P)::(nat_lit 101,o7 P)::(nat_lit 102,o71 P)::(nat_lit 103,o72 P)::(nat_lit 106,o38 P)::(nat_lit 113,o7 P)::(nat_lit 115,o82 P)::(nat_lit 116,o7 P)::(nat_lit 118,o84 P)::(nat_lit 119,o85 P)::(nat_lit 120,o7 P)::(nat_lit 121,o86 P)::(nat_lit 122,o87 P)::(nat_lit 125,o38 P)::(nat_lit 132,o7 P)::(nat_lit 134,o94 P)::(nat_lit 135,o7 P)::(nat_lit 137,o96 P)::(nat_lit 138,o97 P)::(nat_lit 139,o7 P)::(nat_lit 140,o98 P)::(nat_lit 141,o99 P)::(nat_lit 144,o38 P)::(nat_lit 151,o7 P)::(nat_lit 153,YN P)::(nat_lit 154,o7 P)::(nat_lit 156,YO P)::(nat_lit 157,YQ P)::(nat_lit 158,o7 P)::(nat_lit 159,YR P)::(nat_lit 160,YS P)::(nat_lit 163,o38 P)::(nat_lit 170,o7 P)::(nat_lit 172,YT P)::(nat_lit 173,o7 P)::(nat_lit 175,YU P)::(nat_lit 176,YV P)::(nat_lit 177,o7 P)::(nat_lit 178,YW P)::(nat_lit 179,YX P)::(nat_lit 182,o38 P)::(nat_lit 189,o7 P)::(nat_lit 191,YZ P)::(nat_lit 192,o7 P)::(nat_lit 194,Y0 P)::(nat_lit 195,Y1 P)::(nat_lit 196,o7 P)::(nat_lit 197,Y2 P)::(nat_lit 198,Y3 P)::(nat_lit 201,o38 P)::(nat_lit 208,o7 P)::(nat_lit 210,Y4 P)::(nat_lit 211,o7 P)::(nat_lit 213,Y5 P)::(nat_lit 214,Y6 P)::(nat_lit 215,o7 P)::(nat_lit 216,Y7 P)::(nat_lit 217,Y8 P)::(nat_lit 220,o38 P)::(nat_lit 227,o7 P)::(nat_lit 229,Y9 P)::(nat_lit 230,o7 P)::(nat_lit 232,Za P)::(nat_lit 233,Zb P)::(nat_lit 234,o7 P)::(nat_lit 235,Zc P)::(nat_lit 236,Zd P)::(nat_lit 239,o7 P)::(nat_lit 241,Ze P)::(nat_lit 242,o7 P)::(nat_lit 244,Zf P)::(nat_lit 245,Zg P)::(nat_lit 246,o7 P)::(nat_lit 248,Zh P)::(nat_lit 249,o7 P)::(nat_lit 251,Zi P)::(nat_lit 252,Zj P)::(nat_lit 253,o7 P)::(nat_lit 255,Zk P)::(nat_lit 256,o7 P)::(nat_lit 258,Zl P)::(nat_lit 259,Zm P)::(nat_lit 260,o7 P)::(nat_lit 262,Zn P)::(nat_lit 263,o7 P)::(nat_lit 265,Zo P)::(nat_lit 266,Zp P)::(nat_lit 267,o7 P)::(nat_lit 269,Zq P)::(nat_lit 270,o7 P)::(nat_lit 272,Zr P)::(nat_lit 273,Zs P)::(nat_lit 274,o7 P)::(nat_lit 276,Zt P)::(nat_lit 277,o7 P)::(nat_lit 279,Zu P)::(nat_lit 280,Zv P)::(nat_lit 281,o7 P)::(nat_lit 283,Zw P)::(nat_lit 284,o7 P)::(nat_lit 286,Zx P)::(nat_lit 287,Zy P)::(nat_lit 288,o7 P)::(nat_lit 290,Zz P)::(nat_lit 291,o7 P)::(nat_lit 293,ZA P)::(nat_lit 294,ZC P)::(nat_lit 295,o7 P)::(nat_lit 297,ZD P)::(nat_lit 298,o7 P)::(nat_lit 300,ZE P)::(nat_lit 301,ZF P)::(nat_lit 302,o7 P)::(nat_lit 304,ZG P)::(nat_lit 305,o7 P)::(nat_lit 307,ZH P)::(nat_lit 308,ZI P)::(nat_lit 309,o7 P)::(nat_lit 311,ZJ P)::(nat_lit 312,o7 P)::(nat_lit 314,ZK P)::(nat_lit 315,ZL P)::(nat_lit 316,o7 P)::(nat_lit 319,ZM P)::(nat_lit 320,ZN P)::(nat_lit 321,o7 P)::(nat_lit 323,ZO P)::(nat_lit 324,o7 P)::(nat_lit 326,ZP P)::(nat_lit 327,ZQ P)::(nat_lit 328,o7 P)::(nat_lit 331,ZR P)::(nat_lit 332,ZS P)::(nat_lit 333,o7 P)::(nat_lit 335,ZT P)::(nat_lit 336,o7 P)::(nat_lit 338,ZU P)::(nat_lit 339,ZV P)::(nat_lit 340,o7 P)::(nat_lit 342,ZW P)::(nat_lit 343,o7 P)::(nat_lit 345,ZX P)::(nat_lit 346,ZY P)::(nat_lit 347,o7 P)::(nat_lit 349,ZZ P)::(nat_lit 350,o7 P)::(nat_lit 352,Z0 P)::(nat_lit 353,Z1 P)::(nat_lit 354,o7 P)::(nat_lit 356,Z2 P)::(nat_lit 357,o7 P)::(nat_lit 359,Z3 P)::(nat_lit 360,Z4 P)::(nat_lit 361,o7 P)::(nat_lit 363,Z5 P)::(nat_lit 364,o7 P)::(nat_lit 366,Z6 P)::(nat_lit 367,Z7 P)::(nat_lit 375,o7 P)::(nat_lit 377,Z8 P)::(nat_lit 378,o7 P)::(nat_lit 380,Z9 P)::(nat_lit 381,aaa P)::(nat_lit 382,o7 P)::(nat_lit 384,aab P)::(nat_lit 385,o7 P)::(nat_lit 387,aac P)::(nat_lit 388,aad P)::(nat_lit 389,o7 P)::(nat_lit 391,aae P)::(nat_lit 392,o7 P)::(nat_lit 394,aaf P)::(nat_lit 395,aag P)::(nat_lit 396,o7 P)::(nat_lit 398,aah P)::(nat_lit 399,o7 P)::(nat_lit 401,aai P)::(nat_lit 402,aaj P)::(nat_lit 403,o7 P)::(nat_lit 405,aak P)::(nat_lit 406,o7 P)::(nat_lit 408,aal P)::(nat_lit 409,aam P)::(nat_lit 410,o7 P)::(nat_lit 412,aan P)::(nat_lit 413,o7 P)::(nat_lit 415,aao P)::(nat_lit 416,aap P)::(nat_lit 417,o7 P)::(nat_lit 419,aaq P)::(nat_lit 420,o7 P)::(nat_lit 422,aar P)::(nat_lit 423,aas P)::(nat_lit 424,o7 P)::(nat_lit 426,aat P)::(nat_lit 427,o7 P)::(nat_lit 429,aau P)::(nat_lit 430,aav P)::(nat_lit 431,o7 P)::(nat_lit 433,aaw P)::(nat_lit 434,o7 P)::(nat_lit 436,aax P)::(nat_lit 437,aay P)::(nat_lit 438,o7 P)::(nat_lit 440,aaz P)::(nat_lit 441,o7 P)::(nat_lit 443,aaA P)::(nat_lit 444,aaB P)::(nat_lit 445,aaC P)::(nat_lit 446,aaD P)::(nat_lit 447,aaE P)::(nat_lit 448,aaF P)::(nat_lit 449,aaG P)::(nat_lit 459,o7 P)::(nat_lit 461,aaH P)::(nat_lit 462,o7 P)::(nat_lit 464,aaI P)::(nat_lit 465,aaJ P)::(nat_lit 466,o7 P)::(nat_lit 468,aaK P)::(nat_lit 469,o7 P)::(nat_lit 471,aaL P)::(nat_lit 472,aaM P)::(nat_lit 473,o7 P)::(nat_lit 475,aaN P)::(nat_lit 476,o7 P)::(nat_lit 478,aaO P)::(nat_lit 479,aaP P)::(nat_lit 480,o7 P)::(nat_lit 482,aaQ P)::(nat_lit 483,o7 P)::(nat_lit 485,aaR P)::(nat_lit 486,aaS P)::(nat_lit 487,o7 P)::(nat_lit 489,aaT P)::(nat_lit 490,o7 P)::(nat_lit 492,aaU P)::(nat_lit 493,aaV P)::(nat_lit 494,o7 P)::(nat_lit 496,aaW P)::(nat_lit 497,o7 P)::(nat_lit 499,aaX P)::(nat_lit 500,aaY P)::(nat_lit 501,o7 P)::(nat_lit 503,aaZ P)::(nat_lit 504,o7 P)::(nat_lit 506,aa0 P)::(nat_lit 507,aa1 P)::(nat_lit 508,aa2 P)::(nat_lit 509,aa3 P)::(nat_lit 510,aa4 P)::(nat_lit 511,aa5 P)::(nat_lit 512,aa6 P)::(nat_lit 515,o7 P)::(nat_lit 517,aa7 P)::(nat_lit 518,o7 P)::(nat_lit 520,aa8 P)::(nat_lit 521,aa9 P)::(nat_lit 529,o7 P)::(nat_lit 531,aba P)::(nat_lit 532,o7 P)::(nat_lit 534,abb P)::(nat_lit 535,abc P)::(nat_lit 536,o7 P)::(nat_lit 538,abd P)::(nat_lit 539,o7 P)::(nat_lit 541,abe P)::(nat_lit 542,abf P)::(nat_lit 543,o7 P)::(nat_lit 545,abg P)::(nat_lit 546,o7 P)::(nat_lit 548,abh P)::(nat_lit 549,abi P)::(nat_lit 550,o7 P)::(nat_lit 552,abj P)::(nat_lit 553,o7 P)::(nat_lit 555,abk P)::(nat_lit 556,abl P)::(nat_lit 557,o7 P)::(nat_lit 560,abm P)::(nat_lit 561,abn P)::(nat_lit 562,abo P)::(nat_lit 563,abp P)::(nat_lit 564,abq P)::(nat_lit 565,abr P)::(nat_lit 566,abt P)::(nat_lit 576,o7 P)::(nat_lit 578,abu P)::(nat_lit 579,o7 P)::(nat_lit 581,abv P)::(nat_lit 582,abw P)::(nat_lit 583,o7 P)::(nat_lit 585,abx P)::(nat_lit 586,o7 P)::(nat_lit 588,aby P)::(nat_lit 589,abz P)::(nat_lit 590,o7 P)::(nat_lit 592,abA P)::(nat_lit 593,o7 P)::(nat_lit 595,abB P)::(nat_lit 596,abC P)::(nat_lit 597,o7 P)::(nat_lit 599,abD P)::(nat_lit 600,o7 P)::(nat_lit 602,abE P)::(nat_lit 603,abF P)::(nat_lit 604,o7 P)::(nat_lit 606,abG P)::(nat_lit 607,o7 P)::(nat_lit 609,abH P)::(nat_lit 610,abI P)::(nat_lit 611,o7 P)::(nat_lit 613,abJ P)::(nat_lit 614,o7 P)::(nat_lit 616,abK P)::(nat_lit 617,abL P)::(nat_lit 618,o7 P)::(nat_lit 620,abM P)::(nat_lit 621,o7 P)::(nat_lit 623,abN P)::(nat_lit 624,abO P)::(nat_lit 625,o7 P)::(nat_lit 627,abP P)::(nat_lit 628,o7 P)::(nat_lit 630,abQ P)::(nat_lit 631,abR P)::(nat_lit 632,o7 P)::(nat_lit 634,abS P)::(nat_lit 635,o7 P)::(nat_lit 637,abT P)::(nat_lit 638,abU P)::(nat_lit 639,o7 P)::(nat_lit 641,abV P)::(nat_lit 642,o7 P)::(nat_lit 644,abW P)::(nat_lit 645,abX P)::(nat_lit 646,o7 P)::(nat_lit 649,abY P)::(nat_lit 650,abZ P)::(nat_lit 651,o7 P)::(nat_lit 653,ab0 P)::(nat_lit 654,o7 P)::(nat_lit 656,ab1 P)::(nat_lit 657,ab2 P)::(nat_lit 658,o7 P)::(nat_lit 660,ab3 P)::(nat_lit 661,o7 P)::(nat_lit 663,ab4 P)::(nat_lit 664,ab5 P)::(nat_lit 665,o7 P)::(nat_lit 667,ab6 P)::(nat_lit 668,o7 P)::(nat_lit 670,ab7 P)::(nat_lit 671,ab8 P)::(nat_lit 672,o7 P)::(nat_lit 674,ab9 P)::(nat_lit 675,o7 P)::(nat_lit 677,aca P)::(nat_lit 678,acb P)::(nat_lit 679,o7 P)::(nat_lit 682,acd P)::(nat_lit 683,ace P)::(nat_lit 684,o7 P)::(nat_lit 687,acf P)::(nat_lit 688,acg P)::(nat_lit 689,ach P)::(nat_lit 690,aci P)::(nat_lit 691,acp P)::(nat_lit 692,acj P)::(nat_lit 693,ack P)::(nat_lit 696,o7 P)::(nat_lit 698,acm P)::(nat_lit 699,o7 P)::(nat_lit 701,acn P)::(nat_lit 702,aco P)::(nat_lit 703,acq P)::(nat_lit 710,o7 P)::(nat_lit 712,acr P)::(nat_lit 713,o7 P)::(nat_lit 715,acs P)::(nat_lit 716,acu P)::(nat_lit 717,o7 P)::(nat_lit 719,acv P)::(nat_lit 720,o7 P)::(nat_lit 722,acw P)::(nat_lit 723,acx P)::(nat_lit 724,o7 P)::(nat_lit 726,acy P)::(nat_lit 727,o7 P)::(nat_lit 729,acz P)::(nat_lit 730,acA P)::(nat_lit 731,o7 P)::(nat_lit 733,acB P)::(nat_lit 734,o7 P)::(nat_lit 736,acC P)::(nat_lit 737,acD P)::(nat_lit 738,o7 P)::(nat_lit 740,acE P)::(nat_lit 741,o7 P)::(nat_lit 743,acF P)::(nat_lit 744,acG P)::(nat_lit 745,o7 P)::(nat_lit 747,acH P)::(nat_lit 748,o7 P)::(nat_lit 750,acI P)::(nat_lit 751,acJ P)::(nat_lit 752,o7 P)::(nat_lit 754,acK P)::(nat_lit 755,o7 P)::(nat_lit 757,acL P)::(nat_lit 758,acM P)::(nat_lit 759,o7 P)::(nat_lit 761,acN P)::(nat_lit 762,o7 P)::(nat_lit 764,acO P)::(nat_lit 765,acP P)::(nat_lit 766,o7 P)::(nat_lit 768,acQ P)::(nat_lit 769,o7 P)::(nat_lit 771,acR P)::(nat_lit 772,acS P)::(nat_lit 773,o7 P)::(nat_lit 775,acT P)::(nat_lit 776,o7 P)::(nat_lit 778,acU P)::(nat_lit 779,acV P)::(nat_lit 780,o7 P)::(nat_lit 782,acW P)::(nat_lit 783,o7 P)::(nat_lit 785,acX P)::(nat_lit 786,acY P)::(nat_lit 787,o7 P)::(nat_lit 789,acZ P)::(nat_lit 790,o7 P)::(nat_lit 792,ac0 P)::(nat_lit 793,ac1 P)::(nat_lit 794,o7 P)::(nat_lit 796,ac2 P)::(nat_lit 797,o7 P)::(nat_lit 799,ac3 P)::(nat_lit 800,ac4 P)::(nat_lit 801,o7 P)::(nat_lit 803,ac5 P)::(nat_lit 804,o7 P)::(nat_lit 806,ac6 P)::(nat_lit 807,ac7 P)::(nat_lit 808,o7 P)::(nat_lit 810,ac8 P)::(nat_lit 811,o7 P)::(nat_lit 813,ac9 P)::(nat_lit 814,ada P)::(nat_lit 815,o7 P)::(nat_lit 817,adb P)::(nat_lit 818,o7 P)::(nat_lit 820,ade P)::(nat_lit 821,adf P)::(nat_lit 822,o7 P)::(nat_lit 824,adg P)::(nat_lit 825,o7 P)::(nat_lit 827,adh P)::(nat_lit 828,adi P)::(nat_lit 829,o7 P)::(nat_lit 831,adj P)::(nat_lit 832,o7 P)::(nat_lit 834,adk P)::(nat_lit 835,adl P)::(nat_lit 836,o7 P)::(nat_lit 838,adn P)::(nat_lit 839,o7 P)::(nat_lit 841,ado P)::(nat_lit 842,adp P)::(nat_lit 843,o7 P)::(nat_lit 845,adq P)::(nat_lit 846,o7 P)::(nat_lit 848,ads P)::(nat_lit 849,adt P)::(nat_lit 850,o7 P)::(nat_lit 852,adu P)::(nat_lit 853,o7 P)::(nat_lit 855,adv P)::(nat_lit 856,adw P)::(nat_lit 857,o7 P)::(nat_lit 859,adx P)::(nat_lit 860,o7 P)::(nat_lit 862,ady P)::(nat_lit 863,adz P)::(nat_lit 864,o7 P)::(nat_lit 866,adA P)::(nat_lit 867,o7 P)::(nat_lit 869,adB P)::(nat_lit 870,adC P)::(nat_lit 871,adD P)::(nat_lit 872,adE P)::(nat_lit 873,adF P)::(nat_lit 883,o7 P)::(nat_lit 885,adH P)::(nat_lit 886,o7 P)::(nat_lit 888,adI P)::(nat_lit 889,adJ P)::(nat_lit 890,o7 P)::(nat_lit 892,adK P)::(nat_lit 893,o7 P)::(nat_lit 895,adL P)::(nat_lit 896,adM P)::(nat_lit 897,o7 P)::(nat_lit 899,adN P)::(nat_lit 900,o7 P)::(nat_lit 902,adO P)::(nat_lit 903,adP P)::(nat_lit 904,o7 P)::(nat_lit 906,adQ P)::(nat_lit 907,o7 P)::(nat_lit 909,adR P)::(nat_lit 910,adS P)::(nat_lit 911,o7 P)::(nat_lit 913,adT P)::(nat_lit 914,o7 P)::(nat_lit 916,adU P)::(nat_lit 917,adV P)::(nat_lit 918,o7 P)::(nat_lit 920,adW P)::(nat_lit 921,o7 P)::(nat_lit 923,adX P)::(nat_lit 924,adY P)::(nat_lit 925,adZ P)::(nat_lit 926,ad0 P)::(nat_lit 927,ad1 P)::(nat_lit 928,ad2 P)::(nat_lit 929,ad3 P)::(nat_lit 932,o7 P)::(nat_lit 934,ad4 P)::(nat_lit 935,o7 P)::(nat_lit 937,ad5 P)::(nat_lit 938,ad6 P)::(nat_lit 939,o7 P)::(nat_lit 941,ad7 P)::(nat_lit 942,o7 P)::(nat_lit 944,ad8 P)::(nat_lit 945,ad9 P)::(nat_lit 946,o7 P)::(nat_lit 948,aea P)::(nat_lit 949,o7 P)::(nat_lit 951,aeb P)::(nat_lit 952,aec P)::(nat_lit 953,o7 P)::(nat_lit 955,aed P)::(nat_lit 956,o7 P)::(nat_lit 958,aee P)::(nat_lit 959,aef P)::(nat_lit 960,o7 P)::(nat_lit 962,aeg P)::(nat_lit 963,o7 P)::(nat_lit 965,aeh P)::(nat_lit 966,aei P)::(nat_lit 967,o7 P)::(nat_lit 969,aej P)::(nat_lit 970,o7 P)::(nat_lit 972,aek P)::(nat_lit 973,ael P)::(nat_lit 974,o7 P)::(nat_lit 976,aem P)::(nat_lit 977,o7 P)::(nat_lit 979,aen P)::(nat_lit 980,aeo P)::(nat_lit 981,o7 P)::(nat_lit 983,aep P)::(nat_lit 984,o7 P)::(nat_lit 986,aeq P)::(nat_lit 987,aer P)::(nat_lit 988,o7 P)::(nat_lit 991,aes P)::(nat_lit 992,aet P)::(nat_lit 993,o7 P)::(nat_lit 995,aeu P)::(nat_lit 996,o7 P)::(nat_lit 998,aev P)::(nat_lit 999,aew P)::(nat_lit 1000,o7 P)::(nat_lit 1003,aex P)::(nat_lit 1004,aey P)::[]
noncomputable def hAs:List Addr:=[2,3,15,17,18,20,21,22,29,31,32,34,35,36,38,39,41,42,43,44,45,46,49,56,58,59,61,62,63,64,65,68,75,77,78,80,81,82,83,84,87,94,96,97,99,100,101,102,103,106,113,115,116,118,119,120,121,122,125,132,134,135,137,138,139,140,141,144,151,153,154,156,157,158,159,160,163,170,172,173,175,176,177,178,179,182,189,191,192,194,195,196,197,198,201,208,210,211,213,214,215,216,217,220,227,229,230,232,233,234,235,236,239,241,242,244,245,246,248,249,251,252,253,255,256,258,259,260,262,263,265,266,267,269,270,272,273,274,276,277,279,280,281,283,284,286,287,288,290,291,293,294,295,297,298,300,301,302,304,305,307,308,309,311,312,314,315,316,319,320,321,323,324,326,327,328,331,332,333,335,336,338,339,340,342,343,345,346,347,349,350,352,353,354,356,357,359,360,361,363,364,366,367,375,377,378,380,381,382,384,385,387,388,389,391,392,394,395,396,398,399,401,402,403,405,406,408,409,410,412,413,415,416,417,419,420,422,423,424,426,427,429,430,431,433,434,436,437,438,440,441,443,444,445,446,447,448,449,459,461,462,464,465,466,468,469,471,472,473,475,476,478,479,480,482,483,485,486,487,489,490,492,493,494,496,497,499,500,501,503,504,506,507,508,509,510,511,512,515,517,518,520,521,529,531,532,534,535,536,538,539,541,542,543,545,546,548,549,550,552,553,555,556,557,560,561,562,563,564,565,566,576,578,579,581,582,583,585,586,588,589,590,592,593,595,596,597,599,600,602,603,604,606,607,609,610,611,613,614,616,617,618,620,621,623,624,625,627,628,630,631,632,634,635,637,638,639,641,642,644,645,646,649,650,651,653,654,656,657,658,660,661,663,664,665,667,668,670,671,672,674,675,677,678,679,682,683,684,687,688,689,690,691,692,693,696,698,699,701,702,703,710,712,713,715,716,717,719,720,722,723,724,726,727,729,730,731,733,734,736,737,738,740,741,743,744,745,747,748,750,751,752,754,755,757,758,759,761,762,764,765,766,768,769,771,772,773,775,776,778,779,780,782,783,785,786,787,789,790,792,793,794,796,797,799,800,801,803,804,806,807,808,810,811,813,814,815,817,818,820,821,822,824,825,827,828,829,831,832,834,835,836,838,839,841,842,843,845,846,848,849,850,852,853,855,856,857,859,860,862,863,864,866,867,869,870,871,872,873,883,885,886,888,889,890,892,893,895,896,897,899,900,902,903,904,906,907,909,910,911,913,914,916,917,918,920,921,923,924,925,926,927,928,929,932,934,935,937,938,939,941,942,944,945,946,948,949,951,952,953,955,956,958,959,960,962,963,965,966,967,969,970,972,973,974,976,977,979,980,981,983,984,986,987,988,991,992,993,995,996,998,999,1000,1003,1004]
theorem qy(P:Params):hAs=(hK P).map (·.1):=rfl
noncomputable def hQ:Program:={PySem.Challenge.pw_stillheap_k36_right_pictures with main:={(PySem.Challenge.pw_stillheap_k36_right_pictures).main with body:=[top 0,top 2,top 3,top 4,top 5,top 6,top 7,top 8,top 9,top 10,top 11,top 12,top 14,top 15,top 16,top 17,top 18,top 19,top 20,top 21,top 22,top 23,top 24,top 25,top 26,top 27,top 28,top 30,top 32,top 33,top 34,top 35,top 36,top 37,top 38,top 39,top 40,top 42,top 44,top 45,top 47,top 49,top 51,top 52,top 54,top 56,top 58,top 59,top 60,top 61,top 62,top 63,top 64,top 65,top 66,top 67,top 68]}}
noncomputable def hLo:List Str:=[]
theorem XY(w:World):(fencedOpening treeTable PySem.Challenge.pw_stillheap_k36_right_pictures w 14550).map (λs=>(s.heap,s.gens,s.drawn,s.toks))=some (boot_heap w.params,#[],boot_drawn,boot_toks):=by kernel_rfl
theorem XZ(w:World):((boot_heap w.params).isNs mainGlobals&&(#[]:Array GenState).size == 0,(boot_heap w.params).objs.size,(boot_heap w.params).nsMap mainGlobals "__annotations__")=(true,11,((.some (.ref 6)):Option Value)):=by kernel_rfl
noncomputable abbrev hXt(s:Shared):Bool:=xlAt hQ [] s&&recOk (RowW.records (OpenRow.toRowW (OpenLaw.row PySem.Challenge.rw_stillheap_k36_right_pictures))) s
noncomputable abbrev hFH(w:World):Heap:=(absHeap (hTf w.params) 1005 ⟨[],[],[],0,[],[],false,(List.toArray []),[],0,false,false,false,0,[2000,10,10],false,0,true,[],[],0,false⟩)
noncomputable abbrev hFS(w:World)(os:OsState):Shared:=⟨hFH w,#[],⟨0,0,0,0⟩,1468,os⟩
theorem hK1(w:World)(os:OsState):staticsOk (importedModules (PySem.Challenge.pw_stillheap_k36_right_pictures).main.body) (boot_heap w.params) (hFH w)=true:=by kernel_rfl
theorem hK2(w:World)(os:OsState):namesBound PySem.Challenge.pw_stillheap_k36_right_pictures (hFH w)=true:=by kernel_rfl
theorem hK3(w:World)(os:OsState):gensDone (hFS w os)=true:=by kernel_rfl
theorem hK4(w:World)(os:OsState):laidKept (boot_heap w.params) (hFH w)=true:=by kernel_rfl
theorem hK5(w:World)(os:OsState):openSeen hQ hLo (importedModules (PySem.Challenge.pw_stillheap_k36_right_pictures).main.body) hXt true (hFS w os)=openGood hQ hLo:=by kernel_rfl
theorem hK6(w:World)(os:OsState):Hook.obs (kHook hK hAs qy) (hFS w os)=Hook.val (kHook hK hAs qy) w:=by kernel_rfl
theorem U8(w:World):(λos:OsState=>((staticsOk (importedModules (PySem.Challenge.pw_stillheap_k36_right_pictures).main.body) (boot_heap w.params) (hFH w)&&namesBound PySem.Challenge.pw_stillheap_k36_right_pictures (hFH w)&&gensDone (hFS w os)&&laidKept (boot_heap w.params) (hFH w)),
  openSeen hQ hLo (importedModules (PySem.Challenge.pw_stillheap_k36_right_pictures).main.body) hXt true (hFS w os),Hook.obs (kHook hK hAs qy) (hFS w os)))=λ_=>(true,openGood hQ hLo,Hook.val (kHook hK hAs qy) w):=by
 funext os
 rw[hK1 w os,hK2 w os,hK3 w os,hK4 w os,hK5 w os,hK6 w os];rfl
theorem X0:LeftO PySem.Challenge.pw_stillheap_k36_right_pictures hQ hLo hXt (Hook.obs (kHook hK hAs qy)) (Hook.val (kHook hK hAs qy)) 14550 :=
 LeftO.of_pieces (H₁:=λP=>absHeap (hTf P) 1005 ⟨[],[],[],0,[],[],false,(List.toArray []),[],0,false,false,false,0,[2000,10,10],false,0,true,[],[],0,false⟩) XY XZ ail (by rfl) U8
end
end K36
end
section
namespace L2
open PySem PySem.Spec PyProof.Rows
section
variable{κ:Type}[DecidableEq κ]
noncomputable def gR(kvs:List (κ×V))(k:κ):Option V:=(kvs.find? λkv=>decide (kv.1=k)).map (·.2)
noncomputable def putK(kvs:List (κ×V))(k:κ)(v:V):List (κ×V) :=
  if(kvs.any λkv=>decide (kv.1=k))=true then kvs.map (λkv=>if kv.1=k then(kv.1,v) else kv) else kvs++[(k,v)]
noncomputable def tX(kvs:List (κ×V))(k:κ):List (κ×V):=kvs.filter λkv=>decide (kv.1≠k)
theorem fu{p:κ×V}{r:List (κ×V)}{k:κ}(e:p.1=k):gR (p::r) k=some p.2:=by simp[gR,akm,e]
theorem eS{p:κ×V}{r:List (κ×V)}{k:κ}(e:¬p.1=k):gR (p::r) k=gR r k:=by simp[gR,akm,e]
theorem rV(k:κ):∀ kvs:List (κ×V),(kvs.any λkv=>decide (kv.1=k))=(gR kvs k).isSome
  | []=>rfl
  | p::r=>by
    rw[aky];by_cases e:p.1=k
    · simp only[fu e,decide_eq_true e,Bool.true_or,Option.isSome_some]
    · rw[eS e,decide_eq_false e,Bool.false_or];exact rV k r
theorem L0(k j:κ)(y:V):∀ kvs:List (κ×V),gR (kvs.map λkv=>if kv.1=k then(kv.1,y) else kv) j=(gR kvs j).map λx=>if j=k then y else x
  | []=>rfl
  | p::r=>by
    have ih:=L0 k j y r;rw[aju];by_cases h:p.1=k
    · rw[if_pos h]
      by_cases e:p.1=j
      · rw[fu (p:=(p.1,y)) e,fu e,aj4,if_pos (e.symm.trans h)]
      · rw[eS (p:=(p.1,y)) e,eS e,ih]
    · rw[if_neg h]
      by_cases e:p.1=j
      · rw[fu (p:=p) e,fu e,aj4,if_neg (λz=>h (e.trans z))]
      · rw[eS (p:=p) e,eS e,ih]
theorem HK(k j:κ)(y:V):∀ kvs:List (κ×V),gR kvs k=none→gR (kvs++[(k,y)]) j=if j=k then some y else gR kvs j
  | [],_=>by
    by_cases e:k=j
    · rw[if_pos e.symm];exact fu (p:=(k,y)) e
    · rw[if_neg (λz=>e z.symm)];exact eS (p:=(k,y)) e
  | p::r,hn=>by
    rw[List.cons_append];have hk:¬p.1=k:=λz=>by rw[fu z]at hn;cases hn
    rw[eS hk]at hn;have ih:=HK k j y r hn;by_cases e:p.1=j
    · rw[fu e,fu e,if_neg (λz=>hk (e.trans z))]
    · rw[eS e,eS e,ih]
theorem L1(kvs:List (κ×V))(k j:κ)(y:V):gR (putK kvs k y) j=if j=k then some y else gR kvs j:=by
  unfold putK;by_cases a:(kvs.any λkv=>decide (kv.1=k))=true
  · rw[if_pos a,L0]
    rw[rV]at a;by_cases e:j=k
    · obtain⟨x,hx⟩:=akv.mp a
      rw[if_pos e,e,hx,aj4,if_pos rfl]
    · rw[if_neg e]
      cases gR kvs j with
      | none=>rfl
      | some x=>rw[aj4,if_neg e]
  · rw[if_neg a]
    refine HK k j y kvs ?_;rw[rV]at a;cases q:gR kvs k with
    | none=>rfl
    | some x=>rw[q]at a;exact(a rfl).elim
theorem CV(kvs:List (κ×V))(k:κ)(v:V):(putK kvs k v).length≤kvs.length+1:=by
  unfold putK;split
  · rw[ai8];omega
  · rw[aji,ajE,List.length_nil];omega
theorem u9{kvs:List (κ×V)}{k:κ}(v:V)(h:gR kvs k=none):putK kvs k v=kvs++[(k,v)]:=by
  unfold putK;rw[rV,h];exact if_neg (by decide)
theorem yh.pe{o:Option V}{u:Option Value}(r:yh o u):o.isSome=u.isSome:=by
  cases o with
  | none=>cases u with
    | none=>rfl
    | some _=>exact(show False from r).elim
  | some _=>cases u with
    | none=>exact(show False from r).elim
    | some _=>rfl
theorem yh.getD{o:Option V}{u:Option Value}{d:V}{d':Value}(r:yh o u)(rd:RelV d d'):RelV (o.getD d) (u.getD d'):=by
  cases o with
  | none=>cases u with
    | none=>exact rd
    | some _=>exact(show False from r).elim
  | some _=>cases u with
    | none=>exact(show False from r).elim
    | some _=>exact r
theorem KV.val{kvs:List (κ×V)}{vs:List (κ×Value)}(r:KV kvs vs)(k:κ):yh (gR kvs k) (valueAt vs k):=by
  unfold KV at r;induction r with
  | nil=>exact True.intro
  | @cons p q ps qs h t ih =>
    obtain⟨h1,h2⟩:=h;by_cases e:p.1=k
    · have e':q.1=k:=h1.symm.trans e
      have b:valueAt (q::qs) k=some q.2:=(by simp[valueAt,akm,e']);rw[fu e,b];exact h2
    · have e':¬q.1=k:=λz=>e (h1.trans z)
      have b:valueAt (q::qs) k=valueAt qs k:=(by simp[valueAt,akm,e']);rw[eS e,b];exact ih
theorem KV.any{kvs:List (κ×V)}{vs:List (κ×Value)}(r:KV kvs vs)(k:κ):(kvs.any λkv=>decide (kv.1=k))=vs.any λkv=>decide (kv.1=k):=by
  unfold KV at r;induction r with
  | nil=>rfl
  | cons h t ih=>rw[aky,aky,ih,h.1]
theorem KV.Xr{kvs:List (κ×V)}{vs:List (κ×Value)}(r:KV kvs vs)(k:κ){y:V}{u:Value}(ry:RelV y u) :
    KV (kvs.map λkv=>if kv.1=k then(kv.1,y) else kv) (vs.map λkv=>if kv.1=k then(kv.1,u) else kv):=by
  unfold KV at r ⊢;induction r with
  | nil=>exact .nil
  | @cons p q ps qs h t ih =>
    rw[aju,aju];refine .cons ?_ ih;obtain⟨h1,h2⟩:=h;by_cases e:p.1=k
    · rw[if_pos e,if_pos (h1.symm.trans e)];exact⟨h1,ry⟩
    · rw[if_neg e,if_neg (λz=>e (h1.trans z))];exact⟨h1,h2⟩
theorem KV.put{kvs:List (κ×V)}{vs:List (κ×Value)}(r:KV kvs vs)(k:κ){y:V}{u:Value}(ry:RelV y u):KV (putK kvs k y) (stored vs k u):=by
  unfold putK stored;rw[r.any k];by_cases e:(vs.any λkv=>decide (kv.1=k))=true
  · rw[if_pos e,if_pos e];exact r.Xr k ry
  · rw[if_neg e,if_neg e];exact Paired.snoc r ⟨rfl,ry⟩
theorem KV.drop{kvs:List (κ×V)}{vs:List (κ×Value)}(r:KV kvs vs)(k:κ):KV (tX kvs k) (without vs k):=by
  unfold KV at r ⊢;unfold tX without;induction r with
  | nil=>exact .nil
  | @cons p q ps qs h t ih =>
    obtain⟨h1,h2⟩:=h;rw[List.filter_cons,List.filter_cons];by_cases e:p.1=k
    · have a:¬decide (p.1≠k)=true:=by simp[e]
      have b:¬decide (q.1≠k)=true:=(by simp[h1.symm.trans e]);rw[if_neg a,if_neg b];exact ih
    · have e':¬q.1=k:=λz=>e (h1.trans z)
      have a:decide (p.1≠k)=true:=(by simp[e]);have b:decide (q.1≠k)=true:=(by simp[e']);rw[if_pos a,if_pos b];exact .cons ⟨h1,h2⟩ ih
theorem KV.keys{kvs:List (κ×V)}{vs:List (κ×Value)}(r:KV kvs vs):kvs.map (·.1)=vs.map (·.1):=by
  unfold KV at r;induction r with
  | nil=>rfl
  | cons h t ih=>rw[aju,aju,ih,h.1]
theorem KV.length{kvs:List (κ×V)}{vs:List (κ×Value)}(r:KV kvs vs):kvs.length=vs.length:=akT r
theorem QN(kvs:List (κ×V))(k:κ):(tX kvs k).length≤kvs.length:=aj7 _ _
end
theorem Di{P:Program}{w:World}{k:Key}{u:Value}(r:RelV (kV k) u):(cx P w).is k u=true:=by
  cases k with
  | inl i=>obtain⟨t,e⟩:=(show ∃ t,u=Value.int i t from r);subst e;exact KD P w i t
  | inr x=>obtain⟨t,e⟩:=(show ∃ t,u=Value.str x t from r);subst e;exact KG P w x t
theorem HL{P:Program}{w:World}:∀ {ks:List Key} {us:List Value},Vals (ks.map kV) us→ItemsAre (cx P w) ks us
  | [],_,r=>by rw[akF]at r;cases r;exact .nil
  | k::ks,_,r=>by
    rw[aju]at r;cases r with
    | cons h t=>exact .cons (Di h) (HL t)
noncomputable abbrev KT(H:Hp):List (List Key×V)→List (List Key×Addr×Value)→Prop:=Paired λp q=>p.1=q.1∧H q.2.1=some (.tup (p.1.map kV))∧RelV p.2 q.2.2
theorem KT.val{H:Hp}{kvs:List (List Key×V)}{xs:List (List Key×Addr×Value)}(r:KT H kvs xs)(k:List Key):yh (gR kvs k) ((atKey xs k).map (·.2)):=by
  induction r with
  | nil=>exact True.intro
  | @cons p q ps qs h t ih =>
    obtain⟨h1,_,h2⟩:=h;by_cases e:p.1=k
    · have e':q.1=k:=h1.symm.trans e
      have b:atKey (q::qs) k=some q.2:=(by simp[atKey,akm,e']);rw[fu e,b];exact h2
    · have e':¬q.1=k:=λz=>e (h1.trans z)
      have b:atKey (q::qs) k=atKey qs k:=(by simp[atKey,akm,e']);rw[eS e,b];exact ih
theorem KT.Xr{H:Hp}{kvs:List (List Key×V)}{xs:List (List Key×Addr×Value)}(r:KT H kvs xs)(k:List Key){y:V}{u:Value}(ry:RelV y u) :
    KT H (kvs.map λkv=>if kv.1=k then(kv.1,y) else kv) (xs.map (putAt k u)):=by
  induction r with
  | nil=>exact .nil
  | @cons p q ps qs h t ih =>
    rw[aju,aju];refine .cons ?_ ih;obtain⟨h1,h2,h3⟩:=h;unfold putAt;by_cases e:p.1=k
    · rw[if_pos e,if_pos (h1.symm.trans e)];exact⟨h1,h2,ry⟩
    · rw[if_neg e,if_neg (λz=>e (h1.trans z))];exact⟨h1,h2,h3⟩
theorem KT.put{H:Hp}{kvs:List (List Key×V)}{xs:List (List Key×Addr×Value)}(r:KT H kvs xs)(k:List Key){b:Addr}{y:V}{u:Value}(hb:H b=some (.tup (k.map kV)))(ry:RelV y u) :
    KT H (putK kvs k y) (storedH xs k b u):=by
  have e:(kvs.any λkv=>decide (kv.1=k))=(atKey xs k).isSome:=by
    rw[rV,(r.val k).pe,akc]
  unfold putK storedH;rw[e];by_cases q:(atKey xs k).isSome=true
  · rw[if_pos q,if_pos q];exact r.Xr k ry
  · rw[if_neg q,if_neg q];exact Paired.snoc r ⟨rfl,hb,ry⟩
theorem KT.keeps{H H':Hp}{kvs:List (List Key×V)}{xs:List (List Key×Addr×Value)}(r:KT H kvs xs)(ht:∀ b ys,H b=some (.tup ys)→H' b=some (.tup ys)):KT H' kvs xs :=
  Paired.VC r λ_ _ z=>⟨z.1,ht _ _ z.2.1,z.2.2⟩
section
variable{P:Program}{w:World}{H:Hp}{h:Heap}{a:Addr}
theorem Uh{u:HO}(ok:HOk P w H h)(e:Rd H a u):iJ P w H h a u:=e.ok ok
theorem ym{kvs:List (Key×V)}(ok:HOk P w H h)(e:Rd H a (.dK kvs)):kvs.length≤sizeLine∧(a == sysModules)=false∧∃ vs,KV kvs vs∧h.DictOf (cx P w) a vs :=
  show iJ P w H h a (.dK kvs) from Uh ok e
theorem Se{kvs:List (Key×V)}(ok:HOk P w H h)(e:H a=some (.dK kvs)):kvs.length≤sizeLine∧(a == sysModules)=false∧∃ vs,KV kvs vs∧h.DictOf (cx P w) a vs:=ym ok (.inl e)
theorem DX{ks:List Key}(ok:HOk P w H h)(e:H a=some (.tup (ks.map kV))):(tupleKind (cx P w)).is h ks a:=by
  obtain⟨_,its,r,o,h1,h2,n,h3⟩:=(show iJ P w H h a (.tup (ks.map kV)) from ok a _ e);exact⟨o,its.toArray,n,h1,h2,h3,by simpa using HL r⟩
theorem Hu{kvs:List (List Key×V)}(ok:HOk P w H h)(e:Rd H a (.dT kvs)):kvs.length≤sizeLine∧(a == sysModules)=false ∧
    ∃ xs,KT H kvs xs∧h.DictOfH (tupleKind (cx P w)) a xs:=by
  obtain⟨z,y,xs,r,o,es,ep,h1,h2,h3,h4,h5⟩:=(show iJ P w H h a (.dT kvs) from Uh ok e);refine⟨z,y,xs,r,o,es,ep,h1,h2,h3,h4,λx hx=>?_,h5⟩;have all:∀ {l:List (List Key×V)} {m:List (List Key×Addr×Value)},KT H l m→∀ x∈m,(tupleKind (cx P w)).is h x.1 x.2.1:=by
    intro l m q;induction q with
    | nil=>intro x hx;exact nomatch hx
    | @cons p q ps qs hq t ih =>
      intro x hx;rcases ajo.mp hx with e|hx
      · subst e
        exact DX ok (by rw[←hq.1];exact hq.2.1)
      · exact ih x hx
  exact all r x hx
theorem X2{kvs:List (List Key×V)}(ok:HOk P w H h)(e:H a=some (.dT kvs)):kvs.length≤sizeLine∧(a == sysModules)=false ∧
    ∃ xs,KT H kvs xs∧h.DictOfH (tupleKind (cx P w)) a xs:=Hu ok (.inl e)
end
noncomputable def rB(H:Hp)(a:Addr)(y:V)(r:Option V):Prop :=
  (∃ kvs k,Rd H a (.dK kvs)∧y=kV k∧r=gR kvs k)∨∃ kvs k b,Rd H a (.dT kvs)∧y=.ref b∧H b=some (.tup (k.map kV))∧r=gR kvs k
noncomputable def D7(H:Hp)(a:Addr)(y v:V)(H':Hp):Prop :=
  (∃ kvs k,H a=some (.dK kvs)∧y=kV k∧kvs.length<sizeLine∧H'=upd H a (.dK (putK kvs k v))) ∨
  ∃ kvs k b,H a=some (.dT kvs)∧y=.ref b∧H b=some (.tup (k.map kV))∧kvs.length<sizeLine∧H'=upd H a (.dT (putK kvs k v))
theorem rB.k{H:Hp}{a:Addr}{kvs:List (Key×V)}{k:Key}(e:H a=some (.dK kvs)):rB H a (kV k) (gR kvs k):=.inl ⟨kvs,k,.inl e,rfl,rfl⟩
theorem D7.k{H:Hp}{a:Addr}{kvs:List (Key×V)}{k:Key}{v:V}(e:H a=some (.dK kvs))(hl:kvs.length<sizeLine):D7 H a (kV k) v (upd H a (.dK (putK kvs k v))):=.inl ⟨kvs,k,e,rfl,hl,rfl⟩
section
variable{X:Cx}{pins:List (Addr×Obj)}{σ:St}{H:Hp}{s:Shared}{a:Addr}{y v:V}{u r:Value}{o:Option V}{A:Around}{E:Value→Shared→Prop}
theorem Inv.big(I:Inv X pins σ H s):sysModules<s.heap.objs.size:=by
  have h:mainGlobals<s.heap.objs.size:=(I.mod.glob.keeps I.bk).lt;exact Nat.lt_trans (by decide) h
theorem Pm{Q:Value→Shared→Prop}(hu:A.units+1<cLine)(I:Inv X pins σ H s)(g:rB H a y (some v))(ry:RelV y u)(h:∀ w' s',Inv X pins σ H s'→RelV v w'→Q w' s') :
    wpAny (model X.prog X.w) A (getItem (.ref a) u) Q E s:=by
  rcases g with⟨kvs,k,e,ey,l⟩|⟨kvs,k,b,e,ey,eb,l⟩
  · subst ey
    obtain⟨z,hd,vs,rel,dd⟩:=ym I.hok e;obtain⟨w',hw,rw'⟩:=yh.some_of (v:=v) (o:=valueAt vs k) (by rw[l];exact rel.val k);exact wpAny_getItem_of (Di ry) dd.mapOf hw (h w' _ (I.tok _) rw')
  · subst ey
    cases (show u=Value.ref b from ry);obtain⟨z,hd,xs,rel,dd⟩:=Hu I.hok e;obtain⟨w',hw,rw'⟩:=yh.some_of (v:=v) (o:=(atKey xs k).map (·.2)) (by rw[l];exact rel.val k);obtain⟨p,hp,hp2⟩:=ajk.mp hw;refine wpAny_getItem_heap (tupleKind_room_in1 hu) (DX I.hok eb) dd hp ?_;rw[hp2];exact h w' _ (I.tok _) rw'
theorem aim{Q:Value→Shared→Prop}(hu:A.units+1<cLine)(I:Inv X pins σ H s)(g:rB H a y o)(ry:RelV y u)(h:∀ s',Inv X pins σ H s'→Q (.bool o.isSome) s') :
    wpAny (model X.prog X.w) A (compareOp .In u (.ref a)) Q E s:=by
  rcases g with⟨kvs,k,e,ey,l⟩|⟨kvs,k,b,e,ey,eb,l⟩
  · subst ey
    obtain⟨z,hd,vs,rel,dd⟩:=ym I.hok e;refine wpAny_in_of (Di ry) hd dd.mapOf ?_;rw[←(rel.val k).pe,←l];exact h _ (I.tok _)
  · subst ey
    cases (show u=Value.ref b from ry);obtain⟨z,hd,xs,rel,dd⟩:=Hu I.hok e;refine wpAny_in_heap (tupleKind_room_in1 hu) (DX I.hok eb) hd dd ?_;have q:=(rel.val k).pe;rw[akc]at q;rw[←q,←l];exact h _ (I.tok _)
theorem SY{Q:Value→Shared→Prop}(hu:A.units+1<cLine)(I:Inv X pins σ H s)(g:rB H a y o)(ry:RelV y u)(h:∀ s',Inv X pins σ H s'→Q (.bool (!o.isSome)) s') :
    wpAny (model X.prog X.w) A (compareOp .NotIn u (.ref a)) Q E s:=by
  rcases g with⟨kvs,k,e,ey,l⟩|⟨kvs,k,b,e,ey,eb,l⟩
  · subst ey
    obtain⟨z,hd,vs,rel,dd⟩:=ym I.hok e;refine wpAny_notIn_of (Di ry) hd dd.mapOf ?_;rw[←(rel.val k).pe,←l];exact h _ (I.tok _)
  · subst ey
    cases (show u=Value.ref b from ry);obtain⟨z,hd,xs,rel,dd⟩:=Hu I.hok e;refine wpAny_notIn_heap (tupleKind_room_in1 hu) (DX I.hok eb) hd dd ?_;have q:=(rel.val k).pe;rw[akc]at q;rw[←q,←l];exact h _ (I.tok _)
theorem Kc{h':Heap}{t':Nat}{ob:HO}(I:Inv X pins σ H s)(mu:Mut (H a))(hs:Heap.SameBut a s.heap h')(he:∃ q,h'.get? a=some q)(new:iJ X.prog X.w (upd H a ob) h' a ob) :
    Inv X pins σ (upd H a ob) {s with heap:=h',toks:=t'} :=
  I.write (x:=a) (e:=a) mu (.inl rfl) (λb q hb z=>(hs.2 b hb).trans z) he new
theorem Oa{P:Program}{w:World}{H':Hp}{h':Heap}{kvs:List (Key×V)}{vs:List (Key×Value)}(z:kvs.length≤sizeLine)(hd:(a == sysModules)=false)(rel:KV kvs vs)(dd:h'.DictOf (cx P w) a vs) :
    iJ P w H' h' a (.dK kvs):=⟨z,hd,vs,rel,dd⟩
theorem Pn{H':Hp}{Q:Unit→Shared→Prop}(hu:A.units+1<cLine)(I:Inv X pins σ H s)(g:D7 H a y v H')(ry:RelV y u)(rv:RelV v r)(h:∀ s',Inv X pins σ H' s'→Q () s') :
    wpAny (model X.prog X.w) A (setItem (.ref a) u r) Q E s:=by
  rcases g with⟨kvs,k,e,ey,l,eH⟩|⟨kvs,k,b,e,ey,eb,l,eH⟩
  · subst ey eH
    obtain⟨z,hd,vs,rel,dd⟩:=Se I.hok e;have hz:vs.length≤sizeLine:=(by rw[←rel.length];exact z);have hl:(putK kvs k v).length≤sizeLine:=(by have:=CV kvs k v;omega);refine wpAny_setItem_pairs (hsz:=hz) (Di ry) dd λh' dd' hs=>h _ ?_;have he:∃ q,h'.get? a=some q:=let ⟨q,_,_,hq,_⟩:=dd';⟨q,hq⟩;exact Kc I (by rw[e];exact True.intro) hs he (Oa hl hd (rel.put k rv) dd')
  · subst ey eH
    cases (show u=Value.ref b from ry);obtain⟨z,hd,xs,rel,dd⟩:=X2 I.hok e;have hz:xs.length≤sizeLine:=(by rw[←akT rel];exact z);have hl:(putK kvs k v).length≤sizeLine:=(by have:=CV kvs k v;omega);refine wpAny_setItem_heap (hsz:=hz) (tupleKind_room_in1 hu) (DX I.hok eb) dd λh' dd' hs=>h _ ?_;obtain⟨q,es,ep,hq,h2,h3,h4,_,h5⟩:=dd';refine Kc I (by rw[e];exact True.intro) hs ⟨q,hq⟩ ⟨hl,hd,_,(rel.put k eb rv).keeps λc ys ec=>?_,q,es,ep,hq,h2,h3,h4,h5⟩;rw[af (ay ec e (λz=>nomatch z))];exact ec
end
section
variable{X:Cx}{pins:List (Addr×Obj)}{σ:St}{H:Hp}{s:Shared}{a:Addr}{kvs:List (Key×V)}{k:Key}{u:Value}{A:Around}{E:Value→Shared→Prop}
theorem X3{v:V}{more:List Value}{Q:Value→Shared→Prop}(I:Inv X pins σ H s)(e:H a=some (.dK kvs))(ry:RelV (kV k) u)(l:gR kvs k=some v)(hm:more=[]∨∃ x,more=[x])
    (h:∀ w' s',Inv X pins σ (upd H a (.dK (tX kvs k))) s'→RelV v w'→Q w' s'):wpAny (model X.prog X.w) A (call (.builtin "dict.pop") (.ref a::u::more)) Q E s:=by
  obtain⟨z,hd,vs,rel,dd⟩:=Se I.hok e;obtain⟨w',hw,rw'⟩:=yh.some_of (v:=v) (o:=valueAt vs k) (by rw[←l];exact rel.val k);have hp:(keyPart u).isSome=true:=by
    cases k with
    | inl i=>obtain⟨t,q⟩:=(show ∃ t,u=Value.int i t from ry);subst q;rfl
    | inr x=>obtain⟨t,q⟩:=(show ∃ t,u=Value.str x t from ry);subst q;rfl
  have ha:argsOk "dict.pop" ⟨.ref a::u::more,[]⟩:=by
    rcases hm with q|⟨x,q⟩
    · subst q;exact PySem.F.args_dict_pop_2 _ _
    · subst q;exact PySem.F.args_dict_pop_3 _ _ _
  refine call_meetsIn PySem.F.slot_dict_pop dd.typeIs PySem.F.entry_dict_pop ha (meets_dict_pop_there (cx X.prog X.w) a (Di ry) more hm hp)
    ⟨vs,w',dd,by rw[←rel.length];exact z,hw,λh' dd' hs=>h w' _ ?_ rw'⟩
  have he:∃ q,h'.get? a=some q:=let ⟨q,_,_,hq,_⟩:=dd';⟨q,hq⟩;exact Kc I (by rw[e];exact True.intro) hs he (Oa (ajy (QN kvs k) z) hd (rel.drop k) dd')
theorem X4{Q:Value→Shared→Prop}(I:Inv X pins σ H s)(e:Rd H a (.dK kvs))(h:∀ t s',Inv X pins σ H s'→Q (.int kvs.length t) s'):wpAny (model X.prog X.w) A (call (.builtin "len") [.ref a]) Q E s:=by
  obtain⟨z,hd,vs,rel,dd⟩:=ym I.hok e;refine call_len_dict hd dd (by rw[←rel.length];rw[sizeLine_eq]at z;omega) ?_;rw[←rel.length];exact h _ _ (I.tok _)
end
noncomputable def aez(i:Expr):Prop:=∀ ov iv,subscripted i false ov iv=operate [ov,iv] (getItem ov iv)
theorem S0{prog:Program}{w:World}{A:Around}{E:Value→Shared→Prop}{s:Shared}{env:Env}{value slice:Expr}{pos:Pos}{T id:String}{Q:Value→Shared→Prop}
    (hl:typeLookup (.type T) "__getitem__" = pure (some (.builtin id))) (hs:aez slice)
    (h:wpAny (model prog w) A (eval value env) (λo s₁=>wpAny (model prog w) A (eval slice env) (λi s₂=>s₂.TypeIs o T∧wpAny (model prog w) A (getItem o i) Q E s₂) E s₁) E s) :
    wpAny (model prog w) A (eval (.Subscript value slice pos) env) Q E s:=by
  refine Subscript_ (wpAny_mono h (λo s₁ h₁=>wpAny_mono h₁ (λi s₂ h₂=>?_) λ_ _ x=>x) λ_ _ x=>x);obtain⟨hT,h₂⟩:=h₂;unfold subscriptTail;refine wpAny_bind ?_;rw[getitemInPython_of_ne hT.not_modules];refine wpAny_bind (wpAny_specialOf hT hl ?_);have fin:wpAny (model prog w) A (subscripted slice false o i) (λr s₃=>wpAny (model prog w) A (letTemporaryGo value o r >>= λ_=>pure r) Q E s₃) E s₂:=by
    rw[hs o i];exact wpAny_operating (wpAny_mono h₂ (λr s₃ h₃=>wpAny_bind (wpAny_letTemporaryGo (wpAny_pure h₃))) λ_ _ x=>x)
  first
    | exact wpAny_pure (wpAny_bind fin)
    | exact wpAny_bind (wpAny_pure (wpAny_bind fin))
    | exact wpAny_bind fin
theorem KJ{X:Cx}{pins:List (Addr×Obj)}{σ:St}{H:Hp}{s:Shared}{a:Addr}{y:V}{o:Option V}(I:Inv X pins σ H s)(g:rB H a y o):s.TypeIs (.ref a) "dict" := by
  rcases g with⟨kvs,k,e,_,_⟩|⟨kvs,k,b,e,_,_,_⟩
  · obtain⟨_,_,vs,_,dd⟩:=ym I.hok e
    exact dd.typeIs
  · obtain⟨_,_,xs,_,dd⟩:=Hu I.hok e
    exact dd.typeIs
noncomputable def X5(td ty:TE):TE:=λσ H Q=>td σ H λx H1=>ty σ H1 λy H2=>∃ a v,x=.ref a∧rB H2 a y (some v)∧Q v H2
noncomputable def ain(ty td:TE):TE:=λσ H Q=>ty σ H λy H1=>td σ H1 λx H2=>∃ a o,x=.ref a∧rB H2 a y o∧Q (.bl o.isSome) H2
noncomputable def Ta(ty td:TE):TE:=λσ H Q=>ty σ H λy H1=>td σ H1 λx H2=>∃ a o,x=.ref a∧rB H2 a y o∧Q (.bl (!o.isSome)) H2
noncomputable def X6(td ty tv:TE):TS:=λD σ H=>tv σ H λv H1=>td σ H1 λx H2=>ty σ H2 λy H3=>∃ a H4,x=.ref a∧D7 H3 a y v H4∧D.nx σ H4
section
variable{X:Cx}{o i e value:Expr}{pos pos' ae6:Pos}{td ty tv:TE}
theorem gS(hu:X.A.units+1<cLine)(ho:PE X o td)(hi:PE X i ty)(hs:aez i):PE X (.Subscript o i pos) (X5 td ty):=by
  intro pins s σ H Q I h;refine S0 PySem.F.slot_dict_getitem.lookup hs (thn (ho pins s σ H _ I h) λu s1 ⟨x,H1,I1,rx,q1⟩=>thn (hi pins s1 σ H1 _ I1 q1) λiv s2 ⟨y,H2,I2,ry,a,v,ex,g,q2⟩=>?_);subst ex;obtain rfl:u=Value.ref a:=rx;exact⟨KJ I2 g,Pm hu I2 g ry λw' s3 I3 rw'=>⟨v,H2,I3,rw',q2⟩⟩
theorem Ro(hu:X.A.units+1<cLine)(hi:PE X i ty)(ho:PE X o td):PC X .In i o (ain ty td):=by
  intro pins s σ H Q I h;refine thn (hi pins s σ H _ I h) λiv s1 ⟨y,H1,I1,ry,q1⟩=>thn (ho pins s1 σ H1 _ I1 q1) λu s2 ⟨x,H2,I2,rx,a,ov,ex,g,q2⟩=>?_;subst ex;obtain rfl:u=Value.ref a:=rx;exact aim hu I2 g ry λs3 I3=>⟨.bl ov.isSome,H2,I3,rfl,q2⟩
theorem mL(hu:X.A.units+1<cLine)(hi:PE X i ty)(ho:PE X o td):PC X .NotIn i o (Ta ty td):=by
  intro pins s σ H Q I h;refine thn (hi pins s σ H _ I h) λiv s1 ⟨y,H1,I1,ry,q1⟩=>thn (ho pins s1 σ H1 _ I1 q1) λu s2 ⟨x,H2,I2,rx,a,ov,ex,g,q2⟩=>?_;subst ex;obtain rfl:u=Value.ref a:=rx;exact SY hu I2 g ry λs3 I3=>⟨.bl (!ov.isSome),H2,I3,rfl,q2⟩
theorem ny(hu:X.A.units+1<cLine)(ho:PE X o td)(hi:PE X i ty)(hv:PE X value tv)(hs:swapsWith value (some (.Subscript o i pos')) pos.line X.env=pure false) :
    PS X (.Assign [.Subscript o i pos'] value pos) (X6 td ty tv):=by
  intro pins s σ H D I h;refine wpAny_Assign_Subscript (thn (hv pins s σ H _ I h) λr s1 ⟨v,H1,I1,rv,q1⟩=>thn (ho pins s1 σ H1 _ I1 q1) λu s2 ⟨x,H2,I2,rx,q2⟩=>thn (hi pins s2 σ H2 _ I2 q2) λiv s3 ⟨y,H3,I3,ry,a,H4,ex,g,q3⟩=>?_) hs;subst ex;obtain rfl:u=Value.ref a:=rx;exact Pn hu I3 g ry rv λs4 I4=>⟨σ,H4,I4,q3⟩
end
theorem QO{P:Program}{w:World}{H:Hp}(h:Heap)(hb:sysModules<h.objs.size):iJ P w H (h.push {cls:=.type "dict",data:=.dict #[]}) h.objs.size (.dK []) :=
  ⟨ajM _,beq_eq_false_iff_ne.mpr (ajm (ajl hb)),[],.nil,Heap.DictOf.new h⟩
noncomputable def U9:TE:=λ_ H Q=>∀ p,H p=none→Q (.ref p) (upd H p (.dK []))
section
variable{X:Cx}{pos:Pos}
theorem jR:PE X (.Dict [] [] pos) U9:=λpins s σ H Q I h =>
  wpAny_Dict_empty ⟨.ref s.heap.objs.size,_,I.laid (a:=s.heap.objs.size) (o:=.dK []) (t':=s.toks) (λ_ _ q=>aja _ q) (ajb _) (QO s.heap I.big),rfl,h _ (I.hok.fresh (ajb _))⟩
end
structure M1(X:Cx)(o:Expr)(m:Str)(apos:Pos)(e:Expr)(uE:Pos):Prop where
  base:attributeBase o m X.env (eval o X.env)=eval o X.env
  few:((backTo uE (starEach [e] X.env)).all (λx=>!x.1)&&(backToKw uE (keywordEach [] X.env)).all (λx=>x.1.isSome)
    && decide (([e]:List Expr).length+([]:List Keyword).length+(if([]:List Keyword).isEmpty then 0 else 1)<30))=true
  line:(apos.endLine == uE.line)=true
  trees:backTo uE (starEach [e] X.env)=[(false,eval e X.env)]
structure M2(X:Cx)(o:Expr)(m:Str)(apos:Pos)(e f:Expr)(uE:Pos):Prop where
  base:attributeBase o m X.env (eval o X.env)=eval o X.env
  few:((backTo uE (starEach [e,f] X.env)).all (λx=>!x.1)&&(backToKw uE (keywordEach [] X.env)).all (λx=>x.1.isSome)
    && decide (([e,f]:List Expr).length+([]:List Keyword).length+(if([]:List Keyword).isEmpty then 0 else 1)<30))=true
  line:(apos.endLine == uE.line)=true
  trees:backTo uE (starEach [e,f] X.env)=[(false,eval e X.env),(false,eval f X.env)]
noncomputable def IsD(H:Hp)(a:Addr):Prop:=(∃ kvs,Rd H a (.dK kvs))∨∃ kvs,Rd H a (.dT kvs)
theorem Rq{X:Cx}{pins:List (Addr×Obj)}{σ:St}{H:Hp}{s:Shared}{a:Addr}(I:Inv X pins σ H s)(d:IsD H a) :
    s.TypeIs (.ref a) "dict" ∧ (∀ b,Value.ref a=.ref b→∃ ob,s.heap.get? b=some ob∧ob.dict=none)∧(a == sysModules)=false:=by
  rcases d with⟨kvs,e⟩|⟨kvs,e⟩
  · obtain⟨_,hd,vs,_,dd⟩:=ym I.hok e
    refine⟨dd.typeIs,λb q=>?_,hd⟩;cases q;obtain⟨ob,_,_,h1,h2,_⟩:=dd;exact⟨ob,h1,h2.2.1⟩
  · obtain⟨_,hd,xs,_,dd⟩:=Hu I.hok e
    refine⟨dd.typeIs,λb q=>?_,hd⟩;cases q;obtain⟨ob,_,_,h1,h2,_⟩:=dd;exact⟨ob,h1,h2.2.1⟩
section
variable{X:Cx}{pins:List (Addr×Obj)}{σ:St}{H:Hp}{s:Shared}{a:Addr}{y d:V}{u r:Value}{o:Option V}{A:Around}{E:Value→Shared→Prop}
theorem Va{Q:Value→Shared→Prop}(hu:A.units+1<cLine)(I:Inv X pins σ H s)(g:rB H a y o)(ry:RelV y u)(rd:RelV d r)(h:∀ w' s',Inv X pins σ H s'→RelV (o.getD d) w'→Q w' s') :
    wpAny (model X.prog X.w) A (call (.builtin "dict.get") [.ref a,u,r]) Q E s:=by
  rcases g with⟨kvs,k,e,ey,l⟩|⟨kvs,k,b,e,ey,eb,l⟩
  · subst ey
    obtain⟨z,hd,vs,rel,dd⟩:=ym I.hok e;refine call_meetsIn PySem.F.slot_dict_get dd.typeIs PySem.F.entry_dict_get (PySem.F.args_dict_get_3 _ _ _) (meets_dict_get_default (cx X.prog X.w) a (Di ry) hd r) ⟨_,dd.mapOf,h _ _ (I.tok _) ?_⟩;rw[l];exact(rel.val k).getD rd
  · subst ey
    cases (show u=Value.ref b from ry);obtain⟨z,hd,xs,rel,dd⟩:=Hu I.hok e;refine call_meetsIn PySem.F.slot_dict_get dd.typeIs PySem.F.entry_dict_get (PySem.F.args_dict_get_3 _ _ _) (meetsH_dict_get_default (tupleKind (cx X.prog X.w)) a b hd r) ⟨tupleKind_room_in1 hu,k,xs,DX I.hok eb,dd,h _ _ (I.tok _) ?_⟩;rw[l];exact(rel.val k).getD rd
end
noncomputable def Vb(td ty tx:TE):TE:=λσ H Q=>td σ H λx H1=>∃ a,x=.ref a∧IsD H1 a∧ty σ H1 λy H2=>tx σ H2 λz H3=>∃ o,rB H3 a y o∧Q (o.getD z) H3
noncomputable def Vc(td ty:TE):TE:=λσ H Q=>td σ H λx H1=>∃ a,x=.ref a∧IsD H1 a∧ty σ H1 λy H2=>∃ kvs k v,H2 a=some (.dK kvs)∧y=kV k∧gR kvs k=some v∧Q v (upd H2 a (.dK (tX kvs k)))
section
variable{X:Cx}{o e f:Expr}{apos uE:Pos}{td ty tx:TE}
theorem QP(hu:X.A.units+1<cLine)(ho:PE X o td)(he:PE X e ty)(hf:PE X f tx)(m:M2 X o "get" apos e f uE):PE X (.Call (.Attribute o "get" apos) [e,f] [] uE) (Vb td ty tx):=by
  intro pins s σ H Q I h;refine wpAny_Call_method m.base m.few m.line PySem.F.plainAttrs_dict PySem.F.slot_dict_get PySem.F.type_dict_get (thn (ho pins s σ H _ I h) λu s1 ⟨x,H1,I1,rx,a,ex,d,q1⟩=>?_);subst ex;obtain rfl:u=Value.ref a:=rx;obtain⟨t1,t2,_⟩:=Rq I1 d;refine⟨t1,t2,?_⟩;rw[m.trees];refine akC rfl (akK (akx (thn (he pins s1 σ H1 _ I1 q1) λiv s2 ⟨y,H2,I2,ry,q2⟩ =>
    akx (thn (hf pins s2 σ H2 _ I2 q2) λfv s3 ⟨z,H3,I3,rz,ov,g,q3⟩=>akR ?_))))
  exact Va hu I3 g ry rz λw' s4 I4 rw'=>⟨_,H3,I4,rw',q3⟩
theorem FH(ho:PE X o td)(he:PE X e ty)(m:M1 X o "pop" apos e uE):PE X (.Call (.Attribute o "pop" apos) [e] [] uE) (Vc td ty):=by
  intro pins s σ H Q I h;refine wpAny_Call_method m.base m.few m.line PySem.F.plainAttrs_dict PySem.F.slot_dict_pop PySem.F.type_dict_pop (thn (ho pins s σ H _ I h) λu s1 ⟨x,H1,I1,rx,a,ex,d,q1⟩=>?_);subst ex;obtain rfl:u=Value.ref a:=rx;obtain⟨t1,t2,_⟩:=Rq I1 d;refine⟨t1,t2,?_⟩;rw[m.trees];refine akC rfl (akK (akx (thn (he pins s1 σ H1 _ I1 q1) λiv s2 ⟨y,H2,I2,ry,kvs,k,v,ea,ey,l,q2⟩=>akR ?_)));subst ey;exact X3 I2 ea ry l (.inl rfl) λw' s3 I3 rw'=>⟨v,_,I3,rw',q2⟩
end
section
variable{X:Cx}{pins:List (Addr×Obj)}{σ:St}{H:Hp}{s:Shared}{a:Addr}{kvs:List (Key×V)}{A:Around}{E:Value→Shared→Prop}
end
section
variable{X:Cx}{pins:List (Addr×Obj)}{σ:St}{H:Hp}{s:Shared}{a:Addr}{y:V}{u:Value}{A:Around}{E:Value→Shared→Prop}
end
end L2
namespace L2
open PySem PySem.Spec PyProof.Rows
section
variable{X:Cx}
theorem HM:vQ X (.builtin "len") (λxs H Q=>∃ a kvs,xs=[V.ref a]∧H a=some (.dK kvs)∧Q (.int kvs.length) H):=by
  intro pins s σ H xs us Q I r h;obtain⟨a,kvs,rfl,ha,q⟩:=h;obtain⟨u,rfl,ru⟩:=vals1 r;cases ru;exact X4 I (.inl ha) λt s' I'=>⟨.int kvs.length,H,I',⟨t,rfl⟩,q⟩
end
end L2
end
section
namespace LX
open PySem PySem.W
noncomputable def fi(c:Value)(od:Option Addr)(fs:Array Value)(sl:Array (Option Value)):Obj:={cls:=c,dict:=od,data:=.fields fs,slots:=sl}
noncomputable def Vd(dd:Option Addr)(cd:ClassData)(k0 k1 k2 k3 k5:Option Value):Obj:={cls:=.type "type",dict:=dd,data:=.cls cd,slots:=#[k0,k1,k2,k3,some (.builtin "ValueError.__new__"),k5]}
structure i8(K:Frag)(C:Addr)(cd:ClassData):Prop where
 ob:∃ dd k0 k1 k2 k3 k5,K.lookup C=some (Vd dd cd k0 k1 k2 k3 k5)
 del:cd.hasDel=false
 line:∃ r,cd.mro=.ref C::r
 val:cd.mro.contains (.type "ValueError")=true
 bas:cd.mro.contains (.type "BaseException")=true
 obj:cd.mro.contains (.type "object")=true
 atr:cd.mro.contains (.type "AttributeError")=false
 nam:cd.mro.contains (.type "NameError")=false
noncomputable def Kl(K:Frag)(C:Addr):Bool:=match K.lookup C with
 | some ⟨.type "type",_,.cls cd,sl⟩=>(match cd.mro,sl.toList with
  | .ref D::_,[_,_,_,_,some (.builtin n),_]=>D == C&&n == "ValueError.__new__" && !cd.hasDel&&cd.mro.contains (.type "ValueError")&&cd.mro.contains (.type "BaseException") &&
    cd.mro.contains (.type "object")&&!cd.mro.contains (.type "AttributeError")&&!cd.mro.contains (.type "NameError")
  | _,_=>false)
 | _=>false
theorem lO{K:Frag}{C:Addr}(e:Kl K C=true):∃ cd,clsIn K C=some cd∧i8 K C cd:=by
 unfold Kl at e;split at e
 ·rename_i dd cd sl ho
  split at e
  ·rename_i D r k0 k1 k2 k3 n k5 hm hs
   simp only[akI,beq_iff_eq,Bool.not_eq_true']at e;obtain⟨⟨⟨⟨⟨⟨⟨rfl,rfl⟩,e1⟩,e2⟩,e3⟩,e4⟩,e5⟩,e6⟩:=e;obtain⟨sl⟩:=sl;simp only at hs;subst hs;exact⟨cd,by unfold clsIn;rw[ho],⟨dd,k0,k1,k2,k3,k5,ho⟩,e1,⟨r,hm⟩,e2,e3,e4,e5,e6⟩
  ·cases e
 ·cases e
section
variable{K:Frag}{C:Addr}{cd:ClassData}{M:Model}{h:Heap}
theorem i8.cls(x:i8 K C cd):clsIn K C=some cd:=by
 obtain⟨dd,k0,k1,k2,k3,k5,e⟩:=x.ob;unfold clsIn;rw[e];rfl
theorem i8.FJ(x:i8 K C cd):cd.mro.isEmpty=false:=by
 obtain⟨r,e⟩:=x.line;rw[e];rfl
theorem i8.sub(x:i8 K C cd)(X:K.In h)(v:Value):Looks M h (isSubtype (.ref C) v) (cd.mro.contains v) :=
 looks_mroIn X (by unfold mroIn;rw[x.cls,Option.bind_some,if_neg (by rw[x.FJ];decide)])
theorem i8.mro(x:i8 K C cd)(X:K.In h):Looks M h (mroOf (.ref C)) cd.mro:=(looks_clsIn X x.cls).andThen .now
theorem i8.typ(x:i8 K C cd)(X:K.In h):Looks M h (typeOf (.ref C)) (.type "type"):=by
 obtain⟨dd,k0,k1,k2,k3,k5,e⟩:=x.ob;exact(Looks.ld (X _ _ e)).andThen .now
theorem i8.aeA(x:i8 K C cd)(X:K.In h):Looks M h (isType (.ref C)) true:=by
 obtain⟨dd,k0,k1,k2,k3,k5,e⟩:=x.ob;intro A Q E s k q;unfold isType loadHead;exact wpAny_bind (wpAny_loadPart (k _ _ (X _ _ e)) (wpAny_pure q))
theorem i8.madeBy(x:i8 K C cd)(X:K.In h):Looks M h (Bind.madeBy (.ref C)) (some "ValueError.__new__"):=by
 obtain⟨dd,k0,k1,k2,k3,k5,e⟩:=x.ob;obtain⟨r,hr⟩:=x.line;intro A Q E s k q;unfold Bind.madeBy;refine wpAny_bind (x.mro X A _ E s k ?_);rw[hr,List.forIn_cons];refine wpAny_bind (wpAny_bind (wpAny_bind (wpAny_bind (wpAny_loadPart (k _ _ (X _ _ e)) (wpAny_pure ?_)))));exact wpAny_pure (wpAny_pure (wpAny_pure q))
theorem i8.static(x:i8 K C cd)(X:K.In h):Looks M h (Bind.staticBase (.ref C)) (.ref C):=by
 obtain⟨r,hr⟩:=x.line;intro A Q E s k q;unfold Bind.staticBase;refine wpAny_bind (x.mro X A _ E s k ?_);rw[hr,List.forIn_cons];exact wpAny_bind (wpAny_bind (wpAny_bind (x.madeBy X A _ E s k (wpAny_pure (wpAny_pure (wpAny_pure q))))))
theorem Tb:Manifest.canonical "ValueError.__new__" = Manifest.canonical "BaseException.__new__" := PySem.F.excBase_ValueError.canon
theorem i8.here(x:i8 K C cd)(X:K.In h):Looks M h (Bind.madeHere "BaseException.__new__" (.ref C)) () :=
 (x.static X).andThen ((x.madeBy X).andThen (Looks.of_pure (by simp only[aj4,Tb,bne_self_eq_false,ajN,if_false])))
end
noncomputable def Back(x:Addr)(R:Result→Shared→Prop)(r:Result)(s':Shared):Prop:=match r with
 | .ok (.ret v)=>v=.none∧R (.ok (.ret (.ref x))) s'
 | .ok _=>False
 | .error e=>R (.error e) s'
noncomputable abbrev Ob(C t:Addr):Obj:=fi (.ref C) none #[.ref t,.none,.none,.none,.bool false,.none] #[]
noncomputable abbrev wc(vs:List Value):Obj:={cls:=.type "tuple",data:=.seq vs.toArray}
noncomputable abbrev ra(h:Heap)(C:Addr)(vs:List Value):Heap:=(h.push (wc vs)).push (Ob C h.objs.size)
section
variable{prog:Program}{w:World}{A:Around}{R:Result→Shared→Prop}{h:Heap}{g:Array GenState}{d:Drawn}{t:Nat}{os:OsState}{K:Frag}{C:Addr}{cd:ClassData}{vs:List Value}
theorem QQ(x:i8 K C cd)(X:K.In h)(hv:vs.length≤sizeLine)(k:R (.ok (.ret (.ref (h.objs.size+1)))) ⟨ra h C vs,g,d,t,os⟩) :
  codeAny (model prog w) A (.call (.builtin "ValueError.__new__") ⟨.ref C::vs,[]⟩) R ⟨h,g,d,t,os⟩:=by
 have F:=PySem.F.excBase_ValueError;have st:=x.static (M:=model prog w) X;have ty:=x.aeA (M:=model prog w) X;have mb:=x.madeBy (M:=model prog w) X;have hh:=x.here (M:=model prog w) X;have s1:=x.sub (M:=model prog w) X (.type "ValueError");rw[x.val]at s1;have s2:=x.sub (M:=model prog w) X (.type "AttributeError");rw[x.atr]at s2;have s3:=x.sub (M:=model prog w) X (.type "NameError");rw[x.nam]at s3;refine codeAny_call_builtin_code (Code.quiet_builtin _ F.quiet) ?_;have star:=F.noStar;simp only[checkBuiltinCall,F.newKind,F.newSplit,F.newRow]
 repeat (first|simp only[bne_self_eq_false,ajN,if_false,Bool.not_true]|lk)
 refine codeAny_builtinAt F.entry ?_;unfold Builtin.«BaseException.__new__»;refine wpAt_bind ?_;show wpAt _ _ _ (stack >>= _) _ _ _;refine wpAt_bind (wpAt_stack λp below=>wpAt_of_wpAny ?_);have ai1:=F.ends;wp_walk
 refine wpAt_of_wpAny ?_;rw[F.owner]
 repeat (first|simp only[bne_self_eq_false,ajN,if_false,Bool.not_true]|lk)
 rw[if_neg (by rw[ajd];omega)];obtain⟨dd,k0,k1,k2,k3,k5,ho⟩:=x.ob
 repeat lk
 refine nd_load (aja _ (aja _ (X _ _ ho))) (wpAny_pure (wpAny_pure ?_));rw[x.del,if_neg ajc];refine wpAny_pure (wpAny_pure ?_);show R _ _;rw[akr];exact k
theorem QR{f:Addr}(x:i8 K C cd)(X:K.In h)(hi:findIn K (.ref C) "__init__" = some (some (.ref f)))(hf:typeIn K (.ref f)=some (.type "function"))(hv:vs.length≤sizeLine)
  (k:codeAny (model prog w) (A.under (.builtin "type.__call__" ⟨.ref C::vs,[]⟩)) (.call (.ref f) ⟨.ref (h.objs.size+1)::vs,[]⟩) (Back (h.objs.size+1) R) ⟨ra h C vs,g,d,t,os⟩) :
  codeAny (model prog w) A (.call (.ref C) ⟨vs,[]⟩) R ⟨h,g,d,t,os⟩:=by
 obtain⟨dd,k0,k1,k2,k3,k5,ho⟩:=x.ob;have hC:=X _ _ ho;have ht:=x.typ (M:=model prog w) X;refine codeAny_of_tree ?_;show wpAny _ _ (callAny (.ref C) _) _ _ _;refine nd_load hC ?_;show wpAny _ _ (callAny.viaDunder (.ref C) _) _ _ _;unfold callAny.viaDunder;have sp:Looks (model prog w) h (specialOf (.ref C) "__call__") (some (.builtin "type.__call__")):=ht.andThen (Looks.of_pure tc_lookup);refine wpAny_bind (sp.at ?_);dsimp only;rw[tc_bind];refine wpAny_bind (wpAny_pure (wpAny_bind (wpAny_pure ?_)));refine wpAny_pure (a:=Fin.again (.call (.builtin "type.__call__") ⟨.ref C::vs,[]⟩)) (And.intro rfl ?_);refine codeAny_call_builtin_at (Code.quiet_builtin _ (by decide +kernel)) entry_typeCall (check_slot tc_kind tc_split (ht.andThen (Looks.of_pure tc_sub)) (tc_args _ _ _) ?_);unfold Builtin.«type.__call__»;have hm:=x.mro (M:=model prog w) X;have em:=x.FJ;have mb:=x.madeBy (M:=model prog w) X
 repeat (first|simp only[em,ajN,if_false]|with_reducible refine wpAny_call ?_|lk)
 refine QQ x X hv ?_;have kp:∀ b o,h.get? b=some o→(ra h C vs).get? b=some o:=λb o e=>aja _ (aja _ e);have X1:K.In (ra h C vs):=X.keeps kp;have hx:(ra h C vs).get? (h.objs.size+1)=some (Ob C h.objs.size):=by heap_get
 have t1:Looks (model prog w) (ra h C vs) (typeOf (.ref (h.objs.size+1))) (.ref C):=(Looks.ld hx).andThen .now;have s1:=x.sub (M:=model prog w) X1 (.ref C);obtain⟨r,hr⟩:=x.line;rw[show cd.mro.contains (.ref C)=true by rw[hr];simp]at s1;have i1:=looks_findIn (M:=model prog w) X1 hi;have b1:=bind_fn (M:=model prog w) X1 (.ref (h.objs.size+1)) hf;unfold isInstance callSpecial? specialOf
 repeat (first|with_reducible refine wpAny_call ?_|lk)
 refine codeAny_mono k λr s' z=>?_;rcases r with e|(v|_|_|_)<;>first|exact z|exact z.elim|skip;obtain⟨rfl,z⟩:=z;exact wpAny_pure (wpAny_pure z)
end
section
variable{prog:Program}{w:World}{A:Around}{E:Value→Shared→Prop}{h:Heap}{g:Array GenState}{d:Drawn}{t:Nat}{os:OsState}{K:Frag}{C e t0:Addr}{cd:ClassData}{vs:List Value}{od:Option Addr}{fs:Array Value}{sl:Array (Option Value)}
theorem FK{M:Model}(he:h.get? e=some (fi (.ref C) od fs sl)):Looks M h (typeOf (.ref e)) (.ref C):=(Looks.ld he).andThen .now
theorem KL{Q:Value→Shared→Prop}(x:i8 K C cd)(X:K.In h)(he:h.get? e=some (fi (.ref C) od fs sl))(h0:fs[0]?=some (.ref t0))(hv:vs.length≤sizeLine)
  (k:Q .none ⟨(h.push (wc vs)).update e (Obj.mapFields (·.setIfInBounds 0 (.ref h.objs.size))),g,d,t,os⟩) :
  wpAny (model prog w) A (call (.builtin "ValueError.__init__") (.ref e::vs)) Q E ⟨h,g,d,t,os⟩:=by
 have F:=PySem.F.excBase_ValueError;have ty:=FK (M:=model prog w) he;have s1:=x.sub (M:=model prog w) X (.type "ValueError");rw[x.val]at s1;obtain⟨dd,k0,k1,k2,k3,k5,ho⟩:=x.ob;have hC:h.get? C=some ⟨.type "type",dd,.cls cd,#[k0,k1,k2,k3,some (.builtin "ValueError.__new__"),k5]⟩:=X _ _ ho;have star:=F.noStar;refine wpAny_call (codeAny_call_builtin F.init.plain F.initEntry ?_);simp only[checkBuiltinCall,F.initKind,F.initSplit,F.initRow];unfold isInstance Bind.checkArgs;refine wpAny_bind (wpAny_bind (ty.at (s1.at ?_)));simp only[ajN,if_false,Bool.not_true];refine wpAny_bind (m:=Bind.printed "*" true _ _) ?_;unfold Bind.printed Bind.receiverType typeNameWhole;rw[if_neg (by decide)];dsimp only;rw[if_neg (by decide)];refine wpAny_bind (ty.at ?_);refine wpAny_bind (wpAny_bind ((looks_clsIn X x.cls).at (wpAny_pure (wpAny_pure ?_))));refine wpAny_bind (m:=if("ValueError" != "*")=true then pure "ValueError" else _) ?_;rw[if_pos star];refine wpAny_pure (wpAny_onRaise ?_);show wpAny _ _ (Bind.check _ _ _ _ []) _ _ _;rw[PyProof.Rows.check_varPos];refine wpAny_pure ?_;unfold Builtin.«BaseException.__init__»;dsimp only;rw[if_neg (by simp)];unfold newTuple Builtin.BaseException.bexcPut;have hsz:0<fs.size:=(ajw.mp h0).1;have e1:=aja (h:=h) (wc vs) he;refine wpAny_bind (wpAny_newObj_type ?_ (by show vs.toArray.size≤sizeLine;rw[ajd];exact hv));refine wpAny_bind (wpAny_bind (wpAny_field (s:=⟨h.push (wc vs),g,d,t,os⟩) e1 rfl h0 ?_));refine wpAny_bind (wpAny_setField (s:=⟨h.push (wc vs),g,d,t,os⟩) e1 rfl hsz ?_);exact wpAny_letGo (wpAny_pure k)
end
section
variable{prog:Program}{w:World}{A:Around}{E:Value→Shared→Prop}{s:Shared}{K:Frag}
theorem Tc:findCls K (.type "ValueError") (.type "type") "__init__" = some (.val (.builtin "ValueError.__init__")):=by kernel_rfl
theorem Ui:findIn K (.type "type") "__getattribute__" = some (some (.builtin "type.__getattribute__")):=by kernel_rfl
theorem Rr{M:Model}{h:Heap}:Looks M h (typeOf (.type "ValueError")) (.type "type"):=Looks.of_pure (by kernel_rfl)
theorem Ve:subIn K (.type "type") (.type "type")=some true:=by kernel_rfl
theorem Vf{M:Model}{h:Heap}:Looks M h (opaqueClassAbove (.type "ValueError")) none:=Looks.of_pure (by kernel_rfl)
theorem Td{pl:Sem Bool}{Q:Value×List Value→Shared→Prop}(X:K.In s.heap)(k:Q (.builtin "ValueError.__init__",[]) {s with toks:=s.toks+1}) :
  wpAny (model prog w) A (getMethod (.type "ValueError") "__init__" pl) Q E s:=by
 have sp:Looks (model prog w) s.heap (specialOf (.type "ValueError") "__getattribute__") (some (.builtin "type.__getattribute__")):=Rr.andThen (looks_findIn X Ui);unfold getMethod;refine wpAny_bind (sp.here ?_);dsimp only;rw[if_pos canon_tga];refine wpAny_bind (cls_open (hook:=none) X Vf Rr Ui (Looks.of_pure (by kernel_rfl)) Ve Tc ?_);refine wpAny_pure ?_;show wpAny _ _ (handedOut _) _ _ _;rw[handedOut_of (by kernel_rfl)];exact wpAny_pure (wpAny_pure k)
end
section
variable{prog:Program}{w:World}{A:Around}{E:Value→Shared→Prop}{s:Shared}{K:Frag}{env:Env}
noncomputable def Po(K:Frag)(E:Value→Shared→Prop)(v:Value)(s1:Shared):Prop :=
 ∃(ea C:Addr) (cd:ClassData) (od:Option Addr) (fs:Array Value) (sl:Array (Option Value)),v=.ref ea∧s1.heap.get? ea=some (fi (.ref C) od fs sl)∧fs[1]?=some .none∧i8 K C cd∧K.In s1.heap∧E (.ref ea) s1
theorem Pp{e:Expr}{pos:Pos}{Q:Flow→Shared→Prop}(hh:A.handled=none)(k:wpAny (model prog w) A (eval e env) (Po K E) E s) :
  wpAny (model prog w) A (exec (.Raise (some e) none pos) env) Q E s:=by
 show wpAny (model prog w) A (do standAt pos;raiseStmt env (some (do let v ←eval e env;standAt pos;pure v)) none) Q E s
 refine wpAny_bind (wpAny_standAt ?_);unfold raiseStmt;dsimp only;refine wpAny_bind (wpAny_bind (wpAny_mono k (λv s1 q=>wpAny_bind (wpAny_standAt (wpAny_pure ?_))) λ_ _ z=>z));obtain⟨ea,C,cd,od,fs,sl,rfl,he,h1,x,X,hE⟩:=q;obtain⟨hp,g,d,tk,os⟩:=s1;have ty:=FK (M:=model prog w) he;have nt:Looks (model prog w) hp (isType (.ref ea)) false:=by
  intro A' Q' E' s' kk q;unfold isType loadHead;exact wpAny_bind (wpAny_loadPart (kk _ _ he) (wpAny_pure q))
 have sb:=x.sub (M:=model prog w) X (.type "BaseException");rw[x.bas]at sb;have ct:=x.typ (M:=model prog w) X;have f1:Looks (model prog w) hp (field (.ref ea) 1) .none:=looks_field he 1 h1;refine wpAny_bind (wpAny_pure ?_);dsimp only;refine wpAny_bind (wpAny_holding ?_);unfold excFromValue isExcClass isInstance
 repeat (first|simp only[ajN,if_false,if_true]|lk)
 show wpAny _ _ handled _ _ _;refine wpAny_handled ?_;rw[hh];exact wpAny_throw hE
theorem KN{ea C D:Addr}{cd cd':ClassData}{od:Option Addr}{fs:Array Value}{sl:Array (Option Value)}{h:Heap}{g:Array GenState}{d:Drawn}{t:Nat}{os:OsState}{Q:Bool→Shared→Prop}{M:Model}(x:i8 K C cd)(y:i8 K D cd')(X:K.In h)
  (he:h.get? ea=some (fi (.ref C) od fs sl)) (q:Q (cd.mro.contains (.ref D)) ⟨h,g,d,t,os⟩):wpAny M A (excMatches (.ref ea) (.ref D)) Q E ⟨h,g,d,t,os⟩:=by
 have ty:=FK (M:=M) he;have td:=y.typ (M:=M) X;have ti:=y.aeA (M:=M) X;have tn:Looks M h (isSubtype (.type "type") (.type "tuple")) false:=Looks.of_pure tc_notTuple;have yb:=y.sub (M:=M) X (.type "BaseException");rw[y.bas]at yb;have xs:=x.sub (M:=M) X (.ref D);unfold excMatches isInstance isExcClass
 repeat (first|simp only[ajN,if_false,if_true,Bool.not_true]|lk)
 cases hb:cd.mro.contains (.ref D) with
 | true =>
  rw[hb]at q;simp only[if_true]
  repeat lk
  exact q
 | false =>
  rw[hb]at q;simp only[ajN,if_false]
  repeat lk
  exact q
end
structure aio(K:Frag)(C:Addr):Prop where
 ga:findIn K (.ref C) "__getattribute__" = some (some (.builtin "BaseException.__getattribute__"))
 gt:findIn K (.ref C) "__getattr__" = some none
section
variable{prog:Program}{w:World}{A:Around}{E:Value→Shared→Prop}{h:Heap}{g:Array GenState}{d:Drawn}{t:Nat}{os:OsState}{K:Frag}{C ea:Addr}{cd:ClassData}{ox:Obj}{od:Option Obj}{name:Str}
end
section
variable{prog:Program}{w:World}{A:Around}{E:Value→Shared→Prop}{h:Heap}{g:Array GenState}{d:Drawn}{t:Nat}{os:OsState}{K:Frag}{C CH ea:Addr}{cd:ClassData}{fs:Array Value}{sl:Array (Option Value)}{name:Str}{v:Value}
end
end LX
end
section
namespace LX
open PySem
structure Kept(fr xs:List Addr)(h k:Heap):Prop where
 plain:∀ b o,h.get? b=some o→b∉fr→b∉xs→k.get? b=some o
 frame:∀ b o,h.get? b=some o→b∈fr→b∉xs→∃ sl,k.get? b=some {o with slots:=sl}
theorem Kept.trans{fr xs ys:List Addr}{h k m:Heap}(x:Kept fr xs h k)(y:Kept fr ys k m):Kept fr (xs++ys) h m where
 plain:=λb o e hb hx=>y.plain b o (x.plain b o e hb λz=>hx (ajD _ z)) hb λz=>hx (ajf _ z)
 frame:=λb o e hb hx=>by
  obtain⟨sl,e1⟩:=x.frame b o e hb λz=>hx (ajD _ z);obtain⟨sm,e2⟩:=y.frame b _ e1 hb λz=>hx (ajf _ z);exact⟨sm,e2⟩
theorem Kept.weak{fr xs ys:List Addr}{h k:Heap}(x:Kept fr xs h k)(s:∀ b o,h.get? b=some o→b∈xs→b∈ys):Kept fr ys h k :=
 ⟨λb o e hb hy=>x.plain b o e hb λz=>hy (s b o e z),λb o e hb hy=>x.frame b o e hb λz=>hy (s b o e z)⟩
noncomputable abbrev gf(l:List Env):List Addr:=l.filterMap (·.frame)
section
variable{M:Model}{A:Around}{E:Value→Shared→Prop}{s:Shared}{base:Heap}{env:Env}{outer:List Env}{L e:Addr}{c:Value}{od:Option Addr}{fs:Array Value}{sl:Array (Option Value)}
theorem L4{l:List Env}(F:s.heap.FunFrames base l)(he:s.heap.get? e=some (fi c od fs sl)):e∉gf l:=λz=>by
 obtain⟨_,o,ho,hn⟩:=F.mem z;rw[he]at ho;cases ho;exact hn fs rfl
theorem Bk{h:Heap}{a:Addr}{i:Nat}{x:Value}(ha:h.get? a=some (fi c od fs sl)) :
  (h.update a (Obj.mapFields (·.setIfInBounds i x))).get? a=some (fi c od (fs.setIfInBounds i x) sl):=Heap.get?_update_self _ ha rfl
theorem Fd{head:Value}{had:Bool}{Q:Unit→Shared→Prop}(hA:A.frames=some (env::outer))(F:s.heap.FunFrames base (env::outer))(hL:env.frame=some L)
  (he:s.heap.get? e=some (fi c od fs sl)) (h1:1<fs.size)
  (k:∀ m T oc ts,s.heap.objs.size≤T→Kept (gf (env::outer)) [e] s.heap m→m.get? e=some (fi c od (fs.setIfInBounds 1 (.ref T)) sl)→m.get? T=some (fi oc none ts #[])→ts[3]?=some (rawInt L)→Q () {s with heap:=m}) :
  wpAny M A (do let a ←frameOf env;let pl ←entryPlaceOf L had;let b ←EntryCells.newEntry head a .none (rawInt L) .none pl;setField (.ref e) 1 b) Q E s:=by
 have ne:=L4 F he;refine wpAny_bind (wpAny_frameOf_fun hA F hL λg hg=>?_);obtain⟨g0,g1,g2⟩:=hg;refine wpAny_bind (wpAny_entryPlaceOf λpl hp=>?_);unfold EntryCells.newEntry newFields;refine wpAny_bind (wpAny_newObj_type ?_ (hp.sizeOk5 _ _ _ _ _));have e1:g.get? e=some (fi c od fs sl):=(g1 e ne).trans he;have e2:=aja (h:=g) {cls:=.type "traceback",dict:=none,data:=.fields ([head,.ref L,.none,rawInt L,.none]++(if pl.isEmpty then List.replicate 6 Value.none else pl)).toArray} e1;refine wpAny_setField e2 rfl h1 ?_;have Te:g.objs.size≠e:=akk (ajg e1);refine k _ g.objs.size (.type "traceback") ([head,.ref L,.none,rawInt L,.none]++(if pl.isEmpty then List.replicate 6 Value.none else pl)).toArray (Nat.le_of_eq g0.symm) ⟨λb o q hb hx=>?_,λb o q hb hx=>?_⟩ (Bk e2) ?_ ?_
 ·have be:b≠e:=λz=>hx (by rw[z];exact ai9.mpr rfl)
  rw[ajF _ _ (ajm be)];exact aja _ ((g1 b hb).trans q)
 ·have be:b≠e:=λz=>hx (by rw[z];exact ai9.mpr rfl)
  obtain⟨sm,q2⟩:=g2 b o q;refine⟨sm,?_⟩;rw[ajF _ _ (ajm be)];exact aja _ q2
 ·rw[ajF _ _ (ajm Te)]
  exact ajC g rfl
 ·first|(simp;done)|(rcases hp with rfl|⟨_,_,_,_,_,_,_,rfl⟩<;>simp)
inductive vS(h:Heap)(e:Addr)(fs:Array Value):Option Addr→Prop where
 | none (h1:fs[1]?=some .none):vS h e fs none
 | some {T:Addr} {oc:Value} {ts:Array Value} {d:Option Addr} {sl:Array (Option Value)} (h1:fs[1]?=some (.ref T)) (ne:T≠e) (hT:h.get? T=some (fi oc d ts sl)) (h3:ts[3]?=some .none):vS h e fs (some T)
theorem vS.size{h:Heap}{fs:Array Value}{T:Option Addr}(t:vS h e fs T):1<fs.size:=by
 cases t with
 | none h1=>exact(ajw.mp h1).1
 | some h1=>exact(ajw.mp h1).1
theorem Kd{T0:Option Addr}{Q:Unit→Shared→Prop}(hA:A.frames=some (env::outer))(F:s.heap.FunFrames base (env::outer))(hL:env.frame=some L)(he:s.heap.get? e=some (fi c od fs sl))(t:vS s.heap e fs T0)
  (k:∀ m T oc ts,s.heap.objs.size≤T→Kept (gf (env::outer)) (e::T0.toList) s.heap m→m.get? e=some (fi c od (fs.setIfInBounds 1 (.ref T)) sl)→m.get? T=some (fi oc none ts #[])→ts[3]?=some (rawInt L)→Q () {s with heap:=m}) :
  wpAny M A (noteFrame (.ref e) env) Q E s:=by
 unfold noteFrame;simp only[hL];have h1s:=t.size;cases t with
 | none h1 =>
  refine wpAny_bind (wpAny_field he rfl h1 ?_);rw[if_neg (by decide)];exact Fd hA F hL he h1s k
 | @some T oc ts d sm h1 ne hT h3 =>
  refine wpAny_bind (wpAny_field he rfl h1 ?_);rw[if_pos (show(Value.ref T != Value.none)=true by simp)];refine wpAny_bind (wpAny_field hT rfl h3 ?_);rw[if_neg (show ¬((Value.none == rawInt L)=true) by simp[rawInt])];have h3s:3<ts.size:=(ajw.mp h3).1;refine wpAny_bind (wpAny_setField hT rfl h3s ?_);have oth:∀ b,b≠T→(s.heap.update T (Obj.mapFields (·.setIfInBounds 3 Value.none))).get? b=s.heap.get? b:=λb hb=>ajF _ _ (ajm hb);have nT:=L4 F hT;have F1:(s.heap.update T (Obj.mapFields (·.setIfInBounds 3 Value.none))).FunFrames base (env::outer):=F.of_keeps λb o hb hn=>⟨o,(oth b λz=>by rw[z,hT]at hb;cases hb;exact hn ts rfl).trans hb,rfl⟩;refine Fd (s:={s with heap:=s.heap.update T (Obj.mapFields (·.setIfInBounds 3 Value.none))}) hA F1 hL ((oth e (ajm ne)).trans he) h1s λm T' oc' ts' z1 z2 z3 z4 z5=>k m T' oc' ts' ?_ ?_ z3 z4 z5
  ·have zz:(s.heap.update T (Obj.mapFields (·.setIfInBounds 3 Value.none))).objs.size=s.heap.objs.size:=(Heap.SameBut.update (h:=s.heap) (a:=T) (f:=Obj.mapFields (·.setIfInBounds 3 Value.none))).1
   rw[←zz];exact z1
  ·have kk:Kept (gf (env::outer)) [T] s.heap (s.heap.update T (Obj.mapFields (·.setIfInBounds 3 Value.none))) :=
    ⟨λb o q _ hx=>(oth b λz=>hx (by rw[z];exact ai9.mpr rfl)).trans q,λb o q _ hx=>⟨o.slots,(oth b λz=>hx (by rw[z];exact ai9.mpr rfl)).trans q⟩⟩
   refine(kk.trans z2).weak λb o _ q=>?_;simp only[ajs,ai9]at q;simp only[Option.toList_some,ajo,aku,or_false];exact q.symm
theorem sP{T:Addr}{oc:Value}{ts:Array Value}{d:Option Addr}{sm:Array (Option Value)}{Q:Unit→Shared→Prop}(he:s.heap.get? e=some (fi c od fs sl))(h1:fs[1]?=some (.ref T))(ne:T≠e)
  (hT:s.heap.get? T=some (fi oc d ts sm)) (h3:3<ts.size)
  (k:∀ m,(∀ b o,b≠T→s.heap.get? b=some o→m.get? b=some o)→vS m e fs (some T)→m.get? e=some (fi c od fs sl)→Q () {s with heap:=m}):wpAny M A (setFlight (.ref e) none) Q E s:=by
 unfold setFlight;refine wpAny_bind (wpAny_field he rfl h1 ?_);rw[if_pos (show(Value.ref T != Value.none)=true by simp)];have oth:∀ b o,b≠T→s.heap.get? b=some o→(s.heap.update T (Obj.mapFields (·.setIfInBounds 3 Value.none))).get? b=some o:=λb o hb q=>(ajF _ _ (ajm hb)).trans q;exact wpAny_setField hT rfl h3 (k _ oth (.some h1 ne (Bk hT) (by simp[h3])) (oth e _ (ajm ne) he))
theorem Oc{T0:Option Addr}{Q:Unit→Shared→Prop}(hA:A.frames=some (env::outer))(F:s.heap.FunFrames base (env::outer))(hL:env.frame=some L)(he:s.heap.get? e=some (fi c od fs sl))(t:vS s.heap e fs T0)
  (k:∀ m T fs',s.heap.objs.size≤T→Kept (gf (env::outer)) (e::T0.toList) s.heap m→m.get? e=some (fi c od fs' sl)→fs'[0]?=fs[0]?→vS m e fs' (some T)→Q () {s with heap:=m}) :
  wpAny M A (leaving env (.ref e)) Q E s:=by
 unfold leaving;refine wpAny_bind (Kd hA F hL he t λm T oc ts z1 z2 z3 z4 z5=>?_);have Te:T≠e:=akk (ajn (ajg he) z1);have f1:(fs.setIfInBounds 1 (Value.ref T))[1]?=some (.ref T):=by
  have:=t.size
  simp[this]
 refine sP (s:={s with heap:=m}) z3 f1 Te z4 (ajw.mp z5).1 λm' q1 q2 q3=>k m' T _ z1 ⟨λb o q hb hx=>?_,λb o q hb hx=>?_⟩ q3 (by simp) q2
 ·exact q1 b o (ajl (ajn (ajg q) z1)) (z2.plain b o q hb hx)
 ·obtain⟨sm,r⟩:=z2.frame b o q hb hx
  exact⟨sm,q1 b _ (ajl (ajn (ajg q) z1)) r⟩
end
end LX
end
section
namespace L2
open PySem PySem.Spec PyProof.Rows LX
noncomputable def ExP(fresh:Bool)(C e:Addr)(od:Option Addr)(h:Heap):Prop:=∃ fs sl t0,h.get? e=some (fi (.ref C) od fs sl)∧fs[0]?=some (.ref t0)∧(fresh=true→fs[1]?=some .none)
noncomputable def exo(fresh:Bool)(C e:Addr)(od:Option Addr):HO:=.ext (ExP fresh C e od)
section
variable{P:Program}{w:World}{H:Hp}{h:Heap}{b:Bool}{C e:Addr}{od:Option Addr}
theorem Rt(x:ExP b C e od h):iJ P w H h e (exo b C e od):=by
 refine⟨x,?_,λh1 h2 p k=>?_⟩
 ·obtain⟨fs,sl,t0,z,_⟩:=x
  exact⟨_,z⟩
 ·obtain⟨fs,sl,t0,z,r⟩:=p
  exact⟨fs,sl,t0,k _ z,r⟩
theorem Ke(ok:HOk P w H h)(z:H e=some (exo b C e od)):ExP b C e od h:=(show iJ P w H h e (exo b C e od) from ok e _ z).1
end
noncomputable def del(H:Hp)(a:Addr):Hp:=λb=>if b=a then none else H b
theorem L5{H:Hp}{a:Addr}:del H a a=none:=by unfold del;rw[if_pos rfl]
theorem we{H:Hp}{a b:Addr}(h:b≠a):del H a b=H b:=by unfold del;rw[if_neg h]
theorem L6{H:Hp}{a b:Addr}{o:HO}(h:del H a b=some o):H b=some o∧b≠a:=by
 unfold del at h;by_cases q:b=a
 ·rw[if_pos q]at h;cases h
 ·rw[if_neg q]at h;exact⟨h,q⟩
section
variable{P:Program}{w:World}{H H':Hp}{h h':Heap}{a:Addr}
theorem HOk.keeps(ok:HOk P w H h)(k:∀ b u o,H b=some u→h.get? b=some o→h'.get? b=some o):HOk P w H h':=λb u q =>
 (ok b u q).LS (λc v hc r=>by
  rcases hc with rfl|hc
  ·exact k c u v q r
  ·exact k c _ v hc r) (λ_ z=>z) λ_ _ z=>z
theorem HOk.del(ok:HOk P w H h)(ha:∀ y,H a≠some (.own y))(hb:∀ xs,H a≠some (.tup xs)):HOk P w (del H a) h:=λb u q=>by
 obtain⟨q1,q2⟩:=L6 q;refine(ok b u q1).LS (λ_ _ _ r=>r) (λc z=>?_) λc xs z=>?_
 ·rw[we λe=>ha b (by rw[←e];exact z)];exact z
 ·rw[we λe=>hb xs (by rw[←e];exact z)];exact z
end
theorem uF{h k base:Heap}:∀ {l:List Env},h.FunFrames base l→(∀ b∈frs l,∀ o,h.get? b=some o→∃ sl,k.get? b=some {o with slots:=sl})→k.FunFrames base l
 | [],_,_=>True.intro
 | env::r,⟨h1,⟨L,o,e1,e2,e3,e4⟩,h2⟩,q=>by
  have hm:L∈frs (env::r):=aj0.mpr ⟨env,ajt,e1⟩;obtain⟨sl,z⟩:=q L hm o e3;refine⟨h1,⟨L,_,e1,e2,z,e4⟩,uF h2 λb hb o' z'=>q b ?_ o' z'⟩;obtain⟨x,hx,hy⟩:=aj0.mp hb;exact aj0.mpr ⟨x,ajv _ hx,hy⟩
structure Lies(P:Program)(w:World)(outer:List Env)(H H':Hp)(s:Shared)(ea C T:Addr)(od:Option Addr)(fs:Array Value)(sl:Array (Option Value))(s':Shared):Prop where
 os:s'.os=s.os
 bare:AllBare s'.gens
 un:Un (frs outer) [] H H' s.heap s'.heap
 hok:HOk P w H' s'.heap
 Xs:s.heap.get? ea=none
 aip:s.heap.get? T=none
 Sf:H' ea=none
 X7:H' T=none
 at_:s'.heap.get? ea=some (fi (.ref C) od fs sl)
 args:∃ t0,fs[0]?=some (.ref t0)
 trail:vS s'.heap ea fs (some T)
noncomputable def CXE(P:Program)(w:World):CXT:=λouter H s E e s'=>∃ ea C T od fs sl H',e=.ref ea∧Lies P w outer H H' s ea C T od fs sl s'∧E (.ref C) od H'
section
variable{X:Cx}{pins:List (Addr×Obj)}{σ:St}{H H':Hp}{s s':Shared}{ea C T:Addr}{od:Option Addr}{fs:Array Value}{sl:Array (Option Value)}
theorem Lies.frames(I:Inv X pins σ H s)(l:Lies X.prog X.w X.stack H H' s ea C T od fs sl s'):s'.heap.FunFrames X.base X.stack :=
 uF I.stack λb hb o z=>l.un.any z (I.Bg b hb) (by simp)
theorem Lies.on{m:Heap}{t':Nat}(I:Inv X pins σ H s)(l:Lies X.prog X.w X.stack H H' s ea C T od fs sl s')(k:Kept (gf X.stack) [ea,T] s'.heap m) :
  Un (frs X.stack) [] H H' s.heap m∧HOk X.prog X.w H' m:=by
 have fr:∀ b,b∈frs X.stack→H' b=none:=λb hb=>by
  obtain⟨_,o,z,_⟩:=I.stack.mem hb;exact l.un.free b o z (I.Bg b hb) (by simp)
 have ne:∀ b o,s.heap.get? b=some o→b∉[ea,T]:=λb o z q=>by
  rcases ajo.mp q with e|q
  ·rw[e,l.Xs]at z;cases z
  ·rw[ai9.mp q,l.aip]at z;cases z
 refine⟨⟨λb o z n hb hx=>?_,λb o z n hb hx=>?_,l.un.free,λb o z hx=>?_,l.un.HC,l.un.FV,l.un.HD⟩,?_⟩
 ·exact k.plain b o (l.un.keep b o z n hb hx) hb (ne b o z)
 ·obtain⟨s1,z1⟩:=l.un.slot b o z n hb hx
  obtain⟨s2,z2⟩:=k.frame b _ z1 hb (ne b o z);exact⟨s2,z2⟩
 ·obtain⟨o1,z1⟩:=l.un.there b o z hx
  by_cases hb:b∈gf X.stack
  ·obtain⟨s2,z2⟩:=k.frame b _ z1 hb (ne b o z)
   exact⟨_,z2⟩
  ·exact⟨_,k.plain b _ z1 hb (ne b o z)⟩
 ·refine l.hok.keeps λb u o z q=>k.plain b o q (λhb=>?_) λhx=>?_
  ·rw[fr b hb]at z;cases z
  ·rcases ajo.mp hx with e|hx
   ·rw[e,l.Sf]at z;cases z
   ·rw[ai9.mp hx,l.X7]at z;cases z
end
section
variable{P:Program}{w:World}{K:W.Frag}{mg:Str→Option Value}{base:Heap}{N:List Str}{qual:Str}{scope:Scope}{f:Addr}{cdv:Value}{A:Around}{outer:List Env}{s₀:Shared}{H₀:Hp}{E₀:XK}
noncomputable abbrev cxE(P:Program)(w:World)(K:W.Frag)(mg:Str→Option Value)(base:Heap)(N:List Str)(qual:Str)(scope:Scope)(f:Addr)(cdv:Value)(A:Around)(outer:List Env)(s₀:Shared)(H₀:Hp)(E₀:XK):Cx :=
 Rl (CXE P w) P w K mg base N qual scope f cdv A outer s₀ H₀ E₀
theorem M9{pins:List (Addr×Obj)}{σ:St}{H H':Hp}{s s':Shared}{ea C T:Addr}{od:Option Addr}{fs:Array Value}{sl:Array (Option Value)}(I:Inv (cxE P w K mg base N qual scope f cdv A outer s₀ H₀ E₀) pins σ H s)
  (l:Lies P w (cxE P w K mg base N qual scope f cdv A outer s₀ H₀ E₀).stack H H' s ea C T od fs sl s') (hE:E₀ (.ref C) od H'):(cxE P w K mg base N qual scope f cdv A outer s₀ H₀ E₀).xe (.ref ea) s':=by
 refine Oc I.ok.frames (Lies.frames I l) rfl l.at_ l.trail λm T' fs' z1 z2 z3 z4 z5=>?_;obtain⟨un,hok⟩:=l.on (t':=s'.toks) I z2;have J:Inv (cxE P w K mg base N qual scope f cdv A outer s₀ H₀ E₀) pins σ H' {s' with heap:=m}:=I.Kj l.os un hok l.bare (λb z=>absurd z (by simp));have old:∀ b o,s₀.heap.get? b=some o→∃ o',s.heap.get? b=some o':=λb o z=>I.base.there b o z (aku);have e0:s₀.heap.get? ea=none:=by
  cases q:s₀.heap.get? ea with
  | none=>rfl
  | some o =>
   obtain⟨o',z⟩:=old ea o q;rw[l.Xs]at z;cases z
 have t0:s₀.heap.get? T'=none:=by
  cases q:s₀.heap.get? T' with
  | none=>rfl
  | some o =>
   obtain⟨o1,y1⟩:=old T' o q;obtain⟨o2,y2⟩:=l.un.there T' o1 y1 (by simp);exact absurd (ajg y2) (Nat.not_lt.mpr z1)
 obtain⟨a0,ha⟩:=l.args;exact⟨ea,C,T',od,fs',sl,H',rfl,⟨J.os,J.bare,J.base,J.hok,e0,t0,l.Sf,l.hok.fresh z1,z3,⟨a0,by rw[z4];exact ha⟩,z5⟩,hE⟩
theorem aQ{E:XK}(hE:∀ c od H',E c od H'→E₀ c od H'):Passes (CXE P w) (cxE P w K mg base N qual scope f cdv A outer s₀ H₀ E₀) E:=λpins σ H s e s' I h=>by
 obtain⟨ea,C,T,od,fs,sl,H',rfl,l,q⟩:=h;exact M9 I l (hE _ _ _ q)
theorem leave_new{pins:List (Addr×Obj)}{σ:St}{H:Hp}{s:Shared}{ea C:Addr}{od:Option Addr}(I:Inv (cxE P w K mg base N qual scope f cdv A outer s₀ H₀ E₀) pins σ H s)(h1:H ea=some (exo true C ea od))(h0:H₀ ea=none)
  (hE:E₀ (.ref C) od (del H ea)):(cxE P w K mg base N qual scope f cdv A outer s₀ H₀ E₀).xe (.ref ea) s:=by
 obtain⟨fs,sl,a0,z,ha,hf⟩:=Ke I.hok h1;have frz:∀ b,b∈frs (cxE P w K mg base N qual scope f cdv A outer s₀ H₀ E₀).stack→H b=none:=I.Bg;have e0:s₀.heap.get? ea=none:=by
  cases q:s₀.heap.get? ea with
  | none=>rfl
  | some o =>
   have:=I.base.free ea o q h0 aku
   rw[h1]at this;cases this
 refine Oc I.ok.frames I.stack rfl z (.none (hf rfl)) λm T' fs' z1 z2 z3 z4 z5=>?_;have hd:HOk P w (del H ea) s.heap:=I.hok.del (λy q=>by rw[h1]at q;cases q) λxs q=>by rw[h1]at q;cases q
 have hm:HOk P w (del H ea) m:=hd.keeps λb u o q r=>by
  obtain⟨q1,q2⟩:=L6 q;exact z2.plain b o r (λhb=>by rw[frz b hb]at q1;cases q1) (by simpa using q2)
 have neE:∀ b o,s₀.heap.get? b=some o→b≠ea:=λb o q r=>by rw[r,e0]at q;cases q
 have t0:s₀.heap.get? T'=none:=by
  cases q:s₀.heap.get? T' with
  | none=>rfl
  | some o =>
   obtain⟨o2,y2⟩:=I.base.there T' o q aku;exact absurd (ajg y2) (Nat.not_lt.mpr z1)
 have neL:∀ b o,s₀.heap.get? b=some o→b∈gf (cxE P w K mg base N qual scope f cdv A outer s₀ H₀ E₀).stack→b∈frs outer:=λb o q hb=>by
  rcases ajo.mp (I.AV b hb) with r|r
  ·exact absurd (ajg q) (by rw[r];exact Nat.not_lt.mpr I.ok.above)
  ·exact r
 have sub:∀ b,b∈frs outer→b∈gf (cxE P w K mg base N qual scope f cdv A outer s₀ H₀ E₀).stack:=λb hb=>by
  obtain⟨x,hx,hy⟩:=aj0.mp hb;exact aj0.mpr ⟨x,ajv _ hx,hy⟩
 refine⟨ea,C,T',od,fs',sl,del H ea,rfl,⟨I.os,I.bare,⟨λb o q n hb hx=>?_,λb o q n hb hx=>?_,λb o q n hx=>?_,λb o q hx=>?_,λb xs q=>?_,λb o u q=>?_,λb ps q=>?_⟩,hm,e0,t0,L5,?_,z3,⟨a0,by rw[z4];exact ha⟩,z5⟩,hE⟩
 ·exact z2.plain b o (I.base.keep b o q n hb hx) (λz=>hb (neL b o q z)) (by simpa using neE b o q)
 ·obtain⟨s1,y1⟩:=I.base.slot b o q n hb hx
  obtain⟨s2,y2⟩:=z2.frame b _ y1 (sub b hb) (by simpa using neE b o q);exact⟨s2,y2⟩
 ·rw[we (neE b o q)]
  exact I.base.free b o q n hx
 ·obtain⟨o1,y1⟩:=I.base.there b o q hx
  by_cases hb:b∈gf (cxE P w K mg base N qual scope f cdv A outer s₀ H₀ E₀).stack
  ·obtain⟨s2,y2⟩:=z2.frame b _ y1 hb (by simpa using neE b o q)
   exact⟨_,y2⟩
  ·exact⟨_,z2.plain b _ y1 hb (by simpa using neE b o q)⟩
 ·have r:=I.base.HC b xs q
  rw[we λe=>by rw[e,h1]at r;cases r];exact r
 ·have r:=I.base.FV b o u q
  rw[we λe=>by rw[e,h1]at r;cases r];exact r
 ·obtain⟨more,r⟩:=I.base.HD b ps q
  exact⟨more,by rw[we λe=>by rw[e,h1]at r;cases r];exact r⟩
 ·by_cases q:T'=ea
  ·rw[q];exact L5
  ·rw[we q];exact I.hok.fresh z1
end
theorem Fun.okE{P:Program}{w:World}{K:W.Frag}{mg:Str→Option Value}{base:Heap}{x qual:Str}{st:Stmt}{f:Addr}{fd:FuncData}{N ps:List Str}{k:Nat}{sp:Sp}(F:Fun K x qual st f fd)(S:aw N ps (ar st))(len:∀ vs H Q E,sp vs H Q E→vs.length=ps.length)
  (RX:∀(cdv:Value) (A:Around) (outer:List Env) (s:Shared) (H:Hp) (vs:List V) (Q:VK) (E:XK),nI k (A.deeper (envOfC qual (ar st) s.heap.objs.size f cdv))→sp vs H Q E →
   ∃ t,PSs (cxE P w K mg base N qual (ar st) f cdv A outer s H E) (qZ st) t∧t {nx:=λ_ H'=>Q .non H',rt:=Q} (start N vs) H):Bi P w K mg base (CXE P w) (k+1) f fd ps sp:=by
 obtain⟨oc,od,kV,doc,pm,an,cdv,ct,osl,rfl,lk,hcd⟩:=F.ex;exact XM lk hcd S len λA outer s H vs Q E hr hsp=>RX cdv A outer s H vs Q E hr hsp
noncomputable def L7(X:Cx)(E:XK):Prop:=∀(pins:List (Addr×Obj)) (σ:St) (H:Hp) (s:Shared) (ea C:Addr) (od:Option Addr),Inv X pins σ H s→H ea=some (exo true C ea od)→X.H₀ ea=none→E (.ref C) od (del H ea)→X.xe (.ref ea) s
theorem kz{P:Program}{w:World}{K:W.Frag}{mg:Str→Option Value}{base:Heap}{N:List Str}{qual:Str}{scope:Scope}{f:Addr}{cdv:Value}{A:Around}{outer:List Env}{s₀:Shared}{H₀:Hp}{E₀:XK} :
  L7 (cxE P w K mg base N qual scope f cdv A outer s₀ H₀ E₀) E₀:=λ_ _ _ _ _ _ _ I h1 h0 q=>leave_new I h1 h0 q
noncomputable def Vg(H₀:Hp)(K:W.Frag)(E:XK)(te:TE):TS:=λ_ σ H=>te σ H λv H1=>∃ ea C od,v=.ref ea∧H1 ea=some (exo true C ea od)∧(∃ cd,i8 K C cd)∧H₀ ea=none∧E (.ref C) od (del H1 ea)
section
variable{X:Cx}
theorem fP{e:Expr}{te:TE}{pos:Pos}{E:XK}(hc:X.calm=true)(hx:L7 X E)(he:PE X e te):PS X (.Raise (some e) none pos) (Vg X.H₀ X.K E te):=by
 intro pins s σ H D I h;refine Pp (K:=X.K) (I.ok.hd hc) (thn (he pins s σ H _ I h) λu s1 ⟨v,H1,I1,r,ea,C,od,ev,h1,⟨cd,xc⟩,h0,q⟩=>?_);subst ev;obtain rfl:u=Value.ref ea:=r;obtain⟨fs,sl,a0,z,ha,hf⟩:=Ke I1.hok h1;exact⟨ea,C,cd,od,fs,sl,rfl,z,hf rfl,xc,I1.kIn,hx pins σ H1 s1 ea C od I1 h1 h0 q⟩
noncomputable def kB(CX:CXT)(X:Cx)(EK:St→XK):Prop:=∀(pins:List (Addr×Obj)) (σ:St) (H:Hp) (s:Shared) (e:Value) (s':Shared),Inv X pins σ H s→CX X.stack H s (EK σ) e s'→X.xe e s'
theorem Passes.x{CX:CXT}{E:XK}(h:Passes CX X E):kB CX X (λ_=>E):=λpins σ H s e s' I q=>h pins σ H s e s' I q
noncomputable def Uj(sp:Sp)(dvs:List V)(EK:St→XK)(t:TA):TE:=λσ H Q=>t σ H λvs H1=>sp (vs++dvs) H1 Q (EK σ)
noncomputable def Uk(C:Addr)(m:Str)(sp:Sp)(dvs:List V)(EK:St→XK)(ta:TE)(t:TA):TE:=λσ H Q=>ta σ H λx H1=>∃ a dx fs,x=.ref a∧H1 a=some (.ins C dx fs)∧fs.lookup m=none ∧
 t σ H1 λvs H2=>sp (x::(vs++dvs)) H2 Q (EK σ)
noncomputable def aiq(C:Addr)(sp:Sp)(EK:St→XK)(t:TA):TE:=λσ H Q=>t σ H λvs H1=>∀ ea,H1 ea=none→sp (.ref ea::vs) (upd H1 ea (exo true C ea none)) (λv H2=>v=.non∧Q (.ref ea) H2) (EK σ)
variable{CX:CXT}{k:Nat}{f C:Addr}{fd:FuncData}{ps:List Str}{sp:Sp}{dvs:List V}{ds:List Value}{EK:St→XK}{x m:Str}{p pos apos:Pos}{e o:Expr}{es:List Expr}{ta:TE}{t:TA}
theorem Ul{pins:List (Addr×Obj)}{σ:St}{H:Hp}{s:Shared}{Q:VK}{us:List Value}{vs:List V}(F:Bi X.prog X.w X.K X.mg X.base CX k f fd ps sp)(hr:nI k X.A)(hb:Binds X.K fd ps ds)(hd:Vals dvs ds)(hx:kB CX X EK)
  (I:Inv X pins σ H s) (r:Vals vs us) (h:sp (vs++dvs) H Q (EK σ)):wpAny (model X.prog X.w) X.A (call (.ref f) us) (EP X pins σ Q) X.xe s:=by
 have r2:Vals (vs++dvs) (us++ds):=r.append hd;have hl:(us++ds).length=ps.length:=by rw[←r2.length];exact F.len _ _ _ _ h
 refine wpAny_call (codeAny_mono (F.run X.A X.stack s H ⟨us,[]⟩ (us++ds) (vs++dvs) Q (EK σ) hr I.VH (hb s us I.kIn hl) r2 h) λr s' hq=>?_);cases r with
 | error e=>exact hx pins σ H s e s' I hq
 | ok fl =>
  cases fl with
  | ret u=>exact I.after hq
  | _=>exact False.elim hq
theorem aH(F:Bi X.prog X.w X.K X.mg X.base CX k f fd ps sp)(hr:nI k X.A)(hg:Gl X x)(hm:X.mg x=some (.ref f))(hk:PySem.W.keepIn X.K (.ref f)=true)(hb:Binds X.K fd ps ds)(hd:Vals dvs ds)(hx:kB CX X EK)
  (ha:PA X (e::es) t) (hdb:(x == ("__debug__" : Str))=false:=by decide) (he:starEach (e::es) X.env=(false,eval e X.env)::starEach es X.env:=by rfl) (hpl:(backTo pos (starEach es X.env)).any (·.1)=false:=by rfl) :
  PE X (.Call (.Name x p) (e::es) [] pos) (Uj sp dvs EK t):=by
 intro pins s σ H Q I h;refine wpAny_Call_Name_kw (tT I hg hm ?_ hdb);exact PySem.W.callWith_K (h₀:=X.base) I.ok.mod.kin hk (thn (ha pos pins s σ H _ I h) λus s1 ⟨vs,H1,I1,r,q⟩=>⟨I1.kIn,Ul F hr hb hd hx I1 r q⟩) he hpl
theorem aK{pl:Sem Bool}(he:PE X o ta)(c:Cls X.K C)(hm:Meth X.K C m f)(F:Bi X.prog X.w X.K X.mg X.base CX k f fd ps sp)(hr:nI k X.A)(hb:Binds X.K fd ps ds)(hd:Vals dvs ds)(hx:kB CX X EK)(ha:PA X (e::es) t)
  (hst:starEach (e::es) X.env=(false,eval e X.env)::starEach es X.env:=by rfl) (hpl:(backTo pos (starEach es X.env)).any (·.1)=false:=by rfl)
  (ht:eval (.Call (.Attribute o m apos) (e::es) [] pos) X.env=(do
   let ov ←eval o X.env
   standAt apos.atName
   let (f,first) ←holding [ov] (getMethod ov m pl)
   callWith pos f first (backTo pos (starEach (e::es) X.env)) (backToKw pos (keywordEach [] X.env))):=by rfl) :
  PE X (.Call (.Attribute o m apos) (e::es) [] pos) (Uk C m sp dvs EK ta t):=by
 intro pins s σ H Q I h;refine PySem.W.methodCall_KW (pl:=pl) (thn (he pins s σ H _ I h) λu s1 ⟨x,H1,I1,rx,a,dx,fs,ex,ea,l,q⟩=>?_) ht;subst ex;obtain rfl:u=Value.ref a:=rx;refine Fc I1 ea c hm l ?_;exact PySem.W.callWith_K (first:=[.ref a]) (h₀:=X.base) I.ok.mod.kin hm.kp (thn (ha pos pins s1 σ H1 _ I1 q) λus s2 ⟨vs,H2,I2,r,q2⟩=>⟨I2.kIn,Ul (us:=.ref a::us) (vs:=.ref a::vs) F hr hb hd hx I2 (.cons rfl r) q2⟩) hst hpl
theorem bM{pl:Sem Bool}(he:PE X o ta)(c:Cls X.K C)(hm:Meth X.K C m f)(F:Bi X.prog X.w X.K X.mg X.base CX k f fd ps sp)(hr:nI k X.A)(hb:Binds X.K fd ps ds)(hd:Vals dvs ds)(hx:kB CX X EK)
  (ht:eval (.Call (.Attribute o m apos) [] [] pos) X.env=(do
   let ov ←eval o X.env
   standAt apos.atName
   let (f,first) ←holding [ov] (getMethod ov m pl)
   callWith pos f first (backTo pos (starEach [] X.env)) (backToKw pos (keywordEach [] X.env))):=by rfl) :
  PE X (.Call (.Attribute o m apos) [] [] pos) (Uk C m sp dvs EK ta VG):=by
 intro pins s σ H Q I h;refine PySem.W.methodCall_KW (pl:=pl) (thn (he pins s σ H _ I h) λu s1 ⟨x,H1,I1,rx,a,dx,fs,ex,ea,l,q⟩=>?_) ht;subst ex;obtain rfl:u=Value.ref a:=rx;refine Fc I1 ea c hm l ?_;exact PySem.W.callWith_K0 (first:=[.ref a]) I1.kIn hm.kp (Ul (us:=[.ref a]) (vs:=[.ref a]) F hr hb hd hx I1 (.cons rfl .nil) q)
structure MkX(K:W.Frag)(C f:Addr):Prop where
 cls:∃ cd,i8 K C cd
 init:PySem.W.findIn K (.ref C) "__init__" = some (some (.ref f))
 fn:PySem.W.isFn K (.ref f)=true
 kp:PySem.W.keepIn K (.ref C)=true
theorem Tf{pins:List (Addr×Obj)}{σ:St}{H:Hp}{s:Shared}{Q:VK}{us:List Value}{vs:List V}(M:MkX X.K C f)(F:Bi X.prog X.w X.K X.mg X.base CX k f fd ps sp)(hr:nI (k+1) X.A)(hb:Binds X.K fd ps [])(hx:kB CX X EK)(hps:ps.length≤1000)
  (I:Inv X pins σ H s) (r:Vals vs us) (h:∀ ea,H ea=none→sp (.ref ea::vs) (upd H ea (exo true C ea none)) (λv H2=>v=.non∧Q (.ref ea) H2) (EK σ)) :
  wpAny (model X.prog X.w) X.A (call (.ref C) us) (EP X pins σ Q) X.xe s:=by
 have hq:=h (s.heap.objs.size+1) (I.hok.fresh (akD _));obtain⟨cd,xc⟩:=M.cls;have r2:Vals (V.ref (s.heap.objs.size+1)::vs) (Value.ref (s.heap.objs.size+1)::us):=.cons rfl r;have hl:(Value.ref (s.heap.objs.size+1)::us).length=ps.length:=by rw[←r2.length];exact F.len _ _ _ _ hq
 have hz:us.length≤sizeLine:=by rw[ajE]at hl;rw[sizeLine_eq];omega
 have I2:Inv X pins σ (upd H (s.heap.objs.size+1) (exo true C (s.heap.objs.size+1) none)) {s with heap:=ra s.heap C us}:=by
  refine I.laid (t':=s.toks) (λb u q=>aja _ (aja _ q)) (akD _) (Rt ⟨#[.ref s.heap.objs.size,.none,.none,.none,.bool false,.none],#[],s.heap.objs.size,?_,rfl,λ_=>rfl⟩);show(ra s.heap C us).get? (s.heap.objs.size+1)=some (Ob C s.heap.objs.size);heap_get
 obtain⟨hh,g,d,tk,os⟩:=s;refine wpAny_call (QR xc I.kIn M.init (beq_iff_eq.mp M.fn) hz (codeAny_mono (F.run _ X.stack _ _ ⟨Value.ref (hh.objs.size+1)::us,[]⟩ (Value.ref (hh.objs.size+1)::us) _ _ (EK σ) (hr.make C us []) (I2.VH.make C us [])
  (by have:=hb _ (Value.ref (hh.objs.size+1)::us) I2.kIn (by rw[ajV];exact hl);rw[ajV]at this;exact this) r2 hq) λr s' hq'=>?_))
 cases r with
 | error e=>exact hx pins σ _ _ e s' I2 hq'
 | ok fl =>
  cases fl with
  | ret u =>
   obtain⟨v,H',I3,rv,ev,q3⟩:=I2.after hq';subst ev;exact⟨rv,⟨V.ref (hh.objs.size+1),H',I3,rfl,q3⟩⟩
  | _=>exact False.elim hq'
theorem kA(M:MkX X.K C f)(F:Bi X.prog X.w X.K X.mg X.base CX k f fd ps sp)(hr:nI (k+1) X.A)(hg:Gl X x)(hm:X.mg x=some (.ref C))(hb:Binds X.K fd ps [])(hx:kB CX X EK)
  (ha:PA X (e::es) t) (hps:ps.length≤1000:=by decide) (hdb:(x == ("__debug__" : Str))=false:=by decide) (he:starEach (e::es) X.env=(false,eval e X.env)::starEach es X.env:=by rfl) (hpl:(backTo pos (starEach es X.env)).any (·.1)=false:=by rfl) :
  PE X (.Call (.Name x p) (e::es) [] pos) (aiq C sp EK t):=by
 intro pins s σ H Q I h;refine wpAny_Call_Name_kw (tT I hg hm ?_ hdb);exact PySem.W.callWith_K (h₀:=X.base) I.ok.mod.kin M.kp (thn (ha pos pins s σ H _ I h) λus s1 ⟨vs,H1,I1,r,q⟩=>⟨I1.kIn,Tf M F hr hb hx hps I1 r q⟩) he hpl
end
theorem QS{H:Hp}{a:Addr}{o:HO}(h:H a=some o):upd H a o=H:=by
 funext b
 by_cases e:b=a
 ·rw[e,ah,h]
 ·rw[af e]
section
variable{X:Cx}
noncomputable def tVe(K:W.Frag)(t:TA):TE:=λσ H Q=>t σ H λvs H1=>∃ ea C od r,vs=.ref ea::r∧r.length≤1000∧H1 ea=some (exo true C ea od)∧(∃ cd,i8 K C cd)∧Q .non H1
theorem X8{p apos pos:Pos}{e:Expr}{es:List Expr}{t:TA}{pl:Sem Bool}(hg:Gl X "ValueError")(hm:X.mg "ValueError" = none)(ha:PA X (e::es) t)
  (hst:starEach (e::es) X.env=(false,eval e X.env)::starEach es X.env:=by rfl) (hpl:(backTo pos (starEach es X.env)).any (·.1)=false:=by rfl)
  (ht:eval (.Call (.Attribute (.Name "ValueError" p) "__init__" apos) (e::es) [] pos) X.env=(do
   let ov ←eval (.Name "ValueError" p) X.env
   standAt apos.atName
   let (f,first) ←holding [ov] (getMethod ov "__init__" pl)
   callWith pos f first (backTo pos (starEach (e::es) X.env)) (backToKw pos (keywordEach [] X.env))):=by rfl) :
  PE X (.Call (.Attribute (.Name "ValueError" p) "__init__" apos) (e::es) [] pos) (tVe X.K t):=by
 intro pins s σ H Q I h;refine PySem.W.methodCall_KW (pl:=pl) (FW I hg hm PyProof.Rows.Boot.«ValueError» ?_) ht;refine Td I.kIn ?_;refine PyProof.Rows.callWith_builtin1 (thn (ha pos pins _ σ H _ (I.tok _) h) λus s1 ⟨vs,H1,I1,r,ea,C,od,rr,ev,hl,h1,⟨cd,xc⟩,q⟩=>?_) hst hpl;subst ev;cases r with
 | @cons _ u _ us' r1 r2 =>
 obtain rfl:u=Value.ref ea:=r1;obtain⟨fs,sl,a0,z,ha,hf⟩:=Ke I1.hok h1;have hz:us'.length≤sizeLine:=by rw[←r2.length,sizeLine_eq];omega
 have I2:Inv X pins σ H1 {s1 with heap:=s1.heap.push (wc us')}:=I1.kept (t':=s1.toks) λb u q=>aja _ q;have z2:=aja (h:=s1.heap) (wc us') z;have hs0:0<fs.size:=(ajw.mp ha).1;have I3:Inv X pins σ (upd H1 ea (exo true C ea od)) {s1 with heap:=(s1.heap.push (wc us')).update ea (Obj.mapFields (·.setIfInBounds 0 (.ref s1.heap.objs.size)))}:=by
  refine I2.write (x:=ea) (e:=ea) (t':=s1.toks) (by rw[h1];exact True.intro) (.inl rfl) (λb u hb q=>(ajF _ _ (ajm hb)).trans q) ⟨_,Bk z2⟩ (Rt ⟨_,_,s1.heap.objs.size,Bk z2,by simp[hs0],λ_=>?_⟩)
  have:=hf rfl
  simpa using this
 rw[QS h1]at I3;obtain⟨hh,g,d,tk,os⟩:=s1;exact KL xc I1.kIn z ha hz ⟨.non,H1,I3,rfl,q⟩
noncomputable abbrev TF:=St→Hp→(Hp→Prop)→Prop
noncomputable def PF(X:Cx)(e:Expr)(t:TF):Prop :=
 ∀(pins:List (Addr×Obj)) (s:Shared) (σ:St) (H:Hp) (Q:Hp→Prop),Inv X pins σ H s→t σ H Q→wpAny (model X.prog X.w) X.A (eval e X.env) (λv s1=>∃ y tk H1,v=.str y tk∧y.length≤2000∧Inv X pins σ H1 s1∧Q H1) X.xe s
noncomputable def PFs(X:Cx)(es:List Expr)(t:TF):Prop :=
 ∀(out:Str) (pins:List (Addr×Obj)) (s:Shared) (σ:St) (H:Hp) (Q:V→Hp→Prop),out.length+2000*es.length≤100000→Inv X pins σ H s→t σ H (λH1=>∀ y,y.length≤100000→Q (.str y) H1) →
  wpAny (model X.prog X.w) X.A (joinParts out (evalEach es X.env)) (EP X pins σ Q) X.xe s
noncomputable def Um:TF:=λ_ H Q=>Q H
noncomputable def air(te:TE):TF:=λσ H Q=>te σ H λv H1=>∃ i,v=.int i∧i.natAbs.log2<1920∧Q H1
noncomputable def Vh(t u:TF):TF:=λσ H Q=>t σ H λH1=>u σ H1 Q
theorem L8:(100000:Nat)≤sizeLine:=by rw[sizeLine_eq];omega
theorem gT{x j pos}(hl:x.length≤2000:=by decide +kernel):PF X (.Constant (.str x) j pos) Um:=λ_ _ _ H _ I h=>Calls.Constant_str ⟨_,_,H,rfl,hl,I.tok _,h⟩
theorem lM{e:Expr}{te:TE}{pos:Pos}(he:PE X e te):PF X (.FormattedValue e (-1) none pos) (air te):=by
 intro pins s σ H Q I h;refine FormattedValue_plain (thn (he pins s σ H _ I h) λu s1 ⟨v,H1,I1,r,i,ev,hi,q⟩=>?_);subst ev;obtain⟨t,rfl⟩:=(show ∃ t,u=Value.int i t from r);exact formatField_int_small hi ⟨_,_,H1,rfl,ajy (int_text_len_1921 hi) (by decide),I1.tok _,q⟩
theorem js:PFs X [] Um:=λout pins s σ H Q hl I h =>
 joinParts_nil ⟨.str out,H,I.tok _,⟨_,rfl⟩,h out (by simpa using hl)⟩ (ajy (by simpa using hl) L8)
theorem br{e:Expr}{es:List Expr}{t u:TF}(h1:PF X e t)(h2:PFs X es u):PFs X (e::es) (Vh t u):=by
 intro out pins s σ H Q hl I h;rw[ajE]at hl;refine joinParts_consE (joinParts_cons (thn (h1 pins s σ H _ I h) λv s1 ⟨y,tk,H1,ev,hy,I1,q⟩=>?_));subst ev;have hz:(out++y).length+2000*es.length≤100000:=by rw[strLen_append];omega
 exact⟨ajy (by omega) L8,h2 (out++y) pins s1 σ H1 Q hz I1 q⟩
noncomputable def X9(t:TF):TE:=λσ H Q=>t σ H λH1=>∀ y,y.length≤100000→Q (.str y) H1
theorem jt{e e':Expr}{es:List Expr}{t:TF}{pos:Pos}(h:PFs X (e::e'::es) t)(hl:2000*(e::e'::es).length≤100000:=by decide):PE X (.JoinedStr (e::e'::es) pos) (X9 t) :=
 λpins s σ H Q I q=>JoinedStr_many (h Str.empty pins s σ H Q (by have z:Str.empty.length=0:=rfl;rw[z];omega) I q)
end
noncomputable abbrev Cx.Km(X:Cx)(pins:List (Addr×Obj))(E:Value→Shared→Prop):Cx:={X with xe:=E,pn:=X.pn++pins}
noncomputable abbrev Cx.AX(X:Cx)(ea:Addr):Cx:={X with A:=X.A.mark (some (.ref ea)),calm:=false,xe:=λ_ _=>False}
section
variable{X:Cx}{pins:List (Addr×Obj)}{σ:St}{H:Hp}{s:Shared}{E:Value→Shared→Prop}{ea:Addr}
theorem Inv.Km(I:Inv X pins σ H s)(E:Value→Shared→Prop):Inv (X.Km pins E) [] σ H s :=
 ⟨⟨I.ok.mod,I.ok.kind,I.ok.glob,I.ok.blt,I.ok.above,I.ok.inj,I.ok.has,I.ok.cab,I.ok.hd,I.ok.frames,I.ok.stk,I.ok.exf,I.ok.bs,I.ok.bsz,I.ok.Oi,I.ok.Qq,I.ok.D3,I.ok.frf⟩,
  I.os,I.bare,I.base,I.loc,I.cell,I.free,I.qg,λp hp=>I.pin p (by simpa using hp),I.hok,I.len⟩
theorem Inv.Bl{MU:List (Addr×Obj)}(I:Inv (X.Km pins E) MU σ H s):Inv X pins σ H s :=
 ⟨⟨I.ok.mod,I.ok.kind,I.ok.glob,I.ok.blt,I.ok.above,I.ok.inj,I.ok.has,I.ok.cab,I.ok.hd,I.ok.frames,I.ok.stk,I.ok.exf,I.ok.bs,I.ok.bsz,I.ok.Oi,I.ok.Qq,I.ok.D3,I.ok.frf⟩,
  I.os,I.bare,I.base,I.loc,I.cell,I.free,I.qg,λp hp=>I.pin p (ajD _ hp),I.hok,I.len⟩
theorem Inv.AX(I:Inv X pins σ H s)(ea:Addr):Inv (X.AX ea) pins σ H s :=
 ⟨⟨I.ok.mod,I.ok.kind,I.ok.glob,I.ok.blt,I.ok.above,I.ok.inj,I.ok.has,I.ok.cab,(λz=>nomatch z),I.ok.frames,I.ok.stk,I.ok.exf,I.ok.bs,I.ok.bsz,I.ok.Oi,I.ok.Qq,I.ok.D3,I.ok.frf⟩,
  I.os,I.bare,I.base,I.loc,I.cell,I.free,I.qg,I.pin,I.hok,I.len⟩
theorem Inv.uncaught{Y:Cx}(I:Inv (Y.AX ea) pins σ H s)(ok:Y.Ok):Inv Y pins σ H s:=⟨ok,I.os,I.bare,I.base,I.loc,I.cell,I.free,I.qg,I.pin,I.hok,I.len⟩
end
section
variable{X:Cx}
end
section
variable{X:Cx}
end
theorem aE.upd{H:Hp}{a:Addr}{o:HO}(h:H a=none):aE H (L2.upd H a o):=λb u q=>by rw[af λe=>by rw[e,h]at q;cases q];exact q
structure Kf(K:W.Frag)(C:Addr):Prop where
 cls:∃ cd,i8 K C cd
 get:aio K C
 own:PySem.W.findIn K (.ref C) "__class__" = some (some (.builtin "object.__class__"))
noncomputable def Bn(K:W.Frag):Sp:=λvs H Q _=>∃ ea C od x,vs=[.ref ea,x]∧H ea=some (exo true C ea od)∧(∃ cd,i8 K C cd)∧Q .non H
theorem bG{P:Program}{w:World}{X:Cx}:kB (CXE P w) X.nox (λ_ _ _ _=>False):=λ_ _ _ _ _ _ _ ⟨_,_,_,_,_,_,_,_,_,q⟩=>q.elim
theorem HN{n:Int}(h:n.natAbs<2 ^ 1920):n.natAbs.log2<1920:=by
 by_cases z:n.natAbs=0
 ·rw[z];decide
 ·exact(Nat.log2_lt z).mpr h
theorem Yb{P:Program}{w:World}{outer:List Env}{H:Hp}{s:Shared}{e:Value}{s':Shared}(h:CXE P w outer H s (λ_ _ _=>False) e s'):False:=by
 obtain⟨_,_,_,_,_,_,_,_,_,q⟩:=h;exact q
noncomputable def Sg(xs ys:List V):Bool:=(List.range xs.length).all λj=>eqV (xs.getD j .non) (ys.getD j .non)
section
variable{X:Cx}
variable{o e value:Expr}{f:Str}{pos pos':Pos}{ta tv:TE}
structure Uo(K:W.Frag)(C:Addr)(m:Str)(f:Addr):Prop where
 rd:PySem.W.readsIn K C (.type "type")=true
 fc:PySem.W.findCls K (.ref C) (.type "type") m=some (.val (.ref f))
 ga:PySem.W.specialIn K (.ref C) "__getattribute__" = some (some (.builtin "type.__getattribute__"))
 kp:PySem.W.keepIn K (.ref f)=true
theorem Vi{CX:CXT}{k:Nat}{f C:Addr}{fd:FuncData}{ps:List Str}{sp:Sp}{EK:St→XK}{x m:Str}{p apos pos:Pos}{e:Expr}{es:List Expr}{t:TA}{pl:Sem Bool}(hg:Gl X x)(hm:X.mg x=some (.ref C))(c:Uo X.K C m f)(F:Bi X.prog X.w X.K X.mg X.base CX k f fd ps sp)(hr:nI k X.A)(hb:Binds X.K fd ps [])
  (hx:kB CX X EK) (ha:PA X (e::es) t) (hdb:(x == ("__debug__" : Str))=false:=by decide) (hst:starEach (e::es) X.env=(false,eval e X.env)::starEach es X.env:=by rfl) (hpl:(backTo pos (starEach es X.env)).any (·.1)=false:=by rfl)
  (ht:eval (.Call (.Attribute (.Name x p) m apos) (e::es) [] pos) X.env=(do
   let ov ←eval (.Name x p) X.env
   standAt apos.atName
   let (f,first) ←holding [ov] (getMethod ov m pl)
   callWith pos f first (backTo pos (starEach (e::es) X.env)) (backToKw pos (keywordEach [] X.env))):=by rfl) :
  PE X (.Call (.Attribute (.Name x p) m apos) (e::es) [] pos) (Uj sp [] EK t):=by
 intro pins s σ H Q I h;refine PySem.W.methodCall_KW (pl:=pl) (tT I hg hm ?_ hdb) ht;refine PySem.W.method_cls I.kIn c.ga (PySem.W.cls_value I.kIn c.rd c.fc rfl ?_);exact PySem.W.callWith_K (first:=[]) (h₀:=X.base) I.ok.mod.kin c.kp (thn (ha pos pins _ σ H _ (I.tok _) h) λus s1 ⟨vs,H1,I1,r,q⟩=>⟨I1.kIn,Ul F hr hb .nil hx I1 r q⟩) hst hpl
end
theorem AL{prog:Program}{w:World}{A:Around}{R:Result→Shared→Prop}{s:Shared}{elt target iter:Expr}{scope:Scope}{pos:Pos}{it acc:Value}{env:Env}(I:Nat→Shared→Prop)
  (turn:∀ n s,I n s→wpAny (model prog w) A (pyNext it) (λr s₁=>match r with
   | none=>R (.ok .next) s₁
   | some v=>wpAny (model prog w) A (letOwnedTupleGo target it v) (λ_ s5=>wpAny (model prog w) A (assign target env v) (λ_ s₂=>wpAny (model prog w) A (eval elt env) (λx s₃ =>
     wpAny (model prog w) A (call (.builtin "list.append") [acc,x]) (λ_ s₄=>∃ m,m<n∧I m s₄) (notedBy (model prog w) A env λe s'=>R (.error e) s') s₃)
     (notedBy (model prog w) A env λe s'=>R (.error e) s') s₂) (notedBy (model prog w) A env λe s'=>R (.error e) s') s5) (notedBy (model prog w) A env λe s'=>R (.error e) s') s₁) (notedBy (model prog w) A env λe s'=>R (.error e) s') s)
  (n:Nat) (h:I n s):codeAny (model prog w) A (.compLoop (.ListComp elt [⟨target,iter,[],0⟩] scope pos) 0 it acc env) R s:=by
 refine codeAny_loop rfl I (λn s hI=>?_) n h;show wpAny _ _ ((compTurn (.ListComp elt [⟨target,iter,[],0⟩] scope pos) 0 it acc env).onRaise (λx=>do noteFrame x env;theTreesLotGoes x)) _ _ s
 refine wpAny_noted ?_;rw[compTurn_list1];refine wpAny_bind (wpAny_standAt (wpAny_bind (wpAny_mono (turn n s hI) (λr s₁ h₁=>?_) λ_ _ h'=>h')));cases r with
 | none=>exact wpAny_pure h₁
 | some v =>
  refine wpAny_bind (wpAny_mono h₁ (λ_ s5 h5=>?_) λ_ _ h'=>h');exact wpAny_bind (wpAny_mono h5 (λ_ s₂ h₂=>wpAny_bind (wpAny_bind (wpAny_mono h₂ (λx s₃ h₃=>wpAny_bind (wpAny_mono h₃
   (λ_ s₄ h₄=>wpAny_pure (wpAny_pure ⟨rfl,h₄⟩)) λ_ _ h'=>h')) λ_ _ h'=>h'))) λ_ _ h'=>h')
noncomputable abbrev cxC(X:Cx)(scope:Scope)(cl:List (Str×Addr))(NC:List Str)(C:Addr)(fp:List Addr)(s₀:Shared)(H₀:Hp):Cx :=
 {X with N:=NC,s₀:=s₀,H₀:=H₀,env:=compEnvC scope cl C X.env,outer:=X.stack,ex:=fp,fn:=λ_=>false,pn:=[],xe:=λ_ _=>False}
noncomputable def yo(σ:St)(idx:List Nat):St:=idx.map λi=>(σ[i]?).getD none
structure DY(X:Cx)(scope:Scope)(cl:List (Str×Addr))(x:Str)(idx:List Nat)(NC:List Str):Prop where
 Xu:closureFor scope X.env=pure cl
 sub:∀ y c,cl.lookup y=some c→X.env.cells.lookup y=some c
 has:∀ y,((relabel scope X.env).names.lookup y=some .cell∨(relabel scope X.env).names.lookup y=some .free)→∃ c,cl.lookup y=some c
 Od:∀ y∈scope.names,y.2≠.cell
 kind:scope.kind=.function
 loc:∀ y∈scope.names,y.2=.local→scope.names.lookup y.1=some .local
 xl:scope.names.lookup x=some .local
 nc:NC=x::idx.map λi=>X.N.getD i x
 nd:NC.Nodup
 cap:∀ i∈idx,i<X.N.length∧((X.env.scope.names.lookup (X.N.getD i x)=some .cell∨X.env.scope.names.lookup (X.N.getD i x)=some .free)∧((relabel scope X.env).names.lookup (X.N.getD i x)=some .cell∨(relabel scope X.env).names.lookup (X.N.getD i x)=some .free))
section
variable{X:Cx}{scope:Scope}{cl:List (Str×Addr)}{x:Str}{idx:List Nat}{NC:List Str}{C:Addr}{fp:List Addr}{pins:List (Addr×Obj)}{σ:St}{H:Hp}{s:Shared}
theorem FL{h1:Heap}{t':Nat}(c:DY X scope cl x idx NC)(I:Inv X pins σ H s)(hf:∀ b∈fp,D4 X pins H b)(hlt:∀ b∈fp,b<s.heap.objs.size)(ns:h1.Ns s.heap.objs.size (λ_=>none))
  (k:∀ b o,s.heap.get? b=some o→h1.get? b=some o):Inv (cxC X scope cl NC s.heap.objs.size fp s H) [] (none::yo σ idx) H {s with heap:=h1,toks:=t'}:=by
 have sub:∀ b,b∈frs X.stack→b∈X.env.locals::X.fs:=I.AV;refine⟨⟨I.ok.mod,c.kind,I.ok.glob,I.ok.blt,ajb _,λy z a h1 h2=>I.ok.inj y z a (c.sub _ _ h1) (c.sub _ _ h2),c.has,λy a z=>(by cases z),I.ok.hd,I.ok.frames,.inl rfl,λb hb=>⟨ajl (hlt b hb),λy a q=>(hf b hb).2.2.2.2.1 y a (c.sub _ _ q)⟩,
  λb o q=>I.bs b o q,ajy I.ok.bsz I.sz,λb o q hb=>?_,λb hb z=>?_,I.stack,I.Bg⟩,rfl,I.bare,Un.kept k,⟨_,ns,λi y v e1 e2 e3=>?_⟩,λy a q=>?_,I.hok.fresh (ajb _),λy a q=>I.qg _ _ (c.sub _ _ q),λp hp=>(by cases hp),I.hok.keeps λb u o _ q=>k b o q,?_⟩
 ·rcases(hf b hb).2.2.2.1 with z|z
  ·exact I.ok.Oi b o q z
  ·exact absurd (ajn (ajg (I.ok.bs b o q).1) z) (ake _)
 ·rcases ajo.mp (sub b z) with r|r
  ·exact(hf b hb).2.1 r
  ·exact(hf b hb).2.2.1 r
 ·cases i with
  | zero=>cases e2
  | succ j =>
   have e1':(idx.map λi=>X.N.getD i x)[j]?=some y:=by
    have:(cxC X scope cl NC s.heap.objs.size fp s H).N=NC:=rfl
    rw[this,c.nc]at e1;exact e1
   have e2':(yo σ idx)[j]?=some (some v):=e2;rw[ajh]at e1';unfold yo at e2';rw[ajh]at e2';cases ei:idx[j]? with
   | none=>rw[ei]at e1';cases e1'
   | some i =>
    rw[ei]at e1' e2';simp only[aj4,Option.some.injEq]at e1' e2';obtain⟨hi,h2,h3⟩:=c.cap i (aje ei);rw[e1']at h2 h3;have hN:X.N[i]?=some y:=by
     rw[←e1'];simp[List.getD,ai7 hi]
    have hσ:σ[i]?=some (some v):=by
     cases q:σ[i]? with
     | none=>rw[q]at e2';cases e2'
     | some o=>rw[q]at e2';simp only[Option.getD_some]at e2';rw[e2']
    obtain⟨m,hn,hl⟩:=I.loc;obtain⟨u,r,l⟩:=hl i y v hN hσ (h2.elim (λz=>.inr (.inl z)) λz=>.inr (.inr z));refine⟨u,r,.inr ⟨h3,?_⟩⟩;rcases l with⟨l,_⟩|⟨_,a,ha,hc⟩
    ·exfalso
     have l':X.env.scope.names.lookup y=some .local:=l;rcases h2 with z|z<;>(rw[l']at z;cases z)
    ·obtain⟨a',ha'⟩:=c.has y h3
     have:=c.sub _ _ ha'
     rw[ha]at this;cases this;exact⟨a,ha',hc.keeps k⟩
 ·obtain⟨v,z⟩:=I.cell _ _ (c.sub _ _ q)
  exact⟨v,z.keeps k⟩
 ·show _=NC.length
  rw[c.nc];simp[yo]
noncomputable def Kn(J:It)(D:Addr)(τ:St)(te:TE)(Q:VK)(H:Hp):Prop:=∃ W:Nat→Nat→List V→Hp→Prop,(∃ m,W 0 m [] H)∧∀ i m ys H2,W i m ys H2→H2 D=some (.lst ys) ∧
 ((J.stop i H2∧Q (.ref D) H2)∨(J.go i H2∧ys.length<sizeLine∧∃ N:List V→Hp→Prop,(∀ zs H',N zs H'→∃ m',m'<m∧W (i+1) m' zs H')∧∀ y H3,J.yld i H2 y H3→te (some y::τ) H3 λv H4=>H4 D=some (.lst ys)∧N (ys++[v]) (upd H4 D (.lst (ys++[v])))))
noncomputable def Up(wi:TI)(idx:List Nat)(te:TE):TE:=λσ H Q=>wi σ H λJ H1=>∀ D,H1 D=none→Kn J D (yo σ idx) te Q (upd H1 D (.lst []))
theorem FO{X:Cx}{pins:List (Addr×Obj)}{σ:St}{H:Hp}{s:Shared}{D:Addr}{ys:List V}{v:V}{u:Value}(I:Inv X pins σ H s)(h:H D=some (.lst ys))(hz:ys.length<sizeLine)(r:RelV v u) :
  wpAny (model X.prog X.w) X.A (call (.builtin "list.append") [.ref D,u]) (λ_ s'=>Inv X pins σ (upd H D (.lst (ys++[v]))) s') X.xe s:=by
 refine thn (vR pins s σ H (.ref D) [v] (.ref D) [u] (λ_ H'=>H'=upd H D (.lst (ys++[v]))) I rfl (.cons r .nil) ⟨D,ys,v,rfl,rfl,h,hz,rfl⟩) λw s' ⟨_,H',I',_,e⟩=>?_;rw[←e];exact I'
theorem rb{elt iter:Expr}{px pos:Pos}{wi:TI}{te:TE}(c:DY X scope cl x idx NC)(hc:X.calm=true)(hi:PI X (.Name x px) iter wi)(he:∀ C fp s₀ H₀,PE (cxC X scope cl NC C fp s₀ H₀) elt te)
  (hs:∀ x,foldedSetIterable iter X.env x=pure x:=by intro _;rfl):PE X (.ListComp elt [⟨.Name x px,iter,[],0⟩] scope pos) (Up wi idx te):=by
 intro pins s σ H Q I h;rw[eval_ListComp];refine wpAny_comprehension_free (use:=none) rfl hs c.Xu c.kind c.loc (thn (hi pins s σ H _ I h) λv s1 h1=>thn h1 λitv s2 h2=>?_);obtain⟨it,fp,tn,J,H2,rfl,I2,T,st2,f2,q⟩:=h2;refine wpAny_newObj_type (wpAny_newFunctionEnv c.Od (by intro y hy;simp at hy) (λh₁ hns₁ hsb₁=>?_) c.kind);dsimp only at hns₁ hsb₁ ⊢;have I3:Inv X pins σ (upd H2 s2.heap.objs.size (.lst [])) {s2 with heap:=s2.heap.push {cls:=.type "list",data:=.seq ([]:List Value).toArray},toks:=s2.toks}:=I2.Uc (ys:=[]) (its:=[]) .nil (ajM _);obtain⟨W,⟨m0,w0⟩,turn⟩:=q s2.heap.objs.size I2.fresh;generalize hD:s2.heap.objs.size=D at *;generalize hH:s2.heap.push {cls:=.type "list",data:=.seq ([]:List Value).toArray}=h3 at *;have Ow:∀ b∈fp,b<D:=λb hb=>by
  obtain⟨o,e,_⟩:=T.obj _ _ st2 b hb;rw[←hD];exact ajg e
 have hlt:∀ b∈fp,b<h3.objs.size:=λb hb=>by
  rw[←hH,akr,hD];exact akE (Ow b hb)
 have hf:∀ b∈fp,D4 X pins (upd H2 D (.lst [])) b:=λb hb=>⟨by rw[af (ajl (Ow b hb))];exact(f2 b hb).1,(f2 b hb).2⟩;have kp:∀ b o,h3.get? b=some o→h₁.get? b=some o:=λb o e=>hsb₁.extBut b o (ajl (ajg e)) (aja _ e);have I4:Inv (cxC X scope cl NC h3.objs.size fp {s2 with heap:=h3,toks:=s2.toks} (upd H2 D (.lst []))) [] (none::yo σ idx) (upd H2 D (.lst [])) {s2 with heap:=h₁,toks:=s2.toks+([]:List (Str×Value)).length} :=
  FL (s:={s2 with heap:=h3,toks:=s2.toks}) c I3 hf hlt hns₁ kp
 have D5:∀ {H':Hp},(∀ b∈fp,H' b=none)→∀ b∈fp,D4 (cxC X scope cl NC h3.objs.size fp {s2 with heap:=h3,toks:=s2.toks} (upd H2 D (.lst []))) [] H' b:=λhn b hb =>
  ⟨hn b hb,ajl (hlt b hb),λz=>(ajo.mp (I3.AV b z)).elim (hf b hb).2.1 (hf b hb).2.2.1,.inl hb,λy a q=>(hf b hb).2.2.2.2.1 y a (c.sub _ _ q),λp hp=>(by cases hp)⟩
 have st1:tn 0 h₁:=T.keep 0 _ _ st2 λb hb o e=>kp b o (by rw[←hH];exact aja _ e);have loop:∀ s4:Shared,s4={s2 with heap:=h₁,toks:=s2.toks+([]:List (Str×Value)).length} →
   codeAny (model X.prog X.w) X.A (.compLoop (.ListComp elt [⟨.Name x px,iter,[],0⟩] scope pos) 0 (.ref it) (.ref D) (compEnvC scope cl h3.objs.size X.env)) (compPost (model X.prog X.w) X.A X.xe none (EP X pins σ Q) (.ref D) h3.objs.size) s4:=by
  rintro s4 rfl;refine AL (λn s'=>∃ i ys H' v0,Inv (cxC X scope cl NC h3.objs.size fp {s2 with heap:=h3,toks:=s2.toks} (upd H2 D (.lst []))) [] (v0::yo σ idx) H' s'∧tn i s'.heap∧(∀ b∈fp,H' b=none)∧W i n ys H')
   ?_ m0 ⟨0,[],_,none,I4,st1,λb hb=>(hf b hb).1,w0⟩
  rintro n s5 ⟨i,ys,H5,v0,I5,st5,fr5,w5⟩;obtain⟨hDl,alt⟩:=turn i n ys H5 w5;rcases alt with⟨stop,qn⟩|⟨go,hz,N,hN,step⟩
  ·refine thn (T.done (cxC X scope cl NC h3.objs.size fp {s2 with heap:=h3,toks:=s2.toks} (upd H2 D (.lst []))) rfl rfl rfl hc i [] s5 _ H5 _ I5 (D5 fr5) st5 stop) λr s6 ⟨hr,I6⟩=>?_
   subst hr;obtain⟨m,ns6,_⟩:=id I6.loc;refine⟨m,ns6,λh' hs'=>⟨.ref D,H5,?_,rfl,qn⟩⟩;have J6:Inv X pins σ H5 s6:=I3.Kj (ch:=fp) I6.os I6.base I6.hok I6.bare λb hb=>⟨(hf b hb).2.2.2.1,(hf b hb).2.1,(hf b hb).2.2.2.2.1,(hf b hb).2.2.2.2.2⟩;refine J6.turned (t':=s6.toks) (it:=h3.objs.size) (λb o hb e=>hs'.extBut b o hb e) I6.free (akk I3.lt) (.inr I3.sz) (λy a q z=>?_) (λp hp z=>?_)
   ·obtain⟨v,q'⟩:=I3.cell y a q
    exact absurd q'.lt (by rw[z];exact ake _)
   ·exact absurd (ajg (I3.pin p hp).1) (by rw[z];exact ake _)
  ·refine thn (T.item (cxC X scope cl NC h3.objs.size fp {s2 with heap:=h3,toks:=s2.toks} (upd H2 D (.lst []))) rfl rfl rfl hc i [] s5 _ H5 _ I5 (D5 fr5) st5 go) λr s6 ⟨u,hr,h6⟩=>?_
   subst hr;refine thn h6 λ_ s7 ⟨y,H7,I7,r7,y7,st7,fr7⟩=>?_;have I7':=I7.pinned (D5 fr7) (T.obj _ _ st7);have hnl:(relabel scope X.env).names.lookup x=some .local:=lookup_relabel_local c.xl;refine wpAny_mono (a8 (X:=cxC X scope cl NC h3.objs.size fp {s2 with heap:=h3,toks:=s2.toks} (upd H2 D (.lst []))) (i:=0) (x:=x) (pos:=px) c.nd (by show NC[0]?=some x;rw[c.nc];rfl) (.inl hnl) (.inr hnl) _ s7 _ H7 y u
    (λσ' H'=>σ'=some y::yo σ idx∧H'=H7) I7' r7 ⟨rfl,rfl⟩) (λ_ s8 ⟨σ8,H8,I8,e8,e8'⟩=>?_) λ_ _ z=>z.elim
   subst e8 e8';refine wpAny_mono (he _ _ _ _ _ s8 _ H8 _ I8 (step y H8 y7)) (λw s9 ⟨v,H9,I9,r9,hD9,n9⟩=>?_) λ_ _ z=>z.elim;obtain⟨m',hm,w9⟩:=hN _ _ n9;refine wpAny_mono (FO (X:=(cxC X scope cl NC h3.objs.size fp {s2 with heap:=h3,toks:=s2.toks} (upd H2 D (.lst [])))) I9 hD9 hz r9) (λ_ s10 I10=>?_) λ_ _ z=>z.elim;refine⟨m',hm,i+1,ys++[v],_,some y,I10.nr,T.keep _ _ _ st7 λb hb o e=>(I10.pin (b,o) (ajf _ (ajf _ (gN hb e)))).1,λb hb=>?_,w9⟩;obtain⟨o,e,d⟩:=T.obj _ _ st7 b hb;exact(I10.pin (b,o) (ajf _ (ajf _ (gN hb e)))).2.1
 exact codeAny_compStart_list (loop _ rfl) (T.self _ 0 _ _ _ st1 (loop _ rfl))
end
section
variable{X:Cx}
theorem Ga{prog:Program}{w:World}{A:Around}{R:Result→Shared→Prop}{s:Shared}{elt target iter c:Expr}{scope:Scope}{pos:Pos}{it acc:Value}{env:Env}(I:Nat→Shared→Prop)
  (turn:∀ n s,I n s→wpAny (model prog w) A (pyNext it) (λr s₁=>match r with
   | none=>R (.ok .next) s₁
   | some v=>wpAny (model prog w) A (letOwnedTupleGo target it v) (λ_ s5=>wpAny (model prog w) A (assign target env v) (λ_ s₂=>wpAny (model prog w) A (isTrue c env (eval c env)) (λok s6=>if ok=true then wpAny (model prog w) A (eval elt env) (λx s₃ =>
     wpAny (model prog w) A (call (.builtin "list.append") [acc,x]) (λ_ s₄=>∃ m,m<n∧I m s₄) (notedBy (model prog w) A env λe s'=>R (.error e) s') s₃)
     (notedBy (model prog w) A env λe s'=>R (.error e) s') s6 else ∃ m,m<n∧I m s6) (notedBy (model prog w) A env λe s'=>R (.error e) s') s₂) (notedBy (model prog w) A env λe s'=>R (.error e) s') s5) (notedBy (model prog w) A env λe s'=>R (.error e) s') s₁) (notedBy (model prog w) A env λe s'=>R (.error e) s') s)
  (n:Nat) (h:I n s):codeAny (model prog w) A (.compLoop (.ListComp elt [⟨target,iter,[c],0⟩] scope pos) 0 it acc env) R s:=by
 refine codeAny_loop rfl I (λn s hI=>?_) n h;show wpAny _ _ ((compTurn (.ListComp elt [⟨target,iter,[c],0⟩] scope pos) 0 it acc env).onRaise (λx=>do noteFrame x env;theTreesLotGoes x)) _ _ s
 refine wpAny_noted ?_;rw[compTurn_list];refine wpAny_bind (wpAny_standAt (wpAny_bind (wpAny_mono (turn n s hI) (λr s₁ h₁=>?_) λ_ _ h'=>h')));cases r with
 | none=>exact wpAny_pure h₁
 | some v =>
  refine wpAny_bind (wpAny_mono h₁ (λ_ s5 h5=>?_) λ_ _ h'=>h');refine wpAny_bind (wpAny_mono h5 (λ_ s₂ h₂=>wpAny_bind (wpAny_mono (wpAny_tests_one h₂) (λok s₃ h₃=>?_) λ_ _ h'=>h')) λ_ _ h'=>h');cases ok with
  | false=>exact wpAny_pure ⟨rfl,h₃⟩
  | true =>
   exact wpAny_bind (wpAny_bind (wpAny_mono h₃ (λx s₄ h₄=>wpAny_bind (wpAny_mono h₄ (λ_ s₅ h₅=>wpAny_pure (wpAny_pure ⟨rfl,h₅⟩)) λ_ _ h'=>h')) λ_ _ h'=>h'))
variable{scope:Scope}{cl:List (Str×Addr)}{x:Str}{idx:List Nat}{NC:List Str}{C:Addr}{fp:List Addr}{pins:List (Addr×Obj)}{σ:St}{H:Hp}{s:Shared}
noncomputable def Vj(wi:TI)(idx:List Nat)(tc:TT)(te:TE):TE:=λσ H Q=>wi σ H λJ H1=>∀ D,H1 D=none→∃ W:Nat→Nat→List V→Hp→Prop,(∃ m,W 0 m [] (upd H1 D (.lst [])))∧∀ i m ys H2,W i m ys H2→H2 D=some (.lst ys) ∧
 ((J.stop i H2∧Q (.ref D) H2)∨(J.go i H2∧ys.length<sizeLine∧∃ N:List V→Hp→Prop,(∀ zs H',N zs H'→∃ m',m'<m∧W (i+1) m' zs H')∧∀ y H3,J.yld i H2 y H3→tc (some y::yo σ idx) H3 λb H4=>if b=true then te (some y::yo σ idx) H4 λv H5=>H5 D=some (.lst ys)∧N (ys++[v]) (upd H5 D (.lst (ys++[v])))
  else N ys H4))
end
noncomputable def Ite(K:W.Frag)(a:Addr):It :=
 ⟨λi H=>∃ xs x,SqL K H a xs∧xs[i]?=some x,λi H y H'=>∃ t x,H t=none∧y=.ref t∧(∀ xs,SqL K H a xs→xs[i]?=some x)∧H'=upd H t (.tup [.int (i:Int),x]),λi H=>∃ xs,SqL K H a xs∧xs.length≤i⟩
theorem Pq{P:Program}{w:World}{K:W.Frag}{es:List Expr}{x1:Nat}{pos:Pos}(a it e:Addr)(hne:e≠it) :
  Turn P w K (.Tuple es x1 pos) (Ite K a) [e,it] e (λi h=>∃ old,IsEnum h e it i old∧h.IsListIter it a i) where
 mem:=by simp
 obj:=λi h st b hb=>by
  obtain⟨old,h1,o,q,c,d⟩:=st;rcases ajo.mp hb with z|z
  ·rw[z]
   exact⟨_,h1,λv z=>by
    have z':Data.fields _=Data.cell v:=z;cases z'⟩
  ·rw[ai9.mp z]
   exact⟨o,q,λv z=>by rw[d]at z;cases z⟩
 keep:=λi h h' st k=>by
  obtain⟨old,h1,h2⟩:=st;exact⟨old,k e (by simp) _ h1,h2.at λo q=>k it (by simp) o q⟩
 item:=by
  intro X hP hw hK hc i pins s σ H E I hf st hg;subst hP hw hK;obtain⟨xs,x,hq,hx⟩:=hg;obtain⟨its,rv,p,hz⟩:=I.list hq;obtain⟨u,hu,ru⟩:=rv.get hx;obtain⟨old,he,hit⟩:=st;have fr:H s.heap.objs.size=none:=I.hok.fresh (ajb _);refine wpAny_pyNext_enum_item he hit p.isList (x:=u) (by simpa using hu) hne λh1 heo hit1 ht1 hz1 hk1=>⟨_,rfl,wpAny_letOwnedTupleGo_enum heo λh2 he2 hs2=>?_⟩;replace hs2:Heap.SameBut e h1 h2:=hs2;have hel:e<s.heap.objs.size:=ajg he;have k2:∀ b o,b≠e→b≠it→s.heap.get? b=some o→h2.get? b=some o:=λb o z1 z2 q=>(hs2.2 b z1).trans (hk1 b o z1 z2 q);have ht2:h2.get? s.heap.objs.size=some {cls:=.type "tuple",data:=.seq #[.int i s.toks,u]}:=(hs2.2 _ (akk hel)).trans ht1;have ais:h2.IsListIter it a (i+1):=hit1.extBut hs2.extBut (ajm hne);have nt:∀ b o,s.heap.get? b=some o→b≠s.heap.objs.size:=λb o q=>ajl (ajg q);have nh:∀ b v,H b=some v→b≠s.heap.objs.size:=λb v q=>aq q fr;have ne':∀ b v,H b=some v→b≠e∧b≠it:=λb v q=>⟨aq q (hf e (by simp)).1,aq q (hf it (by simp)).1⟩;refine⟨.ref s.heap.objs.size,upd H s.heap.objs.size (.tup [.int (i:Int),x]),?_,rfl,⟨_,x,fr,rfl,λys hy=>by rw[I.LV hy hq];exact hx,rfl⟩,⟨_,he2,ais⟩,λb hb=>?_⟩
  ·refine Inv.step (s:=s) (h':=h2) (t':=s.toks+1) (H:=H) (g':=s.gens) (d':=s.drawn) (ch:=[e,it]) I (λb hb=>⟨(hf b hb).2.2.2.1,(hf b hb).2.1,(hf b hb).2.2.2.2.1,(hf b hb).2.2.2.2.2⟩)
    (λb o _ _ z q _=>k2 b o (λy=>z (by simp[y])) (λy=>z (by simp[y])) q) (λb o _ _ z q _=>⟨o.slots,k2 b o (λy=>z (by simp[y])) (λy=>z (by simp[y])) q⟩)
    (λb o _ q n=>by rw[af (nt b o q)];exact n) (λb o z q=>⟨o,k2 b o (λy=>z (by simp[y])) (λy=>z (by simp[y])) q⟩)
    (λb xs q=>by rw[af (nh b _ q)];exact q) (λb o v q=>by rw[af (nh b _ q)];exact q) (λb ps q=>⟨#[],by rw[af (nh b _ q),q];simp⟩) (λm hm=>?_) (λb v q=>?_) I.bare
   ·obtain⟨o,es',ep,ho,r⟩:=hm
    exact⟨o,es',ep,k2 _ o (ajm (hf e (by simp)).2.1) (ajm (hf it (by simp)).2.1) ho,r⟩
   ·by_cases z:b=s.heap.objs.size
    ·subst z
     rw[ah]at q;cases q;exact⟨by show 2≤sizeLine;decide,[.int i s.toks,u],.cons ⟨_,rfl⟩ (.cons ru .nil),_,ht2,rfl,_,rfl⟩
    ·rw[af z]at q
     refine(I.hok b v q).LS (λc o hc w=>?_) (λc w=>by rw[af (nh c _ w)];exact w) λc xs w=>by rw[af (nh c _ w)];exact w
     rcases hc with y|y
     ·rw[y]at w ⊢
      exact k2 b o (ne' b v q).1 (ne' b v q).2 w
     ·exact k2 c o (ne' c _ y).1 (ne' c _ y).2 w
  ·have hb':b<s.heap.objs.size:=by
    rcases ajo.mp hb with z|z
    ·rw[z];exact hel
    ·rw[ai9.mp z]
     obtain⟨o,q,_⟩:=hit;exact ajg q
   rw[af (ajl hb')];exact(hf b hb).1
 done:=by
  intro X hP hw hK hc i pins s σ H E I hf st hg;subst hP hw hK;obtain⟨xs,hq,hx⟩:=hg;obtain⟨its,rv,p,hz⟩:=I.list hq;obtain⟨f0,f1,f2,f3,f4,f5⟩:=hf it (by simp);have hl:=rv.length;obtain⟨old,he,hit⟩:=st;exact wpAny_pyNext_enum_end (I.ok.hd hc) he hit p.isList (by simp;omega) λh' eb=>⟨rfl,I.turned (t':=s.toks) (λb o hb q=>eb b o hb q) f0 f1 f3 f4 f5⟩
 self:=λA i s Q E st h=>by
  obtain⟨old,he,hit⟩:=st;exact wpAny_pyIter_enum he h
section
variable{X:Cx}{es:List Expr}{x1:Nat}{tp:Pos}
noncomputable def Yc(K:W.Frag)(ta:TA):TI:=λσ H R=>ta σ H λvs H1=>∃ a,vs=[.ref a]∧(∃ xs,SqL K H1 a xs)∧R (Ite K a) H1
theorem wg{a:Expr}{ta:TA}{p pos:Pos}(hg:Gl X "enumerate")(hm:X.mg "enumerate" = none)(ha:PA X [a] ta)(hs:starEach [a] X.env=[(false,eval a X.env)]:=by rfl):PI X (.Tuple es x1 tp) (.Call (.Name "enumerate" p) [a] [] pos) (Yc X.K ta):=by
 intro pins s σ H R I h;refine Call_ (FW I hg hm PyProof.Rows.Boot.«enumerate» (PyProof.Rows.callWith_type1 (thn (ha pos pins s σ H _ I h) λus s1 ⟨vs,H1,I1,r1,q1⟩=>?_) hs rfl));obtain⟨l,e,⟨xs,hq⟩,q⟩:=q1;subst e;cases r1 with
 | cons r rr =>
  cases rr;cases r;obtain⟨its,rv,pl,hz⟩:=I1.list hq;refine call_enumerate_list pl.isList λh' he hit hsz hk=>?_;refine wpAny_pyIter_enum he ?_;refine⟨s1.heap.objs.size+1,[s1.heap.objs.size+1,s1.heap.objs.size],_,_,H1,rfl,I1.kept (t':=s1.toks) hk,Pq l s1.heap.objs.size (s1.heap.objs.size+1) (Nat.succ_ne_self _),⟨_,he,hit⟩,λb hb=>?_,q⟩;have hb':s1.heap.objs.size≤b:=by
   rcases ajo.mp hb with z|z
   ·rw[z];exact akD _
   ·rw[ai9.mp z]
    exact ajb _
  exact I1.Rj hb' (I1.hok.fresh hb')
end
theorem rW{K:W.Frag}{a:Addr}{xs:List V}{g:TG}{tb:TS}{D:Ends}{σ:St}{H:Hp}(Pv:Nat→St→Hp→Prop)(h0:Pv 0 σ H)(hl:∀ i σ H,i≤xs.length→Pv i σ H→SqL K H a xs)
  (hs:∀ i x σ H t,xs[i]?=some x→Pv i σ H→H t=none→g (.ref t) σ (upd H t (.tup [.int (i:Int),x])) λσ2 H2=>tb {D with nx:=Pv (i+1),ct:=Pv (i+1),bk:=D.nx} σ2 H2) (hd:∀ σ H,Pv xs.length σ H→D.nx σ H) :
  ∃ W:Nat→Nat→St→Hp→Prop,(∃ m,W 0 m σ H)∧∀ i m σ H,W i m σ H →
   ((Ite K a).stop i H∧D.nx σ H)∨((Ite K a).go i H∧∃ N:St→Hp→Prop,(∀ σ' H',N σ' H'→∃ m',m'<m∧W (i+1) m' σ' H')∧∀ x H',(Ite K a).yld i H x H'→g x σ H' λσ2 H2=>tb {D with nx:=N,ct:=N,bk:=D.nx} σ2 H2):=by
 refine⟨λi m σ H=>m=xs.length-i∧i≤xs.length∧Pv i σ H,⟨xs.length,by simp,ajM _,h0⟩,?_⟩;rintro i m σ H ⟨rfl,hi,p⟩;by_cases hlt:i<xs.length
 ·refine .inr ⟨⟨xs,xs[i],hl i σ H hi p,ai7 hlt⟩,Pv (i+1),λσ' H' p'=>⟨xs.length-(i+1),by omega,rfl,hlt,p'⟩,λx H' y=>?_⟩
  obtain⟨t,v,e1,e2,e3,e4⟩:=y;subst e2 e4;exact hs i v σ H t (e3 xs (hl i σ H hi p)) p e1
 ·have e:i=xs.length:=by omega
  subst e;exact .inl ⟨⟨xs,hl _ σ H hi p,ajb _⟩,hd σ H p⟩
end L2
namespace L2
open PySem
theorem Fe{lo:Int}{n:Nat}{te:TE}{Q:VK}{D:Addr}{τ:St}{H:Hp}(Pv:Nat→List V→Hp→Prop)(h0:Pv 0 [] H)(hD:∀ i ys H,i≤n→Pv i ys H→H D=some (.lst ys)∧ys.length=i)(hn:n≤sizeLine)
  (hs:∀ i ys H,i<n→Pv i ys H→te (some (.int (lo+i))::τ) H λv H4=>H4 D=some (.lst ys)∧Pv (i+1) (ys++[v]) (upd H4 D (.lst (ys++[v])))) (hd:∀ ys H,Pv n ys H→Q (.ref D) H):Kn (Itr lo n) D τ te Q H:=by
 refine⟨λi m ys H=>m=n-i∧i≤n∧Pv i ys H,⟨n,by simp,ajM _,h0⟩,?_⟩;rintro i m ys H2 ⟨rfl,hi,p⟩;obtain⟨hd1,hd2⟩:=hD i ys H2 hi p;refine⟨hd1,?_⟩;by_cases hlt:i<n
 ·refine .inr ⟨hlt,by omega,Pv (i+1),λzs H' p'=>⟨n-(i+1),by omega,rfl,hlt,p'⟩,λy H3 e=>?_⟩
  obtain⟨e1,e2⟩:=e;subst e1 e2;exact hs i ys _ hlt p
 ·have e:i=n:=by omega
  subst e;exact .inl ⟨ajb _,hd ys H2 p⟩
theorem kC{K:W.Frag}{a:Addr}{xs:List V}{te:TE}{Q:VK}{D:Addr}{τ:St}{H:Hp}(Pv:Nat→List V→Hp→Prop)(h0:Pv 0 [] H)(hD:∀ i ys H,i≤xs.length→Pv i ys H→H D=some (.lst ys)∧ys.length=i)(hl:∀ i ys H,i≤xs.length→Pv i ys H→SqL K H a xs)(hn:xs.length≤sizeLine)
  (hs:∀ i x ys H,xs[i]?=some x→Pv i ys H→te (some x::τ) H λv H4=>H4 D=some (.lst ys)∧Pv (i+1) (ys++[v]) (upd H4 D (.lst (ys++[v])))) (hd:∀ ys H,Pv xs.length ys H→Q (.ref D) H):Kn (Itl K a) D τ te Q H:=by
 refine⟨λi m ys H=>m=xs.length-i∧i≤xs.length∧Pv i ys H,⟨xs.length,by simp,ajM _,h0⟩,?_⟩;rintro i m ys H2 ⟨rfl,hi,p⟩;obtain⟨hd1,hd2⟩:=hD i ys H2 hi p;refine⟨hd1,?_⟩;by_cases hlt:i<xs.length
 ·refine .inr ⟨⟨xs,xs[i],hl i ys H2 hi p,ai7 hlt⟩,by omega,Pv (i+1),λzs H' p'=>⟨xs.length-(i+1),by omega,rfl,hlt,p'⟩,λy H3 e=>?_⟩
  obtain⟨e1,e2⟩:=e;subst e1;exact hs i y ys _ (e2 xs (hl i ys _ hi p)) p
 ·have e:i=xs.length:=by omega
  subst e;exact .inl ⟨⟨xs,hl _ ys H2 hi p,ajb _⟩,hd ys H2 p⟩
end L2
end
section
namespace L2
open PySem PySem.Spec PyProof.Rows LX
noncomputable def Uq(sc:Scope)(names:List (Str×NameKind)):List (Str×NameKind):=names.map λ(n,k)=>if(k == .free&&sc.kind == .function&&sc.names.lookup n == some .cell) then(n,.cell) else(n,k)
noncomputable def Sh(sc scope:Scope)(x:Str)(ns N:List Str)(idx:List Nat):Prop :=
 (∀ y∈scope.names,y.2≠.cell)∧(∀ y∈scope.names,y.2=.local→scope.names.lookup y.1=some .local)∧scope.names.lookup x=some .local∧(∀ p∈Uq sc scope.names,p.2=.cell∨p.2=.free→p.1∈ns)∧(x::idx.map λi=>N.getD i x).Nodup ∧
 ∀ i∈idx,i<N.length∧((sc.names.lookup (N.getD i x)=some .cell∨sc.names.lookup (N.getD i x)=some .free)∧((Uq sc scope.names).lookup (N.getD i x)=some .cell∨(Uq sc scope.names).lookup (N.getD i x)=some .free))
noncomputable instance (sc scope:Scope) (x:Str) (ns N:List Str) (idx:List Nat):Decidable (Sh sc scope x ns N idx):=by unfold Sh;infer_instance
theorem CW{y:Str}:∀ {cl:List (Str×Addr)},y∈cl.map (·.1)→∃ c,cl.lookup y=some c
 | [],h=>by simp at h
 | (n,c)::r,h=>by
  by_cases e:y=n
  ·exact⟨c,by simp[List.lookup,e]⟩
  ·have h':y∈r.map (·.1):=by
    rw[aju]at h;rcases ajo.mp h with z|z
    ·exact absurd z e
    ·exact z
   obtain⟨c',q⟩:=CW h';have hb:(y == n)=false:=beq_eq_false_iff_ne.mpr e;exact⟨c',by simp only[List.lookup,hb];exact q⟩
theorem kD{X:Cx}{sc scope:Scope}{cl:List (Str×Addr)}{x:Str}{ns N:List Str}{idx:List Nat}(hsc:X.env.scope=sc)(hN:X.N=N)(hk:scope.kind=.function)(p:Sh sc scope x ns N idx)(hn:cl.map (·.1)=ns)
  (Yd:closureFor scope X.env=pure cl) (ait:∀ q∈cl,X.env.cells.lookup q.1=some q.2):DY X scope cl x idx (x::idx.map λi=>N.getD i x):=by
 obtain⟨p1,p2,p3,p4,p5,p6⟩:=p;have re:(relabel scope X.env).names=Uq sc scope.names:=by subst hsc;rfl
 subst hsc hN hn;refine⟨Yd,λy c q=>ait (y,c) (ajR q),λy h=>?_,p1,hk,p2,p3,rfl,p5,λi hi=>?_⟩
 ·rw[re]at h
  refine CW ?_;rcases h with h|h
  ·exact p4 (y,.cell) (ajR h) (.inl rfl)
  ·exact p4 (y,.free) (ajR h) (.inr rfl)
 ·rw[re]
  exact p6 i hi
theorem Ff{P:Program}{w:World}{X:Cx}:kB (CXE P w) X (λ_ _ _ _=>False):=λ_ _ _ _ _ _ _ ⟨_,_,_,_,_,_,_,_,_,q⟩=>q.elim
section
variable{X:Cx}{scope:Scope}{cl:List (Str×Addr)}{x:Str}{idx:List Nat}{NC:List Str}{pins:List (Addr×Obj)}{σ:St}{H:Hp}{s:Shared}
theorem Kg{i:Nat}{y:Str}{elt iter:Expr}{px py pos Ox:Pos}{wi:TI}{te:TE}(hN:X.N.Nodup)(hi':X.N[i]?=some y)(hx:X.env.scope.names.lookup y=some .local)(c:DY X scope cl x idx NC)(hc:X.calm=true)(hi:PI X (.Name x px) iter wi)
  (he:∀ C fp s₀ H₀,PE (cxC X scope cl NC C fp s₀ H₀) elt te) (hsw:swapsWith (.ListComp elt [⟨.Name x px,iter,[],0⟩] scope pos) (some (.Name y py)) Ox.line X.env=pure true:=by rfl)
  (hs:∀ x,foldedSetIterable iter X.env x=pure x:=by intro _;rfl):PS X (.Assign [.Name y py] (.ListComp elt [⟨.Name x px,iter,[],0⟩] scope pos) Ox) (SG (Up wi idx te) (yj i)):=by
 intro pins s σ H D0 I h;rw[exec_Assign_Name_used _ _ _ _ hsw];refine wpAny_bind (wpAny_standAt (wpAny_bind ?_));show wpAny _ _ (do let _ ←comprehension (.ListComp elt [⟨.Name x px,iter,[],0⟩] scope pos) scope X.env _ (newList []) false (eval iter X.env) (some (assign (.Name y py) X.env))) _ _ s
 refine wpAny_bind (wpAny_mono (wpAny_comprehension_free (use:=some (assign (.Name y py) X.env)) (Q:=λ_ s'=>SP X pins D0 .next s') rfl hs c.Xu c.kind c.loc
  (thn (hi pins s σ H _ I h) λv s1 h1=>thn h1 λitv s2 h2=>?_)) (λ_ s' hq=>wpAny_pure (wpAny_pure hq)) λ_ _ e=>e)
 obtain⟨it,fp,tn,J,H2,rfl,I2,T,st2,f2,q⟩:=h2;refine wpAny_newObj_type (wpAny_newFunctionEnv c.Od (by intro y hy;simp at hy) (λh₁ hns₁ hsb₁=>?_) c.kind);dsimp only at hns₁ hsb₁ ⊢;have I3:Inv X pins σ (upd H2 s2.heap.objs.size (.lst [])) {s2 with heap:=s2.heap.push {cls:=.type "list",data:=.seq ([]:List Value).toArray},toks:=s2.toks}:=I2.Uc (ys:=[]) (its:=[]) .nil (ajM _);obtain⟨W,⟨m0,w0⟩,turn⟩:=q s2.heap.objs.size I2.fresh;generalize hD:s2.heap.objs.size=D at *;generalize hH:s2.heap.push {cls:=.type "list",data:=.seq ([]:List Value).toArray}=h3 at *;have Ow:∀ b∈fp,b<D:=λb hb=>by
  obtain⟨o,e,_⟩:=T.obj _ _ st2 b hb;rw[←hD];exact ajg e
 have hlt:∀ b∈fp,b<h3.objs.size:=λb hb=>by
  rw[←hH,akr,hD];exact akE (Ow b hb)
 have hf:∀ b∈fp,D4 X pins (upd H2 D (.lst [])) b:=λb hb=>⟨by rw[af (ajl (Ow b hb))];exact(f2 b hb).1,(f2 b hb).2⟩;have kp:∀ b o,h3.get? b=some o→h₁.get? b=some o:=λb o e=>hsb₁.extBut b o (ajl (ajg e)) (aja _ e);have I4:Inv (cxC X scope cl NC h3.objs.size fp {s2 with heap:=h3,toks:=s2.toks} (upd H2 D (.lst []))) [] (none::yo σ idx) (upd H2 D (.lst [])) {s2 with heap:=h₁,toks:=s2.toks+([]:List (Str×Value)).length} :=
  FL (s:={s2 with heap:=h3,toks:=s2.toks}) c I3 hf hlt hns₁ kp
 have D5:∀ {H':Hp},(∀ b∈fp,H' b=none)→∀ b∈fp,D4 (cxC X scope cl NC h3.objs.size fp {s2 with heap:=h3,toks:=s2.toks} (upd H2 D (.lst []))) [] H' b:=λhn b hb =>
  ⟨hn b hb,ajl (hlt b hb),λz=>(ajo.mp (I3.AV b z)).elim (hf b hb).2.1 (hf b hb).2.2.1,.inl hb,λy a q=>(hf b hb).2.2.2.2.1 y a (c.sub _ _ q),λp hp=>(by cases hp)⟩
 have st1:tn 0 h₁:=T.keep 0 _ _ st2 λb hb o e=>kp b o (by rw[←hH];exact aja _ e);have loop:∀ s4:Shared,s4={s2 with heap:=h₁,toks:=s2.toks+([]:List (Str×Value)).length} →
   codeAny (model X.prog X.w) X.A (.compLoop (.ListComp elt [⟨.Name x px,iter,[],0⟩] scope pos) 0 (.ref it) (.ref D) (compEnvC scope cl h3.objs.size X.env)) (compPost (model X.prog X.w) X.A X.xe (some (assign (.Name y py) X.env)) (λ_ s'=>SP X pins D0 .next s') (.ref D) h3.objs.size) s4:=by
  rintro s4 rfl;refine AL (λn s'=>∃ i ys H' v0,Inv (cxC X scope cl NC h3.objs.size fp {s2 with heap:=h3,toks:=s2.toks} (upd H2 D (.lst []))) [] (v0::yo σ idx) H' s'∧tn i s'.heap∧(∀ b∈fp,H' b=none)∧W i n ys H')
   ?_ m0 ⟨0,[],_,none,I4,st1,λb hb=>(hf b hb).1,w0⟩
  rintro n s5 ⟨i5,ys,H5,v0,I5,st5,fr5,w5⟩;obtain⟨hDl,alt⟩:=turn i5 n ys H5 w5;rcases alt with⟨stop,qn⟩|⟨go,hz,N,hN',step⟩
  ·refine thn (T.done (cxC X scope cl NC h3.objs.size fp {s2 with heap:=h3,toks:=s2.toks} (upd H2 D (.lst []))) rfl rfl rfl hc i5 [] s5 _ H5 _ I5 (D5 fr5) st5 stop) λr s6 ⟨hr,I6⟩=>?_
   subst hr;obtain⟨m,ns6,_⟩:=id I6.loc;have J6:Inv X pins σ H5 s6:=I3.Kj (ch:=fp) I6.os I6.base I6.hok I6.bare λb hb=>⟨(hf b hb).2.2.2.1,(hf b hb).2.1,(hf b hb).2.2.2.2.1,(hf b hb).2.2.2.2.2⟩;have fC:D4 X pins H5 h3.objs.size:=I3.Rj (ajb _) I6.free;obtain⟨o,es,ep,ho,rr⟩:=ns6;have od:∀ v,o.data≠.cell v:=λv z=>by
    rw[rr.1]at z;cases z
   show wpAny _ _ (assign (.Name y py) X.env (.ref D)) (λ_ s''=>∃ m,s''.heap.Ns h3.objs.size m∧∀ h',Heap.SameBut h3.objs.size s''.heap h'→SP X pins D0 .next {s'' with heap:=h'}) X.xe s6;have J7:=J6.pinned (fp:=[h3.objs.size]) (λb hb=>by rw[ai9.mp hb];exact fC) (λb hb=>by rw[ai9.mp hb];exact⟨o,ho,od⟩);refine wpAny_mono (a8 (pos:=py) hN hi' (.inl hx) (.inr hx) _ s6 _ H5 (.ref D) (.ref D) D0.nx J7 rfl qn) (λ_ s7 ⟨σ7,H7,I7,q7⟩=>?_) (λ_ _ z=>z);have pC:=I7.pin (h3.objs.size,o) (ajf _ (ajf _ (gN (ai9.mpr rfl) ho)));refine⟨m,⟨o,es,ep,pC.1,rr⟩,λh' hs'=>⟨σ7,H7,?_,q7⟩⟩;exact I7.nr.turned (t':=s7.toks) (it:=h3.objs.size) (λb o hb e=>hs'.extBut b o hb e) pC.2.1 fC.2.1 fC.2.2.2.1 fC.2.2.2.2.1 fC.2.2.2.2.2
  ·refine thn (T.item (cxC X scope cl NC h3.objs.size fp {s2 with heap:=h3,toks:=s2.toks} (upd H2 D (.lst []))) rfl rfl rfl hc i5 [] s5 _ H5 _ I5 (D5 fr5) st5 go) λr s6 ⟨u,hr,h6⟩=>?_
   subst hr;refine thn h6 λ_ s7 ⟨y,H7,I7,r7,y7,st7,fr7⟩=>?_;have I7':=I7.pinned (D5 fr7) (T.obj _ _ st7);have hnl:(relabel scope X.env).names.lookup x=some .local:=lookup_relabel_local c.xl;refine wpAny_mono (a8 (X:=cxC X scope cl NC h3.objs.size fp {s2 with heap:=h3,toks:=s2.toks} (upd H2 D (.lst []))) (i:=0) (x:=x) (pos:=px) c.nd (by show NC[0]?=some x;rw[c.nc];rfl) (.inl hnl) (.inr hnl) _ s7 _ H7 y u
    (λσ' H'=>σ'=some y::yo σ idx∧H'=H7) I7' r7 ⟨rfl,rfl⟩) (λ_ s8 ⟨σ8,H8,I8,e8,e8'⟩=>?_) λ_ _ z=>z.elim
   subst e8 e8';refine wpAny_mono (he _ _ _ _ _ s8 _ H8 _ I8 (step y H8 y7)) (λw s9 ⟨v,H9,I9,r9,hD9,n9⟩=>?_) λ_ _ z=>z.elim;obtain⟨m',hm,w9⟩:=hN' _ _ n9;refine wpAny_mono (FO (X:=(cxC X scope cl NC h3.objs.size fp {s2 with heap:=h3,toks:=s2.toks} (upd H2 D (.lst [])))) I9 hD9 hz r9) (λ_ s10 I10=>?_) λ_ _ z=>z.elim;refine⟨m',hm,i5+1,ys++[v],_,some y,I10.nr,T.keep _ _ _ st7 λb hb o e=>(I10.pin (b,o) (ajf _ (ajf _ (gN hb e)))).1,λb hb=>?_,w9⟩;obtain⟨o,e,d⟩:=T.obj _ _ st7 b hb;exact(I10.pin (b,o) (ajf _ (ajf _ (gN hb e)))).2.1
 exact codeAny_compStart_list (loop _ rfl) (T.self _ 0 _ _ _ st1 (loop _ rfl))
noncomputable def aiu(K:W.Frag):R2:=λx y H Q=>∃ a b xs ys,x=.ref a∧y=.ref b∧SqL K H a xs∧SqL K H b ys∧xs.length=ys.length∧xs.all jU=true∧ys.all jU=true∧Q (.bl (!Sg xs ys)) H
theorem Vk{X:Cx}(hu:X.A.units<cLine):OpR X (compareOp .NotEq) (aiu X.K):=by
 intro pins s σ H x y v u Q I rx ry h;obtain⟨a,b,xs,ys,rfl,rfl,ha,hb,hl,fx,fy,q⟩:=h;cases rx;cases ry;obtain⟨vs,r1,⟨o1,n1,e1,c1,_,g1⟩,_⟩:=I.list ha;obtain⟨ws,r2,⟨o2,n2,e2,c2,_,g2⟩,_⟩:=I.list hb;have l1:=r1.length;have l2:=r2.length;refine SeqAt.RcNeAt.lists (e:=λj=>eqV (xs.getD j .non) (ys.getD j .non)) ⟨o1,e1,c1,n1,g1⟩ ⟨o2,e2,c2,n2,g2⟩ (by simp only[ajd];omega) hu (λj h1 h2=>?_) _ _ _ _ ⟨.bl _,H,I,rfl,?_⟩
 ·simp only[ajd]at h1 h2
  obtain⟨w1,z1,rz1⟩:=r1.get (i:=j) (x:=xs[j]'(by omega)) (ai7 (by omega));obtain⟨w2,z2,rz2⟩:=r2.get (i:=j) (x:=ys[j]'(by omega)) (ai7 (by omega));have a1:vs.toArray[j]=w1:=by
   have:=(ai6.mp z1).2
   simpa using this
  have a2:ws.toArray[j]=w2:=by
   have:=(ai6.mp z2).2
   simpa using this
  rw[a1,a2];have d1:xs.getD j .non=xs[j]'(by omega):=by simp[List.getD,ai7 (show j<xs.length by omega)]
  have d2:ys.getD j .non=ys[j]'(by omega):=by simp[List.getD,ai7 (show j<ys.length by omega)]
  show SeqAt.EqAt _ _ _ _ (eqV (xs.getD j .non) (ys.getD j .non));rw[d1,d2];exact Kk rz1 rz2 (akh.mp fx _ (ajX _)) (akh.mp fy _ (ajX _))
 ·have:vs.toArray.size=xs.length:=by simp only[ajd];omega
  rw[this];exact q
end
theorem Oy:∀ {us:List Value} {ks:List Int},us.length=ks.length→(∀(j:Nat) (v:Value),us[j]?=some v→∃ t,v=Value.int (ks.getD j 0) t)→IntsAre us ks
 | [],[],_,_=>.nil
 | [],_::_,h,_=>by simp at h
 | _::_,[],h,_=>by simp at h
 | u::us,k::ks,h,f=>by
  obtain⟨t,e⟩:=f 0 u rfl;subst e;exact .cons k t (Oy (by simpa using h) λj v q=>f (j+1) v q)
section
variable{X:Cx}
theorem HP{P:Program}{w:World}{vs:List (Key×Value)}{ks:List Int}{acc:Array Value}(hk:vs.map (·.1)=ks.map Sum.inl)(ha:acc.size=vs.length)(h:∀(j:Nat) (v:Value),acc[j]?=some v→∃ k x,vs[j]?=some (k,x)∧(cx P w).is k v=true):IntsAre acc.toList ks:=by
 have hl:vs.length=ks.length:=by
  have:=congrArg List.length hk
  simpa using this
 refine Oy (by rw[akM];omega) λj v e=>?_;obtain⟨k,x,h1,h2⟩:=h j v (by rw[←Array.getElem?_toList];exact e);have h3:(vs.map (·.1))[j]?=some k:=by rw[ajh,h1];rfl
 rw[hk,ajh]at h3;obtain⟨i,hi,rfl⟩:=ajk.mp h3;have h4:sO (.inl i) v=true:=h2;rcases cq h4 with⟨i',t,e1,e2⟩|⟨y,t,e1,_⟩
 ·injection e1 with e1
  subst e1;exact⟨t,by rw[e2];simp[List.getD,hi]⟩
 ·cases e1
end
theorem HQ{xs ys:List Int}(p:xs.Perm ys)(hx:xs.Pairwise (·≤·))(hy:ys.Pairwise (·≤·)):xs=ys :=
 p.eq_of_pairwise (λa b _ _ h1 h2=>Int.le_antisymm h1 h2) hx hy
theorem Ru{v:V}(h:jU v=true):eqV v v=true:=by
 cases v with
 | non=>rfl
 | bl b=>cases b<;>rfl
 | int n=>simp[eqV]
 | str z=>simp[eqV]
 | _=>exact absurd (show false=true from h) ajc
section
variable{X:Cx}
end
section
variable{X:Cx}{tg:Expr}
theorem PS.nox{st:Stmt}{t:TS}(h:PS X.nox st t):PS X st t:=λpins s σ H D I hw =>
 wpAny_mono (h pins s σ H D (I.FZ _) hw) (λ_ _ q=>q.qw) λ_ _ z=>False.elim z
end
section
variable{X:Cx}{scope:Scope}{cl:List (Str×Addr)}{x:Str}{idx:List Nat}{NC:List Str}{pins:List (Addr×Obj)}{σ:St}{H:Hp}{s:Shared}
theorem QT{i:Nat}{y:Str}{elt iter ct:Expr}{px py pos Ox:Pos}{wi:TI}{tc:TT}{te:TE}(hN:X.N.Nodup)(hi':X.N[i]?=some y)(hx:X.env.scope.names.lookup y=some .local)(c:DY X scope cl x idx NC)(hc:X.calm=true)(hi:PI X (.Name x px) iter wi)
  (ht:∀ C fp s₀ H₀,PT (cxC X scope cl NC C fp s₀ H₀) ct tc) (he:∀ C fp s₀ H₀,PE (cxC X scope cl NC C fp s₀ H₀) elt te) (hsw:swapsWith (.ListComp elt [⟨.Name x px,iter,[ct],0⟩] scope pos) (some (.Name y py)) Ox.line X.env=pure true:=by rfl)
  (hs:∀ x,foldedSetIterable iter X.env x=pure x:=by intro _;rfl):PS X (.Assign [.Name y py] (.ListComp elt [⟨.Name x px,iter,[ct],0⟩] scope pos) Ox) (SG (Vj wi idx tc te) (yj i)):=by
 intro pins s σ H D0 I h;rw[exec_Assign_Name_used _ _ _ _ hsw];refine wpAny_bind (wpAny_standAt (wpAny_bind ?_));show wpAny _ _ (do let _ ←comprehension (.ListComp elt [⟨.Name x px,iter,[ct],0⟩] scope pos) scope X.env _ (newList []) false (eval iter X.env) (some (assign (.Name y py) X.env))) _ _ s
 refine wpAny_bind (wpAny_mono (wpAny_comprehension_free (use:=some (assign (.Name y py) X.env)) (Q:=λ_ s'=>SP X pins D0 .next s') rfl hs c.Xu c.kind c.loc
  (thn (hi pins s σ H _ I h) λv s1 h1=>thn h1 λitv s2 h2=>?_)) (λ_ s' hq=>wpAny_pure (wpAny_pure hq)) λ_ _ e=>e)
 obtain⟨it,fp,tn,J,H2,rfl,I2,T,st2,f2,q⟩:=h2;refine wpAny_newObj_type (wpAny_newFunctionEnv c.Od (by intro y hy;simp at hy) (λh₁ hns₁ hsb₁=>?_) c.kind);dsimp only at hns₁ hsb₁ ⊢;have I3:Inv X pins σ (upd H2 s2.heap.objs.size (.lst [])) {s2 with heap:=s2.heap.push {cls:=.type "list",data:=.seq ([]:List Value).toArray},toks:=s2.toks}:=I2.Uc (ys:=[]) (its:=[]) .nil (ajM _);obtain⟨W,⟨m0,w0⟩,turn⟩:=q s2.heap.objs.size I2.fresh;generalize hD:s2.heap.objs.size=D at *;generalize hH:s2.heap.push {cls:=.type "list",data:=.seq ([]:List Value).toArray}=h3 at *;have Ow:∀ b∈fp,b<D:=λb hb=>by
  obtain⟨o,e,_⟩:=T.obj _ _ st2 b hb;rw[←hD];exact ajg e
 have hlt:∀ b∈fp,b<h3.objs.size:=λb hb=>by
  rw[←hH,akr,hD];exact akE (Ow b hb)
 have hf:∀ b∈fp,D4 X pins (upd H2 D (.lst [])) b:=λb hb=>⟨by rw[af (ajl (Ow b hb))];exact(f2 b hb).1,(f2 b hb).2⟩;have kp:∀ b o,h3.get? b=some o→h₁.get? b=some o:=λb o e=>hsb₁.extBut b o (ajl (ajg e)) (aja _ e);have I4:Inv (cxC X scope cl NC h3.objs.size fp {s2 with heap:=h3,toks:=s2.toks} (upd H2 D (.lst []))) [] (none::yo σ idx) (upd H2 D (.lst [])) {s2 with heap:=h₁,toks:=s2.toks+([]:List (Str×Value)).length} :=
  FL (s:={s2 with heap:=h3,toks:=s2.toks}) c I3 hf hlt hns₁ kp
 have D5:∀ {H':Hp},(∀ b∈fp,H' b=none)→∀ b∈fp,D4 (cxC X scope cl NC h3.objs.size fp {s2 with heap:=h3,toks:=s2.toks} (upd H2 D (.lst []))) [] H' b:=λhn b hb =>
  ⟨hn b hb,ajl (hlt b hb),λz=>(ajo.mp (I3.AV b z)).elim (hf b hb).2.1 (hf b hb).2.2.1,.inl hb,λy a q=>(hf b hb).2.2.2.2.1 y a (c.sub _ _ q),λp hp=>(by cases hp)⟩
 have st1:tn 0 h₁:=T.keep 0 _ _ st2 λb hb o e=>kp b o (by rw[←hH];exact aja _ e);have loop:∀ s4:Shared,s4={s2 with heap:=h₁,toks:=s2.toks+([]:List (Str×Value)).length} →
   codeAny (model X.prog X.w) X.A (.compLoop (.ListComp elt [⟨.Name x px,iter,[ct],0⟩] scope pos) 0 (.ref it) (.ref D) (compEnvC scope cl h3.objs.size X.env)) (compPost (model X.prog X.w) X.A X.xe (some (assign (.Name y py) X.env)) (λ_ s'=>SP X pins D0 .next s') (.ref D) h3.objs.size) s4:=by
  rintro s4 rfl;refine Ga (λn s'=>∃ i ys H' v0,Inv (cxC X scope cl NC h3.objs.size fp {s2 with heap:=h3,toks:=s2.toks} (upd H2 D (.lst []))) [] (v0::yo σ idx) H' s'∧tn i s'.heap∧(∀ b∈fp,H' b=none)∧W i n ys H')
   ?_ m0 ⟨0,[],_,none,I4,st1,λb hb=>(hf b hb).1,w0⟩
  rintro n s5 ⟨i5,ys,H5,v0,I5,st5,fr5,w5⟩;obtain⟨hDl,alt⟩:=turn i5 n ys H5 w5;rcases alt with⟨stop,qn⟩|⟨go,hz,N,hN',step⟩
  ·refine thn (T.done (cxC X scope cl NC h3.objs.size fp {s2 with heap:=h3,toks:=s2.toks} (upd H2 D (.lst []))) rfl rfl rfl hc i5 [] s5 _ H5 _ I5 (D5 fr5) st5 stop) λr s6 ⟨hr,I6⟩=>?_
   subst hr;obtain⟨m,ns6,_⟩:=id I6.loc;have J6:Inv X pins σ H5 s6:=I3.Kj (ch:=fp) I6.os I6.base I6.hok I6.bare λb hb=>⟨(hf b hb).2.2.2.1,(hf b hb).2.1,(hf b hb).2.2.2.2.1,(hf b hb).2.2.2.2.2⟩;have fC:D4 X pins H5 h3.objs.size:=I3.Rj (ajb _) I6.free;obtain⟨o,es,ep,ho,rr⟩:=ns6;have od:∀ v,o.data≠.cell v:=λv z=>by
    rw[rr.1]at z;cases z
   show wpAny _ _ (assign (.Name y py) X.env (.ref D)) (λ_ s''=>∃ m,s''.heap.Ns h3.objs.size m∧∀ h',Heap.SameBut h3.objs.size s''.heap h'→SP X pins D0 .next {s'' with heap:=h'}) X.xe s6;have J7:=J6.pinned (fp:=[h3.objs.size]) (λb hb=>by rw[ai9.mp hb];exact fC) (λb hb=>by rw[ai9.mp hb];exact⟨o,ho,od⟩);refine wpAny_mono (a8 (pos:=py) hN hi' (.inl hx) (.inr hx) _ s6 _ H5 (.ref D) (.ref D) D0.nx J7 rfl qn) (λ_ s7 ⟨σ7,H7,I7,q7⟩=>?_) (λ_ _ z=>z);have pC:=I7.pin (h3.objs.size,o) (ajf _ (ajf _ (gN (ai9.mpr rfl) ho)));refine⟨m,⟨o,es,ep,pC.1,rr⟩,λh' hs'=>⟨σ7,H7,?_,q7⟩⟩;exact I7.nr.turned (t':=s7.toks) (it:=h3.objs.size) (λb o hb e=>hs'.extBut b o hb e) pC.2.1 fC.2.1 fC.2.2.2.1 fC.2.2.2.2.1 fC.2.2.2.2.2
  ·refine thn (T.item (cxC X scope cl NC h3.objs.size fp {s2 with heap:=h3,toks:=s2.toks} (upd H2 D (.lst []))) rfl rfl rfl hc i5 [] s5 _ H5 _ I5 (D5 fr5) st5 go) λr s6 ⟨u,hr,h6⟩=>?_
   subst hr;refine thn h6 λ_ s7 ⟨y,H7,I7,r7,y7,st7,fr7⟩=>?_;have I7':=I7.pinned (D5 fr7) (T.obj _ _ st7);have hnl:(relabel scope X.env).names.lookup x=some .local:=lookup_relabel_local c.xl;refine wpAny_mono (a8 (X:=cxC X scope cl NC h3.objs.size fp {s2 with heap:=h3,toks:=s2.toks} (upd H2 D (.lst []))) (i:=0) (x:=x) (pos:=px) c.nd (by show NC[0]?=some x;rw[c.nc];rfl) (.inl hnl) (.inr hnl) _ s7 _ H7 y u
    (λσ' H'=>σ'=some y::yo σ idx∧H'=H7) I7' r7 ⟨rfl,rfl⟩) (λ_ s8 ⟨σ8,H8,I8,e8,e8'⟩=>?_) λ_ _ z=>z.elim
   subst e8 e8';refine wpAny_mono (ht _ _ _ _ _ s8 _ H8 _ I8 (step y H8 y7)) (λbb s11 ⟨H11,I11,q11⟩=>?_) λ_ _ z=>z.elim;have fin:∀ {H12:Hp} {s12:Shared} {zs:List V} {m':Nat},Inv (cxC X scope cl NC h3.objs.size fp {s2 with heap:=h3,toks:=s2.toks} (upd H2 D (.lst []))) ([]++F5 fp s7.heap) (some y::yo σ idx) H12 s12→m'<n→W (i5+1) m' zs H12 →
     ∃ m,m<n∧∃ i ys H' v0,Inv (cxC X scope cl NC h3.objs.size fp {s2 with heap:=h3,toks:=s2.toks} (upd H2 D (.lst []))) [] (v0::yo σ idx) H' s12∧tn i s12.heap∧(∀ b∈fp,H' b=none)∧W i m ys H':=λ{H12 s12 zs m'} I12 hm w12=>by
    refine⟨m',hm,i5+1,zs,_,some y,I12.nr,T.keep _ _ _ st7 λb hb o e=>(I12.pin (b,o) (ajf _ (ajf _ (gN hb e)))).1,λb hb=>?_,w12⟩;obtain⟨o,e,d⟩:=T.obj _ _ st7 b hb;exact(I12.pin (b,o) (ajf _ (ajf _ (gN hb e)))).2.1
   cases bb with
   | false =>
    obtain⟨m',hm,w9⟩:=hN' _ _ q11;exact fin I11 hm w9
   | true =>
    refine wpAny_mono (he _ _ _ _ _ s11 _ H11 _ I11 q11) (λw s9 ⟨v,H9,I9,r9,hD9,n9⟩=>?_) λ_ _ z=>z.elim;obtain⟨m',hm,w9⟩:=hN' _ _ n9;refine wpAny_mono (FO (X:=(cxC X scope cl NC h3.objs.size fp {s2 with heap:=h3,toks:=s2.toks} (upd H2 D (.lst [])))) I9 hD9 hz r9) (λ_ s10 I10=>?_) λ_ _ z=>z.elim;exact fin I10 hm w9
 exact codeAny_compStart_list (loop _ rfl) (T.self _ 0 _ _ _ st1 (loop _ rfl))
noncomputable def Oz(J:It)(D:Addr)(τ:St)(tc:TT)(te:TE)(Q:VK)(H:Hp):Prop:=∃ W:Nat→Nat→List V→Hp→Prop,(∃ m,W 0 m [] H)∧∀ i m ys H2,W i m ys H2→H2 D=some (.lst ys) ∧
 ((J.stop i H2∧Q (.ref D) H2)∨(J.go i H2∧ys.length<sizeLine∧∃ N:List V→Hp→Prop,(∀ zs H',N zs H'→∃ m',m'<m∧W (i+1) m' zs H')∧∀ y H3,J.yld i H2 y H3→tc (some y::τ) H3 λb H4=>if b=true then te (some y::τ) H4 λv H5=>H5 D=some (.lst ys)∧N (ys++[v]) (upd H5 D (.lst (ys++[v])))
  else N ys H4))
noncomputable def Vm(wi:TI)(idx:List Nat)(tc:TT)(te:TE):TE:=λσ H Q=>wi σ H λJ H1=>∀ D,H1 D=none→Oz J D (yo σ idx) tc te Q (upd H1 D (.lst []))
theorem QU{i:Nat}{y:Str}{elt iter ct:Expr}{px py pos Ox:Pos}{wi:TI}{tc:TT}{te:TE}(hN:X.N.Nodup)(hi':X.N[i]?=some y)(hx:X.env.scope.names.lookup y=some .local)(c:DY X scope cl x idx NC)(hc:X.calm=true)(hi:PI X (.Name x px) iter wi)
  (ht:∀ C fp s₀ H₀,PT (cxC X scope cl NC C fp s₀ H₀) ct tc) (he:∀ C fp s₀ H₀,PE (cxC X scope cl NC C fp s₀ H₀) elt te) (hsw:swapsWith (.ListComp elt [⟨.Name x px,iter,[ct],0⟩] scope pos) (some (.Name y py)) Ox.line X.env=pure true:=by rfl)
  (hs:∀ x,foldedSetIterable iter X.env x=pure x:=by intro _;rfl):PS X (.Assign [.Name y py] (.ListComp elt [⟨.Name x px,iter,[ct],0⟩] scope pos) Ox) (SG (Vm wi idx tc te) (yj i)) :=
 QT hN hi' hx c hc hi ht he hsw hs
end
end L2
end
section
namespace L2
open PySem PySem.Spec PyProof.Rows LX
section
variable{P:Program}{w:World}{A:Around}{E:Value→Shared→Prop}{s:Shared}{a:Addr}{S:Int→Bool}{n:Nat}
end
end L2
end
section
namespace L2
open PySem PySem.Spec PyProof.Rows LX
section
variable{P:Program}{w:World}{A:Around}{R:Result→Shared→Prop}{I:Addr}{fp wr:List Addr}{G:Array GenState→Array GenState→Prop}{n:Nat}{p:Nat→Value→Prop}{St:Nat→Shared→Prop}
end
section
variable{P:Program}{w:World}{A:Around}{E:Value→Shared→Prop}{s:Shared}
end
section
variable{P:Program}{w:World}{A:Around}{E:Value→Shared→Prop}{s:Shared}{it a:Addr}{first:Value}{i n ep:Nat}
end
section
variable{P:Program}{w:World}{A:Around}{E:Value→Shared→Prop}{s:Shared}{it a:Addr}{first:Value}{i n ep:Nat}{es:Array (Int×Value)}{t:SetTable}
end
section
variable{P:Program}{w:World}{A:Around}{E:Value→Shared→Prop}{s:Shared}{I a:Addr}{ep:Nat}{es:Array (Int×Value)}{t:SetTable}{sl:Nat→Nat}{vs:List Value}
end
end L2
end
section
namespace L2
open PySem PySem.Spec PyProof.Rows LX PySem.W
section
variable{P:Program}{w:World}{A:Around}{E:Value→Shared→Prop}{s:Shared}{a:Addr}{ep:Nat}{es:Array (Int×Value)}{t:SetTable}
end
section
variable{P:Program}{w:World}{A:Around}{E:Value→Shared→Prop}{s:Shared}{a:Addr}{ep:Nat}{es:Array (Int×Value)}{t:SetTable}
end
section
variable{X:Cx}
end
end L2
end
section
namespace L2
open PySem PySem.Spec PyProof.Rows LX
section
variable{X:Cx}{pins:List (Addr×Obj)}{σ:St}{H:Hp}{s:Shared}{d:Addr}{kvs:List (Key×V)}
theorem Inv.frozen(I:Inv X pins σ H s)(hd:H d=some (.dK kvs)):∃ o,Inv X pins σ (upd H d (.frz o (.dK kvs))) s:=by
 obtain⟨hz,h0,vs,rel,o,es,ep,ho,r⟩:=Se I.hok hd;have nn:∀ {b:Addr},H b=none→upd H d (.frz o (.dK kvs)) b=none:=λ{b} q=>by
  rw[af λz=>by rw[z,hd]at q;cases q];exact q
 have ns:∀ {b:Addr} {u:HO},H b=some u→u≠.dK kvs→upd H d (.frz o (.dK kvs)) b=some u:=λ{b u} q n=>by
  rw[af λz=>n (by rw[z,hd]at q;exact(ajx q).symm)];exact q
 refine⟨o,I.ok,I.os,I.bare,⟨I.base.keep,I.base.slot,λb ob q n e=>nn (I.base.free b ob q n e),I.base.there,λb xs q=>ns (I.base.HC b xs q) (by intro z;cases z),λb ob u q=>ns (I.base.FV b ob u q) (by intro z;cases z),λb ps q=>?_⟩,I.loc,I.cell,nn I.free,λx c q=>nn (I.qg x c q),λp hp=>?_,λa u q=>?_,I.len⟩
 ·obtain⟨more,q'⟩:=I.base.HD b ps q
  exact⟨more,ns q' (by intro z;cases z)⟩
 ·obtain⟨p1,p2,p3⟩:=I.pin p hp
  exact⟨p1,nn p2,p3⟩
 ·have st:∀ {a:Addr} {u:HO},iJ X.prog X.w H s.heap a u→iJ X.prog X.w (upd H d (.frz o (.dK kvs))) s.heap a u:=λx=>x.LS (λ_ _ _ z=>z) (λb z=>ns z (by intro y;cases y)) λb xs z=>ns z (by intro y;cases y)
  by_cases e:a=d
  ·subst e
   rw[ah]at q;cases q;exact⟨ho,st (I.hok a _ hd)⟩
  ·rw[af e]at q
   exact st (I.hok a u q)
noncomputable def aiv(te:TE):TE:=λσ H Q=>te σ H λv H1=>∃ d kvs,H1 d=some (.dK kvs)∧∀ o,Q v (upd H1 d (.frz o (.dK kvs)))
theorem DZ{e:Expr}{te:TE}(h:PE X e te):PE X e (aiv te):=by
 intro pins s σ H Q I t;refine wpAny_mono (h pins s σ H _ I t) (λu s1 ⟨v,H1,I1,r,q⟩=>?_) λ_ _ z=>z;obtain⟨d,kvs,hd,q⟩:=q;obtain⟨o,I2⟩:=I1.frozen hd;exact⟨v,_,I2,r,q o⟩
noncomputable def Itd(d:Addr)(o:Obj)(kvs:List (Key×V)):It :=
 ⟨λi H=>H d=some (.frz o (.dK kvs))∧i<kvs.length,λi H x H'=>H'=H∧∃ p,kvs[i]?=some p∧x=kV p.1,λi H=>H d=some (.frz o (.dK kvs))∧kvs.length≤i⟩
theorem Vn{P:Program}{w:World}{k:Key}{u:Value}(h:(cx P w).is k u=true):RelV (kV k) u:=by
 have h4:sO k u=true:=h;rcases cq h4 with⟨i,t,e1,e2⟩|⟨y,t,e1,e2⟩
 ·subst e1 e2
  exact⟨t,rfl⟩
 ·subst e1 e2
  exact⟨t,rfl⟩
theorem Oe{o:Obj}(I:Inv X pins σ H s)(hd:H d=some (.frz o (.dK kvs))){es:Array DictEntry}{ep:Nat}(eo:o.data=.dict es ep):kvs.length≤sizeLine∧(d == sysModules)=false∧∃ vs,KV kvs vs∧s.heap.DictAt (cx X.prog X.w) d vs ep:=by
 obtain⟨ho,hz,h0,vs,rel,o',es',ep',ho',c1,c2,c3⟩:=(show iJ X.prog X.w H s.heap d (.frz o (.dK kvs)) from I.hok d _ hd);have e:o'=o:=ajx (ho'.symm.trans ho);subst e;rw[eo]at c2;injection c2 with e1 e2;subst e1 e2;exact⟨hz,h0,vs,rel,o',es,ho',c1,eo,c3⟩
theorem QV{o:Obj}(I:Inv X pins σ H s)(hd:H d=some (.frz o (.dK kvs))):∃ es ep,o.data=.dict es ep:=by
 obtain⟨ho,hz,h0,vs,rel,o',es',ep',ho',c1,c2,c3⟩:=(show iJ X.prog X.w H s.heap d (.frz o (.dK kvs)) from I.hok d _ hd);have e:o'=o:=ajx (ho'.symm.trans ho);subst e;exact⟨es',ep',c2⟩
theorem Rw:∀ {kvs:List (Key×V)} {vs:List (Key×Value)},KV kvs vs→∀ {i:Nat} {p:Key×V},kvs[i]?=some p→∃ x,vs[i]?=some (p.1,x)
 | _,_,.nil,_,_,h=>by simp at h
 | (k,v)::_,(k',x)::_,.cons a r,0,p,h=>by
  have h1:(k,v)=p:=by simpa using h
  subst h1;obtain⟨e,_⟩:=a;have e':k=k':=e;subst e';exact⟨x,rfl⟩
 | _::_,_::_,.cons _ r,i+1,p,h=>by
  have:=Rw r (i:=i) (p:=p) (by simpa using h)
  simpa using this
theorem Pt{P:Program}{w:World}{K:W.Frag}{tg:Expr}(d it:Addr)(o:Obj)(kvs:List (Key×V))(ne:d≠it):Turn P w K tg (Itd d o kvs) [it] it (λi h=>∃ es ep,o.data=.dict es ep∧h.IsKeyIter it d i kvs.length ep) where
 mem:=by simp
 obj:=λi h st b hb=>by
  have e:b=it:=by simpa using hb
  subst e;obtain⟨es,ep,_,o,e,c,d⟩:=st;exact⟨o,e,λv z=>by rw[d]at z;cases z⟩
 keep:=λi h h' ⟨es,ep,eo,st⟩ k=>⟨es,ep,eo,st.at λo e=>k it (by simp) o e⟩
 item:=by
  rintro X hP hw hK hc i pins s σ H E I hf ⟨es,ep,eo,st⟩ ⟨hd,hi⟩;subst hP hw hK;obtain⟨hz,h0,vs,rel,hat⟩:=Oe I hd eo;have hl:=rel.length;obtain⟨x,hx⟩:=Rw rel (ai7 hi);obtain⟨f0,f1,f2,f3,f4,f5⟩:=hf it (by simp);rw[hl]at st;refine wpAny_pyNext_dict_item st hat hx λkey h' hk st' sb=>?_;have I1:Inv X pins σ H {s with heap:=h'}:=I.turned (t':=s.toks) (λb o hb e=>(sb.2 b hb).trans e) f0 f1 f3 f4 f5;exact⟨key,rfl,letGo_keyiter (s':={s with heap:=h'}) st' ⟨kV (kvs[i]'hi).1,H,I1,Vn hk,⟨rfl,_,ai7 hi,rfl⟩,⟨es,ep,eo,by rw[hl];exact st'⟩,λb hb=>(hf b hb).1⟩⟩
 done:=by
  rintro X hP hw hK hc i pins s σ H E I hf ⟨es,ep,eo,st⟩ ⟨hd,hi⟩;subst hP hw hK;obtain⟨hz,h0,vs,rel,hat⟩:=Oe I hd eo;have hl:=rel.length;obtain⟨f0,f1,f2,f3,f4,f5⟩:=hf it (by simp);rw[hl]at st;exact wpAny_pyNext_dict_end (I.ok.hd hc) st hat (List.getElem?_eq_none (by omega)) λh' eb=>⟨rfl,I.turned (t':=s.toks) (λb o hb e=>eb b o hb e) f0 f1 f3 f4 f5⟩
 self:=λ_ _ _ _ _ ⟨_,_,_,st⟩ h=>wpAny_pyIter_keyiter st h
noncomputable def Ye(td:TE):TI:=λσ H R=>td σ H λx H1=>∃ d o kvs,x=.ref d∧H1 d=some (.frz o (.dK kvs))∧R (Itd d o kvs) H1
theorem wj{tg l:Expr}{tl:TE}(hl:PE X l tl):PI X tg l (Ye tl):=by
 intro pins s σ H R I h;refine thn (hl pins s σ H _ I h) λv s1 ⟨x,H1,I1,r1,q1⟩=>?_;obtain⟨d,o,kvs,e,hd,q⟩:=q1;subst e;cases r1;obtain⟨es,ep,eo⟩:=QV I1 hd;obtain⟨hz,h0,vs,rel,hat⟩:=Oe I1 hd eo;have hl:=rel.length;refine wpAny_pyIter_dict h0 hat ?_;rw[←hl];refine⟨s1.heap.objs.size,[s1.heap.objs.size],_,_,H1,rfl,I1.kept (t':=s1.toks) λb o e=>aja _ e,Pt d _ o kvs (ajl hat.lt_size),⟨es,ep,eo,_,ajC _ rfl,rfl,rfl⟩,λb hb=>?_,q⟩;have e:b=s1.heap.objs.size:=by simpa using hb
 subst e;exact I1.Rj (ajb _) (I1.hok.fresh (ajb _))
end
theorem A5{d:Addr}{o:Obj}{kvs:List (Key×V)}{g:TG}{tb:TS}{D:Ends}{σ:St}{H:Hp}(Pv:Nat→St→Hp→Prop)(h0:Pv 0 σ H)(hl:∀ i σ H,i≤kvs.length→Pv i σ H→H d=some (.frz o (.dK kvs)))
  (hs:∀ i p σ H,kvs[i]?=some p→Pv i σ H→g (kV p.1) σ H λσ2 H2=>tb {D with nx:=Pv (i+1),ct:=Pv (i+1),bk:=D.nx} σ2 H2) (hd:∀ σ H,Pv kvs.length σ H→D.nx σ H) :
  ∃ W:Nat→Nat→St→Hp→Prop,(∃ m,W 0 m σ H)∧∀ i m σ H,W i m σ H →
   ((Itd d o kvs).stop i H∧D.nx σ H)∨((Itd d o kvs).go i H∧∃ N:St→Hp→Prop,(∀ σ' H',N σ' H'→∃ m',m'<m∧W (i+1) m' σ' H')∧∀ x H',(Itd d o kvs).yld i H x H'→g x σ H' λσ2 H2=>tb {D with nx:=N,ct:=N,bk:=D.nx} σ2 H2):=by
 refine⟨λi m σ H=>m=kvs.length-i∧i≤kvs.length∧Pv i σ H,⟨kvs.length,by simp,ajM _,h0⟩,?_⟩;rintro i m σ H ⟨rfl,hi,p⟩;by_cases hlt:i<kvs.length
 ·refine .inr ⟨⟨hl i σ H hi p,hlt⟩,Pv (i+1),λσ' H' p'=>⟨kvs.length-(i+1),by omega,rfl,hlt,p'⟩,λx H' y=>?_⟩
  obtain⟨e1,q,e2,e3⟩:=y;subst e1 e3;exact hs i q σ _ e2 p
 ·have e:i=kvs.length:=by omega
  subst e;exact .inl ⟨⟨hl _ σ H hi p,ajb _⟩,hd σ H p⟩
section
variable{X:Cx}
end
section
variable{X:Cx}{pins:List (Addr×Obj)}{σ:St}{H:Hp}{s:Shared}
end
theorem Na:∀ {ms ns:List Int},ms.length=ns.length→Sg (ms.map V.int) (ns.map V.int)=decide (ms=ns):=by
 intro ms ns hl;rw[akw,decide_eq_true_eq];unfold Sg;rw[akh];constructor
 ·intro h
  refine List.ext_getElem hl λj h1 h2=>?_
  have:=h j (by rw[ai8];exact aki.mpr h1)
  simpa[List.getD,h1,h2,eqV] using this
 ·rintro rfl j hj
  rw[ai8]at hj;have hj:=aki.mp hj;simp[List.getD,hj,eqV]
section
variable{X:Cx}
theorem QW:∀ {x y:V} {us:List Value},Vals [x,y] us→∃ u v,us=[u,v]∧RelV x u∧RelV y v
 | _,_,_,.cons a (.cons b .nil)=>⟨_,_,rfl,a,b⟩
end
section
variable{X:Cx}
noncomputable def Vo:List V→Hp→VK→Prop:=λvs H Q=>∃(p:Addr) (kvs:List (Key×V)) (ks:List Int),vs=[.ref p]∧Rd H p (.dK kvs)∧kvs.map (·.1)=ks.map Sum.inl∧∀ l:Addr,H l=none→Q (.ref l) (upd H l (.lst (ks.map V.int)))
theorem Fg(hc:X.calm=true):vQ X (.type "list") Vo:=by
 rintro pins s σ H xs us Q I r ⟨p,kvs,ks,rfl,hp,hk,q⟩;obtain⟨u,rfl,ru⟩:=r.one;cases (show u=Value.ref p from ru);obtain⟨hz,hd,vs,rel,dd⟩:=ym I.hok hp;obtain⟨ep,hat⟩:=dd.dictAt;have hl:ks.length=kvs.length:=by
  have:=congrArg List.length hk
  simpa using this.symm
 refine PySem.W.kdl_call (PySem.W.kdl_dict (knd:=cx X.prog X.w) (kvs:=vs) (ep:=ep) hd) (I.ok.hd hc) hat (by rw[←rel.length];exact hz) λh' tk acc c hkp hS hacc=>?_;have hI:IntsAre acc.toList ks:=HP (by rw[←rel.keys];exact hk) hacc.1 hacc.2;refine⟨.ref s.heap.objs.size,_,I.laid (a:=s.heap.objs.size) (o:=.lst (ks.map V.int)) (t':=tk) hkp (ajb _) ?_,rfl,q _ (I.hok.fresh (ajb _))⟩;refine⟨by rw[ai8,hl];exact hz,acc.toList,c,rA hI,?_⟩;rw[hS]
end
section
variable{X:Cx}
end
theorem Nb{d:Addr}{o:Obj}{kvs:List (Key×V)}{tc:TT}{te:TE}{Q:VK}{D:Addr}{τ:St}{H:Hp}(Pv:Nat→List V→Hp→Prop)(h0:Pv 0 [] H)(hD:∀ i ys H,i≤kvs.length→Pv i ys H→H D=some (.lst ys)∧ys.length≤i)(hl:∀ i ys H,i≤kvs.length→Pv i ys H→H d=some (.frz o (.dK kvs)))(hn:kvs.length≤sizeLine)
  (hs:∀ i p ys H,kvs[i]?=some p→Pv i ys H→tc (some (kV p.1)::τ) H λb H4=>if b=true then te (some (kV p.1)::τ) H4 λv H5=>H5 D=some (.lst ys)∧Pv (i+1) (ys++[v]) (upd H5 D (.lst (ys++[v]))) else Pv (i+1) ys H4)
  (hd:∀ ys H,Pv kvs.length ys H→Q (.ref D) H):Oz (Itd d o kvs) D τ tc te Q H:=by
 refine⟨λi m ys H=>m=kvs.length-i∧i≤kvs.length∧Pv i ys H,⟨kvs.length,by simp,ajM _,h0⟩,?_⟩;rintro i m ys H2 ⟨rfl,hi,p⟩;obtain⟨d1,d2⟩:=hD i ys H2 hi p;refine⟨d1,?_⟩;have hS:=hl i ys H2 hi p;by_cases hlt:i<kvs.length
 ·refine .inr ⟨⟨hS,hlt⟩,by omega,Pv (i+1),λzs H' p'=>⟨kvs.length-(i+1),by omega,rfl,hlt,p'⟩,λy H3 q=>?_⟩
  obtain⟨e1,q',e2,e3⟩:=q;subst e1 e3;exact hs i q' ys _ e2 p
 ·have e:i=kvs.length:=by omega
  subst e;exact .inl ⟨⟨hS,ajb _⟩,hd ys H2 p⟩
theorem D9:typeLookup (Value.type "list") (Str.ofString "keys")=pure none:=am_miss_of_fast (by decide +kernel)
theorem list_getattr_none:typeLookup (Value.type "list") (Str.ofString "__getattr__")=pure none:=am_miss_of_fast (by decide +kernel)
section
variable{P:Program}{w:World}{A:Around}{E:Value→Shared→Prop}
theorem Tg{h:Heap}{g:Array GenState}{d:Drawn}{t:Nat}{os:OsState}{a:Addr}{its:Array Value}{n:Nat}{u:Tok}{Q:PySem.Fin→Shared→Prop}(hx:h.get? a=some {cls:=.type "list",data:=.seq its n})(hA:A.handled=none)
  (q:∀(h':Heap) (tk:Nat) (e:Addr),h.NewAttrErr h' e (.ref a) (Str.ofString "keys")→E (.ref e) {heap:=h',gens:=g,drawn:=d,toks:=tk,os:=os}) :
  wpAny (model P w) A (Builtin.«object.__getattribute__» {pos:=[.ref a,.str (Str.ofString "keys") u]}) Q E {heap:=h,gens:=g,drawn:=d,toks:=t,os:=os}:=by
 have hT:Shared.TypeIs {heap:=h,gens:=g,drawn:=d,toks:=t,os:=os} (.ref a) "list" := ⟨_,hx,rfl⟩;have f1:=D9;unfold Builtin.«object.__getattribute__»;wp_walk
 exact wpAny_raiseAttrError hA q (by decide +kernel)
theorem Pu{h:Heap}{g:Array GenState}{d:Drawn}{t:Nat}{os:OsState}{a:Addr}{its:Array Value}{n:Nat}{Q:Option Value→Shared→Prop}(hx:h.get? a=some {cls:=.type "list",data:=.seq its n})(hA:A.handled=none)
  (q:∀(h':Heap) (tk:Nat),(∀ b o,h.get? b=some o→h'.get? b=some o)→Q none {heap:=h',gens:=g,drawn:=d,toks:=tk,os:=os}) :
  wpAny (model P w) A (getAttr? (.ref a) (Str.ofString "keys")) Q E {heap:=h,gens:=g,drawn:=d,toks:=t,os:=os}:=by
 have hT:∀ t,Shared.TypeIs {heap:=h,gens:=g,drawn:=d,toks:=t,os:=os} (.ref a) "list" := λ_=>⟨_,hx,rfl⟩;have hT0:=hT t;have hT1:=hT (t+1);have f2:=PySem.F.slot_list_getattribute.lookup;have f3:=PySem.F.slot_list_getattribute.bind (Value.ref a);have f5:=list_getattr_none;have f1:=sub_AttributeError;unfold getAttr? getAttrBy?;wp_walk
 refine codeAny_call_builtin PySem.F.slot_list_getattribute.plain PySem.F.entry_list_ga (PySem.F.slot_list_getattribute.check _ _ _ _ (Value.ref a) [Value.str (Str.ofString "keys") t] [] _ hT1 (PySem.F.args_list_getattribute_2 _ _) (Tg hx (by simp[hA]) λh' tk e he=>?_));obtain⟨t',u',hg⟩:=he.there;have hTe:Shared.TypeIs {heap:=h',gens:=g,drawn:=d,toks:=tk,os:=os} (.ref e) "AttributeError" := ⟨_,hg,rfl⟩;have q':=q h' tk he.keeps;show wpAny _ _ (getattributeRaised _ _ _ _ _ _ _) _ _ _;unfold getattributeRaised;wp_walk
 all_goals exact q'
end
theorem HR:entryFor table "dict.update.loop" = some Builtin.«dict.update.loop» := entryFor_of_tree (by rfl)
theorem vT:plainId "dict.update.loop" = true:=by decide +kernel
section
variable{P:Program}{w:World}{A:Around}{R:Result→Shared→Prop}{KK:Type}[DecidableEq KK]{knd:KeyKind P w KK}
theorem stored_new{kvs:List (KK×Value)}{k:KK}{v:Value}(h:k∉kvs.map (·.1)):stored kvs k v=kvs++[(k,v)]:=by
 rw[stored.eq_1,if_neg];intro z;obtain⟨p,hp,e⟩:=List.any_eq_true.mp z;exact h (ajz.mpr ⟨p,hp,of_decide_eq_true e⟩)
theorem HU{h h':Heap}{D:Addr}{kvs:List (KK×Value)}(d:Heap.DictOf knd h D kvs)(k:∀ o,h.get? D=some o→h'.get? D=some o):Heap.DictOf knd h' D kvs:=by
 obtain⟨o,es,ep,h1,h2⟩:=d;exact⟨o,es,ep,k o h1,h2⟩
theorem Nc{I l D:Addr}{items:Array Value}(hA:A.in1.handled=none)(hne:l≠I)(hDI:D≠I)(hDl:D≠l)(kv:List (KK×Value))(hn:kv.length=items.size)(nd:(kv.map (·.1)).Nodup)(hz:kv.length≤sizeLine) :
  ∀(k i:Nat) (s:Shared),items.size-i=k→i≤items.size→(s.heap.IsListIter I l i∧s.heap.IsList l items)→Heap.DictOf knd s.heap D (kv.take i) →
  (∀ j (hj:j<kv.length),∃(b:Addr) (o:Obj) (kx:Value) (n:Nat),items[j]?=some (.ref b)∧s.heap.get? b=some o∧o.cls=.type "tuple" ∧ o.data=.seq #[kx,kv[j].2] n∧knd.is kv[j].1 kx=true∧b≠D∧b≠I) →
  (∀(h':Heap) (tk:Nat),Heap.DictOf knd h' D kv→(∀ b o,b≠D→b≠I→s.heap.get? b=some o→h'.get? b=some o)→R (.ok (.ret .none)) {s with heap:=h',toks:=tk}) →
  codeAny (model P w) A (.builtin "dict.update.loop" ⟨[.ref D,.ref I,.int (i:Int) 0,.none],[]⟩) R s:=by
 have W:=Walks.list (prog:=P) (w:=w) hA I l hne items;intro k;induction k with
 | zero =>
  intro i s hk hi st hS ht q;have e:i=items.size:=by omega
  subst e;refine codeAny_builtin HR ?_;rw[Around.under_plainId vT _];show wpAny _ A.in1 (pyNext (.ref I) >>= _) _ _ s;refine wpAny_bind (W.done s _ _ st λh' tk hm=>?_);rw[←hn,ajj (ajb _)]at hS;wp_walk
  exact q h' tk (HU hS λo z=>hm D o (by simpa using hDI) z) λb o _ nb z=>hm b o (by simpa using nb) z
 | succ k ih =>
  intro i s hk hi st hS ht q;have hlt:i<items.size:=by omega
  refine codeAny_builtin HR ?_;rw[Around.under_plainId vT _];show wpAny _ A.in1 (pyNext (.ref I) >>= _) _ _ s;refine wpAny_bind (W.item i s _ _ hlt st λv h' tk hP st' hm=>?_);obtain⟨b,o,kx,n,hb,ho,hc,hd,hk1,nb1,nb2⟩:=ht i (by omega);have hv:v=.ref b:=by
   have hP:items[i]?=some v:=hP;rw[hb]at hP;exact(ajx hP).symm
  subst hv;have ho':=hm b o (by simpa using nb2) ho;have hT:Shared.TypeIs {s with heap:=h',toks:=tk} (.ref b) "tuple" := ⟨_,ho',hc⟩;show wpAny _ A.in1 (holding [Value.ref b] _ >>= _) _ _ _;refine wpAny_bind (wpAny_holding (wpAny_bind (wpAny_tryCatch ?_)));unfold Builtin.Dict.pairItems;refine wpAny_bind (wpAny_typeOf hT ?_);rw[if_pos (by decide)];refine wpAny_bind (wpAny_seqItems ho' hd (wpAny_pure ?_));show wpAny _ A.in1 (holding [kx,kv[i].2] (dictSet D kx kv[i].2)) _ _ _;have hS':=HU (h':=h') hS λo z=>hm D o (by simpa using hDI) z;have hi':i<kv.length:=by omega
  have tk1:kv.take (i+1)=kv.take i++[kv[i]]:=ajA hi';have nk:kv[i].1∉(kv.take i).map (·.1):=λg=>by
   have h1:((kv.take i).map (·.1)++[kv[i].1]).Nodup:=by
    have e9:(kv.take (i+1)).map (·.1)=(kv.take i).map (·.1)++[kv[i].1]:=by
     rw[tk1,ajq];rfl
    rw[←e9];exact((List.take_sublist _ _).map _).nodup nd
   exact(aj2.mp h1).2.2 _ g _ (ai9.mpr rfl) rfl
  refine wpAny_holding (wpAny_dictSet_pairs hk1 hS' (λh2 dd sb=>?_) (by rw[ajp];omega));rw[stored_new nk,show kv.take i++[(kv[i].1,kv[i].2)]=kv.take (i+1) from tk1.symm]at dd;refine wpAny_pure ⟨plainId_quiet vT _,?_⟩;show codeAny (model P w) A (.builtin "dict.update.loop" ⟨[.ref D,.ref I,.int ((i+1:Nat):Int) 0,.none],[]⟩) R _;have keep:∀ b o,b≠D→b≠I→s.heap.get? b=some o→h2.get? b=some o:=λb o n1 n2 z=>(sb.2 b n1).trans (hm b o (by simpa using n2) z);refine ih (i+1) _ (by omega) hlt (W.frame _ h' h2 st' λb hb' o z=>?_) dd (λj hj=>?_) λh3 tk3 d3 k3=>q h3 tk3 d3 λb o n1 n2 z=>k3 b o n1 n2 (keep b o n1 n2 z)
  ·rw[sb.2 b (λe:b=D=>?_)]
   ·exact z
   ·rw[e]at hb'
    rcases ajo.mp hb' with g|g
    ·exact hDI g
    ·exact hDl (ai9.mp g)
  ·obtain⟨b,o,kx,n,x1,x2,x3,x4,x5,x6,x7⟩:=ht j hj
   exact⟨b,o,kx,n,x1,keep b o x6 x7 x2,x3,x4,x5,x6,x7⟩
end
section
variable{P:Program}{w:World}{A:Around}{E:Value→Shared→Prop}{KK:Type}[DecidableEq KK]{knd:KeyKind P w KK}
theorem Nd{s:Shared}{l:Addr}{items:Array Value}{nl:Nat}{Q:Value→Shared→Prop}(hA:A.handled=none)(hl:s.heap.get? l=some {cls:=.type "list",data:=.seq items nl})(kv:List (KK×Value))(hn:kv.length=items.size)(nd:(kv.map (·.1)).Nodup)(hz:kv.length≤sizeLine)
  (ht:∀ j (hj:j<kv.length),∃(b:Addr) (o:Obj) (kx:Value) (n:Nat),items[j]?=some (.ref b)∧s.heap.get? b=some o∧o.cls=.type "tuple" ∧ o.data=.seq #[kx,kv[j].2] n∧knd.is kv[j].1 kx=true)
  (q:∀(h':Heap) (tk:Nat),Heap.DictOf knd h' s.heap.objs.size kv→(∀ b o,s.heap.get? b=some o→h'.get? b=some o)→Q (.ref s.heap.objs.size) {s with heap:=h',toks:=tk}) :
  wpAny (model P w) A (call (.type "dict") [.ref l]) Q E s:=by
 obtain⟨h0,g,d,t,os⟩:=s;dsimp only at hl ht q;refine callType_codes PySem.F.kt_called_dict (PySem.F.kt_typeCall_dict_1 _) PySem.F.entry_dict_init (kt_code_dict_new (Q₁:=λv u=>v=.ref h0.objs.size∧u={heap:=h0.push {cls:=.type "dict",data:=.dict #[]},gens:=g,drawn:=d,toks:=t,os:=os}) _ ⟨rfl,rfl⟩) λobj s1 ⟨e1,e2⟩=>?_;subst e1 e2;have Ue:=Heap.DictOf.new (knd:=knd) h0;have hp:∀ b o,h0.get? b=some o→(h0.push {cls:=.type "dict",data:=.dict #[]}).get? b=some o:=λb o z=>aja _ z;have hT:=Ue.typeIs (s:={heap:=h0.push {cls:=.type "dict",data:=.dict #[]},gens:=g,drawn:=d,toks:=t,os:=os});have hTl:Shared.TypeIs {heap:=h0.push {cls:=.type "dict",data:=.dict #[]},gens:=g,drawn:=d,toks:=t,os:=os} (.ref l) "list" := ⟨_,hp _ _ hl,rfl⟩;refine⟨hT,PySem.F.args_dict_init_2 _ _,?_⟩;unfold Builtin.«dict.__init__» Builtin.Dict.selfAndRest;refine wpAny_bind (wpAny_bind (wpAny_notOrdered_dict hT ?_));show wpAny _ _ (pure _) _ _ _;refine wpAny_pure ?_;show wpAny _ _ (Builtin.Dict.updateFrom _ _ _ _ _) _ _ _;unfold Builtin.Dict.updateFrom;refine wpAny_bind (wpAny_typeOf hTl ?_);dsimp only;rw[if_pos (by decide)];refine wpAny_bind (Pu (hp _ _ hl) (by simp[hA]) λh1 tk1 k1=>?_)
 try dsimp only
 rw[if_pos (show(none:Option Value).isNone=true from rfl)];refine wpAny_bind (wpAny_rule ?_);have hl1:h1.IsList l items:=⟨_,k1 _ _ (hp _ _ hl),rfl,_,rfl⟩;refine wpAny_bind (wpAny_pyIter_list hl1 ?_);refine wpAny_pure ⟨plainId_quiet vT _,?_⟩;have l0:l<h0.objs.size:=ajg hl;obtain⟨oD,esD,epD,gD,Yg⟩:=Ue;have gD1:=k1 _ _ gD;have s1:h0.objs.size<h1.objs.size:=ajg gD1;have up:∀ b o,h0.get? b=some o→(h1.push {cls:=Value.type "list_iterator",data:=Data.fields #[Value.ref l,Value.int 0 0]}).get? b=some o:=λb o z=>aja _ (k1 _ _ (hp _ _ z));refine Nc (knd:=knd) (I:=h1.objs.size) (l:=l) (D:=h0.objs.size) (items:=items) (by simp[hA]) (ajl (Nat.lt_trans l0 s1)) (ajl s1) (akk l0) kv hn nd hz (items.size-0) 0 _ rfl (ajM _) ⟨⟨_,ajC _ rfl,rfl,rfl⟩,hl1.push _⟩ ?_ (λj hj=>?_) λh' tk dd kk=>?_
 ·exact⟨oD,esD,epD,aja _ gD1,Yg⟩
 ·obtain⟨b,o,kx,n,x1,x2,x3,x4,x5⟩:=ht j hj
  have b0:=ajg x2;exact⟨b,o,kx,n,x1,up _ _ x2,x3,x4,x5,ajl b0,ajl (Nat.lt_trans b0 s1)⟩
 ·refine⟨rfl,q h' tk dd λb o z=>?_⟩
  have b0:=ajg z;exact kk b o (ajl b0) (ajl (Nat.lt_trans b0 s1)) (up _ _ z)
end
section
variable{P:Program}{w:World}{A:Around}{E:Value→Shared→Prop}
end
section
variable{X:Cx}
theorem L9{pins:List (Addr×Obj)}{σ:St}{H:Hp}{s:Shared}(I:Inv X pins σ H s):∀(xs:List Addr) (kvs:List (Key×V)),Paired (λx (p:Key×V)=>H x=some (.tup [kV p.1,p.2])) xs kvs →
  ∃ vs:List (Key×Value),KV kvs vs∧vs.map (·.1)=kvs.map (·.1)∧vs.length=xs.length∧∀ j (h1:j<vs.length) (h2:j<xs.length),∃(o:Obj) (kx:Value) (n:Nat),s.heap.get? xs[j]=some o∧o.cls=.type "tuple" ∧ o.data=.seq #[kx,vs[j].2] n∧(cx X.prog X.w).is vs[j].1 kx=true
 | _,_,.nil=>⟨[],.nil,rfl,rfl,λj h=>absurd h (akz _)⟩
 | x::xs,p::kvs,.cons h t=>by
  obtain⟨vs,r1,r2,r3,r4⟩:=L9 I xs kvs t;obtain⟨its,rv,⟨o,ho,hc,n,hd⟩,_⟩:=I.tuple (SqT.of h);obtain⟨u,v,rfl,ru,rv'⟩:=QW rv;refine⟨(p.1,v)::vs,.cons ⟨rfl,rv'⟩ r1,by rw[aju,aju,r2],by rw[ajE,ajE,r3],λj h1 h2=>?_⟩;cases j with
  | zero=>exact⟨o,u,n,ho,hc,hd,Di ru⟩
  | succ j=>exact r4 j (Nat.lt_of_succ_lt_succ h1) (Nat.lt_of_succ_lt_succ h2)
theorem Ma:∀ {xs:List Addr} {its:List Value},Vals (xs.map V.ref) its→its=xs.map Value.ref
 | [],_,.nil=>rfl
 | x::xs,_,.cons r t=>by
  cases (show _=Value.ref x from r);rw[aju,←Ma t]
noncomputable def Vp:List V→Hp→VK→Prop:=λvs H Q=>∃(p:Addr) (xs:List Addr) (kvs:List (Key×V)),vs=[.ref p]∧H p=some (.lst (xs.map V.ref))∧Paired (λx (p:Key×V)=>H x=some (.tup [kV p.1,p.2])) xs kvs∧(kvs.map (·.1)).Nodup∧∀ l:Addr,H l=none→Q (.ref l) (upd H l (.dK kvs))
theorem Fh(hc:X.calm=true):vQ X (.type "dict") Vp:=by
 rintro pins s σ H xs us Q I r ⟨p,xs,kvs,rfl,hp,hpr,nd,q⟩;obtain⟨u,rfl,ru⟩:=r.one;cases (show u=Value.ref p from ru);obtain⟨its,n,rv,ho,hz⟩:=I.lst hp;obtain⟨vs,r1,r2,r3,r4⟩:=L9 I xs kvs hpr;have ei:=Ma rv;subst ei;rw[ai8]at hz;have hl:kvs.length=vs.length:=by
  have:=congrArg List.length r2
  simpa using this.symm
 refine Nd (knd:=cx X.prog X.w) (I.ok.hd hc) ho vs (by simp[r3]) (by rw[r2];exact nd) (by omega) (λj hj=>?_) λh' tk dd k=>?_
 ·obtain⟨o,kx,n,x1,x2,x3,x4⟩:=r4 j hj (by omega)
  exact⟨xs[j],o,kx,n,by simp[show j<xs.length by omega],x1,x2,x3,x4⟩
 ·refine⟨.ref s.heap.objs.size,_,I.laid (a:=s.heap.objs.size) (o:=.dK kvs) (t':=tk) k (ajb _) ?_,rfl,q _ (I.hok.fresh (ajb _))⟩
  exact Oa (by omega) (beq_eq_false_iff_ne.mpr (ajm (ajl I.big))) r1 dd
end
noncomputable def Of(K:W.Frag)(Dc:Addr)(ts:TS)(D:Ends):St→XK:=λσ c _ H=>∃ C cd,c=.ref C∧i8 K C cd∧cd.mro.contains (.ref Dc)=true∧ts D σ H
noncomputable def Yh(K:W.Frag)(Dc:Addr)(tb:(St→XK)→TS)(ts:TS):TS:=λD σ H=>tb (Of K Dc ts D) D σ H
section
variable{X:Cx}
theorem OA{body Ur:List Stmt}{b₀:Stmt}{x:Str}{np hpos pos:Pos}{Dc:Addr}{cdD:ClassData}{tb:(St→XK)→TS}{ts:TS}(hst:X.stack=X.env::X.outer)(hfr:X.env.frame=some X.env.locals)(hg:Gl X x)(hm:X.mg x=some (.ref Dc))
  (hD:i8 X.K Dc cdD)
  (hb:∀(pins:List (Addr×Obj)) (E:Value→Shared→Prop) (EK:St→XK),kB (CXE X.prog X.w) (X.Km pins E) EK→PSs (X.Km pins E) body (tb EK))
  (hs:∀ ea,PSs (X.AX ea) (b₀::Ur) ts) (hdb:(x == ("__debug__" : Str))=false:=by decide) :
  PS X (.Try body [.ExceptHandler (some (.Name x np)) none (b₀::Ur) hpos] [] [] pos) (Yh X.K Dc tb ts):=by
 intro pins s σ H D I h;refine wpAny_Try_except ?_;refine wpAny_mono (hb pins (λe s₁=>∃ σ' H1 sc,Inv X pins σ' H1 sc∧CXE X.prog X.w X.stack H1 sc (Of X.K Dc ts D σ') e s₁) (Of X.K Dc ts D)
  (λMU σ' H1 sc e s' J q=>⟨σ',H1,sc,J.Bl,q⟩) [] s σ H D (I.Km _) h) (λfl s1 q=>?_) λe s1 q=>?_
 ·cases fl with
  | next =>
   obtain⟨σ',H',J,q⟩:=q;exact wpAny_execs_nil ⟨σ',H',J.Bl,q⟩
  | brk=>obtain⟨σ',H',J,q⟩:=q;exact⟨σ',H',J.Bl,q⟩
  | cont=>obtain⟨σ',H',J,q⟩:=q;exact⟨σ',H',J.Bl,q⟩
  | ret u=>obtain⟨v,σ',H',J,r,q⟩:=q;exact⟨v,σ',H',J.Bl,r,q⟩
 ·obtain⟨σ',H1,sc,J,ea,Cv,T,od,fs,sl,H',rfl,l,C,cd,ec,xc,hmr,q⟩:=q
  cases ec;have hA:X.A.frames=some (X.env::X.outer):=by rw[J.ok.frames,hst]
  have hF:s1.heap.FunFrames X.base (X.env::X.outer):=by rw[←hst];exact l.frames J
  have st:∀(m:Heap) (tk:Nat),Kept (gf X.stack) [ea,T] s1.heap m→Inv X pins σ' H' {s1 with heap:=m,toks:=tk}:=λm tk k=>by
   obtain⟨un,hok⟩:=l.on (t':=s1.toks) J k;exact J.Kj l.os un hok l.bare λb z=>absurd z (by simp)
  refine Kd hA hF hfr l.at_ l.trail λm T' oc tsx z1 z2 z3 z4 z5=>?_;have Te:T'≠ea:=akk (ajn (ajg l.at_) z1);have f1:(fs.setIfInBounds 1 (Value.ref T'))[1]?=some (.ref T'):=by
   have:=l.trail.size
   simp[this]
  have k1:Kept (gf X.stack) [ea,T] s1.heap m:=by rw[hst];exact z2
  refine sP (s:={s1 with heap:=m}) z3 f1 Te z4 (ajw.mp z5).1 λm' q1 q2 q3=>?_;have nT:∀ b o,s1.heap.get? b=some o→b≠T':=λb o q=>ajl (ajn (ajg q) z1);have k2:Kept (gf X.stack) [ea,T] s1.heap m':=⟨λb o q hb hx=>q1 b o (nT b o q) (k1.plain b o q hb hx),λb o q hb hx=>by
   obtain⟨sm,r⟩:=k1.frame b o q hb hx;exact⟨sm,q1 b _ (nT b o q) r⟩⟩
  have J2:=st m' s1.toks k2;refine wpAny_handleBy_cons (codeAny_handlers_test ?_) (by intro z;cases z);refine tT (X:=X.AX ea) (J2.AX ea) hg hm ?_ hdb;refine KN xc hD J2.kIn q3 ?_;rw[hmr];refine codeAny_handlers_suite ?_;cases q2 with
  | @some _ oc2 ts2 d2 sm2 y1 y2 y3 y4 =>
  refine sP (s:={s1 with heap:=m'}) q3 y1 y2 y3 (ajw.mp y4).1 λm3 r1 r2 r3=>?_;have k3:Kept (gf X.stack) [ea,T] s1.heap m3:=⟨λb o q hb hx=>r1 b o (nT b o q) (k2.plain b o q hb hx),λb o q hb hx=>by
   obtain⟨sm,r⟩:=k2.frame b o q hb hx;exact⟨sm,r1 b _ (nT b o q) r⟩⟩
  have J3:=st m3 s1.toks k3;refine wpAny_mono (hs ea pins _ _ _ D (J3.AX ea) q) (λfl s6 w=>?_) λ_ _ z=>False.elim z;cases fl with
  | next=>obtain⟨σ6,H6,J6,w⟩:=w;exact⟨_,_,J6.uncaught J.ok,w⟩
  | brk=>obtain⟨σ6,H6,J6,w⟩:=w;exact⟨_,_,J6.uncaught J.ok,w⟩
  | cont=>obtain⟨σ6,H6,J6,w⟩:=w;exact⟨_,_,J6.uncaught J.ok,w⟩
  | ret u=>obtain⟨v,σ6,H6,J6,r,w⟩:=w;exact⟨v,_,_,J6.uncaught J.ok,r,w⟩
end
inductive Vl where
 | a (v:V)
 | l (xs:List Vl)
 | t (xs:List Vl)
noncomputable def Rp(H:Hp):Nat→V→Vl→Prop
 | 0,v,.a x=>v=x∧jU x=true
 | 0,_,.l _=>False
 | 0,_,.t _=>False
 | _+1,v,.a x=>v=x∧jU x=true
 | n+1,v,.l xs=>∃ p us,v=.ref p∧H p=some (.lst us)∧us.length=xs.length∧∀(i:Nat) (u:V) (x:Vl),us[i]?=some u→xs[i]?=some x→Rp H n u x
 | n+1,v,.t xs=>∃ p us,v=.ref p∧H p=some (.tup us)∧us.length=xs.length∧∀(i:Nat) (u:V) (x:Vl),us[i]?=some u→xs[i]?=some x→Rp H n u x
noncomputable def eqD:Nat→Vl→Vl→Bool
 | _,.a x,.a y=>eqV x y
 | n+1,.l xs,.l ys=>(List.range xs.length).all (λi=>match xs[i]?,ys[i]? with|some x,some y=>eqD n x y|_,_=>true)&&xs.length == ys.length
 | n+1,.t xs,.t ys=>(List.range xs.length).all (λi=>match xs[i]?,ys[i]? with|some x,some y=>eqD n x y|_,_=>true)&&xs.length == ys.length
 | _,_,_=>false
theorem Rp.CY{H:Hp}{n:Nat}{v x:V}(h:Rp H n v (.a x)):v=x∧jU x=true:=by cases n<;>exact h
theorem Ko{n:Nat}{x y:V}:eqD n (.a x) (.a y)=eqV x y:=by cases n<;>rfl
theorem Rx{H:Hp}{n:Nat}{us:List V}{xs ys:List Vl}(lx:us.length=xs.length)(ly:us.length=ys.length)(h:∀(i:Nat) (x y:Vl),xs[i]?=some x→ys[i]?=some y→eqD n x y=true) :
  ((List.range xs.length).all (λi=>match xs[i]?,ys[i]? with|some x,some y=>eqD n x y|_,_=>true)&&xs.length == ys.length)=true:=by
 rw[akI];refine⟨akh.mpr λi hi=>?_,beq_iff_eq.mpr (by omega)⟩;have hi:=aki.mp hi;have e1:xs[i]?=some xs[i]:=ai7 hi;have e2:ys[i]?=some (ys[i]'(by omega)):=ai7 (by omega);simp only[e1,e2];exact h i _ _ e1 e2
theorem nz{H:Hp}:∀ {n:Nat} {v:V} {a b:Vl},Rp H n v a→Rp H n v b→eqD n a b=true:=by
 intro n;induction n with
 | zero =>
  intro v a b ha hb;cases a with
  | a x =>
   cases b with
   | a y =>
    obtain⟨rfl,fx⟩:=ha.CY;obtain⟨rfl,_⟩:=hb.CY;rw[Ko];exact Ru fx
   | l ys=>exact hb.elim
   | t ys=>exact hb.elim
  | l xs=>exact ha.elim
  | t xs=>exact ha.elim
 | succ n ih =>
  intro v a b ha hb;cases a with
  | a x =>
   obtain⟨rfl,fx⟩:=ha.CY;cases b with
   | a y =>
    obtain⟨rfl,_⟩:=hb.CY;rw[Ko];exact Ru fx
   | l ys =>
    obtain⟨p,us,rfl,_⟩:=hb;exact absurd (show false=true from fx) ajc
   | t ys =>
    obtain⟨p,us,rfl,_⟩:=hb;exact absurd (show false=true from fx) ajc
  | l xs =>
   obtain⟨p,us,rfl,hp,hl,hi⟩:=ha;cases b with
   | a y =>
    obtain⟨e,fy⟩:=hb.CY;rw[←e]at fy;exact absurd (show false=true from fy) ajc
   | l ys =>
    obtain⟨q,ws,e,hq,ml,mi⟩:=hb;cases e;rw[hp]at hq;cases hq;exact Rx (H:=H) hl ml λi x y e1 e2=>by
     have hiu:i<us.length:=(by rw[hl];exact(ai6.mp e1).1);exact ih (hi i _ x (ai7 hiu) e1) (mi i _ y (ai7 hiu) e2)
   | t ys =>
    obtain⟨q,ws,e,hq,ml,mi⟩:=hb;cases e;rw[hp]at hq;cases hq
  | t xs =>
   obtain⟨p,us,rfl,hp,hl,hi⟩:=ha;cases b with
   | a y =>
    obtain⟨e,fy⟩:=hb.CY;rw[←e]at fy;exact absurd (show false=true from fy) ajc
   | t ys =>
    obtain⟨q,ws,e,hq,ml,mi⟩:=hb;cases e;rw[hp]at hq;cases hq;exact Rx (H:=H) hl ml λi x y e1 e2=>by
     have hiu:i<us.length:=(by rw[hl];exact(ai6.mp e1).1);exact ih (hi i _ x (ai7 hiu) e1) (mi i _ y (ai7 hiu) e2)
   | l ys =>
    obtain⟨q,ws,e,hq,ml,mi⟩:=hb;cases e;rw[hp]at hq;cases hq
structure RcB(A:Around)(s:Shared)(u v:Value)(b:Bool):Prop where
 eq:SeqAt.RcAt A s u v b
 ne:SeqAt.RcNeAt A s u v (!b)
theorem HV{A:Around}{s:Shared}{y x:V}{u v:Value}(ry:RelV y u)(rx:RelV x v)(fy:jU y=true)(fx:jU x=true):RcB A s u v (eqV y x):=by
 cases y with
 | non =>
  cases ry;cases x with
  | non=>cases rx;exact⟨.none_none ,.none_none ⟩
  | bl b=>cases rx;exact⟨.none_bool b,.none_bool b⟩
  | int b=>obtain⟨t,rfl⟩:=rx;exact⟨.none_int b t,.none_int b t⟩
  | str b=>obtain⟨t,rfl⟩:=rx;exact⟨.none_str b t,.none_str b t⟩
  | _=>exact absurd (show false=true from fx) ajc
 | bl a =>
  cases ry;cases x with
  | non=>cases rx;exact⟨.bool_none a,.bool_none a⟩
  | bl b=>cases rx;exact⟨.bool_bool a b,.bool_bool a b⟩
  | int b=>obtain⟨t,rfl⟩:=rx;exact⟨.bool_int a b t,.bool_int a b t⟩
  | str b=>obtain⟨t,rfl⟩:=rx;exact⟨.bool_str a b t,.bool_str a b t⟩
  | _=>exact absurd (show false=true from fx) ajc
 | int a =>
  obtain⟨t',rfl⟩:=ry;cases x with
  | non=>cases rx;exact⟨.int_none a t',.int_none a t'⟩
  | bl b=>cases rx;exact⟨.int_bool a t' b,.int_bool a t' b⟩
  | int b=>obtain⟨t,rfl⟩:=rx;exact⟨.int_int a t' b t,.int_int a t' b t⟩
  | str b=>obtain⟨t,rfl⟩:=rx;exact⟨.int_str a t' b t,.int_str a t' b t⟩
  | _=>exact absurd (show false=true from fx) ajc
 | str a =>
  obtain⟨t',rfl⟩:=ry;cases x with
  | non=>cases rx;exact⟨.str_none a t',.str_none a t'⟩
  | bl b=>cases rx;exact⟨.str_bool a t' b,.str_bool a t' b⟩
  | int b=>obtain⟨t,rfl⟩:=rx;exact⟨.str_int a t' b t,.str_int a t' b t⟩
  | str b=>obtain⟨t,rfl⟩:=rx;exact⟨.str_str a t' b t,.str_str a t' b t⟩
  | _=>exact absurd (show false=true from fx) ajc
 | _=>exact absurd (show false=true from fy) ajc
section
variable{X:Cx}{pins:List (Addr×Obj)}{σ:St}{H:Hp}{s:Shared}
theorem Mb{A:Around}{x:V}{u:Value}{l:Addr}{items:Array Value}(rx:RelV x u)(fx:jU x=true)(hl:s.heap.IsList l items)(hu:A.units<cLine):RcB A s u (.ref l) false∧RcB A s (.ref l) u false∧SeqAt.EqAt A s u (.ref l) false∧SeqAt.EqAt A s (.ref l) u false:=by
 cases x with
 | non=>cases rx;exact⟨⟨.none_list hl hu,.none_list hl hu⟩,⟨.list_none hl hu,.list_none hl hu⟩,.none_list hl hu,.list_none hl hu⟩
 | bl b=>cases rx;exact⟨⟨.bool_list _ hl hu,.bool_list _ hl hu⟩,⟨.list_bool _ hl hu,.list_bool _ hl hu⟩,.bool_list _ hl hu,.list_bool _ hl hu⟩
 | int n=>obtain⟨t,rfl⟩:=rx;exact⟨⟨.int_list _ _ hl hu,.int_list _ _ hl hu⟩,⟨.list_int _ _ hl hu,.list_int _ _ hl hu⟩,.int_list _ _ hl hu,.list_int _ _ hl hu⟩
 | str z=>obtain⟨t,rfl⟩:=rx;exact⟨⟨.str_list _ _ hl hu,.str_list _ _ hl hu⟩,⟨.list_str _ _ hl hu,.list_str _ _ hl hu⟩,.str_list _ _ hl hu,.list_str _ _ hl hu⟩
 | _=>exact absurd (show false=true from fx) ajc
theorem Mc{A:Around}{x:V}{u:Value}{l:Addr}{items:Array Value}(rx:RelV x u)(fx:jU x=true)(hl:s.heap.IsTuple l items)(hu:A.units<cLine):RcB A s u (.ref l) false∧RcB A s (.ref l) u false∧SeqAt.EqAt A s u (.ref l) false∧SeqAt.EqAt A s (.ref l) u false:=by
 cases x with
 | non=>cases rx;exact⟨⟨.none_tuple hl hu,.none_tuple hl hu⟩,⟨.tuple_none hl hu,.tuple_none hl hu⟩,.none_tuple hl hu,.tuple_none hl hu⟩
 | bl b=>cases rx;exact⟨⟨.bool_tuple _ hl hu,.bool_tuple _ hl hu⟩,⟨.tuple_bool _ hl hu,.tuple_bool _ hl hu⟩,.bool_tuple _ hl hu,.tuple_bool _ hl hu⟩
 | int n=>obtain⟨t,rfl⟩:=rx;exact⟨⟨.int_tuple _ _ hl hu,.int_tuple _ _ hl hu⟩,⟨.tuple_int _ _ hl hu,.tuple_int _ _ hl hu⟩,.int_tuple _ _ hl hu,.tuple_int _ _ hl hu⟩
 | str z=>obtain⟨t,rfl⟩:=rx;exact⟨⟨.str_tuple _ _ hl hu,.str_tuple _ _ hl hu⟩,⟨.tuple_str _ _ hl hu,.tuple_str _ _ hl hu⟩,.str_tuple _ _ hl hu,.tuple_str _ _ hl hu⟩
 | _=>exact absurd (show false=true from fx) ajc
theorem lst_is(I:Inv X pins σ H s){p:Addr}{us:List V}(h:H p=some (.lst us)):∃ vs,Vals us vs∧s.heap.IsList p vs.toArray:=by
 obtain⟨vs,r,⟨o,n,e,c,_,g⟩,_⟩:=I.list (SqL.of h);exact⟨vs,r,o,e,c,n,g⟩
theorem tup_is(I:Inv X pins σ H s){p:Addr}{us:List V}(h:H p=some (.tup us)):∃ vs,Vals us vs∧s.heap.IsTuple p vs.toArray:=by
 obtain⟨vs,r,t,_⟩:=I.tuple (SqT.of h);exact⟨vs,r,t⟩
theorem rcG(I:Inv X pins σ H s):∀ {n:Nat} {x y:V} {a b:Vl},Rp H n x a→Rp H n y b→∀ {A:Around} {u v:Value},RelV x u→RelV y v→A.units+n<cLine →
  SeqAt.EqAt A s u v (eqD n a b)∧(¬((∃ z,a=.a z)∧∃ z,b=.a z)→RcB A s u v (eqD n a b)):=by
 intro n;induction n with
 | zero =>
  intro x y a b ha hb A u v rx ry hu;cases a with
  | a z =>
   cases b with
   | a z' =>
    obtain⟨rfl,fx⟩:=ha.CY;obtain⟨rfl,fy⟩:=hb.CY;rw[Ko];exact⟨Kk rx ry fx fy,λh=>(h ⟨⟨_,rfl⟩,_,rfl⟩).elim⟩
   | _=>exact hb.elim
  | _=>exact ha.elim
 | succ n ih =>
  intro x y a b ha hb A u v rx ry hu;have hu0:A.units<cLine:=by omega
  cases a with
  | a z =>
   obtain⟨rfl,fx⟩:=ha.CY;cases b with
   | a z' =>
    obtain⟨rfl,fy⟩:=hb.CY;rw[Ko];exact⟨Kk rx ry fx fy,λh=>(h ⟨⟨_,rfl⟩,_,rfl⟩).elim⟩
   | l ys =>
    obtain⟨q,ws,rfl,hq,_⟩:=hb;obtain⟨vs,_,hl⟩:=lst_is I hq;cases ry;obtain⟨h1,_,h3,_⟩:=Mb rx fx hl hu0;exact⟨h3,λ_=>h1⟩
   | t ys =>
    obtain⟨q,ws,rfl,hq,_⟩:=hb;obtain⟨vs,_,hl⟩:=tup_is I hq;cases ry;obtain⟨h1,_,h3,_⟩:=Mc rx fx hl hu0;exact⟨h3,λ_=>h1⟩
  | l xs =>
   have ha':=ha;obtain⟨p,us,rfl,hp,lx,hx⟩:=ha;obtain⟨vs,r1,hl⟩:=lst_is I hp;cases rx;cases b with
   | a z' =>
    obtain⟨rfl,fy⟩:=hb.CY;obtain⟨_,h2,_,h4⟩:=Mb ry fy hl hu0;exact⟨h4,λ_=>h2⟩
   | l ys =>
    have hb':=hb;obtain⟨q,ws,rfl,hq,ly,hy⟩:=hb;obtain⟨vs2,r2,hl2⟩:=lst_is I hq;cases ry;have l1:=r1.length;have l2:=r2.length;have rc:RcB A s (.ref p) (.ref q) (eqD (n+1) (.l xs) (.l ys)):=by
     by_cases hs:xs.length=ys.length
     ·have he:∀ j (h1:j<vs.toArray.size) (h2:j<vs2.toArray.size),SeqAt.EqAt A.in1 s vs.toArray[j] vs2.toArray[j] (match xs[j]?,ys[j]? with|some x,some y=>eqD n x y|_,_=>true):=λj h1 h2=>by
       simp only[ajd]at h1 h2;obtain⟨w1,z1,rz1⟩:=r1.get (i:=j) (x:=us[j]'(by omega)) (ai7 (by omega));obtain⟨w2,z2,rz2⟩:=r2.get (i:=j) (x:=ws[j]'(by omega)) (ai7 (by omega));have a1:vs.toArray[j]=w1:=by
        have:=(ai6.mp z1).2
        simpa using this
       have a2:vs2.toArray[j]=w2:=by
        have:=(ai6.mp z2).2
        simpa using this
       rw[a1,a2];have e1:xs[j]?=some (xs[j]'(by omega)):=ai7 (by omega);have e2:ys[j]?=some (ys[j]'(by omega)):=ai7 (by omega);simp only[e1,e2];exact(ih (hx j _ _ (ai7 (by omega)) e1) (hy j _ _ (ai7 (by omega)) e2) rz1 rz2 (by rw[Around.in1_units];omega)).1
      have e:eqD (n+1) (.l xs) (.l ys)=(List.range vs.toArray.size).all (λi=>match xs[i]?,ys[i]? with|some x,some y=>eqD n x y|_,_=>true):=by
       show(_&&_)=_;rw[beq_iff_eq.mpr hs,Bool.and_true];simp only[ajd];rw[show vs.length=xs.length by omega]
      rw[e];exact⟨.lists hl hl2 (by simp only[ajd];omega) hu0 he,.lists hl hl2 (by simp only[ajd];omega) hu0 he⟩
     ·have e:eqD (n+1) (.l xs) (.l ys)=false:=by
       show(_&&_)=_;rw[beq_eq_false_iff_ne.mpr hs,akQ]
      rw[e];exact⟨.lists_lengths hl hl2 (by simp only[ajd,bne_iff_ne,ne_eq];omega) hu0,.lists_lengths hl hl2 (by simp only[ajd,bne_iff_ne,ne_eq];omega) hu0⟩
    refine⟨?_,λ_=>rc⟩;by_cases e:p=q
    ·subst e
     rw[nz ha' hb'];exact .same _
    ·exact .of_refs e rc.eq
   | t ys =>
    obtain⟨q,ws,rfl,hq,ly,hy⟩:=hb;obtain⟨vs2,r2,hl2⟩:=tup_is I hq;cases ry;have ne:p≠q:=λe=>by rw[e,hq]at hp;cases hp
    exact⟨.of_refs ne (.list_tuple hl hl2 hu0),λ_=>⟨.list_tuple hl hl2 hu0,.list_tuple hl hl2 hu0⟩⟩
  | t xs =>
   have ha':=ha;obtain⟨p,us,rfl,hp,lx,hx⟩:=ha;obtain⟨vs,r1,hl⟩:=tup_is I hp;cases rx;cases b with
   | a z' =>
    obtain⟨rfl,fy⟩:=hb.CY;obtain⟨_,h2,_,h4⟩:=Mc ry fy hl hu0;exact⟨h4,λ_=>h2⟩
   | l ys =>
    obtain⟨q,ws,rfl,hq,ly,hy⟩:=hb;obtain⟨vs2,r2,hl2⟩:=lst_is I hq;cases ry;have ne:p≠q:=λe=>by rw[e,hq]at hp;cases hp
    exact⟨.of_refs ne (.tuple_list hl hl2 hu0),λ_=>⟨.tuple_list hl hl2 hu0,.tuple_list hl hl2 hu0⟩⟩
   | t ys =>
    have hb':=hb;obtain⟨q,ws,rfl,hq,ly,hy⟩:=hb;obtain⟨vs2,r2,hl2⟩:=tup_is I hq;cases ry;have l1:=r1.length;have l2:=r2.length;have he:∀ j (h1:j<vs.toArray.size) (h2:j<vs2.toArray.size),SeqAt.EqAt A.in1 s vs.toArray[j] vs2.toArray[j] (match xs[j]?,ys[j]? with|some x,some y=>eqD n x y|_,_=>true):=λj h1 h2=>by
     simp only[ajd]at h1 h2;obtain⟨w1,z1,rz1⟩:=r1.get (i:=j) (x:=us[j]'(by omega)) (ai7 (by omega));obtain⟨w2,z2,rz2⟩:=r2.get (i:=j) (x:=ws[j]'(by omega)) (ai7 (by omega));have a1:vs.toArray[j]=w1:=by
      have:=(ai6.mp z1).2
      simpa using this
     have a2:vs2.toArray[j]=w2:=by
      have:=(ai6.mp z2).2
      simpa using this
     rw[a1,a2];have e1:xs[j]?=some (xs[j]'(by omega)):=ai7 (by omega);have e2:ys[j]?=some (ys[j]'(by omega)):=ai7 (by omega);simp only[e1,e2];exact(ih (hx j _ _ (ai7 (by omega)) e1) (hy j _ _ (ai7 (by omega)) e2) rz1 rz2 (by rw[Around.in1_units];omega)).1
    have e:eqD (n+1) (.t xs) (.t ys)=((List.range (min vs.toArray.size vs2.toArray.size)).all (λi=>match xs[i]?,ys[i]? with|some x,some y=>eqD n x y|_,_=>true)&&vs.toArray.size == vs2.toArray.size):=by
     show(_&&_)=_;simp only[ajd];by_cases hs:xs.length=ys.length
     ·rw[show min vs.length vs2.length=xs.length by omega,show(vs.length == vs2.length)=(xs.length == ys.length) by rw[show vs.length=xs.length by omega,show vs2.length=ys.length by omega]]
     ·rw[beq_eq_false_iff_ne.mpr hs,show(vs.length == vs2.length)=false from beq_eq_false_iff_ne.mpr (by omega),akQ,akQ]
    have rc:RcB A s (.ref p) (.ref q) (eqD (n+1) (.t xs) (.t ys)):=by
     rw[e];exact⟨.tuples hl hl2 hu0 he,.tuples hl hl2 hu0 he⟩
    refine⟨?_,λ_=>rc⟩;by_cases e:p=q
    ·subst e
     rw[nz ha' hb'];exact .same _
    ·exact .of_refs e rc.eq
end
noncomputable def aiw(n:Nat):R2:=λx y H Q=>∃ a b,Rp H n x a∧Rp H n y b∧Q (.bl (eqD n a b)) H
noncomputable def aix(n:Nat):R2:=λx y H Q=>∃ a b,Rp H n x a∧Rp H n y b∧Q (.bl (!eqD n a b)) H
section
variable{X:Cx}
theorem Vq{n:Nat}(hu:X.A.units+n<cLine):OpR X (compareOp .Eq) (aiw n):=by
 rintro pins s σ H x y v u Q I rx ry ⟨a,b,ha,hb,q⟩;by_cases h:(∃ z,a=.a z)∧∃ z,b=.a z
 ·obtain⟨⟨z,rfl⟩,z',rfl⟩:=h
  obtain⟨rfl,fx⟩:=ha.CY;obtain⟨rfl,fy⟩:=hb.CY;rw[Ko]at q;exact(HV rx ry fx fy).eq _ _ _ _ ⟨.bl _,H,I,rfl,q⟩
 ·exact((rcG I ha hb rx ry hu).2 h).eq _ _ _ _ ⟨.bl _,H,I,rfl,q⟩
theorem Kp{n:Nat}(hu:X.A.units+n<cLine):OpR X (compareOp .NotEq) (aix n):=by
 rintro pins s σ H x y v u Q I rx ry ⟨a,b,ha,hb,q⟩;by_cases h:(∃ z,a=.a z)∧∃ z,b=.a z
 ·obtain⟨⟨z,rfl⟩,z',rfl⟩:=h
  obtain⟨rfl,fx⟩:=ha.CY;obtain⟨rfl,fy⟩:=hb.CY;rw[Ko]at q;exact(HV rx ry fx fy).ne _ _ _ _ ⟨.bl _,H,I,rfl,q⟩
 ·exact((rcG I ha hb rx ry hu).2 h).ne _ _ _ _ ⟨.bl _,H,I,rfl,q⟩
end
section
variable{X:Cx}{pins:List (Addr×Obj)}{σ:St}{H:Hp}{s:Shared}{d:Addr}{o:Obj}{u:HO}
theorem Inv.Xv(I:Inv X pins σ H s)(hd:H d=some (.frz o u))(h0:∀ o u,X.H₀ d≠some (.frz o u))(nt:∀ xs,u≠.tup xs)(no:∀ x,u≠.own x)(nb:∀ ps,u≠.tbl ps):Inv X pins σ (upd H d u) s:=by
 have nn:∀ {b:Addr},H b=none→upd H d u b=none:=λ{b} q=>by
  rw[af λz=>by rw[z,hd]at q;cases q];exact q
 have ns:∀ {b:Addr} {v:HO},H b=some v→(∀ o w,v≠.frz o w)→upd H d u b=some v:=λ{b v} q n=>by
  rw[af λz=>n o u (by rw[z,hd]at q;exact(ajx q).symm)];exact q
 refine⟨I.ok,I.os,I.bare,⟨I.base.keep,I.base.slot,λb ob q n e=>nn (I.base.free b ob q n e),I.base.there,λb xs q=>ns (I.base.HC b xs q) (by intro _ _ z;cases z),λb ob w q=>?_,λb ps q=>?_⟩,I.loc,I.cell,nn I.free,λx c q=>nn (I.qg x c q),λp hp=>?_,λa w q=>?_,I.len⟩
 ·have q':=I.base.FV b ob w q
  rw[af λz=>h0 ob w (by rw[←z];exact q)];exact q'
 ·obtain⟨more,q'⟩:=I.base.HD b ps q
  exact⟨more,ns q' (by intro _ _ z;cases z)⟩
 ·obtain⟨p1,p2,p3⟩:=I.pin p hp
  exact⟨p1,nn p2,p3⟩
 ·have st:∀ {a:Addr} {w:HO},iJ X.prog X.w H s.heap a w→iJ X.prog X.w (upd H d u) s.heap a w:=λx=>x.LS (λ_ _ _ z=>z) (λb z=>ns z (by intro _ _ y;cases y)) λb xs z=>ns z (by intro _ _ y;cases y)
  by_cases e:a=d
  ·subst e
   rw[ah]at q;cases q;exact st (I.hok a _ hd).2
  ·rw[af e]at q
   exact st (I.hok a w q)
noncomputable def aiy(H₀:Hp)(te:TE):TE:=λσ H Q=>te σ H λv H1=>∃ d o kvs,H1 d=some (.frz o (.dK kvs))∧(∀ o u,H₀ d≠some (.frz o u))∧Q v (upd H1 d (.dK kvs))
theorem Rz{e:Expr}{te:TE}(h:PE X e te):PE X e (aiy X.H₀ te):=by
 intro pins s σ H Q I t;refine wpAny_mono (h pins s σ H _ I t) (λu s1 ⟨v,H1,I1,r,q⟩=>?_) λ_ _ z=>z;obtain⟨d,o,kvs,hd,h0,q⟩:=q;exact⟨v,_,I1.Xv hd h0 (by intro _ z;cases z) (by intro _ z;cases z) (by intro _ z;cases z),r,q⟩
noncomputable def aiz(H₀:Hp)(t:TS):TS:=λD σ H=>∃ d o kvs,H d=some (.frz o (.dK kvs))∧(∀ o u,H₀ d≠some (.frz o u))∧t D σ (upd H d (.dK kvs))
theorem RA{st:Stmt}{t:TS}(h:PS X st t):PS X st (aiz X.H₀ t):=by
 intro pins s σ H D I q;obtain⟨d,o,kvs,hd,h0,q⟩:=q;exact h pins s σ _ D (I.Xv hd h0 (by intro _ z;cases z) (by intro _ z;cases z) (by intro _ z;cases z)) q
theorem Us:∀ {ns:List Int} {us:List Value},Vals (ns.map V.int) us→∃ ps:List (Int×Tok),us=ps.map (λp=>Value.int p.1 p.2)∧ps.map (·.1)=ns
 | [],_,.nil=>⟨[],rfl,rfl⟩
 | n::r,_,.cons h t=>by
  obtain⟨k,rfl⟩:=h;obtain⟨ps,e,e2⟩:=Us t;exact⟨(n,k)::ps,by rw[e];rfl,by rw[aju,e2]⟩
noncomputable def Yi(K:W.Frag):List V→Hp→VK→Prop:=λvs H Q=>∃(p:Addr) (ns:List Int),vs=[.ref p]∧SqL K H p (ns.map V.int)∧Q (.int ns.sum) H
theorem Pw(hc:X.calm=true):vQ X (.builtin "sum") (Yi X.K):=by
 rintro pins s σ H xs us Q I r ⟨p,ns,rfl,hq,q⟩;obtain⟨u,rfl,ru⟩:=r.one;cases (show u=Value.ref p from ru);obtain⟨its,rv,⟨o,n,e1,e2,e3,e4⟩,hz⟩:=I.list hq;obtain⟨ps,e,ee⟩:=Us rv;have hl:s.heap.IsList p (intItems ps.toArray):=by
  refine⟨o,e1,e2,n,?_⟩;rw[e4,e];simp[intItems]
 have hs:preSum (numAt ps.toArray) ps.toArray.size=ns.sum:=by
  rw[preSum_eq];simp only[ajd];rw[ee,ajj (by rw[←ee,ai8];exact ajb _)]
 refine sum_intListG (I.ok.hd hc) hl λh' tk t' hk=>⟨.int ns.sum,H,I.kept (t':=tk) hk,⟨t',by rw[hs]⟩,q⟩
end
theorem Px{d:Addr}{o:Obj}{kvs:List (Key×V)}{te:TE}{Q:VK}{D:Addr}{τ:St}{H:Hp}(Pv:Nat→List V→Hp→Prop)(h0:Pv 0 [] H)(hD:∀ i ys H,i≤kvs.length→Pv i ys H→H D=some (.lst ys)∧ys.length=i)(hl:∀ i ys H,i≤kvs.length→Pv i ys H→H d=some (.frz o (.dK kvs)))(hn:kvs.length≤sizeLine)
  (hs:∀ i p ys H,kvs[i]?=some p→Pv i ys H→te (some (kV p.1)::τ) H λv H4=>H4 D=some (.lst ys)∧Pv (i+1) (ys++[v]) (upd H4 D (.lst (ys++[v])))) (hd:∀ ys H,Pv kvs.length ys H→Q (.ref D) H):Kn (Itd d o kvs) D τ te Q H:=by
 refine⟨λi m ys H=>m=kvs.length-i∧i≤kvs.length∧Pv i ys H,⟨kvs.length,by simp,ajM _,h0⟩,?_⟩;rintro i m ys H2 ⟨rfl,hi,p⟩;obtain⟨d1,d2⟩:=hD i ys H2 hi p;refine⟨d1,?_⟩;have hS:=hl i ys H2 hi p;by_cases hlt:i<kvs.length
 ·refine .inr ⟨⟨hS,hlt⟩,by omega,Pv (i+1),λzs H' p'=>⟨kvs.length-(i+1),by omega,rfl,hlt,p'⟩,λy H3 q=>?_⟩
  obtain⟨e1,q',e2,e3⟩:=q;subst e1 e3;exact hs i q' ys _ e2 p
 ·have e:i=kvs.length:=by omega
  subst e;exact .inl ⟨⟨hS,ajb _⟩,hd ys H2 p⟩
noncomputable def Si:Option Key→Value→Bool
 | none,.none=>true
 | none,_=>false
 | some k,v=>sO k v
theorem iL{v:Value}(h:Si none v=true):v=.none:=by
 cases v<;>first|rfl|cases h
noncomputable def aiA(w:World):Option Key→Int
 | none=>reduceHash 0xFCA86420
 | some k=>YE w k
theorem Py{prog:Program}{w:World}{A:Around}{E:Value→Shared→Prop}{s:Shared}{Q:Int→Shared→Prop}(h:Q (reduceHash 0xFCA86420) {s with toks:=s.toks+1}):wpAny (model prog w) A (pyHash .none) Q E s:=by
 show wpAny _ _ (pyHashByItsType .none) Q E s;exact PySem.W.pyHash_slot (T := "NoneType") rfl F.slot_NoneType_hash F.entry_NoneType_hash (F.args_NoneType_hash_1 _) (beq_builtin_none _) (.inl rfl) (wpAny_bind (wpAny_pure (wpAny_bind (wpAny_mkInt (wpAny_pure ⟨_,_,rfl,h⟩)))))
noncomputable def optKind(prog:Program)(w:World):PySem.KeyKind prog w (Option Key) where
 is:=Si
 hash:=aiA w
 inj:=λv a b ha hb=>by
  cases a with
  | none =>
   obtain rfl:=iL ha;cases b with
   | none=>rfl
   | some k=>rcases cq (show sO k .none=true from hb) with⟨_,_,_,e⟩|⟨_,_,_,e⟩<;>exact nomatch e
  | some k =>
   cases b with
   | none =>
    obtain rfl:=iL hb;rcases cq (show sO k .none=true from ha) with⟨_,_,_,e⟩|⟨_,_,_,e⟩<;>exact nomatch e
   | some k'=>rw[(cx prog w).inj v k k' ha hb]
 byValue:=λk v h=>by
  cases k with
  | none=>obtain rfl:=iL h;rfl
  | some k=>exact(cx prog w).byValue k v h
 pyHash:=λ{A E s k v Q} hv h=>by
  cases k with
  | none=>obtain rfl:=iL hv;exact Py h
  | some k=>exact(cx prog w).pyHash (k:=k) hv h
 eqBool:=λ{A E s a b u v Q} hu hv h=>by
  cases a with
  | none =>
   obtain rfl:=iL hu;cases b with
   | none=>obtain rfl:=iL hv;exact SeqAt.EqAt.same _ _ _ _ _ h
   | some k =>
    rw[decide_eq_false (by intro z;cases z)]at h;rcases cq (show sO k v=true from hv) with⟨i,t,_,rfl⟩|⟨x,t,_,rfl⟩
    ·exact SeqAt.EqAt.none_int i t _ _ _ _ h
    ·exact SeqAt.EqAt.none_str x t _ _ _ _ h
  | some k =>
   cases b with
   | none =>
    obtain rfl:=iL hv;rw[decide_eq_false (by intro z;cases z)]at h;rcases cq (show sO k u=true from hu) with⟨i,t,_,rfl⟩|⟨x,t,_,rfl⟩
    ·exact SeqAt.EqAt.int_none i t _ _ _ _ h
    ·exact SeqAt.EqAt.str_none x t _ _ _ _ h
   | some k' =>
    refine(cx prog w).eqBool (a:=k) (b:=k') hu hv ?_;have e:decide (some k=some k')=decide (k=k'):=by
     by_cases c:k=k'
     ·subst c;simp
     ·rw[decide_eq_false c,decide_eq_false (by intro z;exact c (ajx z))]
    rw[←e];exact h
 «strs» := λk x t v h=>by
  cases k with
  | none=>exact nomatch iL h
  | some k=>exact(cx prog w).strs k x t v h
theorem Th{prog:Program}{w:World}{h:Heap}{a:Addr}{kvs:List (Key×Value)}(hd:h.DictOf (cx prog w) a kvs):h.MapOf (optKind prog w) a (λk=>k.bind λk=>valueAt kvs k):=by
 obtain⟨o,es,ep,ho,hc,aiB,hk,hf⟩:=hd.mapOf;refine⟨o,es,ep,ho,hc,aiB,λe he=>?_,λk=>?_⟩
 ·obtain⟨k,h1,h2⟩:=hk e he
  exact⟨some k,h1,h2⟩
 ·cases k with
  | none =>
   show(es.find? λe=>Si none e.key).map (·.val)=none;rw[Array.find?_eq_none.mpr λe he=>?_]
   ·rfl
   ·obtain⟨k,h1,_⟩:=hk e he
    intro z
    have:=iL z
    rw[this]at h1;rcases cq (show sO k .none=true from h1) with⟨_,_,_,e⟩|⟨_,_,_,e⟩<;>exact nomatch e
  | some k=>exact hf k
noncomputable def inO(kvs:List (Key×V)):Option Key→Bool
 | none=>false
 | some k=>(gR kvs k).isSome
noncomputable def Xw:Option Key→V
 | none=>.non
 | some k=>kV k
section
variable{X:Cx}{i o:Expr}{ty td:TE}
noncomputable def Yj(ty td:TE):TE:=λσ H Q=>ty σ H λy H1=>td σ H1 λx H2=>∃ a kvs k,x=.ref a∧y=Xw k∧Rd H2 a (.dK kvs)∧Q (.bl (inO kvs k)) H2
theorem Vr{P:Program}{w:World}{k:Option Key}{u:Value}(r:RelV (Xw k) u):(optKind P w).is k u=true:=by
 cases k with
 | none=>cases r;rfl
 | some k=>exact Di (P:=P) (w:=w) r
theorem Ti(hi:PE X i ty)(ho:PE X o td):PC X .In i o (Yj ty td):=by
 intro pins s σ H Q I h;refine thn (hi pins s σ H _ I h) λiv s1 ⟨y,H1,I1,ry,q1⟩=>thn (ho pins s1 σ H1 _ I1 q1) λu s2 ⟨x,H2,I2,rx,a,kvs,k,ex,ey,g,q2⟩=>?_;subst ex ey;cases (show u=Value.ref a from rx);obtain⟨z,hd,vs,rel,dd⟩:=ym I2.hok g;refine wpAny_in_of (Vr (P:=X.prog) (w:=X.w) ry) hd (Th dd) ?_;have e:(k.bind λk=>valueAt vs k).isSome=inO kvs k:=by
  cases k with
  | none=>rfl
  | some k=>exact(rel.val k).pe.symm
 rw[e];exact⟨.bl (inO kvs k),H2,I2.tok _,rfl,q2⟩
end
section
variable{X:Cx}{K:W.Frag}
theorem Tj{e:Expr}{f:Str}{pos:Pos}{ta:TE}(hK:X.K=K)(he:PE X e ta)(hb:attributeBase e f X.env (eval e X.env)=eval e X.env):PE X (.Attribute e f pos) (YL K ta f):=by
 subst hK;exact aI he hb
noncomputable def Yk(K:W.Frag):List V→Hp→VK→Prop:=λxs H Q=>∃ p ys,xs=[V.ref p]∧(SqL K H p ys∨SqT K H p ys)∧Q (.int (ys.length:Int)) H
theorem Pz(hK:X.K=K):vQ X (.builtin "len") (Yk K):=by
 subst hK;exact a6
end
section
variable{X:Cx}{o:Expr}{ta:TE}
end
end L2
end
section
namespace L2
open PySem PySem.Spec PyProof.Rows LX
theorem HW:∀(f n r:Nat),n≤f→r≤1→minRun' f n r≤max 64 (n+r)
 | 0,n,r,_,_=>Nat.le_max_right _ _
 | f+1,n,r,h,hr=>by
  rw[minRun'_succ];by_cases c:n<64
  ·rw[if_pos c];exact Nat.le_max_right _ _
  ·rw[if_neg c]
   have:=HW f (n/2) (max r (n%2)) (by omega) (by omega)
   omega
theorem KO{n:Nat}:¬n<minRun' n n 0:=by
 by_cases c:n<64
 ·cases n with
  | zero=>show ¬0<0+0;omega
  | succ f=>rw[minRun'_succ,if_pos c];omega
 ·have:=HW n n 0 (ajb _) (by omega)
  omega
section
variable{prog:Program}{w:World}{A:Around}{E:Value→Shared→Prop}{s:Shared}{a₀:Array Keyed}
theorem KP{st:SortSt}{m:Nat}{Q:Option Nat→SortSt→Prop}(ik:IntKeys a₀)(h:m≤a₀.size)(h1:1≤m)(B:SBase a₀ st)(up:SortedTo (arrOf st) m)(q:Q (some m) st):wpS (model prog w) A E s (countRun' 0 m) Q st:=by
 rw[countRun0_eq];refine wpS_bind (wpS_ascLoop ik h (ajb 1) h1 B (λi j a b=>up i j a (by omega)) λn n1 n2 _ o=>?_);have e:n=m:=by
  rcases o with o|o
  ·exact o
  ·by_cases c:n=m
   ·exact c
   ·have:=up (n-1) n (by omega) (by omega)
    omega
 subst e;dsimp only;rw[if_pos (by simp)];exact wpS_pure q
theorem Nf{st:SortSt}{Q:Unit→SortSt→Prop}(ik:IntKeys a₀)(B:SBase a₀ st)(n2:2≤a₀.size)(up:SortedTo (arrOf st) a₀.size)
  (q:∀ st',(arrOf st').Perm a₀→failedOf st'=none→SortedTo (arrOf st') a₀.size→Q () st'):wpS (model prog w) A E s sortRuns' Q st:=by
 rw[sortRuns'_eq];refine wpS_bind (wpS_get ?_);dsimp only;have mr:¬a₀.size<minRun' a₀.size a₀.size 0:=KO;simp only[B.size];refine wpS_bind (wpS_mono (wpS_forRange (I:=λx c st'=>(x=0∧c=(none,0)∧st'=st)∨(1≤x∧c=(none,a₀.size)∧SDone a₀ st')) (Q:=λc st'=>c=(none,a₀.size)∧SDone a₀ st') ?one ?all (.inl ⟨rfl,rfl,rfl⟩)) ?rest)
 case all =>
  rintro c st' (⟨z,_,_⟩|⟨_,hc,d⟩)
  ·omega
  ·exact⟨hc,d⟩
 case one =>
  rintro x c st' _ hx (⟨rfl,rfl,rfl⟩|⟨_,rfl,d⟩)
  ·dsimp only
   rw[if_neg (by omega)];simp only[Nat.sub_zero,Nat.zero_add];refine wpS_bind (KP ik (ajb _) (by omega) B up ?_);dsimp only;rw[if_neg mr];refine wpS_bind (wpS_get ?_);rw[show(pendingOf st').back?=none by rw[B.pend];rfl];dsimp only;exact wpS_bind (wpS_modify (wpS_pure (.inr ⟨by omega,rfl,B.done up⟩)))
  ·dsimp only
   rw[if_pos (ajb _)];exact wpS_pure ⟨rfl,d⟩
 case rest =>
  rintro c st' ⟨rfl,d⟩;dsimp only;refine wpS_bind (wpS_mono (wpS_forRange (I:=λ_ c st2=>st2=st'∧c=(none,())) (Q:=λc st2=>st2=st'∧c=(none,())) ?_ (λ_ _ z=>z) ⟨rfl,rfl⟩) ?_)
  ·rintro x c st2 _ _ ⟨rfl,rfl⟩
   refine wpS_bind (wpS_get ?_);rw[if_pos (show(pendingOf st2).size≤1 by rw[d.2.2.1];exact ajb 1)];exact wpS_pure ⟨rfl,rfl⟩
  ·rintro c st2 ⟨rfl,rfl⟩
   exact wpS_pure (q _ d.1 d.2.1 d.2.2.2)
theorem OB:∀ {vs:List Value} {ns:List Int},IntsAre vs ns→∀(i:Nat) (h:i<vs.length) (h':i<ns.length),numOf vs[i]=ns[i]
 | _,_,.nil,i,h,_=>absurd h (akz _)
 | _,_,.cons k t r,0,_,_=>rfl
 | _,_,.cons k t r,i+1,h,h'=>OB r i (Nat.lt_of_succ_lt_succ h) (Nat.lt_of_succ_lt_succ h')
theorem QX{vs:List Value}{ns:List Int}(hI:IntsAre vs ns)(up:ns.Pairwise (·≤·)):SortedTo (pairsOf vs) (pairsOf vs).size:=by
 intro i j ij hj;have hl:=hI.length;have hs:=pairsOf_size vs;rw[K_eq (by omega),K_eq (by omega)];have hi2:i<ns.length:=by omega
 have hj2:j<ns.length:=by omega
 have e:∀(k:Nat) (h:k<(pairsOf vs).size) (h':k<ns.length),numOf (pairsOf vs)[k].1=ns[k]:=λk h h'=>by
  have:(pairsOf vs)[k].1=vs[k]'(by omega):=by simp[pairsOf]
  rw[this];exact OB hI k (by omega) h'
 rw[e i (by omega) hi2,e j (by omega) hj2];rcases aj1 i j with c|c
 ·exact aj8.mp up i j hi2 hj2 c
 ·have:i=j:=by omega
  subst this;exact ajS _
theorem AM{a:Addr}{vs:List Value}{ns:List Int}{n:Nat}{P:Fin→Shared→Prop}(ho:s.heap.get? a=some (seqObj "list" vs.toArray n))(hI:IntsAre vs ns)(few:vs.length≤20000)(up:ns.Pairwise (·≤·))
  (h:∀(out:Array Value) (ns':List Int),IntsAre out.toList ns'→ns'.Perm ns→ns'.Pairwise (·≤·)→P (.done (.ret .none)) {s with heap:=sortedHeap s.heap a vs out}):wpAny (model prog w) A (Builtin.«list.sort» ⟨[.ref a],[]⟩) P E s:=by
 have hz:vs.length≤sizeLine:=akO (ajW few (by decide));rw[list_sort_plain];have la:a<s.heap.objs.size:=ajg ho;refine wpAny_bind (listItems_at ho rfl (wpAny_bind (listUpdate_at ho rfl ?_ (by rw[ajd];exact hz) (ajM _))));obtain⟨e1,g1⟩:∃ e1,(s.heap.update a (Obj.mapSeq λ_=>#[])).get? a=some (seqObj "list" #[] e1):=⟨_,get?_update_seq ho (λ_=>#[])⟩;refine wpAny_bind (seqEpoch_at g1 rfl (wpAny_bind (wpAny_newTuple (wpAny_bind (wpAny_newList (wpAny_holding ?_) (ajM _))) (by show vs.length≤_;exact hz))));have g6:(((s.heap.update a (Obj.mapSeq λ_=>#[])).push (seqObj "tuple" vs.toArray 0)).push (seqObj "list" #[] 0)).get? a=some (seqObj "list" #[] e1):=aja _ (aja _ g1);show wpAny (model prog w) A _ P E {s with heap:=((s.heap.update a (Obj.mapSeq λ_=>#[])).push (seqObj "tuple" vs.toArray 0)).push (seqObj "list" #[] 0)};dsimp only;have zs:(pairsOf vs).size=vs.length:=pairsOf_size vs;have fin:∀ st':SortSt,(arrOf st').Perm (pairsOf vs)→SortedTo (arrOf st') (pairsOf vs).size→P (.done (.ret .none)) {s with heap:=sortedHeap s.heap a vs ((arrOf st').map (·.2))}:=λst' hp hs=>by
  obtain⟨ns',q1,q2,q3⟩:=sorted_out hI hp hs;exact h _ ns' q1 q2 q3
 have up0:=QX hI up;by_cases c:vs.toArray.size<2
 ·rw[if_pos c,if_pos c]
  refine wpAny_bind (wpAny_pure ?_);rw[StateT.run_pure];refine wpAny_bind (wpAny_pure ?_);dsimp only;refine wpAny_bind (seqEpoch_at g6 rfl (wpAny_bind (listUpdate_at g6 rfl ?_ (hsz2:=by rw[Array.size_map];show(pairsOf vs).size≤_;rw[zs];omega))));simp only[bne_self_eq_false,ajN,if_false];exact wpAny_pure (fin (SortSt.mk' general' (vs.toArray.zip vs.toArray) #[] 7 none) (Array.Perm.refl _) up0)
 ·rw[if_neg c,if_neg c]
  obtain⟨v1,v2,r,rfl⟩:∃ v1 v2 r,vs=v1::v2::r:=by
   match vs,c with
   | [],c=>simp at c
   | [_],c=>simp at c
   | v1::v2::r,_=>exact⟨v1,v2,r,rfl⟩
  rw[keyKind_ints hI];refine wpAny_bind (wpAny_pure (wpAny_bind (wpAny_mono (Nf (a₀:=pairsOf (v1::v2::r)) (st:=SortSt.mk' oneType' ((v1::v2::r).toArray.zip (v1::v2::r).toArray) #[] 7 none)
   (Q:=λ_ st'=>(arrOf st').Perm (pairsOf (v1::v2::r))∧failedOf st'=none∧SortedTo (arrOf st') (pairsOf (v1::v2::r)).size) hI.intKeys ⟨Array.Perm.refl _,rfl,rfl,rfl⟩ (by rw[zs];simp) up0 λst' a1 a2 a3=>⟨a1,a2,a3⟩) ?_ λ_ _ e=>e)))
  rintro⟨⟨⟩,st'⟩ s' ⟨rfl,hp,hf,hs⟩;dsimp only;refine wpAny_bind (seqEpoch_at g6 rfl (wpAny_bind (listUpdate_at g6 rfl ?_ (hsz2:=ajy (Nat.le_of_eq ((Array.size_map ..).trans (hp.size_eq.trans zs))) (Nat.le_succ_of_le hz)))));rw[hf];simp only[bne_self_eq_false,ajN,if_false];exact wpAny_pure (fin st' hp hs)
end
section
variable{X:Cx}
noncomputable def QY:List V→Hp→VK→Prop:=λvs H Q=>∃(p:Addr) (kvs:List (Key×V)) (ks:List Int),vs=[.ref p]∧Rd H p (.dK kvs)∧kvs.map (·.1)=ks.map Sum.inl∧ks.length≤20000∧ks.Pairwise (·≤·)∧∀(l:Addr),H l=none→Q (.ref l) (upd H l (.lst (ks.map V.int)))
theorem Ip(hc:X.calm=true):vQ X (.builtin "sorted") QY:=by
 rintro pins s σ H xs us Q I r ⟨p,kvs,ks,rfl,hp,hk,few,up,q⟩;obtain⟨u,rfl,ru⟩:=r.one;cases (show u=Value.ref p from ru);obtain⟨hz,hd,vs,rel,dd⟩:=ym I.hok hp;obtain⟨ep,hat⟩:=dd.dictAt;have hh:=I.ok.hd hc;have hl:ks.length=kvs.length:=by
  have:=congrArg List.length hk
  simpa using this.symm
 refine Calls.call_function_entry kind_sorted plain_sorted entry_sorted (args_sorted1 _) ?_;unfold Builtin.«sorted»;refine wpAny_bind (m:=checkCount "sorted" 1 1 _) (wpAny_pure ?_);refine wpAny_bind (PySem.W.kdu_collect (A:=X.A.in1) (PySem.W.kdl_dict (knd:=cx X.prog X.w) (kvs:=vs) (ep:=ep) hd) hh hat (by rw[←rel.length];exact hz) λh' tk acc hkp hacc=>?_);have hI:IntsAre acc.toList ks:=HP (by rw[←rel.keys];exact hk) hacc.1 hacc.2;have hlen:=hI.length;have I1:Inv X pins σ H {s with heap:=h',toks:=tk}:=I.kept (t':=tk) hkp;refine wpAny_bind (wpAny_newList ?_ (by show acc.toList.length≤sizeLine;rw[hlen,hl];exact hz));have hoL:(h'.push (seqObj "list" acc.toList.toArray 0)).get? h'.objs.size=some (seqObj "list" acc.toList.toArray 0):=ajC _ rfl;show wpAny _ _ _ _ _ {s with heap:=h'.push (seqObj "list" acc.toList.toArray 0),toks:=tk};refine wpAny_bind (wpAny_holding (wpAny_call_entry slot_list_sort ⟨_,hoL,rfl⟩ entry_list_sort (AM hoL hI (by omega) up λout ns' a1 a2 a3=>⟨_,rfl,?_⟩) (args_list_sort _)));refine wpAny_pure ⟨_,rfl,?_⟩;cases HQ a2 a3 up;obtain⟨e,he⟩:=sortedHeap_at (out:=out) hoL;refine⟨.ref h'.objs.size,_,I1.laid (a:=h'.objs.size) (o:=.lst (ks.map V.int)) (t':=tk) (λb o hb=>?_) (ajb _) ?_,rfl,q _ (I1.hok.fresh (ajb _))⟩
 ·have hlt:=ajg hb
  rw[sortedHeap_old (ajl hlt) (by rw[size_push'];exact akE hlt),Heap.get?_push_ne _ _ _ (ajl hlt)];exact hb
 ·refine⟨by rw[ai8,hl];exact hz,out.toList,e,rA a1,?_⟩
  rw[he]
noncomputable def Tn(K:W.Frag):List V→Hp→VK→Prop:=λvs H Q=>∃(p:Addr) (ns:List Int),vs=[.ref p]∧SqL K H p (ns.map V.int)∧ns.length≤20000∧ns.Pairwise (·≤·)∧∀(l:Addr),H l=none→Q (.ref l) (upd H l (.lst (ns.map V.int)))
theorem KQ:vQ X (.builtin "sorted") (Tn X.K):=by
 rintro pins s σ H xs us Q I r ⟨p,ns,rfl,hq,few,up,q⟩;obtain⟨u,rfl,ru⟩:=r.one;cases (show u=Value.ref p from ru);obtain⟨its,rv,pl,hz⟩:=I.list hq;have hI:=intsAre_of rv;have hlen:=rv.length;rw[ai8]at hlen hz;refine Calls.call_function_entry kind_sorted plain_sorted entry_sorted (args_sorted1 _) ?_;unfold Builtin.«sorted»;refine wpAny_bind (m:=checkCount "sorted" 1 1 _) (wpAny_pure ?_);have iz:its.length≤sizeLine:=by omega
 refine wpAny_bind (collect_list pl.isList ?_ iz);refine wpAny_bind (wpAny_newList ?_ iz);have sz:((s.heap.push (seqObj "list" #[] 0)).update s.heap.objs.size (Obj.mapSeq (·++its.toArray))).objs.size=s.heap.objs.size+1:=by rw[Heap.size_update,size_push']
 have hoL:(((s.heap.push (seqObj "list" #[] 0)).update s.heap.objs.size (Obj.mapSeq (·++its.toArray))).push (seqObj "list" its.toArray 0)).get? (s.heap.objs.size+1)=some (seqObj "list" its.toArray 0):=by rw[←sz];exact ajC _ rfl
 show wpAny _ _ _ _ _ {s with heap:=((s.heap.push (seqObj "list" #[] 0)).update s.heap.objs.size (Obj.mapSeq (·++its.toArray))).push (seqObj "list" its.toArray 0)};rw[sz];refine wpAny_bind (wpAny_holding (wpAny_call_entry slot_list_sort ⟨_,hoL,rfl⟩ entry_list_sort (AM hoL hI (by omega) up λout ns' a1 a2 a3=>⟨_,rfl,?_⟩) (args_list_sort _)));refine wpAny_pure ⟨_,rfl,?_⟩;cases HQ a2 a3 up;obtain⟨e,he⟩:=sortedAll_at s.heap its out;refine⟨.ref (s.heap.objs.size+1),_,I.laid (a:=s.heap.objs.size+1) (o:=.lst (ns.map V.int)) (t':=s.toks) (λ_ _=>sortedAll_old) (akD _) ?_,rfl,q _ (I.hok.fresh (akD _))⟩;refine⟨by rw[ai8];exact hz,out.toList,e,rA a1,?_⟩;show(sortedAll s.heap its out).get? _=_;rw[he]
end
end L2
end
section
namespace L2
open PySem PySem.Spec PyProof.Rows LX
section
variable{X:Cx}
noncomputable def aiC(H₀:Hp)(t:TS):TS:=λD σ H=>t {D with nx:=λσ1 H1=>∃ d o kvs,H1 d=some (.frz o (.dK kvs))∧(∀ o u,H₀ d≠some (.frz o u))∧D.nx σ1 (upd H1 d (.dK kvs))} σ H
theorem To{st:Stmt}{t:TS}(h:PS X st t):PS X st (aiC X.H₀ t):=by
 intro pins s σ H D I q;refine thn (h pins s σ H _ I q) λf s1 z=>?_;cases f with
 | next =>
  obtain⟨σ1,H1,I1,d,o,kvs,hd,h0,q⟩:=z;exact⟨σ1,_,I1.Xv hd h0 (by intro _ z;cases z) (by intro _ z;cases z) (by intro _ z;cases z),q⟩
 | ret v=>exact z
 | brk=>exact z
 | cont=>exact z
theorem Yl{n:Option Int}{zs:List Int}{f:Option Int→V}(hf:f none=.non)(hs:∀ t,f (some t)=.int t):inV (f n) (zs.map V.int)=(match n with|none=>false|some t=>decide (t∈zs)):=by
 unfold inV;cases n with
 | none =>
  rw[hf];show _=false;rw[List.any_map];refine List.any_eq_false.mpr λz _=>?_;simp[eqV]
 | some t =>
  rw[hs,List.any_map];show _=decide (t∈zs);induction zs with
  | nil=>rfl
  | cons a r ih =>
   rw[aky,ih];by_cases e:a=t
   ·subst e
    simp[eqV]
   ·have:(t∈a::r)↔t∈r:=by
     rw[ajo];exact⟨λh=>h.elim (λz=>absurd z.symm e) id,.inr⟩
    simp[eqV,e,this]
end
section
variable{P:Program}{w:World}{K:W.Frag}{mg:Str→Option Value}{base:Heap}{N:List Str}{qual:Str}{scope:Scope}{f:Addr}{cdv:Value}{A:Around}{outer:List Env}{s₀:Shared}{H₀:Hp}{E₀:XK}
noncomputable def XO(P:Program)(w:World)(qual:Str)(scope:Scope)(f:Addr)(cdv:Value)(A:Around)(outer:List Env)(s₀:Shared)(H₀:Hp)(E₀:XK)(base:Heap)(e:Value)(s:Shared):Prop :=
 ∃(ea:Addr) (c:Value) (od:Option Addr) (fs:Array Value) (sl:Array (Option Value)) (T0:Option Addr),e=.ref ea∧(A.deeper (envOfC qual scope s₀.heap.objs.size f cdv)).frames=some (envOfC qual scope s₀.heap.objs.size f cdv::outer)∧s.heap.FunFrames base (envOfC qual scope s₀.heap.objs.size f cdv::outer)∧s.heap.get? ea=some (fi c od fs sl)∧vS s.heap ea fs T0 ∧
  ∀(m:Heap) (T:Addr) (fs':Array Value),s.heap.objs.size≤T→Kept (gf (envOfC qual scope s₀.heap.objs.size f cdv::outer)) (ea::T0.toList) s.heap m→m.get? ea=some (fi c od fs' sl)→fs'[0]?=fs[0]?→vS m ea fs' (some T)→CXE P w outer H₀ s₀ E₀ (.ref ea) {s with heap:=m}
noncomputable def XN(P:Program)(w:World)(outer:List Env)(s₀:Shared)(H₀:Hp)(E₀:XK)(L:Addr)(e:Value)(s:Shared):Prop :=
 ∃(ea T:Addr) (c oc:Value) (od d:Option Addr) (fs ts:Array Value) (sl sm:Array (Option Value)),e=.ref ea∧s.heap.get? ea=some (fi c od fs sl)∧fs[1]?=some (.ref T)∧T≠ea∧s.heap.get? T=some (fi oc d ts sm)∧ts[3]?=some (rawInt L) ∧
  ∀ m:Heap,(∀ b o,b≠T→s.heap.get? b=some o→m.get? b=some o)→vS m ea fs (some T)→m.get? ea=some (fi c od fs sl)→CXE P w outer H₀ s₀ E₀ (.ref ea) {s with heap:=m}
noncomputable def XR(P:Program)(w:World)(qual:Str)(scope:Scope)(f:Addr)(cdv:Value)(A:Around)(outer:List Env)(s₀:Shared)(H₀:Hp)(E₀:XK)(base:Heap)(e:Value)(s:Shared):Prop :=
 XO P w qual scope f cdv A outer s₀ H₀ E₀ base e s∨XN P w outer s₀ H₀ E₀ s₀.heap.objs.size e s
theorem QZ{pins:List (Addr×Obj)}{σ:St}{H H':Hp}{s s':Shared}{ea C T:Addr}{od:Option Addr}{fs:Array Value}{sl:Array (Option Value)}(I:Inv (cxE P w K mg base N qual scope f cdv A outer s₀ H₀ E₀) pins σ H s)
  (l:Lies P w (cxE P w K mg base N qual scope f cdv A outer s₀ H₀ E₀).stack H H' s ea C T od fs sl s') (hE:E₀ (.ref C) od H'):XO P w qual scope f cdv A outer s₀ H₀ E₀ base (.ref ea) s':=by
 refine⟨ea,_,_,_,_,_,rfl,I.ok.frames,Lies.frames I l,l.at_,l.trail,λm T' fs' z1 z2 z3 z4 z5=>?_⟩;obtain⟨un,hok⟩:=l.on (t':=s'.toks) I z2;have J:Inv (cxE P w K mg base N qual scope f cdv A outer s₀ H₀ E₀) pins σ H' {s' with heap:=m}:=I.Kj l.os un hok l.bare (λb z=>absurd z (by simp));have old:∀ b o,s₀.heap.get? b=some o→∃ o',s.heap.get? b=some o':=λb o z=>I.base.there b o z (aku);have e0:s₀.heap.get? ea=none:=by
  cases q:s₀.heap.get? ea with
  | none=>rfl
  | some o =>
   obtain⟨o',z⟩:=old ea o q;rw[l.Xs]at z;cases z
 have t0:s₀.heap.get? T'=none:=by
  cases q:s₀.heap.get? T' with
  | none=>rfl
  | some o =>
   obtain⟨o1,y1⟩:=old T' o q;obtain⟨o2,y2⟩:=l.un.there T' o1 y1 (by simp);exact absurd (ajg y2) (Nat.not_lt.mpr z1)
 obtain⟨a0,ha⟩:=l.args;exact⟨ea,C,T',od,fs',sl,H',rfl,⟨J.os,J.bare,J.base,J.hok,e0,t0,l.Sf,l.hok.fresh z1,z3,⟨a0,by rw[z4];exact ha⟩,z5⟩,hE⟩
theorem XR.xe{e:Value}{s:Shared}(h:XR P w qual scope f cdv A outer s₀ H₀ E₀ base e s):(cxE P w K mg base N qual scope f cdv A outer s₀ H₀ E₀).xe e s:=by
 rcases h with⟨ea,c,od,fs,sl,T0,rfl,hA,F,he,t,k⟩|⟨ea,T,c,oc,od,d,fs,ts,sl,sm,rfl,he,h1,ne,hT,h3,k⟩
 ·exact Oc hA F rfl he t k
 ·have h3s:3<ts.size:=(ajw.mp h3).1
  show wpAny _ _ (leaving _ (.ref ea)) _ _ s;unfold leaving noteFrame;refine wpAny_bind ?_;show wpAny _ _ (field (.ref ea) 1 >>= _) _ _ s;refine wpAny_bind (wpAny_field he rfl h1 ?_);rw[if_pos (show(Value.ref T != Value.none)=true by simp)];refine wpAny_bind (wpAny_field hT rfl h3 ?_);rw[if_pos (by simp)];exact wpAny_pure (sP he h1 ne hT h3s k)
theorem Ng:PassesOwn (model P w) (A.deeper (envOfC qual scope s₀.heap.objs.size f cdv)) (envOfC qual scope s₀.heap.objs.size f cdv) (XR P w qual scope f cdv A outer s₀ H₀ E₀ base):=by
 intro e s h;have aeB:∀ {s1:Shared},XN P w outer s₀ H₀ E₀ s₀.heap.objs.size e s1→cameBackBy (model P w) (A.deeper (envOfC qual scope s₀.heap.objs.size f cdv)) (envOfC qual scope s₀.heap.objs.size f cdv) (XR P w qual scope f cdv A outer s₀ H₀ E₀ base) e s1:=by
  rintro s1 ⟨ea,T,c,oc,od,d,fs,ts,sl,sm,rfl,he,h1,ne,hT,h3,k⟩;have h3s:3<ts.size:=(ajw.mp h3).1;unfold cameBackBy setFlight;refine wpAny_bind (wpAny_field he rfl h1 ?_);dsimp only;rw[if_neg (by simp)];refine wpAny_bind (wpAny_field he rfl h1 ?_);rw[if_pos (show(Value.ref T != Value.none)=true by simp)];refine wpAny_setField hT rfl h3s ?_;have oth:∀ b o,b≠T→s1.heap.get? b=some o→(s1.heap.update T (Obj.mapFields (·.setIfInBounds 3 (rawInt s₀.heap.objs.size)))).get? b=some o:=λb o hb q=>(ajF _ _ (ajm hb)).trans q;exact .inr ⟨ea,T,c,oc,od,d,fs,ts.setIfInBounds 3 (rawInt s₀.heap.objs.size),sl,sm,rfl,oth _ _ (ajm ne) he,h1,ne,Bk hT,by simp[h3s],λm q1 q2 q3=>k m (λb o hb q=>q1 b o hb (oth b o hb q)) q2 q3⟩
 rcases h with⟨ea,c,od,fs,sl,T0,rfl,hA,F,he,t,k⟩|⟨ea,T,c,oc,od,d,fs,ts,sl,sm,rfl,he,h1,ne,hT,h3,k⟩
 ·refine Kd hA F rfl he t λm T oc ts z1 z2 z3 z4 z5=>aeB ?_
  have Te:T≠ea:=akk (ajn (ajg he) z1);have f1:(fs.setIfInBounds 1 (Value.ref T))[1]?=some (.ref T):=by
   have:=t.size
   simp[this]
  refine⟨ea,T,c,oc,od,none,_,ts,sl,#[],rfl,z3,f1,Te,z4,z5,λm' q1 q2 q3=>k m' T _ z1 ⟨λb o q hb hx=>?_,λb o q hb hx=>?_⟩ q3 (by simp) q2⟩
  ·exact q1 b o (ajl (ajn (ajg q) z1)) (z2.plain b o q hb hx)
  ·obtain⟨sm,r⟩:=z2.frame b o q hb hx
   exact⟨sm,q1 b _ (ajl (ajn (ajg q) z1)) r⟩
 ·have h3s:3<ts.size:=(ajw.mp h3).1
  show wpAny _ _ (noteFrame (.ref ea) _) _ _ s;unfold noteFrame;show wpAny _ _ (field (.ref ea) 1 >>= _) _ _ s;refine wpAny_bind (wpAny_field he rfl h1 ?_);rw[if_pos (show(Value.ref T != Value.none)=true by simp)];refine wpAny_bind (wpAny_field hT rfl h3 ?_);rw[if_pos (by simp)];exact wpAny_pure (aeB ⟨ea,T,c,oc,od,d,fs,ts,sl,sm,rfl,he,h1,ne,hT,h3,k⟩)
noncomputable abbrev cxR(P:Program)(w:World)(K:W.Frag)(mg:Str→Option Value)(base:Heap)(N:List Str)(qual:Str)(scope:Scope)(f:Addr)(cdv:Value)(A:Around)(outer:List Env)(s₀:Shared)(H₀:Hp)(E₀:XK):Cx :=
 (cxE P w K mg base N qual scope f cdv A outer s₀ H₀ E₀).FZ (XR P w qual scope f cdv A outer s₀ H₀ E₀ base)
theorem PSs.xr{st:List Stmt}{t:TS}(h:PSs (cxR P w K mg base N qual scope f cdv A outer s₀ H₀ E₀) st t):PSs (cxE P w K mg base N qual scope f cdv A outer s₀ H₀ E₀) st t:=λpins s σ H D I hw =>
 wpAny_mono (h pins s σ H D (I.FZ _) hw) (λ_ _ q=>q.qw) λ_ _ z=>z.xe
theorem Sj{E:XK}(hE:∀ c od H',E c od H'→E₀ c od H'):kB (CXE P w) (cxR P w K mg base N qual scope f cdv A outer s₀ H₀ E₀) (λ_=>E):=λpins σ H s e s' I h=>by
 obtain⟨ea,C,T,od,fs,sl,H',rfl,l,q⟩:=h;exact .inl (QZ I.qw l (hE _ _ _ q))
theorem aiD:PassesOwn (model P w) (cxR P w K mg base N qual scope f cdv A outer s₀ H₀ E₀).A (cxR P w K mg base N qual scope f cdv A outer s₀ H₀ E₀).env (cxR P w K mg base N qual scope f cdv A outer s₀ H₀ E₀).xe:=Ng
end
end L2
end
section
namespace L2
open PySem PySem.Spec PyProof.Rows LX
section
variable{X:Cx}{scope:Scope}{cl:List (Str×Addr)}{xs:List Str}{idx:List Nat}{NC:List Str}{C:Addr}{fp:List Addr}{pins:List (Addr×Obj)}{σ:St}{H:Hp}{s:Shared}
end
end L2
end
section
namespace L2
open PySem PySem.Spec PyProof.Rows LX
section
variable{X:Cx}{scope:Scope}{cl:List (Str×Addr)}{xs:List Str}{idx:List Nat}{NC:List Str}{C:Addr}{fp:List Addr}{pins:List (Addr×Obj)}{σ:St}{H:Hp}{s:Shared}
end
noncomputable def Ym:R2:=λx y H Q=>∃ b c:Bool,x=.bl b∧y=.bl c∧Q (.bl (!decide (b=c))) H
theorem Tp{X:Cx}:OpR X (compareOp .IsNot) Ym:=by
 rintro pins s σ H x y v u Q I rx ry ⟨b,c,rfl,rfl,q⟩;cases rx;cases ry;refine wpAny_isNot_plain rfl (dz I q ?_);cases b<;>cases c<;>rfl
end L2
end
section
namespace K36
open PySem L2 LX
noncomputable abbrev jc:Stmt:=inClass (top 2) 0
noncomputable abbrev oz:Stmt:=top 20
noncomputable abbrev qz:Stmt:=top 21
noncomputable abbrev vU:Stmt:=top 22
noncomputable abbrev yp:Stmt:=top 23
noncomputable abbrev lP:Stmt:=top 24
noncomputable abbrev oA:Stmt:=top 25
noncomputable abbrev oB:Stmt:=top 26
noncomputable abbrev mX:Stmt:=top 27
noncomputable abbrev lQ:Stmt:=top 28
noncomputable abbrev yq:Stmt:=top 30
noncomputable abbrev sh:Stmt:=top 32
noncomputable abbrev jj:Stmt:=top 33
noncomputable abbrev kJ:Stmt:=top 34
noncomputable abbrev kZ:Stmt:=top 35
noncomputable abbrev lR:Stmt:=top 36
noncomputable abbrev jd:Stmt:=top 37
noncomputable abbrev jS:Stmt:=top 38
noncomputable abbrev CJ:Stmt:=top 39
noncomputable abbrev uM:Stmt:=top 40
noncomputable abbrev lS:Stmt:=inClass (top 42) 0
noncomputable abbrev mY:Stmt:=inClass (top 42) 1
noncomputable abbrev kK:Stmt:=inClass (top 42) 2
noncomputable abbrev uN:Stmt:=inClass (top 42) 3
noncomputable abbrev si:Stmt:=inClass (top 42) 4
noncomputable abbrev oE:Stmt:=inClass (top 42) 5
noncomputable abbrev sj:Stmt:=inClass (top 42) 6
noncomputable abbrev qA:Stmt:=inClass (top 42) 7
noncomputable abbrev kL:Stmt:=inClass (top 42) 9
noncomputable abbrev je:Stmt:=inClass (top 45) 0
noncomputable abbrev lT:Stmt:=inClass (top 45) 1
noncomputable abbrev ke:Stmt:=inClass (top 45) 4
noncomputable abbrev sk:Stmt:=top 47
noncomputable abbrev jf:Stmt:=inClass (top 49) 0
noncomputable abbrev lU:Stmt:=inClass (top 49) 1
noncomputable abbrev kM:Stmt:=inClass (top 49) 2
noncomputable abbrev iQ:Stmt:=inClass (top 49) 3
noncomputable abbrev ie:Stmt:=inClass (top 49) 4
noncomputable abbrev mZ:Stmt:=inClass (top 51) 0
noncomputable abbrev lV:Stmt:=inClass (top 51) 1
noncomputable abbrev uO:Stmt:=inClass (top 51) 2
noncomputable abbrev so:Stmt:=inClass (top 51) 3
noncomputable abbrev uP:Stmt:=inClass (top 51) 4
noncomputable abbrev uQ:Stmt:=inClass (top 51) 5
noncomputable abbrev qB:Stmt:=inClass (top 51) 6
noncomputable abbrev uR:Stmt:=inClass (top 51) 7
noncomputable abbrev kN:Stmt:=inClass (top 51) 8
noncomputable abbrev uS:Stmt:=inClass (top 51) 9
noncomputable abbrev ig:Stmt:=inClass (top 51) 10
noncomputable abbrev qC:Stmt:=inClass (top 51) 11
noncomputable abbrev jT:Stmt:=inClass (top 51) 12
noncomputable abbrev ip:Stmt:=inClass (top 51) 15
noncomputable abbrev gU:Stmt:=inClass (top 51) 16
noncomputable abbrev qD:Stmt:=top 52
noncomputable abbrev jg:Stmt:=inClass (top 54) 0
noncomputable abbrev lW:Stmt:=inClass (top 54) 1
noncomputable abbrev lX:Stmt:=inClass (top 54) 2
noncomputable abbrev lY:Stmt:=inClass (top 54) 4
noncomputable abbrev kO:Stmt:=inClass (top 54) 5
noncomputable abbrev kf:Stmt:=inClass (top 54) 6
noncomputable abbrev lZ:Stmt:=inClass (top 54) 8
noncomputable abbrev kP:Stmt:=inClass (top 54) 9
noncomputable abbrev kQ:Stmt:=inClass (top 54) 10
noncomputable abbrev ng:Stmt:=inClass (top 54) 11
noncomputable abbrev jh:Stmt:=inClass (top 54) 12
noncomputable abbrev kR:Stmt:=inClass (top 54) 13
noncomputable abbrev kS:Stmt:=inClass (top 54) 14
noncomputable abbrev kg:Stmt:=inClass (top 54) 15
noncomputable abbrev iR:Stmt:=inClass (top 54) 16
noncomputable abbrev kT:Stmt:=inClass (top 54) 22
noncomputable abbrev kU:Stmt:=inClass (top 56) 0
noncomputable abbrev qE:Stmt:=inClass (top 56) 1
noncomputable abbrev uT:Stmt:=inClass (top 56) 2
noncomputable abbrev sq:Stmt:=inClass (top 56) 3
noncomputable abbrev gE:Stmt:=inClass (top 56) 5
noncomputable abbrev uU:Stmt:=top 58
noncomputable abbrev sr:Stmt:=top 59
noncomputable abbrev oH:Stmt:=top 60
noncomputable abbrev uV:Stmt:=top 61
noncomputable abbrev sv:Stmt:=top 62
noncomputable abbrev uW:Stmt:=top 63
noncomputable abbrev qF:Stmt:=top 64
noncomputable abbrev qG:Stmt:=top 65
noncomputable abbrev jM:Stmt:=top 66
noncomputable abbrev qH:Stmt:=top 67
noncomputable abbrev Qi:Stmt:=top 68
set_option genInjectivity false in
structure Ad where
 aL:Addr
 dv:Addr
 bX:Addr
 fD:Addr
 f9:Addr
 cF:Addr
 h7:Addr
 ko:Addr
 i9:Addr
 ja:Addr
 cP:Addr
 a9:Addr
 aM:Addr
 aF:Addr
 aX:Addr
 aa:Addr
 bN:Addr
 ao:Addr
 aA:FuncData
 dJ:Addr
 jk:FuncData
 cK:Addr
 fJ:FuncData
 eV:Addr
 h9:FuncData
 gc:Addr
 kq:FuncData
 cc:Addr
 fK:FuncData
 bp:Addr
 cG:FuncData
 cW:Addr
 hR:FuncData
 cH:Addr
 gj:FuncData
 cN:Addr
 gW:FuncData
 iM:Addr
 pw:FuncData
 fF:Addr
 lr:FuncData
 cX:Addr
 hU:FuncData
 ck:Addr
 gx:FuncData
 dM:Addr
 jm:FuncData
 cO:Addr
 gX:FuncData
 bD:Addr
 eF:FuncData
 bI:Addr
 fz:FuncData
 jb:Addr
 ph:FuncData
 gI:Addr
 mN:FuncData
 c8:Addr
 gY:FuncData
 cI:Addr
 fq:FuncData
 bO:Addr
 dB:FuncData
 eZ:Addr
 iB:FuncData
 gF:Addr
 lA:FuncData
 eW:Addr
 jn:FuncData
 eT:Addr
 iH:FuncData
 fL:Addr
 jZ:FuncData
 ba:Addr
 cn:FuncData
 bT:Addr
 eG:FuncData
 da:Addr
 gZ:FuncData
 cz:Addr
 fU:FuncData
 fG:Addr
 lB:FuncData
 bU:Addr
 eI:FuncData
 de:Addr
 g4:FuncData
 cR:Addr
 gy:FuncData
 bH:Addr
 dZ:FuncData
 cA:Addr
 fV:FuncData
 cJ:Addr
 iN:FuncData
 cf:Addr
 g7:FuncData
 fQ:Addr
 mO:FuncData
 eU:Addr
 lC:FuncData
 fR:Addr
 mP:FuncData
 fS:Addr
 mQ:FuncData
 dG:Addr
 j2:FuncData
 fT:Addr
 mR:FuncData
 bP:Addr
 gz:FuncData
 gJ:Addr
 qh:FuncData
 bF:Addr
 fW:FuncData
 cZ:Addr
 iU:FuncData
 bt:Addr
 fA:FuncData
 bh:Addr
 ed:FuncData
 bA:Addr
 eB:FuncData
 eJ:Addr
 j3:FuncData
 bV:Addr
 eK:FuncData
 di:Addr
 g8:FuncData
 dq:Addr
 g9:FuncData
 eC:Addr
 ju:FuncData
 dC:Addr
 iY:FuncData
 c5:Addr
 iq:FuncData
 dr:Addr
 hG:FuncData
 bQ:Addr
 dD:FuncData
 cS:Addr
 gA:FuncData
 dR:Addr
 iO:FuncData
 bW:Addr
 eL:FuncData
 bR:Addr
 dE:FuncData
 bS:Addr
 dF:FuncData
 bj:Addr
 cB:FuncData
 aN:Addr
 bo:FuncData
 cT:Addr
 gB:FuncData
 cU:Addr
 gC:FuncData
 fM:Addr
 j4:FuncData
 e7:Addr
 iC:FuncData
 gG:Addr
 lD:FuncData
 aU:Addr
 bZ:FuncData
 fe:Addr
 jr:FuncData
 dP:Addr
 iI:FuncData
 dN:Addr
 jo:FuncData
 gK:Addr
 mS:FuncData
 fH:Addr
 lE:FuncData
 gL:Addr
 mT:FuncData
 eM:Addr
 j5:FuncData
 eN:Addr
 j6:FuncData
 fI:Addr
 lF:FuncData
 eO:Addr
 j7:FuncData
 Hv:Addr
 Nh:FuncData
 Fi:Tok
 nJ:Tok
 mj:Tok
 nK:Tok
 nL:Tok
 nM:Tok
 k6:Tok
structure Txt(K:W.Frag)(mg:Str→Option Value)(D:Ad):Prop where
 h:∃ cd,i8 K D.aL cd
 mH:mg "HeapError" = some (.ref D.aL)
 mU:mg "BadCount" = some (.ref D.dv)
 uX:Kf K D.dv
 mV:MkX K D.dv D.ao
 TV:PySem.W.kitOne K (.ref D.dv) (.type "ValueError")=some true
 Iq:∃ cd,i8 K D.dv cd∧cd.mro.contains (.ref D.aL)=true
 yr:mg "BadHand" = some (.ref D.bX)
 mz:Kf K D.bX
 yt:MkX K D.bX D.ao
 Ut:PySem.W.kitOne K (.ref D.bX) (.type "ValueError")=some true
 KR:∃ cd,i8 K D.bX cd∧cd.mro.contains (.ref D.aL)=true
 Ni:mg "BadName" = some (.ref D.fD)
 Fj:Kf K D.fD
 Nj:MkX K D.fD D.ao
 Uu:PySem.W.kitOne K (.ref D.fD) (.type "ValueError")=some true
 KS:∃ cd,i8 K D.fD cd∧cd.mro.contains (.ref D.aL)=true
 KU:mg "BadField" = some (.ref D.f9)
 CZ:Kf K D.f9
 KW:MkX K D.f9 D.ao
 TX:PySem.W.kitOne K (.ref D.f9) (.type "ValueError")=some true
 Ir:∃ cd,i8 K D.f9 cd∧cd.mro.contains (.ref D.aL)=true
 Dj:mg "TooManyWords" = some (.ref D.cF)
 Dk:Kf K D.cF
 Dl:MkX K D.cF D.ao
 Qj:PySem.W.kitOne K (.ref D.cF) (.type "ValueError")=some true
 Bo:∃ cd,i8 K D.cF cd∧cd.mro.contains (.ref D.aL)=true
 Nk:mg "BadView" = some (.ref D.h7)
 Nl:Kf K D.h7
 Nm:MkX K D.h7 D.ao
 Uv:PySem.W.kitOne K (.ref D.h7) (.type "ValueError")=some true
 TY:∃ cd,i8 K D.h7 cd∧cd.mro.contains (.ref D.aL)=true
 PB:mg "NoRoom" = some (.ref D.ko)
 PD:Kf K D.ko
 PH:MkX K D.ko D.ao
 Vz:PySem.W.kitOne K (.ref D.ko) (.type "ValueError")=some true
 Nn:∃ cd,i8 K D.ko cd∧cd.mro.contains (.ref D.aL)=true
 Np:mg "RoundOn" = some (.ref D.i9)
 Nq:Kf K D.i9
 Nr:MkX K D.i9 D.ao
 Uw:PySem.W.kitOne K (.ref D.i9) (.type "ValueError")=some true
 KY:∃ cd,i8 K D.i9 cd∧cd.mro.contains (.ref D.aL)=true
 Nu:mg "NoRound" = some (.ref D.ja)
 Nv:Kf K D.ja
 Nw:MkX K D.ja D.ao
 Ux:PySem.W.kitOne K (.ref D.ja) (.type "ValueError")=some true
 KZ:∃ cd,i8 K D.ja cd∧cd.mro.contains (.ref D.aL)=true
 wk:mg "BadAddress" = some (.ref D.cP)
 qI:Kf K D.cP
 Gb:MkX K D.cP D.ao
 RB:PySem.W.kitOne K (.ref D.cP) (.type "ValueError")=some true
 Qv:∃ cd,i8 K D.cP cd∧cd.mro.contains (.ref D.aL)=true
 Q0:mg "Hands" = some (.ref D.a9)
 aY:Cls K D.a9
 FP:Mk K D.a9 D.c8
 cC:eD K D.a9 "words_held"
 l7:Meth K D.a9 "word_in" D.cI
 kh:Meth K D.a9 "all_words" D.bO
 nN:Meth K D.a9 "put" D.eZ
 Ge:Meth K D.a9 "copy" D.gF
 Dm:Meth K D.a9 "number" D.eW
 qJ:Meth K D.a9 "kind" D.eT
 Ea:Meth K D.a9 "value" D.fL
 fX:Meth K D.a9 "thing_due" D.ba
 Iu:mg "WordTable" = some (.ref D.aM)
 c0:Cls K D.aM
 sA:Mk K D.aM D.bT
 bJ:eD K D.aM "words_borne"
 kE:eD K D.aM "words_said"
 yz:Meth K D.aM "bear" D.da
 va:Meth K D.aM "settle" D.cz
 Iv:mg "NameTable" = some (.ref D.aF)
 dH:Cls K D.aF
 sC:Mk K D.aF D.bU
 b7:eD K D.aF "things_named"
 yA:Meth K D.aF "name" D.de
 wI:Meth K D.aF "named" D.cR
 rC:Meth K D.aF "all_named" D.bH
 vc:Meth K D.aF "settle" D.cA
 Tq:mg "Heap" = some (.ref D.aX)
 XA:Cls K D.aX
 OC:Mk K D.aX D.cJ
 MN:eD K D.aX "makes_young"
 Qk:eD K D.aX "in_hands"
 NZ:eD K D.aX "weak_names"
 N0:eD K D.aX "last_words"
 MO:eD K D.aX "fields_held"
 Me:eD K D.aX "young_things"
 N2:eD K D.aX "next_thing"
 N3:Meth K D.aX "add_thing" D.cf
 Sr:Meth K D.aX "load" D.fQ
 RC:Meth K D.aX "store" D.eU
 Ss:Meth K D.aX "copy" D.fR
 Su:Meth K D.aX "drop" D.fS
 Qw:Meth K D.aX "number" D.dG
 Sv:Meth K D.aX "name" D.fT
 MP:Meth K D.aX "read_thing" D.bP
 Sw:Meth K D.aX "word" D.gJ
 Mf:Meth K D.aX "small_round" D.bF
 Qx:Meth K D.aX "let_go" D.cZ
 Kq:Meth K D.aX "look_at_held" D.bt
 Mg:Meth K D.aX "words_among" D.bh
 N4:Meth K D.aX "led_among" D.bA
 Tr:Uo K D.aX "__init__" D.cJ
 Iw:mg "IdealHeap" = some (.ref D.aa)
 ae:Cls K D.aa
 sD:Mk K D.aa D.bV
 gQ:eD K D.aa "makes_young"
 aB:eD K D.aa "in_hands"
 dA:eD K D.aa "weak_names"
 ia:eD K D.aa "last_words"
 aC:eD K D.aa "fields_held"
 bE:eD K D.aa "young_things"
 ib:eD K D.aa "next_thing"
 kF:eD K D.aa "young_room"
 pL:eD K D.aa "limit"
 bw:eD K D.aa "doomed_things"
 c7:eD K D.aa "in_round"
 rD:Meth K D.aa "add_thing" D.cf
 yB:Meth K D.aa "load" D.fQ
 wJ:Meth K D.aa "store" D.eU
 yC:Meth K D.aa "copy" D.fR
 yD:Meth K D.aa "drop" D.fS
 ve:Meth K D.aa "number" D.dG
 yE:Meth K D.aa "name" D.fT
 qQ:Meth K D.aa "read_thing" D.bP
 N5:Meth K D.aa "word" D.gJ
 pV:Meth K D.aa "small_round" D.bF
 nA:Meth K D.aa "let_go" D.cZ
 pz:Meth K D.aa "look_at_held" D.bt
 jW:Meth K D.aa "words_among" D.bh
 ic:Meth K D.aa "led_among" D.bA
 yF:Meth K D.aa "make" D.di
 yG:Meth K D.aa "read" D.dq
 N6:Meth K D.aa "kind" D.eC
 MQ:Meth K D.aa "value" D.dC
 Mh:Meth K D.aa "fields" D.c5
 yI:Meth K D.aa "held" D.dr
 kj:Meth K D.aa "small" D.bQ
 wK:Meth K D.aa "begin" D.cS
 Bp:Meth K D.aa "end" D.dR
 sW:Meth K D.aa "round_on" D.bW
 ir:Meth K D.aa "hands" D.bR
 iu:Meth K D.aa "names" D.bS
 cQ:Meth K D.aa "things" D.bj
 cL:Meth K D.aa "fields_of" D.aN
 wL:Meth K D.aa "spare" D.cT
 PJ:mg "Memory" = some (.ref D.bN)
 dw:Cls K D.bN
 CK:Mk K D.bN D.cU
 hV:eD K D.bN "cells"
 Eb:Meth K D.bN "size" D.fM
 lG:Meth K D.bN "at" D.e7
 Gf:Meth K D.bN "put" D.gG
 jv:Meth K D.bN "look_at_address" D.aU
 Ec:mg "number_value" = some (.ref D.dJ)
 oJ:PySem.W.keepIn K (.ref D.dJ)=true
 mB:mg "thing_value" = some (.ref D.cK)
 iV:PySem.W.keepIn K (.ref D.cK)=true
 rE:mg "kind_of" = some (.ref D.eV)
 mM:PySem.W.keepIn K (.ref D.eV)=true
 yu:mg "words_of" = some (.ref D.gc)
 pA:PySem.W.keepIn K (.ref D.gc)=true
 rf:mg "look_at_number" = some (.ref D.cc)
 jw:PySem.W.keepIn K (.ref D.cc)=true
 fZ:mg "look_at_hand" = some (.ref D.bp)
 dO:PySem.W.keepIn K (.ref D.bp)=true
 uG:mg "look_at_name" = some (.ref D.cW)
 k7:PySem.W.keepIn K (.ref D.cW)=true
 sQ:mg "look_at_field" = some (.ref D.cH)
 j9:PySem.W.keepIn K (.ref D.cH)=true
 Bq:mg "look_at_limits" = some (.ref D.cN)
 l9:PySem.W.keepIn K (.ref D.cN)=true
 Nx:mg "resolved" = some (.ref D.iM)
 yv:PySem.W.keepIn K (.ref D.iM)=true
 Iy:mg "is_picture" = some (.ref D.fF)
 sE:PySem.W.keepIn K (.ref D.fF)=true
 uH:mg "first_unlike" = some (.ref D.cX)
 k8:PySem.W.keepIn K (.ref D.cX)=true
 yJ:mg "first_misplaced" = some (.ref D.ck)
 kW:PySem.W.keepIn K (.ref D.ck)=true
 uI:mg "addresses_of" = some (.ref D.dM)
 k9:PySem.W.keepIn K (.ref D.dM)=true
 Br:mg "first_headless" = some (.ref D.cO)
 md:PySem.W.keepIn K (.ref D.cO)=true
 tY:mg "first_unlike_field" = some (.ref D.bD)
 ji:PySem.W.keepIn K (.ref D.bD)=true
 nB:mg "first_unlike_word" = some (.ref D.bI)
 gO:PySem.W.keepIn K (.ref D.bI)=true
 HX:mg "is_like" = some (.ref D.jb)
 vV:PySem.W.keepIn K (.ref D.jb)=true
 K0:mg "place_met" = some (.ref D.gI)
 uY:PySem.W.keepIn K (.ref D.gI)=true
 Iz:mg "last_steps" = some (.ref D.fG)
 sF:PySem.W.keepIn K (.ref D.fG)=true
 wm:mg "thing_among" = some (.ref D.eJ)
 mC:PySem.W.keepIn K (.ref D.eJ)=true
 uZ:mg "_law_cell" = some (.ref D.fe)
 mW:PySem.W.keepIn K (.ref D.fe)=true
 jN:mg "_law_mixed" = some (.ref D.dP)
 gH:PySem.W.keepIn K (.ref D.dP)=true
 Ed:mg "_law_numbers" = some (.ref D.dN)
 oK:PySem.W.keepIn K (.ref D.dN)=true
 K1:mg "_law_deed" = some (.ref D.gK)
 u1:PySem.W.keepIn K (.ref D.gK)=true
 IA:mg "_law_round" = some (.ref D.fH)
 sG:PySem.W.keepIn K (.ref D.fH)=true
 K2:mg "_law_heap" = some (.ref D.gL)
 u3:PySem.W.keepIn K (.ref D.gL)=true
 Gg:mg "_law_places" = some (.ref D.eM)
 qK:PySem.W.keepIn K (.ref D.eM)=true
 wo:mg "_law_spoken" = some (.ref D.eN)
 mD:PySem.W.keepIn K (.ref D.eN)=true
 IB:mg "_law_model" = some (.ref D.fI)
 sI:PySem.W.keepIn K (.ref D.fI)=true
 Gh:mg "_law_memory" = some (.ref D.eO)
 qL:PySem.W.keepIn K (.ref D.eO)=true
 ai2:mg "law" = some (.ref D.Hv)
 Uy:PySem.W.keepIn K (.ref D.Hv)=true
 kr:mg "len" = none
 tV:mg "range" = none
 qM:mg "list" = none
 A7:mg "sorted" = none
 Sk:mg "sum" = none
 Sl:mg "abs" = none
 iD:mg "enumerate" = none
 sJ:mg "ValueError" = none
 Kr:mg "dict" = none
 Fl:mg "HANDS" = some (.int 8 D.Fi)
 nO:mg "WEAK_NAMES" = some (.int 8 D.nJ)
 qN:mg "MOST_FIELDS" = some (.int 6 D.mj)
 nP:mg "LEAST_ROOM" = some (.int 7 D.nK)
 sL:mg "MOST_YOUNG" = some (.int 64 D.nL)
 sM:mg "MOST_LIMIT" = some (.int 400 D.nM)
 lg:mg "MOST_BEARERS" = some (.int 12 D.k6)
structure Ok(P:Program)(w:World)(K:W.Frag)(mg:Str→Option Value)(base:Heap)(n:Nat)(f:Addr)(fd:FuncData)(ps:List Str)(sp:Sp):Prop where
 g:Bi P w K mg base (CXE P w) n f fd ps sp
 b:Binds K fd ps []
inductive Wd where
 | no
 | num (x:Int)
 | th (t:Int)
 deriving DecidableEq
noncomputable def Wd.kind:Wd→Str
 | .no => "none"
 | .num _ => "number"
 | .th _ => "thing"
noncomputable def Wd.vl:Wd→Vl
 | .no=>.a .non
 | .num x=>.t [.a (.str "number"),.a (.int x)]
 | .th t=>.t [.a (.str "thing"),.a (.int t)]
noncomputable def WV(H:Hp)(v:V):Wd→Prop
 | .no=>v=.non
 | .num x=>∃ t,v=.ref t∧H t=some (.tup [.str "number",.int x])
 | .th x=>∃ t,v=.ref t∧H t=some (.tup [.str "thing",.int x])
noncomputable def cv(H H':Hp):Prop:=∀ t us,H t=some (.tup us)→H' t=some (.tup us)
theorem cv.of{H H':Hp}(s:aE H H'):cv H H':=λt us q=>s _ _ q
theorem cv.trans{H H1 H2:Hp}(a:cv H H1)(b:cv H1 H2):cv H H2:=λt us q=>b t us (a t us q)
theorem cv.set{H:Hp}{c:Addr}{u o:HO}(h:H c=some u)(n:∀ xs,u≠.tup xs):cv H (upd H c o):=λt us q=>by
 rw[af λe=>by rw[e,h]at q;exact n us (ajx q)];exact q
theorem WV.keep{H H':Hp}{v:V}{w:Wd}(h:WV H v w)(s:cv H H'):WV H' v w:=by
 cases w with
 | no=>exact h
 | num n=>obtain⟨t,e,q⟩:=h;exact⟨t,e,s _ _ q⟩
 | th n=>obtain⟨t,e,q⟩:=h;exact⟨t,e,s _ _ q⟩
noncomputable def Rel(H:Hp)(xs:List V)(ws:List Wd):Prop:=xs.length=ws.length∧∀(i:Nat) (v:V) (w:Wd),xs[i]?=some v→ws[i]?=some w→WV H v w
theorem Rel.keep{H H':Hp}{xs:List V}{ws:List Wd}(h:Rel H xs ws)(s:cv H H'):Rel H' xs ws:=⟨h.1,λi v w a b=>(h.2 i v w a b).keep s⟩
theorem Rel.get{H:Hp}{xs:List V}{ws:List Wd}(h:Rel H xs ws){i:Nat}(hi:i<ws.length):∃ v,xs[i]?=some v∧WV H v ws[i] :=
 ⟨_,ai7 (by rw[h.1];exact hi),h.2 i _ _ (ai7 (by rw[h.1];exact hi)) (ai7 hi)⟩
theorem Rel.set{H:Hp}{xs:List V}{ws:List Wd}{i:Nat}{v:V}{w:Wd}(h:Rel H xs ws)(hv:WV H v w):Rel H (xs.set i v) (ws.set i w):=by
 refine⟨by rw[ajG,ajG];exact h.1,λj u y a b=>?_⟩;rw[List.getElem?_set]at a b;by_cases e:i=j
 ·subst e
  simp only[if_true]at a b;split at a
  ·split at b
   ·cases a;cases b;exact hv
   ·cases b
  ·cases a
 ·rw[if_neg e]at a b
  exact h.2 j u y a b
theorem Rel.nil{H:Hp}{n:Nat}:Rel H (List.replicate n .non) (List.replicate n .no):=⟨by simp,λi v w a b=>by
 rw[ajU (aje a),ajU (aje b)];rfl⟩
noncomputable def nmV:Option Int→V
 | none=>.non
 | some t=>.int t
structure HS where
 my:Bool
 bq:List Wd
 names:List (Option Int)
 cp:List (Int×Int)
 vg:List Int
 aR:List (Int×List Wd)
 yng:List Int
 nxt:Int
 room:Int
 limit:Int
 dQ:List Int
 rnd:Bool
structure HA where
 dx:Addr
 hd:Addr
 hdx:Addr
 hl:Addr
 hx:List V
 nt:Addr
 ntx:Addr
 nl:Addr
 wt:Addr
 wtx:Addr
 wb:Addr
 wl:Addr
 fh:Addr
 fa:Int→Addr
 fx:Int→List V
 yg:Addr
 dm:Addr
noncomputable def atts(A:HA)(s:HS):List (Str×V):=[("makes_young",.bl s.my),("in_hands",.ref A.hd),("weak_names",.ref A.nt),("last_words",.ref A.wt),("fields_held",.ref A.fh),("young_things",.ref A.yg),("next_thing",.int s.nxt),("young_room",.int s.room),("limit",.int s.limit),("doomed_things",.ref A.dm),("in_round",.bl s.rnd)]
theorem Uz{A:HA}{s:HS}:(atts A s).lookup ("makes_young" : Str)=some (.bl s.my):=by kernel_rfl
theorem nQ{A:HA}{s:HS}:(atts A s).lookup ("in_hands" : Str)=some (.ref A.hd):=by kernel_rfl
theorem Ql{A:HA}{s:HS}:(atts A s).lookup ("weak_names" : Str)=some (.ref A.nt):=by kernel_rfl
theorem UA{A:HA}{s:HS}:(atts A s).lookup ("last_words" : Str)=some (.ref A.wt):=by kernel_rfl
theorem rp{A:HA}{s:HS}:(atts A s).lookup ("fields_held" : Str)=some (.ref A.fh):=by kernel_rfl
theorem Ny{A:HA}{s:HS}:(atts A s).lookup ("young_things" : Str)=some (.ref A.yg):=by kernel_rfl
theorem Yn{A:HA}{s:HS}:(atts A s).lookup ("next_thing" : Str)=some (.int s.nxt):=by kernel_rfl
theorem Yo{A:HA}{s:HS}:(atts A s).lookup ("young_room" : Str)=some (.int s.room):=by kernel_rfl
theorem Yp{A:HA}{s:HS}:(atts A s).lookup ("limit" : Str)=some (.int s.limit):=by kernel_rfl
theorem Nz{A:HA}{s:HS}:(atts A s).lookup ("doomed_things" : Str)=some (.ref A.dm):=by kernel_rfl
theorem Sn{A:HA}{s:HS}:(atts A s).lookup ("in_round" : Str)=some (.bl s.rnd):=by kernel_rfl
theorem Yq{A:HA}{s:HS}{n:Int}:iK "next_thing" (.int n) (atts A s)=atts A {s with nxt:=n}:=by kernel_rfl
theorem Yr{A:HA}{s:HS}{b:Bool}:iK "in_round" (.bl b) (atts A s)=atts A {s with rnd:=b}:=by kernel_rfl
theorem Ys{A:HA}{s:HS}{a:Addr}:iK "young_things" (.ref a) (atts A s)=atts {A with yg:=a} s:=by kernel_rfl
theorem Yt{A:HA}{s:HS}{a:Addr}:iK "doomed_things" (.ref a) (atts A s)=atts {A with dm:=a} s:=by kernel_rfl
noncomputable def bkv(p:Int×Int):Key×V:=(Sum.inl p.1,.int p.2)
noncomputable def tkv(t:Int):Key×V:=(Sum.inl t,.bl true)
noncomputable def fkv(A:HA)(p:Int×List Wd):Key×V:=(Sum.inl p.1,.ref (A.fa p.1))
structure IH(D:Ad)(H:Hp)(x:Addr)(A:HA)(s:HS):Prop where
 ax:H x=some (.ins D.aa A.dx (atts A s))
 ahd:H A.hd=some (.ins D.a9 A.hdx [("words_held",.ref A.hl)])
 ahl:H A.hl=some (.lst A.hx)
 rhl:Rel H A.hx s.bq
 ant:H A.nt=some (.ins D.aF A.ntx [("things_named",.ref A.nl)])
 anl:H A.nl=some (.lst (s.names.map nmV))
 awt:H A.wt=some (.ins D.aM A.wtx [("words_borne",.ref A.wb),("words_said",.ref A.wl)])
 awb:H A.wb=some (.dK (s.cp.map bkv))
 awl:H A.wl=some (.lst (s.vg.map V.int))
 afh:H A.fh=some (.dK (s.aR.map (fkv A)))
 afl:∀ t ws,(t,ws)∈s.aR→H (A.fa t)=some (.lst (A.fx t))∧Rel H (A.fx t) ws
 ayg:H A.yg=some (.dK (s.yng.map tkv))
 adm:H A.dm=some (.dK (s.dQ.map tkv))
 nhn:A.hd≠A.nt
 l1:A.hl≠A.nl
 l2:A.hl≠A.wl
 l3:A.nl≠A.wl
 l4:∀ t ws,(t,ws)∈s.aR→A.fa t≠A.hl∧A.fa t≠A.nl∧A.fa t≠A.wl
 l5:∀ t ws t' ws',(t,ws)∈s.aR→(t',ws')∈s.aR→A.fa t=A.fa t'→t=t'
 d1:A.wb≠A.fh
 d2:A.wb≠A.yg
 d3:A.wb≠A.dm
 d4:A.fh≠A.yg
 d5:A.fh≠A.dm
 d6:A.yg≠A.dm
inductive cD(x:Addr)(A:HA)(s:HS):Addr→Prop where
 | x:cD x A s x
 | hd:cD x A s A.hd
 | hl:cD x A s A.hl
 | nt:cD x A s A.nt
 | nl:cD x A s A.nl
 | wt:cD x A s A.wt
 | wb:cD x A s A.wb
 | wl:cD x A s A.wl
 | fh:cD x A s A.fh
 | yg:cD x A s A.yg
 | dm:cD x A s A.dm
 | fl {t:Int} {ws:List Wd}:(t,ws)∈s.aR→cD x A s (A.fa t)
theorem mE{C d C' d':Addr}{fs gs:List (Str×V)}(h:fs.length≠gs.length):HO.ins C d fs≠HO.ins C' d' gs:=λe=>by
 injection e with _ _ e;exact h (congrArg List.length e)
section
variable{D:Ad}{H H' H1 H2:Hp}{x:Addr}{A A':HA}{s s':HS}
theorem IH.is(J:IH D H x A s){b:Addr}(f:cD x A s b):∃ u,H b=some u∧∀ xs,u≠.tup xs:=by
 cases f with
 | x=>exact⟨_,J.ax,λ_ z=>nomatch z⟩
 | hd=>exact⟨_,J.ahd,λ_ z=>nomatch z⟩
 | hl=>exact⟨_,J.ahl,λ_ z=>nomatch z⟩
 | nt=>exact⟨_,J.ant,λ_ z=>nomatch z⟩
 | nl=>exact⟨_,J.anl,λ_ z=>nomatch z⟩
 | wt=>exact⟨_,J.awt,λ_ z=>nomatch z⟩
 | wb=>exact⟨_,J.awb,λ_ z=>nomatch z⟩
 | wl=>exact⟨_,J.awl,λ_ z=>nomatch z⟩
 | fh=>exact⟨_,J.afh,λ_ z=>nomatch z⟩
 | yg=>exact⟨_,J.ayg,λ_ z=>nomatch z⟩
 | dm=>exact⟨_,J.adm,λ_ z=>nomatch z⟩
 | fl m=>exact⟨_,(J.afl _ _ m).1,λ_ z=>nomatch z⟩
theorem IH.keep(J:IH D H x A s)(k:∀ b u,cD x A s b→H b=some u→H' b=some u)(t:cv H H'):IH D H' x A s :=
 ⟨k _ _ .x J.ax,k _ _ .hd J.ahd,k _ _ .hl J.ahl,J.rhl.keep t,k _ _ .nt J.ant,k _ _ .nl J.anl,k _ _ .wt J.awt,k _ _ .wb J.awb,k _ _ .wl J.awl,k _ _ .fh J.afh,λu ws m=>⟨k _ _ (.fl m) (J.afl _ _ m).1,(J.afl _ _ m).2.keep t⟩,k _ _ .yg J.ayg,k _ _ .dm J.adm,
  J.nhn,J.l1,J.l2,J.l3,J.l4,J.l5,J.d1,J.d2,J.d3,J.d4,J.d5,J.d6⟩
theorem IH.same(J:IH D H x A s)(k:aE H H'):IH D H' x A s:=J.keep (λ_ _ _ q=>k _ _ q) (cv.of k)
structure Fr(F:Addr→Prop)(H:Hp)(F':Addr→Prop)(H':Hp):Prop where
 ext:∀ b u,¬F b→H b=some u→H' b=some u
 grow:∀ b,F' b→F b∨H b=none
 all:∀ b u,H b=some u→∃ u',H' b=some u'
 tup:cv H H'
variable{F F' F1 F2:Addr→Prop}
theorem Fr.trans(a:Fr F H F1 H1)(b:Fr F1 H1 F2 H2):Fr F H F2 H2 where
 ext:=λc u n q=>b.ext c u (λf=>(a.grow c f).elim n λe=>by rw[e]at q;cases q) (a.ext c u n q)
 grow:=λc f=>(b.grow c f).elim (λf1=>a.grow c f1) λe=>by
  cases q:H c with
  | none=>exact .inr rfl
  | some u=>obtain⟨u',q'⟩:=a.all c u q;rw[e]at q';cases q'
 all:=λc u q=>by obtain⟨u',q'⟩:=a.all c u q;exact b.all c u' q'
 tup:=a.tup.trans b.tup
theorem Fr.same(k:aE H H'):Fr F H F H':=⟨λ_ _ _ q=>k _ _ q,λ_ f=>.inl f,λb u q=>⟨u,k _ _ q⟩,cv.of k⟩
theorem Fr.refl:Fr F H F H:=Fr.same λ_ _ q=>q
theorem Fr.none(a:Fr F H F' H'){b:Addr}(h:H' b=none):H b=none:=by
 cases q:H b with
 | none=>rfl
 | some u=>obtain⟨u',q'⟩:=a.all b u q;rw[h]at q';cases q'
theorem Fr.set{b:Addr}{u o:HO}(f:F b)(hb:H b=some u)(n:∀ xs,u≠.tup xs)(g:∀ c,F' c→F c):Fr F H F' (upd H b o) where
 ext:=λc v nf q=>by rw[af λe=>nf (by rw[e];exact f)];exact q
 grow:=λc f=>.inl (g c f)
 all:=λc v q=>by
  by_cases e:c=b
  ·exact⟨o,by rw[e];exact ah⟩
  ·exact⟨v,by rw[af e];exact q⟩
 tup:=cv.set hb n
theorem Fr.out(a:Fr F H F' H'){b:Addr}{u:HO}(n:¬F b)(q:H b=some u):H' b=some u∧¬F' b:=⟨a.ext b u n q,λf=>(a.grow b f).elim n λe=>by rw[e]at q;cases q⟩
theorem IH.Qt(J:IH D H x A s){xs:List V}{ws:List Wd}(r:Rel H xs ws):IH D (upd H A.hl (.lst xs)) x {A with hx:=xs} {s with bq:=ws}∧Fr (cD x A s) H (cD x {A with hx:=xs} {s with bq:=ws}) (upd H A.hl (.lst xs)):=by
 have tk:cv H (upd H A.hl (.lst xs)):=cv.set J.ahl (λ_ z=>nomatch z);refine⟨⟨(by rw[af (ay J.ax J.ahl (by intro z;cases z))];exact J.ax),(by rw[af (ay J.ahd J.ahl (by intro z;cases z))];exact J.ahd),ah,r.keep tk,(by rw[af (ay J.ant J.ahl (by intro z;cases z))];exact J.ant),(by rw[af (ajm J.l1)];exact J.anl),(by rw[af (ay J.awt J.ahl (by intro z;cases z))];exact J.awt),(by rw[af (ay J.awb J.ahl (by intro z;cases z))];exact J.awb),(by rw[af (ajm J.l2)];exact J.awl),(by rw[af (ay J.afh J.ahl (by intro z;cases z))];exact J.afh),(λt ws m=>⟨by rw[af (J.l4 _ _ m).1];exact(J.afl _ _ m).1,(J.afl _ _ m).2.keep tk⟩),(by rw[af (ay J.ayg J.ahl (by intro z;cases z))];exact J.ayg),(by rw[af (ay J.adm J.ahl (by intro z;cases z))];exact J.adm),J.nhn,J.l1,J.l2,J.l3,J.l4,J.l5,J.d1,J.d2,J.d3,J.d4,J.d5,J.d6⟩,Fr.set .hl J.ahl (λ_ z=>nomatch z) (λc f=>?_)⟩;cases f with
 | x=>exact .x
 | hd=>exact .hd
 | hl=>exact .hl
 | nt=>exact .nt
 | nl=>exact .nl
 | wt=>exact .wt
 | wb=>exact .wb
 | wl=>exact .wl
 | fh=>exact .fh
 | yg=>exact .yg
 | dm=>exact .dm
 | fl m=>exact .fl m
theorem IH.aiE(J:IH D H x A s){ns:List (Option Int)}:IH D (upd H A.nl (.lst (ns.map nmV))) x A {s with names:=ns}∧Fr (cD x A s) H (cD x A {s with names:=ns}) (upd H A.nl (.lst (ns.map nmV))):=by
 have tk:cv H (upd H A.nl (.lst (ns.map nmV))):=cv.set J.anl (λ_ z=>nomatch z);refine⟨⟨(by rw[af (ay J.ax J.anl (by intro z;cases z))];exact J.ax),(by rw[af (ay J.ahd J.anl (by intro z;cases z))];exact J.ahd),(by rw[af J.l1];exact J.ahl),J.rhl.keep tk,(by rw[af (ay J.ant J.anl (by intro z;cases z))];exact J.ant),ah,(by rw[af (ay J.awt J.anl (by intro z;cases z))];exact J.awt),(by rw[af (ay J.awb J.anl (by intro z;cases z))];exact J.awb),(by rw[af (ajm J.l3)];exact J.awl),(by rw[af (ay J.afh J.anl (by intro z;cases z))];exact J.afh),(λt ws m=>⟨by rw[af (J.l4 _ _ m).2.1];exact(J.afl _ _ m).1,(J.afl _ _ m).2.keep tk⟩),(by rw[af (ay J.ayg J.anl (by intro z;cases z))];exact J.ayg),(by rw[af (ay J.adm J.anl (by intro z;cases z))];exact J.adm),J.nhn,J.l1,J.l2,J.l3,J.l4,J.l5,J.d1,J.d2,J.d3,J.d4,J.d5,J.d6⟩,Fr.set .nl J.anl (λ_ z=>nomatch z) (λc f=>?_)⟩;cases f with
 | x=>exact .x
 | hd=>exact .hd
 | hl=>exact .hl
 | nt=>exact .nt
 | nl=>exact .nl
 | wt=>exact .wt
 | wb=>exact .wb
 | wl=>exact .wl
 | fh=>exact .fh
 | yg=>exact .yg
 | dm=>exact .dm
 | fl m=>exact .fl m
theorem IH.aeC(J:IH D H x A s){bs:List (Int×Int)}:IH D (upd H A.wb (.dK (bs.map bkv))) x A {s with cp:=bs}∧Fr (cD x A s) H (cD x A {s with cp:=bs}) (upd H A.wb (.dK (bs.map bkv))):=by
 have tk:cv H (upd H A.wb (.dK (bs.map bkv))):=cv.set J.awb (λ_ z=>nomatch z);refine⟨⟨(by rw[af (ay J.ax J.awb (by intro z;cases z))];exact J.ax),(by rw[af (ay J.ahd J.awb (by intro z;cases z))];exact J.ahd),(by rw[af (ay J.ahl J.awb (by intro z;cases z))];exact J.ahl),J.rhl.keep tk,(by rw[af (ay J.ant J.awb (by intro z;cases z))];exact J.ant),(by rw[af (ay J.anl J.awb (by intro z;cases z))];exact J.anl),(by rw[af (ay J.awt J.awb (by intro z;cases z))];exact J.awt),ah,(by rw[af (ay J.awl J.awb (by intro z;cases z))];exact J.awl),(by rw[af (ajm J.d1)];exact J.afh),(λt ws m=>⟨by rw[af (ay (J.afl _ _ m).1 J.awb (by intro z;cases z))];exact(J.afl _ _ m).1,(J.afl _ _ m).2.keep tk⟩),(by rw[af (ajm J.d2)];exact J.ayg),(by rw[af (ajm J.d3)];exact J.adm),J.nhn,J.l1,J.l2,J.l3,J.l4,J.l5,J.d1,J.d2,J.d3,J.d4,J.d5,J.d6⟩,Fr.set .wb J.awb (λ_ z=>nomatch z) (λc f=>?_)⟩;cases f with
 | x=>exact .x
 | hd=>exact .hd
 | hl=>exact .hl
 | nt=>exact .nt
 | nl=>exact .nl
 | wt=>exact .wt
 | wb=>exact .wb
 | wl=>exact .wl
 | fh=>exact .fh
 | yg=>exact .yg
 | dm=>exact .dm
 | fl m=>exact .fl m
theorem IH.aiF(J:IH D H x A s){zs:List Int}:IH D (upd H A.wl (.lst (zs.map V.int))) x A {s with vg:=zs}∧Fr (cD x A s) H (cD x A {s with vg:=zs}) (upd H A.wl (.lst (zs.map V.int))):=by
 have tk:cv H (upd H A.wl (.lst (zs.map V.int))):=cv.set J.awl (λ_ z=>nomatch z);refine⟨⟨(by rw[af (ay J.ax J.awl (by intro z;cases z))];exact J.ax),(by rw[af (ay J.ahd J.awl (by intro z;cases z))];exact J.ahd),(by rw[af J.l2];exact J.ahl),J.rhl.keep tk,(by rw[af (ay J.ant J.awl (by intro z;cases z))];exact J.ant),(by rw[af J.l3];exact J.anl),(by rw[af (ay J.awt J.awl (by intro z;cases z))];exact J.awt),(by rw[af (ay J.awb J.awl (by intro z;cases z))];exact J.awb),ah,(by rw[af (ay J.afh J.awl (by intro z;cases z))];exact J.afh),(λt ws m=>⟨by rw[af (J.l4 _ _ m).2.2];exact(J.afl _ _ m).1,(J.afl _ _ m).2.keep tk⟩),(by rw[af (ay J.ayg J.awl (by intro z;cases z))];exact J.ayg),(by rw[af (ay J.adm J.awl (by intro z;cases z))];exact J.adm),J.nhn,J.l1,J.l2,J.l3,J.l4,J.l5,J.d1,J.d2,J.d3,J.d4,J.d5,J.d6⟩,Fr.set .wl J.awl (λ_ z=>nomatch z) (λc f=>?_)⟩;cases f with
 | x=>exact .x
 | hd=>exact .hd
 | hl=>exact .hl
 | nt=>exact .nt
 | nl=>exact .nl
 | wt=>exact .wt
 | wb=>exact .wb
 | wl=>exact .wl
 | fh=>exact .fh
 | yg=>exact .yg
 | dm=>exact .dm
 | fl m=>exact .fl m
theorem IH.aiG(J:IH D H x A s){ts:List Int}:IH D (upd H A.yg (.dK (ts.map tkv))) x A {s with yng:=ts}∧Fr (cD x A s) H (cD x A {s with yng:=ts}) (upd H A.yg (.dK (ts.map tkv))):=by
 have tk:cv H (upd H A.yg (.dK (ts.map tkv))):=cv.set J.ayg (λ_ z=>nomatch z);refine⟨⟨(by rw[af (ay J.ax J.ayg (by intro z;cases z))];exact J.ax),(by rw[af (ay J.ahd J.ayg (by intro z;cases z))];exact J.ahd),(by rw[af (ay J.ahl J.ayg (by intro z;cases z))];exact J.ahl),J.rhl.keep tk,(by rw[af (ay J.ant J.ayg (by intro z;cases z))];exact J.ant),(by rw[af (ay J.anl J.ayg (by intro z;cases z))];exact J.anl),(by rw[af (ay J.awt J.ayg (by intro z;cases z))];exact J.awt),(by rw[af J.d2];exact J.awb),(by rw[af (ay J.awl J.ayg (by intro z;cases z))];exact J.awl),(by rw[af J.d4];exact J.afh),(λt ws m=>⟨by rw[af (ay (J.afl _ _ m).1 J.ayg (by intro z;cases z))];exact(J.afl _ _ m).1,(J.afl _ _ m).2.keep tk⟩),ah,(by rw[af (ajm J.d6)];exact J.adm),J.nhn,J.l1,J.l2,J.l3,J.l4,J.l5,J.d1,J.d2,J.d3,J.d4,J.d5,J.d6⟩,Fr.set .yg J.ayg (λ_ z=>nomatch z) (λc f=>?_)⟩;cases f with
 | x=>exact .x
 | hd=>exact .hd
 | hl=>exact .hl
 | nt=>exact .nt
 | nl=>exact .nl
 | wt=>exact .wt
 | wb=>exact .wb
 | wl=>exact .wl
 | fh=>exact .fh
 | yg=>exact .yg
 | dm=>exact .dm
 | fl m=>exact .fl m
theorem IH.aeD(J:IH D H x A s){ts:List Int}:IH D (upd H A.dm (.dK (ts.map tkv))) x A {s with dQ:=ts}∧Fr (cD x A s) H (cD x A {s with dQ:=ts}) (upd H A.dm (.dK (ts.map tkv))):=by
 have tk:cv H (upd H A.dm (.dK (ts.map tkv))):=cv.set J.adm (λ_ z=>nomatch z);refine⟨⟨(by rw[af (ay J.ax J.adm (by intro z;cases z))];exact J.ax),(by rw[af (ay J.ahd J.adm (by intro z;cases z))];exact J.ahd),(by rw[af (ay J.ahl J.adm (by intro z;cases z))];exact J.ahl),J.rhl.keep tk,(by rw[af (ay J.ant J.adm (by intro z;cases z))];exact J.ant),(by rw[af (ay J.anl J.adm (by intro z;cases z))];exact J.anl),(by rw[af (ay J.awt J.adm (by intro z;cases z))];exact J.awt),(by rw[af J.d3];exact J.awb),(by rw[af (ay J.awl J.adm (by intro z;cases z))];exact J.awl),(by rw[af J.d5];exact J.afh),(λt ws m=>⟨by rw[af (ay (J.afl _ _ m).1 J.adm (by intro z;cases z))];exact(J.afl _ _ m).1,(J.afl _ _ m).2.keep tk⟩),(by rw[af J.d6];exact J.ayg),ah,J.nhn,J.l1,J.l2,J.l3,J.l4,J.l5,J.d1,J.d2,J.d3,J.d4,J.d5,J.d6⟩,Fr.set .dm J.adm (λ_ z=>nomatch z) (λc f=>?_)⟩;cases f with
 | x=>exact .x
 | hd=>exact .hd
 | hl=>exact .hl
 | nt=>exact .nt
 | nl=>exact .nl
 | wt=>exact .wt
 | wb=>exact .wb
 | wl=>exact .wl
 | fh=>exact .fh
 | yg=>exact .yg
 | dm=>exact .dm
 | fl m=>exact .fl m
theorem IH.aiH(J:IH D H x A s){n:Int}:IH D (upd H x (.ins D.aa A.dx (iK "next_thing" (.int n) (atts A s)))) x A {s with nxt:=n}∧Fr (cD x A s) H (cD x A {s with nxt:=n}) (upd H x (.ins D.aa A.dx (iK "next_thing" (.int n) (atts A s)))):=by
 have tk:cv H (upd H x (.ins D.aa A.dx (iK "next_thing" (.int n) (atts A s)))):=cv.set J.ax (λ_ z=>nomatch z);refine⟨⟨(by rw[ah,Yq]),(by rw[af (ay J.ahd J.ax (mE (show(1:Nat)≠11 by decide)))];exact J.ahd),(by rw[af (ay J.ahl J.ax (by intro z;cases z))];exact J.ahl),J.rhl.keep tk,(by rw[af (ay J.ant J.ax (mE (show(1:Nat)≠11 by decide)))];exact J.ant),(by rw[af (ay J.anl J.ax (by intro z;cases z))];exact J.anl),(by rw[af (ay J.awt J.ax (mE (show(2:Nat)≠11 by decide)))];exact J.awt),(by rw[af (ay J.awb J.ax (by intro z;cases z))];exact J.awb),(by rw[af (ay J.awl J.ax (by intro z;cases z))];exact J.awl),(by rw[af (ay J.afh J.ax (by intro z;cases z))];exact J.afh),(λt ws m=>⟨by rw[af (ay (J.afl _ _ m).1 J.ax (by intro z;cases z))];exact(J.afl _ _ m).1,(J.afl _ _ m).2.keep tk⟩),(by rw[af (ay J.ayg J.ax (by intro z;cases z))];exact J.ayg),(by rw[af (ay J.adm J.ax (by intro z;cases z))];exact J.adm),J.nhn,J.l1,J.l2,J.l3,J.l4,J.l5,J.d1,J.d2,J.d3,J.d4,J.d5,J.d6⟩,Fr.set .x J.ax (λ_ z=>nomatch z) (λc f=>?_)⟩;cases f with
 | x=>exact .x
 | hd=>exact .hd
 | hl=>exact .hl
 | nt=>exact .nt
 | nl=>exact .nl
 | wt=>exact .wt
 | wb=>exact .wb
 | wl=>exact .wl
 | fh=>exact .fh
 | yg=>exact .yg
 | dm=>exact .dm
 | fl m=>exact .fl m
theorem IH.aeE(J:IH D H x A s){n:Bool}:IH D (upd H x (.ins D.aa A.dx (iK "in_round" (.bl n) (atts A s)))) x A {s with rnd:=n}∧Fr (cD x A s) H (cD x A {s with rnd:=n}) (upd H x (.ins D.aa A.dx (iK "in_round" (.bl n) (atts A s)))):=by
 have tk:cv H (upd H x (.ins D.aa A.dx (iK "in_round" (.bl n) (atts A s)))):=cv.set J.ax (λ_ z=>nomatch z);refine⟨⟨(by rw[ah,Yr]),(by rw[af (ay J.ahd J.ax (mE (show(1:Nat)≠11 by decide)))];exact J.ahd),(by rw[af (ay J.ahl J.ax (by intro z;cases z))];exact J.ahl),J.rhl.keep tk,(by rw[af (ay J.ant J.ax (mE (show(1:Nat)≠11 by decide)))];exact J.ant),(by rw[af (ay J.anl J.ax (by intro z;cases z))];exact J.anl),(by rw[af (ay J.awt J.ax (mE (show(2:Nat)≠11 by decide)))];exact J.awt),(by rw[af (ay J.awb J.ax (by intro z;cases z))];exact J.awb),(by rw[af (ay J.awl J.ax (by intro z;cases z))];exact J.awl),(by rw[af (ay J.afh J.ax (by intro z;cases z))];exact J.afh),(λt ws m=>⟨by rw[af (ay (J.afl _ _ m).1 J.ax (by intro z;cases z))];exact(J.afl _ _ m).1,(J.afl _ _ m).2.keep tk⟩),(by rw[af (ay J.ayg J.ax (by intro z;cases z))];exact J.ayg),(by rw[af (ay J.adm J.ax (by intro z;cases z))];exact J.adm),J.nhn,J.l1,J.l2,J.l3,J.l4,J.l5,J.d1,J.d2,J.d3,J.d4,J.d5,J.d6⟩,Fr.set .x J.ax (λ_ z=>nomatch z) (λc f=>?_)⟩;cases f with
 | x=>exact .x
 | hd=>exact .hd
 | hl=>exact .hl
 | nt=>exact .nt
 | nl=>exact .nl
 | wt=>exact .wt
 | wb=>exact .wb
 | wl=>exact .wl
 | fh=>exact .fh
 | yg=>exact .yg
 | dm=>exact .dm
 | fl m=>exact .fl m
noncomputable def uJ(fs:List (Int×List Wd))(t:Int)(ws:List Wd):List (Int×List Wd):=fs.map λp=>if p.1=t then(t,ws) else p
theorem A8{fs:List (Int×List Wd)}{t t':Int}{ws ws':List Wd}(m:(t',ws')∈uJ fs t ws):∃ w0,(t',w0)∈fs∧t'=t':=by
 obtain⟨q,mq,e⟩:=ajz.mp m;by_cases c:q.1=t
 ·rw[if_pos c]at e
  cases e;exact⟨q.2,by rw[←c];exact mq,rfl⟩
 ·rw[if_neg c]at e
  subst e;exact⟨_,mq,rfl⟩
theorem Q1{A:HA}{fs:List (Int×List Wd)}{t:Int}{ws:List Wd}{xs:Int→List V}:(uJ fs t ws).map (fkv {A with fx:=xs})=fs.map (fkv A):=by
 unfold uJ;rw[ajO];refine aj5 λp hp=>?_;show fkv {A with fx:=xs} (if p.1=t then(t,ws) else p)=fkv A p;by_cases c:p.1=t
 ·rw[if_pos c];unfold fkv;rw[c]
 ·rw[if_neg c];rfl
theorem IH.aiI(J:IH D H x A s){t:Int}{w0:List Wd}(m:(t,w0)∈s.aR){xs:List V}{ws:List Wd}(r:Rel H xs ws):IH D (upd H (A.fa t) (.lst xs)) x {A with fx:=λu=>if u=t then xs else A.fx u} {s with aR:=uJ s.aR t ws}∧Fr (cD x A s) H (cD x {A with fx:=λu=>if u=t then xs else A.fx u} {s with aR:=uJ s.aR t ws}) (upd H (A.fa t) (.lst xs)):=by
 have tk:cv H (upd H (A.fa t) (.lst xs)):=cv.set (J.afl _ _ m).1 (λ_ z=>nomatch z);refine⟨⟨(by rw[af (ajm (ay (J.afl _ _ m).1 J.ax (by intro z;cases z)))];exact J.ax),(by rw[af (ajm (ay (J.afl _ _ m).1 J.ahd (by intro z;cases z)))];exact J.ahd),(by rw[af (ajm (J.l4 _ _ m).1)];exact J.ahl),J.rhl.keep tk,(by rw[af (ajm (ay (J.afl _ _ m).1 J.ant (by intro z;cases z)))];exact J.ant),(by rw[af (ajm (J.l4 _ _ m).2.1)];exact J.anl),(by rw[af (ajm (ay (J.afl _ _ m).1 J.awt (by intro z;cases z)))];exact J.awt),(by rw[af (ajm (ay (J.afl _ _ m).1 J.awb (by intro z;cases z)))];exact J.awb),(by rw[af (ajm (J.l4 _ _ m).2.2)];exact J.awl),(by rw[af (ajm (ay (J.afl _ _ m).1 J.afh (by intro z;cases z))),Q1];exact J.afh),(λt' ws' m'=>by
  obtain⟨q,mq,e⟩:=ajz.mp m';by_cases c:q.1=t
  ·rw[if_pos c]at e
   cases e;dsimp only;rw[if_pos rfl];exact⟨ah,r.keep tk⟩
  ·rw[if_neg c]at e
   subst e;dsimp only;rw[if_neg c];exact⟨by rw[af λz=>c (J.l5 _ _ _ _ mq m z)];exact(J.afl _ _ mq).1,(J.afl _ _ mq).2.keep tk⟩),(by rw[af (ajm (ay (J.afl _ _ m).1 J.ayg (by intro z;cases z)))];exact J.ayg),(by rw[af (ajm (ay (J.afl _ _ m).1 J.adm (by intro z;cases z)))];exact J.adm),J.nhn,J.l1,J.l2,J.l3,(λt' ws' m'=>by obtain⟨q,mq,e1⟩:=A8 m';rw[←e1];exact J.l4 _ _ mq),(λt1 w1 t2 w2 m1 m2 z=>by obtain⟨q1,mq1,e1⟩:=A8 m1;obtain⟨q2,mq2,e2⟩:=A8 m2;rw[←e1,←e2]at z ⊢;exact J.l5 _ _ _ _ mq1 mq2 z),J.d1,J.d2,J.d3,J.d4,J.d5,J.d6⟩,Fr.set (.fl m) (J.afl _ _ m).1 (λ_ z=>nomatch z) (λc f=>?_)⟩
 cases f with
 | x=>exact .x
 | hd=>exact .hd
 | hl=>exact .hl
 | nt=>exact .nt
 | nl=>exact .nl
 | wt=>exact .wt
 | wb=>exact .wb
 | wl=>exact .wl
 | fh=>exact .fh
 | yg=>exact .yg
 | dm=>exact .dm
 | fl m'=>obtain⟨w0,m0,_⟩:=A8 m';exact .fl m0
theorem IH.fresh(J:IH D H x A s){b:Addr}(h:H b=none):¬cD x A s b:=λf=>by
 obtain⟨u,q,_⟩:=J.is f;rw[h]at q;cases q
theorem IH.Yu(J:IH D H x A s){t:Int}{b:Addr}{xs:List V}{ws:List Wd}(hb:H b=none)(hn:∀ w,(t,w)∉s.aR)(r:Rel H xs ws) :
  IH D (upd (upd H b (.lst xs)) A.fh (.dK (s.aR.map (fkv A)++[(Sum.inl t,.ref b)]))) x {A with fa:=λu=>if u=t then b else A.fa u,fx:=λu=>if u=t then xs else A.fx u} {s with aR:=s.aR++[(t,ws)]} ∧
  Fr (cD x A s) H (cD x {A with fa:=λu=>if u=t then b else A.fa u,fx:=λu=>if u=t then xs else A.fx u} {s with aR:=s.aR++[(t,ws)]}) (upd (upd H b (.lst xs)) A.fh (.dK (s.aR.map (fkv A)++[(Sum.inl t,.ref b)]))):=by
 have s1:aE H (upd H b (.lst xs)):=aE.upd hb;have nb:∀ {c:Addr} {u:HO},H c=some u→c≠b:=λq=>aq q hb;have J1:=J.same s1;have tk:cv (upd H b (.lst xs)) (upd (upd H b (.lst xs)) A.fh (.dK (s.aR.map (fkv A)++[(Sum.inl t,.ref b)]))):=cv.set J1.afh (λ_ z=>nomatch z);have tk0:cv H (upd (upd H b (.lst xs)) A.fh (.dK (s.aR.map (fkv A)++[(Sum.inl t,.ref b)]))):=(cv.of s1).trans tk;have kt:∀ {t':Int} {w:List Wd},(t',w)∈s.aR→t'≠t:=λm e=>hn _ (by rw[←e];exact m);have mm:∀ {t':Int} {w:List Wd},(t',w)∈s.aR++[(t,ws)]→(t',w)∈s.aR∨(t'=t∧w=ws):=λm=>by
  rcases ajs.mp m with m|m
  ·exact .inl m
  ·cases ai9.mp m;exact .inr ⟨rfl,rfl⟩
 have bf:b≠A.fh:=ajm (nb J.afh);have fk:(s.aR++[(t,ws)]).map (fkv {A with fa:=λu=>if u=t then b else A.fa u,fx:=λu=>if u=t then xs else A.fx u})=s.aR.map (fkv A)++[(Sum.inl t,.ref b)]:=by
  rw[ajq];congr 1
  ·refine aj5 λp hp=>?_
   unfold fkv;simp only;rw[if_neg (kt (t':=p.1) (w:=p.2) hp)]
  ·simp only[aju,akF,fkv,if_true]
 refine⟨⟨(by rw[af (ay J.ax J.afh (by intro z;cases z))];exact J1.ax),(by rw[af (ay J.ahd J.afh (by intro z;cases z))];exact J1.ahd),(by rw[af (ay J.ahl J.afh (by intro z;cases z))];exact J1.ahl),J.rhl.keep tk0,(by rw[af (ay J.ant J.afh (by intro z;cases z))];exact J1.ant),(by rw[af (ay J.anl J.afh (by intro z;cases z))];exact J1.anl),(by rw[af (ay J.awt J.afh (by intro z;cases z))];exact J1.awt),(by rw[af J.d1];exact J1.awb),(by rw[af (ay J.awl J.afh (by intro z;cases z))];exact J1.awl),(by rw[fk];exact ah),(λt' w m=>by
  rcases mm m with m|⟨e1,e2⟩
  ·show _=_∧_
   simp only[if_neg (kt m)];exact⟨by rw[af (ay (J.afl _ _ m).1 J.afh (by intro z;cases z))];exact s1 _ _ (J.afl _ _ m).1,(J.afl _ _ m).2.keep tk0⟩
  ·subst e1 e2
   simp only[if_true];exact⟨by rw[af bf];exact ah,r.keep tk0⟩),(by rw[af (ajm J.d4)];exact J1.ayg),(by rw[af (ajm J.d5)];exact J1.adm),J.nhn,J.l1,J.l2,J.l3,(λt' w m=>by
  rcases mm m with m|⟨e1,e2⟩
  ·simp only[if_neg (kt m)]
   exact J.l4 _ _ m
  ·subst e1
   simp only[if_true];exact⟨ajm (nb J.ahl),ajm (nb J.anl),ajm (nb J.awl)⟩),(λt1 w1 t2 w2 m1 m2 z=>by
  simp only at z;rcases mm m1 with m1|⟨e1,_⟩
  ·rw[if_neg (kt m1)]at z
   rcases mm m2 with m2|⟨e2,_⟩
   ·rw[if_neg (kt m2)]at z
    exact J.l5 _ _ _ _ m1 m2 z
   ·rw[if_pos e2]at z
    exact absurd z (nb (J.afl _ _ m1).1)
  ·rw[if_pos e1]at z
   rcases mm m2 with m2|⟨e2,_⟩
   ·rw[if_neg (kt m2)]at z
    exact absurd z.symm (nb (J.afl _ _ m2).1)
   ·rw[e1,e2]),J.d1,J.d2,J.d3,J.d4,J.d5,J.d6⟩,?_⟩
 refine⟨λc u nf q=>?_,λc f=>?_,λc u q=>?_,tk0⟩
 ·rw[af λe=>nf (by rw[e];exact .fh)]
  exact s1 _ _ q
 ·cases f with
  | x=>exact .inl .x
  | hd=>exact .inl .hd
  | hl=>exact .inl .hl
  | nt=>exact .inl .nt
  | nl=>exact .inl .nl
  | wt=>exact .inl .wt
  | wb=>exact .inl .wb
  | wl=>exact .inl .wl
  | fh=>exact .inl .fh
  | yg=>exact .inl .yg
  | dm=>exact .inl .dm
  | @fl t' w m =>
   rcases mm m with m|⟨e,_⟩
   ·refine .inl ?_
    show cD x A s (if t'=t then b else A.fa t');rw[if_neg (kt m)];exact .fl m
   ·refine .inr ?_
    show H (if t'=t then b else A.fa t')=none;rw[if_pos e];exact hb
 ·by_cases e:c=A.fh
  ·exact⟨_,by rw[e];exact ah⟩
  ·exact⟨u,by rw[af e];exact s1 _ _ q⟩
end
section
variable{P:Program}{w:World}{K:W.Frag}{mg:Str→Option Value}{base:Heap}{D:Ad}
theorem OD{t u:TS}{D:Ends}{σ:St}{H:Hp}(h:∀ N:St→Hp→Prop,(∀ σ' H',u D σ' H'→N σ' H')→t {D with nx:=N} σ H):JZ t u D σ H:=h (u D) (λ_ _ q=>q)
theorem RD{P:Program}{w:World}{X:Cx}:Passes (CXE P w) X (λ_ _ _=>False):=λ_ _ _ _ _ _ _ ⟨_,_,_,_,_,_,_,_,_,q⟩=>q.elim
theorem cM{H0 H:Hp}{K:W.Frag}{E E2:XK}{C:Addr}{y:Str}(ec:Kf K C)(h0:∀ b,H b=none→H0 b=none)(k:∀ H',aE H H'→E (.ref C) none H')(ea:Addr)(hea:H ea=none) :
  Bn K [.ref ea,.str y] (upd H ea (exo true C ea none)) (λv H2=>v=.non∧(λ(v:V) (H1:Hp)=>∃ ea C od,v=.ref ea∧H1 ea=some (exo true C ea od)∧(∃ cd,i8 K C cd)∧H0 ea=none∧E (.ref C) od (del H1 ea)) (.ref ea) H2) E2:=by
 refine⟨ea,C,none,.str y,rfl,ah,ec.cls,rfl,ea,C,none,rfl,ah,ec.cls,h0 _ hea,k _ λb o q=>?_⟩;have nb:b≠ea:=λe=>by rw[e,hea]at q;cases q
 rw[we nb,af nb];exact q
noncomputable def Bad(C:Addr)(H:Hp)(E:XK):Prop:=∀ H',aE H H'→E (.ref C) none H'
theorem Bad.same{C:Addr}{H H1:Hp}{E:XK}(k:Bad C H E)(s:aE H H1):Bad C H1 E:=λH' s'=>k H' (s.trans s')
noncomputable def Sm(n:Int):Prop:=n.natAbs.log2<1920
theorem Sm.of{n:Int}(h0:-1000000≤n)(h1:n≤1000000):Sm n:=HN (Nat.lt_trans (show n.natAbs<2000000 by omega) (by decide))
noncomputable def wat(ws:List Wd)(h:Int):Option Wd:=if 0≤h∧h<8 then ws[h.toNat]? else none
theorem rX{ws:List Wd}{h:Int}{wd:Wd}(e:wat ws h=some wd):0≤h∧h<8∧ws[h.toNat]?=some wd:=by
 unfold wat at e;by_cases g:0≤h∧h<8
 ·rw[if_pos g]at e;exact⟨g.1,g.2,e⟩
 ·rw[if_neg g]at e;cases e
theorem Q2{ws:List Wd}{h:Int}(l:ws.length=8)(e:wat ws h=none):¬(0≤h∧h<8):=λg=>by
 unfold wat at e;rw[if_pos g,ai7 (by omega)]at e;cases e
theorem AY{xs:List V}{a:Int}{v:V}(h0:0≤a)(h:xs[a.toNat]?=some v):atI xs a=some v:=by
 have e:a=(a.toNat:Int):=by omega
 rw[e];exact Bj h
theorem Fm{n:Nat}{a:Int}(h0:0≤a)(h1:a<n):ixN n a=some a.toNat:=by
 unfold ixN;rw[if_pos h0,if_pos h1]
structure Hn(D:Ad)(H:Hp)(hd hdx hl:Addr)(xs:List V)(ws:List Wd):Prop where
 i:H hd=some (.ins D.a9 hdx [("words_held",.ref hl)])
 l:H hl=some (.lst xs)
 r:Rel H xs ws
 n:ws.length=8
theorem Hn.same{D:Ad}{H H':Hp}{hd hdx hl:Addr}{xs:List V}{ws:List Wd}(h:Hn D H hd hdx hl xs ws)(s:aE H H'):Hn D H' hd hdx hl xs ws:=⟨s _ _ h.i,s _ _ h.l,h.r.keep (cv.of s),h.n⟩
theorem Hn.at_{D:Ad}{H:Hp}{hd hdx hl:Addr}{xs:List V}{ws:List Wd}(N:Hn D H hd hdx hl xs ws){h:Int}{wd:Wd}(e:wat ws h=some wd):∃ v,xs[h.toNat]?=some v∧WV H v wd:=by
 obtain⟨h0,h1,e⟩:=rX e;have hi:h.toNat<ws.length:=by rw[N.n];omega
 obtain⟨v,e1,e2⟩:=N.r.get hi;rw[ai7 hi]at e;cases e;exact⟨v,e1,e2⟩
theorem Hn.ix{D:Ad}{H:Hp}{hd hdx hl:Addr}{xs:List V}{ws:List Wd}(N:Hn D H hd hdx hl xs ws){h:Int}(g:0≤h∧h<8):ixN xs.length h=some h.toNat:=Fm g.1 (by rw[N.r.1,N.n];exact g.2)
noncomputable abbrev tZ:List Str:=["self", "text"]
theorem sX:aw tZ ["self", "text"] (ar jc):=⟨rfl,rfl,rfl,by decide +kernel,rfl,by decide +kernel,by decide +kernel⟩
theorem sY(F:Fun K "__init__" "HeapError.__init__" jc D.ao D.aA)(T:Txt K mg D):Ok P w K mg base 1 D.ao D.aA ["self", "text"] (Bn K):=by
 refine⟨?_,F.binds (ps:=["self", "text"]) λ_ _ _ _ _ _ us hl=>match us,hl with|[_,_],_=>rfl⟩
 refine F.okE sX (λvs H Q E h=>?_) (λcdv A' outer s' H vs Q E hr h=>?_)
 ·obtain⟨ea,C,od,x,rfl,_⟩:=h
  rfl
 ·obtain⟨ea,C,od,x,rfl,h1,hc,k⟩:=h
  refine⟨_,(ai (aJ (X8 rfl T.sJ (ab (pv 0) (ab (pv 1) aj))))),?_⟩;exact⟨_,rfl,_,rfl,ea,C,od,[x],rfl,(by show 1≤1000;decide),h1,hc,k⟩
noncomputable def Ks:Sp:=λvs H Q _=>∃ v wd,vs=[v]∧WV H v wd∧Q (.str wd.kind) H
noncomputable abbrev PL:List Str:=["value"]
theorem Fn:aw PL ["value"] (ar vU):=⟨rfl,rfl,rfl,by decide +kernel,rfl,by decide +kernel,by decide +kernel⟩
theorem NA(F:Fun K "kind_of" "kind_of" vU D.eV D.h9)(T:Txt K mg D):Ok P w K mg base 1 D.eV D.h9 ["value"] (Ks):=by
 refine⟨?_,F.binds (ps:=["value"]) λ_ _ _ _ _ _ us hl=>match us,hl with|[_],_=>rfl⟩
 refine F.okE Fn (λvs H Q E h=>?_) (λcdv A' outer s' H vs Q E hr h=>?_)
 ·obtain⟨v,wd,rfl,_⟩:=h
  rfl
 ·obtain⟨v,wd,rfl,hv,k⟩:=h
  refine⟨_,(ai (aP (pJ (aV qx (pv 0) dY (bC _)) fg (du gi (pv 0) au (λ_ _=>rfl))))),?_⟩;cases wd with
  | no =>
   obtain rfl:v=.non:=hv;exact⟨_,rfl,rfl,_,rfl,eE (λ_=>k) (λh=>absurd (by simp) h)⟩
  | num n =>
   obtain⟨t,rfl,ht⟩:=hv;exact⟨_,rfl,rfl,_,rfl,eE (λh=>by simp at h) (λ_=>⟨_,rfl,t,_,0,_,rfl,rfl,SqT.of ht,rfl,k⟩)⟩
  | th n =>
   obtain⟨t,rfl,ht⟩:=hv;exact⟨_,rfl,rfl,_,rfl,eE (λh=>by simp at h) (λ_=>⟨_,rfl,t,_,0,_,rfl,rfl,SqT.of ht,rfl,k⟩)⟩
noncomputable def dS(D:Ad):Sp:=λvs H Q E=>∃ n:Int,vs=[.int n]∧Sm n∧(if 0≤n∧n<8 then Q .non H else Bad D.bX H E)
noncomputable abbrev Ee:List Str:=["h"]
theorem Dn:aw Ee ["h"] (ar oA):=⟨rfl,rfl,rfl,by decide +kernel,rfl,by decide +kernel,by decide +kernel⟩
theorem Dp(F:Fun K "look_at_hand" "look_at_hand" oA D.bp D.cG)(T:Txt K mg D)
  (ag:Ok P w K mg base 1 D.ao D.aA ["self", "text"] (Bn K)):Ok P w K mg base 3 D.bp D.cG ["h"] (dS D):=by
 refine⟨?_,F.binds (ps:=["h"]) λ_ _ _ _ _ _ us hl=>match us,hl with|[_],_=>rfl⟩
 refine F.okE Dn (λvs H Q E h=>?_) (λcdv A' outer s' H vs Q E hr h=>?_)
 ·obtain⟨n,rfl,_⟩:=h
  rfl
 ·obtain⟨n,rfl,hb,k⟩:=h
  refine⟨_,(ai (cV (qv (nv yl AZ au (pv 0) (lN (v:=.int 8) rfl T.Fl ⟨_,rfl⟩)))
    (ai (fP rfl kz (kA T.yt ag.g (hr.mono (by decide)) rfl T.yr ag.b (Passes.x (aQ λ_ _ _ q=>q)) (ab (jt (br (lM (pv 0)) (br gT js))) aj))))
    a7)),?_⟩
  by_cases g:0≤n∧n<8
  ·rw[if_pos g]at k
   refine⟨_,rfl,0,n,rfl,rfl,_,rfl,eE (λ_=>⟨n,8,rfl,rfl,_,rfl,eE (λh2=>absurd h2 (by rw[decide_eq_true g.2];decide)) (λ_=>k)⟩) (λh1=>absurd (decide_eq_true g.1) h1)⟩
  ·rw[if_neg g]at k
   by_cases g0:0≤n
   ·have g1:¬n<8:=λz=>g ⟨g0,z⟩
    refine⟨_,rfl,0,n,rfl,rfl,_,rfl,eE (λ_=>⟨n,8,rfl,rfl,_,rfl,eE (λ_=>⟨_,rfl,n,rfl,hb,λy hy ea hea=>cM T.mz (λ_ q=>q) k ea hea⟩) (λh2=>absurd (by rw[decide_eq_false g1];rfl) h2)⟩) (λh1=>absurd (decide_eq_true g0) h1)⟩
   ·refine⟨_,rfl,0,n,rfl,rfl,_,rfl,eE (λh1=>absurd (of_decide_eq_true h1) g0) (λ_=>⟨_,rfl,wa ⟨_,rfl,n,rfl,hb,λy hy ea hea=>cM T.mz (λ_ q=>q) k ea hea⟩⟩)⟩
noncomputable def nj(D:Ad):Sp:=λvs H Q E=>∃ n:Int,vs=[.int n]∧Sm n∧(if 0≤n∧n<8 then Q .non H else Bad D.fD H E)
noncomputable abbrev Ef:List Str:=["w"]
theorem Dq:aw Ef ["w"] (ar oB):=⟨rfl,rfl,rfl,by decide +kernel,rfl,by decide +kernel,by decide +kernel⟩
theorem Dr(F:Fun K "look_at_name" "look_at_name" oB D.cW D.hR)(T:Txt K mg D)
  (ag:Ok P w K mg base 1 D.ao D.aA ["self", "text"] (Bn K)):Ok P w K mg base 3 D.cW D.hR ["w"] (nj D):=by
 refine⟨?_,F.binds (ps:=["w"]) λ_ _ _ _ _ _ us hl=>match us,hl with|[_],_=>rfl⟩
 refine F.okE Dq (λvs H Q E h=>?_) (λcdv A' outer s' H vs Q E hr h=>?_)
 ·obtain⟨n,rfl,_⟩:=h
  rfl
 ·obtain⟨n,rfl,hb,k⟩:=h
  refine⟨_,(ai (cV (qv (nv yl AZ au (pv 0) (lN (v:=.int 8) rfl T.nO ⟨_,rfl⟩)))
    (ai (fP rfl kz (kA T.Nj ag.g (hr.mono (by decide)) rfl T.Ni ag.b (Passes.x (aQ λ_ _ _ q=>q)) (ab (jt (br (lM (pv 0)) (br gT js))) aj))))
    a7)),?_⟩
  by_cases g:0≤n∧n<8
  ·rw[if_pos g]at k
   refine⟨_,rfl,0,n,rfl,rfl,_,rfl,eE (λ_=>⟨n,8,rfl,rfl,_,rfl,eE (λh2=>absurd h2 (by rw[decide_eq_true g.2];decide)) (λ_=>k)⟩) (λh1=>absurd (decide_eq_true g.1) h1)⟩
  ·rw[if_neg g]at k
   by_cases g0:0≤n
   ·have g1:¬n<8:=λz=>g ⟨g0,z⟩
    refine⟨_,rfl,0,n,rfl,rfl,_,rfl,eE (λ_=>⟨n,8,rfl,rfl,_,rfl,eE (λ_=>⟨_,rfl,n,rfl,hb,λy hy ea hea=>cM T.Fj (λ_ q=>q) k ea hea⟩) (λh2=>absurd (by rw[decide_eq_false g1];rfl) h2)⟩) (λh1=>absurd (decide_eq_true g0) h1)⟩
   ·refine⟨_,rfl,0,n,rfl,rfl,_,rfl,eE (λh1=>absurd (of_decide_eq_true h1) g0) (λ_=>⟨_,rfl,wa ⟨_,rfl,n,rfl,hb,λy hy ea hea=>cM T.Fj (λ_ q=>q) k ea hea⟩⟩)⟩
noncomputable def qi(D:Ad):Sp:=λvs H Q E=>∃ n:Int,vs=[.int n]∧Sm n∧(if 0≤n∧n≤6 then Q (.int (n+1)) H else Bad D.dv H E)
noncomputable abbrev NB:List Str:=["fields"]
theorem K3:aw NB ["fields"] (ar yp):=⟨rfl,rfl,rfl,by decide +kernel,rfl,by decide +kernel,by decide +kernel⟩
theorem K4(F:Fun K "words_of" "words_of" yp D.gc D.kq)(T:Txt K mg D)
  (ag:Ok P w K mg base 1 D.ao D.aA ["self", "text"] (Bn K)):Ok P w K mg base 3 D.gc D.kq ["fields"] (qi D):=by
 refine⟨?_,F.binds (ps:=["fields"]) λ_ _ _ _ _ _ us hl=>match us,hl with|[_],_=>rfl⟩
 refine F.okE K3 (λvs H Q E h=>?_) (λcdv A' outer s' H vs Q E hr h=>?_)
 ·obtain⟨n,rfl,_⟩:=h
  rfl
 ·obtain⟨n,rfl,hb,k⟩:=h
  refine⟨_,(ak (cV (qv (nv yl yl au (pv 0) (lN (v:=.int 6) rfl T.qN ⟨_,rfl⟩)))
    (ai (fP rfl kz (kA T.mV ag.g (hr.mono (by decide)) rfl T.mU ag.b (Passes.x (aQ λ_ _ _ q=>q)) (ab (jt (br (lM (pv 0)) (br gT js))) aj))))
    a7)
   (ai (aP (aO cY (pv 0) au)))),?_⟩
  by_cases g:0≤n∧n≤6
  ·rw[if_pos g]at k
   refine⟨_,rfl,0,n,rfl,rfl,_,rfl,eE (λ_=>⟨n,6,rfl,rfl,_,rfl,eE (λh2=>absurd h2 (by rw[decide_eq_true g.2];decide)) (λ_=>⟨_,rfl,n,1,rfl,rfl,k⟩)⟩) (λh1=>absurd (decide_eq_true g.1) h1)⟩
  ·rw[if_neg g]at k
   by_cases g0:0≤n
   ·have g1:¬n≤6:=λz=>g ⟨g0,z⟩
    refine⟨_,rfl,0,n,rfl,rfl,_,rfl,eE (λ_=>⟨n,6,rfl,rfl,_,rfl,eE (λ_=>⟨_,rfl,n,rfl,hb,λy hy ea hea=>cM T.uX (λ_ q=>q) k ea hea⟩) (λh2=>absurd (by rw[decide_eq_false g1];rfl) h2)⟩) (λh1=>absurd (decide_eq_true g0) h1)⟩
   ·refine⟨_,rfl,0,n,rfl,rfl,_,rfl,eE (λh1=>absurd (of_decide_eq_true h1) g0) (λ_=>⟨_,rfl,wa ⟨_,rfl,n,rfl,hb,λy hy ea hea=>cM T.uX (λ_ q=>q) k ea hea⟩⟩)⟩
noncomputable def me(D:Ad):Sp:=λvs H Q E=>∃ n m:Int,vs=[.int n,.int m]∧Sm n∧Sm m∧(if 0≤n∧n<m then Q .non H else Bad D.f9 H E)
noncomputable abbrev Ds:List Str:=["k", "fields"]
theorem Bs:aw Ds ["k", "fields"] (ar mX):=⟨rfl,rfl,rfl,by decide +kernel,rfl,by decide +kernel,by decide +kernel⟩
theorem Bt(F:Fun K "look_at_field" "look_at_field" mX D.cH D.gj)(T:Txt K mg D)
  (ag:Ok P w K mg base 1 D.ao D.aA ["self", "text"] (Bn K)):Ok P w K mg base 3 D.cH D.gj ["k", "fields"] (me D):=by
 refine⟨?_,F.binds (ps:=["k", "fields"]) λ_ _ _ _ _ _ us hl=>match us,hl with|[_,_],_=>rfl⟩
 refine F.okE Bs (λvs H Q E h=>?_) (λcdv A' outer s' H vs Q E hr h=>?_)
 ·obtain⟨n,m,rfl,_⟩:=h
  rfl
 ·obtain⟨n,m,rfl,hb,hm,k⟩:=h
  refine⟨_,(ai (cV (qv (nv yl AZ au (pv 0) (pv 1)))
    (ai (fP rfl kz (kA T.KW ag.g (hr.mono (by decide)) rfl T.KU ag.b (Passes.x (aQ λ_ _ _ q=>q)) (ab (jt (br gT (br (lM (pv 1)) (br gT (br (lM (pv 0)) js))))) aj))))
    a7)),?_⟩
  by_cases g:0≤n∧n<m
  ·rw[if_pos g]at k
   refine⟨_,rfl,0,n,rfl,rfl,_,rfl,eE (λ_=>⟨_,rfl,n,m,rfl,rfl,_,rfl,eE (λh2=>absurd h2 (by rw[decide_eq_true g.2];decide)) (λ_=>k)⟩) (λh1=>absurd (decide_eq_true g.1) h1)⟩
  ·rw[if_neg g]at k
   by_cases g0:0≤n
   ·have g1:¬n<m:=λz=>g ⟨g0,z⟩
    refine⟨_,rfl,0,n,rfl,rfl,_,rfl,eE (λ_=>⟨_,rfl,n,m,rfl,rfl,_,rfl,eE (λ_=>⟨_,rfl,m,rfl,hm,_,rfl,n,rfl,hb,λy hy ea hea=>cM T.CZ (λ_ q=>q) k ea hea⟩) (λh2=>absurd (by rw[decide_eq_false g1];rfl) h2)⟩) (λh1=>absurd (decide_eq_true g0) h1)⟩
   ·refine⟨_,rfl,0,n,rfl,rfl,_,rfl,eE (λh1=>absurd (of_decide_eq_true h1) g0) (λ_=>⟨_,rfl,wa ⟨_,rfl,m,rfl,hm,_,rfl,n,rfl,hb,λy hy ea hea=>cM T.CZ (λ_ q=>q) k ea hea⟩⟩)⟩
noncomputable def Num(x:Int):Prop:=-(10 ^ 60)≤x∧x≤10 ^ 60
noncomputable instance {x:Int}:Decidable (Num x):=inferInstanceAs (Decidable (_∧_))
noncomputable def kX(D:Ad):Sp:=λvs H Q E=>∃ x:Int,vs=[.int x]∧Sm x∧(if Num x then Q .non H else Bad D.dv H E)
noncomputable abbrev Bu:List Str:=["x"]
theorem yK:aw Bu ["x"] (ar lP):=⟨rfl,rfl,rfl,by decide +kernel,rfl,by decide +kernel,by decide +kernel⟩
theorem yL(F:Fun K "look_at_number" "look_at_number" lP D.cc D.fK)(T:Txt K mg D)
  (ag:Ok P w K mg base 1 D.ao D.aA ["self", "text"] (Bn K)):Ok P w K mg base 3 D.cc D.fK ["x"] (kX D):=by
 refine⟨?_,F.binds (ps:=["x"]) λ_ _ _ _ _ _ us hl=>match us,hl with|[_],_=>rfl⟩
 refine F.okE yK (λvs H Q E h=>?_) (λcdv A' outer s' H vs Q E hr h=>?_)
 ·obtain⟨x,rfl,_⟩:=h
  rfl
 ·obtain⟨x,rfl,hb,k⟩:=h
  refine⟨_,(ai (cV (aV MX (cw QH rfl T.Sl PyProof.Rows.Boot.«abs» (ab (pv 0) aj)) (aO DW au au) (bC _))
    (ai (fP rfl kz (kA T.mV ag.g (hr.mono (by decide)) rfl T.mU ag.b (Passes.x (aQ λ_ _ _ q=>q)) (ab (jt (br (lM (pv 0)) (br gT js))) aj))))
    a7)),?_⟩
  have e60:((10:Int) ^ (60:Int).toNat)=10 ^ 60:=rfl;by_cases g:Num x
  ·rw[if_pos g]at k
   refine⟨_,rfl,x,rfl,10,60,rfl,rfl,⟨by decide,by decide,by decide⟩,_,_,rfl,rfl,_,rfl,eE (λh=>absurd (of_decide_eq_true h) ?_) (λ_=>k)⟩
   have:=g.1
   have:=g.2
   rw[e60];split<;>omega
  ·rw[if_neg g]at k
   refine⟨_,rfl,x,rfl,10,60,rfl,rfl,⟨by decide,by decide,by decide⟩,_,_,rfl,rfl,_,rfl,eE (λ_=>⟨_,rfl,x,rfl,hb,λy hy ea hea=>cM T.uX (λ_ q=>q) k ea hea⟩) (λh=>absurd (decide_eq_true ?_) h)⟩;unfold Num at g;rw[e60];split<;>omega
noncomputable def sR(D:Ad):Sp:=λvs H Q E=>∃ x:Int,vs=[.int x]∧Sm x∧(if Num x then ∀ t H',aE H H'→H' t=some (.tup [.str "number",.int x])→Q (.ref t) H' else Bad D.dv H E)
noncomputable abbrev Eg:List Str:=["x"]
theorem Dt:aw Eg ["x"] (ar oz):=⟨rfl,rfl,rfl,by decide +kernel,rfl,by decide +kernel,by decide +kernel⟩
theorem Du(F:Fun K "number_value" "number_value" oz D.dJ D.jk)(T:Txt K mg D)
  (dt:Ok P w K mg base 3 D.cc D.fK ["x"] (kX D)):Ok P w K mg base 4 D.dJ D.jk ["x"] (sR D):=by
 refine⟨?_,F.binds (ps:=["x"]) λ_ _ _ _ _ _ us hl=>match us,hl with|[_],_=>rfl⟩
 refine F.okE Dt (λvs H Q E h=>?_) (λcdv A' outer s' H vs Q E hr h=>?_)
 ·obtain⟨x,rfl,_⟩:=h
  rfl
 ·obtain⟨x,rfl,hb,k⟩:=h
  refine⟨_,(ak (aJ (aH dt.g (hr.mono (by decide)) rfl T.rf T.jw dt.b .nil (Passes.x (aQ λ_ _ _ q=>q)) (ab (pv 0) aj)))
   (ai (aP (iT (ab fg (ab (pv 0) aj)))))),?_⟩
  refine⟨_,rfl,x,rfl,hb,?_⟩;by_cases g:Num x
  ·rw[if_pos g]at k ⊢
   exact⟨_,rfl,by show 2≤sizeLine;decide,λt ht=>k t _ (aE.upd ht) ah⟩
  ·rw[if_neg g]at k ⊢
   exact k
noncomputable def jq:Sp:=λvs H Q E=>∃ x:Int,vs=[.int x]∧0≤x∧∀ t H',aE H H'→H' t=some (.tup [.str "thing",.int x])→Q (.ref t) H'
noncomputable abbrev Gi:List Str:=["t"]
theorem Eh:aw Gi ["t"] (ar qz):=⟨rfl,rfl,rfl,by decide +kernel,rfl,by decide +kernel,by decide +kernel⟩
theorem Ei(F:Fun K "thing_value" "thing_value" qz D.cK D.fJ)(T:Txt K mg D)
  (ag:Ok P w K mg base 1 D.ao D.aA ["self", "text"] (Bn K)):Ok P w K mg base 3 D.cK D.fJ ["t"] (jq):=by
 refine⟨?_,F.binds (ps:=["t"]) λ_ _ _ _ _ _ us hl=>match us,hl with|[_],_=>rfl⟩
 refine F.okE Eh (λvs H Q E h=>?_) (λcdv A' outer s' H vs Q E hr h=>?_)
 ·obtain⟨x,rfl,_⟩:=h
  rfl
 ·obtain⟨x,rfl,h0,k⟩:=h
  refine⟨_,(ak (cV (aV AZ (pv 0) au (bC _))
    (ai (fP rfl kz (kA T.mV ag.g (hr.mono (by decide)) rfl T.mU ag.b (Passes.x (aQ λ_ _ _ q=>q)) (ab (jt (br (lM (pv 0)) (br gT js))) aj))))
    a7)
   (ai (aP (iT (ab fg (ab (pv 0) aj)))))),?_⟩
  exact⟨_,rfl,x,0,rfl,rfl,_,rfl,eE (λh=>absurd (of_decide_eq_true h) (by omega)) (λ_=>⟨_,rfl,by show 2≤sizeLine;decide,λt ht=>k t _ (aE.upd ht) ah⟩)⟩
noncomputable def pM:Sp:=λvs H Q E=>∃ y l:Int,vs=[.int y,.int l]∧(y=0∨(7≤y∧y≤64))∧7≤l∧l≤400∧Q .non H
noncomputable abbrev Bv:List Str:=["young", "limit"]
theorem yM:aw Bv ["young", "limit"] (ar lQ):=⟨rfl,rfl,rfl,by decide +kernel,rfl,by decide +kernel,by decide +kernel⟩
theorem yN(F:Fun K "look_at_limits" "look_at_limits" lQ D.cN D.gW)(T:Txt K mg D)
  (ag:Ok P w K mg base 1 D.ao D.aA ["self", "text"] (Bn K)):Ok P w K mg base 3 D.cN D.gW ["young", "limit"] (pM):=by
 refine⟨?_,F.binds (ps:=["young", "limit"]) λ_ _ _ _ _ _ us hl=>match us,hl with|[_,_],_=>rfl⟩
 refine F.okE yM (λvs H Q E h=>?_) (λcdv A' outer s' H vs Q E hr h=>?_)
 ·obtain⟨y,l,rfl,_⟩:=h
  rfl
 ·obtain⟨y,l,rfl,hy,l0,l1,k⟩:=h
  refine⟨_,(ak (cV (PW.pt (pw_and (aV Qh (pv 0) au (bC _)) (pw_and1 (qv (nv yl yl (lN (v:=.int 7) rfl T.nP ⟨_,rfl⟩) (pv 0) (lN (v:=.int 64) rfl T.sL ⟨_,rfl⟩))))))
    (ai (fP rfl kz (kA T.mV ag.g (hr.mono (by decide)) rfl T.mU ag.b (Passes.x (aQ λ_ _ _ q=>q)) (ab (jt (br (lM (pv 0)) (br gT js))) aj))))
    a7)
   (ai (cV (qv (nv yl yl (lN (v:=.int 7) rfl T.nP ⟨_,rfl⟩) (pv 1) (lN (v:=.int 400) rfl T.sM ⟨_,rfl⟩)))
    (ai (fP rfl kz (kA T.mV ag.g (hr.mono (by decide)) rfl T.mU ag.b (Passes.x (aQ λ_ _ _ q=>q)) (ab (jt (br (lM (pv 1)) (br gT js))) aj))))
    a7))),?_⟩
  refine OD λN hN=>?_;have rest:N [some (.int y),some (.int l)] H:=by
   refine hN _ _ ?_;exact⟨_,rfl,7,l,rfl,rfl,_,rfl,eE (λ_=>⟨l,400,rfl,rfl,_,rfl,eE (λh2=>absurd h2 (by rw[decide_eq_true l1];decide)) (λ_=>k)⟩) (λh1=>absurd (decide_eq_true l0) h1)⟩
  rcases hy with rfl|⟨y0,y1⟩
  ·exact⟨_,rfl,rfl,_,rfl,eE (λh=>absurd h (by decide)) (λ_=>u4 rest)⟩
  ·refine⟨_,rfl,rfl,_,rfl,eE (λ_=>?_) (λh=>absurd (show(!decide (V.int y=V.int 0))=true from ?_) h)⟩
   ·exact⟨_,rfl,7,y,rfl,rfl,_,rfl,eE (λ_=>⟨y,64,rfl,rfl,_,rfl,eE (λh2=>absurd h2 (by rw[decide_eq_true y1];decide)) (λ_=>rest)⟩) (λh1=>absurd (decide_eq_true y0) h1)⟩
   ·rw[decide_eq_false (by intro z;injection z with z;omega)];rfl
noncomputable def But(m:Addr)(H H':Hp):Prop:=∀ b u,b≠m→H b=some u→H' b=some u
theorem But.upd{m a:Addr}{H:Hp}{o:HO}(h:H a=none):But m H (L2.upd H a o):=λb u _ q=>by rw[af (aq q h)];exact q
theorem But.self{m:Addr}{H:Hp}{o:HO}:But m H (L2.upd H m o):=λb u n q=>by rw[af n];exact q
theorem But.trans{m:Addr}{H H1 H2:Hp}(a:But m H H1)(b:But m H1 H2):But m H H2:=λc u n q=>b c u n (a c u n q)
theorem aE.none{H H':Hp}(s:aE H H'){b:Addr}(h:H' b=none):H b=none:=by
 cases q:H b with
 | none=>rfl
 | some u=>rw[s _ _ q]at h;cases h
theorem aeF:(List.replicate (8:Int).toNat [V.non]).flatten=List.replicate 8 .non:=rfl
theorem lookup_some{α:Type}{bs:List (Int×α)}{t:Int}{v:α}(h:bs.lookup t=some v):(t,v)∈bs:=by
 induction bs with
 | nil=>cases h
 | cons p r ih =>
  obtain⟨a,b⟩:=p;rw[aj6]at h;by_cases e:t == a
  ·rw[e]at h
   rw[beq_iff_eq]at e;subst e;cases h;exact ajt
  ·rw[Bool.not_eq_true]at e
   rw[e]at h;exact ajv _ (ih h)
theorem lookup_none{α:Type}{bs:List (Int×α)}{t:Int}(h:bs.lookup t=none):∀ p∈bs,p.1≠t:=by
 induction bs with
 | nil=>intro p hp;cases hp
 | cons p r ih =>
  obtain⟨a,b⟩:=p;rw[aj6]at h;by_cases e:t == a
  ·rw[e]at h;cases h
  ·rw[Bool.not_eq_true]at e
   rw[e]at h;intro q hq;rcases ajo.mp hq with rfl|hq
   ·exact λz=>by rw[beq_eq_false_iff_ne]at e;exact e z.symm
   ·exact ih h q hq
theorem Fo{α:Type}{f:Int×α→Key×V}{bs:List (Int×α)}{t:Int}(hf:∀ p,(f p).1=Sum.inl p.1):gR (bs.map f) (Sum.inl t)=(bs.lookup t).map λv=>(f (t,v)).2:=by
 induction bs with
 | nil=>rfl
 | cons p r ih =>
  obtain⟨a,b⟩:=p;rw[aju,aj6];by_cases e:t=a
  ·subst e
   rw[fu (hf (t,b)),beq_self_eq_true];rfl
  ·rw[eS (by rw[hf (a,b)];exact λz=>e (Sum.inl.inj z).symm),beq_eq_false_iff_ne.mpr e,ih]
theorem Xx{bs:List (Int×Int)}{t:Int}:gR (bs.map bkv) (Sum.inl t)=(bs.lookup t).map V.int:=Fo λ_=>rfl
noncomputable def HY(bs:List (Int×Int))(t x:Int):List (Int×Int):=if(bs.lookup t).isSome=true then bs.map (λp=>if p.1=t then(t,x) else p) else bs++[(t,x)]
theorem Mi{bs:List (Int×Int)}{t x:Int}:(HY bs t x).map bkv=putK (bs.map bkv) (Sum.inl t) (.int x):=by
 unfold HY putK;rw[rV,Xx,akc];by_cases e:(bs.lookup t).isSome=true
 ·rw[if_pos e,if_pos e,ajO,ajO]
  refine aj5 λp hp=>?_;show bkv (if p.1=t then(t,x) else p)=if(bkv p).1=Sum.inl t then((bkv p).1,V.int x) else bkv p;by_cases c:p.1=t
  ·rw[if_pos c,if_pos (by show Sum.inl p.1=Sum.inl t;rw[c])];unfold bkv;rw[c]
  ·rw[if_neg c,if_neg (show ¬(bkv p).1=Sum.inl t from λz=>c (Sum.inl.inj (show(Sum.inl p.1:Key)=Sum.inl t from z)))]
 ·rw[if_neg e,if_neg e,ajq]
  rfl
structure Nt(D:Ad)(H:Hp)(nt ntx nl:Addr)(xs:List V):Prop where
 i:H nt=some (.ins D.aF ntx [("things_named",.ref nl)])
 l:H nl=some (.lst xs)
 n:xs.length=8
structure Wt(D:Ad)(H:Hp)(wt wtx wb wl:Addr)(bs:List (Int×Int))(zs:List Int):Prop where
 i:H wt=some (.ins D.aM wtx [("words_borne",.ref wb),("words_said",.ref wl)])
 b:H wb=some (.dK (bs.map bkv))
 l:H wl=some (.lst (zs.map V.int))
noncomputable def wq(D:Ad):Sp:=λvs H Q _=>∃ m dx,vs=[.ref m]∧H m=some (.ins D.a9 dx [])∧∀ c H',But m H H'→H c=none→H' c=some (.lst (List.replicate 8 .non))→H' m=some (.ins D.a9 dx [("words_held",.ref c)])→Q .non H'
noncomputable abbrev Bw:List Str:=["self"]
theorem yO:aw Bw ["self"] (ar lS):=⟨rfl,rfl,rfl,by decide +kernel,rfl,by decide +kernel,by decide +kernel⟩
theorem yP(F:Fun K "__init__" "Hands.__init__" lS D.c8 D.gY)(T:Txt K mg D):Ok P w K mg base 1 D.c8 D.gY ["self"] (wq D):=by
 refine⟨?_,F.binds (ps:=["self"]) λ_ _ _ _ _ _ us hl=>match us,hl with|[_],_=>rfl⟩
 refine F.okE yO (λvs H Q E h=>?_) (λcdv A' outer s' H vs Q E hr h=>?_)
 ·obtain⟨m,dx,rfl,_⟩:=h
  rfl
 ·obtain⟨m,dx,rfl,hm,k⟩:=h
  refine⟨_,(ai (hJ (pv 0) (aO F9 (jY (ab dY aj)) (lN (v:=.int 8) rfl T.Fl ⟨_,rfl⟩)) rfl)),?_⟩;refine⟨by show 1≤sizeLine;decide,λp hp=>⟨p,8,_,rfl,rfl,ah,by decide,by decide,by show 1*8≤sizeLine;decide,λq hq=>?_⟩⟩;have np:m≠p:=aq hm hp;have hm1:upd H p (.lst [.non]) m=some (.ins D.a9 dx []):=by rw[af np];exact hm
  have nq:m≠q:=aq hm1 hq;have qp:q≠p:=λe=>by rw[e,ah]at hq;cases hq
  have hq0:H q=none:=by rw[af qp]at hq;exact hq
  refine⟨_,rfl,m,D.a9,dx,[],rfl,(by rw[af nq];exact hm1),T.aY,T.cC,by decide,?_⟩;refine k q _ (((But.upd hp).trans (But.upd hq)).trans But.self) hq0 ?_ ah;rw[af (ajm nq),ah,aeF]
noncomputable def pN(D:Ad):Sp:=λvs H Q _=>∃ m dx,vs=[.ref m]∧H m=some (.ins D.aF dx [])∧∀ c H',But m H H'→H c=none→H' c=some (.lst (List.replicate 8 .non))→H' m=some (.ins D.aF dx [("things_named",.ref c)])→Q .non H'
noncomputable abbrev t5:List Str:=["self"]
theorem sZ:aw t5 ["self"] (ar jf):=⟨rfl,rfl,rfl,by decide +kernel,rfl,by decide +kernel,by decide +kernel⟩
theorem tf(F:Fun K "__init__" "NameTable.__init__" jf D.bU D.eI)(T:Txt K mg D):Ok P w K mg base 1 D.bU D.eI ["self"] (pN D):=by
 refine⟨?_,F.binds (ps:=["self"]) λ_ _ _ _ _ _ us hl=>match us,hl with|[_],_=>rfl⟩
 refine F.okE sZ (λvs H Q E h=>?_) (λcdv A' outer s' H vs Q E hr h=>?_)
 ·obtain⟨m,dx,rfl,_⟩:=h
  rfl
 ·obtain⟨m,dx,rfl,hm,k⟩:=h
  refine⟨_,(ai (hJ (pv 0) (aO F9 (jY (ab dY aj)) (lN (v:=.int 8) rfl T.nO ⟨_,rfl⟩)) rfl)),?_⟩;refine⟨by show 1≤sizeLine;decide,λp hp=>⟨p,8,_,rfl,rfl,ah,by decide,by decide,by show 1*8≤sizeLine;decide,λq hq=>?_⟩⟩;have np:m≠p:=aq hm hp;have hm1:upd H p (.lst [.non]) m=some (.ins D.aF dx []):=by rw[af np];exact hm
  have nq:m≠q:=aq hm1 hq;have qp:q≠p:=λe=>by rw[e,ah]at hq;cases hq
  have hq0:H q=none:=by rw[af qp]at hq;exact hq
  refine⟨_,rfl,m,D.aF,dx,[],rfl,(by rw[af nq];exact hm1),T.dH,T.b7,by decide,?_⟩;refine k q _ (((But.upd hp).trans (But.upd hq)).trans But.self) hq0 ?_ ah;rw[af (ajm nq),ah,aeF]
noncomputable def sS(D:Ad):Sp:=λvs H Q E=>∃ hd hdx hl xs ws,∃ h:Int,vs=[.ref hd,.int h]∧Hn D H hd hdx hl xs ws∧Sm h∧(match wat ws h with|some wd=>∀ v,xs[h.toNat]?=some v→WV H v wd→Q v H|none=>Bad D.bX H E)
noncomputable abbrev Dv:List Str:=["self", "h"]
theorem Bx:aw Dv ["self", "h"] (ar mY):=⟨rfl,rfl,rfl,by decide +kernel,rfl,by decide +kernel,by decide +kernel⟩
theorem By(F:Fun K "word_in" "Hands.word_in" mY D.cI D.fq)(T:Txt K mg D)
  (aD:Ok P w K mg base 3 D.bp D.cG ["h"] (dS D)):Ok P w K mg base 4 D.cI D.fq ["self", "h"] (sS D):=by
 refine⟨?_,F.binds (ps:=["self", "h"]) λ_ _ _ _ _ _ us hl=>match us,hl with|[_,_],_=>rfl⟩
 refine F.okE Bx (λvs H Q E h=>?_) (λcdv A' outer s' H vs Q E hr h=>?_)
 ·obtain⟨hd,hdx,hl,xs,ws,h,rfl,_⟩:=h
  rfl
 ·obtain⟨hd,hdx,hl,xs,ws,h,rfl,N,hb,k⟩:=h
  refine⟨_,(ak (aJ (aH aD.g (hr.mono (by decide)) rfl T.fZ T.dO aD.b .nil (Passes.x (aQ λ_ _ _ q=>q)) (ab (pv 1) aj)))
   (ai (aP (du eu (aI (pv 0) rfl) (pv 1) (λ_ _=>rfl))))),?_⟩
  refine⟨_,rfl,h,rfl,hb,?_⟩;cases e:wat ws h with
  | none =>
   rw[if_neg (Q2 N.n e)];rw[e]at k;exact k
  | some wd =>
   obtain⟨h0,h1,_⟩:=rX e;obtain⟨v,hv,wv⟩:=N.at_ e;rw[if_pos ⟨h0,h1⟩];rw[e]at k;exact⟨_,rfl,hd,D.a9,hdx,_,.ref hl,rfl,N.i,T.aY,T.cC,rfl,_,rfl,hl,xs,h,v,rfl,rfl,SqL.of N.l,AY h0 hv,k v hv wv⟩
noncomputable def wx(D:Ad):Sp:=λvs H Q E=>∃ hd hdx hl xs ws v,∃ h:Int,vs=[.ref hd,.int h,v]∧Hn D H hd hdx hl xs ws∧Sm h∧(if 0≤h∧h<8 then Q .non (upd H hl (.lst (xs.set h.toNat v))) else Bad D.bX H E)
noncomputable abbrev K5:List Str:=["self", "h", "word"]
theorem IC:aw K5 ["self", "h", "word"] (ar uN):=⟨rfl,rfl,rfl,by decide +kernel,rfl,by decide +kernel,by decide +kernel⟩
theorem ID(F:Fun K "put" "Hands.put" uN D.eZ D.iB)(T:Txt K mg D)
  (aD:Ok P w K mg base 3 D.bp D.cG ["h"] (dS D)):Ok P w K mg base 4 D.eZ D.iB ["self", "h", "word"] (wx D):=by
 refine⟨?_,F.binds (ps:=["self", "h", "word"]) λ_ _ _ _ _ _ us hl=>match us,hl with|[_,_,_],_=>rfl⟩
 refine F.okE IC (λvs H Q E h=>?_) (λcdv A' outer s' H vs Q E hr h=>?_)
 ·obtain⟨hd,hdx,hl,xs,ws,v,h,rfl,_⟩:=h
  rfl
 ·obtain⟨hd,hdx,hl,xs,ws,v,h,rfl,N,hb,k⟩:=h
  refine⟨_,(ak (aJ (aH aD.g (hr.mono (by decide)) rfl T.fZ T.dO aD.b .nil (Passes.x (aQ λ_ _ _ q=>q)) (ab (pv 1) aj)))
   (ai (oZ (pv 2) (rU (aI (pv 0) rfl) (pv 1) set_list)))),?_⟩
  refine⟨_,rfl,h,rfl,hb,?_⟩;by_cases g:0≤h∧h<8
  ·rw[if_pos g]at k ⊢
   exact⟨_,rfl,_,rfl,hd,D.a9,hdx,_,.ref hl,rfl,N.i,T.aY,T.cC,rfl,_,rfl,hl,xs,h,h.toNat,rfl,rfl,N.l,N.ix g,k⟩
  ·rw[if_neg g]at k ⊢
   exact k
noncomputable def Mj(D:Ad):Sp:=λvs H Q E=>∃ hd hdx hl xs ws,∃ h g:Int,vs=[.ref hd,.int h,.int g]∧Hn D H hd hdx hl xs ws∧Sm h∧Sm g∧(if 0≤h∧h<8 then(match wat ws g with|some wd=>∀ v,WV H v wd→Q .non (upd H hl (.lst (xs.set h.toNat v)))|none=>Bad D.bX H E) else Bad D.bX H E)
noncomputable abbrev IE:List Str:=["self", "h", "g"]
theorem Gj:aw IE ["self", "h", "g"] (ar si):=⟨rfl,rfl,rfl,by decide +kernel,rfl,by decide +kernel,by decide +kernel⟩
theorem Gk(F:Fun K "copy" "Hands.copy" si D.gF D.lA)(T:Txt K mg D)
  (aD:Ok P w K mg base 3 D.bp D.cG ["h"] (dS D))
  (bK:Ok P w K mg base 4 D.cI D.fq ["self", "h"] (sS D)):Ok P w K mg base 5 D.gF D.lA ["self", "h", "g"] (Mj D):=by
 refine⟨?_,F.binds (ps:=["self", "h", "g"]) λ_ _ _ _ _ _ us hl=>match us,hl with|[_,_,_],_=>rfl⟩
 refine F.okE Gj (λvs H Q E h=>?_) (λcdv A' outer s' H vs Q E hr h=>?_)
 ·obtain⟨hd,hdx,hl,xs,ws,h,g,rfl,_⟩:=h
  rfl
 ·obtain⟨hd,hdx,hl,xs,ws,h,g,rfl,N,hb,hg,k⟩:=h
  refine⟨_,(ak (aJ (aH aD.g (hr.mono (by decide)) rfl T.fZ T.dO aD.b .nil (Passes.x (aQ λ_ _ _ q=>q)) (ab (pv 1) aj)))
   (ai (oZ (aK (pv 0) T.aY T.l7 bK.g (hr.mono (by decide)) bK.b .nil (Passes.x (aQ λ_ _ _ q=>q)) (ab (pv 2) aj)) (rU (aI (pv 0) rfl) (pv 1) set_list)))),?_⟩
  refine⟨_,rfl,h,rfl,hb,?_⟩;by_cases c:0≤h∧h<8
  ·rw[if_pos c]at k ⊢
   refine⟨_,rfl,hd,hdx,_,rfl,N.i,rfl,_,rfl,hd,hdx,hl,xs,ws,g,rfl,N,hg,?_⟩;cases e:wat ws g with
   | none =>
    rw[e]at k;exact k
   | some wd =>
    rw[e]at k;exact λv hv wv=>⟨_,rfl,hd,D.a9,hdx,_,.ref hl,rfl,N.i,T.aY,T.cC,rfl,_,rfl,hl,xs,h,h.toNat,rfl,rfl,N.l,N.ix c,k v wv⟩
  ·rw[if_neg c]at k ⊢
   exact k
noncomputable def Fp(D:Ad):Sp:=λvs H Q E=>∃ hd hdx hl xs ws,∃ h x:Int,vs=[.ref hd,.int h,.int x]∧Hn D H hd hdx hl xs ws∧Sm h∧Sm x∧(if 0≤h∧h<8 then(if Num x then ∀ t H',aE H H'→H' t=some (.tup [.str "number",.int x])→Q .non (upd H' hl (.lst (xs.set h.toNat (.ref t)))) else Bad D.dv H E) else Bad D.bX H E)
noncomputable abbrev Ej:List Str:=["self", "h", "x"]
theorem Dw:aw Ej ["self", "h", "x"] (ar oE):=⟨rfl,rfl,rfl,by decide +kernel,rfl,by decide +kernel,by decide +kernel⟩
theorem Dx(F:Fun K "number" "Hands.number" oE D.eW D.jn)(T:Txt K mg D)
  (aD:Ok P w K mg base 3 D.bp D.cG ["h"] (dS D))
  (lj:Ok P w K mg base 4 D.dJ D.jk ["x"] (sR D)):Ok P w K mg base 5 D.eW D.jn ["self", "h", "x"] (Fp D):=by
 refine⟨?_,F.binds (ps:=["self", "h", "x"]) λ_ _ _ _ _ _ us hl=>match us,hl with|[_,_,_],_=>rfl⟩
 refine F.okE Dw (λvs H Q E h=>?_) (λcdv A' outer s' H vs Q E hr h=>?_)
 ·obtain⟨hd,hdx,hl,xs,ws,h,x,rfl,_⟩:=h
  rfl
 ·obtain⟨hd,hdx,hl,xs,ws,h,x,rfl,N,hb,hx,k⟩:=h
  refine⟨_,(ak (aJ (aH aD.g (hr.mono (by decide)) rfl T.fZ T.dO aD.b .nil (Passes.x (aQ λ_ _ _ q=>q)) (ab (pv 1) aj)))
   (ai (oZ (aH lj.g (hr.mono (by decide)) rfl T.Ec T.oJ lj.b .nil (Passes.x (aQ λ_ _ _ q=>q)) (ab (pv 2) aj)) (rU (aI (pv 0) rfl) (pv 1) set_list)))),?_⟩
  refine⟨_,rfl,h,rfl,hb,?_⟩;by_cases c:0≤h∧h<8
  ·rw[if_pos c]at k ⊢
   refine⟨_,rfl,x,rfl,hx,?_⟩;by_cases g:Num x
   ·rw[if_pos g]at k ⊢
    intro t H' sH ht;have N':=N.same sH;exact⟨_,rfl,hd,D.a9,hdx,_,.ref hl,rfl,N'.i,T.aY,T.cC,rfl,_,rfl,hl,xs,h,h.toNat,rfl,rfl,N'.l,N'.ix c,k t H' sH ht⟩
   ·rw[if_neg g]at k ⊢
    exact k
  ·rw[if_neg c]at k ⊢
   exact k
noncomputable def A9(D:Ad):Sp:=λvs H Q E=>∃ hd hdx hl xs ws,∃ h:Int,vs=[.ref hd,.int h]∧Hn D H hd hdx hl xs ws∧Sm h∧(match wat ws h with|some wd=>∀ H',aE H H'→Q (.str wd.kind) H'|none=>Bad D.bX H E)
noncomputable abbrev IF:List Str:=["self", "h", "kind"]
theorem wy:aw IF ["self", "h"] (ar sj):=⟨rfl,rfl,rfl,by decide +kernel,rfl,by decide +kernel,by decide +kernel⟩
theorem Gn(F:Fun K "kind" "Hands.kind" sj D.eT D.iH)(T:Txt K mg D)
  (gM:Ok P w K mg base 1 D.eV D.h9 ["value"] (Ks))
  (bK:Ok P w K mg base 4 D.cI D.fq ["self", "h"] (sS D)):Ok P w K mg base 5 D.eT D.iH ["self", "h"] (A9 D):=by
 refine⟨?_,F.binds (ps:=["self", "h"]) λ_ _ _ _ _ _ us hl=>match us,hl with|[_,_],_=>rfl⟩
 refine F.okE wy (λvs H Q E h=>?_) (λcdv A' outer s' H vs Q E hr h=>?_)
 ·obtain⟨hd,hdx,hl,xs,ws,h,rfl,_⟩:=h
  rfl
 ·obtain⟨hd,hdx,hl,xs,ws,h,rfl,N,hb,k⟩:=h
  refine⟨_,(ak (aW (i:=2) wy.nd rfl (Or.inl rfl) (aH gM.g (hr.mono (by decide)) rfl T.rE T.mM gM.b .nil (Passes.x (aQ λ_ _ _ q=>q)) (ab (aK (pv 0) T.aY T.l7 bK.g (hr.mono (by decide)) bK.b .nil (Passes.x (aQ λ_ _ _ q=>q)) (ab (pv 1) aj)) aj)))
   (ai (aP (pJ (aV HI (pv 2) (iT (ab fg (ab fg aj))) (by with_unfolding_all rfl)) (pv 2) fg)))),?_⟩
  refine⟨_,rfl,hd,hdx,_,rfl,N.i,rfl,_,rfl,hd,hdx,hl,xs,ws,h,rfl,N,hb,?_⟩;cases e:wat ws h with
  | none =>
   rw[e]at k;exact k
  | some wd =>
   rw[e]at k;intro v hv wv;refine⟨v,wd,rfl,wv,?_⟩;cases wd with
   | no=>exact⟨_,rfl,by show 2≤sizeLine;decide,λt ht=>⟨t,_,rfl,.inr (SqT.of ah),rfl,rfl,_,rfl,eE (λ_=>⟨_,rfl,k _ (aE.upd ht)⟩) (λh=>absurd (by kernel_rfl) h)⟩⟩
   | num n=>exact⟨_,rfl,by show 2≤sizeLine;decide,λt ht=>⟨t,_,rfl,.inr (SqT.of ah),rfl,rfl,_,rfl,eE (λ_=>⟨_,rfl,k _ (aE.upd ht)⟩) (λh=>absurd (by kernel_rfl) h)⟩⟩
   | th n=>exact⟨_,rfl,by show 2≤sizeLine;decide,λt ht=>⟨t,_,rfl,.inr (SqT.of ah),rfl,rfl,_,rfl,eE (λh=>absurd h (ajL.mp (by kernel_rfl))) (λ_=>k _ (aE.upd ht))⟩⟩
noncomputable def Ml(D:Ad):Sp:=λvs H Q E=>∃ hd hdx hl xs ws,∃ h:Int,vs=[.ref hd,.int h]∧Hn D H hd hdx hl xs ws∧Sm h∧(match wat ws h with|some (.num x)=>∀ H',aE H H'→Q (.int x) H'|_=>Bad D.bX H E)
noncomputable abbrev Gp:List Str:=["self", "h"]
theorem Ek:aw Gp ["self", "h"] (ar qA):=⟨rfl,rfl,rfl,by decide +kernel,rfl,by decide +kernel,by decide +kernel⟩
theorem El(F:Fun K "value" "Hands.value" qA D.fL D.jZ)(T:Txt K mg D)
  (ag:Ok P w K mg base 1 D.ao D.aA ["self", "text"] (Bn K))
  (c6:Ok P w K mg base 5 D.eT D.iH ["self", "h"] (A9 D)):Ok P w K mg base 6 D.fL D.jZ ["self", "h"] (Ml D):=by
 refine⟨?_,F.binds (ps:=["self", "h"]) λ_ _ _ _ _ _ us hl=>match us,hl with|[_,_],_=>rfl⟩
 refine F.okE Ek (λvs H Q E h=>?_) (λcdv A' outer s' H vs Q E hr h=>?_)
 ·obtain⟨hd,hdx,hl,xs,ws,h,rfl,_⟩:=h
  rfl
 ·obtain⟨hd,hdx,hl,xs,ws,h,rfl,N,hb,k⟩:=h
  refine⟨_,(ak (cV (aV Qh (aK (pv 0) T.aY T.qJ c6.g (hr.mono (by decide)) c6.b .nil (Passes.x (aQ λ_ _ _ q=>q)) (ab (pv 1) aj)) fg (bC _))
    (ai (fP rfl kz (kA T.yt ag.g (hr.mono (by decide)) rfl T.yr ag.b (Passes.x (aQ λ_ _ _ q=>q)) (ab (jt (br gT (br (lM (pv 1)) (br gT js)))) aj))))
    a7)
   (ai (aP (du gi (du eu (aI (pv 0) rfl) (pv 1) (λ_ _=>rfl)) au (λ_ _=>rfl))))),?_⟩
  refine⟨_,rfl,hd,hdx,_,rfl,N.i,rfl,_,rfl,hd,hdx,hl,xs,ws,h,rfl,N,hb,?_⟩;cases e:wat ws h with
  | none =>
   rw[e]at k;exact k
  | some wd =>
   rw[e]at k;cases wd with
   | no=>exact λH1 s1=>⟨rfl,_,rfl,eE (λ_=>⟨_,rfl,h,rfl,hb,λy hy ea hea=>cM T.mz (λ_ q=>aE.none s1 q) (Bad.same k s1) ea hea⟩) (λh=>absurd (by kernel_rfl) h)⟩
   | num n =>
    intro H1 s1;have N1:=N.same s1;obtain⟨v,hv,wv⟩:=N1.at_ e;obtain⟨h0,h1,_⟩:=rX e;obtain⟨t,rfl,ht⟩:=wv;exact⟨rfl,_,rfl,eE (λh=>absurd h (ajL.mp (by kernel_rfl))) (λ_=>⟨_,rfl,hd,D.a9,hdx,_,.ref hl,rfl,N1.i,T.aY,T.cC,rfl,_,rfl,hl,xs,h,.ref t,rfl,rfl,SqL.of N1.l,AY h0 hv,t,_,1,.int n,rfl,rfl,SqT.of ht,rfl,k H1 s1⟩)⟩
   | th n =>
    exact λH1 s1=>⟨rfl,_,rfl,eE (λ_=>⟨_,rfl,h,rfl,hb,λy hy ea hea=>cM T.mz (λ_ q=>aE.none s1 q) (Bad.same k s1) ea hea⟩) (λh=>absurd (by kernel_rfl) h)⟩
noncomputable def jO(D:Ad):Sp:=λvs H Q E=>∃ hd hdx hl xs ws,∃ h:Int,vs=[.ref hd,.int h]∧Hn D H hd hdx hl xs ws∧Sm h∧(match wat ws h with|some (.th x)=>∀ H',aE H H'→Q (.int x) H'|_=>Bad D.bX H E)
noncomputable abbrev yQ:List Str:=["self", "h"]
theorem wM:aw yQ ["self", "h"] (ar kL):=⟨rfl,rfl,rfl,by decide +kernel,rfl,by decide +kernel,by decide +kernel⟩
theorem wN(F:Fun K "thing_due" "Hands.thing_due" kL D.ba D.cn)(T:Txt K mg D)
  (ag:Ok P w K mg base 1 D.ao D.aA ["self", "text"] (Bn K))
  (c6:Ok P w K mg base 5 D.eT D.iH ["self", "h"] (A9 D)):Ok P w K mg base 6 D.ba D.cn ["self", "h"] (jO D):=by
 refine⟨?_,F.binds (ps:=["self", "h"]) λ_ _ _ _ _ _ us hl=>match us,hl with|[_,_],_=>rfl⟩
 refine F.okE wM (λvs H Q E h=>?_) (λcdv A' outer s' H vs Q E hr h=>?_)
 ·obtain⟨hd,hdx,hl,xs,ws,h,rfl,_⟩:=h
  rfl
 ·obtain⟨hd,hdx,hl,xs,ws,h,rfl,N,hb,k⟩:=h
  refine⟨_,(ak (cV (aV Qh (aK (pv 0) T.aY T.qJ c6.g (hr.mono (by decide)) c6.b .nil (Passes.x (aQ λ_ _ _ q=>q)) (ab (pv 1) aj)) fg (bC _))
    (ai (fP rfl kz (kA T.yt ag.g (hr.mono (by decide)) rfl T.yr ag.b (Passes.x (aQ λ_ _ _ q=>q)) (ab (jt (br gT (br (lM (pv 1)) (br gT js)))) aj))))
    a7)
   (ai (aP (du gi (du eu (aI (pv 0) rfl) (pv 1) (λ_ _=>rfl)) au (λ_ _=>rfl))))),?_⟩
  refine⟨_,rfl,hd,hdx,_,rfl,N.i,rfl,_,rfl,hd,hdx,hl,xs,ws,h,rfl,N,hb,?_⟩;cases e:wat ws h with
  | none =>
   rw[e]at k;exact k
  | some wd =>
   rw[e]at k;cases wd with
   | no=>exact λH1 s1=>⟨rfl,_,rfl,eE (λ_=>⟨_,rfl,h,rfl,hb,λy hy ea hea=>cM T.mz (λ_ q=>aE.none s1 q) (Bad.same k s1) ea hea⟩) (λh=>absurd (by kernel_rfl) h)⟩
   | num n =>
    exact λH1 s1=>⟨rfl,_,rfl,eE (λ_=>⟨_,rfl,h,rfl,hb,λy hy ea hea=>cM T.mz (λ_ q=>aE.none s1 q) (Bad.same k s1) ea hea⟩) (λh=>absurd (by kernel_rfl) h)⟩
   | th n =>
    intro H1 s1;have N1:=N.same s1;obtain⟨v,hv,wv⟩:=N1.at_ e;obtain⟨h0,h1,_⟩:=rX e;obtain⟨t,rfl,ht⟩:=wv;exact⟨rfl,_,rfl,eE (λh=>absurd h (ajL.mp (by kernel_rfl))) (λ_=>⟨_,rfl,hd,D.a9,hdx,_,.ref hl,rfl,N1.i,T.aY,T.cC,rfl,_,rfl,hl,xs,h,.ref t,rfl,rfl,SqL.of N1.l,AY h0 hv,t,_,1,.int n,rfl,rfl,SqT.of ht,rfl,k H1 s1⟩)⟩
noncomputable def nR(D:Ad):Sp:=λvs H Q E=>∃ hd hdx hl xs ws,vs=[.ref hd]∧Hn D H hd hdx hl xs ws∧∀ p H',aE H H'→H p=none→H' p=some (.lst xs)→Q (.ref p) H'
noncomputable abbrev yR:List Str:=["self"]
theorem wO:aw yR ["self"] (ar kK):=⟨rfl,rfl,rfl,by decide +kernel,rfl,by decide +kernel,by decide +kernel⟩
theorem wQ(F:Fun K "all_words" "Hands.all_words" kK D.bO D.dB)(T:Txt K mg D):Ok P w K mg base 1 D.bO D.dB ["self"] (nR D):=by
 refine⟨?_,F.binds (ps:=["self"]) λ_ _ _ _ _ _ us hl=>match us,hl with|[_],_=>rfl⟩
 refine F.okE wO (λvs H Q E h=>?_) (λcdv A' outer s' H vs Q E hr h=>?_)
 ·obtain⟨hd,hdx,hl,xs,ws,rfl,_⟩:=h
  rfl
 ·obtain⟨hd,hdx,hl,xs,ws,rfl,N,k⟩:=h
  refine⟨_,(ai (aP (hZ iG rfl T.qM PyProof.Rows.Boot.«list» (ab (aI (pv 0) rfl) aj)))),?_⟩;exact⟨_,rfl,hd,D.a9,hdx,_,.ref hl,rfl,N.i,T.aY,T.cC,rfl,hl,xs,rfl,.inl (SqL.of N.l),λp hp=>k p _ (aE.upd hp) hp ah⟩
noncomputable def Mn(D:Ad):Sp:=λvs H Q E=>∃ nt ntx nl xs v,∃ w:Int,vs=[.ref nt,.int w,v]∧Nt D H nt ntx nl xs∧Sm w∧(if 0≤w∧w<8 then Q .non (upd H nl (.lst (xs.set w.toNat v))) else Bad D.fD H E)
noncomputable abbrev Bz:List Str:=["self", "w", "t"]
theorem yS:aw Bz ["self", "w", "t"] (ar lU):=⟨rfl,rfl,rfl,by decide +kernel,rfl,by decide +kernel,by decide +kernel⟩
theorem yT(F:Fun K "name" "NameTable.name" lU D.de D.g4)(T:Txt K mg D)
  (eX:Ok P w K mg base 3 D.cW D.hR ["w"] (nj D)):Ok P w K mg base 4 D.de D.g4 ["self", "w", "t"] (Mn D):=by
 refine⟨?_,F.binds (ps:=["self", "w", "t"]) λ_ _ _ _ _ _ us hl=>match us,hl with|[_,_,_],_=>rfl⟩
 refine F.okE yS (λvs H Q E h=>?_) (λcdv A' outer s' H vs Q E hr h=>?_)
 ·obtain⟨nt,ntx,nl,xs,v,w,rfl,_⟩:=h
  rfl
 ·obtain⟨nt,ntx,nl,xs,v,w,rfl,N,hb,k⟩:=h
  refine⟨_,(ak (aJ (aH eX.g (hr.mono (by decide)) rfl T.uG T.k7 eX.b .nil (Passes.x (aQ λ_ _ _ q=>q)) (ab (pv 1) aj)))
   (ai (oZ (pv 2) (rU (aI (pv 0) rfl) (pv 1) set_list)))),?_⟩
  refine⟨_,rfl,w,rfl,hb,?_⟩;by_cases g:0≤w∧w<8
  ·rw[if_pos g]at k ⊢
   exact⟨_,rfl,_,rfl,nt,D.aF,ntx,_,.ref nl,rfl,N.i,T.dH,T.b7,rfl,_,rfl,nl,xs,w,w.toNat,rfl,rfl,N.l,Fm g.1 (by rw[N.n];exact g.2),k⟩
  ·rw[if_neg g]at k ⊢
   exact k
noncomputable def Mo(D:Ad):Sp:=λvs H Q E=>∃ nt ntx nl xs,∃ w:Int,vs=[.ref nt,.int w]∧Nt D H nt ntx nl xs∧Sm w∧(if 0≤w∧w<8 then ∀ v,xs[w.toNat]?=some v→Q v H else Bad D.fD H E)
noncomputable abbrev yU:List Str:=["self", "w"]
theorem wR:aw yU ["self", "w"] (ar kM):=⟨rfl,rfl,rfl,by decide +kernel,rfl,by decide +kernel,by decide +kernel⟩
theorem wU(F:Fun K "named" "NameTable.named" kM D.cR D.gy)(T:Txt K mg D)
  (eX:Ok P w K mg base 3 D.cW D.hR ["w"] (nj D)):Ok P w K mg base 4 D.cR D.gy ["self", "w"] (Mo D):=by
 refine⟨?_,F.binds (ps:=["self", "w"]) λ_ _ _ _ _ _ us hl=>match us,hl with|[_,_],_=>rfl⟩
 refine F.okE wR (λvs H Q E h=>?_) (λcdv A' outer s' H vs Q E hr h=>?_)
 ·obtain⟨nt,ntx,nl,xs,w,rfl,_⟩:=h
  rfl
 ·obtain⟨nt,ntx,nl,xs,w,rfl,N,hb,k⟩:=h
  refine⟨_,(ak (aJ (aH eX.g (hr.mono (by decide)) rfl T.uG T.k7 eX.b .nil (Passes.x (aQ λ_ _ _ q=>q)) (ab (pv 1) aj)))
   (ai (aP (du eu (aI (pv 0) rfl) (pv 1) (λ_ _=>rfl))))),?_⟩
  refine⟨_,rfl,w,rfl,hb,?_⟩;by_cases g:0≤w∧w<8
  ·rw[if_pos g]at k ⊢
   have hv:xs[w.toNat]?=some (xs[w.toNat]'(by rw[N.n];omega)):=ai7 _;exact⟨_,rfl,nt,D.aF,ntx,_,.ref nl,rfl,N.i,T.dH,T.b7,rfl,_,rfl,nl,xs,w,_,rfl,rfl,SqL.of N.l,AY g.1 hv,k _ hv⟩
  ·rw[if_neg g]at k ⊢
   exact k
noncomputable def pO(D:Ad):Sp:=λvs H Q _=>∃ m dx,vs=[.ref m]∧H m=some (.ins D.aM dx [])∧∀ b c H',But m H H'→H b=none→H c=none→Wt D H' m dx b c [] []→Q .non H'
noncomputable abbrev t6:List Str:=["self"]
theorem tj:aw t6 ["self"] (ar je):=⟨rfl,rfl,rfl,by decide +kernel,rfl,by decide +kernel,by decide +kernel⟩
theorem tm(F:Fun K "__init__" "WordTable.__init__" je D.bT D.eG)(T:Txt K mg D):Ok P w K mg base 1 D.bT D.eG ["self"] (pO D):=by
 refine⟨?_,F.binds (ps:=["self"]) λ_ _ _ _ _ _ us hl=>match us,hl with|[_],_=>rfl⟩
 refine F.okE tj (λvs H Q E h=>?_) (λcdv A' outer s' H vs Q E hr h=>?_)
 ·obtain⟨m,dx,rfl,_⟩:=h
  rfl
 ·obtain⟨m,dx,rfl,hm,k⟩:=h
  refine⟨_,(ak (hJ (pv 0) jR rfl)
   (ai (hJ (pv 0) (jY aj) rfl))),?_⟩
  intro p hp;have np:m≠p:=aq hm hp;refine⟨_,rfl,m,D.aM,dx,[],rfl,(by rw[af np];exact hm),T.c0,T.bJ,by decide,?_⟩;refine⟨by show 0≤sizeLine;decide,λq hq=>?_⟩;have nq:m≠q:=aq ah hq;have qp:q≠p:=λe=>by rw[e,af (ajm np),ah]at hq;cases hq
  have hq0:H q=none:=by rw[af (ajm nq),af qp]at hq;exact hq
  refine⟨_,rfl,m,D.aM,dx,_,rfl,(by rw[af nq];exact ah),T.c0,T.kE,by show 1<1000;decide,?_⟩;refine k p q _ ((((But.upd hp).trans But.self).trans (λb u n h=>by rw[af λe=>by rw[e]at h;rw[h]at hq;cases hq];exact h)).trans But.self) hp hq0 ⟨ah,?_,?_⟩
  ·rw[af (ajm np),af (ajm qp),af (ajm np),ah]
   rfl
  ·rw[af (ajm nq),ah]
   rfl
noncomputable def OE(D:Ad):Sp:=λvs H Q E=>∃ wt wtx wb wl bs zs,∃ t x:Int,vs=[.ref wt,.int t,.int x]∧Wt D H wt wtx wb wl bs zs∧bs.length≤12∧(if bs.lookup t=none∧12≤bs.length then Bad D.cF H E else Q .non (upd H wb (.dK ((HY bs t x).map bkv))))
noncomputable abbrev BA:List Str:=["self", "t", "x"]
theorem yV:aw BA ["self", "t", "x"] (ar lT):=⟨rfl,rfl,rfl,by decide +kernel,rfl,by decide +kernel,by decide +kernel⟩
theorem yW(F:Fun K "bear" "WordTable.bear" lT D.da D.gZ)(T:Txt K mg D)
  (ag:Ok P w K mg base 1 D.ao D.aA ["self", "text"] (Bn K)):Ok P w K mg base 3 D.da D.gZ ["self", "t", "x"] (OE D):=by
 refine⟨?_,F.binds (ps:=["self", "t", "x"]) λ_ _ _ _ _ _ us hl=>match us,hl with|[_,_,_],_=>rfl⟩
 refine F.okE yV (λvs H Q E h=>?_) (λcdv A' outer s' H vs Q E hr h=>?_)
 ·obtain⟨wt,wtx,wb,wl,bs,zs,t,x,rfl,_⟩:=h
  rfl
 ·obtain⟨wt,wtx,wb,wl,bs,zs,t,x,rfl,N,hn,k⟩:=h
  have hu:=jV hr;refine⟨_,(ak (cV (PW.pt (pw_and (rT (mL hu (pv 1) (aI (pv 0) rfl)) (by with_unfolding_all rfl)) (pw_and1 (aV XH (cw HM rfl T.kr PyProof.Rows.Boot.«len» (ab (aI (pv 0) rfl) aj)) (lN (v:=.int 12) rfl T.lg ⟨_,rfl⟩) (bC _)))))
    (ai (fP rfl kz (kA T.Dl ag.g (hr.mono (by decide)) rfl T.Dj ag.b (Passes.x (aQ λ_ _ _ q=>q)) (ab (jt (br (lM (lN (v:=.int 12) rfl T.lg ⟨_,rfl⟩)) (br gT js))) aj))))
    a7)
   (ai (ny hu (aI (pv 0) rfl) (pv 1) (pv 2) rfl))),?_⟩
  have hu:=jV hr;refine⟨_,rfl,_,rfl,wt,D.aM,wtx,_,.ref wb,rfl,N.i,T.c0,T.bJ,rfl,wb,_,rfl,rB.k (k:=Sum.inl t) N.b,_,rfl,?_⟩;rw[Xx,akc];cases e:bs.lookup t with
  | some v =>
   rw[if_neg (λz=>by rw[e]at z;cases z.1)]at k;exact u4 ⟨_,rfl,_,rfl,wt,D.aM,wtx,_,.ref wb,rfl,N.i,T.c0,T.bJ,rfl,_,rfl,wb,_,rfl,D7.k (k:=Sum.inl t) N.b (by rw[ai8];exact ajW hn (by decide)),by rw[Mi]at k;exact k⟩
  | none =>
   refine wa ⟨_,rfl,wt,D.aM,wtx,_,.ref wb,rfl,N.i,T.c0,T.bJ,rfl,wb,_,rfl,N.b,_,_,rfl,rfl,_,rfl,eE (λh=>?_) (λh=>?_)⟩
   ·rw[ai8]at h
    have h:=of_decide_eq_true h;rw[if_pos ⟨e,by omega⟩]at k;exact⟨12,rfl,Sm.of (by decide) (by decide),λy hy ea hea=>cM T.Dk (λ_ q=>q) k ea hea⟩
   ·rw[ai8]at h
    have h:¬((12:Int)≤(bs.length:Int)):=λz=>h (decide_eq_true z);rw[if_neg (λz=>h (by have:=z.2;omega))]at k;exact⟨_,rfl,_,rfl,wt,D.aM,wtx,_,.ref wb,rfl,N.i,T.c0,T.bJ,rfl,_,rfl,wb,_,rfl,D7.k (k:=Sum.inl t) N.b (by rw[ai8];exact ajW hn (by decide)),by rw[Mi]at k;exact k⟩
noncomputable def fld(s:HS)(t:Int):List Wd:=(s.aR.lookup t).getD []
structure Good(s:HS):Prop where
 h8:s.bq.length=8
 n8:s.names.length=8
 asc:(s.aR.map (·.1)).Pairwise (·< ·)
 lt:∀ t ws,(t,ws)∈s.aR→0≤t∧t<s.nxt
 f6:∀ t ws,(t,ws)∈s.aR→ws.length≤6
 hh:∀ t,Wd.th t∈s.bq→∃ ws,(t,ws)∈s.aR
 ff:∀ u ws t,(u,ws)∈s.aR→Wd.th t∈ws→∃ ws',(t,ws')∈s.aR
 nn:∀ t,some t∈s.names→∃ ws,(t,ws)∈s.aR
 b12:s.cp.length≤12
 bk:∀ t x,(t,x)∈s.cp→∃ ws,(t,ws)∈s.aR
 bnd:(s.cp.map (·.1)).Nodup
 n0:0≤s.nxt
 nx:s.nxt≤10000
 sd:(s.vg.length:Int)+s.aR.length≤s.nxt
 yk:∀ t∈s.yng,∃ ws,(t,ws)∈s.aR
 D8:s.yng.Pairwise (·< ·)
 dk:∀ t∈s.dQ,∃ ws,(t,ws)∈s.aR
 Fq:s.dQ.Pairwise (·< ·)
theorem mem_lookup{α:Type}{fs:List (Int×α)}{t:Int}{w:α}(asc:(fs.map (·.1)).Nodup)(m:(t,w)∈fs):fs.lookup t=some w:=by
 induction fs with
 | nil=>cases m
 | cons p r ih =>
  obtain⟨a,b⟩:=p;rw[aju,akl]at asc;rw[aj6];rcases ajo.mp m with e|m
  ·cases e
   rw[beq_self_eq_true]
  ·have ne:t≠a:=λe=>asc.1 (by rw[←e];exact ajz.mpr ⟨_,m,rfl⟩)
   rw[beq_eq_false_iff_ne.mpr ne];exact ih asc.2 m
theorem rF{l:List Int}(h:l.Pairwise (·< ·)):l.Nodup:=h.imp λh=>Int.ne_of_lt h
theorem Good.get{s:HS}(g:Good s){t:Int}{ws:List Wd}(m:(t,ws)∈s.aR):s.aR.lookup t=some ws:=mem_lookup (rF g.asc) m
theorem Good.fld{s:HS}(g:Good s){t:Int}{ws:List Wd}(m:(t,ws)∈s.aR):fld s t=ws:=by unfold K36.fld;rw[g.get m];rfl
theorem Good.hand{s:HS}(g:Good s){h t:Int}(e:wat s.bq h=some (.th t)):(t,K36.fld s t)∈s.aR:=by
 obtain⟨_,_,e⟩:=rX e;obtain⟨ws,m⟩:=g.hh t (aje e);rw[g.fld m];exact m
theorem Good.few{s:HS}(g:Good s):s.aR.length≤10000:=by
 have:=g.sd
 have:=g.nx
 omega
theorem rY{n:Nat}(h:n≤20000):n<sizeLine:=ajW h (by decide)
theorem wz{n:Nat}(h:n≤20000):n≤sizeLine:=akO (rY h)
inductive Er where
 | hand|name|field|count|room|words|on|no
noncomputable def Ad.er(D:Ad):Er→Addr
 | .hand=>D.bX
 | .name=>D.fD
 | .field=>D.f9
 | .count=>D.dv
 | .room=>D.ko
 | .words=>D.cF
 | .on=>D.i9
 | .no=>D.ja
noncomputable abbrev Re:=Option Er×HS
noncomputable def Fin(D:Ad)(x:Addr)(A:HA)(s:HS)(H:Hp)(r:Re)(Q:VK)(E:XK):Prop:=∀ A' H',IH D H' x A' r.2→Fr (cD x A s) H (cD x A' r.2) H'→(match r.1 with|none=>Q .non H'|some e=>E (.ref (D.er e)) none H')
theorem Fin.bad{D:Ad}{x:Addr}{A:HA}{s:HS}{H:Hp}{e:Er}{Q:VK}{E:XK}(k:Fin D x A s H (some e,s) Q E)(J:IH D H x A s):Bad (D.er e) H E:=λH' s'=>k A H' (J.same s') (Fr.same s')
noncomputable abbrev ok8(h:Int):Prop:=0≤h∧h<8
noncomputable def rG(s:HS)(h:Int)(w:Wd):HS:={s with bq:=s.bq.set h.toNat w}
noncomputable def nS(s:HS)(h g k:Int):Re:=if ok8 h then(match wat s.bq g with|some (.th t)=>if 0≤k∧k<((fld s t).length:Int) then(none,rG s h ((fld s t).getD k.toNat .no)) else(some .field,s)|_=>(some .hand,s)) else(some .hand,s)
noncomputable def jP(s:HS)(g k h:Int):Re:=match wat s.bq g with|some (.th t)=>(match wat s.bq h with|some w=>if 0≤k∧k<((fld s t).length:Int) then(none,{s with aR:=uJ s.aR t ((fld s t).set k.toNat w)}) else(some .field,s)|none=>(some .hand,s))|_=>(some .hand,s)
noncomputable def vW(s:HS)(h g:Int):Re:=if ok8 h then(match wat s.bq g with|some w=>(none,rG s h w)|none=>(some .hand,s)) else(some .hand,s)
noncomputable def Ba(s:HS)(h:Int):Re:=if ok8 h then(none,rG s h .no) else(some .hand,s)
noncomputable def kG(s:HS)(h x:Int):Re:=if ok8 h then(if Num x then(none,rG s h (.num x)) else(some .count,s)) else(some .hand,s)
noncomputable def qj(s:HS)(w h:Int):Re:=match wat s.bq h with|some (.th t)=>if ok8 w then(none,{s with names:=s.names.set w.toNat (some t)}) else(some .name,s)|_=>(some .hand,s)
noncomputable def nmW:Option Int→Wd
 | none=>.no
 | some t=>.th t
noncomputable def nU(s:HS)(h x:Int):Re:=match wat s.bq h with|some (.th t)=>(if Num x then(if s.cp.lookup t=none∧12≤s.cp.length then(some .words,s) else(none,{s with cp:=HY s.cp t x})) else(some .count,s))|_=>(some .hand,s)
noncomputable def ND(s:HS)(h n:Int):HS:={s with nxt:=s.nxt+1,aR:=s.aR++[(s.nxt,List.replicate n.toNat .no)],yng:=if s.my=true then s.yng++[s.nxt] else s.yng,bq:=s.bq.set h.toNat (.th s.nxt)}
noncomputable def wsum(s:HS)(ts:List Int):Int:=(ts.map λt=>((fld s t).length:Int)+1).sum
section
variable{D:Ad}{H:Hp}{x:Addr}{A:HA}{s:HS}
theorem IH.hn(J:IH D H x A s)(g:Good s):Hn D H A.hd A.hdx A.hl A.hx s.bq:=⟨J.ahd,J.ahl,J.rhl,g.h8⟩
theorem IH.ntb(J:IH D H x A s)(g:Good s):Nt D H A.nt A.ntx A.nl (s.names.map nmV):=⟨J.ant,J.anl,by rw[ai8];exact g.n8⟩
theorem IH.wtb(J:IH D H x A s):Wt D H A.wt A.wtx A.wb A.wl s.cp s.vg:=⟨J.awt,J.awb,J.awl⟩
theorem RE{A:HA}{fs:List (Int×List Wd)}{t:Int}:gR (fs.map (fkv A)) (Sum.inl t)=(fs.lookup t).map λ_=>V.ref (A.fa t):=Fo λ_=>rfl
theorem IH.UB(J:IH D H x A s)(g:Good s){t:Int}{ws:List Wd}(m:(t,ws)∈s.aR):rB H A.fh (.int t) (some (.ref (A.fa t))):=by
 have:=rB.k (k:=Sum.inl t) J.afh
 rw[RE,g.get m]at this;exact this
end
noncomputable def OF(D:Ad):Sp:=λvs H Q E=>∃ x A s,∃ h g:Int,vs=[.ref x,.int h,.int g]∧IH D H x A s∧Good s∧Sm h∧Sm g∧Fin D x A s H (vW s h g) Q E
noncomputable abbrev K6:List Str:=["self", "h", "g"]
theorem IG:aw K6 ["self", "h", "g"] (ar uP):=⟨rfl,rfl,rfl,by decide +kernel,rfl,by decide +kernel,by decide +kernel⟩
theorem II(F:Fun K "copy" "Heap.copy" uP D.fR D.mP)(T:Txt K mg D)
  (nV:Ok P w K mg base 5 D.gF D.lA ["self", "h", "g"] (Mj D)):Ok P w K mg base 6 D.fR D.mP ["self", "h", "g"] (OF D):=by
 refine⟨?_,F.binds (ps:=["self", "h", "g"]) λ_ _ _ _ _ _ us hl=>match us,hl with|[_,_,_],_=>rfl⟩
 refine F.okE IG (λvs H Q E h=>?_) (λcdv A' outer s' H vs Q E hr h=>?_)
 ·obtain⟨x,A,s,h,g,rfl,_⟩:=h
  rfl
 ·obtain⟨x,A,s,h,g,rfl,J,G,hh,hg,k⟩:=h
  refine⟨_,(ai (aJ (aK (aI (pv 0) rfl) T.aY T.Ge nV.g (hr.mono (by decide)) nV.b .nil (Passes.x (aQ λ_ _ _ q=>q)) (ab (pv 1) (ab (pv 2) aj))))),?_⟩;refine⟨_,rfl,x,D.aa,_,_,.ref A.hd,rfl,J.ax,T.ae,T.aB,nQ,A.hd,A.hdx,_,rfl,J.ahd,rfl,_,rfl,_,rfl,A.hd,A.hdx,A.hl,A.hx,s.bq,h,g,rfl,J.hn G,hh,hg,?_⟩;by_cases c:ok8 h
  ·rw[if_pos c]
   cases e:wat s.bq g with
   | none =>
    rw[show vW s h g=(some .hand,s) by simp only[vW,if_pos c,e]]at k;exact k.bad J
   | some wd =>
    rw[show vW s h g=(none,rG s h wd) by simp only[vW,if_pos c,e]]at k;exact λv wv=>let w:=J.Qt (J.rhl.set (i:=h.toNat) wv);k _ _ w.1 w.2
  ·rw[if_neg c]
   rw[show vW s h g=(some .hand,s) by simp only[vW,if_neg c]]at k;exact k.bad J
noncomputable def OG(D:Ad):Sp:=λvs H Q E=>∃ x A s,∃ h:Int,vs=[.ref x,.int h]∧IH D H x A s∧Good s∧Sm h∧Fin D x A s H (Ba s h) Q E
noncomputable abbrev K7:List Str:=["self", "h"]
theorem IJ:aw K7 ["self", "h"] (ar uQ):=⟨rfl,rfl,rfl,by decide +kernel,rfl,by decide +kernel,by decide +kernel⟩
theorem IK(F:Fun K "drop" "Heap.drop" uQ D.fS D.mQ)(T:Txt K mg D)
  (cu:Ok P w K mg base 4 D.eZ D.iB ["self", "h", "word"] (wx D)):Ok P w K mg base 5 D.fS D.mQ ["self", "h"] (OG D):=by
 refine⟨?_,F.binds (ps:=["self", "h"]) λ_ _ _ _ _ _ us hl=>match us,hl with|[_,_],_=>rfl⟩
 refine F.okE IJ (λvs H Q E h=>?_) (λcdv A' outer s' H vs Q E hr h=>?_)
 ·obtain⟨x,A,s,h,rfl,_⟩:=h
  rfl
 ·obtain⟨x,A,s,h,rfl,J,G,hh,k⟩:=h
  refine⟨_,(ai (aJ (aK (aI (pv 0) rfl) T.aY T.nN cu.g (hr.mono (by decide)) cu.b .nil (Passes.x (aQ λ_ _ _ q=>q)) (ab (pv 1) (ab dY aj))))),?_⟩;refine⟨_,rfl,x,D.aa,_,_,.ref A.hd,rfl,J.ax,T.ae,T.aB,nQ,A.hd,A.hdx,_,rfl,J.ahd,rfl,_,rfl,A.hd,A.hdx,A.hl,A.hx,s.bq,.non,h,rfl,J.hn G,hh,?_⟩;by_cases c:ok8 h
  ·rw[if_pos c]
   rw[show Ba s h=(none,rG s h .no) by simp only[Ba,if_pos c]]at k;exact let w:=J.Qt (J.rhl.set (i:=h.toNat) (show WV H .non .no from rfl));k _ _ w.1 w.2
  ·rw[if_neg c]
   rw[show Ba s h=(some .hand,s) by simp only[Ba,if_neg c]]at k;exact k.bad J
noncomputable def HZ(D:Ad):Sp:=λvs H Q E=>∃ x A s,∃ h z:Int,vs=[.ref x,.int h,.int z]∧IH D H x A s∧Good s∧Sm h∧Sm z∧Fin D x A s H (kG s h z) Q E
noncomputable abbrev Gq:List Str:=["self", "h", "x"]
theorem Em:aw Gq ["self", "h", "x"] (ar qB):=⟨rfl,rfl,rfl,by decide +kernel,rfl,by decide +kernel,by decide +kernel⟩
theorem En(F:Fun K "number" "Heap.number" qB D.dG D.j2)(T:Txt K mg D)
  (ll:Ok P w K mg base 5 D.eW D.jn ["self", "h", "x"] (Fp D)):Ok P w K mg base 6 D.dG D.j2 ["self", "h", "x"] (HZ D):=by
 refine⟨?_,F.binds (ps:=["self", "h", "x"]) λ_ _ _ _ _ _ us hl=>match us,hl with|[_,_,_],_=>rfl⟩
 refine F.okE Em (λvs H Q E h=>?_) (λcdv A' outer s' H vs Q E hr h=>?_)
 ·obtain⟨x,A,s,h,z,rfl,_⟩:=h
  rfl
 ·obtain⟨x,A,s,h,z,rfl,J,G,hh,hz,k⟩:=h
  refine⟨_,(ai (aJ (aK (aI (pv 0) rfl) T.aY T.Dm ll.g (hr.mono (by decide)) ll.b .nil (Passes.x (aQ λ_ _ _ q=>q)) (ab (pv 1) (ab (pv 2) aj))))),?_⟩;refine⟨_,rfl,x,D.aa,_,_,.ref A.hd,rfl,J.ax,T.ae,T.aB,nQ,A.hd,A.hdx,_,rfl,J.ahd,rfl,_,rfl,_,rfl,A.hd,A.hdx,A.hl,A.hx,s.bq,h,z,rfl,J.hn G,hh,hz,?_⟩;by_cases c:ok8 h
  ·rw[if_pos c]
   by_cases g:Num z
   ·rw[if_pos g]
    rw[show kG s h z=(none,rG s h (.num z)) by simp only[kG,if_pos c,if_pos g]]at k;exact λt H1 s1 ht=>let J1:=J.same s1;let w:=J1.Qt (J1.rhl.set (i:=h.toNat) (show WV H1 (.ref t) (.num z) from⟨t,rfl,ht⟩));k _ _ w.1 ((Fr.same s1).trans w.2)
   ·rw[if_neg g]
    rw[show kG s h z=(some .count,s) by simp only[kG,if_pos c,if_neg g]]at k;exact k.bad J
  ·rw[if_neg c]
   rw[show kG s h z=(some .hand,s) by simp only[kG,if_neg c]]at k;exact k.bad J
noncomputable def OH(D:Ad):Sp:=λvs H Q E=>∃ x A s,∃ w h:Int,vs=[.ref x,.int w,.int h]∧IH D H x A s∧Good s∧Sm w∧Sm h∧Fin D x A s H (qj s w h) Q E
noncomputable abbrev K8:List Str:=["self", "w", "h", "t"]
theorem AN:aw K8 ["self", "w", "h"] (ar uR):=⟨rfl,rfl,rfl,by decide +kernel,rfl,by decide +kernel,by decide +kernel⟩
theorem IL(F:Fun K "name" "Heap.name" uR D.fT D.mR)(T:Txt K mg D)
  (aG:Ok P w K mg base 6 D.ba D.cn ["self", "h"] (jO D))
  (jx:Ok P w K mg base 4 D.de D.g4 ["self", "w", "t"] (Mn D)):Ok P w K mg base 7 D.fT D.mR ["self", "w", "h"] (OH D):=by
 refine⟨?_,F.binds (ps:=["self", "w", "h"]) λ_ _ _ _ _ _ us hl=>match us,hl with|[_,_,_],_=>rfl⟩
 refine F.okE AN (λvs H Q E h=>?_) (λcdv A' outer s' H vs Q E hr h=>?_)
 ·obtain⟨x,A,s,w,h,rfl,_⟩:=h
  rfl
 ·obtain⟨x,A,s,w,h,rfl,J,G,hw,hh,k⟩:=h
  refine⟨_,(ak (aW (i:=3) AN.nd rfl (Or.inl rfl) (aK (aI (pv 0) rfl) T.aY T.fX aG.g (hr.mono (by decide)) aG.b .nil (Passes.x (aQ λ_ _ _ q=>q)) (ab (pv 2) aj)))
   (ai (aJ (aK (aI (pv 0) rfl) T.dH T.yA jx.g (hr.mono (by decide)) jx.b .nil (Passes.x (aQ λ_ _ _ q=>q)) (ab (pv 1) (ab (pv 3) aj)))))),?_⟩
  refine⟨_,rfl,x,D.aa,_,_,.ref A.hd,rfl,J.ax,T.ae,T.aB,nQ,A.hd,A.hdx,_,rfl,J.ahd,rfl,_,rfl,A.hd,A.hdx,A.hl,A.hx,s.bq,h,rfl,J.hn G,hh,?_⟩;cases e:wat s.bq h with
  | none =>
   rw[show qj s w h=(some .hand,s) by simp only[qj,e]]at k;exact k.bad J
  | some wd =>
   cases wd with
   | no =>
    rw[show qj s w h=(some .hand,s) by simp only[qj,e]]at k;exact k.bad J
   | num n =>
    rw[show qj s w h=(some .hand,s) by simp only[qj,e]]at k;exact k.bad J
   | th t =>
    intro H1 s1;have J1:=J.same s1;refine⟨_,rfl,x,D.aa,_,_,.ref A.nt,rfl,J1.ax,T.ae,T.dA,Ql,A.nt,A.ntx,_,rfl,J1.ant,rfl,_,rfl,_,rfl,A.nt,A.ntx,A.nl,_,.int t,w,rfl,J1.ntb G,hw,?_⟩;by_cases c:ok8 w
    ·rw[if_pos c]
     rw[show qj s w h=(none,{s with names:=s.names.set w.toNat (some t)}) by simp only[qj,e,if_pos c]]at k;have w1:=J1.aiE (ns:=s.names.set w.toNat (some t));rw[List.map_set]at w1;exact k _ _ w1.1 ((Fr.same s1).trans w1.2)
    ·rw[if_neg c]
     rw[show qj s w h=(some .name,s) by simp only[qj,e,if_neg c]]at k;exact Bad.same (k.bad J) s1
noncomputable def Ts(D:Ad):Sp:=λvs H Q E=>∃ x A s,∃ h z:Int,vs=[.ref x,.int h,.int z]∧IH D H x A s∧Good s∧Sm h∧Sm z∧Fin D x A s H (nU s h z) Q E
noncomputable abbrev K9:List Str:=["self", "h", "x", "t"]
theorem AO:aw K9 ["self", "h", "x"] (ar uS):=⟨rfl,rfl,rfl,by decide +kernel,rfl,by decide +kernel,by decide +kernel⟩
theorem IM(F:Fun K "word" "Heap.word" uS D.gJ D.qh)(T:Txt K mg D)
  (aG:Ok P w K mg base 6 D.ba D.cn ["self", "h"] (jO D))
  (dt:Ok P w K mg base 3 D.cc D.fK ["x"] (kX D))
  (jy:Ok P w K mg base 3 D.da D.gZ ["self", "t", "x"] (OE D)):Ok P w K mg base 7 D.gJ D.qh ["self", "h", "x"] (Ts D):=by
 refine⟨?_,F.binds (ps:=["self", "h", "x"]) λ_ _ _ _ _ _ us hl=>match us,hl with|[_,_,_],_=>rfl⟩
 refine F.okE AO (λvs H Q E h=>?_) (λcdv A' outer s' H vs Q E hr h=>?_)
 ·obtain⟨x,A,s,h,z,rfl,_⟩:=h
  rfl
 ·obtain⟨x,A,s,h,z,rfl,J,G,hh,hz,k⟩:=h
  refine⟨_,(ak (aW (i:=3) AO.nd rfl (Or.inl rfl) (aK (aI (pv 0) rfl) T.aY T.fX aG.g (hr.mono (by decide)) aG.b .nil (Passes.x (aQ λ_ _ _ q=>q)) (ab (pv 1) aj)))
   (ak (aJ (aH dt.g (hr.mono (by decide)) rfl T.rf T.jw dt.b .nil (Passes.x (aQ λ_ _ _ q=>q)) (ab (pv 2) aj)))
   (ai (aJ (aK (aI (pv 0) rfl) T.c0 T.yz jy.g (hr.mono (by decide)) jy.b .nil (Passes.x (aQ λ_ _ _ q=>q)) (ab (pv 3) (ab (pv 2) aj))))))),?_⟩
  refine⟨_,rfl,x,D.aa,_,_,.ref A.hd,rfl,J.ax,T.ae,T.aB,nQ,A.hd,A.hdx,_,rfl,J.ahd,rfl,_,rfl,A.hd,A.hdx,A.hl,A.hx,s.bq,h,rfl,J.hn G,hh,?_⟩;cases e:wat s.bq h with
  | none =>
   rw[show nU s h z=(some .hand,s) by simp only[nU,e]]at k;exact k.bad J
  | some wd =>
   cases wd with
   | no =>
    rw[show nU s h z=(some .hand,s) by simp only[nU,e]]at k;exact k.bad J
   | num n =>
    rw[show nU s h z=(some .hand,s) by simp only[nU,e]]at k;exact k.bad J
   | th t =>
    intro H1 s1;have J1:=J.same s1;refine⟨_,rfl,z,rfl,hz,?_⟩;by_cases g:Num z
    ·rw[if_pos g]
     refine⟨_,rfl,x,D.aa,_,_,.ref A.wt,rfl,J1.ax,T.ae,T.ia,UA,A.wt,A.wtx,_,rfl,J1.awt,rfl,_,rfl,_,rfl,A.wt,A.wtx,A.wb,A.wl,s.cp,s.vg,t,z,rfl,J1.wtb,G.b12,?_⟩;by_cases c:s.cp.lookup t=none∧12≤s.cp.length
     ·rw[if_pos c]
      rw[show nU s h z=(some .words,s) by simp only[nU,e,if_pos g,if_pos c]]at k;exact Bad.same (k.bad J) s1
     ·rw[if_neg c]
      rw[show nU s h z=(none,{s with cp:=HY s.cp t z}) by simp only[nU,e,if_pos g,if_neg c]]at k;have w1:=J1.aeC (bs:=HY s.cp t z);exact k _ _ w1.1 ((Fr.same s1).trans w1.2)
    ·rw[if_neg g]
     rw[show nU s h z=(some .count,s) by simp only[nU,e,if_neg g]]at k;exact Bad.same (k.bad J) s1
noncomputable def OI(D:Ad):Sp:=λvs H Q E=>∃ x A s,∃ h g kk:Int,vs=[.ref x,.int h,.int g,.int kk]∧IH D H x A s∧Good s∧Sm h∧Sm g∧Sm kk∧Fin D x A s H (nS s h g kk) Q E
noncomputable abbrev La:List Str:=["self", "h", "g", "k", "fields"]
theorem AQ:aw La ["self", "h", "g", "k"] (ar uO):=⟨rfl,rfl,rfl,by decide +kernel,rfl,by decide +kernel,by decide +kernel⟩
theorem IP(F:Fun K "load" "Heap.load" uO D.fQ D.mO)(T:Txt K mg D)
  (aD:Ok P w K mg base 3 D.bp D.cG ["h"] (dS D))
  (aG:Ok P w K mg base 6 D.ba D.cn ["self", "h"] (jO D))
  (dU:Ok P w K mg base 3 D.cH D.gj ["k", "fields"] (me D))
  (cu:Ok P w K mg base 4 D.eZ D.iB ["self", "h", "word"] (wx D)):Ok P w K mg base 7 D.fQ D.mO ["self", "h", "g", "k"] (OI D):=by
 refine⟨?_,F.binds (ps:=["self", "h", "g", "k"]) λ_ _ _ _ _ _ us hl=>match us,hl with|[_,_,_,_],_=>rfl⟩
 refine F.okE AQ (λvs H Q E h=>?_) (λcdv A' outer s' H vs Q E hr h=>?_)
 ·obtain⟨x,A,s,h,g,kk,rfl,_⟩:=h
  rfl
 ·obtain⟨x,A,s,h,g,kk,rfl,J,G,hh,hg,hk,k⟩:=h
  have hu:=jV hr;refine⟨_,(ak (aJ (aH aD.g (hr.mono (by decide)) rfl T.fZ T.dO aD.b .nil (Passes.x (aQ λ_ _ _ q=>q)) (ab (pv 1) aj)))
   (ak (aW (i:=4) AQ.nd rfl (Or.inl rfl) (gS hu (aI (pv 0) rfl) (aK (aI (pv 0) rfl) T.aY T.fX aG.g (hr.mono (by decide)) aG.b .nil (Passes.x (aQ λ_ _ _ q=>q)) (ab (pv 2) aj)) (λ_ _=>rfl)))
   (ak (aJ (aH dU.g (hr.mono (by decide)) rfl T.sQ T.j9 dU.b .nil (Passes.x (aQ λ_ _ _ q=>q)) (ab (pv 3) (ab (cw a6 rfl T.kr PyProof.Rows.Boot.«len» (ab (pv 4) aj)) aj))))
   (ai (aJ (aK (aI (pv 0) rfl) T.aY T.nN cu.g (hr.mono (by decide)) cu.b .nil (Passes.x (aQ λ_ _ _ q=>q)) (ab (pv 1) (ab (du eu (pv 4) (pv 3) (λ_ _=>rfl)) aj)))))))),?_⟩
  refine⟨_,rfl,h,rfl,hh,?_⟩;by_cases c:ok8 h
  ·rw[if_pos c]
   refine⟨_,rfl,x,D.aa,_,_,.ref A.fh,rfl,J.ax,T.ae,T.aC,rp,_,rfl,x,D.aa,_,_,.ref A.hd,rfl,J.ax,T.ae,T.aB,nQ,A.hd,A.hdx,_,rfl,J.ahd,rfl,_,rfl,A.hd,A.hdx,A.hl,A.hx,s.bq,g,rfl,J.hn G,hg,?_⟩;cases e:wat s.bq g with
   | none =>
    rw[show nS s h g kk=(some .hand,s) by simp only[nS,e,if_pos c]]at k;exact k.bad J
   | some wd =>
    cases wd with
    | no =>
     rw[show nS s h g kk=(some .hand,s) by simp only[nS,e,if_pos c]]at k;exact k.bad J
    | num n =>
     rw[show nS s h g kk=(some .hand,s) by simp only[nS,e,if_pos c]]at k;exact k.bad J
    | th t =>
     intro H1 s1;have J1:=J.same s1;have m:=G.hand e;obtain⟨hl,rl⟩:=J1.afl _ _ m;refine⟨A.fh,_,rfl,J1.UB G m,?_⟩;have f6:=G.f6 _ _ m;have ln:((A.fx t).length:Int)=(fld s t).length:=(by rw[rl.1]);refine⟨_,rfl,_,rfl,A.fa t,_,rfl,.inl (SqL.of hl),kk,_,rfl,hk,Sm.of (by omega) (by omega),?_⟩;rw[ln];by_cases c2:0≤kk∧kk<((fld s t).length:Int)
     ·rw[if_pos c2]
      rw[show nS s h g kk=(none,rG s h ((fld s t).getD kk.toNat .no)) by simp only[nS,if_pos c,e,if_pos c2]]at k;have hi:kk.toNat<(fld s t).length:=(by omega);obtain⟨v,hv,wv⟩:=rl.get hi;have gd:(fld s t).getD kk.toNat .no=(fld s t)[kk.toNat]:=(by simp[List.getD,hi]);rw[gd]at k;refine⟨_,rfl,x,D.aa,_,_,.ref A.hd,rfl,J1.ax,T.ae,T.aB,nQ,A.hd,A.hdx,_,rfl,J1.ahd,rfl,_,rfl,_,rfl,_,rfl,A.fa t,_,kk,v,rfl,rfl,SqL.of hl,AY c2.1 hv,A.hd,A.hdx,A.hl,A.hx,s.bq,v,h,rfl,J1.hn G,hh,?_⟩;rw[if_pos c];exact let w:=J1.Qt (J1.rhl.set (i:=h.toNat) wv);k _ _ w.1 ((Fr.same s1).trans w.2)
     ·rw[if_neg c2]
      rw[show nS s h g kk=(some .field,s) by simp only[nS,if_pos c,e,if_neg c2]]at k;exact Bad.same (k.bad J) s1
  ·rw[if_neg c]
   rw[show nS s h g kk=(some .hand,s) by simp only[nS,if_neg c]]at k;exact k.bad J
noncomputable def Mp(D:Ad):Sp:=λvs H Q E=>∃ x A s,∃ g kk h:Int,vs=[.ref x,.int g,.int kk,.int h]∧IH D H x A s∧Good s∧Sm g∧Sm kk∧Sm h∧Fin D x A s H (jP s g kk h) Q E
noncomputable abbrev IQ:List Str:=["self", "g", "k", "h", "fields", "value"]
theorem qO:aw IQ ["self", "g", "k", "h"] (ar so):=⟨rfl,rfl,rfl,by decide +kernel,rfl,by decide +kernel,by decide +kernel⟩
theorem Gr(F:Fun K "store" "Heap.store" so D.eU D.lC)(T:Txt K mg D)
  (aG:Ok P w K mg base 6 D.ba D.cn ["self", "h"] (jO D))
  (bK:Ok P w K mg base 4 D.cI D.fq ["self", "h"] (sS D))
  (dU:Ok P w K mg base 3 D.cH D.gj ["k", "fields"] (me D)):Ok P w K mg base 7 D.eU D.lC ["self", "g", "k", "h"] (Mp D):=by
 refine⟨?_,F.binds (ps:=["self", "g", "k", "h"]) λ_ _ _ _ _ _ us hl=>match us,hl with|[_,_,_,_],_=>rfl⟩
 refine F.okE qO (λvs H Q E h=>?_) (λcdv A' outer s' H vs Q E hr h=>?_)
 ·obtain⟨x,A,s,g,kk,h,rfl,_⟩:=h
  rfl
 ·obtain⟨x,A,s,g,kk,h,rfl,J,G,hg,hk,hh,k⟩:=h
  have hu:=jV hr;refine⟨_,(ak (aW (i:=4) qO.nd rfl (Or.inl rfl) (gS hu (aI (pv 0) rfl) (aK (aI (pv 0) rfl) T.aY T.fX aG.g (hr.mono (by decide)) aG.b .nil (Passes.x (aQ λ_ _ _ q=>q)) (ab (pv 1) aj)) (λ_ _=>rfl)))
   (ak (aW (i:=5) qO.nd rfl (Or.inl rfl) (aK (aI (pv 0) rfl) T.aY T.l7 bK.g (hr.mono (by decide)) bK.b .nil (Passes.x (aQ λ_ _ _ q=>q)) (ab (pv 3) aj)))
   (ak (aJ (aH dU.g (hr.mono (by decide)) rfl T.sQ T.j9 dU.b .nil (Passes.x (aQ λ_ _ _ q=>q)) (ab (pv 2) (ab (cw a6 rfl T.kr PyProof.Rows.Boot.«len» (ab (pv 4) aj)) aj))))
   (ai (oZ (pv 5) (rU (pv 4) (pv 2) set_list)))))),?_⟩
  refine⟨_,rfl,x,D.aa,_,_,.ref A.fh,rfl,J.ax,T.ae,T.aC,rp,_,rfl,x,D.aa,_,_,.ref A.hd,rfl,J.ax,T.ae,T.aB,nQ,A.hd,A.hdx,_,rfl,J.ahd,rfl,_,rfl,A.hd,A.hdx,A.hl,A.hx,s.bq,g,rfl,J.hn G,hg,?_⟩;cases e:wat s.bq g with
  | none =>
   rw[show jP s g kk h=(some .hand,s) by simp only[jP,e]]at k;exact k.bad J
  | some wd =>
   cases wd with
   | no =>
    rw[show jP s g kk h=(some .hand,s) by simp only[jP,e]]at k;exact k.bad J
   | num n =>
    rw[show jP s g kk h=(some .hand,s) by simp only[jP,e]]at k;exact k.bad J
   | th t =>
    intro H1 s1;have J1:=J.same s1;have m:=G.hand e;obtain⟨hl,rl⟩:=J1.afl _ _ m;refine⟨A.fh,_,rfl,J1.UB G m,?_⟩;refine⟨_,rfl,x,D.aa,_,_,.ref A.hd,rfl,J1.ax,T.ae,T.aB,nQ,A.hd,A.hdx,_,rfl,J1.ahd,rfl,_,rfl,A.hd,A.hdx,A.hl,A.hx,s.bq,h,rfl,J1.hn G,hh,?_⟩;cases e2:wat s.bq h with
    | none =>
     rw[show jP s g kk h=(some .hand,s) by simp only[jP,e,e2]]at k;exact Bad.same (k.bad J) s1
    | some wd =>
     intro v hv wv;have f6:=G.f6 _ _ m;have ln:((A.fx t).length:Int)=(fld s t).length:=(by rw[rl.1]);refine⟨_,rfl,_,rfl,A.fa t,_,rfl,.inl (SqL.of hl),kk,_,rfl,hk,Sm.of (by omega) (by omega),?_⟩;rw[ln];by_cases c2:0≤kk∧kk<((fld s t).length:Int)
     ·rw[if_pos c2]
      rw[show jP s g kk h=(none,{s with aR:=uJ s.aR t ((fld s t).set kk.toNat wd)}) by simp only[jP,e,e2,if_pos c2]]at k;refine⟨_,rfl,_,rfl,_,rfl,A.fa t,_,kk,kk.toNat,rfl,rfl,hl,Fm c2.1 (by omega),?_⟩;exact let w:=J1.aiI m (rl.set (i:=kk.toNat) wv);k _ _ w.1 ((Fr.same s1).trans w.2)
     ·rw[if_neg c2]
      rw[show jP s g kk h=(some .field,s) by simp only[jP,e,e2,if_neg c2]]at k;exact Bad.same (k.bad J) s1
theorem ku{b:Bool}{A B:Prop}(h:b=false)(k:B):if b=true then A else B:=by rw[h];exact k
theorem nW{b:Bool}{A B:Prop}(h:b=true)(k:A):if b=true then A else B:=by rw[h];exact k
theorem Tt(k:Nat):(List.replicate k [V.non]).flatten=List.replicate k .non:=by
 induction k with
 | zero=>rfl
 | succ k ih=>rw[ajK,akb,ih,ajK];rfl
noncomputable def keys(s:HS):List Int:=s.aR.map (·.1)
noncomputable def held(s:HS):Int:=wsum s (keys s)
structure Raw(D:Ad)(H:Hp)(x dx:Addr)(my:Bool)(hd hdx hl nt ntx nl wt wtx wb wl fh yg:Addr):Prop where
 ax:H x=some (.ins D.aa dx [("makes_young",.bl my),("in_hands",.ref hd),("weak_names",.ref nt),("last_words",.ref wt),("fields_held",.ref fh),("young_things",.ref yg),("next_thing",.int 0)])
 ahd:H hd=some (.ins D.a9 hdx [("words_held",.ref hl)])
 ahl:H hl=some (.lst (List.replicate 8 .non))
 ant:H nt=some (.ins D.aF ntx [("things_named",.ref nl)])
 anl:H nl=some (.lst (List.replicate 8 .non))
 awt:Wt D H wt wtx wb wl [] []
 afh:H fh=some (.dK [])
 ayg:H yg=some (.dK [])
 n1:hd≠nt
 n2:hl≠nl
 n3:hl≠wl
 n4:nl≠wl
 n5:wb≠fh
 n6:wb≠yg
 n7:fh≠yg
noncomputable def s0(my:Bool)(room limit:Int):HS:=⟨my,List.replicate 8 .no,List.replicate 8 none,[],[],[],[],0,room,limit,[],false⟩
theorem good0{my:Bool}{room limit:Int}:Good (s0 my room limit) :=
 ⟨rfl,rfl,List.Pairwise.nil,(λ_ _ m=>by cases m),(λ_ _ m=>by cases m),(λt m=>by have:=ajU m;cases this),(λ_ _ _ m=>by cases m),(λt m=>by have:=ajU m;cases this),by show 0≤12;decide,(λ_ _ m=>by cases m),List.nodup_nil,by show(0:Int)≤0;decide,by show(0:Int)≤10000;decide,by show((0:Nat):Int)+((0:Nat):Int)≤0;decide,(λ_ m=>by cases m),List.Pairwise.nil,(λ_ m=>by cases m),List.Pairwise.nil⟩
noncomputable def AR(D:Ad):Sp:=λvs H Q E=>∃ x dx,∃ my:Bool,vs=[.ref x,.bl my]∧H x=some (.ins D.aa dx [])∧∀ hd hdx hl nt ntx nl wt wtx wb wl fh yg H',Raw D H' x dx my hd hdx hl nt ntx nl wt wtx wb wl fh yg→But x H H'→(∀ b,b=hd∨b=hl∨b=nt∨b=nl∨b=wt∨b=wb∨b=wl∨b=fh∨b=yg→H b=none)→Q .non H'
noncomputable abbrev Dy:List Str:=["self", "makes_young"]
theorem BB:aw Dy ["self", "makes_young"] (ar mZ):=⟨rfl,rfl,rfl,by decide +kernel,rfl,by decide +kernel,by decide +kernel⟩
theorem BC(F:Fun K "__init__" "Heap.__init__" mZ D.cJ D.iN)(T:Txt K mg D)
  (jz:Ok P w K mg base 1 D.c8 D.gY ["self"] (wq D))
  (gk:Ok P w K mg base 1 D.bU D.eI ["self"] (pN D))
  (gn:Ok P w K mg base 1 D.bT D.eG ["self"] (pO D)):Ok P w K mg base 3 D.cJ D.iN ["self", "makes_young"] (AR D):=by
 refine⟨?_,F.binds (ps:=["self", "makes_young"]) λ_ _ _ _ _ _ us hl=>match us,hl with|[_,_],_=>rfl⟩
 refine F.okE BB (λvs H Q E h=>?_) (λcdv A' outer s' H vs Q E hr h=>?_)
 ·obtain⟨x,dx,my,rfl,_⟩:=h
  rfl
 ·obtain⟨x,dx,my,rfl,hx,k⟩:=h
  refine⟨_,(ak (hJ (pv 0) (pv 1) rfl)
   (ak (hJ (pv 0) (FF T.FP jz.g (hr.mono (by decide)) rfl T.Q0 jz.b .nil (aQ λ_ _ _ q=>q)) rfl)
   (ak (hJ (pv 0) (FF T.sC gk.g (hr.mono (by decide)) rfl T.Iv gk.b .nil (aQ λ_ _ _ q=>q)) rfl)
   (ak (hJ (pv 0) (FF T.sA gn.g (hr.mono (by decide)) rfl T.Iu gn.b .nil (aQ λ_ _ _ q=>q)) rfl)
   (ak (hJ (pv 0) jR rfl)
   (ak (hJ (pv 0) jR rfl)
   (ai (hJ (pv 0) au rfl)))))))),?_⟩
  have bk:∀ {H':Hp} {b:Addr} {u:HO},H' x=some u→But x H H'→H' b=none→H b=none:=λ{H' b u} hx' B h=>by
   cases q:H b with
   | none=>rfl
   | some v =>
    by_cases e:b=x
    ·rw[e,hx']at h;cases h
    ·rw[B b v e q]at h;cases h
  have mk:∀ {H1 H2:Hp} {m mdx C:Addr},H1 m=none→H1 mdx=none→But m (upd (upd H1 mdx (.own m)) m (.ins C mdx [])) H2→aE H1 H2:=λh1 h2 B b u q=>B b u (aq q h1) (by rw[af (aq q h1),af (aq q h2)];exact q);have fr:∀ {H1:Hp} {m mdx C c:Addr},H1 m=none→H1 mdx=none→upd (upd H1 mdx (.own m)) m (.ins C mdx []) c=none→H1 c=none:=λ{H1 m mdx C c} h1 h2 h=>by
   cases q:H1 c with
   | none=>rfl
   | some v=>rw[af (aq q h1),af (aq q h2),q]at h;cases h
  refine⟨_,rfl,_,rfl,x,D.aa,dx,_,rfl,hx,T.ae,T.gQ,by show 0<1000;decide,?_⟩;obtain⟨H1,e1⟩:∃ H1,upd H x (.ins D.aa dx (iK "makes_young" (.bl my) []))=H1:=⟨_,rfl⟩;have x1:H1 x=some (.ins D.aa dx [("makes_young",.bl my)]):=by rw[←e1];exact ah
  have B1:But x H H1:=by rw[←e1];exact But.self
  show JZ _ _ _ _ (upd H x (.ins D.aa dx (iK "makes_young" (.bl my) [])));rw[e1];clear e1;intro hd hdx hm1 hm2 hm3;refine⟨hd,hdx,rfl,ah,λhl G1 b1 hc hcl hci=>⟨rfl,?_⟩⟩;have S1:=mk hm1 hm2 b1;have hl1:=fr hm1 hm2 hc;refine⟨_,rfl,x,D.aa,dx,_,rfl,S1 _ _ x1,T.ae,T.aB,by show 1<1000;decide,?_⟩;obtain⟨H2,e2⟩:∃ H2,upd G1 x (.ins D.aa dx (iK "in_hands" (.ref hd) [("makes_young",.bl my)]))=H2:=⟨_,rfl⟩;have x2:H2 x=some (.ins D.aa dx [("makes_young",.bl my),("in_hands",.ref hd)]):=by rw[←e2];exact ah
  have P2:But x G1 H2:=by rw[←e2];exact But.self
  have B2:But x H H2:=(B1.trans λb u _ q=>S1 b u q).trans P2;show JZ _ _ _ _ (upd G1 x (.ins D.aa dx (iK "in_hands" (.ref hd) [("makes_young",.bl my)])));rw[e2];clear e2;have nhd:hd≠x:=ajm (aq x1 hm1);have nhl:hl≠x:=ajm (aq x1 hl1);have a2:=P2 _ _ nhd hci;have l2:=P2 _ _ nhl hcl;intro nt ntx nm1 nm2 nm3;refine⟨nt,ntx,rfl,ah,λnl G2 b2 nc ncl nci=>⟨rfl,?_⟩⟩;have S2:=mk nm1 nm2 b2;have nl2:=fr nm1 nm2 nc;refine⟨_,rfl,x,D.aa,dx,_,rfl,S2 _ _ x2,T.ae,T.dA,by show 2<1000;decide,?_⟩;obtain⟨H3,e3⟩:∃ H3,upd G2 x (.ins D.aa dx (iK "weak_names" (.ref nt) [("makes_young",.bl my),("in_hands",.ref hd)]))=H3:=⟨_,rfl⟩;have x3:H3 x=some (.ins D.aa dx [("makes_young",.bl my),("in_hands",.ref hd),("weak_names",.ref nt)]):=by rw[←e3];exact ah
  have P3:But x G2 H3:=by rw[←e3];exact But.self
  have B3:But x H H3:=(B2.trans λb u _ q=>S2 b u q).trans P3;show JZ _ _ _ _ (upd G2 x (.ins D.aa dx (iK "weak_names" (.ref nt) [("makes_young",.bl my),("in_hands",.ref hd)])));rw[e3];clear e3;have nnt:nt≠x:=ajm (aq x2 nm1);have nnl:nl≠x:=ajm (aq x2 nl2);have a3:=P3 _ _ nhd (S2 _ _ a2);have l3:=P3 _ _ nhl (S2 _ _ l2);have t3:=P3 _ _ nnt nci;have m3:=P3 _ _ nnl ncl;intro wt wtx wm1 wm2 wm3;refine⟨wt,wtx,rfl,ah,λwb wl G3 b3 wc1 wc2 W=>⟨rfl,?_⟩⟩;have S3:=mk wm1 wm2 b3;have wb3:=fr wm1 wm2 wc1;have wl3:=fr wm1 wm2 wc2;refine⟨_,rfl,x,D.aa,dx,_,rfl,S3 _ _ x3,T.ae,T.ia,by show 3<1000;decide,?_⟩;obtain⟨H4,e4⟩:∃ H4,upd G3 x (.ins D.aa dx (iK "last_words" (.ref wt) [("makes_young",.bl my),("in_hands",.ref hd),("weak_names",.ref nt)]))=H4:=⟨_,rfl⟩;have x4:H4 x=some (.ins D.aa dx [("makes_young",.bl my),("in_hands",.ref hd),("weak_names",.ref nt),("last_words",.ref wt)]):=by rw[←e4];exact ah
  have P4:But x G3 H4:=by rw[←e4];exact But.self
  have B4:But x H H4:=(B3.trans λb u _ q=>S3 b u q).trans P4;show JZ _ _ _ _ (upd G3 x (.ins D.aa dx (iK "last_words" (.ref wt) [("makes_young",.bl my),("in_hands",.ref hd),("weak_names",.ref nt)])));rw[e4];clear e4;have nwt:wt≠x:=ajm (aq x3 wm1);have nwb:wb≠x:=ajm (aq x3 wb3);have nwl:wl≠x:=ajm (aq x3 wl3);have W4:Wt D H4 wt wtx wb wl [] []:=⟨P4 _ _ nwt W.i,P4 _ _ nwb W.b,P4 _ _ nwl W.l⟩;have a4:=P4 _ _ nhd (S3 _ _ a3);have l4:=P4 _ _ nhl (S3 _ _ l3);have t4:=P4 _ _ nnt (S3 _ _ t3);have m4:=P4 _ _ nnl (S3 _ _ m3);intro fh hfh;have nfh:fh≠x:=ajm (aq x4 hfh);refine⟨_,rfl,x,D.aa,dx,_,rfl,aE.upd hfh _ _ x4,T.ae,T.aC,by show 4<1000;decide,?_⟩;obtain⟨H5,e5⟩:∃ H5,upd (upd H4 fh (.dK [])) x (.ins D.aa dx (iK "fields_held" (.ref fh) [("makes_young",.bl my),("in_hands",.ref hd),("weak_names",.ref nt),("last_words",.ref wt)]))=H5:=⟨_,rfl⟩;have x5:H5 x=some (.ins D.aa dx [("makes_young",.bl my),("in_hands",.ref hd),("weak_names",.ref nt),("last_words",.ref wt),("fields_held",.ref fh)]):=by rw[←e5];exact ah
  have P5:But x H4 H5:=by rw[←e5];exact(But.upd hfh).trans But.self
  have f5:H5 fh=some (.dK []):=by rw[←e5,af nfh];exact ah
  show JZ _ _ _ _ (upd (upd H4 fh (.dK [])) x (.ins D.aa dx (iK "fields_held" (.ref fh) [("makes_young",.bl my),("in_hands",.ref hd),("weak_names",.ref nt),("last_words",.ref wt)])));rw[e5];clear e5;intro yg hyg;have nyg:yg≠x:=ajm (aq x5 hyg);refine⟨_,rfl,x,D.aa,dx,_,rfl,aE.upd hyg _ _ x5,T.ae,T.bE,by show 5<1000;decide,?_⟩;obtain⟨H6,e6⟩:∃ H6,upd (upd H5 yg (.dK [])) x (.ins D.aa dx (iK "young_things" (.ref yg) [("makes_young",.bl my),("in_hands",.ref hd),("weak_names",.ref nt),("last_words",.ref wt),("fields_held",.ref fh)]))=H6:=⟨_,rfl⟩;have x6:H6 x=some (.ins D.aa dx [("makes_young",.bl my),("in_hands",.ref hd),("weak_names",.ref nt),("last_words",.ref wt),("fields_held",.ref fh),("young_things",.ref yg)]):=by rw[←e6];exact ah
  have P6:But x H5 H6:=by rw[←e6];exact(But.upd hyg).trans But.self
  have y6:H6 yg=some (.dK []):=by rw[←e6,af nyg];exact ah
  skip
  rw[e6];clear e6;have B5:But x H H5:=B4.trans P5;have B6:But x H H6:=B5.trans P6;have P7:∀ {o:HO},But x H6 (upd H6 x o):=But.self;have P47:∀ {o:HO} {b:Addr} {u:HO},b≠x→H4 b=some u→upd H6 x o b=some u:=λn q=>P7 _ _ n (P6 _ _ n (P5 _ _ n q));refine⟨_,rfl,x,D.aa,dx,_,rfl,x6,T.ae,T.ib,by show 6<1000;decide,k hd hdx hl nt ntx nl wt wtx wb wl fh yg _ ⟨ah,P47 nhd a4,P47 nhl l4,P47 nnt t4,P47 nnl m4,⟨P47 nwt W4.i,P47 nwb W4.b,P47 nwl W4.l⟩,P7 _ _ nfh (P6 _ _ nfh f5),P7 _ _ nyg y6,aq a2 nm1,aq l2 nl2,aq l3 wl3,aq m3 wl3,aq W4.b hfh,aq (P5 _ _ nwb W4.b) hyg,aq f5 hyg⟩ (B6.trans But.self) (λb hb=>?_)⟩;rcases hb with rfl|rfl|rfl|rfl|rfl|rfl|rfl|rfl|rfl
  ·exact bk x1 B1 hm1
  ·exact bk x1 B1 hl1
  ·exact bk x2 B2 nm1
  ·exact bk x2 B2 nl2
  ·exact bk x3 B3 wm1
  ·exact bk x3 B3 wb3
  ·exact bk x3 B3 wl3
  ·exact bk x4 B4 hfh
  ·exact bk x5 B5 hyg
noncomputable def wA(D:Ad):Sp:=λvs H Q E=>∃ x dx,∃ y l:Int,vs=[.ref x,.int y,.int l]∧H x=some (.ins D.aa dx [])∧(y=0∨(7≤y∧y≤64))∧7≤l∧l≤400∧∀ A H',IH D H' x A (s0 (decide (y>0)) y l)→But x H H'→(∀ b,cD x A (s0 (decide (y>0)) y l) b→b=x∨H b=none)→Q .non H'
noncomputable abbrev t7:List Str:=["self", "young", "limit"]
theorem tq:aw t7 ["self", "young", "limit"] (ar jg):=⟨rfl,rfl,rfl,by decide +kernel,rfl,by decide +kernel,by decide +kernel⟩
theorem tw(F:Fun K "__init__" "IdealHeap.__init__" jg D.bV D.eK)(T:Txt K mg D)
  (jA:Ok P w K mg base 3 D.cN D.gW ["young", "limit"] (pM))
  (ka:Ok P w K mg base 3 D.cJ D.iN ["self", "makes_young"] (AR D)):Ok P w K mg base 4 D.bV D.eK ["self", "young", "limit"] (wA D):=by
 refine⟨?_,F.binds (ps:=["self", "young", "limit"]) λ_ _ _ _ _ _ us hl=>match us,hl with|[_,_,_],_=>rfl⟩
 refine F.okE tq (λvs H Q E h=>?_) (λcdv A' outer s' H vs Q E hr h=>?_)
 ·obtain⟨x,dx,y,l,rfl,_⟩:=h
  rfl
 ·obtain⟨x,dx,y,l,rfl,hx,hy,l0,l1,k⟩:=h
  refine⟨_,(ak (aJ (aH jA.g (hr.mono (by decide)) rfl T.Bq T.l9 jA.b .nil (Passes.x (aQ λ_ _ _ q=>q)) (ab (pv 1) (ab (pv 2) aj))))
   (ak (aJ (Vi rfl T.Tq T.Tr ka.g (hr.mono (by decide)) ka.b (Passes.x (aQ λ_ _ _ q=>q)) (ab (pv 0) (ab (Bh MX (pv 1) au (bC _)) aj))))
   (ak (hJ (pv 0) (pv 1) rfl)
   (ak (hJ (pv 0) (pv 2) rfl)
   (ak (hJ (pv 0) jR rfl)
   (ai (hJ (pv 0) yi rfl))))))),?_⟩
  refine⟨_,rfl,_,rfl,y,l,rfl,hy,l0,l1,?_⟩;refine⟨_,rfl,_,rfl,y,0,rfl,rfl,x,dx,_,rfl,hx,λhd hdx hl nt ntx nl wt wtx wb wl fh yg H1 R B1 fr=>?_⟩;obtain⟨my,emy⟩:∃ my:Bool,decide (y>0)=my:=⟨_,rfl⟩;rw[emy]at R k;have nx:∀ b,H b=none→b≠x:=λb h e=>by rw[e,hx]at h;cases h
  refine⟨_,rfl,_,rfl,x,D.aa,dx,_,rfl,R.ax,T.ae,T.kF,by show 7<1000;decide,?_⟩;refine⟨_,rfl,_,rfl,x,D.aa,dx,_,rfl,ah,T.ae,T.pL,by show 8<1000;decide,?_⟩;intro dm hdm;have ndm:dm≠x:=λe=>by rw[e,ah]at hdm;cases hdm
  have RF:H1 dm=none:=by rw[af ndm,af ndm]at hdm;exact hdm
  refine⟨_,rfl,x,D.aa,dx,_,rfl,(by rw[af (ajm ndm)];exact ah),T.ae,T.bw,by show 9<1000;decide,?_⟩;refine⟨_,rfl,x,D.aa,dx,_,rfl,ah,T.ae,T.c7,by show 10<1000;decide,?_⟩;have aiJ:H dm=none:=by
   cases q:H dm with
   | none=>rfl
   | some u=>rw[B1 _ _ ndm q]at RF;cases RF
  have P:∀ {o1 o2 o3 o4:HO},But x H1 (upd (upd (upd (upd (upd H1 x o1) x o2) dm (.dK [])) x o3) x o4):=λ{o1 o2 o3 o4}=>(((But.self.trans But.self).trans (But.upd (by rw[af ndm,af ndm];exact RF))).trans But.self).trans But.self;have d2:∀ {o1 o2 o3 o4:HO},upd (upd (upd (upd (upd H1 x o1) x o2) dm (.dK [])) x o3) x o4 dm=some (.dK []):=λ{o1 o2 o3 o4}=>by rw[af ndm,af ndm];exact ah
  have f:=λ(b:Addr) (h:b=hd∨b=hl∨b=nt∨b=nl∨b=wt∨b=wb∨b=wl∨b=fh∨b=yg)=>nx b (fr b h);have n1:=f hd (.inl rfl);have n2:=f hl (.inr (.inl rfl));have n3:=f nt (.inr (.inr (.inl rfl)));have n4:=f nl (.inr (.inr (.inr (.inl rfl))));have n5:=f wt (.inr (.inr (.inr (.inr (.inl rfl)))));have n6:=f wb (.inr (.inr (.inr (.inr (.inr (.inl rfl))))));have n7:=f wl (.inr (.inr (.inr (.inr (.inr (.inr (.inl rfl)))))));have n8:=f fh (.inr (.inr (.inr (.inr (.inr (.inr (.inr (.inl rfl))))))));have n9:=f yg (.inr (.inr (.inr (.inr (.inr (.inr (.inr (.inr rfl))))))));refine k ⟨dx,hd,hdx,hl,List.replicate 8 .non,nt,ntx,nl,wt,wtx,wb,wl,fh,λ_=>0,λ_=>[],yg,dm⟩ _ ⟨ah,P _ _ n1 R.ahd,P _ _ n2 R.ahl,Rel.nil,P _ _ n3 R.ant,P _ _ n4 R.anl,P _ _ n5 R.awt.i,P _ _ n6 R.awt.b,P _ _ n7 R.awt.l,P _ _ n8 R.afh,(λ_ _ m=>by cases m),P _ _ n9 R.ayg,d2,R.n1,R.n2,R.n3,R.n4,(λ_ _ m=>by cases m),(λ_ _ _ _ m=>by cases m),R.n5,R.n6,aq R.awt.b RF,R.n7,aq R.afh RF,aq R.ayg RF⟩ (B1.trans P) (λb hb=>?_);cases hb with
  | x=>exact .inl rfl
  | hd=>exact .inr (fr hd (.inl rfl))
  | hl=>exact .inr (fr hl (.inr (.inl rfl)))
  | nt=>exact .inr (fr nt (.inr (.inr (.inl rfl))))
  | nl=>exact .inr (fr nl (.inr (.inr (.inr (.inl rfl)))))
  | wt=>exact .inr (fr wt (.inr (.inr (.inr (.inr (.inl rfl))))))
  | wb=>exact .inr (fr wb (.inr (.inr (.inr (.inr (.inr (.inl rfl)))))))
  | wl=>exact .inr (fr wl (.inr (.inr (.inr (.inr (.inr (.inr (.inl rfl))))))))
  | fh=>exact .inr (fr fh (.inr (.inr (.inr (.inr (.inr (.inr (.inr (.inl rfl)))))))))
  | yg=>exact .inr (fr yg (.inr (.inr (.inr (.inr (.inr (.inr (.inr (.inr rfl)))))))))
  | dm=>exact .inr aiJ
  | fl m=>cases m
theorem RG{fs:List (Key×V)}{t:Int}{v:V}(h:gR fs (Sum.inl t)=none):putK fs (Sum.inl t) v=fs++[(Sum.inl t,v)]:=u9 v h
theorem aeG{ts:List Int}{t:Int}:(gR (ts.map tkv) (Sum.inl t)).isSome=decide (t∈ts):=by
 induction ts with
 | nil=>rfl
 | cons a r ih =>
  rw[aju];by_cases e:a=t
  ·subst e
   rw[fu (p:=tkv a) (k:=Sum.inl a) rfl];simp
  ·rw[eS (p:=tkv a) (λz=>e (Sum.inl.inj z)),ih]
   have:(t∈a::r)↔t∈r:=by
    rw[ajo];exact⟨λh=>h.elim (λz=>absurd z.symm e) id,.inr⟩
   simp only[this]
theorem Good.So{s:HS}(g:Good s):∀ w,(s.nxt,w)∉s.aR:=λw m=>by have:=(g.lt _ _ m).2;omega
noncomputable def RH(D:Ad):Sp:=λvs H Q E=>∃ x A s,∃ h n:Int,vs=[.ref x,.int h,.int n]∧IH D H x A s∧Good s∧ok8 h∧0≤n∧n≤6∧∀ A' H',IH D H' x A' (ND s h n)→Fr (cD x A s) H (cD x A' (ND s h n)) H'→Q .non H'
theorem Og:∀(n:Nat) (l:List Int) (a:Int),l.Pairwise (·< ·)→(∀ t∈l,a≤t∧t<a+n)→l.length≤n
 | _,[],_,_,_=>ajM _
 | 0,b::r,a,_,h=>by have:=h b ajt;omega
 | n+1,b::r,a,p,h=>by
  have hb:=h b ajt
  have:=Og n r (a+1) (List.pairwise_cons.mp p).2 λt m=>by
   have h1:=(List.pairwise_cons.mp p).1 t m;have h2:=h t (ajv _ m);omega
  rw[ajE];omega
theorem Gu{s:HS}(g:Good s):s.yng.length≤10000:=by
 refine Og 10000 s.yng 0 g.D8 λt m=>?_;obtain⟨ws,m⟩:=g.yk t m
 have:=g.lt _ _ m
 have:=g.nx
 omega
theorem OJ{s:HS}(g:Good s):s.dQ.length≤10000:=by
 refine Og 10000 s.dQ 0 g.Fq λt m=>?_;obtain⟨ws,m⟩:=g.dk t m
 have:=g.lt _ _ m
 have:=g.nx
 omega
noncomputable abbrev BD:List Str:=["self", "h", "n", "t"]
theorem pP:aw BD ["self", "h", "n"] (ar lV):=⟨rfl,rfl,rfl,by decide +kernel,rfl,by decide +kernel,by decide +kernel⟩
theorem yX(F:Fun K "add_thing" "Heap.add_thing" lV D.cf D.g7)(T:Txt K mg D)
  (bz:Ok P w K mg base 3 D.cK D.fJ ["t"] (jq))
  (cu:Ok P w K mg base 4 D.eZ D.iB ["self", "h", "word"] (wx D)):Ok P w K mg base 5 D.cf D.g7 ["self", "h", "n"] (RH D):=by
 refine⟨?_,F.binds (ps:=["self", "h", "n"]) λ_ _ _ _ _ _ us hl=>match us,hl with|[_,_,_],_=>rfl⟩
 refine F.okE pP (λvs H Q E h=>?_) (λcdv A' outer s' H vs Q E hr h=>?_)
 ·obtain⟨x,A,s,h,n,rfl,_⟩:=h
  rfl
 ·obtain⟨x,A,s,h,n,rfl,J,G,c,n0,n6,k⟩:=h
  have hu:=jV hr;refine⟨_,(ak (aW (i:=3) pP.nd rfl (Or.inl rfl) (aI (pv 0) rfl))
   (ak (hJ (pv 0) (aO cY (pv 3) au) rfl)
   (ak (ny hu (aI (pv 0) rfl) (pv 3) (aO F9 (jY (ab dY aj)) (pv 2)) rfl)
   (ak (cV (AW (aI (pv 0) rfl))
    (ai (ny hu (aI (pv 0) rfl) (pv 3) yi rfl))
    a7)
   (ai (aJ (aK (aI (pv 0) rfl) T.aY T.nN cu.g (hr.mono (by decide)) cu.b .nil (Passes.x (aQ λ_ _ _ q=>q)) (ab (pv 1) (ab (aH bz.g (hr.mono (by decide)) rfl T.mB T.iV bz.b .nil (Passes.x (aQ λ_ _ _ q=>q)) (ab (pv 3) aj)) aj))))))))),?_⟩
  refine⟨_,rfl,x,D.aa,_,_,.int s.nxt,rfl,J.ax,T.ae,T.ib,Yn,?_⟩;refine⟨_,rfl,s.nxt,1,rfl,rfl,_,rfl,x,D.aa,A.dx,_,rfl,J.ax,T.ae,T.ib,by show 11<1000;decide,?_⟩;have w1:=J.aiH (n:=s.nxt+1);obtain⟨H1,e1⟩:∃ H1,upd H x (.ins D.aa A.dx (iK "next_thing" (.int (s.nxt+1)) (atts A s)))=H1:=⟨_,rfl⟩;rw[e1]at w1;show JZ _ _ _ _ (upd H x (.ins D.aa A.dx (iK "next_thing" (.int (s.nxt+1)) (atts A s))));rw[e1];clear e1;obtain⟨J1,F1⟩:=w1;refine⟨by show 1≤sizeLine;decide,λp hp=>⟨_,rfl,p,n,_,rfl,rfl,ah,by omega,by omega,wz (by show 1*n.toNat≤20000;omega),λq hq=>?_⟩⟩;rw[Tt];have s2:aE H1 (upd H1 p (.lst [.non])):=aE.upd hp;have J2:=J1.same s2;have w2:=J2.Yu (t:=s.nxt) (xs:=List.replicate n.toNat .non) (ws:=List.replicate n.toNat .no) hq G.So Rel.nil;obtain⟨J3,F3⟩:=w2;have J2':=J2.same (aE.upd (o:=.lst (List.replicate n.toNat .non)) hq);have vn:gR (s.aR.map (fkv A)) (Sum.inl s.nxt)=none:=by
   rw[RE];cases e:s.aR.lookup s.nxt with
   | none=>rfl
   | some w=>exact absurd (lookup_some e) (G.So w)
  have dp:=D7.k (k:=Sum.inl s.nxt) (v:=.ref q) J2'.afh (by rw[ai8];exact rY (ajy G.few (by decide)));rw[show putK ((({s with nxt:=s.nxt+1}:HS).aR).map (fkv A)) (Sum.inl s.nxt) (.ref q)=s.aR.map (fkv A)++[(Sum.inl s.nxt,.ref q)] from RG vn]at dp;refine⟨_,rfl,x,D.aa,_,_,.ref A.fh,rfl,J2'.ax,T.ae,T.aC,rp,_,rfl,A.fh,_,rfl,dp,?_⟩;have F03:=(F1.trans (Fr.same s2)).trans F3;obtain⟨A3,eA⟩:∃ A3:HA,{A with fa:=λu=>if u=s.nxt then q else A.fa u,fx:=λu=>if u=s.nxt then List.replicate n.toNat V.non else A.fx u}=A3:=⟨_,rfl⟩;obtain⟨H3,e3⟩:∃ H3,upd (upd (upd H1 p (.lst [.non])) q (.lst (List.replicate n.toNat .non))) A.fh (.dK (s.aR.map (fkv A)++[(Sum.inl s.nxt,.ref q)]))=H3:=⟨_,rfl⟩;have J3:IH D H3 x A3 {s with nxt:=s.nxt+1,aR:=s.aR++[(s.nxt,List.replicate n.toNat .no)]}:=by rw[←e3,←eA];exact J3
  have F03:Fr (cD x A s) H (cD x A3 {s with nxt:=s.nxt+1,aR:=s.aR++[(s.nxt,List.replicate n.toNat .no)]}) H3:=by rw[←e3,←eA];exact F03
  show JZ _ _ _ _ (upd (upd (upd H1 p (.lst [.non])) q (.lst (List.replicate n.toNat .non))) A.fh (.dK (s.aR.map (fkv A)++[(Sum.inl s.nxt,.ref q)])));rw[e3];clear e3 eA dp J2';have fin:∀(A4:HA) (H4:Hp) (ys:List Int),IH D H4 x A4 {s with nxt:=s.nxt+1,aR:=s.aR++[(s.nxt,List.replicate n.toNat .no)],yng:=ys}→Fr (cD x A s) H (cD x A4 {s with nxt:=s.nxt+1,aR:=s.aR++[(s.nxt,List.replicate n.toNat .no)],yng:=ys}) H4→(if s.my=true then s.yng++[s.nxt] else s.yng)=ys→∀(t:Addr) (H5:Hp),aE H4 H5→H5 t=some (.tup [.str "thing",.int s.nxt])→wx D [.ref A4.hd,.int h,.ref t] H5 (λ_ H'=>Q .non H') E:=by
   intro A4 H4 ys J4 F4 ey t H5 s5 ht;have J5:=J4.same s5;refine⟨A4.hd,A4.hdx,A4.hl,A4.hx,s.bq,.ref t,h,rfl,⟨J5.ahd,J5.ahl,J5.rhl,G.h8⟩,Sm.of (by omega) (by omega),?_⟩;rw[if_pos c];have w:=J5.Qt (J5.rhl.set (i:=h.toNat) (show WV H5 (.ref t) (.th s.nxt) from⟨t,rfl,ht⟩));have e:ND s h n={s with nxt:=s.nxt+1,aR:=s.aR++[(s.nxt,List.replicate n.toNat .no)],yng:=ys,bq:=s.bq.set h.toNat (.th s.nxt)}:=(by unfold ND;rw[ey]);rw[e]at k;exact k _ _ w.1 ((F4.trans (Fr.same s5)).trans w.2)
  refine⟨_,rfl,x,D.aa,_,_,_,rfl,J3.ax,T.ae,T.gQ,Uz,_,rfl,?_⟩;by_cases my:s.my=true
  ·refine nW my ⟨_,rfl,x,D.aa,_,_,_,rfl,J3.ax,T.ae,T.bE,Ny,_,rfl,A3.yg,_,rfl,D7.k (k:=Sum.inl s.nxt) J3.ayg (by rw[ai8];exact rY (ajy (show s.yng.length≤10000 from Gu G) (by decide))),?_⟩
   have vy:gR (s.yng.map tkv) (Sum.inl s.nxt)=none:=by
    have:=aeG (ts:=s.yng) (t:=s.nxt)
    rw[decide_eq_false (λm=>by obtain⟨ws,m⟩:=G.yk _ m;exact G.So ws m)]at this;cases q:gR (s.yng.map tkv) (Sum.inl s.nxt) with
    | none=>rfl
    | some v=>rw[q]at this;cases this
   have w4:=J3.aiG (ts:=s.yng++[s.nxt]);rw[ajq]at w4;rw[show putK ((({s with nxt:=s.nxt+1,aR:=s.aR++[(s.nxt,List.replicate n.toNat .no)]}:HS).yng).map tkv) (Sum.inl s.nxt) (.bl true)=s.yng.map tkv++[s.nxt].map tkv from RG vy];obtain⟨J4,F4⟩:=w4;refine⟨_,rfl,x,D.aa,_,_,_,rfl,J4.ax,T.ae,T.aB,nQ,A3.hd,A3.hdx,_,rfl,J4.ahd,rfl,_,rfl,_,rfl,s.nxt,rfl,G.n0,λt H5 s5 ht=>?_⟩;exact fin _ _ _ J4 (F03.trans F4) (by rw[if_pos my]) t H5 s5 ht
  ·refine ku (ajL.mpr my) ?_
   refine⟨_,rfl,x,D.aa,_,_,_,rfl,J3.ax,T.ae,T.aB,nQ,A3.hd,A3.hdx,_,rfl,J3.ahd,rfl,_,rfl,_,rfl,s.nxt,rfl,G.n0,λt H5 s5 ht=>?_⟩;exact fin _ _ _ J3 F03 (by rw[if_neg my]) t H5 s5 ht
noncomputable def Mq(D:Ad):Sp:=λvs H Q E=>∃ x A s,∃ h w:Int,vs=[.ref x,.int h,.int w]∧IH D H x A s∧Good s∧Sm h∧Sm w∧(if ok8 h then(if ok8 w then ∀ A' H',IH D H' x A' (rG s h (nmW (s.names.getD w.toNat none)))→Fr (cD x A s) H (cD x A' (rG s h (nmW (s.names.getD w.toNat none)))) H'→Q (nmV (s.names.getD w.toNat none)) H' else Bad D.fD H E) else Bad D.bX H E)
noncomputable abbrev yY:List Str:=["self", "h", "w", "t"]
theorem oj:aw yY ["self", "h", "w"] (ar kN):=⟨rfl,rfl,rfl,by decide +kernel,rfl,by decide +kernel,by decide +kernel⟩
theorem wV(F:Fun K "read_thing" "Heap.read_thing" kN D.bP D.gz)(T:Txt K mg D)
  (aD:Ok P w K mg base 3 D.bp D.cG ["h"] (dS D))
  (iZ:Ok P w K mg base 4 D.cR D.gy ["self", "w"] (Mo D))
  (cu:Ok P w K mg base 4 D.eZ D.iB ["self", "h", "word"] (wx D))
  (bz:Ok P w K mg base 3 D.cK D.fJ ["t"] (jq)):Ok P w K mg base 5 D.bP D.gz ["self", "h", "w"] (Mq D):=by
 refine⟨?_,F.binds (ps:=["self", "h", "w"]) λ_ _ _ _ _ _ us hl=>match us,hl with|[_,_,_],_=>rfl⟩
 refine F.okE oj (λvs H Q E h=>?_) (λcdv A' outer s' H vs Q E hr h=>?_)
 ·obtain⟨x,A,s,h,w,rfl,_⟩:=h
  rfl
 ·obtain⟨x,A,s,h,w,rfl,J,G,hh,hw,k⟩:=h
  refine⟨_,(ak (aJ (aH aD.g (hr.mono (by decide)) rfl T.fZ T.dO aD.b .nil (Passes.x (aQ λ_ _ _ q=>q)) (ab (pv 1) aj)))
   (ak (aW (i:=3) oj.nd rfl (Or.inl rfl) (aK (aI (pv 0) rfl) T.dH T.wI iZ.g (hr.mono (by decide)) iZ.b .nil (Passes.x (aQ λ_ _ _ q=>q)) (ab (pv 2) aj)))
   (ak (aJ (aK (aI (pv 0) rfl) T.aY T.nN cu.g (hr.mono (by decide)) cu.b .nil (Passes.x (aQ λ_ _ _ q=>q)) (ab (pv 1) (ab (pJ (aV qx (pv 3) dY (bC _)) dY (aH bz.g (hr.mono (by decide)) rfl T.mB T.iV bz.b .nil (Passes.x (aQ λ_ _ _ q=>q)) (ab (pv 3) aj))) aj))))
   (ai (aP (pv 3)))))),?_⟩
  refine⟨_,rfl,h,rfl,hh,?_⟩;by_cases c:ok8 h
  ·rw[if_pos c]at k ⊢
   refine⟨_,rfl,x,D.aa,_,_,.ref A.nt,rfl,J.ax,T.ae,T.dA,Ql,A.nt,A.ntx,_,rfl,J.ant,rfl,_,rfl,A.nt,A.ntx,A.nl,_,w,rfl,J.ntb G,hw,?_⟩;by_cases c2:ok8 w
   ·rw[if_pos c2]at k ⊢
    intro v hv;have hi:w.toNat<s.names.length:=(by rw[G.n8];omega);rw[ajh,ai7 hi]at hv;obtain rfl:nmV s.names[w.toNat]=v:=ajx hv;have gd:s.names.getD w.toNat none=s.names[w.toNat]:=(by simp[List.getD,hi]);rw[gd]at k;have mm:s.names[w.toNat]∈s.names:=ajX hi;obtain⟨z,ez⟩:∃ z,s.names[w.toNat]=z:=⟨_,rfl⟩;rw[ez]at k mm ⊢;refine⟨_,rfl,x,D.aa,_,_,.ref A.hd,rfl,J.ax,T.ae,T.aB,nQ,A.hd,A.hdx,_,rfl,J.ahd,rfl,_,rfl,?_⟩;cases z with
    | none =>
     refine⟨_,rfl,rfl,_,rfl,eE (λ_=>?_) (λh=>absurd (by simp[nmV]) h)⟩;refine⟨A.hd,A.hdx,A.hl,A.hx,s.bq,.non,h,rfl,J.hn G,hh,?_⟩;rw[if_pos c];exact⟨_,rfl,let w:=J.Qt (J.rhl.set (i:=h.toNat) (show WV H .non .no from rfl));k _ _ w.1 w.2⟩
    | some t =>
     obtain⟨ws,m⟩:=G.nn t mm;refine⟨_,rfl,rfl,_,rfl,eE (λh=>by simp[nmV]at h) (λ_=>?_)⟩;refine⟨_,rfl,t,rfl,(G.lt _ _ m).1,λp H1 s1 hp=>?_⟩;have J1:=J.same s1;refine⟨A.hd,A.hdx,A.hl,A.hx,s.bq,.ref p,h,rfl,J1.hn G,hh,?_⟩;rw[if_pos c];exact⟨_,rfl,let w:=J1.Qt (J1.rhl.set (i:=h.toNat) (show WV H1 (.ref p) (.th t) from⟨p,rfl,hp⟩));k _ _ w.1 ((Fr.same s1).trans w.2)⟩
   ·rw[if_neg c2]at k ⊢
    exact k
  ·rw[if_neg c]at k ⊢
   exact k
noncomputable def FQ(D:Ad):Sp:=λvs H Q E=>∃ x A s d kvs ts,vs=[.ref x,.ref d]∧IH D H x A s∧Good s∧H d=some (.dK kvs)∧kvs.map (·.1)=ts.map Sum.inl∧(∀ t∈ts,∃ ws,(t,ws)∈s.aR)∧ts.length≤10000∧∀ H',aE H H'→Q (.int (wsum s ts)) H'
noncomputable abbrev om:List Str:=["self", "things"]
theorem vh:aw om ["self", "things"] (ar ip):=⟨rfl,rfl,rfl,by decide +kernel,rfl,by decide +kernel,by decide +kernel⟩
theorem vi(F:Fun K "words_among" "Heap.words_among" ip D.bh D.ed)(T:Txt K mg D)
  (fE:Ok P w K mg base 3 D.gc D.kq ["fields"] (qi D)):Ok P w K mg base 4 D.bh D.ed ["self", "things"] (FQ D):=by
 refine⟨?_,F.binds (ps:=["self", "things"]) λ_ _ _ _ _ _ us hl=>match us,hl with|[_,_],_=>rfl⟩
 refine F.okE vh (λvs H Q E h=>?_) (λcdv A' outer s' H vs Q E hr h=>?_)
 ·obtain⟨x,A,s,d,kvs,ts,rfl,_⟩:=h
  rfl
 ·obtain⟨x,A,s,d,kvs,ts,rfl,J,G,hd,hk,ht,hz,k⟩:=h
  have hu:=jV hr;refine⟨_,(ai (aP (Rz (cw (Pw rfl) rfl T.Sk PyProof.Rows.Boot.«sum» (ab (rb (cl:=[("self",s'.heap.objs.size+1)]) (x := "t") (idx:=[0]) (NC:=["t", "self"]) ?co1 rfl (wj (DZ (pv 1))) (λC fp s₀ H₀=>(aH fE.g (hr.mono (by decide)) rfl T.yu T.pA fE.b .nil Ff (ab (cw (Pz rfl) rfl T.kr PyProof.Rows.Boot.«len» (ab (gS hu (Tj rfl (pv 1) rfl) (pv 0) (λ_ _=>rfl)) aj)) aj)))) aj))))),?_⟩
  case co1 =>
   exact kD (sc:=ar ip) (N:=om) (ns:=["self"]) rfl rfl rfl (by decide +kernel) rfl rfl (by
    intro q hq;rw[ai9.mp hq];rfl)
  have lk:kvs.length=ts.length:=by have:=congrArg List.length hk;simpa using this
  refine⟨_,rfl,d,kvs,hd,λo=>?_⟩;refine⟨d,o,kvs,rfl,ah,λL hL=>?_⟩;obtain⟨Hf,ef⟩:∃ Hf,upd H d (.frz o (.dK kvs))=Hf:=⟨_,rfl⟩;rw[ef]at hL ⊢;have fd:Hf d=some (.frz o (.dK kvs)):=by rw[←ef];exact ah
  have fo:∀ b u,b≠d→H b=some u→Hf b=some u:=λb u n q=>by rw[←ef,af n];exact q
  have xd:x≠d:=ay J.ax hd (by intro z;cases z);have dg:∀ {Hc:Hp},aE Hf Hc→∀ {t:Int} {ws:List Wd},(t,ws)∈s.aR→rB Hc A.fh (.int t) (some (.ref (A.fa t))):=λ{Hc} sc {t ws} m=>by
   have e:gR (s.aR.map (fkv A)) (Sum.inl t)=some (.ref (A.fa t)):=(by rw[RE,G.get m];rfl);by_cases c:A.fh=d
   ·have ek:kvs=s.aR.map (fkv A):=by
     have:=J.afh
     rw[c,hd]at this;injection this with this;injection this
    exact .inl ⟨kvs,Sum.inl t,.inr ⟨o,by rw[c];exact sc _ _ fd⟩,rfl,by rw[ek,e]⟩
   ·exact .inl ⟨_,Sum.inl t,.inl (sc _ _ (fo _ _ c J.afh)),rfl,e.symm⟩
  refine Px (d:=d) (o:=o) (kvs:=kvs) (λi ys Hc=>ys=((ts.take i).map λt=>V.int (((fld s t).length:Int)+1))∧aE Hf Hc∧Hc L=some (.lst ys)) ⟨rfl,aE.upd hL,ah⟩ (λi ys Hc hi ⟨e,_,z⟩=>⟨z,by rw[e,ai8,ajp];omega⟩) (λi ys Hc _ ⟨_,sc,_⟩=>sc _ _ fd) (wz (by omega)) (λi p ys Hc hi ⟨e,sc,z⟩=>?_) (λys Hc ⟨e,sc,z⟩=>?_)
  ·have hik:i<kvs.length:=(ai6.mp hi).1
   have hit:i<ts.length:=(by omega);have ep:p.1=Sum.inl ts[i]:=by
    have h1:=congrArg (λl=>l[i]?) hk;simp only[ajh,hi,ai7 hit,aj4,Option.some.injEq]at h1;exact h1
   have hkv:kV p.1=.int ts[i]:=(by rw[ep];rfl);obtain⟨t,et⟩:∃ t,ts[i]=t:=⟨_,rfl⟩;obtain⟨ws,m⟩:=ht t (by rw[←et];exact ajX hit);have fm:=G.fld m;obtain⟨hl,rl⟩:=J.afl _ _ m;have f6:=G.f6 _ _ m;have ln:=rl.1;have nld:A.fa t≠d:=ay hl hd (by intro z;cases z);have hlc:=sc _ _ (fo _ _ nld hl);refine⟨_,rfl,x,D.aa,_,_,.ref A.fh,rfl,sc _ _ (fo _ _ xd J.ax),T.ae,T.aC,rp,_,rfl,A.fh,.ref (A.fa t),rfl,(by rw[hkv,et];exact dg sc m),A.fa t,_,rfl,.inl (SqL.of hlc),((A.fx t).length:Int),rfl,Sm.of (by omega) (by omega),?_⟩;rw[if_pos ⟨by omega,by omega⟩];refine⟨z,?_,λb u q=>by rw[af (aq q hL)];exact sc b u q,ah⟩;rw[e,ajA hit,ajq,et];simp only[aju,akF];rw[fm,ln]
  ·rw[lk,ajj (ajb _)]at e
   refine⟨L,ts.map λt=>((fld s t).length:Int)+1,rfl,SqL.of (by rw[z,e,ajO];rfl),d,o,kvs,sc _ _ fd,(λo' u' z=>by have z:H d=some (.frz o' u'):=z;rw[hd]at z;cases z),?_⟩;refine k _ λb u q=>?_;by_cases c:b=d
   ·subst c
    rw[hd]at q;cases q;exact ah
   ·rw[af c]
    exact sc _ _ (fo _ _ c q)
noncomputable def OK(D:Ad):Sp:=λvs H Q E=>∃ x A s,vs=[.ref x]∧IH D H x A s∧Good s∧∀ H',aE H H'→Q (.int (held s)) H'
noncomputable abbrev BE:List Str:=["self"]
theorem yZ:aw BE ["self"] (ar lZ):=⟨rfl,rfl,rfl,by decide +kernel,rfl,by decide +kernel,by decide +kernel⟩
theorem y8(F:Fun K "held" "IdealHeap.held" lZ D.dr D.hG)(T:Txt K mg D)
  (cE:Ok P w K mg base 4 D.bh D.ed ["self", "things"] (FQ D)):Ok P w K mg base 5 D.dr D.hG ["self"] (OK D):=by
 refine⟨?_,F.binds (ps:=["self"]) λ_ _ _ _ _ _ us hl=>match us,hl with|[_],_=>rfl⟩
 refine F.okE yZ (λvs H Q E h=>?_) (λcdv A' outer s' H vs Q E hr h=>?_)
 ·obtain⟨x,A,s,rfl,_⟩:=h
  rfl
 ·obtain⟨x,A,s,rfl,J,G,k⟩:=h
  refine⟨_,(ai (aP (aK (pv 0) T.ae T.jW cE.g (hr.mono (by decide)) cE.b .nil (Passes.x (aQ λ_ _ _ q=>q)) (ab (aI (pv 0) rfl) aj)))),?_⟩;exact⟨_,rfl,x,_,_,rfl,J.ax,(by kernel_rfl),_,rfl,x,D.aa,_,_,.ref A.fh,rfl,J.ax,T.ae,T.aC,rp,x,A,s,A.fh,_,keys s,rfl,J,G,J.afh,by rw[ajO];unfold keys;rw[ajO];rfl,(λt m=>by obtain⟨p,hp,rfl⟩:=ajz.mp m;exact⟨p.2,hp⟩),by unfold keys;rw[ai8];exact G.few,k⟩
noncomputable def Q3(D:Ad):Sp:=λvs H Q E=>∃ x A s,∃ h:Int,vs=[.ref x,.int h]∧IH D H x A s∧Good s∧Sm h∧(match wat s.bq h with|some wd=>∀ H',aE H H'→Q (.str wd.kind) H'|none=>Bad D.bX H E)
noncomputable abbrev BF:List Str:=["self", "h"]
theorem y9:aw BF ["self", "h"] (ar lY):=⟨rfl,rfl,rfl,by decide +kernel,rfl,by decide +kernel,by decide +kernel⟩
theorem za(F:Fun K "kind" "IdealHeap.kind" lY D.eC D.ju)(T:Txt K mg D)
  (c6:Ok P w K mg base 5 D.eT D.iH ["self", "h"] (A9 D)):Ok P w K mg base 6 D.eC D.ju ["self", "h"] (Q3 D):=by
 refine⟨?_,F.binds (ps:=["self", "h"]) λ_ _ _ _ _ _ us hl=>match us,hl with|[_,_],_=>rfl⟩
 refine F.okE y9 (λvs H Q E h=>?_) (λcdv A' outer s' H vs Q E hr h=>?_)
 ·obtain⟨x,A,s,h,rfl,_⟩:=h
  rfl
 ·obtain⟨x,A,s,h,rfl,J,G,hh,k⟩:=h
  have hu:=jV hr;refine⟨_,(ai (aP (aK (aI (pv 0) rfl) T.aY T.qJ c6.g (hr.mono (by decide)) c6.b .nil (Passes.x (aQ λ_ _ _ q=>q)) (ab (pv 1) aj)))),?_⟩;exact⟨_,rfl,x,D.aa,_,_,.ref A.hd,rfl,J.ax,T.ae,T.aB,nQ,A.hd,A.hdx,_,rfl,J.ahd,rfl,_,rfl,A.hd,A.hdx,A.hl,A.hx,s.bq,h,rfl,J.hn G,hh,k⟩
noncomputable def PM(D:Ad):Sp:=λvs H Q E=>∃ x A s,∃ h:Int,vs=[.ref x,.int h]∧IH D H x A s∧Good s∧Sm h∧(match wat s.bq h with|some (.num x)=>∀ H',aE H H'→Q (.int x) H'|_=>Bad D.bX H E)
noncomputable abbrev ze:List Str:=["self", "h"]
theorem wW:aw ze ["self", "h"] (ar kO):=⟨rfl,rfl,rfl,by decide +kernel,rfl,by decide +kernel,by decide +kernel⟩
theorem wX(F:Fun K "value" "IdealHeap.value" kO D.dC D.iY)(T:Txt K mg D)
  (mF:Ok P w K mg base 6 D.fL D.jZ ["self", "h"] (Ml D)):Ok P w K mg base 7 D.dC D.iY ["self", "h"] (PM D):=by
 refine⟨?_,F.binds (ps:=["self", "h"]) λ_ _ _ _ _ _ us hl=>match us,hl with|[_,_],_=>rfl⟩
 refine F.okE wW (λvs H Q E h=>?_) (λcdv A' outer s' H vs Q E hr h=>?_)
 ·obtain⟨x,A,s,h,rfl,_⟩:=h
  rfl
 ·obtain⟨x,A,s,h,rfl,J,G,hh,k⟩:=h
  have hu:=jV hr;refine⟨_,(ai (aP (aK (aI (pv 0) rfl) T.aY T.Ea mF.g (hr.mono (by decide)) mF.b .nil (Passes.x (aQ λ_ _ _ q=>q)) (ab (pv 1) aj)))),?_⟩;exact⟨_,rfl,x,D.aa,_,_,.ref A.hd,rfl,J.ax,T.ae,T.aB,nQ,A.hd,A.hdx,_,rfl,J.ahd,rfl,_,rfl,A.hd,A.hdx,A.hl,A.hx,s.bq,h,rfl,J.hn G,hh,k⟩
noncomputable def NG(D:Ad):Sp:=λvs H Q E=>∃ x A s,∃ h:Int,vs=[.ref x,.int h]∧IH D H x A s∧Good s∧Sm h∧(match wat s.bq h with|some (.th t)=>∀ H',aE H H'→Q (.int (fld s t).length) H'|_=>Bad D.bX H E)
noncomputable abbrev wY:List Str:=["self", "h"]
theorem vj:aw wY ["self", "h"] (ar kf):=⟨rfl,rfl,rfl,by decide +kernel,rfl,by decide +kernel,by decide +kernel⟩
theorem vk(F:Fun K "fields" "IdealHeap.fields" kf D.c5 D.iq)(T:Txt K mg D)
  (aG:Ok P w K mg base 6 D.ba D.cn ["self", "h"] (jO D)):Ok P w K mg base 7 D.c5 D.iq ["self", "h"] (NG D):=by
 refine⟨?_,F.binds (ps:=["self", "h"]) λ_ _ _ _ _ _ us hl=>match us,hl with|[_,_],_=>rfl⟩
 refine F.okE vj (λvs H Q E h=>?_) (λcdv A' outer s' H vs Q E hr h=>?_)
 ·obtain⟨x,A,s,h,rfl,_⟩:=h
  rfl
 ·obtain⟨x,A,s,h,rfl,J,G,hh,k⟩:=h
  have hu:=jV hr;refine⟨_,(ai (aP (cw a6 rfl T.kr PyProof.Rows.Boot.«len» (ab (gS hu (aI (pv 0) rfl) (aK (aI (pv 0) rfl) T.aY T.fX aG.g (hr.mono (by decide)) aG.b .nil (Passes.x (aQ λ_ _ _ q=>q)) (ab (pv 1) aj)) (λ_ _=>rfl)) aj)))),?_⟩;refine⟨_,rfl,x,D.aa,_,_,.ref A.fh,rfl,J.ax,T.ae,T.aC,rp,_,rfl,x,D.aa,_,_,.ref A.hd,rfl,J.ax,T.ae,T.aB,nQ,A.hd,A.hdx,_,rfl,J.ahd,rfl,_,rfl,A.hd,A.hdx,A.hl,A.hx,s.bq,h,rfl,J.hn G,hh,?_⟩;cases e:wat s.bq h with
  | none=>rw[e]at k;exact k
  | some wd =>
   rw[e]at k;cases wd with
   | no=>exact k
   | num n=>exact k
   | th t =>
    intro H1 s1;have J1:=J.same s1;have m:=G.hand e;obtain⟨hl,rl⟩:=J1.afl _ _ m;refine⟨A.fh,_,rfl,J1.UB G m,A.fa t,_,rfl,.inl (SqL.of hl),?_⟩;rw[rl.1];exact k H1 s1
theorem CL{F F':Addr→Prop}{H:Hp}{p b:Addr}{u o o':HO}(hp:H p=none)(f:F b)(hb:H b=some u)(n:∀ xs,u≠.tup xs)(g:∀ c,F' c→F c∨c=p):Fr F H F' (upd (upd H p o) b o') where
 ext:=λc v nf q=>by rw[af λe=>nf (by rw[e];exact f),af (aq q hp)];exact q
 grow:=λc f'=>(g c f').imp id λe=>by rw[e];exact hp
 all:=λc v q=>by
  by_cases e:c=b
  ·exact⟨o',by rw[e];exact ah⟩
  ·exact⟨v,by rw[af e,af (aq q hp)];exact q⟩
 tup:=(cv.of (aE.upd hp)).trans (cv.set (aE.upd hp _ _ hb) n)
section
variable{D:Ad}{H H':Hp}{x:Addr}{A A':HA}{s s':HS}
theorem IH.aiK(J:IH D H x A s){p:Addr}(hp:H p=none):IH D (upd (upd H p (.dK [])) x (.ins D.aa A.dx (iK "young_things" (.ref p) (atts A s)))) x {A with yg:=p} {s with yng:=[]}∧Fr (cD x A s) H (cD x {A with yg:=p} {s with yng:=[]}) (upd (upd H p (.dK [])) x (.ins D.aa A.dx (iK "young_things" (.ref p) (atts A s)))):=by
 have s1:aE H (upd H p (.dK [])):=aE.upd hp;have nf:¬cD x A s p:=J.fresh hp;have pp:upd H p (.dK []) p=some (.dK []):=ah;refine⟨?_,CL hp (.x) J.ax (λ_ z=>nomatch z) (λc f=>?_)⟩
 ·have J:=J.same s1
  have tk:cv (upd H p (.dK [])) (upd (upd H p (.dK [])) x (.ins D.aa A.dx (iK "young_things" (.ref p) (atts A s)))):=cv.set J.ax (λ_ z=>nomatch z);exact⟨(by rw[ah,Ys];rfl),(by rw[af (ay J.ahd J.ax (mE (show(1:Nat)≠11 by decide)))];exact J.ahd),(by rw[af (ay J.ahl J.ax (by intro z;cases z))];exact J.ahl),J.rhl.keep tk,(by rw[af (ay J.ant J.ax (mE (show(1:Nat)≠11 by decide)))];exact J.ant),(by rw[af (ay J.anl J.ax (by intro z;cases z))];exact J.anl),(by rw[af (ay J.awt J.ax (mE (show(2:Nat)≠11 by decide)))];exact J.awt),(by rw[af (ay J.awb J.ax (by intro z;cases z))];exact J.awb),(by rw[af (ay J.awl J.ax (by intro z;cases z))];exact J.awl),(by rw[af (ay J.afh J.ax (by intro z;cases z))];exact J.afh),(λt ws m=>⟨by rw[af (ay (J.afl _ _ m).1 J.ax (by intro z;cases z))];exact(J.afl _ _ m).1,(J.afl _ _ m).2.keep tk⟩),(by show upd _ _ _ p=_;rw[af λe=>nf (by rw[e];exact .x)];exact pp),(by rw[af (ay J.adm J.ax (by intro z;cases z))];exact J.adm),J.nhn,J.l1,J.l2,J.l3,J.l4,J.l5,J.d1,(λ(e:A.wb=p)=>nf (by rw[←e];exact .wb)),J.d3,(λ(e:A.fh=p)=>nf (by rw[←e];exact .fh)),J.d5,(λ(e:p=A.dm)=>nf (by rw[e];exact .dm))⟩
 ·cases f with
  | x=>exact .inl .x
  | hd=>exact .inl .hd
  | hl=>exact .inl .hl
  | nt=>exact .inl .nt
  | nl=>exact .inl .nl
  | wt=>exact .inl .wt
  | wb=>exact .inl .wb
  | wl=>exact .inl .wl
  | fh=>exact .inl .fh
  | yg=>exact .inr rfl
  | dm=>exact .inl .dm
  | fl m=>exact .inl (.fl m)
theorem IH.aiL(J:IH D H x A s){p:Addr}(hp:H p=none):IH D (upd (upd H p (.dK [])) x (.ins D.aa A.dx (iK "doomed_things" (.ref p) (atts A s)))) x {A with dm:=p} {s with dQ:=[]}∧Fr (cD x A s) H (cD x {A with dm:=p} {s with dQ:=[]}) (upd (upd H p (.dK [])) x (.ins D.aa A.dx (iK "doomed_things" (.ref p) (atts A s)))):=by
 have s1:aE H (upd H p (.dK [])):=aE.upd hp;have nf:¬cD x A s p:=J.fresh hp;have pp:upd H p (.dK []) p=some (.dK []):=ah;refine⟨?_,CL hp (.x) J.ax (λ_ z=>nomatch z) (λc f=>?_)⟩
 ·have J:=J.same s1
  have tk:cv (upd H p (.dK [])) (upd (upd H p (.dK [])) x (.ins D.aa A.dx (iK "doomed_things" (.ref p) (atts A s)))):=cv.set J.ax (λ_ z=>nomatch z);exact⟨(by rw[ah,Yt];rfl),(by rw[af (ay J.ahd J.ax (mE (show(1:Nat)≠11 by decide)))];exact J.ahd),(by rw[af (ay J.ahl J.ax (by intro z;cases z))];exact J.ahl),J.rhl.keep tk,(by rw[af (ay J.ant J.ax (mE (show(1:Nat)≠11 by decide)))];exact J.ant),(by rw[af (ay J.anl J.ax (by intro z;cases z))];exact J.anl),(by rw[af (ay J.awt J.ax (mE (show(2:Nat)≠11 by decide)))];exact J.awt),(by rw[af (ay J.awb J.ax (by intro z;cases z))];exact J.awb),(by rw[af (ay J.awl J.ax (by intro z;cases z))];exact J.awl),(by rw[af (ay J.afh J.ax (by intro z;cases z))];exact J.afh),(λt ws m=>⟨by rw[af (ay (J.afl _ _ m).1 J.ax (by intro z;cases z))];exact(J.afl _ _ m).1,(J.afl _ _ m).2.keep tk⟩),(by rw[af (ay J.ayg J.ax (by intro z;cases z))];exact J.ayg),(by show upd _ _ _ p=_;rw[af λe=>nf (by rw[e];exact .x)];exact pp),J.nhn,J.l1,J.l2,J.l3,J.l4,J.l5,J.d1,J.d2,(λ(e:A.wb=p)=>nf (by rw[←e];exact .wb)),J.d4,(λ(e:A.fh=p)=>nf (by rw[←e];exact .fh)),(λ(e:A.yg=p)=>nf (by rw[←e];exact .yg))⟩
 ·cases f with
  | x=>exact .inl .x
  | hd=>exact .inl .hd
  | hl=>exact .inl .hl
  | nt=>exact .inl .nt
  | nl=>exact .inl .nl
  | wt=>exact .inl .wt
  | wb=>exact .inl .wb
  | wl=>exact .inl .wl
  | fh=>exact .inl .fh
  | yg=>exact .inl .yg
  | dm=>exact .inr rfl
  | fl m=>exact .inl (.fl m)
theorem IH.aiM(J:IH D H x A s){ns:List (Option Int)}{p:Addr}(hp:H p=none):IH D (upd (upd H p (.lst (ns.map nmV))) A.nt (.ins D.aF A.ntx [("things_named",.ref p)])) x {A with nl:=p} {s with names:=ns}∧Fr (cD x A s) H (cD x {A with nl:=p} {s with names:=ns}) (upd (upd H p (.lst (ns.map nmV))) A.nt (.ins D.aF A.ntx [("things_named",.ref p)])):=by
 have s1:aE H (upd H p (.lst (ns.map nmV))):=aE.upd hp;have nf:¬cD x A s p:=J.fresh hp;have pp:upd H p (.lst (ns.map nmV)) p=some (.lst (ns.map nmV)):=ah;refine⟨?_,CL hp (.nt) J.ant (λ_ z=>nomatch z) (λc f=>?_)⟩
 ·have J:=J.same s1
  have tk:cv (upd H p (.lst (ns.map nmV))) (upd (upd H p (.lst (ns.map nmV))) A.nt (.ins D.aF A.ntx [("things_named",.ref p)])):=cv.set J.ant (λ_ z=>nomatch z);exact⟨(by rw[af (ay J.ax J.ant (mE (show(11:Nat)≠1 by decide)))];exact J.ax),(by rw[af J.nhn];exact J.ahd),(by rw[af (ay J.ahl J.ant (by intro z;cases z))];exact J.ahl),J.rhl.keep tk,ah,(by show upd _ _ _ p=_;rw[af λe=>nf (by rw[e];exact .nt)];exact pp),(by rw[af (ay J.awt J.ant (mE (show(2:Nat)≠1 by decide)))];exact J.awt),(by rw[af (ay J.awb J.ant (by intro z;cases z))];exact J.awb),(by rw[af (ay J.awl J.ant (by intro z;cases z))];exact J.awl),(by rw[af (ay J.afh J.ant (by intro z;cases z))];exact J.afh),(λt ws m=>⟨by rw[af (ay (J.afl _ _ m).1 J.ant (by intro z;cases z))];exact(J.afl _ _ m).1,(J.afl _ _ m).2.keep tk⟩),(by rw[af (ay J.ayg J.ant (by intro z;cases z))];exact J.ayg),(by rw[af (ay J.adm J.ant (by intro z;cases z))];exact J.adm),J.nhn,(λ(e:A.hl=p)=>nf (by rw[←e];exact .hl)),J.l2,(λ(e:p=A.wl)=>nf (by rw[e];exact .wl)),(λt ws m=>⟨(J.l4 _ _ m).1,(λ(e:A.fa t=p)=>nf (by rw[←e];exact .fl m)),(J.l4 _ _ m).2.2⟩),J.l5,J.d1,J.d2,J.d3,J.d4,J.d5,J.d6⟩
 ·cases f with
  | x=>exact .inl .x
  | hd=>exact .inl .hd
  | hl=>exact .inl .hl
  | nt=>exact .inl .nt
  | nl=>exact .inr rfl
  | wt=>exact .inl .wt
  | wb=>exact .inl .wb
  | wl=>exact .inl .wl
  | fh=>exact .inl .fh
  | yg=>exact .inl .yg
  | dm=>exact .inl .dm
  | fl m=>exact .inl (.fl m)
noncomputable def yw(fs:List (Int×List Wd))(t:Int):List (Int×List Wd):=fs.filter λp=>decide (p.1≠t)
theorem rH{fs:List (Int×List Wd)}{t t':Int}{ws:List Wd}:(t',ws)∈yw fs t↔(t',ws)∈fs∧t'≠t:=by unfold yw;rw[ajP];simp
theorem Tu{fs:List (Int×List Wd)}{A:HA}{t:Int}:tX (fs.map (fkv A)) (Sum.inl t)=(yw fs t).map (fkv A):=by
 unfold tX yw;rw[akV];congr 1
 refine aj3 λp _=>?_;show decide (Sum.inl p.1≠(Sum.inl t:Key))=decide (p.1≠t);simp
theorem IH.Yv(J:IH D H x A s){t:Int}:IH D (upd H A.fh (.dK ((yw s.aR t).map (fkv A)))) x A {s with aR:=yw s.aR t}∧Fr (cD x A s) H (cD x A {s with aR:=yw s.aR t}) (upd H A.fh (.dK ((yw s.aR t).map (fkv A)))):=by
 have tk:cv H (upd H A.fh (.dK ((yw s.aR t).map (fkv A)))):=cv.set J.afh (λ_ z=>nomatch z);refine⟨⟨(by rw[af (ay J.ax J.afh (by intro z;cases z))];exact J.ax),(by rw[af (ay J.ahd J.afh (by intro z;cases z))];exact J.ahd),(by rw[af (ay J.ahl J.afh (by intro z;cases z))];exact J.ahl),J.rhl.keep tk,(by rw[af (ay J.ant J.afh (by intro z;cases z))];exact J.ant),(by rw[af (ay J.anl J.afh (by intro z;cases z))];exact J.anl),(by rw[af (ay J.awt J.afh (by intro z;cases z))];exact J.awt),(by rw[af J.d1];exact J.awb),(by rw[af (ay J.awl J.afh (by intro z;cases z))];exact J.awl),ah,(λu ws m'=>by have m:=(rH.mp m').1;exact⟨by rw[af (ay (J.afl _ _ m).1 J.afh (by intro z;cases z))];exact(J.afl _ _ m).1,(J.afl _ _ m).2.keep tk⟩),(by rw[af (ajm J.d4)];exact J.ayg),(by rw[af (ajm J.d5)];exact J.adm),J.nhn,J.l1,J.l2,J.l3,(λu ws m=>J.l4 _ _ (rH.mp m).1),(λu ws v w m m' e=>J.l5 _ _ _ _ (rH.mp m).1 (rH.mp m').1 e),J.d1,J.d2,J.d3,J.d4,J.d5,J.d6⟩,Fr.set .fh J.afh (λ_ z=>nomatch z) (λc f=>?_)⟩;cases f with
 | x=>exact .x
 | hd=>exact .hd
 | hl=>exact .hl
 | nt=>exact .nt
 | nl=>exact .nl
 | wt=>exact .wt
 | wb=>exact .wb
 | wl=>exact .wl
 | fh=>exact .fh
 | yg=>exact .yg
 | dm=>exact .dm
 | fl m=>exact .fl (rH.mp m).1
end
inductive Led(rs:List Wd)(F:Int→List Wd)(S:List Int):Int→Prop where
 | root {t:Int}:Wd.th t∈rs→t∈S→Led rs F S t
 | step {u t:Int}:Led rs F S u→Wd.th t∈F u→t∈S→Led rs F S t
theorem Led.mem{rs:List Wd}{F:Int→List Wd}{S:List Int}{t:Int}(h:Led rs F S t):t∈S:=by cases h<;>assumption
noncomputable def amg(S:List Int):Wd→Option Int
 | .th t=>if t∈S then some t else none
 | _=>none
theorem rZ{S:List Int}{w:Wd}{t:Int}:amg S w=some t↔w=.th t∧t∈S:=by
 cases w with
 | no=>exact⟨(λh=>by cases h),(λh=>by cases h.1)⟩
 | num n=>exact⟨(λh=>by cases h),(λh=>by cases h.1)⟩
 | th u =>
  show(if u∈S then some u else none)=some t↔_;by_cases c:u∈S
  ·rw[if_pos c]
   exact⟨(λh=>by cases h;exact⟨rfl,c⟩),(λh=>by cases h.1;rfl)⟩
  ·rw[if_neg c]
   exact⟨(λh=>by cases h),(λh=>by cases h.1;exact absurd h.2 c)⟩
inductive Rc(rs:List (Option Int))(F:Int→List (Option Int)):Int→Prop where
 | root {t:Int}:some t∈rs→Rc rs F t
 | step {u t:Int}:Rc rs F u→some t∈F u→Rc rs F t
theorem Vs{rs:List Wd}{F:Int→List Wd}{S:List Int}{t:Int}:Rc (rs.map (amg S)) (λu=>(F u).map (amg S)) t↔Led rs F S t:=by
 constructor
 ·intro h
  induction h with
  | root m =>
   obtain⟨w,mw,e⟩:=ajz.mp m;obtain⟨rfl,c⟩:=rZ.mp e;exact .root mw c
  | step _ m ih =>
   obtain⟨w,mw,e⟩:=ajz.mp m;obtain⟨rfl,c⟩:=rZ.mp e;exact .step ih mw c
 ·intro h
  induction h with
  | root m c=>exact .root (ajz.mpr ⟨_,m,rZ.mpr ⟨rfl,c⟩⟩)
  | step _ m c ih=>exact .step ih (ajz.mpr ⟨_,m,rZ.mpr ⟨rfl,c⟩⟩)
theorem r8:∀ {ms ks:List Int},ms.Nodup→(∀ m∈ms,m∈ks)→ms.length≤ks.length
 | [],_,_,_=>ajM _
 | a::r,ks,nd,h=>by
  rw[akl]at nd;have ha:=h a ajt
  have:=r8 (ms:=r) (ks:=ks.erase a) nd.2 λm hm=>(List.mem_erase_of_ne (λe=>nd.1 (by rw[←e];exact hm))).mpr (h m (ajv _ hm))
  rw[List.length_erase_of_mem ha]at this
  have:0<ks.length:=List.length_pos_of_mem ha
  rw[ajE];omega
noncomputable def Kys(kvs:List (Key×V))(ms:List Int):Prop:=kvs.map (·.1)=ms.map Sum.inl
theorem Kys.len{kvs:List (Key×V)}{ms:List Int}(k:Kys kvs ms):kvs.length=ms.length:=by have:=congrArg List.length k;simpa using this
theorem Kys.isS{kvs:List (Key×V)}{ms:List Int}(k:Kys kvs ms){t:Int}:(gR kvs (Sum.inl t)).isSome=decide (t∈ms):=by
 induction kvs generalizing ms with
 | nil=>cases ms with
  | nil=>rfl
  | cons a r=>cases k
 | cons p r ih=>cases ms with
  | nil=>cases k
  | cons a ms =>
   unfold Kys at k;rw[aju,aju]at k;injection k with k1 k2;by_cases e:a=t
   ·subst e
    rw[fu k1];simp
   ·rw[eS (λz=>e (Sum.inl.inj (k1.symm.trans z))),ih k2]
    have:(t∈a::ms)↔t∈ms:=by
     rw[ajo];exact⟨λh=>h.elim (λz=>absurd z.symm e) id,.inr⟩
    simp only[this]
theorem Kys.non{kvs:List (Key×V)}{ms:List Int}(k:Kys kvs ms){t:Int}(h:t∉ms):gR kvs (Sum.inl t)=none:=by
 have:=k.isS (t:=t)
 rw[decide_eq_false h]at this;cases q:gR kvs (Sum.inl t) with
 | none=>rfl
 | some v=>rw[q]at this;cases this
theorem Kys.snoc{kvs:List (Key×V)}{ms:List Int}(k:Kys kvs ms){t:Int}{v:V}(h:t∉ms):Kys (putK kvs (Sum.inl t) v) (ms++[t]):=by
 rw[u9 v (k.non h)];unfold Kys at k ⊢;rw[ajq,ajq,k];rfl
theorem Kys.at_{kvs:List (Key×V)}{ms:List Int}(k:Kys kvs ms){i:Nat}{p:Key×V}(h:kvs[i]?=some p):∃ t,ms[i]?=some t∧kV p.1=.int t∧p.1=Sum.inl t:=by
 have h1:=congrArg (λl=>l[i]?) k;simp only[ajh,h,aj4]at h1;obtain⟨t,e1,e2⟩:=ajk.mp h1.symm;exact⟨t,e1,by rw[←e2];rfl,e2.symm⟩
theorem Fs(ts:List Int):Kys (ts.map tkv) ts:=by unfold Kys;rw[ajO];rfl
theorem Qm(s:HS)(A:HA):Kys (s.aR.map (fkv A)) (keys s):=by unfold Kys keys;rw[ajO,ajO];rfl
noncomputable def drG(fs:List (Int×List Wd))(gs:List Int):List (Int×List Wd):=fs.filter λp=>decide (p.1∉gs)
noncomputable def nmG(gs:List Int)(n:Option Int):Option Int:=match n with|none=>none|some t=>if t∈gs then none else some t
noncomputable def brG(bs:List (Int×Int))(gs:List Int):List (Int×Int):=bs.filter λp=>decide (p.1∉gs)
noncomputable def sdG(bs:List (Int×Int))(gs:List Int):List Int:=gs.filterMap λt=>bs.lookup t
noncomputable def letGo(s:HS)(gs:List Int):HS:={s with aR:=drG s.aR gs,names:=s.names.map (nmG gs),cp:=brG s.cp gs,vg:=s.vg++sdG s.cp gs}
theorem j8{fs:List (Int×List Wd)}{gs:List Int}{t:Int}{ws:List Wd}:(t,ws)∈drG fs gs↔(t,ws)∈fs∧t∉gs:=by unfold drG;rw[ajP];simp
theorem Q4{fs:List (Int×List Wd)}{gs:List Int}{t:Int}:drG fs (gs++[t])=yw (drG fs gs) t:=by
 unfold drG yw;rw[List.filter_filter];refine aj3 λp _=>?_;simp[ajs,not_or,Bool.and_comm]
theorem OL{fs:List (Int×List Wd)}:drG fs []=fs:=by unfold drG;simp
theorem Mr{bs:List (Int×Int)}{gs:List Int}{t:Int}:brG bs (gs++[t])=(brG bs gs).filter λp=>decide (p.1≠t):=by
 unfold brG;rw[List.filter_filter];refine aj3 λp _=>?_;simp[ajs,not_or,Bool.and_comm]
theorem NH{bs:List (Int×Int)}{gs:List Int}{t:Int}(h:t∉gs):(brG bs gs).lookup t=bs.lookup t:=by
 unfold brG;induction bs with
 | nil=>rfl
 | cons p r ih =>
  obtain⟨a,b⟩:=p;rw[List.filter_cons];by_cases c:a∈gs
  ·rw[if_neg (by simpa using c),ih,aj6]
   rw[show(t == a)=false from beq_eq_false_iff_ne.mpr λe=>h (by rw[e];exact c)]
  ·rw[if_pos (by simpa using c),aj6,aj6,ih]
theorem Tv{bs:List (Int×Int)}{t:Int}:tX (bs.map bkv) (Sum.inl t)=(bs.filter λp=>decide (p.1≠t)).map bkv:=by
 unfold tX;rw[akV];congr 1
 refine aj3 λp _=>?_;show decide (Sum.inl p.1≠(Sum.inl t:Key))=decide (p.1≠t);simp
theorem filter_none{bs:List (Int×Int)}{t:Int}(h:bs.lookup t=none):(bs.filter λp=>decide (p.1≠t))=bs:=List.filter_eq_self.mpr λp hp=>by simpa using lookup_none h p hp
theorem Ms{bs:List (Int×Int)}{gs:List Int}{t:Int}:sdG bs (gs++[t])=sdG bs gs++(match bs.lookup t with|some v=>[v]|none=>[]):=by
 unfold sdG;rw[List.filterMap_append];congr 1
 cases e:bs.lookup t with
 | none=>simp[e]
 | some v=>simp[e]
structure Wk(H H4:Hp)(st mt:Addr)(rs:List (Option Int))(F:Int→List (Option Int))(S:List Int)(kvs:List (Key×V))(ms:List Int):Prop where
 sm:aE H H4
 hs:H4 st=some (.dK kvs)
 ky:Kys kvs ms
 nd:ms.Nodup
 sub:∀ m∈ms,m∈S
 snd:∀ m∈ms,Rc rs F m
 hm:H4 mt=some (.lst (ms.map V.int))
 rts:∀ t,some t∈rs→t∈ms
theorem Wk.same{H H4 H5:Hp}{st mt:Addr}{rs:List (Option Int)}{F:Int→List (Option Int)}{S:List Int}{kvs:List (Key×V)}{ms:List Int}(w:Wk H H4 st mt rs F S kvs ms)(k:aE H4 H5):Wk H H5 st mt rs F S kvs ms :=
 ⟨w.sm.trans k,k _ _ w.hs,w.ky,w.nd,w.sub,w.snd,k _ _ w.hm,w.rts⟩
theorem Wk.put{H H4:Hp}{st mt:Addr}{rs:List (Option Int)}{F:Int→List (Option Int)}{S:List Int}{kvs:List (Key×V)}{ms:List Int}(w:Wk H H4 st mt rs F S kvs ms)(h1:H st=none)(h2:H mt=none){n:Int}{v:V}(hn:n∉ms)(hS:n∈S)(hr:Rc rs F n) :
  Wk H (upd (upd H4 st (.dK (putK kvs (Sum.inl n) v))) mt (.lst (ms.map V.int++[.int n]))) st mt rs F S (putK kvs (Sum.inl n) v) (ms++[n]):=by
 have ne:st≠mt:=ay w.hs w.hm (by intro z;cases z);refine⟨λb u q=>?_,?_,w.ky.snoc hn,?_,λm h=>?_,λm h=>?_,?_,λt h=>ajD _ (w.rts t h)⟩
 ·rw[af (aq q h2),af (aq q h1)]
  exact w.sm b u q
 ·rw[af ne]
  exact ah
 ·rw[aj2]
  exact⟨w.nd,by simp,λa ha b hb=>by rw[ai9.mp hb];exact λe=>hn (by rw[←e];exact ha)⟩
 ·rcases ajs.mp h with g|g
  ·exact w.sub m g
  ·rw[ai9.mp g];exact hS
 ·rcases ajs.mp h with g|g
  ·exact w.snd m g
  ·rw[ai9.mp g];exact hr
 ·rw[ajq]
  exact ah
theorem Q5{ms:List Int}{n:Int}(nd:ms.Nodup)(hn:n∉ms):(ms++[n]).Nodup:=by
 rw[aj2];exact⟨nd,by simp,λa ha b hb=>by rw[ai9.mp hb];exact λe=>hn (by rw[←e];exact ha)⟩
theorem Vt{rs:List (Option Int)}{F:Int→List (Option Int)}{ms:List Int}(h0:∀ t,some t∈rs→t∈ms)(h1:∀ u∈ms,∀ t,some t∈F u→t∈ms){t:Int}(h:Rc rs F t):t∈ms:=by
 induction h with
 | root m=>exact h0 _ m
 | step _ m ih=>exact h1 _ ih _ m
noncomputable def Mt:Sp:=λvs H Q _=>∃(v r d:Addr) (rs:List (Option Int)) (S:List Int) (F:Int→List (Option Int)) (ad:Int→Addr),vs=[.ref v]∧H v=some (.tup [.ref r,.ref d])∧H r=some (.lst (rs.map nmV))∧H d=some (.dK (S.map λt=>(Sum.inl t,.ref (ad t))))∧(∀ t∈S,H (ad t)=some (.lst ((F t).map nmV)))∧(∀ t,some t∈rs→t∈S)∧(∀ u∈S,∀ t,some t∈F u→t∈S)∧S.length≤10000∧∀ st kvs ms H',aE H H'→H st=none→H' st=some (.dK kvs)→Kys kvs ms→ms.Nodup→(∀ t,t∈ms↔Rc rs F t)→Q (.ref st) H'
noncomputable abbrev IS:List Str:=["view", "steps", "place", "thing", "met", "done"]
theorem eP:aw IS ["view"] (ar sk):=⟨rfl,rfl,rfl,by decide +kernel,rfl,by decide +kernel,by decide +kernel⟩
theorem Gv(F:Fun K "last_steps" "last_steps" sk D.fG D.lB)(T:Txt K mg D):Ok P w K mg base 1 D.fG D.lB ["view"] (Mt):=by
 refine⟨?_,F.binds (ps:=["view"]) λ_ _ _ _ _ _ us hl=>match us,hl with|[_],_=>rfl⟩
 refine F.okE eP (λvs H Q E h=>?_) (λcdv A' outer s' H vs Q E hr h=>?_)
 ·obtain⟨v,r,d,rs,S,F,ad,rfl,_⟩:=h
  rfl
 ·obtain⟨v,r,d,rs,S,F,ad,rfl,ht,hrs,hd,Qu,hrt,hcl,SR,k⟩:=h
  have hu:=jV hr;refine⟨_,(PSs.nox (ak (aW (i:=1) eP.nd rfl (Or.inl rfl) jR)
   (ak (gg ajr rfl (wg rfl T.iD (ab (du gi (pv 0) au (λ_ _=>rfl)) aj)) (vZ rfl (eQ (a8 (i:=2) eP.nd rfl (Or.inl rfl)) (eQ (a8 (i:=3) eP.nd rfl (Or.inl rfl)) qX)))
    (ai (cV (PW.pt (pw_and (aV J9 (pv 3) dY (bC _)) (pw_and1 (rT (mL hu (pv 3) (pv 1)) (by with_unfolding_all rfl)))))
     (ai (ny hu (pv 1) (pv 3) (iT (ab dY (ab (pv 2) aj))) rfl))
     a7)))
   (ak (aW (i:=4) eP.nd rfl (Or.inl rfl) (hZ (Fg rfl) rfl T.qM PyProof.Rows.Boot.«list» (ab (pv 1) aj)))
   (ak (aW (i:=5) eP.nd rfl (Or.inl rfl) au)
   (ak (FE ajr (aV AZ (pv 5) (cw a6 rfl T.kr PyProof.Rows.Boot.«len» (ab (pv 4) aj)) (bC _))
    (ak (gg ajr rfl (wg rfl T.iD (ab (gS hu (du gi (pv 0) au (λ_ _=>rfl)) (du eu (pv 4) (pv 5) (λ_ _=>rfl)) (λ_ _=>rfl)) aj)) (vZ rfl (eQ (a8 (i:=2) eP.nd rfl (Or.inl rfl)) (eQ (a8 (i:=3) eP.nd rfl (Or.inl rfl)) qX)))
     (ai (cV (PW.pt (pw_and (aV J9 (pv 3) dY (bC _)) (pw_and1 (rT (mL hu (pv 3) (pv 1)) (by with_unfolding_all rfl)))))
      (ak (ny hu (pv 1) (pv 3) (iT (ab (du eu (pv 4) (pv 5) (λ_ _=>rfl)) (ab (pv 2) aj))) rfl)
      (ai (aJ (M7 PySem.F.plainAttrs_list PySem.F.slot_list_append PySem.F.type_list_append vR (pv 4) (ab (pv 3) aj)))))
      a7)))
    (ai (US (i:=5) eP.nd rfl (Or.inl rfl) au UT))))
   (ai (aP (pv 1))))))))),?_⟩
  refine λst hst=>?_;have s0:aE H (upd H st (.dK [])):=aE.upd hst;have kyS:Kys (S.map λt=>((Sum.inl t:Key),V.ref (ad t))) S:=by unfold Kys;rw[ajO];rfl
  have dgS:∀ {Hc:Hp},aE H Hc→∀ {t:Int},t∈S→rB Hc d (.int t) (some (.ref (ad t))):=λ{Hc} sc {t} m=>by
   have e:gR (S.map λt=>((Sum.inl t:Key),V.ref (ad t))) (Sum.inl t)=some (.ref (ad t)):=by
    clear kyS SR hcl hrt Qu hd;induction S with
    | nil=>cases m
    | cons a r ih =>
     rw[aju];by_cases c:a=t
     ·rw[fu (by show Sum.inl a=Sum.inl t;rw[c]),c]
     ·rw[eS (λz=>c (Sum.inl.inj z))]
      exact ih ((ajo.mp m).resolve_left λz=>c z.symm)
   exact .inl ⟨_,Sum.inl t,.inl (sc _ _ hd),rfl,e.symm⟩
  have few:∀ {kvs:List (Key×V)} {ms:List Int},Kys kvs ms→ms.Nodup→(∀ m∈ms,m∈S)→kvs.length<sizeLine:=λk nd h=>by rw[k.len];exact rY (ajy (r8 nd h) (by omega))
  refine⟨_,rfl,v,_,0,.ref r,rfl,rfl,SqT.of (s0 _ _ ht),rfl,r,rfl,⟨_,SqL.of (s0 _ _ hrs)⟩,rW (K:=K) (a:=r) (xs:=rs.map nmV) (λi σ H2=>∃(v2 v3:Option V) (kvs:List (Key×V)) (ms:List Int),σ=[some (.ref v),some (.ref st),v2,v3,none,none]∧aE H H2∧H2 st=some (.dK kvs)∧Kys kvs ms∧ms.Nodup∧(∀ m∈ms,m∈S)∧(∀ m∈ms,Rc rs F m)∧∀(j:Nat) t,j<i→rs[j]?=some (some t)→t∈ms)
   ⟨none,none,[],[],rfl,s0,ah,rfl,List.nodup_nil,(λt h=>nomatch h),(λt h=>nomatch h),(λj t h=>absurd h (akz _))⟩ (λi σ H2 _ ⟨_,_,_,_,_,s2,_⟩=>SqL.of (s2 _ _ hrs)) ?_ ?_⟩
  ·rintro i x σ H2 t hx ⟨v2,v3,kvs,ms,rfl,s2,hs,ky,nd,sub,snd,D6⟩ htt
   have hi:i<rs.length:=(by have:=(ai6.mp hx).1;rwa[ai8]at this);have ri:rs[i]?=some rs[i]:=ai7 hi;have hxe:x=nmV rs[i]:=by
    rw[ajh,ri]at hx;exact(ajx hx).symm
   subst hxe;have s3:aE H2 (upd H2 t (.tup [.int (i:Int),nmV rs[i]])):=aE.upd htt;refine⟨t,_,rfl,SqT.of ah,rfl,_,_,rfl,_,_,rfl,rfl,?_⟩;cases hc:rs[i] with
   | none =>
    rw[hc]at s3 ri;refine⟨_,rfl,rfl,_,rfl,u4 (u4 ⟨_,_,kvs,ms,rfl,s2.trans s3,s3 _ _ hs,ky,nd,sub,snd,λj t hj e=>?_⟩)⟩;rcases aj1 j i with z|z
    ·exact D6 j t z e
    ·rw[show j=i by omega,ri]at e
     cases e
   | some n =>
    rw[hc]at s3 ri;have mr:=aje ri;refine⟨_,rfl,rfl,_,rfl,wa ⟨_,rfl,_,rfl,st,_,rfl,rB.k (k:=Sum.inl n) (s3 _ _ hs),_,rfl,?_⟩⟩;rw[ky.isS];by_cases hin:n∈ms
    ·rw[decide_eq_true hin]
     refine u4 ⟨_,_,kvs,ms,rfl,s2.trans s3,s3 _ _ hs,ky,nd,sub,snd,λj t hj e=>?_⟩;rcases aj1 j i with z|z
     ·exact D6 j t z e
     ·rw[show j=i by omega,ri]at e
      cases e;exact hin
    ·rw[decide_eq_false hin]
     refine wa ⟨_,rfl,by show 2≤sizeLine;decide,λu hu'=>?_⟩;have s4:=aE.upd (o:=.tup [V.non,V.int (i:Int)]) hu';refine⟨_,rfl,_,rfl,st,_,rfl,D7.k (k:=Sum.inl n) (s4 _ _ (s3 _ _ hs)) (few ky nd sub),_,_,putK kvs (Sum.inl n) (.ref u),ms++[n],rfl,λc u' g=>by rw[af (aq g hst)];exact s4 _ _ (s3 _ _ (s2 c u' g)),ah,ky.snoc hin,Q5 nd hin,λm h=>?_,λm h=>?_,λj t hj e=>?_⟩
     ·rcases ajs.mp h with g|g
      ·exact sub m g
      ·rw[ai9.mp g];exact hrt n mr
     ·rcases ajs.mp h with g|g
      ·exact snd m g
      ·rw[ai9.mp g];exact .root mr
     ·rcases aj1 j i with z|z
      ·exact ajD _ (D6 j t z e)
      ·rw[show j=i by omega,ri]at e
       cases e;exact ajf _ ajt
  ·rintro σ H2 ⟨v2,v3,kvs,ms,rfl,s2,hs,ky,nd,sub,snd,D6⟩
   refine⟨_,rfl,st,_,ms,rfl,.inl hs,ky,λmt hmt=>?_⟩;have s3:=aE.upd (o:=.lst (ms.map V.int)) hmt;have aiN:H mt=none:=aE.none s2 hmt;refine⟨λm σ H4=>∃(dn:Nat) (v2 v3:Option V) (kvs:List (Key×V)) (ms:List Int),m=S.length+1-dn∧σ=[some (.ref v),some (.ref st),v2,v3,some (.ref mt),some (.int (dn:Int))]∧Wk H H4 st mt rs F S kvs ms∧(∀ u∈ms.take dn,∀ t,some t∈F u→t∈ms)∧dn≤ms.length,⟨_,0,v2,v3,kvs,ms,rfl,rfl,⟨s2.trans s3,s3 _ _ hs,ky,nd,sub,snd,ah,λt h=>?_⟩,(λu h=>nomatch h),ajM _⟩,?_⟩
   ·obtain⟨j,hj⟩:=ajZ.mp h
    exact D6 j t (by rw[ai8];exact(ai6.mp hj).1) hj
   clear hs ky nd sub snd D6 s3 s2;rintro m σ H4 ⟨dn,v2,v3,kvs,ms,rfl,rfl,W,don,hdl⟩;have ml:=r8 W.nd W.sub;refine⟨_,rfl,_,rfl,mt,_,rfl,.inl (SqL.of W.hm),_,_,rfl,rfl,_,rfl,eE (λh=>?_) (λh=>?_)⟩
   ·have hd1:dn<ms.length:=by
     have h1:(dn:Int)<((ms.map V.int).length:Int):=(by simpa using h);rw[ai8]at h1;omega
    refine⟨λσ' H'=>∃ m',m'<S.length+1-dn∧∃(dn:Nat) (v2 v3:Option V) (kvs:List (Key×V)) (ms:List Int),m'=S.length+1-dn∧σ'=[some (.ref v),some (.ref st),v2,v3,some (.ref mt),some (.int (dn:Int))]∧Wk H H' st mt rs F S kvs ms∧(∀ u∈ms.take dn,∀ t,some t∈F u→t∈ms)∧dn≤ms.length,λ_ _ h=>h,?_⟩;have tk:ms.take (dn+1)=ms.take dn++[ms[dn]]:=ajA hd1;obtain⟨t,et⟩:∃ t,ms[dn]=t:=⟨_,rfl⟩;obtain⟨pre,Tw⟩:∃ pre,ms.take dn=pre:=⟨_,rfl⟩;rw[et,Tw]at tk;rw[Tw]at don;have aiO:pre.length=dn:=(by rw[←Tw,ajp];omega);have htm:t∈ms:=(by rw[←et];exact ajX hd1);have hin:t∈S:=W.sub t htm;have at_:∀ {ns:List Int},ns.take (dn+1)=pre++[t]→ns[dn]?=some t:=λ{ns} e=>by
     have:(ns.take (dn+1))[dn]?=some t:=by rw[e,ajJ (by omega),aiO,akP];rfl
     rwa[List.getElem?_take_of_lt (akH _)]at this
    have hat:∀ {ns:List Int},ns.take (dn+1)=pre++[t]→atI (ns.map V.int) (dn:Int)=some (.int t):=λe=>Bj (by rw[ajh,at_ e];rfl);have rw_:=Qu t hin;refine⟨_,rfl,v,_,1,.ref d,rfl,rfl,SqT.of (W.sm _ _ ht),rfl,_,rfl,_,rfl,mt,_,_,.int t,rfl,rfl,SqL.of W.hm,hat tk,d,_,rfl,dgS W.sm hin,ad t,rfl,⟨_,SqL.of (W.sm _ _ rw_)⟩,
     rW (K:=K) (a:=ad t) (xs:=(F t).map nmV) (λj σ H6=>∃(v2 v3:Option V) (kvs:List (Key×V)) (ms:List Int),σ=[some (.ref v),some (.ref st),v2,v3,some (.ref mt),some (.int (dn:Int))]∧Wk H H6 st mt rs F S kvs ms∧ms.take (dn+1)=pre++[t]∧dn<ms.length∧(∀ u∈pre,∀ t,some t∈F u→t∈ms)∧∀(q:Nat) n,q<j→(F t)[q]?=some (some n)→n∈ms)
     ⟨v2,v3,kvs,ms,rfl,W,tk,hd1,don,(λq n h=>absurd h (akz _))⟩ (λj σ H6 _ ⟨_,_,_,_,_,w6,_⟩=>SqL.of (w6.sm _ _ rw_)) ?_ ?_⟩
    ·clear W don hdl ml hd1 tk et Tw htm
     rintro j x σ H6 u hx ⟨v2,v3,kvs,ms,rfl,W,tk,hd1,don,D6⟩ hut;have hlj:j<(F t).length:=(by have:=(ai6.mp hx).1;rwa[ai8]at this);have fj:(F t)[j]?=some (F t)[j]:=ai7 hlj;have hxe:x=nmV (F t)[j]:=by
      rw[ajh,fj]at hx;exact(ajx hx).symm
     subst hxe;have htm:t∈ms:=aje (at_ tk);refine⟨u,_,rfl,SqT.of ah,rfl,_,_,rfl,_,_,rfl,rfl,?_⟩;cases hc:(F t)[j] with
     | none =>
      rw[hc]at fj;have s7:=aE.upd (o:=.tup [.int (j:Int),nmV none]) hut;refine⟨_,rfl,rfl,_,rfl,u4 (u4 ⟨_,_,kvs,ms,rfl,W.same s7,tk,hd1,don,λq n hq e=>?_⟩)⟩;rcases aj1 q j with z|z
      ·exact D6 q n z e
      ·rw[show q=j by omega,fj]at e
       cases e
     | some n =>
      rw[hc]at fj;have mf:=aje fj;have hk:n∈S:=hcl t hin n mf;have s7:=aE.upd (o:=.tup [.int (j:Int),nmV (some n)]) hut;have W7:=W.same s7;refine⟨_,rfl,rfl,_,rfl,wa ⟨_,rfl,_,rfl,st,_,rfl,rB.k (k:=Sum.inl n) W7.hs,_,rfl,?_⟩⟩;rw[W7.ky.isS];by_cases hn6:n∈ms
      ·rw[decide_eq_true hn6]
       refine u4 ⟨_,_,kvs,ms,rfl,W7,tk,hd1,don,λq n' hq e=>?_⟩;rcases aj1 q j with z|z
       ·exact D6 q n' z e
       ·rw[show q=j by omega,fj]at e
        cases e;exact hn6
      ·rw[decide_eq_false hn6]
       refine wa ⟨_,rfl,_,rfl,mt,_,_,.int t,rfl,rfl,SqL.of W7.hm,hat tk,_,rfl,by show 2≤sizeLine;decide,λu2 hu2=>?_⟩;have s8:=aE.upd (o:=.tup [V.int t,V.int (j:Int)]) hu2;have W8:=W7.same s8;have W9:=W8.put (v:=.ref u2) hst aiN hn6 hk (.step (W.snd t htm) mf);have nms:mt≠st:=ay W8.hm W8.hs (by intro z;cases z);have zm9:upd (upd (upd H6 u (.tup [.int (j:Int),nmV (some n)])) u2 (.tup [V.int t,V.int (j:Int)])) st (.dK (putK kvs (Sum.inl n) (.ref u2))) mt=some (.lst (ms.map V.int)):=(by rw[af nms];exact W8.hm);refine⟨_,rfl,_,rfl,st,_,rfl,D7.k (k:=Sum.inl n) W8.hs (few W8.ky W8.nd W8.sub),?_⟩;refine⟨_,rfl,.inl ⟨rfl,_,SqL.of zm9⟩,_,rfl,mt,_,_,rfl,rfl,zm9,by rw[ai8];exact rY (ajy (r8 W8.nd W8.sub) (by omega)),?_⟩;refine⟨_,_,_,ms++[n],rfl,W9,by rw[List.take_append_of_le_length (by omega)];exact tk,by rw[aji];omega,λu h t' e=>ajD _ (don u h t' e),λq n' hq e=>?_⟩;rcases aj1 q j with z|z
       ·exact ajD _ (D6 q n' z e)
       ·rw[show q=j by omega,fj]at e
        cases e;exact ajf _ ajt
    ·clear W don hdl ml hd1 tk et Tw htm
     rintro σ H6 ⟨v2,v3,kvs,ms,rfl,W,tk,hd1,don,D6⟩;rw[ai8]at D6;have ml:=r8 W.nd W.sub;refine⟨_,rfl,_,1,rfl,rfl,S.length+1-(dn+1),by omega,dn+1,v2,v3,kvs,ms,rfl,rfl,W,λu h t' e=>?_,hd1⟩;rw[tk]at h;rcases ajs.mp h with g|g
     ·exact don u g t' e
     ·rw[ai9.mp g]at e
      obtain⟨q,hq⟩:=ajZ.mp e;exact D6 q t' (ai6.mp hq).1 hq
   ·have hge:ms.length≤dn:=by
     have h1:¬(dn:Int)<((ms.map V.int).length:Int):=(by simpa using h);rw[ai8]at h1;omega
    rw[ajj hge]at don;exact⟨_,rfl,k st kvs ms H4 W.sm hst W.hs W.ky W.nd λt=>⟨W.snd t,Vt W.rts don⟩⟩
theorem OM{H:Hp}{xs:List V}{ws:List Wd}(r:Rel H xs ws){i:Nat}{x:V}(h:xs[i]?=some x):∃ w,ws[i]?=some w∧WV H x w:=by
 have hi:=(ai6.mp h).1;have hw:i<ws.length:=by rw[←r.1];exact hi
 obtain⟨v,hv,wv⟩:=r.get hw;rw[hv]at h;cases h;exact⟨_,ai7 hw,wv⟩
noncomputable def UC:Sp:=λvs H Q _=>∃ v w d kvs S,vs=[v,.ref d]∧WV H v w∧Rd H d (.dK kvs)∧Kys kvs S∧Q (nmV (amg S w)) H
noncomputable abbrev Gw:List Str:=["value", "things"]
theorem Eo:aw Gw ["value", "things"] (ar qD):=⟨rfl,rfl,rfl,by decide +kernel,rfl,by decide +kernel,by decide +kernel⟩
theorem Ep(F:Fun K "thing_among" "thing_among" qD D.eJ D.j3)(T:Txt K mg D)
  (gM:Ok P w K mg base 1 D.eV D.h9 ["value"] (Ks)):Ok P w K mg base 2 D.eJ D.j3 ["value", "things"] (UC):=by
 refine⟨?_,F.binds (ps:=["value", "things"]) λ_ _ _ _ _ _ us hl=>match us,hl with|[_,_],_=>rfl⟩
 refine F.okE Eo (λvs H Q E h=>?_) (λcdv A' outer s' H vs Q E hr h=>?_)
 ·obtain⟨v,w,d,kvs,S,rfl,_⟩:=h
  rfl
 ·obtain⟨v,w,d,kvs,S,rfl,wv,hd,hk,k⟩:=h
  have hu:=jV hr;refine⟨_,(PSs.nox (ak (cV (PW.pt (pw_and (aV tW (aH gM.g (hr.mono (by decide)) rfl T.rE T.mM gM.b .nil bG (ab (pv 0) aj)) fg (bC _)) (pw_and1 (rT (Ro hu (du gi (pv 0) au (λ_ _=>rfl)) (pv 1)) (by with_unfolding_all rfl)))))
    (ai (aP (du gi (pv 0) au (λ_ _=>rfl))))
    a7)
   (ai (aP dY)))),?_⟩
  refine⟨_,rfl,v,w,rfl,wv,?_⟩;cases w with
  | no=>exact⟨rfl,_,rfl,eE (λh=>absurd h (ajL.mp (by kernel_rfl))) (λ_=>u4 k)⟩
  | num n=>exact⟨rfl,_,rfl,eE (λh=>absurd h (ajL.mp (by kernel_rfl))) (λ_=>u4 k)⟩
  | th t =>
   obtain⟨a,rfl,ht⟩:=wv;refine⟨rfl,_,rfl,eE (λ_=>?_) (λh=>absurd (by kernel_rfl) h)⟩;refine⟨_,rfl,a,_,1,.int t,rfl,rfl,SqT.of ht,rfl,_,rfl,d,_,rfl,.inl ⟨kvs,Sum.inl t,hd,rfl,rfl⟩,_,rfl,?_⟩;rw[hk.isS];by_cases c:t∈S
   ·rw[decide_eq_true c]
    rw[show amg S (.th t)=some t from if_pos c]at k;exact wa ⟨_,rfl,a,_,1,.int t,rfl,rfl,SqT.of ht,rfl,k⟩
   ·rw[decide_eq_false c]
    rw[show amg S (.th t)=none from if_neg c]at k;exact u4 k
noncomputable def Kt(D:Ad):Sp:=λvs H Q _=>∃ x A s l xs ws d kvs S,vs=[.ref x,.ref l,.ref d]∧IH D H x A s∧Good s∧H l=some (.lst xs)∧Rel H xs ws∧ws.length≤100000∧H d=some (.dK kvs)∧Kys kvs S∧(∀ t∈S,∃ ws,(t,ws)∈s.aR)∧S.Nodup∧S.length≤10000∧∀ st kv ms H',aE H H'→H st=none→H' st=some (.dK kv)→Kys kv ms→ms.Nodup→(∀ t,t∈ms↔Led ws (fld s) S t)→Q (.ref st) H'
noncomputable abbrev mh:List Str:=["self", "leads", "things", "fields", "t"]
theorem kY:aw mh ["self", "leads", "things"] (ar gU):=⟨rfl,rfl,rfl,by decide +kernel,rfl,by decide +kernel,by decide +kernel⟩
theorem zg(F:Fun K "led_among" "Heap.led_among" gU D.bA D.eB)(T:Txt K mg D)
  (iW:Ok P w K mg base 2 D.eJ D.j3 ["value", "things"] (UC))
  (nX:Ok P w K mg base 1 D.fG D.lB ["view"] (Mt)):Ok P w K mg base 3 D.bA D.eB ["self", "leads", "things"] (Kt D):=by
 refine⟨?_,F.binds (ps:=["self", "leads", "things"]) λ_ _ _ _ _ _ us hl=>match us,hl with|[_,_,_],_=>rfl⟩
 refine F.okE kY (λvs H Q E h=>?_) (λcdv A' outer s' H vs Q E hr h=>?_)
 ·obtain⟨x,A,s,l,xs,ws,d,kvs,S,rfl,_⟩:=h
  rfl
 ·obtain⟨x,A,s,l,xs,ws,d,kvs,S,rfl,J,G,hl,rx,hw,hd,hk,hin,hnd,SR,k⟩:=h
  have hu:=jV hr;refine⟨_,(PSs.nox (ak (aW (i:=3) kY.nd rfl (Or.inl rfl) jR)
   (ak (gg ajr rfl (wj (DZ (pv 2))) (a8 (i:=4) kY.nd rfl (Or.inl rfl))
    (ai (ny hu (pv 3) (pv 4) (rb (cl:=[("things",s'.heap.objs.size+1)]) (x := "value") (idx:=[2]) (NC:=["value", "things"]) ?co2 rfl (f7 (gS hu (aI (pv 0) rfl) (pv 4) (λ_ _=>rfl))) (λC fp s₀ H₀=>(aH iW.g (hr.mono (by decide)) rfl T.wm T.mC iW.b .nil Ff (ab (pv 0) (ab (pv 1) aj))))) rfl)))
   (ai (aP (Rz (aH nX.g (hr.mono (by decide)) rfl T.Iz T.sF nX.b .nil bG (ab (iT (ab (rb (cl:=[("things",s'.heap.objs.size+1)]) (x := "value") (idx:=[2]) (NC:=["value", "things"]) ?co1 rfl (f7 (pv 1)) (λC fp s₀ H₀=>(aH iW.g (hr.mono (by decide)) rfl T.wm T.mC iW.b .nil Ff (ab (pv 0) (ab (pv 1) aj))))) (ab (pv 3) aj))) aj)))))))),?_⟩
  case co1 =>
   exact kD (sc:=ar gU) (N:=mh) (ns:=["things"]) rfl rfl rfl (by decide +kernel) rfl rfl (by
    intro q hq;rw[ai9.mp hq];rfl)
  case co2 =>
   exact kD (sc:=ar gU) (N:=mh) (ns:=["things"]) rfl rfl rfl (by decide +kernel) rfl rfl (by
    intro q hq;rw[ai9.mp hq];rfl)
  intro fa hfa;have s1:=aE.upd (o:=.dK []) hfa;refine⟨_,rfl,d,kvs,s1 _ _ hd,λo=>?_⟩;have nfd:fa≠d:=ajm (aq hd hfa);have xd:x≠d:=ay J.ax hd (by intro z;cases z);have ld:l≠d:=ay hl hd (by intro z;cases z);have okH:∀ Hc:Hp,((∀ b u,b≠d→H b=some u→Hc b=some u)∧Hc d=some (.frz o (.dK kvs)))→cv H Hc:=λHc oc b us q=>oc.1 b _ (ay q hd (by intro z;cases z)) q;have dg:∀ {Hc:Hp},((∀ b u,b≠d→H b=some u→Hc b=some u)∧Hc d=some (.frz o (.dK kvs)))→∀ {t:Int} {ws:List Wd},(t,ws)∈s.aR→rB Hc A.fh (.int t) (some (.ref (A.fa t))):=λ{Hc} oc {t ws} m=>by
   have e:gR (s.aR.map (fkv A)) (Sum.inl t)=some (.ref (A.fa t)):=(by rw[RE,G.get m];rfl);by_cases c:A.fh=d
   ·have ek:kvs=s.aR.map (fkv A):=by
     have:=J.afh
     rw[c,hd]at this;injection this with this;injection this
    exact .inl ⟨kvs,Sum.inl t,.inr ⟨o,by rw[c];exact oc.2⟩,rfl,by rw[ek,e]⟩
   ·exact .inl ⟨_,Sum.inl t,.inl (oc.1 _ _ c J.afh),rfl,e.symm⟩
  have lk:=hk.len;refine⟨d,o,kvs,rfl,ah,A5 (d:=d) (o:=o) (kvs:=kvs) (λi σ Hc=>∃(v4:Option V) (ad:Int→Addr),σ=[some (.ref x),some (.ref l),some (.ref d),some (.ref fa),v4]∧((∀ b u,b≠d→H b=some u→Hc b=some u)∧Hc d=some (.frz o (.dK kvs)))∧Hc fa=some (.dK ((S.take i).map λt=>(Sum.inl t,.ref (ad t))))∧∀ t∈S.take i,Hc (ad t)=some (.lst (((fld s t).map (amg S)).map nmV)))
   ⟨none,λ_=>0,rfl,⟨λb u n q=>by rw[af n];exact s1 b u q,ah⟩,by rw[af nfd];exact ah,(λt h=>nomatch h)⟩ (λi σ Hc _ ⟨_,_,_,oc,_⟩=>oc.2) ?_ ?_⟩
  ·rintro i p σ Hc hi ⟨v4,ad,rfl,oc,hf,Qu⟩
   obtain⟨t,ht,ekv,ep⟩:=hk.at_ hi;have hlt:i<S.length:=(ai6.mp ht).1;have et:S[i]=t:=(ai6.mp ht).2;have mt:t∈S:=aje ht;obtain⟨w0,m⟩:=hin t mt;obtain⟨hl0,rl⟩:=J.afl _ _ m;have tc:=okH Hc oc;have fm:=G.fld m;rw[←fm]at rl;have nl:A.fa t≠d:=ay hl0 hd (by intro z;cases z);have hlc:=oc.1 _ _ nl hl0;have f6:=G.f6 _ _ m;rw[←fm]at f6;have lz:(fld s t).length≤sizeLine:=wz (by omega);refine⟨_,rfl,x,D.aa,_,_,.ref A.fh,rfl,oc.1 _ _ xd J.ax,T.ae,T.aC,rp,_,rfl,A.fh,.ref (A.fa t),rfl,(by rw[ekv];exact dg oc m),A.fa t,rfl,⟨_,SqL.of hlc⟩,λL hL=>?_⟩;refine kC (K:=K) (a:=A.fa t) (xs:=A.fx t) (λi ys H2=>ys=((fld s t).take i).map (λw=>nmV (amg S w))∧aE Hc H2∧H2 L=some (.lst ys)) ⟨rfl,aE.upd hL,ah⟩ (λi ys H2 hi ⟨e,_,z⟩=>⟨z,by rw[e,ai8,ajp,←rl.1];omega⟩) (λi ys H2 hi ⟨_,s2,_⟩=>SqL.of (s2 _ _ hlc)) (by rw[rl.1];exact lz) (λi y ys H2 hi ⟨e,s2,z⟩=>?_) (λys H2 ⟨e,s2,z⟩=>?_)
   ·obtain⟨wd,hw,wv⟩:=OM rl hi
    refine⟨_,rfl,_,rfl,y,wd,d,kvs,S,rfl,wv.keep (tc.trans (cv.of s2)),.inr ⟨o,s2 _ _ oc.2⟩,hk,z,?_,λb u q=>by rw[af (aq q hL)];exact s2 b u q,ah⟩;have hlt:i<(fld s t).length:=(ai6.mp hw).1;rw[ajA hlt,ajq,e,(ai6.mp hw).2];rfl
   ·rw[rl.1,ajj (ajb _)]at e
    have zf:H2 fa=some (.dK ((S.take i).map λt=>(Sum.inl t,.ref (ad t)))):=s2 _ _ hf;have kyf:Kys ((S.take i).map λt=>((Sum.inl t:Key),V.ref (ad t))) (S.take i):=(by unfold Kys;rw[ajO];rfl);have ni:t∉S.take i:=λz=>by
     have:=aj2.mp (show(S.take i++S.drop i).Nodup by rw[akG];exact hnd)
     exact this.2.2 t z t (by rw[aks hlt,et];exact ajt) rfl
    have nLf:L≠fa:=ajm (aq hf hL);refine⟨_,rfl,_,rfl,fa,_,rfl,(by rw[ekv];exact D7.k (k:=Sum.inl t) zf (by rw[ai8,ajp];exact rY (by omega))),?_⟩;rw[u9 _ (kyf.non ni)];refine⟨_,λu=>if u=t then L else ad u,rfl,⟨λb u n q=>?_,?_⟩,?_,λu hu'=>?_⟩
    ·rw[af (aq q hfa)]
     exact s2 _ _ (oc.1 b u n q)
    ·rw[af (ajm nfd)]
     exact s2 _ _ oc.2
    ·rw[ah,ajA hlt,ajq,et]
     congr 3
     ·refine aj5 λu hu'=>?_
      dsimp only;rw[if_neg λz=>ni (by rw[←z];exact hu')]
     ·simp only[aju,akF,if_true]
    ·rw[ajA hlt,et]at hu'
     dsimp only;by_cases c:u=t
     ·subst c
      rw[if_pos rfl,af nLf,z,e,ajO];rfl
     ·rw[if_neg c]
      have mu:u∈S.take i:=(ajs.mp hu').resolve_right λz=>c (ai9.mp z);have q:=Qu u mu;rw[af (λz=>by rw[z,hf]at q;cases q)];exact s2 _ _ q
  ·rintro σ Hc ⟨v4,ad,rfl,oc,hf,Qu⟩
   rw[lk,ajj (ajb _)]at hf Qu;have tc:=okH Hc oc;have hlc:=oc.1 _ _ ld hl;have lz:ws.length≤sizeLine:=ajy hw (by decide);have rl:=rx;refine⟨_,rfl,l,rfl,⟨_,SqL.of hlc⟩,λL hL=>?_⟩;refine kC (K:=K) (a:=l) (xs:=xs) (λi ys H2=>ys=(ws.take i).map (λw=>nmV (amg S w))∧aE Hc H2∧H2 L=some (.lst ys)) ⟨rfl,aE.upd hL,ah⟩ (λi ys H2 hi ⟨e,_,z⟩=>⟨z,by rw[e,ai8,ajp,←rl.1];omega⟩) (λi ys H2 hi ⟨_,s2,_⟩=>SqL.of (s2 _ _ hlc)) (by rw[rl.1];exact lz) (λi y ys H2 hi ⟨e,s2,z⟩=>?_) (λys H2 ⟨e,s2,z⟩=>?_)
   ·obtain⟨wd,hw,wv⟩:=OM rl hi
    refine⟨_,rfl,_,rfl,y,wd,d,kvs,S,rfl,wv.keep (tc.trans (cv.of s2)),.inr ⟨o,s2 _ _ oc.2⟩,hk,z,?_,λb u q=>by rw[af (aq q hL)];exact s2 b u q,ah⟩;have hlt:i<ws.length:=(ai6.mp hw).1;rw[ajA hlt,ajq,e,(ai6.mp hw).2];rfl
   ·rw[rl.1,ajj (ajb _)]at e
    refine⟨_,rfl,by show 2≤sizeLine;decide,λv hv=>?_⟩;have s3:=aE.upd (o:=.tup [V.ref L,V.ref fa]) hv;have s4:=s2.trans s3;have bk:∀ {b:Addr},upd H2 v (.tup [V.ref L,V.ref fa]) b=none→H b=none:=λ{b} q=>by
     cases z:H b with
     | none=>rfl
     | some u =>
      by_cases c:b=d
      ·rw[c,s4 _ _ oc.2]at q;cases q
      ·rw[s4 _ _ (oc.1 b u c z)]at q;cases q
    refine⟨v,L,fa,ws.map (amg S),S,λt=>(fld s t).map (amg S),ad,rfl,ah,by rw[s3 _ _ z,e,ajO];rfl,s4 _ _ hf,λt m=>s4 _ _ (Qu t m),λt m=>?_,λu _ t m=>?_,SR,λst kv ms H5 s5 hst h5 k5 n5 m5=>?_⟩
    ·obtain⟨w,_,ew⟩:=ajz.mp m
     exact(rZ.mp ew).2
    ·obtain⟨w,_,ew⟩:=ajz.mp m
     exact(rZ.mp ew).2
    ·have fd5:=s5 _ _ (s4 _ _ oc.2)
     refine⟨d,o,kvs,fd5,(λo' u' q=>by have q:H d=some (.frz o' u'):=q;rw[hd]at q;cases q),?_⟩;have nst:st≠d:=λq=>by rw[q,fd5]at h5;cases h5
     refine k st kv ms _ (λb u q=>?_) (bk hst) (by rw[af nst];exact h5) k5 n5 λt=>(m5 t).trans Vs;by_cases c:b=d
     ·subst c
      rw[hd]at q;cases q;exact ah
     ·rw[af c]
      exact s5 _ _ (s4 _ _ (oc.1 b u c q))
theorem lookup_mem{α:Type}{fs:List (Int×α)}{t:Int}{w:α}(m:(t,w)∈fs):∃ v,fs.lookup t=some v:=by
 cases e:fs.lookup t with
 | some v=>exact⟨v,rfl⟩
 | none=>exact absurd rfl (lookup_none e _ m)
theorem PN(gs:List Int):(gs.map V.int).all jU=true:=akh.mpr λv hv=>by obtain⟨n,_,rfl⟩:=ajz.mp hv;rfl
theorem Tx(n:Option Int):jU (nmV n)=true:=by cases n<;>rfl
theorem Oh{gs:List Int}(h:gs.Pairwise (·< ·)){i:Nat}{t:Int}(e:gs[i]?=some t):t∉gs.take i:=λm=>by
 have hlt:=(ai6.mp e).1;have et:=(ai6.mp e).2
 have:=akL.mp (show(gs.take i++gs.drop i).Pairwise (·< ·) by rw[akG];exact h)
 have:=this.2.2 t m t (by rw[aks hlt,et];exact ajt)
 omega
theorem take_snoc{α:Type}{gs:List α}{i:Nat}{t:α}(e:gs[i]?=some t):gs.take (i+1)=gs.take i++[t]:=by rw[ajA (ai6.mp e).1,(ai6.mp e).2]
theorem RI(bs:List (Int×Int))(gs:List Int):(sdG bs gs).length≤gs.length:=List.length_filterMap_le _ _
noncomputable def ON(D:Ad):Sp:=λvs H Q _=>∃ x A s g gs,vs=[.ref A.nt,.ref g]∧IH D H x A s∧s.names.length=8∧H g=some (.lst (gs.map V.int))∧∀ A' H',IH D H' x A' {s with names:=s.names.map (nmG gs)}→Fr (cD x A s) H (cD x A' {s with names:=s.names.map (nmG gs)}) H'→Q .non H'
noncomputable abbrev oo:List Str:=["self", "things"]
theorem vm:aw oo ["self", "things"] (ar ie):=⟨rfl,rfl,rfl,by decide +kernel,rfl,by decide +kernel,by decide +kernel⟩
theorem vo(F:Fun K "settle" "NameTable.settle" ie D.cA D.fV)(T:Txt K mg D):Ok P w K mg base 1 D.cA D.fV ["self", "things"] (ON D):=by
 refine⟨?_,F.binds (ps:=["self", "things"]) λ_ _ _ _ _ _ us hl=>match us,hl with|[_,_],_=>rfl⟩
 refine F.okE vm (λvs H Q E h=>?_) (λcdv A' outer s' H vs Q E hr h=>?_)
 ·obtain⟨x,A,s,g,gs,rfl,_⟩:=h
  rfl
 ·obtain⟨x,A,s,g,gs,rfl,J,h8,hg,k⟩:=h
  refine⟨_,(PSs.nox (ai (hJ (pv 0) (rb (cl:=[("things",s'.heap.objs.size+1)]) (x := "t") (idx:=[1]) (NC:=["t", "things"]) ?co1 rfl (f7 (aI (pv 0) rfl)) (λC fp s₀ H₀=>(pJ (aV (r:=rIn K false) HI (pv 0) (pv 1) (by with_unfolding_all rfl)) dY (pv 0)))) rfl))),?_⟩
  case co1 =>
   exact kD (sc:=ar ie) (N:=oo) (ns:=["things"]) rfl rfl rfl (by decide +kernel) rfl rfl (by
    intro q hq;rw[ai9.mp hq];rfl)
  refine⟨_,rfl,A.nt,D.aF,A.ntx,_,.ref A.nl,rfl,J.ant,T.dH,T.b7,rfl,A.nl,rfl,⟨_,SqL.of J.anl⟩,λL hL=>?_⟩;refine kC (K:=K) (a:=A.nl) (xs:=s.names.map nmV) (λi zs H2=>zs=((s.names.take i).map (nmG gs)).map nmV∧aE H H2∧H2 L=some (.lst zs)) ⟨rfl,aE.upd hL,ah⟩ (λi zs H2 hi ⟨e,_,z⟩=>⟨z,by rw[ai8]at hi;rw[e,ai8,ai8,ajp];omega⟩) (λi zs H2 hi ⟨_,s2,_⟩=>SqL.of (s2 _ _ J.anl)) (by rw[ai8,h8];decide) (λi y zs H2 hi ⟨e,s2,z⟩=>?_) (λzs H2 ⟨e,s2,z⟩=>?_)
  ·rw[ajh]at hi
   obtain⟨n,hn,rfl⟩:=ajk.mp hi;have tk:=take_snoc hn;refine⟨_,rfl,_,rfl,g,_,rfl,.inl (SqL.of (s2 _ _ hg)),Tx n,PN gs,_,rfl,?_⟩;have sm:∀ {o:HO},aE H (upd H2 L o):=λb u q=>by rw[af (aq q hL)];exact s2 b u q
   show if inV (nmV n) (gs.map V.int)=true then _ else _;rw[Yl (f:=nmV) rfl (λ_=>rfl),tk,e];cases n with
   | none =>
    refine u4 ⟨_,rfl,z.trans (by rw[e]),?_,sm,ah⟩;rw[ajq,ajq];rfl
   | some t =>
    show if decide (t∈gs)=true then _ else _;by_cases c:t∈gs
    ·rw[decide_eq_true c]
     refine wa ⟨z.trans (by rw[e]),?_,sm,ah⟩;rw[ajq,ajq];simp[nmG,c,nmV]
    ·rw[decide_eq_false c]
     refine u4 ⟨_,rfl,z.trans (by rw[e]),?_,sm,ah⟩;rw[ajq,ajq];simp[nmG,c,nmV]
  ·rw[ai8,ajj (ajb _)]at e
   rw[e]at z;refine⟨_,rfl,A.nt,D.aF,A.ntx,_,rfl,s2 _ _ J.ant,T.dH,T.b7,by show 1<1000;decide,?_⟩;have w:=J.aiM (ns:=s.names.map (nmG gs)) hL;have sm:aE (upd (upd H L (.lst ((s.names.map (nmG gs)).map nmV))) A.nt (.ins D.aF A.ntx [("things_named",.ref L)])) (upd H2 A.nt (.ins D.aF A.ntx [("things_named",.ref L)])):=λb u q=>by
    by_cases c:b=A.nt
    ·rw[c,ah]at q ⊢;exact q
    ·rw[af c]at q ⊢
     by_cases c2:b=L
     ·rw[c2,ah]at q;rw[c2,z];exact q
     ·rw[af c2]at q;exact s2 b u q
   exact k _ _ (w.1.same sm) (w.2.trans (Fr.same sm))
noncomputable def wsF(s:HS)(gs:List Int):HS:={s with cp:=brG s.cp gs,vg:=s.vg++sdG s.cp gs}
theorem OP{s:HS}:wsF s []=s:=by cases s;simp[wsF,brG,sdG]
noncomputable def OQ(D:Ad):Sp:=λvs H Q _=>∃ x A s g gs,vs=[.ref A.wt,.ref g]∧IH D H x A s∧H g=some (.lst (gs.map V.int))∧gs.Pairwise (·< ·)∧gs.length≤10000∧s.vg.length≤10000∧∀ A' H',IH D H' x A' (wsF s gs)→Fr (cD x A s) H (cD x A' (wsF s gs)) H'→Q .non H'
noncomputable abbrev wZ:List Str:=["self", "things", "t"]
theorem nC:aw wZ ["self", "things"] (ar ke):=⟨rfl,rfl,rfl,by decide +kernel,rfl,by decide +kernel,by decide +kernel⟩
theorem vp(F:Fun K "settle" "WordTable.settle" ke D.cz D.fU)(T:Txt K mg D):Ok P w K mg base 1 D.cz D.fU ["self", "things"] (OQ D):=by
 refine⟨?_,F.binds (ps:=["self", "things"]) λ_ _ _ _ _ _ us hl=>match us,hl with|[_,_],_=>rfl⟩
 refine F.okE nC (λvs H Q E h=>?_) (λcdv A' outer s' H vs Q E hr h=>?_)
 ·obtain⟨x,A,s,g,gs,rfl,_⟩:=h
  rfl
 ·obtain⟨x,A,s,g,gs,rfl,J,hg,asc,hn,hsd,k⟩:=h
  have hu:=jV hr;refine⟨_,(PSs.nox (ai (gg ajr rfl (f7 (cw KQ rfl T.A7 PyProof.Rows.Boot.«sorted» (ab (pv 1) aj))) (a8 (i:=2) nC.nd rfl (Or.inl rfl))
    (ai (cV (rT (Ro hu (pv 2) (aI (pv 0) rfl)) (by with_unfolding_all rfl))
     (ai (aJ (M7 PySem.F.plainAttrs_list PySem.F.slot_list_append PySem.F.type_list_append vR (aI (pv 0) rfl) (ab (FH (aI (pv 0) rfl) (pv 2) ⟨rfl,rfl,rfl,rfl⟩) aj))))
     a7))))),?_⟩
  refine⟨_,rfl,g,gs,rfl,SqL.of hg,by omega,asc.imp λh=>Int.le_of_lt h,λp hp=>?_⟩;have s1:=aE.upd (o:=.lst (gs.map V.int)) hp;have J1:=J.same s1;have nfp:¬cD x A s p:=J.fresh hp;refine⟨p,rfl,⟨_,SqL.of ah⟩,jQ (K:=K) (a:=p) (xs:=gs.map V.int) (λi σ H2=>∃ v2,σ=[some (.ref A.wt),some (.ref g),v2]∧IH D H2 x A (wsF s (gs.take i))∧Fr (cD x A s) (upd H p (.lst (gs.map V.int))) (cD x A (wsF s (gs.take i))) H2)
   ⟨none,rfl,(by rw[akj,OP];exact J1),(by rw[akj,OP];exact Fr.refl)⟩ (λi σ H2 _ ⟨_,_,_,fr⟩=>SqL.of (fr.out nfp ah).1) ?_ ?_⟩
  ·rintro i y σ H2 hi ⟨v2,rfl,J2,fr⟩
   rw[ajh]at hi;obtain⟨t,ht,rfl⟩:=ajk.mp hi;have ni:=Oh asc ht;have tk:=take_snoc ht;have hi':=(ai6.mp ht).1;have lk:(brG s.cp (gs.take i)).lookup t=s.cp.lookup t:=NH ni;have vb:gR ((wsF s (gs.take i)).cp.map bkv) (Sum.inl t)=(s.cp.lookup t).map V.int:=(by rw[Xx];show((brG s.cp (gs.take i)).lookup t).map V.int=_;rw[lk]);refine⟨_,rfl,_,rfl,A.wt,D.aM,A.wtx,_,.ref A.wb,rfl,J2.awt,T.c0,T.bJ,rfl,A.wb,_,rfl,rB.k (k:=Sum.inl t) J2.awb,_,rfl,?_⟩;rw[vb,akc];cases e:s.cp.lookup t with
   | none =>
    have es:wsF s (gs.take (i+1))=wsF s (gs.take i):=by
     unfold wsF;rw[tk,Mr,Ms,e,filter_none (by rw[lk];exact e)];simp
    rw[es];exact u4 ⟨_,rfl,J2,fr⟩
   | some v =>
    have es:wsF s (gs.take (i+1))={wsF s (gs.take i) with cp:=(brG s.cp (gs.take i)).filter λp=>decide (p.1≠t),vg:=(s.vg++sdG s.cp (gs.take i))++[v]}:=by
     unfold wsF;rw[tk,Mr,Ms,e];simp
    rw[es];rw[e]at vb;refine wa ⟨_,rfl,A.wt,D.aM,A.wtx,_,.ref A.wl,rfl,J2.awt,T.c0,T.kE,rfl,.inl ⟨rfl,_,SqL.of J2.awl⟩,?_⟩;refine⟨_,rfl,A.wt,D.aM,A.wtx,_,.ref A.wb,rfl,J2.awt,T.c0,T.bJ,rfl,A.wb,rfl,.inl ⟨_,.inl J2.awb⟩,_,rfl,_,Sum.inl t,.int v,J2.awb,rfl,vb,?_⟩;rw[show tX ((wsF s (gs.take i)).cp.map bkv) (Sum.inl t)=((brG s.cp (gs.take i)).filter λp=>decide (p.1≠t)).map bkv from Tv];have w1:=J2.aeC (bs:=(brG s.cp (gs.take i)).filter λp=>decide (p.1≠t));have w2:=w1.1.aiF (zs:=(s.vg++sdG s.cp (gs.take i))++[v]);refine⟨A.wl,_,.int v,rfl,rfl,w1.1.awl,rY ?_,?_⟩
    ·have:=RI s.cp (gs.take i)
     rw[ajp]at this;show((s.vg++sdG s.cp (gs.take i)).map V.int).length≤20000;rw[ai8,aji];omega
    ·rw[ajq]at w2
     exact⟨_,rfl,w2.1,(fr.trans w1.2).trans w2.2⟩
  ·rintro σ H2 ⟨v2,rfl,J2,fr⟩
   rw[ai8,ajj (ajb _)]at J2 fr;exact k _ _ J2 ((Fr.same s1).trans fr)
noncomputable def FR(D:Ad):Sp:=λvs H Q _=>∃ x A s g gs,vs=[.ref x,.ref g]∧IH D H x A s∧s.names.length=8∧¬cD x A s g∧H g=some (.lst (gs.map V.int))∧gs.Pairwise (·< ·)∧gs.length≤10000∧s.vg.length≤10000∧(∀ t∈gs,∃ ws,(t,ws)∈s.aR)∧∀ A' H',IH D H' x A' (letGo s gs)→Fr (cD x A s) H (cD x A' (letGo s gs)) H'→Q .non H'
noncomputable abbrev Gx:List Str:=["self", "gone", "t"]
theorem uK:aw Gx ["self", "gone"] (ar qC):=⟨rfl,rfl,rfl,by decide +kernel,rfl,by decide +kernel,by decide +kernel⟩
theorem Es(F:Fun K "let_go" "Heap.let_go" qC D.cZ D.iU)(T:Txt K mg D)
  (iw:Ok P w K mg base 1 D.cA D.fV ["self", "things"] (ON D))
  (iy:Ok P w K mg base 1 D.cz D.fU ["self", "things"] (OQ D)):Ok P w K mg base 2 D.cZ D.iU ["self", "gone"] (FR D):=by
 refine⟨?_,F.binds (ps:=["self", "gone"]) λ_ _ _ _ _ _ us hl=>match us,hl with|[_,_],_=>rfl⟩
 refine F.okE uK (λvs H Q E h=>?_) (λcdv A' outer s' H vs Q E hr h=>?_)
 ·obtain⟨x,A,s,g,gs,rfl,_⟩:=h
  rfl
 ·obtain⟨x,A,s,g,gs,rfl,J,h8,nfg,hg,asc,hn,hsd,hin,k⟩:=h
  refine⟨_,(PSs.nox (ak (gg ajr rfl (f7 (pv 1)) (a8 (i:=2) uK.nd rfl (Or.inl rfl))
    (ai (aJ (FH (aI (pv 0) rfl) (pv 2) ⟨rfl,rfl,rfl,rfl⟩))))
   (ak (aJ (aK (aI (pv 0) rfl) T.dH T.vc iw.g (hr.mono (by decide)) iw.b .nil bG (ab (pv 1) aj)))
   (ai (aJ (aK (aI (pv 0) rfl) T.c0 T.va iy.g (hr.mono (by decide)) iy.b .nil bG (ab (pv 1) aj))))))),?_⟩
  refine⟨_,rfl,g,rfl,⟨_,SqL.of hg⟩,jQ (K:=K) (a:=g) (xs:=gs.map V.int) (λi σ H2=>∃ v2,σ=[some (.ref x),some (.ref g),v2]∧IH D H2 x A {s with aR:=drG s.aR (gs.take i)}∧Fr (cD x A s) H (cD x A {s with aR:=drG s.aR (gs.take i)}) H2)
   ⟨none,rfl,(by rw[akj,OL];exact J),(by rw[akj,OL];exact Fr.refl)⟩ (λi σ H2 _ ⟨_,_,_,fr⟩=>SqL.of (fr.out nfg hg).1) ?_ ?_⟩
  ·rintro i y σ H2 hi ⟨v2,rfl,J2,fr⟩
   rw[ajh]at hi;obtain⟨t,ht,rfl⟩:=ajk.mp hi;have ni:=Oh asc ht;have tk:=take_snoc ht;obtain⟨ws,m⟩:=hin t (aje ht);obtain⟨v,hv⟩:=lookup_mem (j8.mpr ⟨m,ni⟩);have vf:gR ((drG s.aR (gs.take i)).map (fkv A)) (Sum.inl t)=some (.ref (A.fa t)):=(by rw[RE,hv];rfl);refine⟨_,rfl,x,D.aa,_,_,.ref A.fh,rfl,J2.ax,T.ae,T.aC,rp,A.fh,rfl,.inl ⟨_,.inl J2.afh⟩,_,rfl,_,Sum.inl t,_,J2.afh,rfl,vf,?_⟩;have w:=J2.Yv (t:=t);rw[Tu];rw[tk,Q4];exact⟨_,rfl,w.1,fr.trans w.2⟩
  ·rintro σ H2 ⟨v2,rfl,J2,fr⟩
   rw[ai8,ajj (ajb _)]at J2 fr;obtain⟨hg2,nf2⟩:=fr.out nfg hg;refine⟨_,rfl,x,D.aa,_,_,.ref A.nt,rfl,J2.ax,T.ae,T.dA,Ql,A.nt,A.ntx,_,rfl,J2.ant,rfl,_,rfl,x,A,_,g,gs,rfl,J2,h8,hg2,λA3 H3 J3 fr3=>?_⟩;obtain⟨hg3,nf3⟩:=fr3.out nf2 hg2;refine⟨_,rfl,x,D.aa,_,_,.ref A3.wt,rfl,J3.ax,T.ae,T.ia,UA,A3.wt,A3.wtx,_,rfl,J3.awt,rfl,_,rfl,x,A3,_,g,gs,rfl,J3,hg3,asc,hn,hsd,λA4 H4 J4 fr4=>?_⟩;exact k A4 H4 J4 ((fr.trans fr3).trans fr4)
noncomputable def Mu(fs:List (Int×List Wd))(yn:List Int):List Wd:=fs.flatMap λq=>if q.1∈yn then[] else q.2
noncomputable def Hw(s:HS):List Wd:=s.bq++Mu s.aR s.yng
theorem Ia{fs:List (Int×List Wd)}{q:Int×List Wd}{yn:List Int}:Mu (fs++[q]) yn=Mu fs yn++(if q.1∈yn then[] else q.2):=by unfold Mu;rw[List.flatMap_append];simp
theorem OR{fs:List (Int×List Wd)}{yn:List Int}(h:∀ t ws,(t,ws)∈fs→ws.length≤6):(Mu fs yn).length≤6*fs.length:=by
 induction fs with
 | nil=>exact ajb _
 | cons q r ih =>
  have i:=ih λt ws m=>h t ws (ajv _ m)
  have:=h q.1 q.2 ajt
  show((if q.1∈yn then[] else q.2)++Mu r yn).length≤6*(r.length+1);rw[aji];by_cases c:q.1∈yn
  ·rw[if_pos c];simp;omega
  ·rw[if_neg c];omega
theorem Q6{fs:List (Int×List Wd)}{yn:List Int}{w:Wd}:w∈Mu fs yn↔∃ t ws,(t,ws)∈fs∧t∉yn∧w∈ws:=by
 unfold Mu;rw[List.mem_flatMap];constructor
 ·rintro⟨q,mq,h⟩
  by_cases c:q.1∈yn
  ·rw[if_pos c]at h;cases h
  ·rw[if_neg c]at h;exact⟨q.1,q.2,mq,c,h⟩
 ·rintro⟨t,ws,m,c,h⟩
  exact⟨(t,ws),m,by rw[if_neg c];exact h⟩
open Classical in
noncomputable def nF(s:HS):List Int:=s.yng.filter λt=>decide (¬Led (Hw s) (fld s) s.yng t)
noncomputable def nG(s:HS):HS:=letGo {s with yng:=[]} (nF s)
open Classical in
noncomputable def HB(s:HS):List Int:=(keys s).filter λt=>decide (¬Led s.bq (fld s) (keys s) t)
noncomputable def Tz(s:HS):HS:={s with rnd:=true,dQ:=HB s}
noncomputable def D1(s:HS):Re:=if s.rnd=true then(some .on,s) else(none,Tz (nG s))
noncomputable def UD(s:HS):HS:=letGo {s with rnd:=false,dQ:=[]} s.dQ
noncomputable def RJ(s:HS):Re:=if s.rnd=true then(none,UD s) else(some .no,s)
open Classical in
noncomputable def se(s:HS)(t:Int):HS:={s with dQ:=s.dQ.filter λu=>decide (¬Led [.th t] (fld s) s.dQ u)}
noncomputable def rdR(s:HS)(n:Option Int):HS:=match n with|some t=>if t∈s.dQ then se s t else s|none=>s
noncomputable def pj(s:HS)(h w:Int):Re:=if ok8 h then(if ok8 w then(none,rdR (rG s h (nmW (s.names.getD w.toNat none))) (s.names.getD w.toNat none)) else(some .name,s)) else(some .hand,s)
noncomputable def mkR(s:HS)(n:Int):HS:=if s.my=true∧wsum s s.yng+(n+1)>s.room then nG s else s
noncomputable def pk(s:HS)(h n:Int):Re:=if ok8 h then(if 0≤n∧n≤6 then(if held (mkR s n)+(n+1)>s.limit then(some .room,mkR s n) else(none,ND (mkR s n) h n)) else(some .count,s)) else(some .hand,s)
theorem oO{l ms:List Int}{p:Int→Bool}(h:∀ t∈l,(p t=true↔t∉ms)):l.filter p=l.filter λt=>decide (t∉ms):=aj3 λt m=>by
 have:=h t m
 by_cases c:t∈ms
 ·simp only[c,not_true,decide_false]
  cases e:p t with
  | false=>rfl
  | true=>exact absurd (this.mp e) (by simp[c])
 ·simp only[c,not_false_eq_true,decide_true]
  exact this.mpr c
open Classical in
theorem PQ{s:HS}{ms:List Int}(h:∀ t,t∈ms↔Led (Hw s) (fld s) s.yng t):(s.yng.filter λt=>decide (t∉ms))=nF s:=by
 unfold nF;refine(oO λt _=>?_).symm;rw[decide_eq_true_iff,h]
open Classical in
theorem Q7{s:HS}{ms:List Int}(h:∀ t,t∈ms↔Led s.bq (fld s) (keys s) t):((keys s).filter λt=>decide (t∉ms))=HB s:=by
 unfold HB;refine(oO λt _=>?_).symm;rw[decide_eq_true_iff,h]
open Classical in
theorem Q8{s:HS}{t:Int}{ms:List Int}(h:∀ u,u∈ms↔Led [.th t] (fld s) s.dQ u):{s with dQ:=s.dQ.filter λu=>decide (u∉ms)}=se s t:=by
 unfold se;congr 1
 refine(oO λu _=>?_).symm;rw[decide_eq_true_iff,h]
theorem TB{H:Hp}{xs ys:List V}{ws zs:List Wd}(a:Rel H xs ws)(b:Rel H ys zs):Rel H (xs++ys) (ws++zs):=by
 refine⟨by rw[aji,aji,a.1,b.1],λi v w h1 h2=>?_⟩;by_cases c:i<xs.length
 ·rw[ajQ c]at h1
  rw[ajQ (by rw[←a.1];exact c)]at h2;exact a.2 i v w h1 h2
 ·rw[ajJ (by omega)]at h1
  rw[ajJ (by rw[←a.1];omega),←a.1]at h2;exact b.2 _ v w h1 h2
structure Gd(s:HS):Prop where
 g:Good s
 dy:∀ t∈s.dQ,t∉s.yng
 dh:∀ t,Wd.th t∈s.bq→t∉s.dQ
 df:∀ u ws t,(u,ws)∈s.aR→u∉s.dQ→Wd.th t∈ws→t∉s.dQ
 rd:s.rnd=false→s.dQ=[]
theorem mem_keys{s:HS}{t:Int}:t∈keys s↔∃ ws,(t,ws)∈s.aR:=by
 unfold keys;rw[ajz];exact⟨λ⟨p,m,e⟩=>⟨p.2,by rw[←e];exact m⟩,λ⟨ws,m⟩=>⟨_,m,rfl⟩⟩
theorem TC{fs:List (Int×List Wd)}{gs:List Int}(nd:gs.Nodup)(h:∀ t∈gs,∃ ws,(t,ws)∈fs):(drG fs gs).length+gs.length≤fs.length:=by
 have e:fs.length=(fs.filter λp=>decide (p.1∉gs)).length+(fs.filter λp=>!decide (p.1∉gs)).length:=by
  clear h;induction fs with
  | nil=>rfl
  | cons p r ih =>
   rw[List.filter_cons,List.filter_cons];by_cases c:p.1∈gs
   ·simp[c]at ih ⊢;omega
   ·simp[c]at ih ⊢;omega
 have le:gs.length≤((fs.filter λp=>!decide (p.1∉gs)).map (·.1)).length:=r8 nd λt m=>by
  obtain⟨ws,mw⟩:=h t m;exact ajz.mpr ⟨(t,ws),ajP.mpr ⟨mw,by simp[m]⟩,rfl⟩
 rw[ai8]at le;unfold drG;omega
theorem Good.letGo{s:HS}(g:Good s){gs:List Int}(asc:gs.Pairwise (·< ·))(hin:∀ t∈gs,∃ ws,(t,ws)∈s.aR)(hh:∀ t,Wd.th t∈s.bq→t∉gs)(hf:∀ u ws t,(u,ws)∈s.aR→u∉gs→Wd.th t∈ws→t∉gs)(hy:∀ t∈s.yng,t∉gs)(hd:∀ t∈s.dQ,t∉gs):Good (letGo s gs) where
 h8:=g.h8
 n8:=by show(s.names.map (nmG gs)).length=8;rw[ai8];exact g.n8
 asc:=akn (List.Sublist.map _ akg) g.asc
 lt:=λt ws m=>g.lt t ws (j8.mp m).1
 f6:=λt ws m=>g.f6 t ws (j8.mp m).1
 hh:=λt m=>by obtain⟨ws,q⟩:=g.hh t m;exact⟨ws,j8.mpr ⟨q,hh t m⟩⟩
 ff:=λu ws t m h=>by obtain⟨w',q⟩:=g.ff u ws t (j8.mp m).1 h;exact⟨w',j8.mpr ⟨q,hf u ws t (j8.mp m).1 (j8.mp m).2 h⟩⟩
 nn:=λt m=>by
  obtain⟨n,mn,e⟩:=ajz.mp (show some t∈s.names.map (nmG gs) from m);cases n with
  | none=>cases e
  | some u =>
   have e:(if u∈gs then none else some u)=some t:=e;by_cases c:u∈gs
   ·rw[if_pos c]at e;cases e
   ·rw[if_neg c]at e
    cases e;obtain⟨ws,q⟩:=g.nn t mn;exact⟨ws,j8.mpr ⟨q,c⟩⟩
 b12:=ajy (aj7 _ _) g.b12
 bk:=λt z m=>by
  have m:=ajP.mp (show(t,z)∈brG s.cp gs from m);obtain⟨ws,q⟩:=g.bk t z m.1;exact⟨ws,j8.mpr ⟨q,by simpa using m.2⟩⟩
 bnd:=akn (List.Sublist.map _ akg) g.bnd
 n0:=g.n0
 nx:=g.nx
 sd:=by
  have h1:=g.sd;have h2:=TC (rF asc) hin;have h3:=RI s.cp gs;show((s.vg++sdG s.cp gs).length:Int)+(drG s.aR gs).length≤s.nxt;rw[aji];omega
 yk:=λt m=>by obtain⟨ws,q⟩:=g.yk t m;exact⟨ws,j8.mpr ⟨q,hy t m⟩⟩
 D8:=g.D8
 dk:=λt m=>by obtain⟨ws,q⟩:=g.dk t m;exact⟨ws,j8.mpr ⟨q,hd t m⟩⟩
 Fq:=g.Fq
theorem Good.noY{s:HS}(g:Good s):Good {s with yng:=[]}:=⟨g.h8,g.n8,g.asc,g.lt,g.f6,g.hh,g.ff,g.nn,g.b12,g.bk,g.bnd,g.n0,g.nx,g.sd,(λt m=>nomatch m),List.Pairwise.nil,g.dk,g.Fq⟩
theorem Good.noD{s:HS}(g:Good s){b:Bool}:Good {s with rnd:=b,dQ:=[]}:=⟨g.h8,g.n8,g.asc,g.lt,g.f6,g.hh,g.ff,g.nn,g.b12,g.bk,g.bnd,g.n0,g.nx,g.sd,g.yk,g.D8,(λt m=>nomatch m),List.Pairwise.nil⟩
theorem Good.aiP{s:HS}(g:Good s){b:Bool}{ds:List Int}(h:∀ t∈ds,∃ ws,(t,ws)∈s.aR)(a:ds.Pairwise (·< ·)):Good {s with rnd:=b,dQ:=ds}:=⟨g.h8,g.n8,g.asc,g.lt,g.f6,g.hh,g.ff,g.nn,g.b12,g.bk,g.bnd,g.n0,g.nx,g.sd,g.yk,g.D8,h,a⟩
theorem iP{s:HS}{t:Int}:t∈nF s↔t∈s.yng∧¬Led (Hw s) (fld s) s.yng t:=by unfold nF;rw[ajP];simp
theorem Ft{s:HS}(g:Good s):(nF s).Pairwise (·< ·):=akn akg g.D8
theorem Ib{s:HS}(g:Good s):∀ t∈nF s,∃ ws,(t,ws)∈s.aR:=λt m=>g.yk t (iP.mp m).1
theorem TH{s:HS}{t:Int}(h:Wd.th t∈s.bq):t∉nF s:=λm=>(iP.mp m).2 (.root (ajD _ h) (iP.mp m).1)
theorem Vu{s:HS}(g:Good s){u t:Int}{ws:List Wd}(m:(u,ws)∈s.aR)(hu:u∉nF s)(h:Wd.th t∈ws):t∉nF s:=λmt=>by
 by_cases c:u∈s.yng
 ·have lu:Led (Hw s) (fld s) s.yng u:=akt λz=>hu (iP.mpr ⟨c,z⟩)
  exact(iP.mp mt).2 (.step lu (by rw[g.fld m];exact h) (iP.mp mt).1)
 ·exact(iP.mp mt).2 (.root (ajf _ (Q6.mpr ⟨u,ws,m,c,h⟩)) (iP.mp mt).1)
theorem Gd.small{s:HS}(d:Gd s):Gd (nG s) where
 g:=d.g.noY.letGo (Ft d.g) (Ib d.g) (λt h=>TH h) (λu ws t m hu h=>Vu d.g m hu h) (λt m=>nomatch m) (λt m z=>d.dy t m (iP.mp z).1)
 dy:=λt _ m=>nomatch m
 dh:=d.dh
 df:=λu ws t m hu h=>d.df u ws t (j8.mp m).1 hu h
 rd:=d.rd
theorem pq{s:HS}{t:Int}:t∈HB s↔t∈keys s∧¬Led s.bq (fld s) (keys s) t:=by unfold HB;rw[ajP];simp
theorem Gd.beg{s:HS}(d:Gd s)(hy:s.yng=[]):Gd (Tz s) where
 g:=d.g.aiP (λt m=>mem_keys.mp (pq.mp m).1) (akn akg d.g.asc)
 dy:=λt _ m=>by rw[show(Tz s).yng=[] from hy]at m;cases m
 dh:=λt h m=>(pq.mp m).2 (.root h (pq.mp m).1)
 df:=λu ws t m hu h mt=>by
  have lu:Led s.bq (fld s) (keys s) u:=akt λz=>hu (pq.mpr ⟨mem_keys.mpr ⟨ws,m⟩,z⟩);exact(pq.mp mt).2 (.step lu (by rw[d.g.fld m];exact h) (pq.mp mt).1)
 rd:=λh=>by cases h
theorem Gd.fin{s:HS}(d:Gd s):Gd (UD s) where
 g:=d.g.noD.letGo d.g.Fq d.g.dk (λt h=>d.dh t h) (λu ws t m hu h=>d.df u ws t m hu h) (λt m z=>d.dy t z m) (λt m=>nomatch m)
 dy:=λt m=>nomatch m
 dh:=λt _ m=>nomatch m
 df:=λu ws t _ _ _ m=>nomatch m
 rd:=λ_=>rfl
theorem rJ{s:HS}{t u:Int}:u∈(se s t).dQ↔u∈s.dQ∧¬Led [.th t] (fld s) s.dQ u:=by unfold se;rw[ajP];simp
structure GdN(s:HS):Prop where
 g:Good s
 dy:∀ t∈s.dQ,t∉s.yng
 df:∀ u ws t,(u,ws)∈s.aR→u∉s.dQ→Wd.th t∈ws→t∉s.dQ
 rd:s.rnd=false→s.dQ=[]
theorem Good.Yw{s:HS}(g:Good s){ds:List Int}(h:ds.Sublist s.dQ):Good {s with dQ:=ds}:=⟨g.h8,g.n8,g.asc,g.lt,g.f6,g.hh,g.ff,g.nn,g.b12,g.bk,g.bnd,g.n0,g.nx,g.sd,g.yk,g.D8,(λt m=>g.dk t (h.subset m)),g.Fq.sublist h⟩
theorem Gd.Yx{s:HS}(d:GdN s){t:Int}(ht:t∈s.dQ)(hh:∀ u,Wd.th u∈s.bq→u=t∨u∉s.dQ):Gd (se s t) where
 g:=d.g.Yw akg
 dy:=λu m=>d.dy u (rJ.mp m).1
 dh:=λu h m=>by
  rcases hh u h with e|e
  ·exact(rJ.mp m).2 (by rw[e];exact .root ajt ht)
  ·exact e (rJ.mp m).1
 df:=λu ws v m hu h mv=>by
  obtain⟨v1,v2⟩:=rJ.mp mv;by_cases c:u∈s.dQ
  ·have lu:Led [.th t] (fld s) s.dQ u:=akt λz=>hu (rJ.mpr ⟨c,z⟩)
   exact v2 (.step lu (by rw[d.g.fld m];exact h) v1)
  ·exact d.df u ws v m c h v1
 rd:=λh=>by
  have:=d.rd h
  show s.dQ.filter _=[];rw[this];rfl
theorem OS{s:HS}{n:Int}:(mkR s n).limit=s.limit:=by unfold mkR;split<;>rfl
theorem BG{s:HS}{n:Int}:(mkR s n).nxt=s.nxt:=by unfold mkR;split<;>rfl
theorem Gd.mkd{s:HS}(d:Gd s){n:Int}:Gd (mkR s n):=by
 unfold mkR;split
 ·exact d.small
 ·exact d
noncomputable def Ic(D:Ad):Sp:=λvs H Q _=>∃ x A s,vs=[.ref x]∧IH D H x A s∧Good s∧∀ v A' H',IH D H' x A' (nG s)→Fr (cD x A s) H (cD x A' (nG s)) H'→Q v H'
noncomputable abbrev oq:List Str:=["self", "leads", "t", "kept", "gone"]
theorem fB:aw oq ["self"] (ar ig):=⟨rfl,rfl,rfl,by decide +kernel,rfl,by decide +kernel,by decide +kernel⟩
theorem vq(F:Fun K "small_round" "Heap.small_round" ig D.bF D.fW)(T:Txt K mg D)
  (bc:Ok P w K mg base 1 D.bO D.dB ["self"] (nR D))
  (bB:Ok P w K mg base 3 D.bA D.eB ["self", "leads", "things"] (Kt D))
  (fN:Ok P w K mg base 2 D.cZ D.iU ["self", "gone"] (FR D)):Ok P w K mg base 4 D.bF D.fW ["self"] (Ic D):=by
 refine⟨?_,F.binds (ps:=["self"]) λ_ _ _ _ _ _ us hl=>match us,hl with|[_],_=>rfl⟩
 refine F.okE fB (λvs H Q E h=>?_) (λcdv A' outer s' H vs Q E hr h=>?_)
 ·obtain⟨x,A,s,rfl,_⟩:=h
  rfl
 ·obtain⟨x,A,s,rfl,J,G,k⟩:=h
  have hu:=jV hr;refine⟨_,(PSs.nox (ak (aW (i:=1) fB.nd rfl (Or.inl rfl) (bM (aI (pv 0) rfl) T.aY T.kh bc.g (hr.mono (by decide)) bc.b .nil bG))
   (ak (gg ajr rfl (wj (DZ (aI (pv 0) rfl))) (a8 (i:=2) fB.nd rfl (Or.inl rfl))
    (ai (cV (rT (mL hu (pv 2) (aI (pv 0) rfl)) (by with_unfolding_all rfl))
     (ai (aJ (M7 PySem.F.plainAttrs_list PySem.F.slot_list_extend PySem.F.type_list_extend Ph (pv 1) (ab (gS hu (aI (pv 0) rfl) (pv 2) (λ_ _=>rfl)) aj))))
     a7)))
   (ak (RA (aW (i:=3) fB.nd rfl (Or.inr rfl) (aK (pv 0) T.ae T.ic bB.g (hr.mono (by decide)) bB.b .nil bG (ab (pv 1) (ab (aI (pv 0) rfl) aj)))))
   (ak (QU (cl:=[("kept",s'.heap.objs.size+1)]) (x := "t") (idx:=[3]) (NC:=["t", "kept"]) (i:=4) fB.nd rfl rfl ?co1 rfl (wj (DZ (aI (pv 0) rfl))) (λC fp s₀ H₀=>(rT (mL hu (pv 0) (pv 1)) (by with_unfolding_all rfl))) (λC fp s₀ H₀=>(pv 0)))
   (ak (RA (hJ (pv 0) jR rfl))
   (ak (aJ (aK (pv 0) T.ae T.nA fN.g (hr.mono (by decide)) fN.b .nil bG (ab (pv 4) aj)))
   (ai (aP (pv 4)))))))))),?_⟩
  case co1 =>
   exact kD (sc:=ar ig) (N:=oq) (ns:=["kept"]) rfl rfl rfl (by decide +kernel) rfl rfl (by
    intro q hq;rw[ai9.mp hq];rfl)
  refine⟨_,rfl,x,D.aa,_,_,.ref A.hd,rfl,J.ax,T.ae,T.aB,nQ,A.hd,A.hdx,_,rfl,J.ahd,rfl,A.hd,A.hdx,A.hl,A.hx,s.bq,rfl,J.hn G,λp H1 s1 hp z1=>?_⟩;have J1:=J.same s1;have nfp:¬cD x A s p:=J.fresh hp;refine⟨_,rfl,x,D.aa,_,_,.ref A.fh,rfl,J1.ax,T.ae,T.aC,rp,A.fh,_,J1.afh,λo=>?_⟩;have yf:A.yg≠A.fh:=ajm J.d4;have pf:p≠A.fh:=λe=>nfp (by rw[e];exact .fh);have py:p≠A.yg:=λe=>nfp (by rw[e];exact .yg);have lk:(s.aR.map (fkv A)).length=s.aR.length:=ai8 _;refine⟨A.fh,o,_,rfl,ah,A5 (d:=A.fh) (o:=o) (kvs:=s.aR.map (fkv A)) (λi σ Hc=>∃ v2,σ=[some (.ref x),some (.ref p),v2,none,none]∧((∀ b u,b≠A.fh→b≠p→H1 b=some u→Hc b=some u)∧Hc A.fh=some (.frz o (.dK (s.aR.map (fkv A)))))∧∃ ys,Hc p=some (.lst ys)∧Rel Hc ys (s.bq++Mu (s.aR.take i) s.yng))
   ⟨none,rfl,⟨λb u n _ q=>by rw[af n];exact q,ah⟩,A.hx,by rw[af pf];exact z1,by rw[akj,show Mu [] s.yng=[] from rfl,ajV];exact J1.rhl.keep (cv.set J1.afh (λ_ z=>nomatch z))⟩ (λi σ Hc _ ⟨_,_,oc,_⟩=>oc.2) ?_ ?_⟩
  ·rintro i q σ Hc hi ⟨v2,rfl,oc,ys,hy,ry⟩
   rw[ajh]at hi;obtain⟨⟨t,ws⟩,ht,rfl⟩:=ajk.mp hi;have m:=aje ht;have tk:=take_snoc ht;obtain⟨hl,rl⟩:=J1.afl _ _ m;have nlf:A.fa t≠A.fh:=ay hl J1.afh (by intro z;cases z);have nlp:A.fa t≠p:=λe=>nfp (by rw[←e];exact .fl m);have hlc:=oc.1 _ _ nlf nlp hl;have tc:cv H1 Hc:=λb us q=>oc.1 b _ (ay q J1.afh (by intro z;cases z)) (ay q z1 (by intro z;cases z)) q;have xf:x≠A.fh:=ay J1.ax J1.afh (by intro z;cases z);have xp:x≠p:=λe=>nfp (by rw[←e];exact .x);have axc:=oc.1 _ _ xf xp J1.ax;have ygc:=oc.1 _ _ yf (ajm py) J1.ayg;refine⟨_,rfl,_,rfl,x,D.aa,_,_,.ref A.yg,rfl,axc,T.ae,T.bE,Ny,A.yg,_,rfl,rB.k (k:=Sum.inl t) ygc,_,rfl,?_⟩;rw[(Fs s.yng).isS];by_cases c:t∈s.yng
   ·rw[decide_eq_true c]
    refine u4 ⟨_,rfl,oc,ys,hy,?_⟩;rw[tk,Ia,if_pos c,ajV];exact ry
   ·rw[decide_eq_false c]
    have fl:=OR (fs:=s.aR.take i) (yn:=s.yng) λt ws m=>G.f6 t ws (aka m);have f6:=G.f6 _ _ m;have fw:=G.few;have ly:ys.length≤60100:=(by rw[ry.1,aji,G.h8];rw[ajp]at fl;omega);refine wa ⟨_,rfl,.inl ⟨rfl,_,SqL.of hy⟩,_,rfl,x,D.aa,_,_,.ref A.fh,rfl,axc,T.ae,T.aC,rp,_,rfl,A.fh,.ref (A.fa t),rfl,.inl ⟨_,Sum.inl t,.inr ⟨o,oc.2⟩,rfl,by rw[RE,G.get m];rfl⟩,p,A.fa t,ys,A.fx t,rfl,rfl,hy,hlc,?_,?_⟩
    ·have:=rl.1
     exact ajy (show ys.length+(A.fx t).length≤70000 by omega) (by decide)
    ·refine⟨_,rfl,⟨λb u n1 n2 q=>by rw[af n2];exact oc.1 b u n1 n2 q,by rw[af (ajm pf)];exact oc.2⟩,_,ah,?_⟩
     rw[tk,Ia,if_neg c,←ako];exact((TB ry (rl.keep tc)).keep (cv.set hy (λ_ z=>nomatch z)))
  ·rintro σ Hc ⟨v2,rfl,oc,ys,hy,ry⟩
   rw[lk,ajj (ajb _)]at ry;refine⟨A.fh,o,_,oc.2,(λo' u' q=>by have q:H A.fh=some (.frz o' u'):=q;rw[J.afh]at q;cases q),?_⟩;have kp:∀ b u,b≠p→H1 b=some u→upd Hc A.fh (.dK (s.aR.map (fkv A))) b=some u:=λb u n q=>by
    by_cases c:b=A.fh
    ·subst c
     rw[J1.afh]at q;cases q;exact ah
    ·rw[af c];exact oc.1 b u c n q
   have hy2:upd Hc A.fh (.dK (s.aR.map (fkv A))) p=some (.lst ys):=(by rw[af pf];exact hy);have ry2:Rel (upd Hc A.fh (.dK (s.aR.map (fkv A)))) ys (Hw s):=ry.keep (λb us q=>by rw[af λe=>by rw[e,oc.2]at q;cases q];exact q);obtain⟨H2,e2⟩:∃ H2,upd Hc A.fh (.dK (s.aR.map (fkv A)))=H2:=⟨_,rfl⟩;rw[e2]at kp hy2 ry2 ⊢;clear e2 ry hy oc;have t2:cv H1 H2:=λb us q=>kp b _ (ay q z1 (by intro z;cases z)) q;have J2:IH D H2 x A s:=J1.keep (λb u f q=>kp b u (λe=>nfp (by rw[←e];exact f)) q) t2;have fr2:Fr (cD x A s) H (cD x A s) H2:=⟨λb u n q=>kp b u (aq q hp) (s1 _ _ q),λ_ f=>.inl f,λb u q=>⟨u,kp b u (aq q hp) (s1 _ _ q)⟩,(cv.of s1).trans t2⟩;have fl:=OR (fs:=s.aR) (yn:=s.yng) G.f6;have fw:=G.few;refine⟨_,rfl,x,_,_,rfl,J2.ax,(by kernel_rfl),_,rfl,_,rfl,x,D.aa,_,_,.ref A.yg,rfl,J2.ax,T.ae,T.bE,Ny,x,A,s,p,ys,Hw s,A.yg,_,s.yng,rfl,J2,G,hy2,ry2,by unfold Hw;rw[aji,G.h8];omega,J2.ayg,Fs _,G.yk,rF G.D8,Gu G,λst kv ms H3 s3 hst h3 k3 n3 m3=>?_⟩;have J3:=J2.same s3;refine⟨_,rfl,x,D.aa,_,_,.ref A.yg,rfl,J3.ax,T.ae,T.bE,Ny,A.yg,_,J3.ayg,λo2=>?_⟩;refine⟨A.yg,o2,_,rfl,ah,λL hL=>?_⟩;have nsy:st≠A.yg:=λe=>by rw[e,J2.ayg]at hst;cases hst
   have st3:upd H3 A.yg (.frz o2 (.dK (s.yng.map tkv))) st=some (.dK kv):=(by rw[af nsy];exact h3);refine Nb (d:=A.yg) (o:=o2) (kvs:=s.yng.map tkv) (λi zs Hc=>zs=((s.yng.take i).filter λt=>decide (t∉ms)).map V.int∧aE (upd H3 A.yg (.frz o2 (.dK (s.yng.map tkv)))) Hc∧Hc L=some (.lst zs)) ⟨rfl,aE.upd hL,ah⟩ (λi zs Hc hi ⟨e,_,z⟩=>⟨z,by rw[e,ai8];exact ajy (aj7 _ _) (by rw[ajp];omega)⟩) (λi zs Hc _ ⟨_,sc,_⟩=>sc _ _ ah) (by rw[ai8];exact wz (ajy (Gu G) (by decide))) (λi q zs Hc hi ⟨e,sc,z⟩=>?_) (λzs Hc ⟨e,sc,z⟩=>?_)
   ·obtain⟨t,ht,ekv,ep⟩:=(Fs s.yng).at_ hi
    have tk:=take_snoc ht;rw[ekv];refine⟨_,rfl,_,rfl,st,_,rfl,rB.k (k:=Sum.inl t) (sc _ _ st3),_,rfl,?_⟩;rw[k3.isS];by_cases c:t∈ms
    ·rw[decide_eq_true c]
     refine u4 ⟨?_,sc,z⟩;rw[tk,akA,e];simp[c]
    ·rw[decide_eq_false c]
     refine wa ⟨_,rfl,z,?_,λb u q=>by rw[af (aq q hL)];exact sc b u q,ah⟩;rw[tk,akA,e];simp[c]
   ·rw[ai8,ajj (ajb _)]at e
    have eg:(s.yng.filter λt=>decide (t∉ms))=nF s:=PQ m3;rw[eg]at e;subst e;refine⟨A.yg,o2,_,sc _ _ ah,(λo' u' q=>by have q:H A.yg=some (.frz o' u'):=q;rw[J.ayg]at q;cases q),?_⟩;have sm:aE H3 (upd Hc A.yg (.dK (s.yng.map tkv))):=λb u q=>by
     by_cases c:b=A.yg
     ·subst c
      rw[J3.ayg]at q;cases q;exact ah
     ·rw[af c];exact sc b u (by rw[af c];exact q)
    have nLy:L≠A.yg:=λe=>by rw[e,ah]at hL;cases hL
    have zL:upd Hc A.yg (.dK (s.yng.map tkv)) L=some (.lst ((nF s).map V.int)):=(by rw[af nLy];exact z);have hL3:H3 L=none:=(by rw[af nLy]at hL;exact hL);have aiQ:=J3.fresh hL3;obtain⟨H4,e4⟩:∃ H4,upd Hc A.yg (.dK (s.yng.map tkv))=H4:=⟨_,rfl⟩;rw[e4]at sm zL ⊢;clear e4;have J4:=J3.same sm;intro p2 hp2;have w:=J4.aiK hp2;have xp2:x≠p2:=aq J4.ax hp2;refine⟨_,rfl,x,D.aa,A.dx,_,rfl,(by rw[af xp2];exact J4.ax),T.ae,T.bE,by show 11<1000;decide,?_⟩;obtain⟨J5,fr5⟩:=w;have oL:=fr5.out aiQ zL;refine⟨_,rfl,x,_,_,rfl,J5.ax,(by kernel_rfl),_,rfl,x,_,_,L,nF s,rfl,J5,G.n8,oL.2,oL.1,Ft G,ajy (aj7 _ _) (Gu G),(by have:=G.sd;have:=G.nx;show s.vg.length≤10000;omega),Ib G,λA6 H6 J6 fr6=>⟨_,rfl,k _ A6 H6 J6 ((((fr2.trans (Fr.same s3)).trans (Fr.same sm)).trans fr5).trans fr6)⟩⟩
noncomputable def Bb(D:Ad):Sp:=λvs H Q _=>∃ x A s,vs=[.ref x]∧IH D H x A s∧Good s∧∀ A' H',IH D H' x A' (nG s)→Fr (cD x A s) H (cD x A' (nG s)) H'→Q .non H'
noncomputable abbrev zi:List Str:=["self"]
theorem w8:aw zi ["self"] (ar kP):=⟨rfl,rfl,rfl,by decide +kernel,rfl,by decide +kernel,by decide +kernel⟩
theorem xa(F:Fun K "small" "IdealHeap.small" kP D.bQ D.dD)(T:Txt K mg D)
  (iA:Ok P w K mg base 4 D.bF D.fW ["self"] (Ic D)):Ok P w K mg base 5 D.bQ D.dD ["self"] (Bb D):=by
 refine⟨?_,F.binds (ps:=["self"]) λ_ _ _ _ _ _ us hl=>match us,hl with|[_],_=>rfl⟩
 refine F.okE w8 (λvs H Q E h=>?_) (λcdv A' outer s' H vs Q E hr h=>?_)
 ·obtain⟨x,A,s,rfl,_⟩:=h
  rfl
 ·obtain⟨x,A,s,rfl,J,G,k⟩:=h
  refine⟨_,(PSs.nox (ai (aJ (bM (pv 0) T.ae T.pV iA.g (hr.mono (by decide)) iA.b .nil bG)))),?_⟩;exact⟨_,rfl,x,_,_,rfl,J.ax,(by kernel_rfl),x,A,s,rfl,J,G,λv A' H' J' fr=>k A' H' J' fr⟩
noncomputable def RK(D:Ad):Sp:=λvs H Q E=>∃ x A s,vs=[.ref x]∧IH D H x A s∧Gd s∧Fin D x A s H (D1 s) Q E
theorem IH.aiR{D:Ad}{H:Hp}{x:Addr}{A:HA}{s:HS}(J:IH D H x A s){b:Addr}(f:cD x A s b)(o:Obj)(u:HO):H b≠some (.frz o u):=by
 intro q;cases f with
 | x=>rw[J.ax]at q;cases q
 | hd=>rw[J.ahd]at q;cases q
 | hl=>rw[J.ahl]at q;cases q
 | nt=>rw[J.ant]at q;cases q
 | nl=>rw[J.anl]at q;cases q
 | wt=>rw[J.awt]at q;cases q
 | wb=>rw[J.awb]at q;cases q
 | wl=>rw[J.awl]at q;cases q
 | fh=>rw[J.afh]at q;cases q
 | yg=>rw[J.ayg]at q;cases q
 | dm=>rw[J.adm]at q;cases q
 | fl m=>rw[(J.afl _ _ m).1]at q;cases q
noncomputable abbrev zj:List Str:=["self", "kept", "t"]
theorem km:aw zj ["self"] (ar kQ):=⟨rfl,rfl,rfl,by decide +kernel,rfl,by decide +kernel,by decide +kernel⟩
theorem xb(F:Fun K "begin" "IdealHeap.begin" kQ D.cS D.gA)(T:Txt K mg D)
  (ag:Ok P w K mg base 1 D.ao D.aA ["self", "text"] (Bn K))
  (bg:Ok P w K mg base 5 D.bQ D.dD ["self"] (Bb D))
  (bc:Ok P w K mg base 1 D.bO D.dB ["self"] (nR D))
  (bB:Ok P w K mg base 3 D.bA D.eB ["self", "leads", "things"] (Kt D)):Ok P w K mg base 6 D.cS D.gA ["self"] (RK D):=by
 refine⟨?_,F.binds (ps:=["self"]) λ_ _ _ _ _ _ us hl=>match us,hl with|[_],_=>rfl⟩
 refine F.okE km (λvs H Q E h=>?_) (λcdv A' outer s' H vs Q E hr h=>?_)
 ·obtain⟨x,A,s,rfl,_⟩:=h
  rfl
 ·obtain⟨x,A,s,rfl,J,Gs,k⟩:=h
  have hu:=jV hr;refine⟨_,(ak (cV (AW (aI (pv 0) rfl))
    (ai (fP rfl kz (kA T.Nr ag.g (hr.mono (by decide)) rfl T.Np ag.b (Passes.x (aQ λ_ _ _ q=>q)) (ab fg aj))))
    a7)
   (ak (aJ (bM (pv 0) T.ae T.kj bg.g (hr.mono (by decide)) bg.b .nil (Passes.x (aQ λ_ _ _ q=>q))))
   (ak (hJ (pv 0) yi rfl)
   (ak (aW (i:=1) km.nd rfl (Or.inl rfl) (aK (pv 0) T.ae T.ic bB.g (hr.mono (by decide)) bB.b .nil (Passes.x (aQ λ_ _ _ q=>q)) (ab (bM (aI (pv 0) rfl) T.aY T.kh bc.g (hr.mono (by decide)) bc.b .nil (Passes.x (aQ λ_ _ _ q=>q))) (ab (aI (pv 0) rfl) aj))))
   (ai (PS.nox (To (gg ajr rfl (wj (DZ (aI (pv 0) rfl))) (a8 (i:=2) km.nd rfl (Or.inl rfl))
    (ai (cV (rT (mL hu (pv 2) (pv 1)) (by with_unfolding_all rfl))
     (ai (ny hu (aI (pv 0) rfl) (pv 2) yi rfl))
     a7)))))))))),?_⟩
  refine⟨_,rfl,x,D.aa,_,_,.bl s.rnd,rfl,J.ax,T.ae,T.c7,Sn,_,rfl,?_⟩;by_cases c:s.rnd=true
  ·rw[show D1 s=(some .on,s) from if_pos c]at k
   exact nW c (λea hea=>cM T.Nq (λ_ q=>q) (k.bad J) ea hea)
  ·rw[show D1 s=(none,Tz (nG s)) from if_neg c]at k
   refine ku (ajL.mpr c) ?_;refine⟨_,rfl,x,_,_,rfl,J.ax,(by kernel_rfl),x,A,s,rfl,J,Gs.g,λA1 H1 J1 fr1=>?_⟩;have G1:=Gs.small;have d0:(nG s).dQ=[]:=Gs.rd (ajL.mpr c);obtain⟨s1,es⟩:∃ s1,nG s=s1:=⟨_,rfl⟩;rw[es]at J1 fr1 G1 k d0;refine⟨_,rfl,x,D.aa,A1.dx,_,rfl,J1.ax,T.ae,T.c7,by show 11<1000;decide,?_⟩;have w2:=J1.aeE (n:=true);obtain⟨H2,e2⟩:∃ H2,upd H1 x (.ins D.aa A1.dx (iK "in_round" (.bl true) (atts A1 s1)))=H2:=⟨_,rfl⟩;rw[e2]at w2;show JZ _ _ _ _ (upd H1 x (.ins D.aa A1.dx (iK "in_round" (.bl true) (atts A1 s1))));rw[e2];clear e2;obtain⟨J2,fr2⟩:=w2;have G2:Good {s1 with rnd:=true}:=⟨G1.g.h8,G1.g.n8,G1.g.asc,G1.g.lt,G1.g.f6,G1.g.hh,G1.g.ff,G1.g.nn,G1.g.b12,G1.g.bk,G1.g.bnd,G1.g.n0,G1.g.nx,G1.g.sd,G1.g.yk,G1.g.D8,G1.g.dk,G1.g.Fq⟩;refine⟨_,rfl,x,_,_,rfl,J2.ax,(by kernel_rfl),_,rfl,x,D.aa,_,_,.ref A1.hd,rfl,J2.ax,T.ae,T.aB,nQ,A1.hd,A1.hdx,_,rfl,J2.ahd,rfl,A1.hd,A1.hdx,A1.hl,A1.hx,s1.bq,rfl,J2.hn G2,λp H3 s3 hp z3=>?_⟩;have J3:=J2.same s3;refine⟨_,rfl,x,D.aa,_,_,.ref A1.fh,rfl,J3.ax,T.ae,T.aC,rp,x,A1,_,p,A1.hx,s1.bq,A1.fh,_,keys s1,rfl,J3,G2,z3,J3.rhl,by rw[G1.g.h8];decide,J3.afh,Qm s1 A1,(λt m=>mem_keys.mp m),rF G1.g.asc,by unfold keys;rw[ai8];exact G1.g.few,λst kv ms H4 s4 hst h4 k4 n4 m4=>?_⟩;have J4:=J3.same s4;have fr4:=((fr1.trans fr2).trans (Fr.same s3)).trans (Fr.same s4);refine⟨_,rfl,x,D.aa,_,_,.ref A1.fh,rfl,J4.ax,T.ae,T.aC,rp,A1.fh,_,J4.afh,λo=>?_⟩;have df:A1.dm≠A1.fh:=ajm J4.d5;have sf:st≠A1.fh:=aq J3.afh hst |>.symm;have sd:st≠A1.dm:=aq J3.adm hst |>.symm;have xf:x≠A1.fh:=ay J4.ax J4.afh (by intro z;cases z);have xd:x≠A1.dm:=ay J4.ax J4.adm (by intro z;cases z);have aiS:H4 A1.dm=some (.dK []):=by have:=J4.adm;rw[show({s1 with rnd:=true}:HS).dQ=[] from d0]at this;exact this
   refine⟨A1.fh,o,_,rfl,ah,A5 (d:=A1.fh) (o:=o) (kvs:=s1.aR.map (fkv A1)) (λi σ Hc=>∃ v2,σ=[some (.ref x),some (.ref st),v2]∧((∀ b u,b≠A1.fh→b≠A1.dm→H4 b=some u→Hc b=some u)∧Hc A1.fh=some (.frz o (.dK (s1.aR.map (fkv A1)))))∧Hc A1.dm=some (.dK ((((keys s1).take i).filter λt=>decide (t∉ms)).map tkv)))
    ⟨none,rfl,⟨λb u n _ q=>by rw[af n];exact q,ah⟩,by rw[af df];exact aiS⟩ (λi σ Hc _ ⟨_,_,oc,_⟩=>oc.2) ?_ ?_⟩
   ·rintro i q σ Hc hi ⟨v2,rfl,oc,hdm⟩
    obtain⟨t,ht,ekv,ep⟩:=(Qm s1 A1).at_ hi;have tk:=take_snoc ht;rw[ekv];refine⟨_,rfl,_,rfl,st,_,rfl,rB.k (k:=Sum.inl t) (oc.1 _ _ sf sd h4),_,rfl,?_⟩;rw[k4.isS];by_cases c2:t∈ms
    ·rw[decide_eq_true c2]
     refine u4 ⟨_,rfl,oc,?_⟩;rw[tk,akA,hdm];simp[c2]
    ·rw[decide_eq_false c2]
     have ni:t∉((keys s1).take i).filter λt=>decide (t∉ms):=λz=>Oh (show(keys s1).Pairwise (·< ·) from G1.g.asc) ht (ajP.mp z).1;have lz:((((keys s1).take i).filter λt=>decide (t∉ms)).map tkv).length<sizeLine:=by
      rw[ai8];refine rY (ajy (aj7 _ _) ?_)
      have:=G1.g.few
      rw[ajp];unfold keys;rw[ai8];omega
     refine wa ⟨_,rfl,x,D.aa,_,_,.ref A1.dm,rfl,oc.1 _ _ xf xd J4.ax,T.ae,T.bw,Nz,_,rfl,A1.dm,_,rfl,D7.k (k:=Sum.inl t) hdm lz,?_⟩;refine⟨_,rfl,⟨λb u n1 n2 q=>by rw[af n2];exact oc.1 b u n1 n2 q,by rw[af (ajm df)];exact oc.2⟩,?_⟩;rw[ah,u9 _ ((Fs _).non ni),tk,akA,ajq];simp[c2,tkv]
   ·rintro σ Hc ⟨v2,rfl,oc,hdm⟩
    rw[ai8,ajj (by unfold keys;rw[ai8];exact ajb _),Q7 (show ∀ t,t∈ms↔Led s1.bq (fld s1) (keys s1) t from m4)]at hdm;refine⟨A1.fh,o,_,oc.2,(λo' u' q=>?_),?_⟩
    ·have q:H A1.fh=some (.frz o' u'):=q
     rcases(fr1.grow A1.fh .fh) with f|f
     ·obtain⟨u,hu1,_⟩:=J.is f
      rw[q]at hu1;cases hu1;obtain⟨u2,hu2,_⟩:=J.is f;exact absurd q (J.aiR f o' u')
     ·rw[f]at q;cases q
    ·have w5:=J4.aeD (ts:=HB s1)
     have sm:aE (upd H4 A1.dm (.dK ((HB s1).map tkv))) (upd Hc A1.fh (.dK (s1.aR.map (fkv A1)))):=λb u q=>by
      by_cases c3:b=A1.fh
      ·rw[c3,af (ajm df)]at q
       rw[c3,ah];exact J4.afh.symm.trans q
      ·rw[af c3]
       by_cases c4:b=A1.dm
       ·rw[c4,ah]at q
        rw[c4,hdm];exact q
       ·rw[af c4]at q
        exact oc.1 b u c3 c4 q
     exact k A1 _ (w5.1.same sm) ((fr4.trans w5.2).trans (Fr.same sm))
noncomputable def RL(D:Ad):Sp:=λvs H Q E=>∃ x A s,vs=[.ref x]∧IH D H x A s∧Gd s∧Fin D x A s H (RJ s) Q E
noncomputable abbrev Dz:List Str:=["self", "gone"]
theorem rg:aw Dz ["self"] (ar ng):=⟨rfl,rfl,rfl,by decide +kernel,rfl,by decide +kernel,by decide +kernel⟩
theorem BH(F:Fun K "end" "IdealHeap.end" ng D.dR D.iO)(T:Txt K mg D)
  (ag:Ok P w K mg base 1 D.ao D.aA ["self", "text"] (Bn K))
  (fN:Ok P w K mg base 2 D.cZ D.iU ["self", "gone"] (FR D)):Ok P w K mg base 4 D.dR D.iO ["self"] (RL D):=by
 refine⟨?_,F.binds (ps:=["self"]) λ_ _ _ _ _ _ us hl=>match us,hl with|[_],_=>rfl⟩
 refine F.okE rg (λvs H Q E h=>?_) (λcdv A' outer s' H vs Q E hr h=>?_)
 ·obtain⟨x,A,s,rfl,_⟩:=h
  rfl
 ·obtain⟨x,A,s,rfl,J,Gs,k⟩:=h
  refine⟨_,(ak (cV (qv (AW (aI (pv 0) rfl)))
    (ai (fP rfl kz (kA T.Nw ag.g (hr.mono (by decide)) rfl T.Nu ag.b (Passes.x (aQ λ_ _ _ q=>q)) (ab fg aj))))
    a7)
   (ak (hJ (pv 0) yi rfl)
   (ak (aW (i:=1) rg.nd rfl (Or.inl rfl) (hZ (Fg rfl) rfl T.qM PyProof.Rows.Boot.«list» (ab (aI (pv 0) rfl) aj)))
   (ak (hJ (pv 0) jR rfl)
   (ai (aJ (aK (pv 0) T.ae T.nA fN.g (hr.mono (by decide)) fN.b .nil (Passes.x (aQ λ_ _ _ q=>q)) (ab (pv 1) aj)))))))),?_⟩
  refine⟨_,rfl,x,D.aa,_,_,.bl s.rnd,rfl,J.ax,T.ae,T.c7,Sn,_,rfl,?_⟩;by_cases c:s.rnd=true
  ·rw[show RJ s=(none,UD s) from if_pos c]at k
   refine ku (by rw[c];rfl) ?_;refine⟨_,rfl,x,D.aa,A.dx,_,rfl,J.ax,T.ae,T.c7,by show 11<1000;decide,?_⟩;have w2:=J.aeE (n:=false);obtain⟨H2,e2⟩:∃ H2,upd H x (.ins D.aa A.dx (iK "in_round" (.bl false) (atts A s)))=H2:=⟨_,rfl⟩;rw[e2]at w2;show JZ _ _ _ _ (upd H x (.ins D.aa A.dx (iK "in_round" (.bl false) (atts A s))));rw[e2];clear e2;obtain⟨J2,fr2⟩:=w2;refine⟨_,rfl,x,D.aa,_,_,.ref A.dm,rfl,J2.ax,T.ae,T.bw,Nz,A.dm,_,s.dQ,rfl,.inl J2.adm,Fs _,λL hL=>?_⟩;have s3:=aE.upd (o:=.lst (s.dQ.map V.int)) hL;have J3:=J2.same s3;have nfL:=J2.fresh hL;intro p2 hp2;have w:=J3.aiL hp2;have xp2:x≠p2:=aq J3.ax hp2;refine⟨_,rfl,x,D.aa,A.dx,_,rfl,(by rw[af xp2];exact J3.ax),T.ae,T.bw,by show 11<1000;decide,?_⟩;obtain⟨J5,fr5⟩:=w;have oL:=fr5.out nfL ah;refine⟨_,rfl,x,_,_,rfl,J5.ax,(by kernel_rfl),_,rfl,x,_,_,L,s.dQ,rfl,J5,Gs.g.n8,oL.2,oL.1,Gs.g.Fq,OJ Gs.g,(by have:=Gs.g.sd;have:=Gs.g.nx;show s.vg.length≤10000;omega),Gs.g.dk,λA6 H6 J6 fr6=>k A6 H6 J6 (((fr2.trans (Fr.same s3)).trans fr5).trans fr6)⟩
  ·rw[show RJ s=(some .no,s) from if_neg c]at k
   refine nW (by rw[ajL.mpr c];rfl) ?_;exact λea hea=>cM T.Nv (λ_ q=>q) (k.bad J) ea hea
noncomputable def RM(D:Ad):Sp:=λvs H Q _=>∃ x A s,vs=[.ref x]∧IH D H x A s∧Q (.bl s.rnd) H
noncomputable abbrev t8:List Str:=["self"]
theorem tD:aw t8 ["self"] (ar jh):=⟨rfl,rfl,rfl,by decide +kernel,rfl,by decide +kernel,by decide +kernel⟩
theorem tE(F:Fun K "round_on" "IdealHeap.round_on" jh D.bW D.eL)(T:Txt K mg D):Ok P w K mg base 1 D.bW D.eL ["self"] (RM D):=by
 refine⟨?_,F.binds (ps:=["self"]) λ_ _ _ _ _ _ us hl=>match us,hl with|[_],_=>rfl⟩
 refine F.okE tD (λvs H Q E h=>?_) (λcdv A' outer s' H vs Q E hr h=>?_)
 ·obtain⟨x,A,s,rfl,_⟩:=h
  rfl
 ·obtain⟨x,A,s,rfl,J,k⟩:=h
  refine⟨_,(PSs.nox (ai (aP (aI (pv 0) rfl)))),?_⟩;exact⟨_,rfl,x,D.aa,_,_,.bl s.rnd,rfl,J.ax,T.ae,T.c7,Sn,k⟩
theorem Yy{ts:List Int}{n:Option Int}:inO (ts.map tkv) (n.map Sum.inl)=(match n with|some t=>decide (t∈ts)|none=>false):=by
 cases n with
 | none=>rfl
 | some t=>exact aeG
theorem Vv(z:Option Int):nmV z=Xw (z.map Sum.inl):=by cases z<;>rfl
noncomputable def Mv(D:Ad):Sp:=λvs H Q _=>∃ x A s,∃ t:Int,vs=[.ref x,.int t]∧IH D H x A s∧Good s∧0≤t∧∀ A' H',IH D H' x A' (se s t)→Fr (cD x A s) H (cD x A' (se s t)) H'→Q .non H'
theorem Q9{ts:List Int}{t:Int}{v:V}(h:gR (ts.map tkv) (Sum.inl t)=some v):v=.bl true:=by
 unfold gR at h;obtain⟨p,hp,e⟩:=ajk.mp h;obtain⟨u,_,rfl⟩:=ajz.mp (List.mem_of_find?_eq_some hp);exact e.symm
theorem TJ{ts:List Int}{t:Int}:tX (ts.map tkv) (Sum.inl t)=(ts.filter λp=>decide (p≠t)).map tkv:=by
 unfold tX;rw[akV];congr 1
 refine aj3 λp _=>?_;show decide (Sum.inl p≠(Sum.inl t:Key))=decide (p≠t);simp
noncomputable abbrev zk:List Str:=["self", "t", "spared", "other"]
theorem kn:aw zk ["self", "t"] (ar kT):=⟨rfl,rfl,rfl,by decide +kernel,rfl,by decide +kernel,by decide +kernel⟩
theorem xg(F:Fun K "spare" "IdealHeap.spare" kT D.cT D.gB)(T:Txt K mg D)
  (bz:Ok P w K mg base 3 D.cK D.fJ ["t"] (jq))
  (bB:Ok P w K mg base 3 D.bA D.eB ["self", "leads", "things"] (Kt D)):Ok P w K mg base 4 D.cT D.gB ["self", "t"] (Mv D):=by
 refine⟨?_,F.binds (ps:=["self", "t"]) λ_ _ _ _ _ _ us hl=>match us,hl with|[_,_],_=>rfl⟩
 refine F.okE kn (λvs H Q E h=>?_) (λcdv A' outer s' H vs Q E hr h=>?_)
 ·obtain⟨x,A,s,t,rfl,_⟩:=h
  rfl
 ·obtain⟨x,A,s,t,rfl,J,G,t0,k⟩:=h
  refine⟨_,(PSs.nox (ak (aW (i:=2) kn.nd rfl (Or.inl rfl) (aK (pv 0) T.ae T.ic bB.g (hr.mono (by decide)) bB.b .nil bG (ab (jY (ab (aH bz.g (hr.mono (by decide)) rfl T.mB T.iV bz.b .nil bG (ab (pv 1) aj)) aj)) (ab (aI (pv 0) rfl) aj))))
   (ai (gg ajr rfl (wj (DZ (pv 2))) (a8 (i:=3) kn.nd rfl (Or.inl rfl))
    (ai (aJ (FH (aI (pv 0) rfl) (pv 3) ⟨rfl,rfl,rfl,rfl⟩))))))),?_⟩
  refine⟨_,rfl,x,_,_,rfl,J.ax,(by kernel_rfl),_,rfl,t,rfl,t0,λtp H1 s1 hp=>⟨by show 1≤sizeLine;decide,λl hl=>?_⟩⟩;have s2:=aE.upd (o:=.lst [V.ref tp]) hl;have J2:=(J.same s1).same s2;have rl:Rel (upd H1 l (.lst [V.ref tp])) [.ref tp] [.th t]:=⟨rfl,λi v w h1 h2=>by
   cases i with
   | zero=>cases h1;cases h2;exact⟨tp,rfl,s2 _ _ hp⟩
   | succ i=>cases h1⟩
  refine⟨_,rfl,x,D.aa,_,_,.ref A.dm,rfl,J2.ax,T.ae,T.bw,Nz,x,A,s,l,_,[.th t],A.dm,_,s.dQ,rfl,J2,G,ah,rl,by show 1≤100000;decide,J2.adm,Fs _,G.dk,rF G.Fq,OJ G,λst kv ms H3 s3 hst h3 k3 n3 m3=>?_⟩;have J3:=J2.same s3;have fr3:=((Fr.same (F:=cD x A s) s1).trans (Fr.same s2)).trans (Fr.same s3);have nfs:=J2.fresh hst;refine⟨_,rfl,st,kv,h3,λo=>?_⟩;have sub:∀ u∈ms,u∈s.dQ:=λu m=>((m3 u).mp m).mem;have H4s:∀ b u,b≠st→H3 b=some u→upd H3 st (.frz o (.dK kv)) b=some u:=λb u n q=>by rw[af n];exact q
  have t4:cv H3 (upd H3 st (.frz o (.dK kv))):=cv.set h3 (λ_ z=>nomatch z);have J4:IH D (upd H3 st (.frz o (.dK kv))) x A s:=J3.keep (λb u f q=>H4s b u (λe=>nfs (by rw[←e];exact f)) q) t4;have bk:H st=none:=aE.none s1 (aE.none s2 hst);have fr4:Fr (cD x A s) H (cD x A s) (upd H3 st (.frz o (.dK kv))):=⟨λb u n q=>H4s b u (aq q bk) (fr3.ext b u n q),λ_ f=>.inl f,λb u q=>by obtain⟨u',q'⟩:=fr3.all b u q;exact⟨u',H4s b u' (aq q bk) q'⟩,fr3.tup.trans t4⟩;refine⟨st,o,kv,rfl,ah,A5 (d:=st) (o:=o) (kvs:=kv) (λi σ Hc=>∃ v3,σ=[some (.ref x),some (.int t),some (.ref st),v3]∧IH D Hc x A {s with dQ:=s.dQ.filter λu=>decide (u∉ms.take i)}∧Fr (cD x A s) H (cD x A {s with dQ:=s.dQ.filter λu=>decide (u∉ms.take i)}) Hc∧Hc st=some (.frz o (.dK kv)))
   ⟨none,rfl,(by rw[akj,show(s.dQ.filter λu=>decide (u∉([]:List Int)))=s.dQ by simp];exact J4),(by rw[akj,show(s.dQ.filter λu=>decide (u∉([]:List Int)))=s.dQ by simp];exact fr4),ah⟩ (λi σ Hc _ ⟨_,_,_,_,z⟩=>z) ?_ ?_⟩
  ·rintro i q σ Hc hi ⟨v3,rfl,Jc,frc,z⟩
   obtain⟨u,hu',ekv,ep⟩:=k3.at_ hi;have tk:=take_snoc hu';have ni:u∉ms.take i:=λm=>by
    have:=aj2.mp (show(ms.take i++ms.drop i).Nodup by rw[akG];exact n3)
    have hlt:=(ai6.mp hu').1;exact this.2.2 u m u (by rw[aks hlt,(ai6.mp hu').2];exact ajt) rfl
   have mu:u∈s.dQ.filter λu=>decide (u∉ms.take i):=ajP.mpr ⟨sub u (aje hu'),by simpa using ni⟩;have vd:gR ((s.dQ.filter λu=>decide (u∉ms.take i)).map tkv) (Sum.inl u)=some (.bl true):=by
    have h1:=(Fs (s.dQ.filter λu=>decide (u∉ms.take i))).isS (t:=u);rw[decide_eq_true mu]at h1;obtain⟨v,hv⟩:=akv.mp h1;rw[hv,Q9 hv]
   rw[ekv];refine⟨_,rfl,x,D.aa,_,_,.ref A.dm,rfl,Jc.ax,T.ae,T.bw,Nz,A.dm,rfl,.inl ⟨_,.inl Jc.adm⟩,_,rfl,_,Sum.inl u,_,Jc.adm,rfl,vd,?_⟩;have w:=Jc.aeD (ts:=(s.dQ.filter λu=>decide (u∉ms.take i)).filter λv=>decide (v≠u));rw[show tX (({s with dQ:=s.dQ.filter λu=>decide (u∉ms.take i)}:HS).dQ.map tkv) (Sum.inl u)=((s.dQ.filter λu=>decide (u∉ms.take i)).filter λv=>decide (v≠u)).map tkv from TJ];have ef:((s.dQ.filter λu=>decide (u∉ms.take i)).filter λv=>decide (v≠u))=s.dQ.filter λv=>decide (v∉ms.take (i+1)):=by
    rw[List.filter_filter,tk];refine aj3 λv _=>?_;simp[ajs,not_or,Bool.and_comm]
   rw[ef]at w ⊢;have nsd:st≠A.dm:=λe=>by rw[e,Jc.adm]at z;cases z
   exact⟨_,rfl,w.1,frc.trans w.2,by rw[af nsd];exact z⟩
  ·rintro σ Hc ⟨v3,rfl,Jc,frc,z⟩
   rw[k3.len,ajj (ajb _),Q8 m3]at Jc frc;exact k _ _ Jc frc
noncomputable def My(D:Ad):Sp:=λvs H Q E=>∃ x A s,∃ h n:Int,vs=[.ref x,.int h,.int n]∧IH D H x A s∧Gd s∧s.nxt<10000∧Sm h∧Sm n∧Fin D x A s H (pk s h n) Q E
noncomputable abbrev BI:List Str:=["self", "h", "n", "size"]
theorem pQ:aw BI ["self", "h", "n"] (ar lW):=⟨rfl,rfl,rfl,by decide +kernel,rfl,by decide +kernel,by decide +kernel⟩
theorem zo(F:Fun K "make" "IdealHeap.make" lW D.di D.g8)(T:Txt K mg D)
  (ag:Ok P w K mg base 1 D.ao D.aA ["self", "text"] (Bn K))
  (aD:Ok P w K mg base 3 D.bp D.cG ["h"] (dS D))
  (fE:Ok P w K mg base 3 D.gc D.kq ["fields"] (qi D))
  (cE:Ok P w K mg base 4 D.bh D.ed ["self", "things"] (FQ D))
  (bg:Ok P w K mg base 5 D.bQ D.dD ["self"] (Bb D))
  (jB:Ok P w K mg base 5 D.dr D.hG ["self"] (OK D))
  (jC:Ok P w K mg base 5 D.cf D.g7 ["self", "h", "n"] (RH D)):Ok P w K mg base 8 D.di D.g8 ["self", "h", "n"] (My D):=by
 refine⟨?_,F.binds (ps:=["self", "h", "n"]) λ_ _ _ _ _ _ us hl=>match us,hl with|[_,_,_],_=>rfl⟩
 refine F.okE pQ (λvs H Q E h=>?_) (λcdv A' outer s' H vs Q E hr h=>?_)
 ·obtain⟨x,A,s,h,n,rfl,_⟩:=h
  rfl
 ·obtain⟨x,A,s,h,n,rfl,J,Gs,hnx,hh,hn,k⟩:=h
  refine⟨_,(ak (aJ (aH aD.g (hr.mono (by decide)) rfl T.fZ T.dO aD.b .nil (Passes.x (aQ λ_ _ _ q=>q)) (ab (pv 1) aj)))
   (ak (aW (i:=3) pQ.nd rfl (Or.inl rfl) (aH fE.g (hr.mono (by decide)) rfl T.yu T.pA fE.b .nil (Passes.x (aQ λ_ _ _ q=>q)) (ab (pv 2) aj)))
   (ak (cV (PW.pt (pw_and (AW (aI (pv 0) rfl)) (pw_and1 (aV MX (aO cY (aK (pv 0) T.ae T.jW cE.g (hr.mono (by decide)) cE.b .nil (Passes.x (aQ λ_ _ _ q=>q)) (ab (aI (pv 0) rfl) aj)) (pv 3)) (aI (pv 0) rfl) (bC _)))))
    (ai (aJ (bM (pv 0) T.ae T.kj bg.g (hr.mono (by decide)) bg.b .nil (Passes.x (aQ λ_ _ _ q=>q)))))
    a7)
   (ak (cV (aV MX (aO cY (bM (pv 0) T.ae T.yI jB.g (hr.mono (by decide)) jB.b .nil (Passes.x (aQ λ_ _ _ q=>q))) (pv 3)) (aI (pv 0) rfl) (bC _))
    (ai (fP rfl kz (kA T.PH ag.g (hr.mono (by decide)) rfl T.PB ag.b (Passes.x (aQ λ_ _ _ q=>q)) (ab (jt (br (lM (pv 3)) (br gT js))) aj))))
    a7)
   (ai (aJ (aK (pv 0) T.ae T.rD jC.g (hr.mono (by decide)) jC.b .nil (Passes.x (aQ λ_ _ _ q=>q)) (ab (pv 1) (ab (pv 2) aj))))))))),?_⟩
  refine⟨_,rfl,h,rfl,hh,?_⟩;by_cases c:ok8 h
  ·rw[if_pos c]
   refine⟨_,rfl,n,rfl,hn,?_⟩;by_cases c2:0≤n∧n≤6
   ·rw[if_pos c2]
    have G:=Gs.g;have kk:Fin D x A s H (if held (mkR s n)+(n+1)>s.limit then(some .room,mkR s n) else(none,ND (mkR s n) h n)) Q E:=by
     rw[show pk s h n=_ from by unfold pk;rw[if_pos c,if_pos c2]]at k;exact k
    have G2:Gd (mkR s n):=Gs.mkd;simp only[yj];refine OD λN hN=>?_;have fin:∀(A2:HA) (H2:Hp),IH D H2 x A2 (mkR s n)→Fr (cD x A s) H (cD x A2 (mkR s n)) H2→N [some (.ref x),some (.int h),some (.int n),some (.int (n+1))] H2:=by
     intro A2 H2 J2 fr2;refine hN _ _ ?_;refine⟨_,rfl,x,_,_,rfl,J2.ax,(by kernel_rfl),x,A2,_,rfl,J2,G2.g,λH3 s3=>?_⟩;have J3:=J2.same s3;have fr3:=fr2.trans (Fr.same s3);refine⟨_,rfl,held (mkR s n),n+1,rfl,rfl,_,rfl,x,D.aa,_,_,.int (mkR s n).limit,rfl,J3.ax,T.ae,T.pL,Yp,_,_,rfl,rfl,_,rfl,eE (λg=>?_) (λg=>?_)⟩
     ·have g:=of_decide_eq_true g
      rw[OS]at g;rw[if_pos g]at kk;exact⟨_,rfl,n+1,rfl,Sm.of (by omega) (by omega),λy hy ea hea=>cM T.PD (λb q=>fr3.none q) (λH' s'=>kk A2 H' (J3.same s') (fr3.trans (Fr.same s'))) ea hea⟩
     ·have g:¬(held (mkR s n)+(n+1)>s.limit):=λz=>g (decide_eq_true (by rw[OS];exact z))
      rw[if_neg g]at kk;exact⟨_,rfl,x,_,_,rfl,J3.ax,(by kernel_rfl),_,rfl,_,rfl,x,A2,_,h,n,rfl,J3,G2.g,c,c2.1,c2.2,λA' H' J' fr=>kk A' H' J' (fr3.trans fr)⟩
    refine⟨_,rfl,x,D.aa,_,_,.bl s.my,rfl,J.ax,T.ae,T.gQ,Uz,_,rfl,?_⟩;by_cases my:s.my=true
    ·refine nW my ⟨_,rfl,x,_,_,rfl,J.ax,(by kernel_rfl),_,rfl,x,D.aa,_,_,.ref A.yg,rfl,J.ax,T.ae,T.bE,Ny,x,A,s,A.yg,_,s.yng,rfl,J,G,J.ayg,Fs _,G.yk,Gu G,λH1 s1=>?_⟩
     have J1:=J.same s1;refine⟨_,rfl,wsum s s.yng,n+1,rfl,rfl,_,rfl,x,D.aa,_,_,.int s.room,rfl,J1.ax,T.ae,T.kF,Yo,_,_,rfl,rfl,_,rfl,eE (λg=>?_) (λg=>?_)⟩
     ·have g:=of_decide_eq_true g
      have em:mkR s n=nG s:=if_pos ⟨my,g⟩;rw[em]at fin;exact⟨_,rfl,x,_,_,rfl,J1.ax,(by kernel_rfl),x,A,s,rfl,J1,G,λA2 H2 J2 fr2=>fin A2 H2 J2 ((Fr.same s1).trans fr2)⟩
     ·have em:mkR s n=s:=if_neg λz=>g (decide_eq_true z.2)
      rw[em]at fin;exact fin A H1 J1 (Fr.same s1)
    ·have em:mkR s n=s:=if_neg λz=>my z.1
     rw[em]at fin;exact ku (ajL.mpr my) (u4 (fin A H J Fr.refl))
   ·rw[if_neg c2]
    rw[show pk s h n=(some .count,s) by simp only[pk,if_pos c,if_neg c2]]at k;exact k.bad J
  ·rw[if_neg c]
   rw[show pk s h n=(some .hand,s) by simp only[pk,if_neg c]]at k;exact k.bad J
noncomputable def Mz(D:Ad):Sp:=λvs H Q E=>∃ x A s,∃ h w:Int,vs=[.ref x,.int h,.int w]∧IH D H x A s∧Good s∧Sm h∧Sm w∧Fin D x A s H (pj s h w) Q E
theorem pK{α:Type}{l:List α}{i:Nat}{a b:α}(h:b∈l.set i a):b∈l∨b=a:=by
 rw[akq]at h;obtain⟨j,hj,e⟩:=h;rw[List.getElem_set]at e;split at e
 ·exact .inr e.symm
 ·exact .inl (by rw[←e];exact ajX _)
theorem Good.put{s:HS}(g:Good s){h:Int}{w:Wd}(c:∀ t,w=.th t→∃ ws,(t,ws)∈s.aR):Good (rG s h w) :=
 ⟨by show(s.bq.set _ _).length=8;rw[ajG];exact g.h8,g.n8,g.asc,g.lt,g.f6,(λt m=>(pK m).elim (λq=>g.hh t q) λe=>c t e.symm),g.ff,g.nn,g.b12,g.bk,g.bnd,g.n0,g.nx,g.sd,g.yk,g.D8,g.dk,g.Fq⟩
noncomputable abbrev BJ:List Str:=["self", "h", "w", "t"]
theorem pR:aw BJ ["self", "h", "w"] (ar lX):=⟨rfl,rfl,rfl,by decide +kernel,rfl,by decide +kernel,by decide +kernel⟩
theorem zq(F:Fun K "read" "IdealHeap.read" lX D.dq D.g9)(T:Txt K mg D)
  (i0:Ok P w K mg base 5 D.bP D.gz ["self", "h", "w"] (Mq D))
  (i3:Ok P w K mg base 4 D.cT D.gB ["self", "t"] (Mv D)):Ok P w K mg base 7 D.dq D.g9 ["self", "h", "w"] (Mz D):=by
 refine⟨?_,F.binds (ps:=["self", "h", "w"]) λ_ _ _ _ _ _ us hl=>match us,hl with|[_,_,_],_=>rfl⟩
 refine F.okE pR (λvs H Q E h=>?_) (λcdv A' outer s' H vs Q E hr h=>?_)
 ·obtain⟨x,A,s,h,w,rfl,_⟩:=h
  rfl
 ·obtain⟨x,A,s,h,w,rfl,J,G,hh,hw,k⟩:=h
  refine⟨_,(ak (aW (i:=3) pR.nd rfl (Or.inl rfl) (aK (pv 0) T.ae T.qQ i0.g (hr.mono (by decide)) i0.b .nil (Passes.x (aQ λ_ _ _ q=>q)) (ab (pv 1) (ab (pv 2) aj))))
   (ai (cV (rT (Ti (pv 3) (aI (pv 0) rfl)) (by with_unfolding_all rfl))
    (ai (aJ (aK (pv 0) T.ae T.wL i3.g (hr.mono (by decide)) i3.b .nil (Passes.x (aQ λ_ _ _ q=>q)) (ab (pv 3) aj))))
    a7))),?_⟩
  refine⟨_,rfl,x,_,_,rfl,J.ax,(by kernel_rfl),_,rfl,_,rfl,x,A,s,h,w,rfl,J,G,hh,hw,?_⟩;by_cases c:ok8 h
  ·rw[if_pos c]
   by_cases c2:ok8 w
   ·rw[if_pos c2]
    rw[show pj s h w=(none,rdR (rG s h (nmW (s.names.getD w.toNat none))) (s.names.getD w.toNat none)) by simp only[pj,if_pos c,if_pos c2]]at k;have hi:w.toNat<s.names.length:=(by rw[G.n8];omega);have gd:s.names.getD w.toNat none=s.names[w.toNat]:=(by simp[List.getD,hi]);have mm:s.names[w.toNat]∈s.names:=ajX hi;obtain⟨z,ez⟩:∃ z,s.names.getD w.toNat none=z:=⟨_,rfl⟩;rw[ez]at k ⊢;rw[←gd,ez]at mm;intro A1 H1 J1 fr;refine⟨_,rfl,_,rfl,x,D.aa,_,_,_,rfl,J1.ax,T.ae,T.bw,Nz,A1.dm,_,z.map Sum.inl,rfl,Vv z,.inl J1.adm,_,rfl,?_⟩;rw[Yy];cases z with
    | none=>exact u4 (k A1 H1 J1 fr)
    | some t =>
     show if decide (t∈s.dQ)=true then _ else _;obtain⟨ws,m⟩:=G.nn t mm;by_cases c3:t∈s.dQ
     ·rw[decide_eq_true c3]
      rw[show rdR (rG s h (nmW (some t))) (some t)=se (rG s h (nmW (some t))) t from if_pos c3]at k;have G2:Good (rG s h (nmW (some t))):=G.put λu e=>by cases e;exact⟨ws,m⟩
      exact wa ⟨_,rfl,x,_,_,rfl,J1.ax,(by kernel_rfl),_,rfl,x,A1,_,t,rfl,J1,G2,(G.lt _ _ m).1,λA2 H2 J2 fr2=>k A2 H2 J2 (fr.trans fr2)⟩
     ·rw[decide_eq_false c3]
      rw[show rdR (rG s h (nmW (some t))) (some t)=rG s h (nmW (some t)) from if_neg c3]at k;exact u4 (k A1 H1 J1 fr)
   ·rw[if_neg c2]
    rw[show pj s h w=(some .name,s) by simp only[pj,if_pos c,if_neg c2]]at k;exact k.bad J
  ·rw[if_neg c]
   rw[show pj s h w=(some .hand,s) by simp only[pj,if_neg c]]at k;exact k.bad J
inductive Dd where
 | make (h n:Int)|store (g k h:Int)|load (h g k:Int)|copy (h g:Int)|drop (h:Int)|number (h x:Int)|name (w h:Int)|read (h w:Int)|word (h x:Int)|small|turn
noncomputable abbrev In8(h:Int):Prop:=0≤h∧h<8
noncomputable def Dd.ok:Dd→Prop
 | .make h n=>In8 h∧0≤n∧n≤6
 | .store g k h=>In8 g∧0≤k∧k≤6∧In8 h
 | .load h g k=>In8 h∧In8 g∧0≤k∧k≤6
 | .copy h g=>In8 h∧In8 g
 | .drop h=>In8 h
 | .number h x=>In8 h∧-10000000≤x∧x≤10000000
 | .name w h=>In8 w∧In8 h
 | .read h w=>In8 h∧In8 w
 | .word h x=>In8 h∧-10000000≤x∧x≤10000000
 | .small=>True
 | .turn=>True
theorem m8(n d:Int):0≤n/d%8∧n/d%8<8:=⟨ajH _ (by decide),ajB _ (by decide)⟩
noncomputable def NI(s:HS):Re:=if s.rnd=true then RJ s else D1 s
noncomputable def dDo(s:HS):Dd→Re
 | .make h n=>pk s h n
 | .store g k h=>jP s g k h
 | .load h g k=>nS s h g k
 | .copy h g=>vW s h g
 | .drop h=>Ba s h
 | .number h x=>kG s h x
 | .name w h=>qj s w h
 | .read h w=>pj s h w
 | .word h x=>nU s h x
 | .small=>(none,nG s)
 | .turn=>NI s
theorem Good.names{s:HS}(g:Good s){w:Nat}{t:Int}{ws:List Wd}(m:(t,ws)∈s.aR):Good {s with names:=s.names.set w (some t)} :=
 ⟨g.h8,by show(s.names.set _ _).length=8;rw[ajG];exact g.n8,g.asc,g.lt,g.f6,g.hh,g.ff,λu m'=>(pK m').elim (g.nn u) (λe=>by injection e with e;rw[e];exact⟨ws,m⟩),g.b12,g.bk,g.bnd,g.n0,g.nx,g.sd,g.yk,g.D8,g.dk,g.Fq⟩
theorem PR{bs:List (Int×Int)}{t x:Int}:(HY bs t x).map (·.1)=if(bs.lookup t).isSome=true then bs.map (·.1) else bs.map (·.1)++[t]:=by
 unfold HY;by_cases c:(bs.lookup t).isSome=true
 ·rw[if_pos c,if_pos c,ajO]
  refine aj5 λp hp=>?_;show(if p.1=t then(t,x) else p).1=p.1;by_cases e:p.1=t
  ·rw[if_pos e];exact e.symm
  ·rw[if_neg e]
 ·rw[if_neg c,if_neg c,ajq]
  rfl
theorem Good.cp{s:HS}(g:Good s){t x:Int}{ws:List Wd}(m:(t,ws)∈s.aR)(c:¬(s.cp.lookup t=none∧12≤s.cp.length)):Good {s with cp:=HY s.cp t x}:=by
 have kl:=PR (bs:=s.cp) (t:=t) (x:=x);have ln:=congrArg List.length kl;have mm:∀ u,u∈(HY s.cp t x).map (·.1)→u∈s.cp.map (·.1)∨u=t:=λu h=>by
  rw[kl]at h;split at h
  ·exact .inl h
  ·rcases ajs.mp h with h|h
   ·exact .inl h
   ·exact .inr (ai9.mp h)
 refine⟨g.h8,g.n8,g.asc,g.lt,g.f6,g.hh,g.ff,g.nn,?_,λu y h=>?_,?_,g.n0,g.nx,g.sd,g.yk,g.D8,g.dk,g.Fq⟩
 ·show(HY s.cp t x).length≤12
  rw[ai8]at ln;rw[ln];by_cases q:(s.cp.lookup t).isSome=true
  ·rw[if_pos q,ai8];exact g.b12
  ·rw[if_neg q,aji,ai8,ajI]
   have:s.cp.lookup t=none:=by
    cases e:s.cp.lookup t with
    | none=>rfl
    | some v=>rw[e]at q;exact absurd rfl q
   have:¬12≤s.cp.length:=λz=>c ⟨this,z⟩
   omega
 ·rcases mm u (ajz.mpr ⟨_,h,rfl⟩) with h|rfl
  ·obtain⟨p,hp,rfl⟩:=ajz.mp h
   exact g.bk p.1 p.2 hp
  ·exact⟨ws,m⟩
 ·show((HY s.cp t x).map (·.1)).Nodup
  rw[kl];by_cases q:(s.cp.lookup t).isSome=true
  ·rw[if_pos q];exact g.bnd
  ·rw[if_neg q,aj2]
   refine⟨g.bnd,akB _ _,λa ma b mb e=>?_⟩;rw[ai9.mp mb]at e;subst e;obtain⟨p,hp,rfl⟩:=ajz.mp ma;refine q ?_;rw[mem_lookup (w:=p.2) g.bnd hp];rfl
theorem Ie{fs:List (Int×List Wd)}{t:Int}{ws:List Wd}:(uJ fs t ws).map (·.1)=fs.map (·.1):=by
 unfold uJ;rw[ajO];refine aj5 λp hp=>?_;show(if p.1=t then(t,ws) else p).1=p.1;by_cases e:p.1=t
 ·rw[if_pos e];exact e.symm
 ·rw[if_neg e]
theorem Ra{fs:List (Int×List Wd)}{t u:Int}{ws w:List Wd}(m:(u,w)∈fs):∃ w',(u,w')∈uJ fs t ws:=by
 have:u∈(uJ fs t ws).map (·.1):=by rw[Ie];exact ajz.mpr ⟨_,m,rfl⟩
 obtain⟨p,hp,rfl⟩:=ajz.mp this;exact⟨p.2,hp⟩
theorem Bc{fs:List (Int×List Wd)}{t u:Int}{ws w:List Wd}(m:(u,w)∈uJ fs t ws):(u,w)∈fs∨(w=ws∧∃ w0,(u,w0)∈fs):=by
 obtain⟨p,hp,e⟩:=ajz.mp m;by_cases c:p.1=t
 ·rw[if_pos c]at e
  cases e;exact .inr ⟨rfl,p.2,by rw[←c];exact hp⟩
 ·rw[if_neg c]at e
  subst e;exact .inl hp
theorem Good.uJ{s:HS}(g:Good s){t:Int}{ws:List Wd}(l6:ws.length≤6)(c:∀ u,Wd.th u∈ws→∃ w,(u,w)∈s.aR):Good {s with aR:=uJ s.aR t ws}:=by
 have hs:∀ u,(∃ w,(u,w)∈s.aR)→∃ w,(u,w)∈K36.uJ s.aR t ws:=λu ⟨w,m⟩=>Ra m;refine⟨g.h8,g.n8,by show((K36.uJ s.aR t ws).map (·.1)).Pairwise _;rw[Ie];exact g.asc,λu w m=>?_,λu w m=>?_,λu m=>hs u (g.hh u m),λu w v m mv=>?_,λu m=>hs u (g.nn u m),g.b12,λu y m=>hs u (g.bk u y m),g.bnd,g.n0,g.nx,?_,λu m=>hs u (g.yk u m),g.D8,λu m=>hs u (g.dk u m),g.Fq⟩
 ·rcases Bc m with m|⟨_,w0,m⟩
  ·exact g.lt u w m
  ·exact g.lt u w0 m
 ·rcases Bc m with m|⟨rfl,w0,m⟩
  ·exact g.f6 u w m
  ·exact l6
 ·rcases Bc m with m|⟨rfl,w0,m⟩
  ·exact hs v (g.ff u w v m mv)
  ·exact hs v (c v mv)
 ·show(s.vg.length:Int)+((K36.uJ s.aR t ws).length:Int)≤s.nxt
  unfold K36.uJ;rw[ai8];exact g.sd
theorem Good.aiT{s:HS}(g:Good s){h n:Int}(n6:n≤6)(few:s.nxt<10000):Good (ND s h n):=by
 have hs:∀ u,(∃ w,(u,w)∈s.aR)→∃ w,(u,w)∈s.aR++[(s.nxt,List.replicate n.toNat Wd.no)]:=λu ⟨w,m⟩=>⟨w,ajD _ m⟩;have mm:∀ {u:Int} {w:List Wd},(u,w)∈s.aR++[(s.nxt,List.replicate n.toNat Wd.no)]→(u,w)∈s.aR∨(u=s.nxt∧w=List.replicate n.toNat Wd.no):=λm=>by
  rcases ajs.mp m with m|m
  ·exact .inl m
  ·cases ai9.mp m;exact .inr ⟨rfl,rfl⟩
 have my:∀ u∈(ND s h n).yng,u∈s.yng∨u=s.nxt:=λu m=>by
  have m:u∈(if s.my=true then s.yng++[s.nxt] else s.yng):=m;split at m
  ·exact(ajs.mp m).imp id λz=>ai9.mp z
  ·exact .inl m
 refine⟨by show(s.bq.set _ _).length=8;rw[ajG];exact g.h8,g.n8,?_,λu w m=>?_,λu w m=>?_,λu m=>?_,λu w v m mv=>?_,λu m=>hs u (g.nn u m),g.b12,λu y m=>hs u (g.bk u y m),g.bnd,by show 0≤s.nxt+1;have:=g.n0;omega,by show s.nxt+1≤10000;omega,?_,λu m=>?_,?_,λu m=>hs u (g.dk u m),g.Fq⟩
 ·show((s.aR++[(s.nxt,List.replicate n.toNat Wd.no)]).map (·.1)).Pairwise _
  rw[ajq,akL];refine⟨g.asc,akB _ _,λa ma b mb=>?_⟩;obtain⟨p,hp,rfl⟩:=ajz.mp ma;obtain rfl:b=s.nxt:=by simpa using mb
  exact(g.lt p.1 p.2 hp).2
 ·show 0≤u∧u<s.nxt+1
  have:=g.n0
  rcases mm m with m|⟨e,_⟩
  ·have:=g.lt u w m;omega
  ·omega
 ·rcases mm m with m|⟨_,e⟩
  ·exact g.f6 u w m
  ·rw[e,ajT];omega
 ·rcases pK m with m|e
  ·exact hs u (g.hh u m)
  ·injection e with e
   exact⟨_,ajf _ (ai9.mpr (by rw[e]))⟩
 ·rcases mm m with m|⟨_,e⟩
  ·exact hs v (g.ff u w v m mv)
  ·rw[e]at mv
   cases ajU mv
 ·show(s.vg.length:Int)+((s.aR++[(s.nxt,List.replicate n.toNat Wd.no)]).length:Int)≤s.nxt+1
  rw[aji,ajI]
  have:=g.sd
  omega
 ·rcases my u m with m|e
  ·exact hs u (g.yk u m)
  ·exact⟨_,ajf _ (ai9.mpr (by rw[e]))⟩
 ·show(if s.my=true then s.yng++[s.nxt] else s.yng).Pairwise _
  split
  ·rw[akL]
   refine⟨g.D8,akB _ _,λa ma b mb=>?_⟩;obtain rfl:b=s.nxt:=(by simpa using mb);obtain⟨ws,m⟩:=g.yk a ma;exact(g.lt a ws m).2
  ·exact g.D8
theorem Gd.put{s:HS}(d:Gd s){h:Int}{w:Wd}(c:∀ t,w=.th t→(∃ ws,(t,ws)∈s.aR)∧t∉s.dQ):Gd (rG s h w) :=
 ⟨d.g.put λt e=>(c t e).1,d.dy,λt m=>(pK m).elim (d.dh t) (λe=>(c t e.symm).2),d.df,d.rd⟩
theorem Gd.add{s:HS}(d:Gd s){h n:Int}(n6:n≤6)(few:s.nxt<10000):Gd (ND s h n) where
 g:=d.g.aiT n6 few
 dy:=λt m=>by
  obtain⟨ws,mt⟩:=d.g.dk t m;have lt:=(d.g.lt t ws mt).2;show t∉(if s.my=true then s.yng++[s.nxt] else s.yng);split
  ·intro z
   rcases ajs.mp z with z|z
   ·exact d.dy t m z
   ·have:=ai9.mp z;omega
  ·exact d.dy t m
 dh:=λt m=>(pK m).elim (d.dh t) λe=>by
  injection e with e;intro z;obtain⟨ws,mt⟩:=d.g.dk t z
  have:=(d.g.lt t ws mt).2
  omega
 df:=λu ws t m hu h=>by
  rcases ajs.mp m with m|m
  ·exact d.df u ws t m hu h
  ·cases ai9.mp m
   cases ajU h
 rd:=d.rd
theorem Gd.uJ{s:HS}(d:Gd s){t:Int}{ws:List Wd}(l6:ws.length≤6)(c:∀ u,Wd.th u∈ws→(∃ w,(u,w)∈s.aR)∧u∉s.dQ):Gd {s with aR:=uJ s.aR t ws} where
 g:=d.g.uJ l6 λu m=>(c u m).1
 dy:=d.dy
 dh:=d.dh
 df:=λu w v m hu h=>by
  rcases Bc m with m|⟨e,_⟩
  ·exact d.df u w v m hu h
  ·rw[e]at h;exact(c v h).2
 rd:=d.rd
theorem Gd.hnd{s:HS}(d:Gd s){h:Int}{w:Wd}(e:wat s.bq h=some w):∀ t,w=.th t→(∃ ws,(t,ws)∈s.aR)∧t∉s.dQ:=λt z=>by
 have m:=aje (rX e).2.2;rw[z]at m;exact⟨d.g.hh t m,d.dh t m⟩
theorem OT{s:HS}{n:Option Int}:(rdR s n).nxt=s.nxt:=by
 unfold rdR;split
 ·split<;>rfl
 ·rfl
theorem Yz{s:HS}(d:Gd s)(few:s.nxt<10000){dd:Dd}(ok:dd.ok):Gd (dDo s dd).2∧s.nxt≤(dDo s dd).2.nxt∧(dDo s dd).2.nxt≤s.nxt+1:=by
 have same:Gd s∧s.nxt≤s.nxt∧s.nxt≤s.nxt+1:=⟨d,ajS _,by omega⟩;cases dd with
 | make h n =>
  show Gd (pk s h n).2∧s.nxt≤(pk s h n).2.nxt∧(pk s h n).2.nxt≤s.nxt+1;unfold pk;split
  ·split
   ·split
    ·exact⟨d.mkd,by rw[BG];exact ajS _,by rw[BG];omega⟩
    ·exact⟨d.mkd.add ok.2.2 (by rw[BG];exact few),by show s.nxt≤(mkR s n).nxt+1;rw[BG];omega,by show(mkR s n).nxt+1≤s.nxt+1;rw[BG];exact ajS _⟩
   ·exact same
  ·exact same
 | store g k h =>
  show Gd (jP s g k h).2∧s.nxt≤(jP s g k h).2.nxt∧(jP s g k h).2.nxt≤s.nxt+1;unfold jP;split
  ·rename_i t e
   split
   ·rename_i w e2
    split
    ·rename_i c
     have m:=d.g.hand e;refine⟨d.uJ (by rw[ajG];exact d.g.f6 _ _ m) (λu hu=>?_),ajS _,by show s.nxt≤s.nxt+1;omega⟩;rcases pK hu with hu|hu
     ·exact⟨d.g.ff _ _ _ m hu,d.df _ _ _ m ((d.hnd e t rfl).2) hu⟩
     ·exact d.hnd e2 u hu.symm
    ·exact same
   ·exact same
  ·exact same
 | load h g k =>
  show Gd (nS s h g k).2∧s.nxt≤(nS s h g k).2.nxt∧(nS s h g k).2.nxt≤s.nxt+1;unfold nS;split
  ·split
   ·rename_i t e
    split
    ·rename_i c
     have m:=d.g.hand e;refine⟨d.put λu hu=>?_,ajS _,by show s.nxt≤s.nxt+1;omega⟩;have hi:k.toNat<(fld s t).length:=(by omega);have hm:Wd.th u∈fld s t:=(by rw[←hu,akp,ai7 hi];exact ajX hi);exact⟨d.g.ff _ _ _ m hm,d.df _ _ _ m ((d.hnd e t rfl).2) hm⟩
    ·exact same
   ·exact same
  ·exact same
 | copy h g =>
  show Gd (vW s h g).2∧s.nxt≤(vW s h g).2.nxt∧(vW s h g).2.nxt≤s.nxt+1;unfold vW;split
  ·split
   ·rename_i w e
    exact⟨d.put (d.hnd e),ajS _,by show s.nxt≤s.nxt+1;omega⟩
   ·exact same
  ·exact same
 | drop h =>
  show Gd (Ba s h).2∧s.nxt≤(Ba s h).2.nxt∧(Ba s h).2.nxt≤s.nxt+1;unfold Ba;split
  ·exact⟨d.put (λt e=>by cases e),ajS _,by show s.nxt≤s.nxt+1;omega⟩
  ·exact same
 | number h x =>
  show Gd (kG s h x).2∧s.nxt≤(kG s h x).2.nxt∧(kG s h x).2.nxt≤s.nxt+1;unfold kG;split
  ·split
   ·exact⟨d.put (λt e=>by cases e),ajS _,by show s.nxt≤s.nxt+1;omega⟩
   ·exact same
  ·exact same
 | name w h =>
  show Gd (qj s w h).2∧s.nxt≤(qj s w h).2.nxt∧(qj s w h).2.nxt≤s.nxt+1;unfold qj;split
  ·rename_i t e
   split
   ·exact⟨⟨d.g.names (d.g.hand e),d.dy,d.dh,d.df,d.rd⟩,ajS _,by show s.nxt≤s.nxt+1;omega⟩
   ·exact same
  ·exact same
 | read h w =>
  show Gd (pj s h w).2∧s.nxt≤(pj s h w).2.nxt∧(pj s h w).2.nxt≤s.nxt+1;unfold pj;split
  ·split
   ·rename_i c2
    refine⟨?_,by rw[OT];exact ajS _,by rw[OT];show s.nxt≤s.nxt+1;omega⟩;have hi:w.toNat<s.names.length:=(by rw[d.g.n8];omega);have gd:s.names.getD w.toNat none=s.names[w.toNat]:=(by simp[List.getD,hi]);have mm:s.names[w.toNat]∈s.names:=ajX hi;rw[←gd]at mm;cases e:s.names.getD w.toNat none with
    | none=>exact d.put (λt e=>by cases e)
    | some t =>
     rw[e]at mm;obtain⟨ws,m⟩:=d.g.nn t mm;show Gd (if t∈(rG s h (.th t)).dQ then se (rG s h (.th t)) t else rG s h (.th t));have g2:Good (rG s h (.th t)):=d.g.put λu z=>by cases z;exact⟨ws,m⟩
     by_cases c:t∈s.dQ
     ·rw[if_pos (show t∈(rG s h (.th t)).dQ from c)]
      refine Gd.Yx ⟨g2,d.dy,d.df,d.rd⟩ c λu hu=>?_;rcases pK hu with hu|hu
      ·exact .inr (d.dh u hu)
      ·injection hu with hu;exact .inl hu
     ·rw[if_neg (show ¬t∈(rG s h (.th t)).dQ from c)]
      exact d.put λu z=>by cases z;exact⟨⟨ws,m⟩,c⟩
   ·exact same
  ·exact same
 | word h x =>
  show Gd (nU s h x).2∧s.nxt≤(nU s h x).2.nxt∧(nU s h x).2.nxt≤s.nxt+1;unfold nU;split
  ·rename_i t e
   split
   ·split
    ·exact same
    ·rename_i c
     exact⟨⟨d.g.cp (d.g.hand e) c,d.dy,d.dh,d.df,d.rd⟩,ajS _,by show s.nxt≤s.nxt+1;omega⟩
   ·exact same
  ·exact same
 | small=>exact⟨d.small,ajS _,by show s.nxt≤s.nxt+1;omega⟩
 | turn =>
  show Gd (NI s).2∧s.nxt≤(NI s).2.nxt∧(NI s).2.nxt≤s.nxt+1;unfold NI;split
  ·rename_i c
   rw[show RJ s=(none,UD s) from if_pos c];exact⟨d.fin,ajS _,by show s.nxt≤s.nxt+1;omega⟩
  ·rename_i c
   rw[show D1 s=(none,Tz (nG s)) from if_neg c];exact⟨d.small.beg rfl,ajS _,by show s.nxt≤s.nxt+1;omega⟩
theorem gd0{my:Bool}{room limit:Int}:Gd (s0 my room limit):=⟨good0,(λt m=>nomatch m),(λt _ m=>nomatch m),(λu ws t m=>nomatch m),λ_=>rfl⟩
noncomputable def Qn(K:W.Frag):Sp:=λvs H Q _=>∃(a:Addr) (ns:List Int),vs=[.ref a]∧SqL K H a (ns.map V.int)∧ns.length≤63∧∀ H',Q (.bl true) H'
open Classical in
noncomputable def vX(D:Ad):Sp:=λvs H Q _=>∃ x A s,vs=[.ref x]∧IH D H x A s∧Good s∧(∀ p H',aE H H'→H p=none→H' p=some (.lst A.hx)→Q (.ref p) H')
noncomputable abbrev zr:List Str:=["self"]
theorem xh:aw zr ["self"] (ar kR):=⟨rfl,rfl,rfl,by decide +kernel,rfl,by decide +kernel,by decide +kernel⟩
theorem xi(F:Fun K "hands" "IdealHeap.hands" kR D.bR D.dE)(T:Txt K mg D)
  (bc:Ok P w K mg base 1 D.bO D.dB ["self"] (nR D)):Ok P w K mg base 2 D.bR D.dE ["self"] (vX D):=by
 refine⟨?_,F.binds (ps:=["self"]) λ_ _ _ _ _ _ us hl=>match us,hl with|[_],_=>rfl⟩
 refine F.okE xh (λvs H Q E h=>?_) (λcdv A' outer s' H vs Q E hr h=>?_)
 ·obtain⟨x,A,s,rfl,_⟩:=h
  rfl
 ·obtain⟨x,A,s,rfl,J,G,k⟩:=h
  refine⟨_,(PSs.nox (ai (aP (bM (aI (pv 0) rfl) T.aY T.kh bc.g (hr.mono (by decide)) bc.b .nil bG)))),?_⟩;exact⟨_,rfl,x,D.aa,_,_,.ref A.hd,rfl,J.ax,T.ae,T.aB,nQ,A.hd,A.hdx,_,rfl,J.ahd,rfl,A.hd,A.hdx,A.hl,A.hx,s.bq,rfl,J.hn G,k⟩
noncomputable def OU(D:Ad):Sp:=λvs H Q _=>∃ nt ntx nl xs,vs=[.ref nt]∧Nt D H nt ntx nl xs∧∀ p H',aE H H'→H p=none→H' p=some (.lst xs)→Q (.ref p) H'
noncomputable abbrev tF:List Str:=["self"]
theorem rK:aw tF ["self"] (ar iQ):=⟨rfl,rfl,rfl,by decide +kernel,rfl,by decide +kernel,by decide +kernel⟩
theorem rL(F:Fun K "all_named" "NameTable.all_named" iQ D.bH D.dZ)(T:Txt K mg D):Ok P w K mg base 1 D.bH D.dZ ["self"] (OU D):=by
 refine⟨?_,F.binds (ps:=["self"]) λ_ _ _ _ _ _ us hl=>match us,hl with|[_],_=>rfl⟩
 refine F.okE rK (λvs H Q E h=>?_) (λcdv A' outer s' H vs Q E hr h=>?_)
 ·obtain⟨nt,ntx,nl,xs,rfl,_⟩:=h
  rfl
 ·obtain⟨nt,ntx,nl,xs,rfl,N,k⟩:=h
  refine⟨_,(PSs.nox (ai (aP (hZ iG rfl T.qM PyProof.Rows.Boot.«list» (ab (aI (pv 0) rfl) aj))))),?_⟩;exact⟨_,rfl,nt,D.aF,ntx,_,.ref nl,rfl,N.i,T.dH,T.b7,rfl,nl,xs,rfl,.inl (SqL.of N.l),λp hp=>k p _ (aE.upd hp) hp ah⟩
noncomputable def vY(D:Ad):Sp:=λvs H Q _=>∃ x A s,vs=[.ref x]∧IH D H x A s∧Good s∧(∀ p H',aE H H'→H p=none→H' p=some (.lst (s.names.map nmV))→Q (.ref p) H')
noncomputable abbrev zt:List Str:=["self"]
theorem xj:aw zt ["self"] (ar kS):=⟨rfl,rfl,rfl,by decide +kernel,rfl,by decide +kernel,by decide +kernel⟩
theorem xk(F:Fun K "names" "IdealHeap.names" kS D.bS D.dF)(T:Txt K mg D)
  (fY:Ok P w K mg base 1 D.bH D.dZ ["self"] (OU D)):Ok P w K mg base 2 D.bS D.dF ["self"] (vY D):=by
 refine⟨?_,F.binds (ps:=["self"]) λ_ _ _ _ _ _ us hl=>match us,hl with|[_],_=>rfl⟩
 refine F.okE xj (λvs H Q E h=>?_) (λcdv A' outer s' H vs Q E hr h=>?_)
 ·obtain⟨x,A,s,rfl,_⟩:=h
  rfl
 ·obtain⟨x,A,s,rfl,J,G,k⟩:=h
  refine⟨_,(PSs.nox (ai (aP (bM (aI (pv 0) rfl) T.dH T.rC fY.g (hr.mono (by decide)) fY.b .nil bG)))),?_⟩;exact⟨_,rfl,x,D.aa,_,_,.ref A.nt,rfl,J.ax,T.ae,T.dA,Ql,A.nt,A.ntx,_,rfl,J.ant,rfl,A.nt,A.ntx,A.nl,_,rfl,J.ntb G,k⟩
noncomputable def pB(D:Ad):Sp:=λvs H Q _=>∃ x A s,vs=[.ref x]∧IH D H x A s∧Good s∧(∀ p H',aE H H'→H p=none→H' p=some (.lst ((keys s).map V.int))→Q (.ref p) H')
noncomputable abbrev xm:List Str:=["self"]
theorem vt:aw xm ["self"] (ar kg):=⟨rfl,rfl,rfl,by decide +kernel,rfl,by decide +kernel,by decide +kernel⟩
theorem vv(F:Fun K "things" "IdealHeap.things" kg D.bj D.cB)(T:Txt K mg D):Ok P w K mg base 1 D.bj D.cB ["self"] (pB D):=by
 refine⟨?_,F.binds (ps:=["self"]) λ_ _ _ _ _ _ us hl=>match us,hl with|[_],_=>rfl⟩
 refine F.okE vt (λvs H Q E h=>?_) (λcdv A' outer s' H vs Q E hr h=>?_)
 ·obtain⟨x,A,s,rfl,_⟩:=h
  rfl
 ·obtain⟨x,A,s,rfl,J,G,k⟩:=h
  refine⟨_,(PSs.nox (ai (aP (cw (Ip rfl) rfl T.A7 PyProof.Rows.Boot.«sorted» (ab (aI (pv 0) rfl) aj))))),?_⟩;exact⟨_,rfl,x,D.aa,_,_,.ref A.fh,rfl,J.ax,T.ae,T.aC,rp,A.fh,_,keys s,rfl,.inl J.afh,Qm s A,(by unfold keys;rw[ai8];exact ajy G.few (by decide)),G.asc.imp (λh=>Int.le_of_lt h),λp hp=>k p _ (aE.upd hp) hp ah⟩
noncomputable def RN(D:Ad):Sp:=λvs H Q E=>∃ x A s,∃ t:Int,vs=[.ref x,.int t]∧IH D H x A s∧Good s∧Sm t∧(t∈keys s→Q .non H)∧(t∉keys s→Bad D.h7 H E)
noncomputable abbrev vw:List Str:=["self", "t"]
theorem t9:aw vw ["self", "t"] (ar jT):=⟨rfl,rfl,rfl,by decide +kernel,rfl,by decide +kernel,by decide +kernel⟩
theorem ua(F:Fun K "look_at_held" "Heap.look_at_held" jT D.bt D.fA)(T:Txt K mg D)
  (ag:Ok P w K mg base 1 D.ao D.aA ["self", "text"] (Bn K)):Ok P w K mg base 3 D.bt D.fA ["self", "t"] (RN D):=by
 refine⟨?_,F.binds (ps:=["self", "t"]) λ_ _ _ _ _ _ us hl=>match us,hl with|[_,_],_=>rfl⟩
 refine F.okE t9 (λvs H Q E h=>?_) (λcdv A' outer s' H vs Q E hr h=>?_)
 ·obtain⟨x,A,s,t,rfl,_⟩:=h
  rfl
 ·obtain⟨x,A,s,t,rfl,J,G,ht,k,kb⟩:=h
  have hu:=jV hr;refine⟨_,(ai (cV (rT (mL hu (pv 1) (aI (pv 0) rfl)) (by with_unfolding_all rfl))
    (ai (fP rfl kz (kA T.Nm ag.g (hr.mono (by decide)) rfl T.Nk ag.b (Passes.x (aQ λ_ _ _ q=>q)) (ab (jt (br (lM (pv 1)) (br gT js))) aj))))
    a7)),?_⟩
  refine⟨_,rfl,_,rfl,x,D.aa,_,_,.ref A.fh,rfl,J.ax,T.ae,T.aC,rp,A.fh,_,rfl,rB.k (k:=Sum.inl t) J.afh,_,rfl,?_⟩;rw[(Qm s A).isS];by_cases c:t∈keys s
  ·rw[decide_eq_true c]
   exact u4 (k c)
  ·rw[decide_eq_false c]
   exact wa ⟨_,rfl,t,rfl,ht,λy hy ea hea=>cM T.Nl (λ_ q=>q) (kb c) ea hea⟩
noncomputable def wB(D:Ad):Sp:=λvs H Q E=>∃ x A s,∃ t:Int,vs=[.ref x,.int t]∧IH D H x A s∧Good s∧Sm t∧(t∈keys s→∀ p H',aE H H'→H p=none→H' p=some (.lst (A.fx t))→Q (.ref p) H')∧(t∉keys s→Bad D.h7 H E)
noncomputable abbrev tG:List Str:=["self", "t"]
theorem rM:aw tG ["self", "t"] (ar iR):=⟨rfl,rfl,rfl,by decide +kernel,rfl,by decide +kernel,by decide +kernel⟩
theorem rN(F:Fun K "fields_of" "IdealHeap.fields_of" iR D.aN D.bo)(T:Txt K mg D)
  (gP:Ok P w K mg base 3 D.bt D.fA ["self", "t"] (RN D)):Ok P w K mg base 4 D.aN D.bo ["self", "t"] (wB D):=by
 refine⟨?_,F.binds (ps:=["self", "t"]) λ_ _ _ _ _ _ us hl=>match us,hl with|[_,_],_=>rfl⟩
 refine F.okE rM (λvs H Q E h=>?_) (λcdv A' outer s' H vs Q E hr h=>?_)
 ·obtain⟨x,A,s,t,rfl,_⟩:=h
  rfl
 ·obtain⟨x,A,s,t,rfl,J,G,ht,k,kb⟩:=h
  have hu:=jV hr;refine⟨_,(ak (aJ (aK (pv 0) T.ae T.pz gP.g (hr.mono (by decide)) gP.b .nil (Passes.x (aQ λ_ _ _ q=>q)) (ab (pv 1) aj)))
   (ai (aP (hZ iG rfl T.qM PyProof.Rows.Boot.«list» (ab (gS hu (aI (pv 0) rfl) (pv 1) (λ_ _=>rfl)) aj))))),?_⟩
  refine⟨_,rfl,x,_,_,rfl,J.ax,(by kernel_rfl),_,rfl,x,A,s,t,rfl,J,G,ht,λm=>?_,kb⟩;obtain⟨ws,mw⟩:=mem_keys.mp m;exact⟨_,rfl,x,D.aa,_,_,.ref A.fh,rfl,J.ax,T.ae,T.aC,rp,_,rfl,A.fh,_,rfl,J.UB G mw,A.fa t,_,rfl,.inl (SqL.of (J.afl _ _ mw).1),λp hp=>k m p _ (aE.upd hp) hp ah⟩
inductive Mw where
 | no
 | num (n:Int)
 | ad (a:Int)
 | hd (t n:Int)
 | mv (a n:Int)
noncomputable def Mw.its:Mw→List V
 | .no=>[]
 | .num n=>[.str "number",.int n]
 | .ad a=>[.str "at",.int a]
 | .hd t n=>[.str "head",.int t,.int n]
 | .mv a n=>[.str "moved",.int a,.int n]
noncomputable def Mw.kind:Mw→Str
 | .no => "none"
 | .num _ => "number"
 | .ad _ => "at"
 | .hd _ _ => "head"
 | .mv _ _ => "moved"
noncomputable def MV(H:Hp)(v:V)(w:Mw):Prop:=(w=.no∧v=.non)∨(w≠.no∧∃ t,v=.ref t∧H t=some (.tup w.its))
theorem MV.keep{H H':Hp}{v:V}{w:Mw}(h:MV H v w)(s:cv H H'):MV H' v w:=by
 rcases h with h|⟨n,t,e,q⟩
 ·exact .inl h
 ·exact .inr ⟨n,t,e,s _ _ q⟩
noncomputable def MR(H:Hp)(xs:List V)(ws:List Mw):Prop:=xs.length=ws.length∧∀(i:Nat) (v:V) (w:Mw),xs[i]?=some v→ws[i]?=some w→MV H v w
theorem MR.keep{H H':Hp}{xs:List V}{ws:List Mw}(h:MR H xs ws)(s:cv H H'):MR H' xs ws:=⟨h.1,λi v w a b=>(h.2 i v w a b).keep s⟩
theorem MR.get{H:Hp}{xs:List V}{ws:List Mw}(h:MR H xs ws){i:Nat}{w:Mw}(hw:ws[i]?=some w):∃ v,xs[i]?=some v∧MV H v w:=by
 have hi:i<xs.length:=by rw[h.1];exact(ai6.mp hw).1
 exact⟨_,ai7 hi,h.2 i _ _ (ai7 hi) hw⟩
theorem MR.set{H:Hp}{xs:List V}{ws:List Mw}{i:Nat}{v:V}{w:Mw}(h:MR H xs ws)(hv:MV H v w):MR H (xs.set i v) (ws.set i w):=by
 refine⟨by rw[ajG,ajG];exact h.1,λj u y a b=>?_⟩;by_cases e:i=j
 ·subst e
  rw[List.getElem?_set]at a b;simp only[if_true]at a b;split at a
  ·split at b
   ·cases a;cases b;exact hv
   ·cases b
  ·cases a
 ·rw[aj9 e]at a b
  exact h.2 j u y a b
theorem MR.rep{H:Hp}{n:Nat}:MR H (List.replicate n .non) (List.replicate n .no):=⟨by rw[ajT,ajT],λi v w a b=>by
 rw[akf]at a b;split at a
 ·rename_i c
  rw[if_pos c]at b;cases a;cases b;exact .inl ⟨rfl,rfl⟩
 ·cases a⟩
structure Mm(D:Ad)(H:Hp)(m mx c:Addr)(xs:List V)(ws:List Mw):Prop where
 i:H m=some (.ins D.bN mx [("cells",.ref c)])
 l:H c=some (.lst xs)
 r:MR H xs ws
 z:ws.length≤10000
section
variable{D:Ad}{H H':Hp}{m mx c:Addr}{xs:List V}{ws:List Mw}
theorem Mm.same(M:Mm D H m mx c xs ws)(s:aE H H'):Mm D H' m mx c xs ws:=⟨s _ _ M.i,s _ _ M.l,M.r.keep (cv.of s),M.z⟩
theorem Mm.mc(M:Mm D H m mx c xs ws):m≠c:=ay M.i M.l (by intro z;cases z)
theorem Mm.set(M:Mm D H m mx c xs ws){i:Nat}{v:V}{w:Mw}(hv:MV H v w):Mm D (upd H c (.lst (xs.set i v))) m mx c (xs.set i v) (ws.set i w) :=
 ⟨by rw[af M.mc];exact M.i,ah,(M.r.set hv).keep (cv.set M.l (by intro z y;cases y)),by rw[ajG];exact M.z⟩
end
theorem MA(n:Nat):(List.replicate n [V.non]).flatten=List.replicate n .non:=by
 induction n with
 | zero=>rfl
 | succ n ih=>rw[ajK,akb,ih,ajK];rfl
structure Gm(ws:List Mw):Prop where
 hd:∀ t n,Mw.hd t n∈ws→0≤n∧n≤1000
 mv:∀ a n,Mw.mv a n∈ws→Sm a
inductive Rv(ws:List Mw):Nat→Int→Option Int→Prop where
 | out {a:Int}:¬(0≤a∧a<ws.length)→Rv ws 0 a none
 | stop {a:Int} {w:Mw}:0≤a→ws[a.toNat]?=some w→(∀ b n,w≠.mv b n)→Rv ws 0 a (some a)
 | step {k:Nat} {a b n:Int} {r:Option Int}:0≤a→ws[a.toNat]?=some (.mv b n)→Rv ws k b r→Rv ws (k+1) a r
noncomputable def MB(D:Ad):Sp:=λvs H Q _=>∃ m dx,∃ n:Int,vs=[.ref m,.int n]∧H m=some (.ins D.bN dx [])∧0≤n∧n≤10000∧∀ c H',But m H H'→H c=none→Mm D H' m dx c (List.replicate n.toNat .non) (List.replicate n.toNat .no)→Q .non H'
noncomputable abbrev zu:List Str:=["self", "size"]
theorem xn:aw zu ["self", "size"] (ar kU):=⟨rfl,rfl,rfl,by decide +kernel,rfl,by decide +kernel,by decide +kernel⟩
theorem xo(F:Fun K "__init__" "Memory.__init__" kU D.cU D.gC)(T:Txt K mg D):Ok P w K mg base 1 D.cU D.gC ["self", "size"] (MB D):=by
 refine⟨?_,F.binds (ps:=["self", "size"]) λ_ _ _ _ _ _ us hl=>match us,hl with|[_,_],_=>rfl⟩
 refine F.okE xn (λvs H Q E h=>?_) (λcdv A' outer s' H vs Q E hr h=>?_)
 ·obtain⟨m,dx,n,rfl,_⟩:=h
  rfl
 ·obtain⟨m,dx,n,rfl,hm,n0,n1,k⟩:=h
  refine⟨_,(ai (hJ (pv 0) (aO F9 (jY (ab dY aj)) (pv 1)) rfl)),?_⟩;refine⟨by show 1≤sizeLine;decide,λp hp=>⟨_,rfl,p,n,_,rfl,rfl,ah,by omega,by omega,by show 1*n.toNat≤sizeLine;exact ajy (show 1*n.toNat≤10000 by omega) (by decide),λq hq=>?_⟩⟩;have np:m≠p:=aq hm hp;have hm1:upd H p (.lst [.non]) m=some (.ins D.bN dx []):=by rw[af np];exact hm
  have nq:m≠q:=aq hm1 hq;have qp:q≠p:=λe=>by rw[e,ah]at hq;cases hq
  have hq0:H q=none:=by rw[af qp]at hq;exact hq
  refine⟨_,rfl,m,D.bN,dx,[],rfl,(by rw[af nq];exact hm1),T.dw,T.hV,by decide,?_⟩;refine k q _ (((But.upd hp).trans (But.upd hq)).trans But.self) hq0 ⟨ah,?_,MR.rep,by rw[ajT];omega⟩;rw[af (ajm nq),ah,MA]
noncomputable def MC(D:Ad):Sp:=λvs H Q _=>∃ m mx c xs ws,vs=[.ref m]∧Mm D H m mx c xs ws∧Q (.int ws.length) H
noncomputable abbrev Gy:List Str:=["self"]
theorem Et:aw Gy ["self"] (ar qE):=⟨rfl,rfl,rfl,by decide +kernel,rfl,by decide +kernel,by decide +kernel⟩
theorem Eu(F:Fun K "size" "Memory.size" qE D.fM D.j4)(T:Txt K mg D):Ok P w K mg base 1 D.fM D.j4 ["self"] (MC D):=by
 refine⟨?_,F.binds (ps:=["self"]) λ_ _ _ _ _ _ us hl=>match us,hl with|[_],_=>rfl⟩
 refine F.okE Et (λvs H Q E h=>?_) (λcdv A' outer s' H vs Q E hr h=>?_)
 ·obtain⟨m,mx,c,xs,ws,rfl,_⟩:=h
  rfl
 ·obtain⟨m,mx,c,xs,ws,rfl,M,k⟩:=h
  refine⟨_,(PSs.nox (ai (aP (cw a6 rfl T.kr PyProof.Rows.Boot.«len» (ab (aI (pv 0) rfl) aj))))),?_⟩;refine⟨_,rfl,m,D.bN,mx,_,.ref c,rfl,M.i,T.dw,T.hV,rfl,c,_,rfl,.inl (SqL.of M.l),?_⟩;rw[M.r.1];exact k
noncomputable def FT(D:Ad):Sp:=λvs H Q E=>∃ m mx c xs ws,∃ a:Int,vs=[.ref m,.int a]∧Mm D H m mx c xs ws∧Sm a∧(if 0≤a∧a<ws.length then Q .non H else Bad D.cP H E)
noncomputable abbrev pW:List Str:=["self", "a"]
theorem pD:aw pW ["self", "a"] (ar gE):=⟨rfl,rfl,rfl,by decide +kernel,rfl,by decide +kernel,by decide +kernel⟩
theorem pE(F:Fun K "look_at_address" "Memory.look_at_address" gE D.aU D.bZ)(T:Txt K mg D)
  (ag:Ok P w K mg base 1 D.ao D.aA ["self", "text"] (Bn K)):Ok P w K mg base 3 D.aU D.bZ ["self", "a"] (FT D):=by
 refine⟨?_,F.binds (ps:=["self", "a"]) λ_ _ _ _ _ _ us hl=>match us,hl with|[_,_],_=>rfl⟩
 refine F.okE pD (λvs H Q E h=>?_) (λcdv A' outer s' H vs Q E hr h=>?_)
 ·obtain⟨m,mx,c,xs,ws,a,rfl,_⟩:=h
  rfl
 ·obtain⟨m,mx,c,xs,ws,a,rfl,M,ha,k⟩:=h
  refine⟨_,(ai (cV (qv (nv yl AZ au (pv 1) (cw a6 rfl T.kr PyProof.Rows.Boot.«len» (ab (aI (pv 0) rfl) aj))))
    (ai (fP rfl kz (kA T.Gb ag.g (hr.mono (by decide)) rfl T.wk ag.b (Passes.x (aQ λ_ _ _ q=>q)) (ab (jt (br gT (br (lM (pv 1)) js))) aj))))
    a7)),?_⟩
  have el:=M.r.1;by_cases g:0≤a∧a<(ws.length:Int)
  ·rw[if_pos g]at k
   refine⟨_,rfl,0,a,rfl,rfl,_,rfl,eE (λ_=>⟨_,rfl,m,D.bN,mx,_,.ref c,rfl,M.i,T.dw,T.hV,rfl,c,_,rfl,.inl (SqL.of M.l),a,_,rfl,rfl,_,rfl,eE (λh2=>absurd h2 (by rw[el,decide_eq_true g.2];decide)) (λ_=>k)⟩) (λh1=>absurd (decide_eq_true g.1) h1)⟩
  ·rw[if_neg g]at k
   by_cases g0:0≤a
   ·have g1:¬a<(ws.length:Int):=λz=>g ⟨g0,z⟩
    refine⟨_,rfl,0,a,rfl,rfl,_,rfl,eE (λ_=>⟨_,rfl,m,D.bN,mx,_,.ref c,rfl,M.i,T.dw,T.hV,rfl,c,_,rfl,.inl (SqL.of M.l),a,_,rfl,rfl,_,rfl,eE (λ_=>⟨_,rfl,a,rfl,ha,λy hy ea hea=>cM T.qI (λ_ q=>q) k ea hea⟩) (λh2=>absurd (by rw[el,decide_eq_false g1];rfl) h2)⟩) (λh1=>absurd (decide_eq_true g0) h1)⟩
   ·refine⟨_,rfl,0,a,rfl,rfl,_,rfl,eE (λh1=>absurd (of_decide_eq_true h1) g0) (λ_=>⟨_,rfl,wa ⟨_,rfl,a,rfl,ha,λy hy ea hea=>cM T.qI (λ_ q=>q) k ea hea⟩⟩)⟩
noncomputable def D2(D:Ad):Sp:=λvs H Q E=>∃ m mx c xs ws,∃ a:Int,vs=[.ref m,.int a]∧Mm D H m mx c xs ws∧Sm a∧(if 0≤a∧a<ws.length then ∀ v w,xs[a.toNat]?=some v→ws[a.toNat]?=some w→MV H v w→Q v H else Bad D.cP H E)
noncomputable abbrev Lb:List Str:=["self", "a"]
theorem IT:aw Lb ["self", "a"] (ar uT):=⟨rfl,rfl,rfl,by decide +kernel,rfl,by decide +kernel,by decide +kernel⟩
theorem IU(F:Fun K "at" "Memory.at" uT D.e7 D.iC)(T:Txt K mg D)
  (aZ:Ok P w K mg base 3 D.aU D.bZ ["self", "a"] (FT D)):Ok P w K mg base 4 D.e7 D.iC ["self", "a"] (D2 D):=by
 refine⟨?_,F.binds (ps:=["self", "a"]) λ_ _ _ _ _ _ us hl=>match us,hl with|[_,_],_=>rfl⟩
 refine F.okE IT (λvs H Q E h=>?_) (λcdv A' outer s' H vs Q E hr h=>?_)
 ·obtain⟨m,mx,c,xs,ws,a,rfl,_⟩:=h
  rfl
 ·obtain⟨m,mx,c,xs,ws,a,rfl,M,ha,k⟩:=h
  refine⟨_,(ak (aJ (aK (pv 0) T.dw T.jv aZ.g (hr.mono (by decide)) aZ.b .nil (Passes.x (aQ λ_ _ _ q=>q)) (ab (pv 1) aj)))
   (ai (aP (du eu (aI (pv 0) rfl) (pv 1) (λ_ _=>rfl))))),?_⟩
  have el:=M.r.1;refine⟨_,rfl,m,_,_,rfl,M.i,(by kernel_rfl),_,rfl,m,mx,c,xs,ws,a,rfl,M,ha,?_⟩;by_cases g:0≤a∧a<(ws.length:Int)
  ·rw[if_pos g]at k ⊢
   have hw:ws[a.toNat]?=some (ws[a.toNat]'(by omega)):=ai7 _;obtain⟨v,hv,mv⟩:=M.r.get hw;exact⟨_,rfl,m,D.bN,mx,_,.ref c,rfl,M.i,T.dw,T.hV,rfl,_,rfl,c,xs,a,v,rfl,rfl,SqL.of M.l,AY g.1 hv,k v _ hv hw mv⟩
  ·rw[if_neg g]at k ⊢
   exact k
noncomputable def OV(D:Ad):Sp:=λvs H Q E=>∃ m mx c xs ws,∃(a:Int) (v:V) (w:Mw),vs=[.ref m,.int a,v]∧Mm D H m mx c xs ws∧Sm a∧MV H v w∧(if 0≤a∧a<ws.length then(Mm D (upd H c (.lst (xs.set a.toNat v))) m mx c (xs.set a.toNat v) (ws.set a.toNat w)→Q .non (upd H c (.lst (xs.set a.toNat v)))) else Bad D.cP H E)
noncomputable abbrev IV:List Str:=["self", "a", "word"]
theorem Gz:aw IV ["self", "a", "word"] (ar sq):=⟨rfl,rfl,rfl,by decide +kernel,rfl,by decide +kernel,by decide +kernel⟩
theorem GA(F:Fun K "put" "Memory.put" sq D.gG D.lD)(T:Txt K mg D)
  (aZ:Ok P w K mg base 3 D.aU D.bZ ["self", "a"] (FT D)):Ok P w K mg base 4 D.gG D.lD ["self", "a", "word"] (OV D):=by
 refine⟨?_,F.binds (ps:=["self", "a", "word"]) λ_ _ _ _ _ _ us hl=>match us,hl with|[_,_,_],_=>rfl⟩
 refine F.okE Gz (λvs H Q E h=>?_) (λcdv A' outer s' H vs Q E hr h=>?_)
 ·obtain⟨m,mx,c,xs,ws,a,v,w,rfl,_⟩:=h
  rfl
 ·obtain⟨m,mx,c,xs,ws,a,v,w,rfl,M,ha,hv,k⟩:=h
  refine⟨_,(ak (aJ (aK (pv 0) T.dw T.jv aZ.g (hr.mono (by decide)) aZ.b .nil (Passes.x (aQ λ_ _ _ q=>q)) (ab (pv 1) aj)))
   (ai (oZ (pv 2) (rU (aI (pv 0) rfl) (pv 1) set_list)))),?_⟩
  have el:=M.r.1;refine⟨_,rfl,m,_,_,rfl,M.i,(by kernel_rfl),_,rfl,m,mx,c,xs,ws,a,rfl,M,ha,?_⟩;by_cases g:0≤a∧a<(ws.length:Int)
  ·rw[if_pos g]at k ⊢
   exact⟨_,rfl,_,rfl,m,D.bN,mx,_,.ref c,rfl,M.i,T.dw,T.hV,rfl,_,rfl,c,xs,a,a.toNat,rfl,rfl,M.l,Fm g.1 (by rw[el];exact g.2),k (M.set hv)⟩
  ·rw[if_neg g]at k ⊢
   exact k
noncomputable def Kh:Sp:=λvs H Q _=>∃ v w,vs=[v]∧MV H v w∧Q (.str w.kind) H
theorem Lc(F:Fun K "kind_of" "kind_of" vU D.eV D.h9)(T:Txt K mg D):Ok P w K mg base 1 D.eV D.h9 ["value"] (Kh):=by
 refine⟨?_,F.binds (ps:=["value"]) λ_ _ _ _ _ _ us hl=>match us,hl with|[_],_=>rfl⟩
 refine F.okE Fn (λvs H Q E h=>?_) (λcdv A' outer s' H vs Q E hr h=>?_)
 ·obtain⟨v,w,rfl,_⟩:=h
  rfl
 ·obtain⟨v,w,rfl,hv,k⟩:=h
  refine⟨_,(PSs.nox (ai (aP (pJ (aV qx (pv 0) dY (bC _)) fg (du gi (pv 0) au (λ_ _=>rfl)))))),?_⟩;rcases hv with⟨rfl,rfl⟩|⟨n,t,rfl,ht⟩
  ·exact⟨_,rfl,rfl,_,rfl,eE (λ_=>k) (λh=>absurd (by simp) h)⟩
  ·refine⟨_,rfl,rfl,_,rfl,eE (λh=>by simp at h) (λ_=>⟨_,rfl,t,_,0,.str w.kind,rfl,rfl,SqT.of ht,?_,k⟩)⟩
   cases w with
   | no=>exact absurd rfl n
   | _=>rfl
noncomputable def RO(D:Ad):Sp:=λvs H Q E=>∃ m mx c xs ws,∃(a:Int) (j:Nat) (r:Option Int),vs=[.ref m,.int a]∧Mm D H m mx c xs ws∧Gm ws∧Sm a∧Rv ws j a r∧(match r with|some z=>Q (.int z) H|none=>Bad D.cP H E)
noncomputable abbrev NJ:List Str:=["memory", "a", "word"]
theorem qk:aw NJ ["memory", "a"] (ar yq):=⟨rfl,rfl,rfl,by decide +kernel,rfl,by decide +kernel,by decide +kernel⟩
theorem Ld(F:Fun K "resolved" "resolved" yq D.iM D.pw)(T:Txt K mg D)
  (bL:Ok P w K mg base 4 D.e7 D.iC ["self", "a"] (D2 D))
  (jD:Ok P w K mg base 1 D.eV D.h9 ["value"] (Kh)):Ok P w K mg base 5 D.iM D.pw ["memory", "a"] (RO D):=by
 refine⟨?_,F.binds (ps:=["memory", "a"]) λ_ _ _ _ _ _ us hl=>match us,hl with|[_,_],_=>rfl⟩
 refine F.okE qk (λvs H Q E h=>?_) (λcdv A' outer s' H vs Q E hr h=>?_)
 ·obtain⟨m,mx,c,xs,ws,a,j,r,rfl,_⟩:=h
  rfl
 ·obtain⟨m,mx,c,xs,ws,a,j,r,rfl,M,gm,ha,hr',k⟩:=h
  refine⟨_,(PSs.xr (ak (aW (i:=2) qk.nd rfl (Or.inl rfl) (aK (pv 0) T.dw T.lG bL.g (hr.mono (by decide)) bL.b .nil (Sj λ_ _ _ q=>q) (ab (pv 1) aj)))
   (ak (FE aiD (aV tW (aH jD.g (hr.mono (by decide)) rfl T.rE T.mM jD.b .nil (Sj λ_ _ _ q=>q) (ab (pv 2) aj)) fg (bC _))
    (ak (aW (i:=1) qk.nd rfl (Or.inl rfl) (du gi (pv 2) au (λ_ _=>rfl)))
    (ai (aW (i:=2) qk.nd rfl (Or.inl rfl) (aK (pv 0) T.dw T.lG bL.g (hr.mono (by decide)) bL.b .nil (Sj λ_ _ _ q=>q) (ab (pv 1) aj))))))
   (ai (aP (pv 1)))))),?_⟩
  have at_:∀(Q':VK) (a:Int) (j:Nat),Sm a→Rv ws j a r→(∀ v w,xs[a.toNat]?=some v→ws[a.toNat]?=some w→MV H v w→0≤a→a<ws.length→Q' v H)→D2 D [.ref m,.int a] H Q' E:=λQ' a j ha hr' q=>by
   refine⟨m,mx,c,xs,ws,a,rfl,M,ha,?_⟩;by_cases g:0≤a∧a<(ws.length:Int)
   ·rw[if_pos g]
    exact λv w h1 h2 h3=>q v w h1 h2 h3 g.1 g.2
   ·rw[if_neg g]
    cases hr' with
    | out _=>exact k
    | stop h0 hw _=>exact absurd ⟨h0,by have:=(ai6.mp hw).1;omega⟩ g
    | step h0 hw _=>exact absurd ⟨h0,by have:=(ai6.mp hw).1;omega⟩ g
  refine⟨_,rfl,m,_,_,rfl,M.i,(by kernel_rfl),_,rfl,at_ _ a j ha hr' λv w hv hw mv a0 al=>?_⟩;refine⟨λn σ Hx=>∃(a:Int) (v:V) (w:Mw),σ=[some (.ref m),some (.int a),some v]∧Hx=H∧Rv ws n a r∧MV H v w∧ws[a.toNat]?=some w∧0≤a∧a<ws.length,⟨j,a,v,w,rfl,rfl,hr',mv,hw,a0,al⟩,?_⟩;rintro n σ Hx ⟨a,v,w,rfl,rfl,hr2,mv,hw,a0,al⟩;refine⟨_,rfl,v,w,rfl,mv,rfl,_,rfl,?_⟩;by_cases hm:∃ b z,w=.mv b z
  ·obtain⟨b,z,rfl⟩:=hm
   obtain⟨_,p,rfl,hp⟩:=mv.resolve_left (λz=>by cases z.1);refine nW (by kernel_rfl) ?_;cases hr2 with
   | out h=>exact absurd ⟨a0,al⟩ h
   | stop _ h2 h3=>rw[hw]at h2;cases h2;exact absurd rfl (h3 b z)
   | @step n' _ b' _ _ _ h2 h3 =>
    rw[hw]at h2;cases h2;have sb:=gm.mv b z (aje hw);refine⟨λσ' H'=>∃ m',m'<n'+1∧∃(a:Int) (v:V) (w:Mw),σ'=[some (.ref m),some (.int a),some v]∧H'=Hx∧Rv ws m' a r∧MV Hx v w∧ws[a.toNat]?=some w∧0≤a∧a<ws.length,λ_ _ h=>h,?_⟩;refine⟨_,rfl,p,_,1,.int b,rfl,rfl,SqT.of hp,rfl,?_⟩;exact⟨_,rfl,m,_,_,rfl,M.i,(by kernel_rfl),_,rfl,at_ _ b n' sb h3 λv w hv hw mv a0 al=>⟨n',akH _,b,v,w,rfl,rfl,h3,mv,hw,a0,al⟩⟩
  ·have nm:∀ b z,w≠.mv b z:=λb z e=>hm ⟨b,z,e⟩
   refine ku ?_ ?_
   ·cases w with
    | mv b z=>exact absurd rfl (nm b z)
    | _=>kernel_rfl
   ·cases hr2 with
    | out h=>exact absurd ⟨a0,al⟩ h
    | stop _ _ _=>exact⟨_,rfl,k⟩
    | step _ h2 _=>rw[hw]at h2;cases h2;exact absurd rfl (nm _ _)
noncomputable def Lk(ws:List Mw)(kv:List (Key×V)):Wd→Mw→Prop
 | .no,w=>w=.no
 | .num n,w=>w=.num n
 | .th t,w=>∃(a:Int) (j:Nat) (z:Int),w=.ad a∧Sm a∧Rv ws j a (some z)∧gR kv (Sum.inl t)=some (.int z)
noncomputable def MD(D:Ad):Sp:=λvs H Q _=>∃ m mx c xs ws,∃(a:Int) (j:Nat) (z:Int),vs=[.ref m,.int a]∧Mm D H m mx c xs ws∧Gm ws∧Sm a∧Rv ws j a (some z)∧Q (.int z) H
noncomputable abbrev Le:List Str:=["memory", "a"]
theorem IW:aw Le ["memory", "a"] (ar uM):=⟨rfl,rfl,rfl,by decide +kernel,rfl,by decide +kernel,by decide +kernel⟩
theorem IX(F:Fun K "place_met" "place_met" uM D.gI D.mN)(T:Txt K mg D)
  (sT:Ok P w K mg base 5 D.iM D.pw ["memory", "a"] (RO D)):Ok P w K mg base 6 D.gI D.mN ["memory", "a"] (MD D):=by
 refine⟨?_,F.binds (ps:=["memory", "a"]) λ_ _ _ _ _ _ us hl=>match us,hl with|[_,_],_=>rfl⟩
 refine F.okE IW (λvs H Q E h=>?_) (λcdv A' outer s' H vs Q E hr h=>?_)
 ·obtain⟨m,mx,c,xs,ws,a,j,z,rfl,_⟩:=h
  rfl
 ·obtain⟨m,mx,c,xs,ws,a,j,z,rfl,M,gm,ha,hr',k⟩:=h
  obtain⟨cdT,xT⟩:=T.qI.cls;refine⟨_,(ai (OA rfl rfl rfl T.wk xT (λpins E' EK hp=>ai (aP (aH sT.g (hr.mono (by decide)) rfl T.Nx T.yv sT.b .nil hp (ab (pv 0) (ab (pv 1) aj))))) (λea=>ai (aP dY)))),?_⟩;exact⟨_,rfl,_,rfl,m,mx,c,xs,ws,a,j,some z,rfl,M,gm,ha,hr',k⟩
noncomputable def Ki(D:Ad):Sp:=λvs H Q _=>∃ m mx c xs ws,∃(v y:V) (wd:Wd) (mw:Mw) (dd:Addr) (kv:List (Key×V)),vs=[v,.ref m,y,.ref dd]∧Mm D H m mx c xs ws∧Gm ws∧WV H v wd∧MV H y mw∧H dd=some (.dK kv)∧Lk ws kv wd mw∧Q (.bl true) H
noncomputable abbrev PU:List Str:=["value", "memory", "word", "stands"]
theorem NK:aw PU ["value", "memory", "word", "stands"] (ar CJ):=⟨rfl,rfl,rfl,by decide +kernel,rfl,by decide +kernel,by decide +kernel⟩
theorem NL(F:Fun K "is_like" "is_like" CJ D.jb D.ph)(T:Txt K mg D)
  (gM:Ok P w K mg base 1 D.eV D.h9 ["value"] (Ks))
  (jD:Ok P w K mg base 1 D.eV D.h9 ["value"] (Kh))
  (ql:Ok P w K mg base 6 D.gI D.mN ["memory", "a"] (MD D)):Ok P w K mg base 7 D.jb D.ph ["value", "memory", "word", "stands"] (Ki D):=by
 refine⟨?_,F.binds (ps:=["value", "memory", "word", "stands"]) λ_ _ _ _ _ _ us hl=>match us,hl with|[_,_,_,_],_=>rfl⟩
 refine F.okE NK (λvs H Q E h=>?_) (λcdv A' outer s' H vs Q E hr h=>?_)
 ·obtain⟨m,mx,c,xs,ws,v,y,wd,mw,dd,kv,rfl,_⟩:=h
  rfl
 ·obtain⟨m,mx,c,xs,ws,v,y,wd,mw,dd,kv,rfl,M,gm,hv,hy,hd,lk,k⟩:=h
  have hu:=jV hr;refine⟨_,(PSs.nox (ak (cV (aV Qh (aH gM.g (hr.mono (by decide)) rfl T.rE T.mM gM.b .nil bG (ab (pv 0) aj)) fg (bC _))
    (ai (aP (Bh (Vq (n:=1) hu) (pv 2) (pv 0) (bC _))))
    a7)
   (ai (aP (UR (Bh tW (aH jD.g (hr.mono (by decide)) rfl T.rE T.mM jD.b .nil bG (ab (pv 2) aj)) fg (bC _)) (UQ (Bh tW (aH ql.g (hr.mono (by decide)) rfl T.K0 T.uY ql.b .nil bG (ab (pv 1) (ab (du gi (pv 2) au (λ_ _=>rfl)) aj))) (gS hu (pv 3) (du gi (pv 0) au (λ_ _=>rfl)) (λ_ _=>rfl)) (bC _)))))))),?_⟩
  cases wd with
  | no =>
   have hv:v=.non:=hv;subst hv;have lk:mw=.no:=lk;subst lk;obtain⟨_,rfl⟩:=hy.resolve_right (λz=>z.1 rfl);have r1:Rp H 1 V.non (.a .non):=⟨rfl,rfl⟩;refine⟨_,rfl,_,.no,rfl,rfl,rfl,_,rfl,nW (by kernel_rfl) ⟨_,rfl,_,rfl,_,_,r1,r1,?_⟩⟩;rw[nz r1 r1];exact k
  | num n =>
   obtain⟨t,rfl,ht⟩:=hv;have lk:mw=.num n:=lk;subst lk;obtain⟨_,p,rfl,hp⟩:=hy.resolve_left (λz=>by cases z.1);have r1:Rp H 1 (V.ref t) (.t [.a (.str "number"),.a (.int n)]):=⟨t,_,rfl,ht,rfl,(λj u x h1 h2=>by match j,h1,h2 with|0,h1,h2=>cases h1;cases h2;exact⟨rfl,rfl⟩|1,h1,h2=>cases h1;cases h2;exact⟨rfl,rfl⟩|j+2,h1,_=>cases h1)⟩
   have r2:Rp H 1 (V.ref p) (.t [.a (.str "number"),.a (.int n)]):=⟨p,_,rfl,hp,rfl,(λj u x h1 h2=>by match j,h1,h2 with|0,h1,h2=>cases h1;cases h2;exact⟨rfl,rfl⟩|1,h1,h2=>cases h1;cases h2;exact⟨rfl,rfl⟩|j+2,h1,_=>cases h1)⟩
   refine⟨_,rfl,_,.num n,rfl,⟨t,rfl,ht⟩,rfl,_,rfl,nW (by kernel_rfl) ⟨_,rfl,_,rfl,_,_,r2,r1,?_⟩⟩;rw[nz r1 r1];exact k
  | th t =>
   obtain⟨q,rfl,hq⟩:=hv;obtain⟨a,j,z,rfl,sa,rv,hk⟩:=lk;obtain⟨nn,p,rfl,hp⟩:=hy.resolve_left (λz=>by cases z.1);refine⟨_,rfl,_,.th t,rfl,⟨q,rfl,hq⟩,rfl,_,rfl,ku (by kernel_rfl) ?_⟩;refine⟨_,rfl,_,.ad a,rfl,.inr ⟨nn,p,rfl,hp⟩,rfl,_,rfl,nW (by kernel_rfl) ?_⟩;refine⟨_,rfl,_,rfl,p,_,1,.int a,rfl,rfl,SqT.of hp,rfl,m,mx,c,xs,ws,a,j,z,rfl,M,gm,sa,rv,?_⟩;refine⟨_,rfl,_,rfl,q,_,1,.int t,rfl,rfl,SqT.of hq,rfl,dd,.int z,rfl,.inl ⟨kv,Sum.inl t,.inl hd,rfl,hk.symm⟩,rfl,?_⟩;simpa using k
noncomputable def Pr(H:Hp)(ps:List V)(ks:List Int)(g:Int→Int):Prop:=ps.length=ks.length∧∀(i:Nat) (u:V) (t:Int),ps[i]?=some u→ks[i]?=some t→∃ q,u=.ref q∧H q=some (.tup [.int t,.int (g t)])
theorem Pr.keep{H H':Hp}{ps:List V}{ks:List Int}{g:Int→Int}(p:Pr H ps ks g)(s:cv H H'):Pr H' ps ks g:=⟨p.1,λi u t a b=>by obtain⟨q,e,h⟩:=p.2 i u t a b;exact⟨q,e,s _ _ h⟩⟩
noncomputable def kvG(ks:List Int)(g:Int→Int):List (Key×V):=ks.map λt=>(Sum.inl t,V.int (g t))
theorem OW{g:Int→Int}{t:Int}:∀ {ks:List Int},t∈ks→gR (kvG ks g) (Sum.inl t)=some (.int (g t))
 | [],m=>nomatch m
 | a::ks,m=>by
  by_cases e:a=t
  ·subst e;exact fu rfl
  ·show gR ((Sum.inl a,V.int (g a))::kvG ks g) _=_
   rw[eS (λz=>e (Sum.inl.inj z))];exact OW ((ajo.mp m).resolve_left (ajm e))
theorem Pr.dict{H:Hp}{g:Int→Int}:∀ {ps:List V} {ks:List Int},Pr H ps ks g→∃ xs:List Addr,ps=xs.map V.ref∧Paired (λx (p:Key×V)=>H x=some (.tup [kV p.1,p.2])) xs (kvG ks g)
 | [],[],_=>⟨[],rfl,.nil⟩
 | [],_::_,h=>by cases h.1
 | _::_,[],h=>by cases h.1
 | u::ps,t::ks,h=>by
  obtain⟨xs,e,p⟩:=Pr.dict (ps:=ps) (ks:=ks) ⟨Nat.succ.inj h.1,λi v y a b=>h.2 (i+1) v y a b⟩;obtain⟨q,rfl,hq⟩:=h.2 0 u t rfl rfl;exact⟨q::xs,by rw[e];rfl,.cons hq p⟩
theorem Ig{ks:List Int}{g:Int→Int}(h:ks.Nodup):((kvG ks g).map (·.1)).Nodup:=by
 unfold kvG;rw[ajO];exact List.pairwise_map.mpr (h.imp λn e=>n (Sum.inl.inj e))
structure Pic(ws:List Mw)(s:HS)(g:Int→Int):Prop where
 hd:∀ t wd,(t,wd)∈s.aR→0≤g t∧g t+(wd.length:Int)<ws.length∧ws[(g t).toNat]?=some (.hd t wd.length)∧∀(i:Nat) (w:Wd),wd[i]?=some w→∃ mw,ws[(g t).toNat+1+i]?=some mw∧Lk ws (kvG (keys s) g) w mw
 dj:∀ t wd t' wd',(t,wd)∈s.aR→(t',wd')∈s.aR→t≠t'→g t+(wd.length:Int)<g t'∨g t'+(wd'.length:Int)<g t
theorem keys_nodup{s:HS}(G:Good s):(keys s).Nodup:=G.asc.imp λh=>Int.ne_of_lt h
structure ME(D:Ad)(H:Hp)(x:Addr)(A:HA)(s:HS)(m mx c:Addr)(xs:List V)(ws:List Mw)(b:Addr)(ps:List V)(g:Int→Int):Prop where
 J:IH D H x A s
 G:Good s
 M:Mm D H m mx c xs ws
 gm:Gm ws
 P:Pic ws s g
 hb:H b=some (.lst ps)
 pr:Pr H ps (keys s) g
 nx:s.nxt<10000
theorem ME.same{D:Ad}{H H':Hp}{x:Addr}{A:HA}{s:HS}{m mx c:Addr}{xs:List V}{ws:List Mw}{b:Addr}{ps:List V}{g:Int→Int}(S:ME D H x A s m mx c xs ws b ps g)(e:aE H H'):ME D H' x A s m mx c xs ws b ps g:=⟨S.J.same e,S.G,S.M.same e,S.gm,S.P,e _ _ S.hb,S.pr.keep (cv.of e),S.nx⟩
theorem ME.at{D:Ad}{H:Hp}{x:Addr}{A:HA}{s:HS}{m mx c:Addr}{xs:List V}{ws:List Mw}{b:Addr}{ps:List V}{g:Int→Int}(S:ME D H x A s m mx c xs ws b ps g){i:Nat}{v:V}(hi:ps[i]?=some v):∃ t q wd,v=.ref q∧H q=some (.tup [.int t,.int (g t)])∧t∈keys s∧(keys s)[i]?=some t∧(t,wd)∈s.aR:=by
 have hl:i<(keys s).length:=by rw[←S.pr.1];exact(ai6.mp hi).1
 have hk:(keys s)[i]?=some (keys s)[i]:=ai7 hl;obtain⟨q,e,h⟩:=S.pr.2 i v _ hi hk;obtain⟨wd,mw⟩:=mem_keys.mp (aje hk);exact⟨_,q,wd,e,h,aje hk,hk,mw⟩
noncomputable def MF(D:Ad):Sp:=λvs H Q _=>∃ m mx c xs ws,∃(kd:Str) (tl wl b:Addr) (us ys ps:List V) (ks:List Int) (g:Int→Int),vs=[.str kd,.ref tl,.ref m,.ref wl,.ref b]∧Mm D H m mx c xs ws∧Gm ws∧H tl=some (.lst us)∧H wl=some (.lst ys)∧us.length=ys.length∧(∀(i:Nat) (v y:V),us[i]?=some v→ys[i]?=some y→∃ wd mw,WV H v wd∧MV H y mw∧Lk ws (kvG ks g) wd mw)∧H b=some (.lst ps)∧Pr H ps ks g∧ks.Nodup∧∀ H',aE H H'→Q .non H'
noncomputable abbrev vx:List Str:=["kind", "told", "memory", "words", "book", "stands", "i", "value"]
theorem gp:aw vx ["kind", "told", "memory", "words", "book"] (ar jS):=⟨rfl,rfl,rfl,by decide +kernel,rfl,by decide +kernel,by decide +kernel⟩
theorem ub(F:Fun K "first_unlike_word" "first_unlike_word" jS D.bI D.fz)(T:Txt K mg D)
  (kH:Ok P w K mg base 7 D.jb D.ph ["value", "memory", "word", "stands"] (Ki D)):Ok P w K mg base 8 D.bI D.fz ["kind", "told", "memory", "words", "book"] (MF D):=by
 refine⟨?_,F.binds (ps:=["kind", "told", "memory", "words", "book"]) λ_ _ _ _ _ _ us hl=>match us,hl with|[_,_,_,_,_],_=>rfl⟩
 refine F.okE gp (λvs H Q E h=>?_) (λcdv A' outer s' H vs Q E hr h=>?_)
 ·obtain⟨m,mx,c,xs,ws,kd,tl,wl,b,us,ys,ps,ks,g,rfl,_⟩:=h
  rfl
 ·obtain⟨m,mx,c,xs,ws,kd,tl,wl,b,us,ys,ps,ks,g,rfl,M,gm,ht,hw,lu,hl,hb,pr,nd,k⟩:=h
  refine⟨_,(PSs.nox (ak (aW (i:=5) gp.nd rfl (Or.inl rfl) (hZ (Fh rfl) rfl T.Kr PyProof.Rows.Boot.«dict» (ab (pv 4) aj)))
   (ak (gg ajr rfl (wg rfl T.iD (ab (pv 1) aj)) (vZ rfl (eQ (a8 (i:=6) gp.nd rfl (Or.inl rfl)) (eQ (a8 (i:=7) gp.nd rfl (Or.inl rfl)) qX)))
    (ai (cV (qv (AW (aH kH.g (hr.mono (by decide)) rfl T.HX T.vV kH.b .nil bG (ab (pv 7) (ab (pv 2) (ab (du eu (pv 3) (pv 6) (λ_ _=>rfl)) (ab (pv 5) aj)))))))
     (ai (aP (iT (ab (pv 0) (ab (pv 6) aj)))))
     a7)))
   (ai (aP dY))))),?_⟩
  obtain⟨bs,rfl,pd⟩:=pr.dict;refine⟨_,rfl,b,bs,kvG ks g,rfl,hb,pd,Ig nd,λdd hdd=>?_⟩;have s1:=aE.upd (o:=.dK (kvG ks g)) hdd;refine⟨_,rfl,tl,rfl,⟨_,SqL.of (s1 _ _ ht)⟩,rW (K:=K) (a:=tl) (xs:=us) (λi σ Hx=>∃ v6 v7,σ=[some (.str kd),some (.ref tl),some (.ref m),some (.ref wl),some (.ref b),some (.ref dd),v6,v7]∧aE (upd H dd (.dK (kvG ks g))) Hx) ⟨none,none,rfl,aE.refl _⟩ (λi σ Hx _ ⟨_,_,_,sx⟩=>SqL.of (sx _ _ (s1 _ _ ht))) ?_ ?_⟩
  ·rintro i v σ Hx tp hi ⟨v6,v7,rfl,sx⟩ htp
   have t1:=aE.upd (o:=.tup [.int (i:Int),v]) htp;have S:=(s1.trans sx).trans t1;obtain⟨y,hy⟩:∃ y,ys[i]?=some y:=⟨ys[i]'(by rw[←lu];exact(ai6.mp hi).1),ai7 _⟩;obtain⟨wd,mw,h1,h2,h3⟩:=hl i v y hi hy;refine⟨tp,_,rfl,SqT.of ah,rfl,_,_,rfl,_,_,rfl,rfl,?_⟩;exact⟨_,rfl,_,rfl,_,rfl,_,rfl,wl,ys,_,y,rfl,rfl,SqL.of (S _ _ hw),Bj hy,_,rfl,m,mx,c,xs,ws,v,y,wd,mw,dd,_,rfl,M.same S,gm,h1.keep (cv.of S),h2.keep (cv.of S),t1 _ _ (sx _ _ ah),h3,true,rfl,ku rfl ⟨_,_,rfl,sx.trans t1⟩⟩
  ·rintro σ Hx ⟨v6,v7,rfl,sx⟩
   exact k _ (s1.trans sx)
noncomputable def Ih(D:Ad):Sp:=λvs H Q _=>∃ x A s m mx c xs ws b ps g,vs=[.ref x,.ref m,.ref b]∧ME D H x A s m mx c xs ws b ps g∧∀ H',aE H H'→Q .non H'
noncomputable abbrev uc:List Str:=["ideal", "memory", "book", "stands", "pair", "k", "value"]
theorem d7:aw uc ["ideal", "memory", "book"] (ar jd):=⟨rfl,rfl,rfl,by decide +kernel,rfl,by decide +kernel,by decide +kernel⟩
theorem tH(F:Fun K "first_unlike_field" "first_unlike_field" jd D.bD D.eF)(T:Txt K mg D)
  (kH:Ok P w K mg base 7 D.jb D.ph ["value", "memory", "word", "stands"] (Ki D))
  (av:Ok P w K mg base 4 D.aN D.bo ["self", "t"] (wB D))
  (bL:Ok P w K mg base 4 D.e7 D.iC ["self", "a"] (D2 D)):Ok P w K mg base 8 D.bD D.eF ["ideal", "memory", "book"] (Ih D):=by
 refine⟨?_,F.binds (ps:=["ideal", "memory", "book"]) λ_ _ _ _ _ _ us hl=>match us,hl with|[_,_,_],_=>rfl⟩
 refine F.okE d7 (λvs H Q E h=>?_) (λcdv A' outer s' H vs Q E hr h=>?_)
 ·obtain⟨x,A,s,m,mx,c,xs,ws,b,ps,g,rfl,_⟩:=h
  rfl
 ·obtain⟨x,A,s,m,mx,c,xs,ws,b,ps,g,rfl,S,k⟩:=h
  refine⟨_,(PSs.nox (ak (aW (i:=3) d7.nd rfl (Or.inl rfl) (hZ (Fh rfl) rfl T.Kr PyProof.Rows.Boot.«dict» (ab (pv 2) aj)))
   (ak (gg ajr rfl (f7 (pv 2)) (a8 (i:=4) d7.nd rfl (Or.inl rfl))
    (ai (gg ajr rfl (wg rfl T.iD (ab (aK (pv 0) T.ae T.cL av.g (hr.mono (by decide)) av.b .nil bG (ab (du gi (pv 4) au (λ_ _=>rfl)) aj)) aj)) (vZ rfl (eQ (a8 (i:=5) d7.nd rfl (Or.inl rfl)) (eQ (a8 (i:=6) d7.nd rfl (Or.inl rfl)) qX)))
     (ai (cV (qv (AW (aH kH.g (hr.mono (by decide)) rfl T.HX T.vV kH.b .nil bG (ab (pv 6) (ab (pv 1) (ab (aK (pv 1) T.dw T.lG bL.g (hr.mono (by decide)) bL.b .nil bG (ab (aO cY (aO cY (du gi (pv 4) au (λ_ _=>rfl)) au) (pv 5)) aj)) (ab (pv 3) aj)))))))
      (ai (aP (iT (ab fg (ab (du gi (pv 4) au (λ_ _=>rfl)) (ab (pv 5) aj))))))
      a7)))))
   (ai (aP dY))))),?_⟩
  have z:=S.M.z;obtain⟨bs,eb,pd⟩:=S.pr.dict;refine⟨_,rfl,b,bs,kvG (keys s) g,rfl,by rw[←eb];exact S.hb,pd,Ig (keys_nodup S.G),λdd hdd=>?_⟩;have s1:=aE.upd (o:=.dK (kvG (keys s) g)) hdd;refine⟨_,rfl,b,rfl,⟨_,SqL.of (s1 _ _ S.hb)⟩,jQ (K:=K) (a:=b) (xs:=ps) (λi σ Hx=>∃ v4 v5 v6,σ=[some (.ref x),some (.ref m),some (.ref b),some (.ref dd),v4,v5,v6]∧aE (upd H dd (.dK (kvG (keys s) g))) Hx) ⟨none,none,none,rfl,aE.refl _⟩ (λi σ Hx _ ⟨_,_,_,_,sx⟩=>SqL.of (sx _ _ (s1 _ _ S.hb))) ?_ ?_⟩
  ·rintro i v σ Hx hi ⟨v4,v5,v6,rfl,sx⟩
   have S1:=S.same (s1.trans sx);obtain⟨t,q,wd,rfl,hq,mk,_,mw⟩:=S1.at hi;obtain⟨t0,t1⟩:=S.G.lt t wd mw;obtain⟨g0,g1,_,gw⟩:=S.P.hd t wd mw;have nx:=S.nx;refine⟨_,rfl,x,_,_,rfl,S1.J.ax,(by kernel_rfl),_,rfl,q,_,0,.int t,rfl,rfl,SqT.of hq,rfl,x,A,s,t,rfl,S1.J,S.G,Sm.of (by omega) (by omega),(λ_ p H1 sp hp zp=>?_),(λn=>absurd mk n)⟩;refine⟨p,rfl,⟨_,SqL.of zp⟩,rW (K:=K) (a:=p) (xs:=A.fx t) (λj σ Hy=>∃ v5 v6,σ=[some (.ref x),some (.ref m),some (.ref b),some (.ref dd),some (.ref q),v5,v6]∧aE H1 Hy) ⟨_,_,rfl,aE.refl _⟩ (λi σ Hy _ ⟨_,_,_,sy⟩=>SqL.of (sy _ _ zp)) ?_ ?_⟩
   ·rintro j v σ Hy tp hj ⟨v5,v6,rfl,sy⟩ htp
    have t2:=aE.upd (o:=.tup [.int (j:Int),v]) htp;have e2:=(sp.trans sy).trans t2;have S2:=S1.same e2;have R:=(S1.J.afl t wd mw).2;have jl:j<wd.length:=(by rw[←R.1];exact(ai6.mp hj).1);obtain⟨w',hw'⟩:∃ w',wd[j]?=some w':=⟨_,ai7 jl⟩;obtain⟨mw',hmw,lk⟩:=gw j w' hw';refine⟨tp,_,rfl,SqT.of ah,rfl,_,_,rfl,_,_,rfl,rfl,?_⟩;refine⟨_,rfl,_,rfl,_,rfl,m,_,_,rfl,S2.M.i,(by kernel_rfl),_,rfl,q,_,1,.int (g t),rfl,rfl,SqT.of (e2 _ _ hq),rfl,_,1,rfl,rfl,_,rfl,_,_,rfl,rfl,m,mx,c,xs,ws,_,rfl,S2.M,Sm.of (by omega) (by omega),?_⟩;rw[if_pos ⟨by omega,by omega⟩];intro y w2 hy hw2 mv;rw[show(g t+1+(j:Int)).toNat=(g t).toNat+1+j by omega,hmw]at hw2;cases hw2;exact⟨_,rfl,m,mx,c,xs,ws,v,y,w',mw',dd,_,rfl,S2.M,S.gm,(R.2 j v w' hj hw').keep (cv.of e2),mv,e2 _ _ (sx _ _ ah),lk,true,rfl,ku rfl ⟨_,_,rfl,sy.trans t2⟩⟩
   ·rintro σ Hy ⟨v5,v6,rfl,sy⟩
    exact⟨_,_,_,rfl,sx.trans (sp.trans sy)⟩
  ·rintro σ Hx ⟨v4,v5,v6,rfl,sx⟩
   exact k _ (s1.trans sx)
noncomputable def MG(D:Ad):Sp:=λvs H Q _=>∃ x A s m mx c xs ws b ps g,vs=[.ref x,.ref m,.ref b]∧ME D H x A s m mx c xs ws b ps g∧∀ H',aE H H'→Q .non H'
noncomputable abbrev BK:List Str:=["ideal", "memory", "book", "pair"]
theorem pS:aw BK ["ideal", "memory", "book"] (ar lR):=⟨rfl,rfl,rfl,by decide +kernel,rfl,by decide +kernel,by decide +kernel⟩
theorem zw(F:Fun K "first_headless" "first_headless" lR D.cO D.gX)(T:Txt K mg D)
  (av:Ok P w K mg base 4 D.aN D.bo ["self", "t"] (wB D))
  (bL:Ok P w K mg base 4 D.e7 D.iC ["self", "a"] (D2 D)):Ok P w K mg base 5 D.cO D.gX ["ideal", "memory", "book"] (MG D):=by
 refine⟨?_,F.binds (ps:=["ideal", "memory", "book"]) λ_ _ _ _ _ _ us hl=>match us,hl with|[_,_,_],_=>rfl⟩
 refine F.okE pS (λvs H Q E h=>?_) (λcdv A' outer s' H vs Q E hr h=>?_)
 ·obtain⟨x,A,s,m,mx,c,xs,ws,b,ps,g,rfl,_⟩:=h
  rfl
 ·obtain⟨x,A,s,m,mx,c,xs,ws,b,ps,g,rfl,S,k⟩:=h
  have hu:=jV hr;refine⟨_,(PSs.nox (ak (gg ajr rfl (f7 (pv 2)) (a8 (i:=3) pS.nd rfl (Or.inl rfl))
    (ai (cV (aV (Kp (n:=1) hu) (aK (pv 1) T.dw T.lG bL.g (hr.mono (by decide)) bL.b .nil bG (ab (du gi (pv 3) au (λ_ _=>rfl)) aj)) (iT (ab fg (ab (du gi (pv 3) au (λ_ _=>rfl)) (ab (cw a6 rfl T.kr PyProof.Rows.Boot.«len» (ab (aK (pv 0) T.ae T.cL av.g (hr.mono (by decide)) av.b .nil bG (ab (du gi (pv 3) au (λ_ _=>rfl)) aj)) aj)) aj)))) (bC _))
     (ai (aP (iT (ab fg (ab (du gi (pv 3) au (λ_ _=>rfl)) aj)))))
     a7)))
   (ai (aP dY)))),?_⟩
  have z:=S.M.z;have nx:=S.nx;refine⟨_,rfl,b,rfl,⟨_,SqL.of S.hb⟩,jQ (K:=K) (a:=b) (xs:=ps) (λi σ Hx=>∃ v3,σ=[some (.ref x),some (.ref m),some (.ref b),v3]∧aE H Hx) ⟨none,rfl,aE.refl _⟩ (λi σ Hx _ ⟨_,_,sx⟩=>SqL.of (sx _ _ S.hb)) ?_ ?_⟩
  ·rintro i v σ Hx hi ⟨v3,rfl,sx⟩
   have S1:=S.same sx;obtain⟨t,q,wd,rfl,hq,mk,_,mw⟩:=S1.at hi;obtain⟨t0,t1⟩:=S.G.lt t wd mw;obtain⟨g0,g1,gh,_⟩:=S.P.hd t wd mw;have R:=(S1.J.afl t wd mw).2;refine⟨_,rfl,m,_,_,rfl,S1.M.i,(by kernel_rfl),_,rfl,q,_,1,.int (g t),rfl,rfl,SqT.of hq,rfl,m,mx,c,xs,ws,g t,rfl,S1.M,Sm.of (by omega) (by omega),?_⟩;rw[if_pos ⟨g0,by omega⟩];intro y w2 hy hw2 mv;rw[gh]at hw2;cases hw2;obtain⟨_,p1,rfl,hp1⟩:=mv.resolve_left (λz=>by cases z.1);refine⟨_,rfl,q,_,0,.int t,rfl,rfl,SqT.of hq,rfl,_,rfl,x,_,_,rfl,S1.J.ax,(by kernel_rfl),_,rfl,q,_,0,.int t,rfl,rfl,SqT.of hq,rfl,x,A,s,t,rfl,S1.J,S1.G,Sm.of (by omega) (by omega),(λ_ p H1 sp hp zp=>?_),(λn=>absurd mk n)⟩;refine⟨p,_,rfl,.inl (SqL.of zp),by show 3≤sizeLine;decide,λr hr'=>?_⟩;have t3:=aE.upd (o:=.tup [V.str "head",V.int t,V.int (A.fx t).length]) hr';have e1:((A.fx t).length:Int)=wd.length:=(by rw[R.1]);have r1:Rp (upd H1 r (.tup [V.str "head",V.int t,V.int (A.fx t).length])) 1 (V.ref p1) (.t [.a (.str "head"),.a (.int t),.a (.int wd.length)]):=⟨p1,_,rfl,t3 _ _ (sp _ _ hp1),rfl,(λj u x h1 h2=>by match j,h1,h2 with|0,h1,h2=>cases h1;cases h2;exact⟨rfl,rfl⟩|1,h1,h2=>cases h1;cases h2;exact⟨rfl,rfl⟩|2,h1,h2=>cases h1;cases h2;exact⟨rfl,rfl⟩|j+3,h1,_=>cases h1)⟩
   have r2:Rp (upd H1 r (.tup [V.str "head",V.int t,V.int (A.fx t).length])) 1 (V.ref r) (.t [.a (.str "head"),.a (.int t),.a (.int wd.length)]):=⟨r,_,rfl,by rw[ah,e1],rfl,(λj u x h1 h2=>by match j,h1,h2 with|0,h1,h2=>cases h1;cases h2;exact⟨rfl,rfl⟩|1,h1,h2=>cases h1;cases h2;exact⟨rfl,rfl⟩|2,h1,h2=>cases h1;cases h2;exact⟨rfl,rfl⟩|j+3,h1,_=>cases h1)⟩
   refine⟨_,_,r1,r2,_,rfl,ku (by rw[nz r1 r1];rfl) ⟨_,rfl,(sx.trans sp).trans t3⟩⟩
  ·rintro σ Hx ⟨v3,rfl,sx⟩
   exact k _ sx
noncomputable def MH(D:Ad):Sp:=λvs H Q _=>∃ x A s q,∃(t a:Int) (wd:List Wd),vs=[.ref x,.ref q]∧IH D H x A s∧Good s∧s.nxt<10000∧H q=some (.tup [.int t,.int a])∧(t,wd)∈s.aR∧∀ p H',aE H H'→H p=none→H' p=some (.lst (((List.range (wd.length+1)).map λi:Nat=>a+(i:Int)).map V.int))→Q (.ref p) H'
noncomputable abbrev uL:List Str:=["ideal", "pair"]
theorem DA:aw uL ["ideal", "pair"] (ar kZ):=⟨rfl,rfl,rfl,by decide +kernel,rfl,by decide +kernel,by decide +kernel⟩
theorem DB(F:Fun K "addresses_of" "addresses_of" kZ D.dM D.jm)(T:Txt K mg D)
  (av:Ok P w K mg base 4 D.aN D.bo ["self", "t"] (wB D))
  (fE:Ok P w K mg base 3 D.gc D.kq ["fields"] (qi D)):Ok P w K mg base 5 D.dM D.jm ["ideal", "pair"] (MH D):=by
 refine⟨?_,F.binds (ps:=["ideal", "pair"]) λ_ _ _ _ _ _ us hl=>match us,hl with|[_,_],_=>rfl⟩
 refine F.okE DA (λvs H Q E h=>?_) (λcdv A' outer s' H vs Q E hr h=>?_)
 ·obtain⟨x,A,s,q,t,a,wd,rfl,_⟩:=h
  rfl
 ·obtain⟨x,A,s,q,t,a,wd,rfl,J,G,nx,hq,mw,k⟩:=h
  refine⟨_,(PSs.nox (ai (aP (rb (cl:=[("pair",s'.heap.objs.size+1)]) (x := "i") (idx:=[1]) (NC:=["i", "pair"]) ?co1 rfl (rq rfl T.tV (ab (aH fE.g (hr.mono (by decide)) rfl T.yu T.pA fE.b .nil bG (ab (cw a6 rfl T.kr PyProof.Rows.Boot.«len» (ab (aK (pv 0) T.ae T.cL av.g (hr.mono (by decide)) av.b .nil bG (ab (du gi (pv 1) au (λ_ _=>rfl)) aj)) aj)) aj)) aj)) (λC fp s₀ H₀=>(aO cY (du (r:=VI K) gi (pv 1) au (λ_ _=>rfl)) (pv 0))))))),?_⟩
  case co1 =>
   exact kD (sc:=ar kZ) (N:=uL) (ns:=["pair"]) rfl rfl rfl (by decide +kernel) rfl rfl (by
    intro q hq;rw[ai9.mp hq];rfl)
  have mk:t∈keys s:=mem_keys.mpr ⟨wd,mw⟩;obtain⟨t0,t1⟩:=G.lt t wd mw;have f6:=G.f6 t wd mw;have R:=(J.afl t wd mw).2;have e0:(A.fx t).length=wd.length:=R.1;refine⟨_,rfl,x,_,_,rfl,J.ax,(by kernel_rfl),_,rfl,q,_,0,.int t,rfl,rfl,SqT.of hq,rfl,x,A,s,t,rfl,J,G,Sm.of (by omega) (by omega),(λ_ p H1 sp hp zp=>?_),(λn=>absurd mk n)⟩;refine⟨p,_,rfl,.inl (SqL.of zp),_,rfl,Sm.of (by omega) (by omega),?_⟩;rw[if_pos ⟨by omega,by omega⟩];refine⟨_,rfl,by omega,by omega,λL hL=>?_⟩;rw[show(((A.fx t).length:Int)+1).toNat=wd.length+1 by omega];refine Fe (lo:=0) (n:=wd.length+1) (λi ys Hc=>ys=((List.range i).map λi:Nat=>a+(i:Int)).map V.int∧aE H1 Hc∧Hc L=some (.lst ys)) ⟨rfl,aE.upd hL,ah⟩ (λi ys Hc hi ⟨e,_,z⟩=>⟨z,by rw[e,ai8,ai8,akd]⟩) (wz (by omega)) (λi ys Hc hi ⟨e,sc,z⟩=>?_) (λys Hc ⟨e,sc,z⟩=>?_)
  ·refine⟨_,rfl,q,_,1,.int a,rfl,rfl,SqT.of (sc _ _ (sp _ _ hq)),rfl,_,rfl,_,_,rfl,rfl,z,?_,λb u y=>by rw[af (aq y hL)];exact sc b u y,ah⟩
   rw[List.range_succ,ajq,ajq,e];simp
  ·exact k L _ (sp.trans sc) (aE.none sp hL) (by rw[z,e])
noncomputable def adr(s:HS)(g:Int→Int)(ts:List Int):List Int:=ts.flatMap λt=>(List.range ((fld s t).length+1)).map λi:Nat=>g t+(i:Int)
noncomputable def Bd(as:List Int):List (Key×V):=as.map λa=>(Sum.inl a,V.int 1)
theorem CM{a:Int}:∀ {as:List Int},a∉as→gR (Bd as) (Sum.inl a)=none
 | [],_=>rfl
 | b::as,m=>by
  show gR ((Sum.inl b,V.int 1)::Bd as) _=_;rw[eS (λz=>m (by rw[Sum.inl.inj z];exact ajt))];exact CM λz=>m (ajv _ z)
theorem Ii{a:Int}:∀ {as:List Int},a∈as→gR (Bd as) (Sum.inl a)=some (.int 1)
 | [],m=>nomatch m
 | b::as,m=>by
  by_cases e:b=a
  ·subst e;exact fu rfl
  ·show gR ((Sum.inl b,V.int 1)::Bd as) _=_
   rw[eS (λz=>e (Sum.inl.inj z))];exact Ii ((ajo.mp m).resolve_left (ajm e))
theorem PV{a:Int}{as:List Int}(h:a∉as):putK (Bd as) (Sum.inl a) (.int 1)=Bd (as++[a]):=by
 rw[u9 _ (CM h)];unfold Bd;rw[ajq];rfl
theorem OX{s:HS}{g:Int→Int}{ts:List Int}{a:Int}:a∈adr s g ts↔∃ t∈ts,∃ k:Nat,k<(fld s t).length+1∧a=g t+(k:Int):=by
 unfold adr;rw[List.mem_flatMap];constructor
 ·rintro⟨t,m,h⟩
  obtain⟨k,hk,e⟩:=ajz.mp h;exact⟨t,m,k,aki.mp hk,e.symm⟩
 ·rintro⟨t,m,k,hk,e⟩
  exact⟨t,m,ajz.mpr ⟨k,aki.mpr hk,e.symm⟩⟩
theorem Rb{s:HS}{g:Int→Int}{ts:List Int}{t:Int}:adr s g (ts++[t])=adr s g ts++(List.range ((fld s t).length+1)).map λi:Nat=>g t+(i:Int):=by
 unfold adr;rw[List.flatMap_append];simp
theorem OY{s:HS}{g:Int→Int}(G:Good s):∀ {ts:List Int},(∀ t∈ts,t∈keys s)→(adr s g ts).length≤7*ts.length
 | [],_=>ajb _
 | t::ts,h=>by
  have e:adr s g (t::ts)=((List.range ((fld s t).length+1)).map λi:Nat=>g t+(i:Int))++adr s g ts:=rfl;obtain⟨wd,mw⟩:=mem_keys.mp (h t ajt);have f6:=G.f6 t wd mw;rw[←G.fld mw]at f6;rw[e,aji,ai8,akd,ajE]
  have:=OY (g:=g) G λt m=>h t (ajv _ m)
  omega
theorem TK{s:HS}{g:Int→Int}{ws:List Mw}(G:Good s)(P:Pic ws s g){i:Nat}{t:Int}{wd:List Wd}(ht:(keys s)[i]?=some t)(mw:(t,wd)∈s.aR){k:Nat}(hk:k<wd.length+1):g t+(k:Int)∉adr s g ((keys s).take i):=λm=>by
 obtain⟨u,mu,k',hk',e⟩:=OX.mp m;have nu:t≠u:=λe=>by
  subst e;obtain⟨j,hj,ej⟩:=akq.mp mu;rw[ajp]at hj;rw[akS]at ej;have hi:=(ai6.mp ht)
  have:=aj8.mp (show(keys s).Pairwise (·< ·) from G.asc) j i (by omega) hi.1 (by omega)
  rw[ej,hi.2]at this;omega
 obtain⟨wu,mwu⟩:=mem_keys.mp (aka mu);rw[G.fld mwu]at hk';rcases P.dj t wd u wu mw mwu nu with h|h<;>omega
noncomputable def RP(D:Ad):Sp:=λvs H Q _=>∃ x A s m mx c xs ws b ps g,vs=[.ref x,.ref m,.ref b]∧ME D H x A s m mx c xs ws b ps g∧∀ H',aE H H'→Q .non H'
noncomputable abbrev zA:List Str:=["ideal", "memory", "book", "uses", "pair", "a"]
theorem eh:aw zA ["ideal", "memory", "book"] (ar kJ):=⟨rfl,rfl,rfl,by decide +kernel,rfl,by decide +kernel,by decide +kernel⟩
theorem xq(F:Fun K "first_misplaced" "first_misplaced" kJ D.ck D.gx)(T:Txt K mg D)
  (hW:Ok P w K mg base 5 D.dM D.jm ["ideal", "pair"] (MH D))
  (mG:Ok P w K mg base 1 D.fM D.j4 ["self"] (MC D)):Ok P w K mg base 6 D.ck D.gx ["ideal", "memory", "book"] (RP D):=by
 refine⟨?_,F.binds (ps:=["ideal", "memory", "book"]) λ_ _ _ _ _ _ us hl=>match us,hl with|[_,_,_],_=>rfl⟩
 refine F.okE eh (λvs H Q E h=>?_) (λcdv A' outer s' H vs Q E hr h=>?_)
 ·obtain⟨x,A,s,m,mx,c,xs,ws,b,ps,g,rfl,_⟩:=h
  rfl
 ·obtain⟨x,A,s,m,mx,c,xs,ws,b,ps,g,rfl,S,k⟩:=h
  have hu:=jV hr;refine⟨_,(PSs.nox (ak (aW (i:=3) eh.nd rfl (Or.inl rfl) jR)
   (ak (gg ajr rfl (f7 (pv 2)) (a8 (i:=4) eh.nd rfl (Or.inl rfl))
    (ai (gg ajr rfl (f7 (aH hW.g (hr.mono (by decide)) rfl T.uI T.k9 hW.b .nil bG (ab (pv 0) (ab (pv 4) aj)))) (a8 (i:=5) eh.nd rfl (Or.inl rfl))
     (ai (ny hu (pv 3) (pv 5) (aO cY (QP hu (pv 3) (pv 5) au ⟨rfl,rfl,rfl,rfl⟩) au) rfl)))))
   (ak (gg ajr rfl (f7 (pv 2)) (a8 (i:=4) eh.nd rfl (Or.inl rfl))
    (ai (gg ajr rfl (f7 (aH hW.g (hr.mono (by decide)) rfl T.uI T.k9 hW.b .nil bG (ab (pv 0) (ab (pv 4) aj)))) (a8 (i:=5) eh.nd rfl (Or.inl rfl))
     (ai (cV (PW.pt (pw_or (qv (nv yl AZ au (pv 5) (bM (pv 1) T.dw T.Eb mG.g (hr.mono (by decide)) mG.b .nil bG))) (pw_or1 (aV MX (gS hu (pv 3) (pv 5) (λ_ _=>rfl)) au (bC _)))))
      (ai (aP (iT (ab fg (ab (du gi (pv 4) au (λ_ _=>rfl)) aj)))))
      a7)))))
   (ai (aP dY)))))),?_⟩
  have z:=S.M.z;have nx:=S.nx;have lt:(keys s).length≤10000:=by unfold keys;rw[ai8];exact S.G.few
  intro dd hdd;have s1:=aE.upd (o:=.dK []) hdd;refine⟨_,rfl,b,rfl,⟨_,SqL.of (s1 _ _ S.hb)⟩,jQ (K:=K) (a:=b) (xs:=ps) (λi σ Hx=>∃ v4 v5,σ=[some (.ref x),some (.ref m),some (.ref b),some (.ref dd),v4,v5]∧aE H Hx∧Hx dd=some (.dK (Bd (adr s g ((keys s).take i))))) ⟨none,none,rfl,s1,ah⟩ (λi σ Hx _ ⟨_,_,_,sx,_⟩=>SqL.of (sx _ _ S.hb)) ?_ ?_⟩
  ·rintro i v σ Hx hi ⟨v4,v5,rfl,sx,hd⟩
   have S1:=S.same sx;obtain⟨t,q,wd,rfl,hq,mk,ki,mw⟩:=S1.at hi;have ef:=S.G.fld mw;have f6:=S.G.f6 t wd mw;have al:=OY (g:=g) S.G (ts:=(keys s).take i) λt m=>aka m;have tl:((keys s).take i).length≤(keys s).length:=(by rw[ajp];omega);refine⟨_,rfl,_,rfl,x,A,s,q,t,g t,wd,rfl,S1.J,S.G,nx,hq,mw,λp H1 sp hp zp=>?_⟩;refine⟨p,rfl,⟨_,SqL.of zp⟩,jQ (K:=K) (a:=p) (xs:=((List.range (wd.length+1)).map λi:Nat=>g t+(i:Int)).map V.int) (λj σ Hy=>∃ v5,σ=[some (.ref x),some (.ref m),some (.ref b),some (.ref dd),some (.ref q),v5]∧aE H Hy∧Hy p=some (.lst (((List.range (wd.length+1)).map λi:Nat=>g t+(i:Int)).map V.int))∧Hy dd=some (.dK (Bd (adr s g ((keys s).take i)++(List.range j).map λi:Nat=>g t+(i:Int))))) ⟨_,rfl,sx.trans sp,zp,by rw[show((List.range 0).map λi:Nat=>g t+(i:Int))=[] from rfl,ajV];exact sp _ _ hd⟩ (λj σ Hy _ ⟨_,_,_,y,_⟩=>SqL.of y) ?_ ?_⟩
   ·rintro j v σ Hy hj ⟨v5,rfl,sy,hy,hyd⟩
    have jl:j<wd.length+1:=(by have:=(ai6.mp hj).1;rw[ai8,ai8,akd]at this;exact this);rw[ajh,ajh,List.getElem?_range jl]at hj;cases hj;have na:g t+(j:Int)∉adr s g ((keys s).take i)++(List.range j).map λi:Nat=>g t+(i:Int):=λy=>by
     rcases ajs.mp y with y|y
     ·exact TK S.G S.P ki mw jl y
     ·obtain⟨k',hk',e⟩:=ajz.mp y
      have:=aki.mp hk'
      omega
    refine⟨_,rfl,dd,rfl,.inl ⟨_,.inl hyd⟩,_,rfl,_,rB.k (k:=Sum.inl (g t+(j:Int))) hyd,0,1,(by rw[CM na];rfl),rfl,_,rfl,_,rfl,dd,_,rfl,D7.k (k:=Sum.inl (g t+(j:Int))) hyd (by unfold Bd;rw[ai8,aji,ai8,akd];exact ajW (show(adr s g ((keys s).take i)).length+j≤80000 by omega) (by decide)),?_⟩;refine⟨_,rfl,λb u y=>by rw[af (aq y hdd)];exact sy b u y,by rw[af (ay hy hyd (by intro y;cases y))];exact hy,?_⟩;rw[ah,show((λi j=>V.int (i+j)) 0 1:V)=.int 1 from rfl,PV na,ako,List.range_succ,ajq];rfl
   ·rintro σ Hy ⟨v5,rfl,sy,hy,hyd⟩
    refine⟨_,_,rfl,sy,?_⟩;rw[ai8,ai8,akd]at hyd;rw[take_snoc ki,Rb,ef];exact hyd
  ·rintro σ Hx ⟨v4,v5,rfl,sx,hd⟩
   rw[S.pr.1,ajj (ajb _)]at hd;refine⟨_,rfl,b,rfl,⟨_,SqL.of (sx _ _ S.hb)⟩,jQ (K:=K) (a:=b) (xs:=ps) (λi σ Hy=>∃ v4 v5,σ=[some (.ref x),some (.ref m),some (.ref b),some (.ref dd),v4,v5]∧aE Hx Hy) ⟨_,_,rfl,aE.refl _⟩ (λi σ Hy _ ⟨_,_,_,sy⟩=>SqL.of (sy _ _ (sx _ _ S.hb))) ?_ ?_⟩
   ·rintro i v σ Hy hi ⟨v4,v5,rfl,sy⟩
    have S1:=S.same (sx.trans sy);obtain⟨t,q,wd,rfl,hq,mk,ki,mw⟩:=S1.at hi;have ef:=S.G.fld mw;obtain⟨g0,g1,_,_⟩:=S.P.hd t wd mw;refine⟨_,rfl,_,rfl,x,A,s,q,t,g t,wd,rfl,S1.J,S.G,nx,hq,mw,λp H1 sp hp zp=>?_⟩;refine⟨p,rfl,⟨_,SqL.of zp⟩,jQ (K:=K) (a:=p) (xs:=((List.range (wd.length+1)).map λi:Nat=>g t+(i:Int)).map V.int) (λj σ Hz=>∃ v5,σ=[some (.ref x),some (.ref m),some (.ref b),some (.ref dd),some (.ref q),v5]∧aE H1 Hz) ⟨_,rfl,aE.refl _⟩ (λj σ Hz _ ⟨_,_,sz⟩=>SqL.of (sz _ _ zp)) ?_ ?_⟩
    ·rintro j v σ Hz hj ⟨v5,rfl,sz⟩
     have jl:j<wd.length+1:=(by have:=(ai6.mp hj).1;rw[ai8,ai8,akd]at this;exact this);rw[ajh,ajh,List.getElem?_range jl]at hj;cases hj;have S2:=S1.same (sp.trans sz);have ma:g t+(j:Int)∈adr s g (keys s):=OX.mpr ⟨t,mk,j,by rw[ef];exact jl,rfl⟩;refine⟨_,rfl,0,g t+(j:Int),rfl,rfl,_,rfl,nW (decide_eq_true (by omega)) ?_⟩;refine⟨_,rfl,m,_,_,rfl,S2.M.i,(by kernel_rfl),m,mx,c,xs,ws,rfl,S2.M,_,_,rfl,rfl,_,rfl,ku (by rw[decide_eq_true (show g t+(j:Int)<(ws.length:Int) by omega)];rfl) ?_⟩;exact⟨_,rfl,_,rfl,dd,.int 1,rfl,.inl ⟨_,Sum.inl (g t+(j:Int)),.inl (sz _ _ (sp _ _ (sy _ _ hd))),rfl,(Ii ma).symm⟩,1,1,rfl,rfl,_,rfl,ku rfl ⟨_,rfl,sz⟩⟩
    ·rintro σ Hz ⟨v5,rfl,sz⟩
     exact⟨_,_,rfl,sy.trans (sp.trans sz)⟩
   ·rintro σ Hy ⟨v4,v5,rfl,sy⟩
    exact k _ (sx.trans sy)
noncomputable def Qo(D:Ad):Sp:=λvs H Q _=>∃ x A s m mx c xs ws b ps g,∃(hl nl:Addr) (ys zs:List V),vs=[.ref x,.ref m,.ref hl,.ref nl,.ref b]∧ME D H x A s m mx c xs ws b ps g∧H hl=some (.lst ys)∧H nl=some (.lst zs)∧ys.length=8∧zs.length=8∧(∀(i:Nat) (w:Wd) (y:V),s.bq[i]?=some w→ys[i]?=some y→∃ mw,MV H y mw∧Lk ws (kvG (keys s) g) w mw)∧(∀(i:Nat) (n:Option Int) (y:V),s.names[i]?=some n→zs[i]?=some y→∃ mw,MV H y mw∧Lk ws (kvG (keys s) g) (nmW n) mw)∧∀ H',aE H H'→Q .non H'
noncomputable abbrev oQ:List Str:=["ideal", "memory", "hands", "names", "book", "unlike", "named"]
theorem ft:aw oQ ["ideal", "memory", "hands", "names", "book"] (ar jj):=⟨rfl,rfl,rfl,by decide +kernel,rfl,by decide +kernel,by decide +kernel⟩
theorem DC(F:Fun K "first_unlike" "first_unlike" jj D.cX D.hU)(T:Txt K mg D)
  (az:Ok P w K mg base 1 D.bj D.cB ["self"] (pB D))
  (i4:Ok P w K mg base 6 D.ck D.gx ["ideal", "memory", "book"] (RP D))
  (jE:Ok P w K mg base 5 D.cO D.gX ["ideal", "memory", "book"] (MG D))
  (gq:Ok P w K mg base 8 D.bD D.eF ["ideal", "memory", "book"] (Ih D))
  (dI:Ok P w K mg base 8 D.bI D.fz ["kind", "told", "memory", "words", "book"] (MF D))
  (aS:Ok P w K mg base 2 D.bR D.dE ["self"] (vX D))
  (aT:Ok P w K mg base 2 D.bS D.dF ["self"] (vY D))
  (bz:Ok P w K mg base 3 D.cK D.fJ ["t"] (jq)):Ok P w K mg base 9 D.cX D.hU ["ideal", "memory", "hands", "names", "book"] (Qo D):=by
 refine⟨?_,F.binds (ps:=["ideal", "memory", "hands", "names", "book"]) λ_ _ _ _ _ _ us hl=>match us,hl with|[_,_,_,_,_],_=>rfl⟩
 refine F.okE ft (λvs H Q E h=>?_) (λcdv A' outer s' H vs Q E hr h=>?_)
 ·obtain⟨x,A,s,m,mx,c,xs,ws,b,ps,g,hl,nl,ys,zs,rfl,_⟩:=h
  rfl
 ·obtain⟨x,A,s,m,mx,c,xs,ws,b,ps,g,hl,nl,ys,zs,rfl,S,hy,hz,l8,n8,hH,hN,k⟩:=h
  refine⟨_,(PSs.nox (ak (cV (aV (Vk hr.UZ) (rb (cl:=[]) (x := "pair") (idx:=[]) (NC:=["pair"]) ?co2 rfl (f7 (pv 4)) (λC fp s₀ H₀=>(du (r:=VI K) gi (pv 0) au (λ_ _=>rfl)))) (bM (pv 0) T.ae T.cQ az.g (hr.mono (by decide)) az.b .nil bG) (bC _))
    (ai (aP (iT (ab fg aj))))
    a7)
   (ak (aW (i:=5) ft.nd rfl (Or.inl rfl) (aH i4.g (hr.mono (by decide)) rfl T.yJ T.kW i4.b .nil bG (ab (pv 0) (ab (pv 1) (ab (pv 4) aj)))))
   (ak (cV (aV qx (pv 5) dY (bC _))
    (ai (aW (i:=5) ft.nd rfl (Or.inl rfl) (aH jE.g (hr.mono (by decide)) rfl T.Br T.md jE.b .nil bG (ab (pv 0) (ab (pv 1) (ab (pv 4) aj))))))
    a7)
   (ak (cV (aV qx (pv 5) dY (bC _))
    (ai (aW (i:=5) ft.nd rfl (Or.inl rfl) (aH gq.g (hr.mono (by decide)) rfl T.tY T.ji gq.b .nil bG (ab (pv 0) (ab (pv 1) (ab (pv 4) aj))))))
    a7)
   (ak (cV (aV qx (pv 5) dY (bC _))
    (ai (aW (i:=5) ft.nd rfl (Or.inl rfl) (aH dI.g (hr.mono (by decide)) rfl T.nB T.gO dI.b .nil bG (ab fg (ab (bM (pv 0) T.ae T.ir aS.g (hr.mono (by decide)) aS.b .nil bG) (ab (pv 1) (ab (pv 2) (ab (pv 4) aj))))))))
    a7)
   (ak (cV (aV qx (pv 5) dY (bC _))
    (ak (Kg (cl:=[]) (x := "t") (idx:=[]) (NC:=["t"]) (i:=6) ft.nd rfl rfl ?co1 rfl (f7 (bM (pv 0) T.ae T.iu aT.g (hr.mono (by decide)) aT.b .nil bG)) (λC fp s₀ H₀=>(pJ (aV qx (pv 0) dY (bC _)) dY (aH bz.g (hr.mono (by decide)) rfl T.mB T.iV bz.b .nil Ff (ab (pv 0) aj)))))
    (ai (aW (i:=5) ft.nd rfl (Or.inl rfl) (aH dI.g (hr.mono (by decide)) rfl T.nB T.gO dI.b .nil bG (ab fg (ab (pv 6) (ab (pv 1) (ab (pv 3) (ab (pv 4) aj)))))))))
    a7)
   (ai (aP (pv 5)))))))))),?_⟩
  case co1 =>
   exact kD (sc:=ar jj) (N:=oQ) (ns:=[]) rfl rfl rfl (by decide +kernel) rfl rfl (by
    intro q hq;cases hq)
  case co2 =>
   exact kD (sc:=ar jj) (N:=oQ) (ns:=[]) rfl rfl rfl (by decide +kernel) rfl rfl (by
    intro q hq;cases hq)
  have lp:=S.pr.1;have lk:(keys s).length≤10000:=by unfold keys;rw[ai8];exact S.G.few
  refine⟨_,rfl,b,rfl,⟨_,SqL.of S.hb⟩,λL hL=>?_⟩;refine kC (K:=K) (a:=b) (xs:=ps) (λi us Hc=>us=((keys s).take i).map V.int∧aE H Hc∧Hc L=some (.lst us)) ⟨rfl,aE.upd hL,ah⟩ (λi us Hc hi ⟨e,_,z⟩=>⟨z,by rw[e,ai8,ajp];omega⟩) (λi us Hc _ ⟨_,sc,_⟩=>SqL.of (sc _ _ S.hb)) (wz (by omega)) (λi v us Hc hi ⟨e,sc,z⟩=>?_) (λus H1 ⟨e,s1,z1⟩=>?_)
  ·obtain⟨t,q,wd,rfl,hq,mk,ki,mw⟩:=S.at hi
   refine⟨_,rfl,q,_,0,.int t,rfl,rfl,SqT.of (sc _ _ hq),rfl,z,?_,λb u y=>by rw[af (aq y hL)];exact sc b u y,ah⟩;rw[take_snoc ki,ajq,e];rfl
  ·rw[lp,ajj (ajb _)]at e
   subst e;have S1:=S.same s1;refine⟨_,rfl,x,_,_,rfl,S1.J.ax,(by kernel_rfl),x,A,s,rfl,S1.J,S.G,λp2 H2 s2 hp2 z2=>?_⟩;have fl:((keys s).map V.int).all jU=true:=(by rw[List.all_map];exact akh.mpr λ_ _=>rfl);refine⟨L,p2,_,_,rfl,rfl,SqL.of (s2 _ _ z1),SqL.of z2,rfl,fl,fl,_,rfl,ku (by rw[Na rfl,decide_eq_true rfl];rfl) ?_⟩;have S2:=S1.same s2;refine⟨_,rfl,_,rfl,_,rfl,x,A,s,m,mx,c,xs,ws,b,ps,g,rfl,S2,λH3 s3=>?_⟩;have S3:=S2.same s3;refine⟨_,rfl,rfl,_,rfl,nW (decide_eq_true rfl) ⟨_,rfl,_,rfl,_,rfl,x,A,s,m,mx,c,xs,ws,b,ps,g,rfl,S3,λH4 s4=>?_⟩⟩;have S4:=S3.same s4;refine⟨_,rfl,rfl,_,rfl,nW (decide_eq_true rfl) ⟨_,rfl,_,rfl,_,rfl,x,A,s,m,mx,c,xs,ws,b,ps,g,rfl,S4,λH5 s5=>?_⟩⟩;have S5:=S4.same s5;have E5:=((s1.trans s2).trans s3).trans (s4.trans s5);refine⟨_,rfl,rfl,_,rfl,nW (decide_eq_true rfl) ⟨_,rfl,x,_,_,rfl,S5.J.ax,(by kernel_rfl),x,A,s,rfl,S5.J,S.G,λp6 H6 s6 hp6 z6=>?_⟩⟩;have S6:=S5.same s6;have E6:=E5.trans s6;refine⟨_,rfl,_,rfl,_,rfl,m,mx,c,xs,ws, "hand",p6,hl,b,A.hx,ys,ps,keys s,g,rfl,S6.M,S.gm,z6,E6 _ _ hy,by rw[S6.J.rhl.1,S.G.h8,l8],λi v y h1 h2=>?_,S6.hb,S6.pr,keys_nodup S.G,λH7 s7=>?_⟩
   ·obtain⟨w',hw'⟩:∃ w',s.bq[i]?=some w':=⟨s.bq[i]'(by rw[←S6.J.rhl.1];exact(ai6.mp h1).1),ai7 _⟩
    obtain⟨mw',e1,e2⟩:=hH i w' y hw' h2;exact⟨w',mw',S6.J.rhl.2 i v w' h1 hw',e1.keep (cv.of E6),e2⟩
   have S7:=S6.same s7;have E7:=E6.trans s7;refine⟨_,rfl,rfl,_,rfl,nW (decide_eq_true rfl) ⟨_,rfl,x,_,_,rfl,S7.J.ax,(by kernel_rfl),x,A,s,rfl,S7.J,S.G,λp8 H8 s8 hp8 z8=>?_⟩⟩;refine⟨p8,rfl,⟨_,SqL.of z8⟩,λL2 hL2=>?_⟩;refine kC (K:=K) (a:=p8) (xs:=s.names.map nmV) (λi us Hc=>us.length=i∧aE H8 Hc∧Hc L2=some (.lst us)∧∀(j:Nat) (u:V) (n:Option Int),us[j]?=some u→s.names[j]?=some n→WV Hc u (nmW n)) ⟨rfl,aE.upd hL2,ah,(λj u n h=>by cases h)⟩ (λi us Hc _ ⟨e,_,z,_⟩=>⟨z,e⟩) (λi us Hc _ ⟨_,sc,_⟩=>SqL.of (sc _ _ z8)) (by rw[ai8,S.G.n8];decide) (λi v us Hc hi ⟨e,sc,z,hq⟩=>?_) (λus H9 ⟨e,s9,z9,hq⟩=>?_)
   ·rw[ajh]at hi
    obtain⟨n,hn,rfl⟩:=ajk.mp hi;have fin:∀(u:V) (Hd:Hp),aE Hc Hd→WV Hd u (nmW n)→Hd L2=some (.lst us)∧(us++[u]).length=i+1∧aE H8 (upd Hd L2 (.lst (us++[u])))∧upd Hd L2 (.lst (us++[u])) L2=some (.lst (us++[u]))∧∀(j:Nat) (u':V) (n:Option Int),(us++[u])[j]?=some u'→s.names[j]?=some n→WV (upd Hd L2 (.lst (us++[u]))) u' (nmW n):=λu Hd sd wu=>by
     have zd:=sd _ _ z;refine⟨zd,by rw[aji,e];rfl,λb v y=>by rw[af (aq y hL2)];exact sd _ _ (sc b v y),ah,λj u' n' h1 h2=>?_⟩;have tu:cv Hd (upd Hd L2 (.lst (us++[u]))):=cv.set zd (by intro z y;cases y);rcases aj1 j us.length with cj|cj
     ·rw[ajQ cj]at h1
      exact((hq j u' n' h1 h2).keep (cv.of sd)).keep tu
     ·have ej:j=us.length:=by have:=(ai6.mp h1).1;rw[aji,ajI]at this;omega
      rw[ej,ajJ (ajb _),akP]at h1;cases h1;rw[ej,e,hn]at h2;cases h2;exact wu.keep tu
    cases n with
    | none=>exact⟨_,rfl,rfl,_,rfl,nW (decide_eq_true rfl) (fin .non Hc (aE.refl _) rfl)⟩
    | some t =>
     obtain⟨wt,mwt⟩:=S.G.nn t (aje hn);refine⟨_,rfl,rfl,_,rfl,ku (decide_eq_false (by intro z;cases z)) ⟨_,rfl,t,rfl,(S.G.lt t wt mwt).1,λtp Hd sd hd=>?_⟩⟩;exact fin (.ref tp) Hd sd ⟨tp,rfl,hd⟩
   ·have S9:=(S7.same s8).same s9
    have E9:=(E7.trans s8).trans s9;rw[ai8]at e;refine⟨_,rfl,_,rfl,_,rfl,_,rfl,m,mx,c,xs,ws, "name",L2,nl,b,us,zs,ps,keys s,g,rfl,S9.M,S.gm,z9,E9 _ _ hz,by rw[e,S.G.n8,n8],λi v y h1 h2=>?_,S9.hb,S9.pr,keys_nodup S.G,λH10 s10=>?_⟩
    ·obtain⟨n',hn'⟩:∃ n',s.names[i]?=some n':=⟨s.names[i]'(by rw[←e];exact(ai6.mp h1).1),ai7 _⟩
     obtain⟨mw',e1,e2⟩:=hN i n' y hn' h2;exact⟨nmW n',mw',hq i v n' h1 hn',e1.keep (cv.of E9),e2⟩
    ·exact⟨_,rfl,k _ (E9.trans s10)⟩
noncomputable def MI(D:Ad):Sp:=λvs H Q E=>Qo D vs H (λ_ H'=>Q (.bl true) H') E
noncomputable abbrev IY:List Str:=["ideal", "memory", "hands", "names", "book"]
theorem GB:aw IY ["ideal", "memory", "hands", "names", "book"] (ar sh):=⟨rfl,rfl,rfl,by decide +kernel,rfl,by decide +kernel,by decide +kernel⟩
theorem GC(F:Fun K "is_picture" "is_picture" sh D.fF D.lr)(T:Txt K mg D)
  (eY:Ok P w K mg base 9 D.cX D.hU ["ideal", "memory", "hands", "names", "book"] (Qo D)):Ok P w K mg base 10 D.fF D.lr ["ideal", "memory", "hands", "names", "book"] (MI D):=by
 refine⟨?_,F.binds (ps:=["ideal", "memory", "hands", "names", "book"]) λ_ _ _ _ _ _ us hl=>match us,hl with|[_,_,_,_,_],_=>rfl⟩
 refine F.okE GB (λvs H Q E h=>?_) (λcdv A' outer s' H vs Q E hr h=>?_)
 ·obtain⟨x,A,s,m,mx,c,xs,ws,b,ps,g,hl,nl,ys,zs,rfl,_⟩:=h
  rfl
 ·obtain⟨x,A,s,m,mx,c,xs,ws,b,ps,g,hl,nl,ys,zs,rfl,S,hy,hz,l8,n8,hH,hN,k⟩:=h
  refine⟨_,(PSs.nox (ai (aP (Bh qx (aH eY.g (hr.mono (by decide)) rfl T.uH T.k8 eY.b .nil bG (ab (pv 0) (ab (pv 1) (ab (pv 2) (ab (pv 3) (ab (pv 4) aj)))))) dY (bC _))))),?_⟩;exact⟨_,rfl,_,rfl,_,rfl,_,rfl,_,rfl,x,A,s,m,mx,c,xs,ws,b,ps,g,hl,nl,ys,zs,rfl,S,hy,hz,l8,n8,hH,hN,λH' s'=>⟨rfl,k _ s'⟩⟩
theorem Sm.of7{n:Int}(h0:-100000000≤n)(h1:n≤100000000):Sm n:=HN (Nat.lt_trans (show n.natAbs<200000000 by omega) (by decide))
theorem YA{a b:Int}(y:decide (V.int a=V.int b)=true):a=b:=by
 have:=of_decide_eq_true y
 injection this
theorem Vw{a b:Int}(y:¬decide (V.int a=V.int b)=true):¬a=b:=λz=>y (decide_eq_true (by rw[z]))
noncomputable def Fu(K:W.Frag):Sp:=λvs H Q _=>∃(a:Addr) (ns:List Int) (j:Int),vs=[.ref a,.int j]∧SqL K H a (ns.map V.int)∧0≤j∧Q (.int (ns.getD j.toNat 0)) H
noncomputable abbrev Lf:List Str:=["script", "k"]
theorem IZ:aw Lf ["script", "k"] (ar uU):=⟨rfl,rfl,rfl,by decide +kernel,rfl,by decide +kernel,by decide +kernel⟩
theorem I0(F:Fun K "_law_cell" "_law_cell" uU D.fe D.jr)(T:Txt K mg D):Ok P w K mg base 1 D.fe D.jr ["script", "k"] (Fu K):=by
 refine⟨?_,F.binds (ps:=["script", "k"]) λ_ _ _ _ _ _ us hl=>match us,hl with|[_,_],_=>rfl⟩
 refine F.okE IZ (λvs H Q E h=>?_) (λcdv A' outer s' H vs Q E hr h=>?_)
 ·obtain⟨a,ns,j,rfl,_⟩:=h
  rfl
 ·obtain⟨a,ns,j,rfl,hS,j0,k⟩:=h
  refine⟨_,(PSs.nox (ak (cV (aV AZ (pv 1) (cw a6 rfl T.kr PyProof.Rows.Boot.«len» (ab (pv 0) aj)) (bC _))
    (ai (aP (du eu (pv 0) (pv 1) (λ_ _=>rfl))))
    a7)
   (ai (aP au)))),?_⟩
  refine⟨_,rfl,_,rfl,a,_,rfl,.inl hS,j,_,rfl,rfl,_,rfl,eE (λh=>?_) (λh=>?_)⟩
  case refine_2 =>
   have hl:ns.length≤j.toNat:=by
    have h:=of_decide_eq_false (ajL.mpr h);rw[ai8]at h;omega
   rw[akp,List.getElem?_eq_none_iff.mpr hl]at k;exact k
  have hl:j.toNat<ns.length:=by
   have:=of_decide_eq_true h
   rw[ai8]at this;omega
  exact⟨_,rfl,_,rfl,a,_,j,.int ns[j.toNat],rfl,rfl,hS,AY j0 (by rw[ajh,ai7 hl];rfl),by rw[akp,ai7 hl]at k;exact k⟩
noncomputable def Be:Sp:=λvs H Q _=>∃ c j:Int,vs=[.int c,.int j]∧0≤j∧j≤1000∧∀ r:Int,0≤r→r≤300000000→Q (.int r) H
noncomputable abbrev Ja:List Str:=["cell", "k", "first", "second"]
theorem qP:aw Ja ["cell", "k"] (ar sr):=⟨rfl,rfl,rfl,by decide +kernel,rfl,by decide +kernel,by decide +kernel⟩
theorem GD(F:Fun K "_law_mixed" "_law_mixed" sr D.dP D.iI)(T:Txt K mg D):Ok P w K mg base 1 D.dP D.iI ["cell", "k"] (Be):=by
 refine⟨?_,F.binds (ps:=["cell", "k"]) λ_ _ _ _ _ _ us hl=>match us,hl with|[_,_],_=>rfl⟩
 refine F.okE qP (λvs H Q E h=>?_) (λcdv A' outer s' H vs Q E hr h=>?_)
 ·obtain⟨c,j,rfl,_⟩:=h
  rfl
 ·obtain⟨c,j,rfl,j0,j1,k⟩:=h
  refine⟨_,(PSs.nox (ak (aW (i:=2) qP.nd rfl (Or.inl rfl) (aO iS (aO jX (aO cY (aO cY (pv 0) (aO jX au (pv 1))) au) au) au))
   (ak (aW (i:=3) qP.nd rfl (Or.inl rfl) (aO iS (aO cY (aO cY (aO jX (pv 2) (pv 2)) (aO jX au (pv 1))) au) au))
   (ai (aP (aO qY (aO iS (aO jX (pv 3) (pv 3)) au) au)))))),?_⟩
  refine⟨_,rfl,_,rfl,7919,j,rfl,rfl,.inl ⟨by decide,by decide⟩,c,_,rfl,rfl,_,1,rfl,rfl,_,48271,rfl,rfl,.inr ⟨by decide,by decide⟩,_,2147483647,rfl,rfl,(by show(0:Int)<2147483647;decide),?_⟩;have q0:=ajH ((c+7919*j+1)*48271) (show(2147483647:Int)≠0 by decide);have q1:=ajB ((c+7919*j+1)*48271) (show(0:Int)<2147483647 by decide);obtain⟨n2,en2⟩:∃ n2:Int,(c+7919*j+1)*48271%2147483647=n2:=⟨_,rfl⟩;rw[en2]at q0 q1;simp only[en2,yj];refine⟨_,rfl,_,rfl,n2,n2,rfl,rfl,.inl ⟨by omega,by omega⟩,_,rfl,40692,j,rfl,rfl,.inl ⟨by decide,by decide⟩,_,_,rfl,rfl,_,3,rfl,rfl,_,2147483629,rfl,rfl,(by show(0:Int)<2147483629;decide),?_⟩;have q2:=ajH (n2*n2+40692*j+3) (show(2147483629:Int)≠0 by decide);have q3:=ajB (n2*n2+40692*j+3) (show(0:Int)<2147483629 by decide);obtain⟨n3,en3⟩:∃ n3:Int,(n2*n2+40692*j+3)%2147483629=n3:=⟨_,rfl⟩;rw[en3]at q2 q3;simp only[en3,yj];refine⟨_,rfl,_,rfl,n3,n3,rfl,rfl,.inl ⟨by omega,by omega⟩,_,2147483587,rfl,rfl,(by show(0:Int)<2147483587;decide),_,8,rfl,rfl,⟨by decide,by decide⟩,?_⟩;have q4:=ajH (n3*n3) (show(2147483587:Int)≠0 by decide);have q5:=ajB (n3*n3) (show(0:Int)<2147483587 by decide);exact k _ (Int.ediv_nonneg q4 (by decide)) (by generalize n3*n3%2147483587=y at q4 q5;show y/8≤_;omega)
noncomputable def RQ(D:Ad):Sp:=λvs H Q E=>∃ x A s,∃ w:Int,vs=[.ref x,.int w]∧IH D H x A s∧Gd s∧(w=14∨s.rnd=true)∧∀ dd,dd.ok→Fin D x A s H (dDo s dd) Q E
noncomputable abbrev Jb:List Str:=["heap", "way"]
theorem GF:aw Jb ["heap", "way"] (ar sv):=⟨rfl,rfl,rfl,by decide +kernel,rfl,by decide +kernel,by decide +kernel⟩
theorem GG(F:Fun K "_law_round" "_law_round" sv D.fH D.lE)(T:Txt K mg D)
  (bg:Ok P w K mg base 5 D.bQ D.dD ["self"] (Bb D))
  (kc:Ok P w K mg base 4 D.dR D.iO ["self"] (RL D)):Ok P w K mg base 9 D.fH D.lE ["heap", "way"] (RQ D):=by
 refine⟨?_,F.binds (ps:=["heap", "way"]) λ_ _ _ _ _ _ us hl=>match us,hl with|[_,_],_=>rfl⟩
 refine F.okE GF (λvs H Q E h=>?_) (λcdv A' outer s' H vs Q E hr h=>?_)
 ·obtain⟨x,A,s,w,rfl,_⟩:=h
  rfl
 ·obtain⟨x,A,s,w,rfl,J,Gs,hw,k⟩:=h
  refine⟨_,(ai (cV (aV tW (pv 1) au (bC _))
    (ai (aJ (bM (pv 0) T.ae T.kj bg.g (hr.mono (by decide)) bg.b .nil (Passes.x (aQ λ_ _ _ q=>q)))))
    (ai (aJ (bM (pv 0) T.ae T.Bp kc.g (hr.mono (by decide)) kc.b .nil (Passes.x (aQ λ_ _ _ q=>q))))))),?_⟩
  refine⟨_,rfl,rfl,_,rfl,eE (λy=>⟨_,rfl,x,_,_,rfl,J.ax,(by kernel_rfl),x,A,s,rfl,J,Gs.g,k .small trivial⟩) (λy=>?_)⟩;have q:=hw.resolve_left (Vw y);refine⟨_,rfl,x,_,_,rfl,J.ax,(by kernel_rfl),x,A,s,rfl,J,Gs,?_⟩;have k:=k .turn trivial;rw[show dDo s .turn=RJ s from if_pos q]at k;exact k
noncomputable def MJ(D:Ad):Sp:=λvs H Q E=>∃ x A s,∃ n:Int,vs=[.ref x,.int n]∧IH D H x A s∧Gd s∧s.nxt<10000∧∀ dd,dd.ok→Fin D x A s H (dDo s dd) Q E
noncomputable abbrev Lg:List Str:=["heap", "number", "way", "h", "g", "k"]
theorem lH:aw Lg ["heap", "number"] (ar uV):=⟨rfl,rfl,rfl,by decide +kernel,rfl,by decide +kernel,by decide +kernel⟩
theorem Jd(F:Fun K "_law_deed" "_law_deed" uV D.gK D.mS)(T:Txt K mg D)
  (jF:Ok P w K mg base 8 D.di D.g8 ["self", "h", "n"] (My D))
  (nY:Ok P w K mg base 7 D.eU D.lC ["self", "g", "k", "h"] (Mp D))
  (qm:Ok P w K mg base 7 D.fQ D.mO ["self", "h", "g", "k"] (OI D))
  (qo:Ok P w K mg base 6 D.fR D.mP ["self", "h", "g"] (OF D))
  (qq:Ok P w K mg base 5 D.fS D.mQ ["self", "h"] (OG D))
  (mI:Ok P w K mg base 6 D.dG D.j2 ["self", "h", "x"] (HZ D))
  (qr:Ok P w K mg base 7 D.fT D.mR ["self", "w", "h"] (OH D))
  (jG:Ok P w K mg base 7 D.dq D.g9 ["self", "h", "w"] (Mz D))
  (gr:Ok P w K mg base 1 D.bW D.eL ["self"] (RM D))
  (nZ:Ok P w K mg base 9 D.fH D.lE ["heap", "way"] (RQ D))
  (i6:Ok P w K mg base 6 D.cS D.gA ["self"] (RK D)):Ok P w K mg base 10 D.gK D.mS ["heap", "number"] (MJ D):=by
 refine⟨?_,F.binds (ps:=["heap", "number"]) λ_ _ _ _ _ _ us hl=>match us,hl with|[_,_],_=>rfl⟩
 refine F.okE lH (λvs H Q E h=>?_) (λcdv A' outer s' H vs Q E hr h=>?_)
 ·obtain⟨x,A,s,n,rfl,_⟩:=h
  rfl
 ·obtain⟨x,A,s,n,rfl,J,Gs,hnx,k⟩:=h
  refine⟨_,(ak (aW (i:=2) lH.nd rfl (Or.inl rfl) (aO iS (pv 1) au))
   (ak (aW (i:=3) lH.nd rfl (Or.inl rfl) (aO iS (aO qY (pv 1) au) au))
   (ak (aW (i:=4) lH.nd rfl (Or.inl rfl) (aO iS (aO qY (pv 1) au) au))
   (ak (aW (i:=5) lH.nd rfl (Or.inl rfl) (aO iS (aO qY (pv 1) au) au))
   (ai (cV (aV AZ (pv 2) au (bC _))
    (ai (aJ (aK (pv 0) T.ae T.yF jF.g (hr.mono (by decide)) jF.b .nil (Passes.x (aQ λ_ _ _ q=>q)) (ab (pv 3) (ab (aO iS (aO qY (pv 1) au) au) aj)))))
    (ai (cV (aV AZ (pv 2) au (bC _))
     (ai (aJ (aK (pv 0) T.ae T.wJ nY.g (hr.mono (by decide)) nY.b .nil (Passes.x (aQ λ_ _ _ q=>q)) (ab (pv 4) (ab (pv 5) (ab (pv 3) aj))))))
     (ai (cV (aV tW (pv 2) au (bC _))
      (ai (aJ (aK (pv 0) T.ae T.yB qm.g (hr.mono (by decide)) qm.b .nil (Passes.x (aQ λ_ _ _ q=>q)) (ab (pv 3) (ab (pv 4) (ab (pv 5) aj))))))
      (ai (cV (aV tW (pv 2) au (bC _))
       (ai (aJ (aK (pv 0) T.ae T.yC qo.g (hr.mono (by decide)) qo.b .nil (Passes.x (aQ λ_ _ _ q=>q)) (ab (pv 3) (ab (pv 4) aj)))))
       (ai (cV (aV tW (pv 2) au (bC _))
        (ai (aJ (aK (pv 0) T.ae T.yD qq.g (hr.mono (by decide)) qq.b .nil (Passes.x (aQ λ_ _ _ q=>q)) (ab (pv 3) aj))))
        (ai (cV (aV tW (pv 2) au (bC _))
         (ai (aJ (aK (pv 0) T.ae T.ve mI.g (hr.mono (by decide)) mI.b .nil (Passes.x (aQ λ_ _ _ q=>q)) (ab (pv 3) (ab (aO UW (aO iS (aO qY (pv 1) au) (aO DW au au)) au) aj)))))
         (ai (cV (aV tW (pv 2) au (bC _))
          (ai (aJ (aK (pv 0) T.ae T.yE qr.g (hr.mono (by decide)) qr.b .nil (Passes.x (aQ λ_ _ _ q=>q)) (ab (pv 5) (ab (pv 3) aj)))))
          (ai (cV (aV tW (pv 2) au (bC _))
           (ai (aJ (aK (pv 0) T.ae T.yG jG.g (hr.mono (by decide)) jG.b .nil (Passes.x (aQ λ_ _ _ q=>q)) (ab (pv 3) (ab (pv 5) aj)))))
           (ai (cV (PW.pt (pw_or (aV tW (pv 2) au (bC _)) (pw_or1 (AW (bM (pv 0) T.ae T.sW gr.g (hr.mono (by decide)) gr.b .nil (Passes.x (aQ λ_ _ _ q=>q)))))))
            (ai (aJ (aH nZ.g (hr.mono (by decide)) rfl T.IA T.sG nZ.b .nil (Passes.x (aQ λ_ _ _ q=>q)) (ab (pv 0) (ab (pv 2) aj)))))
            (ai (aJ (bM (pv 0) T.ae T.wK i6.g (hr.mono (by decide)) i6.b .nil (Passes.x (aQ λ_ _ _ q=>q))))))))))))))))))))))))))),?_⟩
  have G:=Gs.g;have b1:=m8 n 16;have b2:=m8 n 128;have b4:0≤n/1024%7∧n/1024%7<7:=⟨ajH _ (by decide),ajB _ (by decide)⟩;have b5:0≤n/7168%7∧n/7168%7<7:=⟨ajH _ (by decide),ajB _ (by decide)⟩;have b6:0≤n/7168%(10 ^ Int.toNat 7)∧n/7168%(10 ^ Int.toNat 7)<10000000:=⟨ajH _ (by decide),ajB _ (by decide)⟩;refine⟨_,rfl,n,16,rfl,rfl,(by show(0:Int)<16;decide),?_⟩;refine⟨_,rfl,n,16,rfl,rfl,⟨by decide,by decide⟩,_,8,rfl,rfl,(by show(0:Int)<8;decide),?_⟩;refine⟨_,rfl,n,128,rfl,rfl,⟨by decide,by decide⟩,_,8,rfl,rfl,(by show(0:Int)<8;decide),?_⟩;refine⟨_,rfl,n,1024,rfl,rfl,⟨by decide,by decide⟩,_,7,rfl,rfl,(by show(0:Int)<7;decide),?_⟩;refine⟨_,rfl,_,5,rfl,rfl,_,rfl,eE (λy=>?_) (λy=>?_)⟩
  ·exact⟨_,rfl,x,_,_,rfl,J.ax,(by kernel_rfl),_,rfl,_,rfl,n,7168,rfl,rfl,⟨by decide,by decide⟩,_,7,rfl,rfl,(by show(0:Int)<7;decide),x,A,s,(n/16%8),(n/7168%7),rfl,J,Gs,hnx,Sm.of7 (by omega) (by omega),Sm.of7 (by omega) (by omega),k (.make (n/16%8) (n/7168%7)) ⟨b1,by omega,by omega⟩⟩
  refine⟨_,rfl,_,8,rfl,rfl,_,rfl,eE (λy=>?_) (λy=>?_)⟩
  ·exact⟨_,rfl,x,_,_,rfl,J.ax,(by kernel_rfl),_,rfl,_,rfl,_,rfl,x,A,s,(n/128%8),(n/1024%7),(n/16%8),rfl,J,G,Sm.of7 (by omega) (by omega),Sm.of7 (by omega) (by omega),Sm.of7 (by omega) (by omega),k (.store (n/128%8) (n/1024%7) (n/16%8)) ⟨b2,by omega,by omega,b1⟩⟩
  refine⟨_,rfl,rfl,_,rfl,eE (λy=>?_) (λy=>?_)⟩
  ·exact⟨_,rfl,x,_,_,rfl,J.ax,(by kernel_rfl),_,rfl,_,rfl,_,rfl,x,A,s,(n/16%8),(n/128%8),(n/1024%7),rfl,J,G,Sm.of7 (by omega) (by omega),Sm.of7 (by omega) (by omega),Sm.of7 (by omega) (by omega),k (.load (n/16%8) (n/128%8) (n/1024%7)) ⟨b1,b2,by omega,by omega⟩⟩
  refine⟨_,rfl,rfl,_,rfl,eE (λy=>?_) (λy=>?_)⟩
  ·exact⟨_,rfl,x,_,_,rfl,J.ax,(by kernel_rfl),_,rfl,_,rfl,x,A,s,(n/16%8),(n/128%8),rfl,J,G,Sm.of7 (by omega) (by omega),Sm.of7 (by omega) (by omega),k (.copy (n/16%8) (n/128%8)) ⟨b1,b2⟩⟩
  refine⟨_,rfl,rfl,_,rfl,eE (λy=>?_) (λy=>?_)⟩
  ·exact⟨_,rfl,x,_,_,rfl,J.ax,(by kernel_rfl),_,rfl,x,A,s,(n/16%8),rfl,J,G,Sm.of7 (by omega) (by omega),k (.drop (n/16%8)) b1⟩
  refine⟨_,rfl,rfl,_,rfl,eE (λy=>?_) (λy=>?_)⟩
  ·exact⟨_,rfl,x,_,_,rfl,J.ax,(by kernel_rfl),_,rfl,_,rfl,n,7168,rfl,rfl,⟨by decide,by decide⟩,10,7,rfl,rfl,⟨by decide,by decide⟩,_,_,rfl,rfl,(by show(0:Int)<10 ^ Int.toNat 7;decide +kernel),_,400,rfl,rfl,x,A,s,(n/16%8),(n/7168%(10 ^ Int.toNat 7)-400),rfl,J,G,Sm.of7 (by omega) (by omega),Sm.of7 (by omega) (by omega),k (.number (n/16%8) (n/7168%(10 ^ Int.toNat 7)-400)) ⟨b1,by omega,by omega⟩⟩
  refine⟨_,rfl,rfl,_,rfl,eE (λy=>?_) (λy=>?_)⟩
  ·exact⟨_,rfl,x,_,_,rfl,J.ax,(by kernel_rfl),_,rfl,_,rfl,x,A,s,(n/1024%7),(n/16%8),rfl,J,G,Sm.of7 (by omega) (by omega),Sm.of7 (by omega) (by omega),k (.name (n/1024%7) (n/16%8)) ⟨⟨by omega,by omega⟩,b1⟩⟩
  refine⟨_,rfl,rfl,_,rfl,eE (λy=>?_) (λy=>?_)⟩
  ·exact⟨_,rfl,x,_,_,rfl,J.ax,(by kernel_rfl),_,rfl,_,rfl,x,A,s,(n/16%8),(n/1024%7),rfl,J,G,Sm.of7 (by omega) (by omega),Sm.of7 (by omega) (by omega),k (.read (n/16%8) (n/1024%7)) ⟨b1,⟨by omega,by omega⟩⟩⟩
  refine⟨_,rfl,rfl,_,rfl,eE (λy=>wa ?_) (λy=>?_)⟩
  ·exact⟨_,rfl,_,rfl,x,A,s,_,rfl,J,Gs,.inl (YA y),k⟩
  refine⟨_,rfl,x,_,_,rfl,J.ax,(by kernel_rfl),x,A,s,rfl,J,_,rfl,eE (λq=>?_) (λq=>?_)⟩
  ·exact⟨_,rfl,_,rfl,x,A,s,_,rfl,J,Gs,.inr q,k⟩
  ·have k:=k .turn trivial
   rw[show dDo s .turn=D1 s from if_neg q]at k;exact⟨_,rfl,x,_,_,rfl,J.ax,(by kernel_rfl),x,A,s,rfl,J,Gs,k⟩
theorem Rf(ns:List Int)(lo hi:Option Int):∃ cs:List Int,Rm (ns.map V.int) lo hi=cs.map V.int∧cs.length≤ns.length∧(∀ c∈cs,c∈ns)∧∀ m,hi=some m→0≤m→cs.length≤m.toNat:=by
 refine⟨(ns.drop (HT.sIx ns.length 0 lo)).take (HT.sIx ns.length ns.length hi-HT.sIx ns.length 0 lo),?_,?_,λc hc=>List.mem_of_mem_drop (aka hc),λm e m0=>?_⟩
 ·unfold Rm
  rw[ai8,List.map_take,List.map_drop]
 ·rw[ajp,List.length_drop]
  omega
 ·subst e
  rw[ajp]
  have:HT.sIx ns.length ns.length (some m)≤m.toNat:=by
   show(if m<0 then(m+(ns.length:Int)).toNat else min m.toNat ns.length)≤_;rw[if_neg (by omega)];omega
  omega
noncomputable def OZ(K:W.Frag):Sp:=λvs H Q _=>∃(a:Addr) (ns:List Int) (mo:Int),vs=[.ref a,.int mo]∧SqL K H a (ns.map V.int)∧ns.length≤63∧0≤mo∧∀(p:Addr) (zs:List Int) (H':Hp),aE H H'→H p=none→H' p=some (.lst (zs.map V.int))→zs.length≤mo.toNat→Q (.ref p) H'
noncomputable abbrev Ew:List Str:=["script", "most", "numbers", "way", "k", "cell", "rest", "turn"]
theorem dW:aw Ew ["script", "most"] (ar oH):=⟨rfl,rfl,rfl,by decide +kernel,rfl,by decide +kernel,by decide +kernel⟩
theorem DD(F:Fun K "_law_numbers" "_law_numbers" oH D.dN D.jo)(T:Txt K mg D)
  (d8:Ok P w K mg base 1 D.fe D.jr ["script", "k"] (Fu K))
  (bu:Ok P w K mg base 1 D.dP D.iI ["cell", "k"] (Be)):Ok P w K mg base 2 D.dN D.jo ["script", "most"] (OZ K):=by
 refine⟨?_,F.binds (ps:=["script", "most"]) λ_ _ _ _ _ _ us hl=>match us,hl with|[_,_],_=>rfl⟩
 refine F.okE dW (λvs H Q E h=>?_) (λcdv A' outer s' H vs Q E hr h=>?_)
 ·obtain⟨a,ns,mo,rfl,_⟩:=h
  rfl
 ·obtain⟨a,ns,mo,rfl,hS,hlen,m0,k⟩:=h
  have hu:=jV hr;refine⟨_,(PSs.nox (ak (aW (i:=2) dW.nd rfl (Or.inl rfl) (jY (ab au (ab (aO cY (aO jX au au) (aO jX au au)) (ab (aO cY (aO jX au au) (aO jX au au)) aj)))))
   (ak (aW (i:=3) dW.nd rfl (Or.inl rfl) (aO iS (aH d8.g (hr.mono (by decide)) rfl T.uZ T.mW d8.b .nil bG (ab (pv 0) (ab au aj))) au))
   (ak (gg ajr rfl (wg rfl T.iD (ab (pv 0) aj)) (vZ rfl (eQ (a8 (i:=4) dW.nd rfl (Or.inl rfl)) (eQ (a8 (i:=5) dW.nd rfl (Or.inl rfl)) qX)))
    (ak (aW (i:=6) dW.nd rfl (Or.inl rfl) (aO iS (pv 5) (aO DW au au)))
    (ai (gg ajr rfl (rq rfl T.tV (ab (aO cY au (aO iS (pv 6) au)) aj)) (a8 (i:=7) dW.nd rfl (Or.inl rfl))
     (ak (aJ (M7 PySem.F.plainAttrs_list PySem.F.slot_list_append PySem.F.type_list_append vR (pv 2) (ab (aO iS (du eu (jY (ab (aO qY (pv 6) au) (ab (aH bu.g (hr.mono (by decide)) rfl T.jN T.gH bu.b .nil bG (ab (pv 6) (ab (aO cY (aO jX au (pv 4)) (pv 7)) aj))) aj))) (pv 3) (λ_ _=>rfl)) (aO DW au au)) aj)))
     (ai (aW (i:=6) dW.nd rfl (Or.inl rfl) (aO qY (pv 6) (aO DW au au)))))))))
   (ai (aP (QK SQ (pv 2) SM (SN (pv 1))))))))),?_⟩
  refine⟨16,1,rfl,rfl,.inl ⟨by decide,by decide⟩,3,7168,rfl,rfl,.inl ⟨by decide,by decide⟩,_,_,rfl,rfl,16,2,rfl,rfl,.inl ⟨by decide,by decide⟩,2,7168,rfl,rfl,.inl ⟨by decide,by decide⟩,_,_,rfl,rfl,by show 3≤sizeLine;decide,λp hp=>?_⟩;have s1:=aE.upd (o:=.lst (([0,16*1+3*7168,16*2+2*7168]:List Int).map V.int)) hp;refine⟨_,rfl,a,ns,0,rfl,s1.seq hS,by decide,_,2,rfl,rfl,(by show(0:Int)<2;decide),?_⟩;have w0:=ajH (ns.getD (Int.toNat 0) 0) (show(2:Int)≠0 by decide);have w1:=ajB (ns.getD (Int.toNat 0) 0) (show(0:Int)<2 by decide);obtain⟨wv,ew⟩:∃ wv:Int,ns.getD (Int.toNat 0) 0%2=wv:=⟨_,rfl⟩;show yj 3 (V.int (ns.getD (Int.toNat 0) 0%2)) _ _ _;rw[ew]at w0 w1 ⊢;refine⟨_,rfl,a,rfl,⟨_,s1.seq hS⟩,rW (K:=K) (a:=a) (xs:=ns.map V.int) (λi σ Hx=>∃(v4 v5 v6 v7:Option V) (zs:List Int),σ=[some (.ref a),some (.int mo),some (.ref p),some (.int wv),v4,v5,v6,v7]∧aE H Hx∧Hx p=some (.lst (zs.map V.int))∧zs.length≤3+4*i) ⟨none,none,none,none,([0,16*1+3*7168,16*2+2*7168]:List Int),rfl,s1,ah,by decide⟩ (λi σ Hx _ ⟨_,_,_,_,_,_,sx,_⟩=>sx.seq hS) ?_ ?_⟩
  ·rintro i v σ Hx tp hi ⟨v4,v5,v6,v7,zs,rfl,sx,zx,lx⟩ htp
   rw[ajh]at hi;obtain⟨zc,hz,rfl⟩:=ajk.mp hi;have il:i<ns.length:=(ai6.mp hz).1;have t1:=aE.upd (o:=.tup [.int (i:Int),.int zc]) htp;refine⟨tp,_,rfl,SqT.of ah,rfl,_,_,rfl,_,_,rfl,rfl,?_⟩;refine⟨_,rfl,10,60,rfl,rfl,⟨by decide,by decide⟩,zc,_,rfl,rfl,(by show(0:Int)<10 ^ Int.toNat 60;decide +kernel),?_⟩;obtain⟨r,er⟩:∃ r:Int,zc%10 ^ Int.toNat 60=r:=⟨_,rfl⟩;show yj 6 (V.int (zc%10 ^ Int.toNat 60)) _ _ _;rw[er];have r0:=ajH r (show(4:Int)≠0 by decide);have r4:=ajB r (show(0:Int)<4 by decide);refine⟨_,rfl,r,4,rfl,rfl,(by show(0:Int)<4;decide),1,_,rfl,rfl,_,rfl,by omega,by omega,CG (lo:=0) (n:=(1+r%4).toNat) (λj σ Hy=>∃(r:Int) (v7:Option V) (zs:List Int),σ=[some (.ref a),some (.int mo),some (.ref p),some (.int wv),some (.int (i:Int)),some (.int zc),some (.int r),v7]∧aE H Hy∧Hy p=some (.lst (zs.map V.int))∧zs.length≤3+4*i+j) ⟨r,v7,zs,rfl,sx.trans t1,t1 _ _ zx,by omega⟩ ?_ ?_⟩
   ·rintro j σ Hy hj ⟨r',v7,zs,rfl,sy,zy,ly⟩
    refine⟨_,rfl,.inl ⟨rfl,_,SqL.of zy⟩,_,rfl,r',4,rfl,rfl,⟨by decide,by decide⟩,_,rfl,_,rfl,5,_,rfl,rfl,.inl ⟨by decide,by decide⟩,_,rfl,_,_,rfl,rfl,r',_,rfl,by omega,by omega,λrm m0 m1=>⟨by show 2≤sizeLine;decide,λl2 hl2=>?_⟩⟩;obtain⟨y,hy⟩:∃ y:Int,atI [V.int (r' / 4),V.int rm] wv=some (.int y):=by
     rcases(show wv=0∨wv=1 by omega) with e|e
     ·rw[e];exact⟨r' / 4,rfl⟩
     ·rw[e];exact⟨rm,rfl⟩
    have t2:=aE.upd (o:=.lst [V.int (r' / 4),V.int rm]) hl2;refine⟨_,rfl,l2,_,wv,.int y,rfl,rfl,SqL.of ah,hy,10,13,rfl,rfl,⟨by decide,by decide⟩,y,_,rfl,rfl,(by show(0:Int)<10 ^ Int.toNat 13;decide +kernel),p,_,_,rfl,rfl,t2 _ _ zy,ajW (show(zs.map V.int).length≤1000 by rw[ai8];omega) (by decide),?_⟩;refine⟨_,rfl,10,5,rfl,rfl,⟨by decide,by decide⟩,r',_,rfl,rfl,⟨by decide +kernel,by decide +kernel⟩,?_⟩;exact⟨_,_,zs++[y%10 ^ Int.toNat 13],rfl,λb u g=>by rw[af (aq g hp)];exact t2 _ _ (sy b u g),by rw[ah,ajq];rfl,by rw[aji,ajI];omega⟩
   ·rintro σ Hy ⟨r',v7,zs,rfl,sy,zy,ly⟩
    exact⟨_,_,_,_,zs,rfl,sy,zy,by omega⟩
  ·rintro σ Hx ⟨v4,v5,v6,v7,zs,rfl,sx,zx,lx⟩
   obtain⟨cs,ec,cl,cm,cb⟩:=Rf zs none (some mo);refine⟨_,rfl,_,rfl,_,rfl,p,_,rfl,SqL.of zx,λq hq=>?_⟩;rw[ec];exact k q cs _ (sx.trans (aE.upd hq)) (aE.none sx hq) ah (cb mo rfl m0)
theorem TL(T:Txt K mg D)(e:Er):∃ cd,i8 K (D.er e) cd∧cd.mro.contains (.ref D.aL)=true:=by
 cases e with
 | hand=>exact T.KR
 | name=>exact T.KS
 | field=>exact T.Ir
 | count=>exact T.Iq
 | room=>exact T.Nn
 | words=>exact T.Bo
 | on=>exact T.KY
 | no=>exact T.KZ
noncomputable def MK(K:W.Frag)(D:Ad):Sp:=λvs H Q _=>∃(a:Addr) (ns:List Int) (mo:Int),vs=[.ref a,.int mo]∧SqL K H a (ns.map V.int)∧ns.length≤63∧0≤mo∧mo≤1000∧∀ x A s H',IH D H' x A s→Gd s→s.nxt≤mo→aE H H'→(∀ b,cD x A s b→H b=none)→Q (.ref x) H'
noncomputable abbrev Lh:List Str:=["script", "most", "heap", "refused", "number"]
theorem lI:aw Lh ["script", "most"] (ar uW):=⟨rfl,rfl,rfl,by decide +kernel,rfl,by decide +kernel,by decide +kernel⟩
theorem Je(F:Fun K "_law_heap" "_law_heap" uW D.gL D.mT)(T:Txt K mg D)
  (d8:Ok P w K mg base 1 D.fe D.jr ["script", "k"] (Fu K))
  (lq:Ok P w K mg base 2 D.dN D.jo ["script", "most"] (OZ K))
  (qt:Ok P w K mg base 10 D.gK D.mS ["heap", "number"] (MJ D))
  (gv:Ok P w K mg base 4 D.bV D.eK ["self", "young", "limit"] (wA D)):Ok P w K mg base 11 D.gL D.mT ["script", "most"] (MK K D):=by
 refine⟨?_,F.binds (ps:=["script", "most"]) λ_ _ _ _ _ _ us hl=>match us,hl with|[_,_],_=>rfl⟩
 refine F.okE lI (λvs H Q E h=>?_) (λcdv A' outer s' H vs Q E hr h=>?_)
 ·obtain⟨a,ns,mo,rfl,_⟩:=h
  rfl
 ·obtain⟨a,ns,mo,rfl,hS,hlen,m0,m1,k⟩:=h
  obtain⟨cdH,xH⟩:=T.h;refine⟨_,(PSs.nox (ak (aW (i:=2) lI.nd rfl (Or.inl rfl) (Oq T.sD gv.g (hr.mono (by decide)) rfl T.Iw gv.b .nil RD (ab (du eu (jY (ab au (ab au (ab au aj)))) (aO iS (aH d8.g (hr.mono (by decide)) rfl T.uZ T.mW d8.b .nil bG (ab (pv 0) (ab au aj))) au) (λ_ _=>rfl)) (ab au aj))))
   (ak (aW (i:=3) lI.nd rfl (Or.inl rfl) au)
   (ak (gg ajr rfl (f7 (aH lq.g (hr.mono (by decide)) rfl T.Ed T.oK lq.b .nil bG (ab (pv 0) (ab (pv 1) aj)))) (a8 (i:=4) lI.nd rfl (Or.inl rfl))
    (ai (OA rfl rfl rfl T.mH xH (λpins E' EK hp=>ai (aJ (aH qt.g (hr.mono (by decide)) rfl T.K1 T.u1 qt.b .nil hp (ab (pv 2) (ab (pv 4) aj))))) (λea=>ai (aW (i:=3) lI.nd rfl (Or.inl rfl) (aO cY (pv 3) au))))))
   (ai (aP (pv 2))))))),?_⟩
  refine⟨by show 3≤sizeLine;decide,λp0 hp0=>?_⟩;have a0:=aE.upd (o:=.lst [V.int 0,V.int 20,V.int 64]) hp0;have w0:=ajH (ns.getD (Int.toNat 1) 0) (show(3:Int)≠0 by decide);have w1:=ajB (ns.getD (Int.toNat 1) 0) (show(0:Int)<3 by decide);obtain⟨y,hy,y7⟩:∃ y:Int,atI [V.int 0,V.int 20,V.int 64] (ns.getD (Int.toNat 1) 0%3)=some (.int y)∧(y=0∨(7≤y∧y≤64)):=by
   generalize ns.getD (Int.toNat 1) 0%3=w at w0 w1;rcases(show w=0∨w=1∨w=2 by omega) with e|e|e
   ·rw[e];exact⟨0,rfl,.inl rfl⟩
   ·rw[e];exact⟨20,rfl,.inr (by decide)⟩
   ·rw[e];exact⟨64,rfl,.inr (by decide)⟩
  refine⟨_,rfl,a,ns,1,rfl,a0.seq hS,by decide,_,3,rfl,rfl,(by show(0:Int)<3;decide),p0,_,_,_,rfl,rfl,SqL.of ah,hy,?_⟩;intro x dx hx hdx nd;refine⟨x,dx,y,120,rfl,ah,y7,by decide,by decide,λA0 H1 J0 B0 F0=>⟨rfl,?_⟩⟩;have s1:aE (upd H p0 (.lst [V.int 0,V.int 20,V.int 64])) H1:=λb u q=>B0 b u (aq q hx) (by rw[af (aq q hx),af (aq q hdx)];exact q);have F1:∀ b,cD x A0 (s0 (decide (y>0)) y 120) b→H b=none:=λb fb=>by
   rcases F0 b fb with e|e
   ·rw[e];exact aE.none a0 hx
   ·refine aE.none a0 ?_
    by_cases c:b=x
    ·rw[c];exact hx
    ·by_cases c2:b=dx
     ·rw[c2];exact hdx
     ·rw[af c,af c2]at e;exact e
  have S1:=a0.trans s1;clear F0 B0 nd;refine⟨_,rfl,_,rfl,a,ns,mo,rfl,S1.seq hS,hlen,m0,λp zs H2 s2 hp zp zl=>?_⟩;have np:¬cD x A0 (s0 (decide (y>0)) y 120) p:=J0.fresh hp;refine⟨p,rfl,⟨_,SqL.of zp⟩,jQ (K:=K) (a:=p) (xs:=zs.map V.int) (λi σ Hx=>∃ A s r v4,σ=[some (.ref a),some (.int mo),some (.ref x),some (.int r),v4]∧IH D Hx x A s∧Gd s∧s.nxt≤i∧Fr (cD x A0 (s0 (decide (y>0)) y 120)) H2 (cD x A s) Hx) ⟨A0,_,0,none,rfl,J0.same s2,gd0,ajS _,Fr.refl⟩ (λi σ Hx _ ⟨_,_,_,_,_,_,_,_,fr⟩=>SqL.of (fr.out np zp).1) ?_ ?_⟩
  ·rintro i v σ Hx hi ⟨A,s,r,v4,rfl,J,Gs,nx,fr⟩
   rw[ajh]at hi;obtain⟨n,hn,rfl⟩:=ajk.mp hi;have il:i<zs.length:=(ai6.mp hn).1;refine⟨_,rfl,_,rfl,x,A,s,n,rfl,J,Gs,by omega,λdd ok=>?_⟩;obtain⟨g1,_,g3⟩:=Yz Gs (by omega) ok;intro A1 H3 J1 fr1;cases e:(dDo s dd).1 with
   | none=>exact⟨A1,_,_,_,rfl,J1,g1,by omega,fr.trans fr1⟩
   | some er =>
    obtain⟨cd,xc,hm⟩:=TL T er;exact⟨D.er er,cd,rfl,xc,hm,⟨_,rfl,r,1,rfl,rfl,A1,_,_,_,rfl,J1,g1,by omega,fr.trans fr1⟩⟩
  ·rintro σ Hx ⟨A,s,r,v4,rfl,J,Gs,nx,fr⟩
   rw[ai8]at nx;refine⟨_,rfl,k x A s Hx J Gs (by omega) (λb u q=>(fr.out (λf=>by rw[F1 b f]at q;cases q) (s2 _ _ (S1 _ _ q))).1) λb f=>?_⟩;rcases fr.grow b f with f0|e
   ·exact F1 b f0
   ·exact aE.none (S1.trans s2) e
noncomputable def GH(g:Int→Int)(t b:Int):Int→Int:=λu=>if u=t then b else g u
structure Dg(kvs:List (Key×V))(ms:List Int)(g:Int→Int):Prop where
 k:Kys kvs ms
 v:∀ t∈ms,gR kvs (Sum.inl t)=some (.int (g t))
theorem Dg.new{kvs:List (Key×V)}{ms:List Int}{g:Int→Int}(d:Dg kvs ms g){t b:Int}(h:t∉ms):Dg (putK kvs (Sum.inl t) (.int b)) (ms++[t]) (GH g t b):=by
 refine⟨d.k.snoc h,λu m=>?_⟩;rw[L1];unfold GH;by_cases e:u=t
 ·subst e;rw[if_pos rfl,if_pos rfl]
 ·rw[if_neg (λz=>e (Sum.inl.inj z)),if_neg e]
  exact d.v u ((ajs.mp m).resolve_right λz=>e (ai9.mp z))
structure Pl(s:HS)(ts ms:List Int)(g:Int→Int)(a:Int):Prop where
 pm:(ts++ms).Perm (keys s)
 a0:0≤a
 a1:a≤5+10*(ms.length:Int)
 bd:∀ t∈ms,0≤g t∧g t+((fld s t).length:Int)<a
 dj:∀ t∈ms,∀ u∈ms,t≠u→g t+((fld s t).length:Int)<g u∨g u+((fld s u).length:Int)<g t
theorem Pl.key{s:HS}{ts ms:List Int}{g:Int→Int}{a:Int}(P:Pl s ts ms g a){t:Int}(h:t∈ts):t∈keys s:=P.pm.mem_iff.mp (ajD _ h)
theorem Pl.out{s:HS}{ts ms:List Int}{g:Int→Int}{a:Int}(G:Good s)(P:Pl s ts ms g a){t:Int}(h:t∈ts):t∉ms:=λm=>by
 have n:=P.pm.nodup_iff.mpr (keys_nodup G);exact(aj2.mp n).2.2 t h t m rfl
theorem Ij:∀ {ts:List Int} {k:Nat},(ts.map V.int).eraseIdx k=(ts.eraseIdx k).map V.int
 | [],_=>rfl
 | _::_,0=>rfl
 | a::ts,k+1=>congrArg (V.int a::·) (Ij (ts:=ts) (k:=k))
theorem aiU{n j:Nat}(h:j<n):seqIndex? (j:Int) n=some j:=by
 unfold seqIndex?;have e:¬((j:Int)<0):=by omega
 simp only[if_neg e];simp[h]
theorem Fv:∀ {ts:List Int} {k:Nat} {t:Int},ts[k]?=some t→(t::ts.eraseIdx k).Perm ts
 | [],_,_,h=>by cases h
 | a::ts,0,t,h=>by cases h;exact .refl _
 | a::ts,k+1,t,h=>(List.Perm.swap a t (ts.eraseIdx k)).trans ((Fv (ts:=ts) (k:=k) h).cons a)
theorem Pl.next{s:HS}{ts ms:List Int}{g:Int→Int}{a e:Int}(G:Good s)(P:Pl s ts ms g a){k:Nat}{t:Int}(h:ts[k]?=some t)(e0:0≤e)(e3:e≤3):Pl s (ts.eraseIdx k) (ms++[t]) (GH g t a) (a+1+((fld s t).length:Int)+e):=by
 have mt:=aje h;have no:=P.out G mt;obtain⟨wd,mw⟩:=mem_keys.mp (P.key mt);have f6:=G.f6 t wd mw;rw[←G.fld mw]at f6;have a0:=P.a0;have a1:=P.a1;have gt:GH g t a t=a:=by unfold GH;rw[if_pos rfl]
 have gu:∀ {u:Int},u∈ms→GH g t a u=g u:=λ{u} m=>by unfold GH;rw[if_neg (λz=>no (by rw[←z];exact m))]
 have sp:∀ {u:Int},u∈ms++[t]→u∈ms∨u=t:=λm=>(ajs.mp m).imp id ai9.mp;refine⟨?_,by omega,by rw[aji,ajI];omega,λu m=>?_,λu m v m' n=>?_⟩
 ·have p1:=Fv h
  have p2:(ts.eraseIdx k++(ms++[t])).Perm (t::(ts.eraseIdx k++ms)):=by rw[←ako];exact List.perm_middle.trans (by rw[ajV])
  exact(p2.trans (p1.append_right ms)).trans P.pm
 ·rcases sp m with h1|h1
  ·rw[gu h1];have:=P.bd u h1;omega
  ·rw[h1,gt];omega
 ·rcases sp m with h1|h1
  ·rcases sp m' with h2|h2
   ·rw[gu h1,gu h2];exact P.dj u h1 v h2 n
   ·rw[h2,gu h1,gt];exact .inl (P.bd u h1).2
  ·rcases sp m' with h2|h2
   ·rw[h1,gu h2,gt];exact .inr (P.bd v h2).2
   ·exact absurd (h1.trans h2.symm) n
noncomputable def Ik(D:Ad):Sp:=λvs H Q _=>∃ x A s,∃ sU:Int,vs=[.ref x,.int sU]∧IH D H x A s∧Good s∧s.nxt≤200∧∀(r d:Addr) (kvs:List (Key×V)) (ms:List Int) (g:Int→Int) (a:Int) (H':Hp),aE H H'→H' r=some (.tup [.ref d,.int a])→H' d=some (.dK kvs)→Dg kvs ms g→Pl s [] ms g a→Q (.ref r) H'
noncomputable abbrev GI:List Str:=["heap", "seed", "things", "places", "a", "t"]
theorem hX:aw GI ["heap", "seed"] (ar qF):=⟨rfl,rfl,rfl,by decide +kernel,rfl,by decide +kernel,by decide +kernel⟩
theorem Ex(F:Fun K "_law_places" "_law_places" qF D.eM D.j5)(T:Txt K mg D)
  (az:Ok P w K mg base 1 D.bj D.cB ["self"] (pB D))
  (bu:Ok P w K mg base 1 D.dP D.iI ["cell", "k"] (Be))
  (av:Ok P w K mg base 4 D.aN D.bo ["self", "t"] (wB D)):Ok P w K mg base 6 D.eM D.j5 ["heap", "seed"] (Ik D):=by
 refine⟨?_,F.binds (ps:=["heap", "seed"]) λ_ _ _ _ _ _ us hl=>match us,hl with|[_,_],_=>rfl⟩
 refine F.okE hX (λvs H Q E h=>?_) (λcdv A' outer s' H vs Q E hr h=>?_)
 ·obtain⟨x,A,s,sU,rfl,_⟩:=h
  rfl
 ·obtain⟨x,A,s,sU,rfl,J,G,nx,k⟩:=h
  have hu:=jV hr;refine⟨_,(PSs.nox (ak (aW (i:=2) hX.nd rfl (Or.inl rfl) (hZ iG rfl T.qM PyProof.Rows.Boot.«list» (ab (bM (pv 0) T.ae T.cQ az.g (hr.mono (by decide)) az.b .nil bG) aj)))
   (ak (aW (i:=3) hX.nd rfl (Or.inl rfl) jR)
   (ak (aW (i:=4) hX.nd rfl (Or.inl rfl) (aO iS (pv 1) au))
   (ak (FE ajr (QG (pv 2) (by intro _;rfl))
    (ak (aW (i:=5) hX.nd rfl (Or.inl rfl) (M7 PySem.F.plainAttrs_list PySem.F.slot_list_pop PySem.F.type_list_pop QL (pv 2) (ab (aO iS (aH bu.g (hr.mono (by decide)) rfl T.jN T.gH bu.b .nil bG (ab (pv 1) (ab (aO cY au (cw a6 rfl T.kr PyProof.Rows.Boot.«len» (ab (pv 2) aj))) aj))) (cw a6 rfl T.kr PyProof.Rows.Boot.«len» (ab (pv 2) aj))) aj)))
    (ak (ny hu (pv 3) (pv 5) (pv 4) rfl)
    (ai (aW (i:=4) hX.nd rfl (Or.inl rfl) (aO cY (aO cY (aO cY (pv 4) au) (cw a6 rfl T.kr PyProof.Rows.Boot.«len» (ab (aK (pv 0) T.ae T.cL av.g (hr.mono (by decide)) av.b .nil bG (ab (pv 5) aj)) aj))) (du eu (jY (ab au (ab au (ab au (ab au aj))))) (aO iS (aH bu.g (hr.mono (by decide)) rfl T.jN T.gH bu.b .nil bG (ab (pv 1) (ab (aO cY au (pv 5)) aj))) au) (λ_ _=>rfl))))))))
   (ai (aP (iT (ab (pv 3) (ab (pv 4) aj)))))))))),?_⟩
  have lk:(keys s).length≤200:=by
   have:=G.sd
   unfold keys;rw[ai8];omega
  refine⟨_,rfl,x,_,_,rfl,J.ax,(by kernel_rfl),x,A,s,rfl,J,G,λp1 H1 s1 hp1 z1=>⟨p1,_,rfl,.inl (SqL.of z1),λth hth=>?_⟩⟩;have s2:=aE.upd (o:=.lst ((keys s).map V.int)) hth;intro d hd;have s3:=aE.upd (o:=.dK []) hd;have S3:=(s1.trans s2).trans s3;have td:th≠d:=aq ah hd;have aiV:H th=none:=aE.none s1 hth;have hd0:H d=none:=aE.none (s1.trans s2) hd;have g0:=ajH sU (show(5:Int)≠0 by decide);have g5:=ajB sU (show(0:Int)<5 by decide);refine⟨_,rfl,sU,5,rfl,rfl,(by show(0:Int)<5;decide),?_⟩;refine⟨λn σ Hx=>∃(a:Int) (v5:Option V) (ts ms:List Int) (g:Int→Int) (kvs:List (Key×V)),σ=[some (.ref x),some (.int sU),some (.ref th),some (.ref d),some (.int a),v5]∧aE H Hx∧Hx th=some (.lst (ts.map V.int))∧Hx d=some (.dK kvs)∧Dg kvs ms g∧Pl s ts ms g a∧ts.length=n,⟨_,_,none,keys s,[],(λ_=>0),[],rfl,S3,by rw[af td];exact ah,ah,⟨rfl,λt m=>nomatch m⟩,⟨by rw[ajV],g0,by show sU%5≤5+10*(0:Int);omega,(λt m=>nomatch m),(λt m=>nomatch m)⟩,rfl⟩,?_⟩;rintro n σ Hx ⟨a,v5,ts,ms,g,kvs,rfl,sx,ht,hdx,dg,pl,ln⟩;have ai5:ts.length+ms.length=(keys s).length:=by rw[←aji];exact pl.pm.length_eq
  refine⟨_,rfl,_,.inl ⟨_,SqL.of ht,rfl⟩,?_⟩;by_cases hn:ts=[]
  ·subst hn
   refine ku rfl ⟨_,rfl,_,rfl,by show 2≤sizeLine;decide,λr hr'=>?_⟩;have t1:=aE.upd (o:=.tup [.ref d,.int a]) hr';exact k r d kvs ms g a _ (sx.trans t1) ah (t1 _ _ hdx) dg pl
  have lp:0<ts.length:=List.length_pos_iff.mpr hn;refine nW (by rw[Bool.not_eq_true',List.isEmpty_eq_false_iff];exact λz=>hn (List.map_eq_nil_iff.mp z)) ?_;refine⟨λσ' H'=>∃ m',m'<n∧∃(a:Int) (v5:Option V) (ts ms:List Int) (g:Int→Int) (kvs:List (Key×V)),σ'=[some (.ref x),some (.int sU),some (.ref th),some (.ref d),some (.int a),v5]∧aE H H'∧H' th=some (.lst (ts.map V.int))∧H' d=some (.dK kvs)∧Dg kvs ms g∧Pl s ts ms g a∧ts.length=m',λ_ _ h=>h,?_⟩;have lm:(ts.map V.int).length=ts.length:=ai8 ..;refine⟨_,rfl,.inl ⟨rfl,_,SqL.of ht⟩,_,rfl,_,rfl,th,_,rfl,.inl (SqL.of ht),3,_,rfl,rfl,sU,_,rfl,by omega,by omega,λr r0 r1=>⟨_,rfl,th,_,rfl,.inl (SqL.of ht),r,_,rfl,rfl,by show(0:Int)<((ts.map V.int).length:Int);omega,?_⟩⟩;have x0:=ajH r (show((ts.map V.int).length:Int)≠0 by omega);have x1:=ajB r (show(0:Int)<((ts.map V.int).length:Int) by omega);obtain⟨j,ej⟩:∃ j:Nat,r%((ts.map V.int).length:Int)=j:=⟨(r%((ts.map V.int).length:Int)).toNat,by omega⟩;have jl:j<ts.length:=by omega
  obtain⟨t,htj⟩:∃ t,ts[j]?=some t:=⟨_,ai7 jl⟩;have mt:=aje htj;have mk:=pl.key mt;obtain⟨wd,mw⟩:=mem_keys.mp mk;obtain⟨t0,t1⟩:=G.lt t wd mw;refine⟨th,_,_,j,.int t,rfl,rfl,ht,by rw[ej];omega,by rw[ej];omega,by rw[ej,lm];exact aiU jl,by rw[ajh,htj];rfl,?_⟩;have ee:(ts.map V.int).eraseIdx j=(ts.eraseIdx j).map V.int:=Ij;rw[ee];have J1:=J.same sx;have nth:∀ {b:Addr} {u:HO},H b=some u→b≠th:=λq=>aq q aiV;have sy:aE H (upd Hx th (.lst ((ts.eraseIdx j).map V.int))):=λb u q=>by rw[af (nth q)];exact sx b u q
  have hdy:(upd Hx th (.lst ((ts.eraseIdx j).map V.int))) d=some (.dK kvs):=by rw[af (ajm td)];exact hdx
  have hty:(upd Hx th (.lst ((ts.eraseIdx j).map V.int))) th=some (.lst ((ts.eraseIdx j).map V.int)):=ah;generalize upd Hx th (.lst ((ts.eraseIdx j).map V.int))=Hy at sy hdy hty ⊢;have no:=pl.out G mt;have lkv:=dg.k.len;refine⟨_,rfl,_,rfl,_,rfl,d,_,rfl,D7.k (k:=Sum.inl t) hdy (by rw[lkv];exact rY (by omega)),?_⟩;have sz:aE H (upd Hy d (.dK (putK kvs (Sum.inl t) (.int a)))):=λb u q=>by rw[af (aq q hd0)];exact sy b u q
  have htz:(upd Hy d (.dK (putK kvs (Sum.inl t) (.int a)))) th=some (.lst ((ts.eraseIdx j).map V.int)):=by rw[af td];exact hty
  have hdz:(upd Hy d (.dK (putK kvs (Sum.inl t) (.int a)))) d=some (.dK (putK kvs (Sum.inl t) (.int a))):=ah;generalize upd Hy d (.dK (putK kvs (Sum.inl t) (.int a)))=Hz at sz htz hdz ⊢;have Jz:=J.same sz;have R:=(Jz.afl t wd mw).2;refine⟨_,rfl,a,1,rfl,rfl,_,rfl,x,_,_,rfl,Jz.ax,(by kernel_rfl),_,rfl,x,A,s,t,rfl,Jz,G,Sm.of (by omega) (by omega),(λ_ p H3 sp hp zp=>?_),(λn=>absurd mk n)⟩;refine⟨p,_,rfl,.inl (SqL.of zp),_,_,rfl,rfl,by show 4≤sizeLine;decide,λl4 hl4=>?_⟩;have s4:=aE.upd (o:=.lst [V.int 0,V.int 0,V.int 1,V.int 3]) hl4;refine⟨_,rfl,_,rfl,70,t,rfl,rfl,sU,_,rfl,by omega,by omega,λrm m0 m1=>⟨rm,4,rfl,rfl,(by show(0:Int)<4;decide),?_⟩⟩;have q0:=ajH rm (show(4:Int)≠0 by decide);have q4:=ajB rm (show(0:Int)<4 by decide);obtain⟨e,he,e0,e3⟩:∃ e:Int,atI [V.int 0,V.int 0,V.int 1,V.int 3] (rm%4)=some (.int e)∧0≤e∧e≤3:=by
   generalize rm%4=w at q0 q4;rcases(show w=0∨w=1∨w=2∨w=3 by omega) with z|z|z|z
   ·rw[z];exact⟨0,rfl,by decide,by decide⟩
   ·rw[z];exact⟨0,rfl,by decide,by decide⟩
   ·rw[z];exact⟨1,rfl,by decide,by decide⟩
   ·rw[z];exact⟨3,rfl,by decide,by decide⟩
  refine⟨l4,_,_,.int e,rfl,rfl,SqL.of ah,he,_,_,rfl,rfl,?_⟩;have S4:=sp.trans s4;have pn:=pl.next G htj e0 e3;refine⟨ts.length-1,by omega,_,_,ts.eraseIdx j,ms++[t],GH g t a,_,rfl,sz.trans S4,S4 _ _ htz,S4 _ _ hdz,dg.new no,?_,by rw[List.length_eraseIdx,if_pos jl]⟩;rw[R.1,←G.fld mw];exact pn
noncomputable def Lds(H:Hp)(kl:List (Key×V))(ts:List Int)(g f:Int→Int):Prop:=∀ t∈ts,∃ q,gR kl (Sum.inl t)=some (.ref q)∧H q=some (.lst [.int (g t),.int (f t),.int (f t+1)])
noncomputable def Spk(g f:Int→Int):Wd→Mw→Prop
 | .no,w=>w=.no
 | .num n,w=>w=.num n
 | .th t,w=>∃ a,w=.ad a∧(a=g t∨a=f t∨a=f t+1)
theorem at3{g f:Int→Int}{t m:Int}:∃ a:Int,atI [V.int (g t),V.int (f t),V.int (f t+1)] (m%3)=some (.int a)∧(a=g t∨a=f t∨a=f t+1):=by
 have q0:=ajH m (show(3:Int)≠0 by decide);have q3:=ajB m (show(0:Int)<3 by decide);generalize m%3=w at q0 q3;rcases(show w=0∨w=1∨w=2 by omega) with z|z|z
 ·rw[z];exact⟨g t,rfl,.inl rfl⟩
 ·rw[z];exact⟨f t,rfl,.inr (.inl rfl)⟩
 ·rw[z];exact⟨f t+1,rfl,.inr (.inr rfl)⟩
theorem O0{α:Type}{l:List α}{d w:α}{n i:Nat}(hl:l.length=n)(hi:l[i]?=some w):(l.take i++List.replicate (n-i) d).set i w=l.take (i+1)++List.replicate (n-(i+1)) d:=by
 have il:=(ai6.mp hi).1;rw[show n-i=(n-(i+1))+1 by omega,ajK,List.set_append_right _ _ (by rw[ajp];omega),ajp,show i-min i l.length=0 by omega,take_snoc hi,ako];rfl
noncomputable def RR:Sp:=λvs H Q _=>∃(v:V) (wd:Wd) (dl:Addr) (kl:List (Key×V)) (ts:List Int) (g f:Int→Int) (m:Int),vs=[v,.ref dl,.int m]∧WV H v wd∧H dl=some (.dK kl)∧Lds H kl ts g f∧(∀ t,wd=.th t→t∈ts)∧∀ y mw H',aE H H'→MV H' y mw→Spk g f wd mw→Q y H'
noncomputable abbrev GJ:List Str:=["value", "leads", "m"]
theorem Ey:aw GJ ["value", "leads", "m"] (ar qG):=⟨rfl,rfl,rfl,by decide +kernel,rfl,by decide +kernel,by decide +kernel⟩
theorem Ez(F:Fun K "_law_spoken" "_law_spoken" qG D.eN D.j6)(T:Txt K mg D):Ok P w K mg base 1 D.eN D.j6 ["value", "leads", "m"] (RR):=by
 refine⟨?_,F.binds (ps:=["value", "leads", "m"]) λ_ _ _ _ _ _ us hl=>match us,hl with|[_,_,_],_=>rfl⟩
 refine F.okE Ey (λvs H Q E h=>?_) (λcdv A' outer s' H vs Q E hr h=>?_)
 ·obtain⟨v,wd,dl,kl,ts,g,f,m,rfl,_⟩:=h
  rfl
 ·obtain⟨v,wd,dl,kl,ts,g,f,m,rfl,hv,hd,ld,hts,k⟩:=h
  have hu:=jV hr;refine⟨_,(PSs.nox (ak (cV (PW.pt (pw_or (aV qx (pv 0) dY (bC _)) (pw_or1 (aV tW (du gi (pv 0) au (λ_ _=>rfl)) fg (bC _)))))
    (ai (aP (pv 0)))
    a7)
   (ai (aP (iT (ab fg (ab (du eu (gS hu (pv 1) (du gi (pv 0) au (λ_ _=>rfl)) (λ_ _=>rfl)) (aO iS (pv 2) au) (λ_ _=>rfl)) aj))))))),?_⟩
  cases wd with
  | no =>
   have hv:v=.non:=hv;subst hv;exact⟨_,rfl,rfl,_,rfl,nW (decide_eq_true rfl) (wa ⟨_,rfl,k _ .no H (aE.refl _) (.inl ⟨rfl,rfl⟩) rfl⟩)⟩
  | num n =>
   obtain⟨t,rfl,ht⟩:=hv;exact⟨_,rfl,rfl,_,rfl,ku (decide_eq_false (by intro z;cases z)) ⟨_,rfl,t,_,0,.str "number",rfl,rfl,SqT.of ht,rfl,rfl,_,rfl,nW (by kernel_rfl) ⟨_,rfl,k _ (.num n) H (aE.refl _) (.inr ⟨(by intro z;cases z),t,rfl,ht⟩) rfl⟩⟩⟩
  | th t =>
   obtain⟨q,rfl,hq⟩:=hv;obtain⟨q2,hv2,hq2⟩:=ld t (hts t rfl);obtain⟨a,ha,ea⟩:=at3 (g:=g) (f:=f) (t:=t) (m:=m);refine⟨_,rfl,rfl,_,rfl,ku (decide_eq_false (by intro z;cases z)) ⟨_,rfl,q,_,0,.str "thing",rfl,rfl,SqT.of hq,rfl,rfl,_,rfl,ku (by kernel_rfl) ?_⟩⟩;exact⟨_,rfl,_,rfl,q,_,1,.int t,rfl,rfl,SqT.of hq,rfl,dl,.ref q2,rfl,.inl ⟨kl,Sum.inl t,.inl hd,rfl,hv2.symm⟩,_,rfl,m,3,rfl,rfl,(by show(0:Int)<3;decide),q2,_,_,.int a,rfl,rfl,SqL.of hq2,ha,by show 2≤sizeLine;decide,λr hr'=>k _ (.ad a) _ (aE.upd hr') (.inr ⟨(by intro z;cases z),r,rfl,ah⟩) ⟨a,rfl,ea⟩⟩
noncomputable def O1(D:Ad):Sp:=λvs H Q _=>∃(l:Addr) (ys:List V) (ws:List Mw),vs=[.ref l]∧H l=some (.lst ys)∧MR H ys ws∧ws.length≤10000∧∀ m mx c H',aE H H'→H c=none→Mm D H' m mx c ys ws→Q (.ref m) H'
noncomputable abbrev GK:List Str:=["model", "memory", "a"]
theorem oV:aw GK ["model"] (ar qH):=⟨rfl,rfl,rfl,by decide +kernel,rfl,by decide +kernel,by decide +kernel⟩
theorem EA(F:Fun K "_law_memory" "_law_memory" qH D.eO D.j7)(T:Txt K mg D)
  (i7:Ok P w K mg base 1 D.cU D.gC ["self", "size"] (MB D))
  (oa:Ok P w K mg base 4 D.gG D.lD ["self", "a", "word"] (OV D)):Ok P w K mg base 5 D.eO D.j7 ["model"] (O1 D):=by
 refine⟨?_,F.binds (ps:=["model"]) λ_ _ _ _ _ _ us hl=>match us,hl with|[_],_=>rfl⟩
 refine F.okE oV (λvs H Q E h=>?_) (λcdv A' outer s' H vs Q E hr h=>?_)
 ·obtain⟨l,ys,ws,rfl,_⟩:=h
  rfl
 ·obtain⟨l,ys,ws,rfl,hl,ry,z,k⟩:=h
  refine⟨_,(PSs.nox (ak (aW (i:=1) oV.nd rfl (Or.inl rfl) (Oq T.CK i7.g (hr.mono (by decide)) rfl T.PJ i7.b .nil RD (ab (cw a6 rfl T.kr PyProof.Rows.Boot.«len» (ab (pv 0) aj)) aj)))
   (ak (gg ajr rfl (rq rfl T.tV (ab (cw a6 rfl T.kr PyProof.Rows.Boot.«len» (ab (pv 0) aj)) aj)) (a8 (i:=2) oV.nd rfl (Or.inl rfl))
    (ai (aJ (aK (pv 1) T.dw T.Gf oa.g (hr.mono (by decide)) oa.b .nil bG (ab (pv 2) (ab (du eu (pv 0) (pv 2) (λ_ _=>rfl)) aj))))))
   (ai (aP (pv 1)))))),?_⟩
  have el:=ry.1;refine⟨_,rfl,l,_,rfl,.inl (SqL.of hl),?_⟩;intro m mx hm hmx nd;refine⟨m,mx,ys.length,rfl,ah,by omega,by omega,λc H1 B1 hc M1=>⟨rfl,?_⟩⟩;have s1:aE H H1:=λb u q=>B1 b u (aq q hm) (by rw[af (aq q hm),af (aq q hmx)];exact q);have hHc:H c=none:=by
   by_cases e:c=m
   ·rw[e];exact hm
   ·by_cases e2:c=mx
    ·rw[e2];exact hmx
    ·rw[af e,af e2]at hc;exact hc
  refine⟨_,rfl,l,_,rfl,.inl (SqL.of (s1 _ _ hl)),_,rfl,by omega,by omega,CG (lo:=0) (n:=(ys.length:Int).toNat) (λi σ Hx=>∃ v2,σ=[some (.ref l),some (.ref m),v2]∧aE H Hx∧Mm D Hx m mx c (ys.take i++List.replicate (ys.length-i) .non) (ws.take i++List.replicate (ys.length-i) .no)) ⟨none,rfl,s1,M1⟩ ?_ ?_⟩
  ·rintro i σ Hx hi ⟨v2,rfl,sx,Mx⟩
   have il:i<ys.length:=(by omega);obtain⟨y,hy⟩:∃ y,ys[i]?=some y:=⟨_,ai7 il⟩;obtain⟨w',hw'⟩:∃ w',ws[i]?=some w':=⟨ws[i]'(by omega),ai7 _⟩;refine⟨_,rfl,m,_,_,rfl,Mx.i,(by kernel_rfl),_,rfl,_,rfl,_,rfl,l,ys,_,y,rfl,rfl,SqL.of (sx _ _ hl),by rw[Int.zero_add];exact Bj hy,m,mx,c,_,_,_,y,w',rfl,Mx,Sm.of (by omega) (by omega),(ry.2 i y w' hy hw').keep (cv.of sx),?_⟩;rw[if_pos ⟨by omega,by rw[aji,ajp,ajT];omega⟩];intro M2;refine⟨_,rfl,λb u q=>by rw[af (aq q hHc)];exact sx b u q,?_⟩;rw[show(0+(i:Int)).toNat=i by omega,O0 rfl hy]at M2 ⊢;rw[O0 (by omega) hw']at M2;exact M2
  ·rintro σ Hx ⟨v2,rfl,sx,Mx⟩
   rw[Int.toNat_natCast,akP,ajj (ajb _),ajj (by omega),List.replicate_zero,ajV,List.replicate_zero,ajV]at Mx;exact⟨_,rfl,k m mx c Hx sx hHc Mx⟩
noncomputable def Fw(ws:List Mw)(s:HS)(g f:Int→Int)(ts:List Int):Prop:=∀ t∈ts,ws[(f t).toNat]?=some (.mv (g t) (fld s t).length)∧ws[(f t+1).toNat]?=some (.mv (f t) (fld s t).length)
noncomputable def Hc(ws:List Mw)(s:HS)(g f:Int→Int)(t:Int)(k:Nat):Prop:=ws[(g t).toNat]?=some (.hd t (fld s t).length)∧∀(i:Nat) (w:Wd),i<k→(fld s t)[i]?=some w→∃ mw,ws[(g t).toNat+1+i]?=some mw∧Spk g f w mw
noncomputable def Fr3(sp:Int)(n:Nat)(f:Int→Int)(ts:List Int):Prop:=∀ t∈ts,sp≤f t∧f t+1<sp+2*(n:Int)
theorem Spk.lk{ws:List Mw}{s:HS}{g f:Int→Int}{w:Wd}{mw:Mw}(h:Spk g f w mw)(F:Fw ws s g f (keys s))(h0:∀ t∈keys s,0≤g t∧0≤f t∧f t≤100000∧g t≤100000∧ws[(g t).toNat]?=some (.hd t (fld s t).length))(ht:∀ t,w=.th t→t∈keys s):Lk ws (kvG (keys s) g) w mw:=by
 cases w with
 | no=>exact h
 | num n=>exact h
 | th t =>
  obtain⟨a,e,h⟩:=h;have mt:=ht t rfl;obtain⟨g0,f0,fb,gb,hh⟩:=h0 t mt;obtain⟨f1,f2⟩:=F t mt;have r0:Rv ws 0 (g t) (some (g t)):=.stop g0 hh (λb n z=>by cases z);have r1:Rv ws 1 (f t) (some (g t)):=.step f0 f1 r0;have r2:Rv ws 2 (f t+1) (some (g t)):=.step (by omega) f2 r1;have hv:=OW (g:=g) mt;rcases h with h|h|h
  ·exact⟨a,0,g t,e,Sm.of (by omega) (by omega),by rw[h];exact r0,hv⟩
  ·exact⟨a,1,g t,e,Sm.of (by omega) (by omega),by rw[h];exact r1,hv⟩
  ·exact⟨a,2,g t,e,Sm.of (by omega) (by omega),by rw[h];exact r2,hv⟩
theorem Ku{ws:List Mw}{i j:Nat}{w:Mw}(h:i≠j):(ws.set i w)[j]?=ws[j]?:=aj9 h
theorem Fw.keep{ws:List Mw}{s:HS}{g f:Int→Int}{ts:List Int}(F:Fw ws s g f ts){p:Nat}{w:Mw}(h:∀ t∈ts,p≠(f t).toNat∧p≠(f t+1).toNat):Fw (ws.set p w) s g f ts:=λt m=>by
 obtain⟨h1,h2⟩:=h t m;rw[Ku h1,Ku h2];exact F t m
theorem Hc.keep{ws:List Mw}{s:HS}{g f:Int→Int}{t:Int}{k:Nat}(h:Hc ws s g f t k){p:Nat}{w:Mw}(hp:p≠(g t).toNat∧∀ i,i<k→p≠(g t).toNat+1+i):Hc (ws.set p w) s g f t k :=
 ⟨by rw[Ku hp.1];exact h.1,λi w' hi hw'=>by rw[Ku (hp.2 i hi)];exact h.2 i w' hi hw'⟩
theorem Gm.of{ws:List Mw}(h1:∀(j:Nat) (t n:Int),ws[j]?=some (.hd t n)→0≤n∧n≤1000)(h2:∀(j:Nat) (a n:Int),ws[j]?=some (.mv a n)→Sm a):Gm ws :=
 ⟨λt n m=>by obtain⟨j,e⟩:=ajZ.mp m;exact h1 j t n e,λt n m=>by obtain⟨j,e⟩:=ajZ.mp m;exact h2 j t n e⟩
theorem Gm.set{ws:List Mw}(g:Gm ws){i:Nat}{w:Mw}(h1:∀ t n,w=.hd t n→0≤n∧n≤1000)(h2:∀ b n,w=.mv b n→Sm b):Gm (ws.set i w):=by
 refine Gm.of (λj t n e=>?_) (λj b n e=>?_)
 ·rcases List.mem_or_eq_of_mem_set (aje e) with m|m
  ·exact g.hd t n m
  ·exact h1 t n m.symm
 ·rcases List.mem_or_eq_of_mem_set (aje e) with m|m
  ·exact g.mv b n m
  ·exact h2 b n m.symm
noncomputable def Ldm(ml:Addr)(H:Hp)(kl:List (Key×V))(ts:List Int)(g f:Int→Int):Prop:=∀ t∈ts,∃ q,q≠ml∧gR kl (Sum.inl t)=some (.ref q)∧H q=some (.lst [.int (g t),.int (f t),.int (f t+1)])
theorem Ldm.lds{ml:Addr}{H:Hp}{kl:List (Key×V)}{ts:List Int}{g f:Int→Int}(h:Ldm ml H kl ts g f):Lds H kl ts g f:=λt m=>by obtain⟨q,_,a,b⟩:=h t m;exact⟨q,a,b⟩
theorem Ldm.keep{ml:Addr}{H H':Hp}{kl:List (Key×V)}{ts:List Int}{g f:Int→Int}(h:Ldm ml H kl ts g f)(k:∀ q us,q≠ml→H q=some (.lst us)→H' q=some (.lst us)):Ldm ml H' kl ts g f:=λt m=>by obtain⟨q,n,a,b⟩:=h t m;exact⟨q,n,a,k q _ n b⟩
noncomputable def Bm(ml dl:Addr)(H H':Hp):Prop:=∀ b u,b≠ml→b≠dl→H b=some u→H' b=some u
theorem Bm.same{ml dl:Addr}{H H1 H2:Hp}(a:Bm ml dl H H1)(s:aE H1 H2):Bm ml dl H H2:=λb u h1 h2 q=>s _ _ (a b u h1 h2 q)
theorem Bm.um{ml dl:Addr}{H H1:Hp}{o:HO}(a:Bm ml dl H H1):Bm ml dl H (upd H1 ml o):=λb u h1 h2 q=>by rw[af h1];exact a b u h1 h2 q
theorem Bm.ud{ml dl:Addr}{H H1:Hp}{o:HO}(a:Bm ml dl H H1):Bm ml dl H (upd H1 dl o):=λb u h1 h2 q=>by rw[af h2];exact a b u h1 h2 q
theorem Spk.plain{g f:Int→Int}{w:Wd}{mw:Mw}(h:Spk g f w mw):(∀ t n,mw≠.hd t n)∧∀ b n,mw≠.mv b n:=by
 cases w with
 | no=>have h:mw=.no:=h;rw[h];exact⟨(λ_ _ z=>by cases z),(λ_ _ z=>by cases z)⟩
 | num x=>have h:mw=.num x:=h;rw[h];exact⟨(λ_ _ z=>by cases z),(λ_ _ z=>by cases z)⟩
 | th t=>obtain⟨a,h,_⟩:=h;rw[h];exact⟨(λ_ _ z=>by cases z),(λ_ _ z=>by cases z)⟩
theorem Vx{Hd:Hp}{L:Addr}{us:List V}{u:V}{m0:Mw}{P:Nat→Mw→Prop}(z:Hd L=some (.lst us))(hq:∀(j:Nat) (y:V),us[j]?=some y→∃ mw,MV Hd y mw∧P j mw)(h:MV Hd u m0)(h2:P us.length m0):∀(j:Nat) (y:V),(us++[u])[j]?=some y→∃ mw,MV (upd Hd L (.lst (us++[u]))) y mw∧P j mw:=λj y hj=>by
 have tu:cv Hd (upd Hd L (.lst (us++[u]))):=cv.set z (by intro z y;cases y);rcases aj1 j us.length with c|c
 ·rw[ajQ c]at hj
  obtain⟨mw,e1,e2⟩:=hq j y hj;exact⟨mw,e1.keep tu,e2⟩
 ·have ej:j=us.length:=by have:=(ai6.mp hj).1;rw[aji,ajI]at this;omega
  rw[ej,ajJ (ajb _),akP]at hj;cases hj;rw[ej];exact⟨m0,h.keep tu,h2⟩
structure Md1(H:Hp)(ml dl:Addr)(s:HS)(g f:Int→Int)(a:Int)(n:Nat)(ts:List Int)(mys:List V)(mws:List Mw)(kl:List (Key×V)):Prop where
 l:H ml=some (.lst mys)
 r:MR H mys mws
 n:mws.length=n
 gm:Gm mws
 fw:Fw mws s g f ts
 fr:Fr3 a ts.length f ts
 d:H dl=some (.dK kl)
 ky:Kys kl ts
 ld:Ldm ml H kl ts g f
section
variable{H H':Hp}{ml dl:Addr}{s:HS}{g f:Int→Int}{a:Int}{n:Nat}{ts:List Int}{mys:List V}{mws:List Mw}{kl:List (Key×V)}
theorem Md1.same(h:Md1 H ml dl s g f a n ts mys mws kl)(e:aE H H'):Md1 H' ml dl s g f a n ts mys mws kl:=⟨e _ _ h.l,h.r.keep (cv.of e),h.n,h.gm,h.fw,h.fr,e _ _ h.d,h.ky,h.ld.keep λq us _ y=>e _ _ y⟩
theorem Md1.set(h:Md1 H ml dl s g f a n ts mys mws kl){p:Nat}{v:V}{w:Mw}(mv:MV H v w)(g1:∀ t n,w=.hd t n→0≤n∧n≤1000)(g2:∀ b n,w=.mv b n→Sm b)(hp:∀ t∈ts,p≠(f t).toNat∧p≠(f t+1).toNat):Md1 (upd H ml (.lst (mys.set p v))) ml dl s g f a n ts (mys.set p v) (mws.set p w) kl:=by
 have tu:cv H (upd H ml (.lst (mys.set p v))):=cv.set h.l (by intro z y;cases y);exact⟨ah,(h.r.set mv).keep tu,by rw[ajG];exact h.n,h.gm.set g1 g2,h.fw.keep hp,h.fr,by rw[af (ay h.d h.l (by intro y;cases y))];exact h.d,h.ky,h.ld.keep λq us n y=>by rw[af n];exact y⟩
theorem Md1.next(h:Md1 H ml dl s g f a n ts mys mws kl){t b:Int}{q:Addr}(nt:t∉ts)(hq:H q=some (.lst [.int (g t),.int b,.int (b+1)]))(nq:q≠ml)(eb:b=a+2*(ts.length:Int))(w1:mws[b.toNat]?=some (.mv (g t) (fld s t).length))(w2:mws[(b+1).toNat]?=some (.mv b (fld s t).length))(nm:ml≠dl) :
  Md1 (upd H dl (.dK (putK kl (Sum.inl t) (.ref q)))) ml dl s g (K36.GH f t b) a n (ts++[t]) mys mws (putK kl (Sum.inl t) (.ref q)):=by
 have tu:cv H (upd H dl (.dK (putK kl (Sum.inl t) (.ref q)))):=cv.set h.d (by intro z y;cases y);have gt:K36.GH f t b t=b:=by unfold K36.GH;rw[if_pos rfl]
 have gu:∀ {u:Int},u∈ts→K36.GH f t b u=f u:=λ{u} m=>by unfold K36.GH;rw[if_neg (λz=>nt (by rw[←z];exact m))]
 have sp:∀ {u:Int},u∈ts++[t]→u∈ts∨u=t:=λm=>(ajs.mp m).imp id ai9.mp;have kd:∀ {c:Addr} {us:List V},H c=some (.lst us)→(upd H dl (.dK (putK kl (Sum.inl t) (.ref q)))) c=some (.lst us):=λy=>by rw[af (ay y h.d (by intro z;cases z))];exact y
 refine⟨kd h.l,h.r.keep tu,h.n,h.gm,λu m=>?_,λu m=>?_,ah,h.ky.snoc nt,λu m=>?_⟩
 ·rcases sp m with e|e
  ·rw[gu e];exact h.fw u e
  ·rw[e,gt];exact⟨w1,w2⟩
 ·rw[aji,ajI]
  rcases sp m with e|e
  ·rw[gu e];have:=h.fr u e;omega
  ·rw[e,gt];omega
 ·rw[L1]
  rcases sp m with e|e
  ·obtain⟨q',n',y1,y2⟩:=h.ld u e
   rw[if_neg (λz=>nt (by rw[←Sum.inl.inj z];exact e)),gu e];exact⟨q',n',y1,kd y2⟩
  ·rw[e,if_pos rfl,gt]
   exact⟨q,nq,rfl,kd hq⟩
end
noncomputable def ML(D:Ad):Sp:=λvs H Q _=>∃ x A s,∃ sU:Int,vs=[.ref x,.int sU]∧IH D H x A s∧Gd s∧s.nxt≤90∧∀(r ml hl nl bl:Addr) (mys ys zs ps:List V) (ws:List Mw) (g:Int→Int) (H':Hp),aE H H'→H' r=some (.tup [.ref ml,.ref hl,.ref nl,.ref bl])→H' ml=some (.lst mys)→MR H' mys ws→ws.length≤10000→Gm ws→Pic ws s g→H' hl=some (.lst ys)→ys.length=8→(∀(i:Nat) (w:Wd) (y:V),s.bq[i]?=some w→ys[i]?=some y→∃ mw,MV H' y mw∧Lk ws (kvG (keys s) g) w mw)→H' nl=some (.lst zs)→zs.length=8→(∀(i:Nat) (n:Option Int) (y:V),s.names[i]?=some n→zs[i]?=some y→∃ mw,MV H' y mw∧Lk ws (kvG (keys s) g) (nmW n) mw)→H' bl=some (.lst ps)→Pr H' ps (keys s) g→Q (.ref r) H'
noncomputable abbrev oe:List Str:=["heap", "seed", "places", "spare", "model", "leads", "k", "t", "many", "values", "hands", "names"]
theorem cg:aw oe ["heap", "seed"] (ar jM):=⟨rfl,rfl,rfl,by decide +kernel,rfl,by decide +kernel,by decide +kernel⟩
theorem GL(F:Fun K "_law_model" "_law_model" jM D.fI D.lF)(T:Txt K mg D)
  (mJ:Ok P w K mg base 6 D.eM D.j5 ["heap", "seed"] (Ik D))
  (az:Ok P w K mg base 1 D.bj D.cB ["self"] (pB D))
  (av:Ok P w K mg base 4 D.aN D.bo ["self", "t"] (wB D))
  (iX:Ok P w K mg base 1 D.eN D.j6 ["value", "leads", "m"] (RR))
  (bu:Ok P w K mg base 1 D.dP D.iI ["cell", "k"] (Be))
  (aS:Ok P w K mg base 2 D.bR D.dE ["self"] (vX D))
  (aT:Ok P w K mg base 2 D.bS D.dF ["self"] (vY D)):Ok P w K mg base 7 D.fI D.lF ["heap", "seed"] (ML D):=by
 refine⟨?_,F.binds (ps:=["heap", "seed"]) λ_ _ _ _ _ _ us hl=>match us,hl with|[_,_],_=>rfl⟩
 refine F.okE cg (λvs H Q E h=>?_) (λcdv A' outer s' H vs Q E hr h=>?_)
 ·obtain⟨x,A,s,sU,rfl,_⟩:=h
  rfl
 ·obtain⟨x,A,s,sU,rfl,J,Gs,nx,k⟩:=h
  have hu:=jV hr;refine⟨_,(PSs.nox (ak (oZ (aH mJ.g (hr.mono (by decide)) rfl T.Gg T.qK mJ.b .nil bG (ab (pv 0) (ab (pv 1) aj))) (vZ rfl (eQ (a8 (i:=2) cg.nd rfl (Or.inr rfl)) (eQ (a8 (i:=3) cg.nd rfl (Or.inl rfl)) qX))))
   (ak (aW (i:=4) cg.nd rfl (Or.inl rfl) (aO F9 (jY (ab dY aj)) (aO cY (aO cY (pv 3) (aO jX au (cw HM rfl T.kr PyProof.Rows.Boot.«len» (ab (pv 2) aj)))) au)))
   (ak (aW (i:=5) cg.nd rfl (Or.inr rfl) jR)
   (ak (gg ajr rfl (wg rfl T.iD (ab (bM (pv 0) T.ae T.cQ az.g (hr.mono (by decide)) az.b .nil bG) aj)) (vZ rfl (eQ (a8 (i:=6) cg.nd rfl (Or.inl rfl)) (eQ (a8 (i:=7) cg.nd rfl (Or.inl rfl)) qX)))
    (ak (aW (i:=8) cg.nd rfl (Or.inl rfl) (cw a6 rfl T.kr PyProof.Rows.Boot.«len» (ab (aK (pv 0) T.ae T.cL av.g (hr.mono (by decide)) av.b .nil bG (ab (pv 7) aj)) aj)))
    (ak (oZ (iT (ab fg (ab (gS hu (pv 2) (pv 7) (λ_ _=>rfl)) (ab (pv 8) aj)))) (rU (pv 4) (aO cY (pv 3) (aO jX au (pv 6))) set_list))
    (ak (oZ (iT (ab fg (ab (aO cY (pv 3) (aO jX au (pv 6))) (ab (pv 8) aj)))) (rU (pv 4) (aO cY (aO cY (pv 3) (aO jX au (pv 6))) au) set_list))
    (ai (ny hu (pv 5) (pv 7) (jY (ab (gS hu (pv 2) (pv 7) (λ_ _=>rfl)) (ab (aO cY (pv 3) (aO jX au (pv 6))) (ab (aO cY (aO cY (pv 3) (aO jX au (pv 6))) au) aj)))) rfl))))))
   (ak (gg ajr rfl (f7 (bM (pv 0) T.ae T.cQ az.g (hr.mono (by decide)) az.b .nil bG)) (a8 (i:=7) cg.nd rfl (Or.inl rfl))
    (ak (aW (i:=9) cg.nd rfl (Or.inl rfl) (aK (pv 0) T.ae T.cL av.g (hr.mono (by decide)) av.b .nil bG (ab (pv 7) aj)))
    (ak (oZ (iT (ab fg (ab (pv 7) (ab (cw a6 rfl T.kr PyProof.Rows.Boot.«len» (ab (pv 9) aj)) aj)))) (rU (pv 4) (gS hu (pv 2) (pv 7) (λ_ _=>rfl)) set_list))
    (ai (gg ajr rfl (rq rfl T.tV (ab (cw a6 rfl T.kr PyProof.Rows.Boot.«len» (ab (pv 9) aj)) aj)) (a8 (i:=6) cg.nd rfl (Or.inl rfl))
     (ai (oZ (aH iX.g (hr.mono (by decide)) rfl T.wo T.mD iX.b .nil bG (ab (du eu (pv 9) (pv 6) (λ_ _=>rfl)) (ab (pv 5) (ab (aH bu.g (hr.mono (by decide)) rfl T.jN T.gH bu.b .nil bG (ab (pv 1) (ab (aO cY (aO jX au (pv 7)) (pv 6)) aj))) aj)))) (rU (pv 4) (aO cY (aO cY (gS hu (pv 2) (pv 7) (λ_ _=>rfl)) au) (pv 6)) set_list))))))))
   (ak (Kg (cl:=[("seed",s'.heap.objs.size+1),("leads",s'.heap.objs.size+3)]) (x := "value") (idx:=[5,1]) (NC:=["value", "leads", "seed"]) (i:=10) cg.nd rfl rfl ?co3 rfl (f7 (bM (pv 0) T.ae T.ir aS.g (hr.mono (by decide)) aS.b .nil bG)) (λC fp s₀ H₀=>(aH iX.g (hr.mono (by decide)) rfl T.wo T.mD iX.b .nil Ff (ab (pv 0) (ab (pv 1) (ab (aH bu.g (hr.mono (by decide)) rfl T.jN T.gH bu.b .nil Ff (ab (pv 2) (ab au aj))) aj))))))
   (ak (Kg (cl:=[("seed",s'.heap.objs.size+1),("leads",s'.heap.objs.size+3)]) (x := "t") (idx:=[5,1]) (NC:=["t", "leads", "seed"]) (i:=11) cg.nd rfl rfl ?co2 rfl (f7 (bM (pv 0) T.ae T.iu aT.g (hr.mono (by decide)) aT.b .nil bG)) (λC fp s₀ H₀=>(pJ (aV qx (pv 0) dY (bC _)) dY (iT (ab fg (ab (du (r:=YM K) eu (gS hu (pv 1) (pv 0) (λ_ _=>rfl)) (aO iS (aH bu.g (hr.mono (by decide)) rfl T.jN T.gH bu.b .nil Ff (ab (pv 2) (ab (aO cY au (pv 0)) aj))) au) (λ_ _=>rfl)) aj))))))
   (ai (aP (iT (ab (pv 4) (ab (pv 10) (ab (pv 11) (ab (rb (cl:=[("places",s'.heap.objs.size+2)]) (x := "t") (idx:=[2]) (NC:=["t", "places"]) ?co1 rfl (f7 (bM (pv 0) T.ae T.cQ az.g (hr.mono (by decide)) az.b .nil bG)) (λC fp s₀ H₀=>(iT (ab (pv 0) (ab (gS hu (pv 1) (pv 0) (λ_ _=>rfl)) aj))))) aj))))))))))))))),?_⟩
  case co1 =>
   exact kD (sc:=ar jM) (N:=oe) (ns:=["places"]) rfl rfl rfl (by decide +kernel) rfl rfl (by
    intro q hq;rw[ai9.mp hq];rfl)
  case co2 =>
   exact kD (sc:=ar jM) (N:=oe) (ns:=["seed", "leads"]) rfl rfl rfl (by decide +kernel) rfl rfl (by
    intro q hq;rcases ajo.mp hq with rfl|hq
    ·rfl
    rw[ai9.mp hq];rfl)
  case co3 =>
   exact kD (sc:=ar jM) (N:=oe) (ns:=["seed", "leads"]) rfl rfl rfl (by decide +kernel) rfl rfl (by
    intro q hq;rcases ajo.mp hq with rfl|hq
    ·rfl
    rw[ai9.mp hq];rfl)
  have G:=Gs.g;have lk:(keys s).length≤90:=by
   have:=G.sd
   unfold keys;rw[ai8];omega
  refine⟨_,rfl,_,rfl,x,A,s,sU,rfl,J,G,by omega,λr0 d kvs ms g a H1 s1 hr0 hd dg pl=>?_⟩;refine⟨r0,_,rfl,SqT.of hr0,rfl,_,_,rfl,_,_,rfl,rfl,?_⟩;have pm:ms.Perm (keys s):=pl.pm;have lms:ms.length=(keys s).length:=pm.length_eq;have lkv:=dg.k.len;have a0:=pl.a0;have a1:=pl.a1;obtain⟨n,en⟩:∃ n:Nat,a+2*(kvs.length:Int)+3=n:=⟨(a+2*(kvs.length:Int)+3).toNat,by omega⟩;refine⟨by show 1≤sizeLine;decide,λp1 hp1=>⟨_,rfl,_,rfl,d,kvs,rfl,(aE.upd hp1) _ _ hd,2,_,rfl,rfl,.inl ⟨by decide,by decide⟩,a,_,rfl,rfl,_,3,rfl,rfl,p1,a+2*(kvs.length:Int)+3,_,rfl,rfl,ah,by omega,by omega,by show 1*(a+2*(kvs.length:Int)+3).toNat≤sizeLine;exact ajy (show _≤10000 by omega) (by decide),λml hml=>?_⟩⟩;rw[show(a+2*(kvs.length:Int)+3).toNat=n by omega,MA];have s2:=aE.upd (o:=.lst [V.non]) hp1;have s3:=aE.upd (o:=.lst (List.replicate n V.non)) hml;intro dl hdl;have s4:=aE.upd (o:=.dK []) hdl;have S4:=(s1.trans s2).trans (s3.trans s4);have aeH:H ml=none:=aE.none (s1.trans s2) hml;have aeI:H dl=none:=aE.none ((s1.trans s2).trans s3) hdl;have zml:=s4 _ _ (ah (H:=upd H1 p1 (.lst [V.non])) (a:=ml) (o:=.lst (List.replicate n V.non)));have zdl:(upd (upd (upd H1 p1 (.lst [V.non])) ml (.lst (List.replicate n V.non))) dl (.dK [])) dl=some (.dK []):=ah;have zd:=s4 _ _ (s3 _ _ (s2 _ _ hd));have ndm:d≠ml:=aq (s2 _ _ hd) hml;have ndl:d≠dl:=aq (s3 _ _ (s2 _ _ hd)) hdl;have nml:ml≠dl:=ay zml zdl (by intro y;cases y);generalize upd (upd (upd H1 p1 (.lst [V.non])) ml (.lst (List.replicate n V.non))) dl (.dK [])=H4 at S4 zml zdl zd ⊢;have J4:=J.same S4;refine⟨_,rfl,x,_,_,rfl,J4.ax,(by kernel_rfl),x,A,s,rfl,J4,G,λp3 H5 s5 hp3 z5=>?_⟩;have np3:p3≠ml:=ajm (aq zml hp3);have aiW:p3≠dl:=ajm (aq zdl hp3);have S5:=S4.trans s5;have toS:∀ {Hx:Hp},Bm ml dl H5 Hx→aE H Hx:=λb c u q=>b c u (aq q aeH) (aq q aeI) (S5 _ _ q);refine⟨p3,rfl,⟨_,SqL.of z5⟩,rW (K:=K) (a:=p3) (xs:=(keys s).map V.int) (λi σ Hx=>∃(f:Int→Int) (mys:List V) (mws:List Mw) (kl:List (Key×V)) (v6 v7 v8:Option V),σ=[some (.ref x),some (.int sU),some (.ref d),some (.int a),some (.ref ml),some (.ref dl),v6,v7,v8,none,none,none]∧Bm ml dl H5 Hx∧Md1 Hx ml dl s g f a n ((keys s).take i) mys mws kl)
   ⟨λ_=>0,_,List.replicate n .no,[],none,none,none,rfl,(λb u _ _ q=>q),⟨s5 _ _ zml,MR.rep,ajT,Gm.of (λj t m e=>by rw[akf]at e;split at e<;>cases e) (λj t m e=>by rw[akf]at e;split at e<;>cases e),(λt m=>nomatch m),(λt m=>nomatch m),s5 _ _ zdl,rfl,(λt m=>nomatch m)⟩⟩ (λi σ Hx _ ⟨_,_,_,_,_,_,_,_,b,_⟩=>SqL.of (b p3 _ np3 aiW z5)) ?_ ?_⟩
  ·rintro i v σ Hx tp hi ⟨f,mys,mws,kl,v6,v7,v8,rfl,bx,mx⟩ htp
   rw[ajh]at hi;obtain⟨t,ht,rfl⟩:=ajk.mp hi;have mk:=aje ht;have mt:t∈ms:=pm.mem_iff.mpr mk;obtain⟨wd,mw⟩:=mem_keys.mp mk;obtain⟨t0,t1⟩:=G.lt t wd mw;have ef:=G.fld mw;have il:i<(keys s).length:=(ai6.mp ht).1;have ltk:((keys s).take i).length=i:=(by rw[ajp];omega);have e1:=aE.upd (o:=.tup [.int (i:Int),.int t]) htp;have J1:=(J.same (toS bx)).same e1;refine⟨tp,_,rfl,SqT.of ah,rfl,_,_,rfl,_,_,rfl,rfl,?_⟩;refine⟨_,rfl,x,_,_,rfl,J1.ax,(by kernel_rfl),_,rfl,x,A,s,t,rfl,J1,G,Sm.of (by omega) (by omega),(λ_ p H6 s6 hp6 z6=>?_),(λn=>absurd mk n)⟩;have R:=(J1.afl t wd mw).2;refine⟨p,_,rfl,.inl (SqL.of z6),?_⟩;show yj 8 (V.int (A.fx t).length) _ _ _;rw[show((A.fx t).length:Int)=((fld s t).length:Int) by rw[R.1,ef]];have S6:=e1.trans s6;have m6:=mx.same S6;have b6:=bx.same S6;have hd6:=b6 d _ ndm ndl (s5 _ _ zd);obtain⟨g0,g1⟩:=pl.bd t mt;refine⟨_,rfl,_,rfl,d,.int (g t),rfl,.inl ⟨kvs,Sum.inl t,.inl hd6,rfl,(dg.v t mt).symm⟩,_,rfl,by show 3≤sizeLine;decide,λq7 hq7=>?_⟩;have s7:=aE.upd (o:=.tup [V.str "moved",V.int (g t),V.int (fld s t).length]) hq7;have m7:=m6.same s7;have m8:=m7.set (p:=(a+2*(i:Int)).toNat) (v:=.ref q7) (w:=.mv (g t) (fld s t).length) (.inr ⟨(by intro z;cases z),q7,rfl,ah⟩) (λ_ _ z=>by cases z) (λb n z=>by cases z;exact Sm.of (by omega) (by omega)) (λu mu=>by have:=mx.fr u mu;rw[ltk]at this;omega);refine⟨_,rfl,_,rfl,_,rfl,2,_,rfl,rfl,.inl ⟨by decide,by decide⟩,a,_,rfl,rfl,ml,mys,a+2*(i:Int),(a+2*(i:Int)).toNat,rfl,rfl,m7.l,Fm (by omega) (by rw[m7.r.1,m7.n];omega),?_⟩;have b8:=(b6.same s7).um (o:=.lst (mys.set (a+2*(i:Int)).toNat (.ref q7)));refine⟨_,rfl,_,rfl,2,_,rfl,rfl,.inl ⟨by decide,by decide⟩,a,_,rfl,rfl,_,rfl,by show 3≤sizeLine;decide,λq9 hq9=>?_⟩;have s9:=aE.upd (o:=.tup [V.str "moved",V.int (a+2*(i:Int)),V.int (fld s t).length]) hq9;have m9:=m8.same s9;have m10:=m9.set (p:=(a+2*(i:Int)+1).toNat) (v:=.ref q9) (w:=.mv (a+2*(i:Int)) (fld s t).length) (.inr ⟨(by intro z;cases z),q9,rfl,ah⟩) (λ_ _ z=>by cases z) (λb n z=>by cases z;exact Sm.of (by omega) (by omega)) (λu mu=>by have:=mx.fr u mu;rw[ltk]at this;omega);refine⟨_,rfl,_,rfl,_,rfl,2,_,rfl,rfl,.inl ⟨by decide,by decide⟩,a,_,rfl,rfl,_,1,rfl,rfl,ml,_,a+2*(i:Int)+1,(a+2*(i:Int)+1).toNat,rfl,rfl,m9.l,Fm (by omega) (by rw[m9.r.1,m9.n];omega),?_⟩;have b10:=(b8.same s9).um (o:=.lst ((mys.set (a+2*(i:Int)).toNat (.ref q7)).set (a+2*(i:Int)+1).toNat (.ref q9)));have aiX:=b10 d _ ndm ndl (s5 _ _ zd);refine⟨_,rfl,_,rfl,d,.int (g t),rfl,.inl ⟨kvs,Sum.inl t,.inl aiX,rfl,(dg.v t mt).symm⟩,_,rfl,_,rfl,2,_,rfl,rfl,.inl ⟨by decide,by decide⟩,a,_,rfl,rfl,_,rfl,_,rfl,2,_,rfl,rfl,.inl ⟨by decide,by decide⟩,a,_,rfl,rfl,_,1,rfl,rfl,by show 3≤sizeLine;decide,λq11 hq11=>?_⟩;have s11:=aE.upd (o:=.lst [V.int (g t),V.int (a+2*(i:Int)),V.int (a+2*(i:Int)+1)]) hq11;have m11:=m10.same s11;have lkl:=m11.ky.len;refine⟨_,rfl,_,rfl,dl,_,rfl,D7.k (k:=Sum.inl t) m11.d (by rw[lkl];exact rY (by omega)),?_⟩;have nt:t∉(keys s).take i:=λm=>by
    obtain⟨j,hj,ej⟩:=akq.mp m;rw[ajp]at hj;rw[akS]at ej;have hi:=(ai6.mp ht)
    have:=aj8.mp (show(keys s).Pairwise (·< ·) from G.asc) j i (by omega) hi.1 (by omega)
    rw[ej,hi.2]at this;omega
   have nn:=m11.n;rw[ajG,ajG]at nn;have mf:=m11.next (t:=t) (b:=a+2*(i:Int)) nt ah (ajm (aq m10.l hq11)) (by rw[ltk]) (by rw[aj9 (by omega),ajY (by omega)]) (by rw[ajY (by rw[ajG];omega)]) nml;rw[take_snoc ht];exact⟨_,_,_,_,_,_,_,rfl,(b10.same s11).ud,mf⟩
  ·rintro σ Hx ⟨f,mys,mws,kl,v6,v7,v8,rfl,bx,mx⟩
   rw[ai8,ajj (ajb _)]at mx;have J1:=J.same (toS bx);refine⟨_,rfl,x,_,_,rfl,J1.ax,(by kernel_rfl),x,A,s,rfl,J1,G,λp6 H6 s6 hp6 z6=>?_⟩;have np6:p6≠ml:=ajm (aq mx.l hp6);have aiY:p6≠dl:=ajm (aq mx.d hp6);have S6:=(toS bx).trans s6;have b6:=bx.same s6;have hd6:=b6 d _ ndm ndl (s5 _ _ zd);have Xy:∀ {Hx:Hp},Bm ml dl H6 Hx→aE H Hx:=λb c u q=>b c u (aq q aeH) (aq q aeI) (S6 _ _ q);have frk:∀ u∈keys s,a≤f u:=λu mu=>(mx.fr u mu).1;refine⟨p6,rfl,⟨_,SqL.of z6⟩,jQ (K:=K) (a:=p6) (xs:=(keys s).map V.int) (λi σ Hx=>∃(mys:List V) (mws:List Mw) (v6 v7 v9:Option V),σ=[some (.ref x),some (.int sU),some (.ref d),some (.int a),some (.ref ml),some (.ref dl),v6,v7,v8,v9,none,none]∧Bm ml dl H6 Hx∧Md1 Hx ml dl s g f a n (keys s) mys mws kl∧∀ u∈(keys s).take i,Hc mws s g f u (fld s u).length)
    ⟨_,_,_,_,_,rfl,(λb u _ _ q=>q),mx.same s6,(λu m=>nomatch m)⟩ (λi σ Hx _ ⟨_,_,_,_,_,_,b,_⟩=>SqL.of (b p6 _ np6 aiY z6)) ?_ ?_⟩
   ·rintro i v σ Hx hi ⟨mys,mws,v6,v7,v9,rfl,bx,mx,hc⟩
    rw[ajh]at hi;obtain⟨t,ht,rfl⟩:=ajk.mp hi;have mk:=aje ht;have mt:t∈ms:=pm.mem_iff.mpr mk;obtain⟨wd,mw⟩:=mem_keys.mp mk;obtain⟨t0,t1⟩:=G.lt t wd mw;have ef:=G.fld mw;have f6:(fld s t).length≤6:=(by rw[ef];exact G.f6 t wd mw);obtain⟨g0,g1⟩:=pl.bd t mt;have il:i<(keys s).length:=(ai6.mp ht).1;have nt:∀ u∈(keys s).take i,u≠t:=λu m e=>by
     obtain⟨j,hj,ej⟩:=akq.mp m;rw[ajp]at hj;rw[akS]at ej;have hi:=(ai6.mp ht)
     have:=aj8.mp (show(keys s).Pairwise (·< ·) from G.asc) j i (by omega) hi.1 (by omega)
     rw[ej,hi.2]at this;omega
    have away:∀ u∈(keys s).take i,∀ p:Nat,g t≤p→(p:Int)≤g t+((fld s t).length:Int)→p≠(g u).toNat∧∀ j,j<(fld s u).length→p≠(g u).toNat+1+j:=λu m p h1 h2=>by
     have mu:u∈ms:=pm.mem_iff.mpr (aka m);have u0:=(pl.bd u mu).1;have dj:=pl.dj t mt u mu (ajm (nt u m));exact⟨by omega,λj hj=>by omega⟩
    have aeJ:∀ p:Nat,(p:Int)≤g t+((fld s t).length:Int)→∀ u∈keys s,p≠(f u).toNat∧p≠(f u+1).toNat:=λp hp u mu=>by
     have:=frk u mu
     omega
    have J1:=J.same (Xy bx);refine⟨_,rfl,x,_,_,rfl,J1.ax,(by kernel_rfl),_,rfl,x,A,s,t,rfl,J1,G,Sm.of (by omega) (by omega),(λ_ p H7 s7 hp7 z7=>?_),(λn=>absurd mk n)⟩;have R:=(J1.afl t wd mw).2;have eR:(A.fx t).length=(fld s t).length:=(by rw[R.1,ef]);refine⟨_,rfl,_,rfl,p,_,rfl,.inl (SqL.of z7),by show 3≤sizeLine;decide,λq8 hq8=>?_⟩;rw[show((A.fx t).length:Int)=((fld s t).length:Int) by rw[eR]];have s8:=aE.upd (o:=.tup [V.str "head",V.int t,V.int (fld s t).length]) hq8;have m8:=(mx.same s7).same s8;have b8:=(bx.same s7).same s8;have hd8:=b8 d _ ndm ndl hd6;have npm:p≠ml:=ajm (aq mx.l hp7);have npd:p≠dl:=ajm (aq mx.d hp7);have m9:=m8.set (p:=(g t).toNat) (v:=.ref q8) (w:=.hd t (fld s t).length) (.inr ⟨(by intro z;cases z),q8,rfl,ah⟩) (λ_ n z=>by cases z;omega) (λb n z=>by cases z) (aeJ _ (by omega));have b9:=b8.um (o:=.lst (mys.set (g t).toNat (.ref q8)));have zp9:(upd (upd H7 q8 (.tup [V.str "head",V.int t,V.int (fld s t).length])) ml (.lst (mys.set (g t).toNat (.ref q8)))) p=some (.lst (A.fx t)):=(by rw[af npm];exact s8 _ _ z7);have c9:∀ u∈(keys s).take i,Hc (mws.set (g t).toNat (.hd t (fld s t).length)) s g f u (fld s u).length:=λu m=>(hc u m).keep (away u m _ (by omega) (by omega));have d9:Hc (mws.set (g t).toNat (.hd t (fld s t).length)) s g f t 0:=⟨by rw[ajY (by rw[mx.n];omega)],λi w h=>absurd h (akz _)⟩;refine⟨_,rfl,_,rfl,_,rfl,d,.int (g t),rfl,.inl ⟨kvs,Sum.inl t,.inl hd8,rfl,(dg.v t mt).symm⟩,ml,mys,g t,(g t).toNat,rfl,rfl,m8.l,Fm (by omega) (by rw[m8.r.1,m8.n];omega),?_⟩;generalize upd (upd H7 q8 (.tup [V.str "head",V.int t,V.int (fld s t).length])) ml (.lst (mys.set (g t).toNat (.ref q8)))=H9 at m9 b9 zp9 ⊢;refine⟨_,rfl,p,_,rfl,.inl (SqL.of zp9),_,rfl,by omega,by omega,CG (lo:=0) (n:=((A.fx t).length:Int).toNat) (λj σ Hy=>∃(mys:List V) (mws:List Mw) (v6:Option V),σ=[some (.ref x),some (.int sU),some (.ref d),some (.int a),some (.ref ml),some (.ref dl),v6,some (.int t),v8,some (.ref p),none,none]∧Bm ml dl H6 Hy∧Hy p=some (.lst (A.fx t))∧Md1 Hy ml dl s g f a n (keys s) mys mws kl∧(∀ u∈(keys s).take i,Hc mws s g f u (fld s u).length)∧Hc mws s g f t j) ⟨_,_,_,rfl,b9,zp9,m9,c9,d9⟩ ?_ ?_⟩
    ·rintro j σ Hy hj ⟨mys,mws,v6,rfl,bY,zy,my,cy,dy⟩
     have jl:j<(fld s t).length:=(by omega);obtain⟨v,hv⟩:∃ v,(A.fx t)[j]?=some v:=⟨(A.fx t)[j]'(by omega),ai7 _⟩;obtain⟨w',hw'⟩:∃ w',(fld s t)[j]?=some w':=⟨_,ai7 jl⟩;have Jy:=J.same (Xy bY);have Ry:=(Jy.afl t wd mw).2;refine⟨_,rfl,_,rfl,p,A.fx t,_,v,rfl,rfl,SqL.of zy,by rw[Int.zero_add];exact Bj hv,_,rfl,_,rfl,_,rfl,9,_,rfl,rfl,.inl ⟨by decide,by decide⟩,_,rfl,_,_,rfl,rfl,sU,_,rfl,by omega,by omega,λrm m0 m1=>⟨v,w',dl,kl,keys s,g,f,rm,rfl,Ry.2 j v w' hv (by rw[←ef];exact hw'),my.d,my.ld.lds,(λu e=>?_),λy mw' H' s' mv spk=>?_⟩⟩
     ·obtain⟨wu,mu⟩:=G.ff t wd u mw (by rw[←e,←ef];exact aje hw')
      exact mem_keys.mpr ⟨wu,mu⟩
     ·have m':=my.same s'
      have b':=bY.same s';have hd':=b' d _ ndm ndl hd6;have ms':=m'.set (p:=(g t+1+(j:Int)).toNat) mv (λt n z=>absurd z (spk.plain.1 t n)) (λb n z=>absurd z (spk.plain.2 b n)) (aeJ _ (by omega));refine⟨_,rfl,_,rfl,_,rfl,d,.int (g t),rfl,.inl ⟨kvs,Sum.inl t,.inl hd',rfl,(dg.v t mt).symm⟩,_,1,rfl,rfl,_,rfl,_,_,rfl,rfl,ml,mys,g t+1+(0+(j:Int)),(g t+1+(j:Int)).toNat,rfl,rfl,m'.l,(by rw[Int.zero_add];exact Fm (by omega) (by rw[m'.r.1,m'.n];omega)),?_⟩;refine⟨_,_,_,rfl,b'.um,by rw[af npm];exact s' _ _ zy,ms',λu m=>(cy u m).keep (away u m _ (by omega) (by omega)),?_⟩;have kp:=dy.keep (p:=(g t+1+(j:Int)).toNat) (w:=mw') ⟨by omega,λi hi=>by omega⟩;refine⟨kp.1,λi w hi hw=>?_⟩;rcases aj1 i j with c|c
      ·exact kp.2 i w c hw
      ·have e:i=j:=by omega
       subst e;rw[hw']at hw;cases hw;exact⟨mw',by rw[show(g t).toNat+1+i=(g t+1+(i:Int)).toNat by omega,ajY (by rw[my.n];omega)],spk⟩
    ·rintro σ Hy ⟨mys,mws,v6,rfl,bY,zy,my,cy,dy⟩
     rw[Int.toNat_natCast,eR]at dy;refine⟨_,_,_,_,_,rfl,bY,my,λu m=>?_⟩;rw[take_snoc ht]at m;rcases ajs.mp m with m|m
     ·exact cy u m
     ·rw[ai9.mp m];exact dy
   ·rintro σ Hx ⟨mys,mws,v6,v7,v9,rfl,bx,mx,hc⟩
    rw[ai8,ajj (ajb _)]at hc;have h0:∀ t∈keys s,0≤g t∧0≤f t∧f t≤100000∧g t≤100000∧mws[(g t).toNat]?=some (.hd t (fld s t).length):=λt mt=>by
     have q1:=pl.bd t (pm.mem_iff.mpr mt);have q2:=mx.fr t mt;exact⟨q1.1,by omega,by omega,by omega,(hc t mt).1⟩
    have Xz:∀ {w:Wd} {mw:Mw},Spk g f w mw→(∀ t,w=.th t→t∈keys s)→Lk mws (kvG (keys s) g) w mw:=λh ht=>h.lk mx.fw h0 ht;have pic:Pic mws s g:=by
     refine⟨λt wd mw=>?_,λt wd t' wd' m1 m2 nn=>?_⟩
     ·have mt:=mem_keys.mpr ⟨wd,mw⟩
      obtain⟨q1,q2⟩:=pl.bd t (pm.mem_iff.mpr mt);have ef:=G.fld mw;obtain⟨c1,c2⟩:=hc t mt;rw[ef]at q2 c1 c2;refine⟨q1,by rw[mx.n];omega,c1,λi w hw=>?_⟩;obtain⟨mw',e1,e2⟩:=c2 i w (ai6.mp hw).1 hw;refine⟨mw',e1,Xz e2 λu e=>?_⟩;obtain⟨wu,mu⟩:=G.ff t wd u mw (by rw[←e];exact aje hw);exact mem_keys.mpr ⟨wu,mu⟩
     ·have:=pl.dj t (pm.mem_iff.mpr (mem_keys.mpr ⟨wd,m1⟩)) t' (pm.mem_iff.mpr (mem_keys.mpr ⟨wd',m2⟩)) nn
      rw[G.fld m1,G.fld m2]at this;exact this
    have SX:=Xy bx;have hdx:=bx d _ ndm ndl hd6;have Jx:=J.same SX;refine⟨_,rfl,x,_,_,rfl,Jx.ax,(by kernel_rfl),x,A,s,rfl,Jx,G,λp7 H7 s7 hp7 z7=>⟨p7,rfl,⟨_,SqL.of z7⟩,λL hL=>?_⟩⟩;have fin:∀ {Hb Hd He:Hp} {L:Addr} {us:List V} {u:V} {m0:Mw} {P:Nat→Mw→Prop} {i:Nat},Hb L=none→aE Hb Hd→Hd L=some (.lst us)→us.length=i→(∀(j:Nat) (y:V),us[j]?=some y→∃ mw,MV Hd y mw∧P j mw)→aE Hd He→MV He u m0→P i m0→He L=some (.lst us)∧(us++[u]).length=i+1∧aE Hb (upd He L (.lst (us++[u])))∧upd He L (.lst (us++[u])) L=some (.lst (us++[u]))∧∀(j:Nat) (y:V),(us++[u])[j]?=some y→∃ mw,MV (upd He L (.lst (us++[u]))) y mw∧P j mw:=λ{Hb Hd He L us u m0 P i} hb sc z e hq sd mv pm0 =>
     ⟨sd _ _ z,by rw[aji,e];rfl,(λb v y=>by rw[af (aq y hb)];exact sd _ _ (sc b v y)),ah,Vx (sd _ _ z) (λj y hj=>by obtain⟨mw,e1,e2⟩:=hq j y hj;exact⟨mw,e1.keep (cv.of sd),e2⟩) mv (by rw[e];exact pm0)⟩
    refine kC (K:=K) (a:=p7) (xs:=A.hx) (λi us Hd=>us.length=i∧aE H7 Hd∧Hd L=some (.lst us)∧∀(j:Nat) (y:V),us[j]?=some y→∃ mw,MV Hd y mw∧∀ w,s.bq[j]?=some w→Spk g f w mw) ⟨rfl,aE.upd hL,ah,(λj y h=>by cases h)⟩ (λi us Hd _ ⟨e,_,z,_⟩=>⟨z,e⟩) (λi us Hd _ ⟨_,sc,_⟩=>SqL.of (sc _ _ z7)) (by rw[Jx.rhl.1,G.h8];decide) (λi v us Hd hi ⟨e,sc,z,hq⟩=>?_) (λus H8 ⟨e8,s8,z8,hq8⟩=>?_)
    ·have S8:=s7.trans sc
     obtain⟨w',hw'⟩:∃ w',s.bq[i]?=some w':=⟨s.bq[i]'(by rw[←Jx.rhl.1];exact(ai6.mp hi).1),ai7 _⟩;refine⟨_,rfl,_,rfl,_,rfl,sU,200,rfl,by decide,by decide,λrm m0 m1=>⟨v,w',dl,kl,keys s,g,f,rm,rfl,(Jx.rhl.2 i v w' hi hw').keep (cv.of S8),S8 _ _ mx.d,(mx.ld.keep λq us _ y=>S8 _ _ y).lds,(λu e=>?_),λy mw' He sd mv spk=>?_⟩⟩
     ·obtain⟨wu,mu⟩:=G.hh u (by rw[←e];exact aje hw')
      exact mem_keys.mpr ⟨wu,mu⟩
     ·exact fin (P:=λj mw=>∀ w,s.bq[j]?=some w→Spk g f w mw) hL sc z e hq sd mv (λw h=>by rw[hw']at h;cases h;exact spk)
    have S8:=s7.trans s8;have J8:=Jx.same S8;refine⟨_,rfl,x,_,_,rfl,J8.ax,(by kernel_rfl),x,A,s,rfl,J8,G,λp9 H9 s9 hp9 z9=>⟨p9,rfl,⟨_,SqL.of z9⟩,λL2 hL2=>?_⟩⟩;refine kC (K:=K) (a:=p9) (xs:=s.names.map nmV) (λi us Hd=>us.length=i∧aE H9 Hd∧Hd L2=some (.lst us)∧∀(j:Nat) (y:V),us[j]?=some y→∃ mw,MV Hd y mw∧∀ o,s.names[j]?=some o→Spk g f (nmW o) mw) ⟨rfl,aE.upd hL2,ah,(λj y h=>by cases h)⟩ (λi us Hd _ ⟨e,_,z,_⟩=>⟨z,e⟩) (λi us Hd _ ⟨_,sc,_⟩=>SqL.of (sc _ _ z9)) (by rw[ai8,G.n8];decide) (λi v us2 Hd hi ⟨e,sc,z,hq⟩=>?_) (λus2 H10 ⟨e10,s10,z10,aiZ⟩=>?_)
    ·rw[ajh]at hi
     obtain⟨o,ho,rfl⟩:=ajk.mp hi;have S10:=(S8.trans s9).trans sc;cases o with
     | none=>exact⟨_,rfl,rfl,_,rfl,nW (decide_eq_true rfl) (fin (P:=λj mw=>∀ o,s.names[j]?=some o→Spk g f (nmW o) mw) (m0:=.no) hL2 sc z e hq (aE.refl _) (.inl ⟨rfl,rfl⟩) (λw h=>by rw[ho]at h;cases h;rfl))⟩
     | some t =>
      obtain⟨wt,mwt⟩:=G.nn t (aje ho);obtain⟨t0,t1⟩:=G.lt t wt mwt;obtain⟨q2,_,hv2,hq2⟩:=mx.ld t (mem_keys.mpr ⟨wt,mwt⟩);refine⟨_,rfl,rfl,_,rfl,ku (decide_eq_false (by intro z;cases z)) ⟨_,rfl,_,rfl,dl,.ref q2,rfl,.inl ⟨kl,Sum.inl t,.inl (S10 _ _ mx.d),rfl,hv2.symm⟩,_,rfl,_,rfl,300,t,rfl,rfl,sU,_,rfl,by omega,by omega,λrm m0 m1=>?_⟩⟩;obtain⟨a',ha,ea⟩:=at3 (g:=g) (f:=f) (t:=t) (m:=rm);refine⟨rm,3,rfl,rfl,(by show(0:Int)<3;decide),q2,_,_,.int a',rfl,rfl,SqL.of (S10 _ _ hq2),ha,by show 2≤sizeLine;decide,λr hr'=>?_⟩;exact fin (P:=λj mw=>∀ o,s.names[j]?=some o→Spk g f (nmW o) mw) (m0:=.ad a') hL2 sc z e hq (aE.upd hr') (.inr ⟨(by intro z;cases z),r,rfl,ah⟩) (λw h=>by rw[ho]at h;cases h;exact⟨a',rfl,ea⟩)
    have S10:=(S8.trans s9).trans s10;have J10:=Jx.same S10;refine⟨_,rfl,_,rfl,_,rfl,_,rfl,x,_,_,rfl,J10.ax,(by kernel_rfl),x,A,s,rfl,J10,G,λp11 H11 s11 hp11 z11=>⟨p11,rfl,⟨_,SqL.of z11⟩,λL3 hL3=>?_⟩⟩;refine kC (K:=K) (a:=p11) (xs:=(keys s).map V.int) (λi us Hd=>us.length=i∧aE H11 Hd∧Hd L3=some (.lst us)∧∀(j:Nat) (u:V) (t:Int),us[j]?=some u→(keys s)[j]?=some t→∃ q,u=.ref q∧Hd q=some (.tup [.int t,.int (g t)])) ⟨rfl,aE.upd hL3,ah,(λj u t h=>by cases h)⟩ (λi us Hd _ ⟨e,_,z,_⟩=>⟨z,e⟩) (λi us Hd _ ⟨_,sc,_⟩=>SqL.of (sc _ _ z11)) (by rw[ai8];exact wz (by omega)) (λi v us3 Hd hi ⟨e,sc,z,hq⟩=>?_) (λps H12 ⟨e12,s12,z12,ai0⟩=>?_)
    ·rw[ajh]at hi
     obtain⟨t,ht,rfl⟩:=ajk.mp hi;have mt:t∈ms:=pm.mem_iff.mpr (aje ht);refine⟨_,rfl,_,rfl,_,rfl,d,.int (g t),rfl,.inl ⟨kvs,Sum.inl t,.inl (sc _ _ (s11 _ _ (S10 _ _ hdx))),rfl,(dg.v t mt).symm⟩,by show 2≤sizeLine;decide,λq hq'=>?_⟩;have s3:=aE.upd (o:=.tup [V.int t,V.int (g t)]) hq';have z3:=s3 _ _ z;refine⟨z3,by rw[aji,e];rfl,λb u y=>by rw[af (aq y hL3)];exact s3 _ _ (sc b u y),ah,λj u t' h1 h2=>?_⟩;rcases aj1 j us3.length with cj|cj
     ·rw[ajQ cj]at h1
      obtain⟨q',e1,e2⟩:=hq j u t' h1 h2;exact⟨q',e1,by rw[af (ay (s3 _ _ e2) z3 (by intro y;cases y))];exact s3 _ _ e2⟩
     ·have ej:j=us3.length:=by have:=(ai6.mp h1).1;rw[aji,ajI]at this;omega
      rw[ej,ajJ (ajb _),akP]at h1;cases h1;rw[ej,e,ht]at h2;cases h2;exact⟨q,rfl,by rw[af (ay ah z3 (by intro y;cases y))];exact ah⟩
    ·rw[ai8]at e12 e10
     refine⟨by show 4≤sizeLine;decide,λr hr'=>?_⟩;have s13:=aE.upd (o:=.tup [.ref ml,.ref L,.ref L2,.ref L3]) hr';have F10:=(s11.trans s12).trans s13;have F8:=(s9.trans s10).trans F10;have FX:=S8.trans F8;refine k r ml L L2 L3 mys us us2 ps mws g _ (SX.trans FX) ah (FX _ _ mx.l) (mx.r.keep (cv.of FX)) (by rw[mx.n];omega) mx.gm pic (F8 _ _ z8) (by rw[e8,Jx.rhl.1,G.h8]) (λi w y h1 h2=>?_) (F10 _ _ z10) (by rw[e10,G.n8]) (λi o y h1 h2=>?_) (s13 _ _ z12) ⟨e12,λi u t h1 h2=>by obtain⟨q,e1,e2⟩:=ai0 i u t h1 h2;exact⟨q,e1,s13 _ _ e2⟩⟩
     ·obtain⟨mw',e1,e2⟩:=hq8 i y h2
      refine⟨mw',e1.keep (cv.of F8),Xz (e2 w h1) λu e=>?_⟩;obtain⟨wu,mu⟩:=G.hh u (by rw[←e];exact aje h1);exact mem_keys.mpr ⟨wu,mu⟩
     ·obtain⟨mw',e1,e2⟩:=aiZ i y h2
      refine⟨mw',e1.keep (cv.of F10),Xz (e2 o h1) λu e=>?_⟩;cases o with
      | none=>cases e
      | some t =>
       cases e;obtain⟨wu,mu⟩:=G.nn _ (aje h1);exact mem_keys.mpr ⟨wu,mu⟩
noncomputable def Mw.vl:Mw→Vl
 | .no=>.a .non
 | w=>.t (w.its.map .a)
theorem Kv{H:Hp}{t:Addr}{us:List V}{k:Nat}(ht:H t=some (.tup us))(hf:∀ u∈us,jU u=true):Rp H (k+1) (.ref t) (.t (us.map .a)):=⟨t,us,rfl,ht,(by rw[ai8]),λj u x h1 h2=>by
 rw[ajh,h1]at h2;cases h2;cases k<;>exact⟨rfl,hf u (aje h1)⟩⟩
theorem Bf{H:Hp}{l:Addr}{us:List V}{k:Nat}(hl:H l=some (.lst us))(hf:∀ u∈us,jU u=true):Rp H (k+1) (.ref l) (.l (us.map .a)):=⟨l,us,rfl,hl,(by rw[ai8]),λj u x h1 h2=>by
 rw[ajh,h1]at h2;cases h2;cases k<;>exact⟨rfl,hf u (aje h1)⟩⟩
theorem YB{H:Hp}{y:V}{w:Mw}{k:Nat}(h:MV H y w):Rp H (k+1) y w.vl:=by
 cases w with
 | no =>
  rcases h with⟨_,rfl⟩|⟨n,_⟩
  ·exact⟨rfl,rfl⟩
  ·exact absurd rfl n
 | _ =>
  obtain⟨_,t,rfl,ht⟩:=h.resolve_left (λz=>by cases z.1);exact Kv ht (λu m=>by simp only[Mw.its,ajo,akJ,or_false]at m;rcases m with rfl|rfl|rfl<;>rfl)
theorem YC{H:Hp}{y:V}{w:Wd}{k:Nat}(h:WV H y w):Rp H (k+1) y w.vl:=by
 cases w with
 | no=>have h:y=.non:=h;rw[h];exact⟨rfl,rfl⟩
 | num n=>obtain⟨t,rfl,ht⟩:=h;exact Kv (us:=[.str "number",.int n]) ht (λu m=>by simp only[ajo,akJ,or_false]at m;rcases m with rfl|rfl<;>rfl)
 | th n=>obtain⟨t,rfl,ht⟩:=h;exact Kv (us:=[.str "thing",.int n]) ht (λu m=>by simp only[ajo,akJ,or_false]at m;rcases m with rfl|rfl<;>rfl)
theorem Kw{H:Hp}{l:Addr}{ys:List V}{ws:List Mw}{k:Nat}(hl:H l=some (.lst ys))(r:MR H ys ws):Rp H (k+2) (.ref l) (.l (ws.map Mw.vl)):=⟨l,ys,rfl,hl,by rw[ai8];exact r.1,λj u x h1 h2=>by
 rw[ajh]at h2;obtain⟨w,hw,rfl⟩:=ajk.mp h2;exact YB (r.2 j u w h1 hw)⟩
theorem O2{H:Hp}{l:Addr}{ys:List V}{ws:List Wd}{k:Nat}(hl:H l=some (.lst ys))(r:Rel H ys ws):Rp H (k+2) (.ref l) (.l (ws.map Wd.vl)):=⟨l,ys,rfl,hl,by rw[ai8];exact r.1,λj u x h1 h2=>by
 rw[ajh]at h2;obtain⟨w,hw,rfl⟩:=ajk.mp h2;exact YC (r.2 j u w h1 hw)⟩
theorem UE{H:Hp}{l:Addr}{ps:List V}{ks:List Int}{g:Int→Int}{k:Nat}(hl:H l=some (.lst ps))(r:Pr H ps ks g):Rp H (k+2) (.ref l) (.l (ks.map λt=>.t ([V.int t,V.int (g t)].map .a))):=⟨l,ps,rfl,hl,by rw[ai8];exact r.1,λj u x h1 h2=>by
 rw[ajh]at h2;obtain⟨t,ht,rfl⟩:=ajk.mp h2;obtain⟨q,rfl,hq⟩:=r.2 j u t h1 ht;exact Kv hq (λu m=>by simp only[ajo,akJ,or_false]at m;rcases m with rfl|rfl<;>rfl)⟩
theorem rp3{H:Hp}{l:Addr}{x y z:V}{a b c:Vl}{k:Nat}(hl:H l=some (.lst [x,y,z]))(h1:Rp H k x a)(h2:Rp H k y b)(h3:Rp H k z c):Rp H (k+1) (.ref l) (.l [a,b,c]):=⟨l,_,rfl,hl,rfl,λj u v e1 e2=>by
 match j,e1,e2 with
 | 0,e1,e2=>cases e1;cases e2;exact h1
 | 1,e1,e2=>cases e1;cases e2;exact h2
 | 2,e1,e2=>cases e1;cases e2;exact h3
 | j+3,e1,_=>cases e1⟩
theorem Sq{H:Hp}:∀ {ys:List V},(∀ y∈ys,∃ mw,MV H y mw)→∃ ws,MR H ys ws
 | [],_=>⟨[],rfl,λi v w h=>by cases h⟩
 | y::ys,h=>by
  obtain⟨ws,r⟩:=Sq λy m=>h y (ajv _ m);obtain⟨w,hw⟩:=h y ajt;refine⟨w::ws,by rw[ajE,ajE,r.1],λi v w' h1 h2=>?_⟩;cases i with
  | zero=>cases h1;cases h2;exact hw
  | succ i=>exact r.2 i v w' h1 h2
noncomputable abbrev UG:List Str:=["script", "heap", "seed", "model", "hands", "names", "book", "memory", "lent", "before"]
theorem sg:aw UG ["script"] (ar Qi):=⟨rfl,rfl,rfl,by decide +kernel,rfl,by decide +kernel,by decide +kernel⟩
theorem Vy(F:Fun K "law" "law" Qi D.Hv D.Nh)(T:Txt K mg D)
  (qu:Ok P w K mg base 11 D.gL D.mT ["script", "most"] (MK K D))
  (d8:Ok P w K mg base 1 D.fe D.jr ["script", "k"] (Fu K))
  (og:Ok P w K mg base 7 D.fI D.lF ["heap", "seed"] (ML D))
  (mK:Ok P w K mg base 5 D.eO D.j7 ["model"] (O1 D))
  (aS:Ok P w K mg base 2 D.bR D.dE ["self"] (vX D))
  (aT:Ok P w K mg base 2 D.bS D.dF ["self"] (vY D))
  (az:Ok P w K mg base 1 D.bj D.cB ["self"] (pB D))
  (eY:Ok P w K mg base 9 D.cX D.hU ["ideal", "memory", "hands", "names", "book"] (Qo D))
  (oh:Ok P w K mg base 10 D.fF D.lr ["ideal", "memory", "hands", "names", "book"] (MI D))
  (bL:Ok P w K mg base 4 D.e7 D.iC ["self", "a"] (D2 D)):Ok P w K mg base 12 D.Hv D.Nh ["script"] (Qn K):=by
 refine⟨?_,F.binds (ps:=["script"]) λ_ _ _ _ _ _ us hl=>match us,hl with|[_],_=>rfl⟩
 refine F.okE sg (λvs H Q E h=>?_) (λcdv A' outer s' H vs Q E hr h=>?_)
 ·obtain⟨a,ns,rfl,_⟩:=h
  rfl
 ·obtain⟨a,ns,rfl,hS,hlen,k⟩:=h
  have hu:=jV hr;have hu4:=ajW (Nat.add_le_add_left (by decide:4≤64) _) hr.units;refine⟨_,(PSs.nox (ak (aW (i:=1) sg.nd rfl (Or.inl rfl) (aH qu.g (hr.mono (by decide)) rfl T.K2 T.u3 qu.b .nil bG (ab (pv 0) (ab au aj))))
   (ak (gg ajr rfl (f7 (jY (ab (aO iS (aH d8.g (hr.mono (by decide)) rfl T.uZ T.mW d8.b .nil bG (ab (pv 0) (ab au aj))) (aO DW au au)) (ab au aj)))) (a8 (i:=2) sg.nd rfl (Or.inl rfl))
    (ak (oZ (aH og.g (hr.mono (by decide)) rfl T.IB T.sI og.b .nil bG (ab (pv 1) (ab (pv 2) aj))) (vZ rfl (eQ (a8 (i:=3) sg.nd rfl (Or.inl rfl)) (eQ (a8 (i:=4) sg.nd rfl (Or.inl rfl)) (eQ (a8 (i:=5) sg.nd rfl (Or.inl rfl)) (eQ (a8 (i:=6) sg.nd rfl (Or.inl rfl)) qX))))))
    (ak (aW (i:=7) sg.nd rfl (Or.inr rfl) (aH mK.g (hr.mono (by decide)) rfl T.Gh T.qL mK.b .nil bG (ab (pv 3) aj)))
    (ak (aW (i:=8) sg.nd rfl (Or.inl rfl) (jY (ab (hZ iG rfl T.qM PyProof.Rows.Boot.«list» (ab (pv 4) aj)) (ab (hZ iG rfl T.qM PyProof.Rows.Boot.«list» (ab (pv 5) aj)) (ab (hZ iG rfl T.qM PyProof.Rows.Boot.«list» (ab (pv 6) aj)) aj)))))
    (ak (aW (i:=9) sg.nd rfl (Or.inl rfl) (jY (ab (bM (pv 1) T.ae T.ir aS.g (hr.mono (by decide)) aS.b .nil bG) (ab (bM (pv 1) T.ae T.iu aT.g (hr.mono (by decide)) aT.b .nil bG) (ab (bM (pv 1) T.ae T.cQ az.g (hr.mono (by decide)) az.b .nil bG) aj)))))
    (ak (cV (aV J9 (aH eY.g (hr.mono (by decide)) rfl T.uH T.k8 eY.b .nil bG (ab (pv 1) (ab (pv 7) (ab (du eu (pv 8) au (λ_ _=>rfl)) (ab (du eu (pv 8) au (λ_ _=>rfl)) (ab (du eu (pv 8) au (λ_ _=>rfl)) aj)))))) dY (bC _))
     (ai (aP yi))
     a7)
    (ak (cV (aV Tp (aH oh.g (hr.mono (by decide)) rfl T.Iy T.sE oh.b .nil bG (ab (pv 1) (ab (pv 7) (ab (du eu (pv 8) au (λ_ _=>rfl)) (ab (du eu (pv 8) au (λ_ _=>rfl)) (ab (du eu (pv 8) au (λ_ _=>rfl)) aj)))))) yi (bC _))
     (ai (aP yi))
     a7)
    (ak (cV (PW.pt (pw_or (aV (Kp (n:=4) hu4) (pv 8) (jY (ab (pv 4) (ab (pv 5) (ab (pv 6) aj)))) (bC _)) (pw_or1 (aV (Kp (n:=4) hu4) (jY (ab (bM (pv 1) T.ae T.ir aS.g (hr.mono (by decide)) aS.b .nil bG) (ab (bM (pv 1) T.ae T.iu aT.g (hr.mono (by decide)) aT.b .nil bG) (ab (bM (pv 1) T.ae T.cQ az.g (hr.mono (by decide)) az.b .nil bG) aj)))) (pv 9) (bC _)))))
     (ai (aP yi))
     a7)
    (ai (cV (aV (Kp (n:=4) hu4) (rb (cl:=[("memory",s'.heap.objs.size+1)]) (x := "a") (idx:=[7]) (NC:=["a", "memory"]) ?co1 rfl (rq rfl T.tV (ab (cw a6 rfl T.kr PyProof.Rows.Boot.«len» (ab (pv 3) aj)) aj)) (λC fp s₀ H₀=>(aK (pv 1) T.dw T.lG bL.g (hr.mono (by decide)) bL.b .nil Ff (ab (pv 0) aj)))) (pv 3) (bC _))
     (ai (aP yi))
     a7))))))))))
   (ai (aP yi))))),?_⟩
  case co1 =>
   exact kD (sc:=ar Qi) (N:=UG) (ns:=["memory"]) rfl rfl rfl (by decide +kernel) rfl rfl (by
    intro q hq;rw[ai9.mp hq];rfl)
  refine⟨_,rfl,a,ns,90,rfl,hS,hlen,by decide,by decide,λx A s H1 J Gs nx s1 F1=>?_⟩;have G:=Gs.g;refine⟨_,rfl,a,ns,2,rfl,s1.seq hS,by decide,10,60,rfl,rfl,⟨by decide,by decide⟩,_,_,rfl,rfl,(by show(0:Int)<10 ^ Int.toNat 60;decide +kernel),by show 2≤sizeLine;decide,λp0 hp0=>?_⟩;have s2:=aE.upd (o:=.lst (([ns.getD (Int.toNat 2) 0%10 ^ Int.toNat 60,3]:List Int).map V.int)) hp0;refine⟨p0,rfl,⟨_,SqL.of ah⟩,jQ (K:=K) (a:=p0) (xs:=([ns.getD (Int.toNat 2) 0%10 ^ Int.toNat 60,3]:List Int).map V.int) (λi σ Hx=>∃ v2 v3 v4 v5 v6 v7 v8 v9,σ=[some (.ref a),some (.ref x),v2,v3,v4,v5,v6,v7,v8,v9]∧aE H1 Hx∧Hx p0=some (.lst (([ns.getD (Int.toNat 2) 0%10 ^ Int.toNat 60,3]:List Int).map V.int))) ⟨none,none,none,none,none,none,none,none,rfl,s2,ah⟩ (λi σ Hx _ ⟨_,_,_,_,_,_,_,_,_,_,y⟩=>SqL.of y) ?_ ?_⟩
  ·rintro i v σ Hx hi ⟨v2,v3,v4,v5,v6,v7,v8,v9,rfl,sx,h0⟩
   rw[ajh]at hi;obtain⟨sU,_,rfl⟩:=ajk.mp hi;have Jx:=J.same sx;refine⟨_,rfl,_,rfl,x,A,s,sU,rfl,Jx,Gs,nx,λr ml hl nl bl mys ys zs ps ws g H2 s2 hr' zm rm wl gm pic zh lh hh zn ln hn zb pb=>?_⟩;refine⟨r,_,rfl,SqT.of hr',rfl,_,_,rfl,_,_,rfl,_,_,rfl,_,_,rfl,rfl,?_⟩;refine⟨_,rfl,ml,mys,ws,rfl,zm,rm,wl,λm mx c H3 s3 hc M3=>?_⟩;refine⟨_,rfl,hl,_,rfl,.inl (SqL.of (s3 _ _ zh)),λl1 hl1=>?_⟩;have t1:=aE.upd (o:=.lst ys) hl1;refine⟨_,rfl,nl,_,rfl,.inl (SqL.of (t1 _ _ (s3 _ _ zn))),λl2 hl2=>?_⟩;have t2:=aE.upd (o:=.lst zs) hl2;refine⟨_,rfl,bl,_,rfl,.inl (SqL.of (t2 _ _ (t1 _ _ (s3 _ _ zb)))),λl3 hl3=>⟨by show 3≤sizeLine;decide,λle hle=>?_⟩⟩;have t3:=aE.upd (o:=.lst ps) hl3;have t4:=aE.upd (o:=.lst [V.ref l1,.ref l2,.ref l3]) hle;have T2:=(t3.trans t4);have T1:=t2.trans T2;have T0:=t1.trans T1;have z1:=T1 _ _ (ah (H:=H3) (a:=l1) (o:=.lst ys));have z2:=T2 _ _ (ah (H:=upd H3 l1 (.lst ys)) (a:=l2) (o:=.lst zs));have z3:=t4 _ _ (ah (H:=upd (upd H3 l1 (.lst ys)) l2 (.lst zs)) (a:=l3) (o:=.lst ps));have z4:(upd (upd (upd (upd H3 l1 (.lst ys)) l2 (.lst zs)) l3 (.lst ps)) le (.lst [V.ref l1,.ref l2,.ref l3])) le=some (.lst [V.ref l1,.ref l2,.ref l3]):=ah;generalize upd (upd (upd (upd H3 l1 (.lst ys)) l2 (.lst zs)) l3 (.lst ps)) le (.lst [V.ref l1,.ref l2,.ref l3])=H4 at T0 z1 z2 z3 z4 ⊢;have J4:=((Jx.same s2).same s3).same T0;refine⟨_,rfl,x,_,_,rfl,J4.ax,(by kernel_rfl),x,A,s,rfl,J4,G,λb1 H5 u5 hb1 zb1=>?_⟩;have J5:=J4.same u5;refine⟨_,rfl,x,_,_,rfl,J5.ax,(by kernel_rfl),x,A,s,rfl,J5,G,λb2 H6 u6 hb2 zb2=>?_⟩;have J6:=J5.same u6;refine⟨_,rfl,x,_,_,rfl,J6.ax,(by kernel_rfl),x,A,s,rfl,J6,G,λb3 H7 u7 hb3 zb3=>⟨by show 3≤sizeLine;decide,λbe hbe=>?_⟩⟩;have u8:=aE.upd (o:=.lst [V.ref b1,.ref b2,.ref b3]) hbe;have U5:=(u6.trans u7).trans u8;have U4:=u5.trans U5;have zb1:=U5 _ _ zb1;have zb2:=u8 _ _ (u7 _ _ zb2);have zb3:=u8 _ _ zb3;have zbe:(upd H7 be (.lst [V.ref b1,.ref b2,.ref b3])) be=some (.lst [V.ref b1,.ref b2,.ref b3]):=ah;generalize upd H7 be (.lst [V.ref b1,.ref b2,.ref b3])=H8 at U4 zb1 zb2 zb3 zbe ⊢;have S8:=(s3.trans T0).trans U4;have SH:ME D H8 x A s m mx c mys ws l3 ps g:=⟨J4.same U4,G,(M3.same T0).same U4,gm,pic,U4 _ _ z3,pb.keep (cv.of S8),by omega⟩;have LE:=U4 _ _ z4;have hh8:∀(i:Nat) (w:Wd) (y:V),s.bq[i]?=some w→ys[i]?=some y→∃ mw,MV H8 y mw∧Lk ws (kvG (keys s) g) w mw:=λi w y h1 h2=>by obtain⟨mw,e1,e2⟩:=hh i w y h1 h2;exact⟨mw,e1.keep (cv.of S8),e2⟩
   have hn8:∀(i:Nat) (n:Option Int) (y:V),s.names[i]?=some n→zs[i]?=some y→∃ mw,MV H8 y mw∧Lk ws (kvG (keys s) g) (nmW n) mw:=λi w y h1 h2=>by obtain⟨mw,e1,e2⟩:=hn i w y h1 h2;exact⟨mw,e1.keep (cv.of S8),e2⟩
   refine⟨_,rfl,_,rfl,_,rfl,le,_,0,.ref l1,rfl,rfl,SqL.of LE,rfl,_,rfl,le,_,1,.ref l2,rfl,rfl,SqL.of LE,rfl,_,rfl,le,_,2,.ref l3,rfl,rfl,SqL.of LE,rfl,x,A,s,m,mx,c,mys,ws,l3,ps,g,l1,l2,ys,zs,rfl,SH,U4 _ _ z1,U4 _ _ z2,lh,ln,hh8,hn8,λH9 s9=>⟨rfl,_,rfl,ku rfl ?_⟩⟩;have LE9:=s9 _ _ LE;refine⟨_,rfl,_,rfl,_,rfl,le,_,0,.ref l1,rfl,rfl,SqL.of LE9,rfl,_,rfl,le,_,1,.ref l2,rfl,rfl,SqL.of LE9,rfl,_,rfl,le,_,2,.ref l3,rfl,rfl,SqL.of LE9,rfl,x,A,s,m,mx,c,mys,ws,l3,ps,g,l1,l2,ys,zs,rfl,SH.same s9,s9 _ _ (U4 _ _ z1),s9 _ _ (U4 _ _ z2),lh,ln,(λi w y h1 h2=>by obtain⟨mw,e1,e2⟩:=hh8 i w y h1 h2;exact⟨mw,e1.keep (cv.of s9),e2⟩),(λi w y h1 h2=>by obtain⟨mw,e1,e2⟩:=hn8 i w y h1 h2;exact⟨mw,e1.keep (cv.of s9),e2⟩),λH10 s10=>⟨true,true,rfl,rfl,_,rfl,ku rfl ?_⟩⟩;have E10:=(S8.trans s9).trans s10;have Y10:=s9.trans s10;refine⟨_,rfl,_,rfl,_,rfl,_,rfl,by show 3≤sizeLine;decide,λy1 hy1=>?_⟩;have w1:=aE.upd (o:=.lst [V.ref hl,.ref nl,.ref bl]) hy1;have zy1:(upd H10 y1 (.lst [V.ref hl,.ref nl,.ref bl])) y1=some (.lst [V.ref hl,.ref nl,.ref bl]):=ah;generalize upd H10 y1 (.lst [V.ref hl,.ref nl,.ref bl])=H11 at w1 zy1 ⊢;have E11:=E10.trans w1;have Y11:=Y10.trans w1;obtain⟨hws,hmr⟩:=Sq (H:=H11) (ys:=ys) λy my=>by
    obtain⟨j,hj⟩:=ajZ.mp my;have jl:=(ai6.mp hj).1;obtain⟨mw,e1,_⟩:=hh8 j _ y (ai7 (show j<s.bq.length by rw[G.h8];omega)) hj;exact⟨mw,e1.keep (cv.of Y11)⟩
   obtain⟨nws,nmr⟩:=Sq (H:=H11) (ys:=zs) λy my=>by
    obtain⟨j,hj⟩:=ajZ.mp my;have jl:=(ai6.mp hj).1;obtain⟨mw,e1,_⟩:=hn8 j _ y (ai7 (show j<s.names.length by rw[G.n8];omega)) hj;exact⟨mw,e1.keep (cv.of Y11)⟩
   have aeK:=pb.keep (cv.of E11);have r1:Rp H11 4 (V.ref le) _:=rp3 (Y11 _ _ LE) (Kw (k:=1) (Y11 _ _ (U4 _ _ z1)) hmr) (Kw (k:=1) (Y11 _ _ (U4 _ _ z2)) nmr) (UE (k:=1) (Y11 _ _ (U4 _ _ z3)) aeK);have r2:Rp H11 4 (V.ref y1) _:=rp3 zy1 (Kw (k:=1) (E11 _ _ zh) hmr) (Kw (k:=1) (E11 _ _ zn) nmr) (UE (k:=1) (E11 _ _ zb) aeK);refine⟨_,_,r1,r2,_,rfl,ku (by rw[nz r1 r1];rfl) ?_⟩;have J11:=(J4.same U4).same Y11;refine⟨_,rfl,x,_,_,rfl,J11.ax,(by kernel_rfl),x,A,s,rfl,J11,G,λc1 H12 u12 hc1 zc1=>?_⟩;have J12:=J11.same u12;refine⟨_,rfl,x,_,_,rfl,J12.ax,(by kernel_rfl),x,A,s,rfl,J12,G,λc2 H13 u13 hc2 zc2=>?_⟩;have J13:=J12.same u13;refine⟨_,rfl,x,_,_,rfl,J13.ax,(by kernel_rfl),x,A,s,rfl,J13,G,λc3 H14 u14 hc3 zc3=>⟨by show 3≤sizeLine;decide,λce hce=>?_⟩⟩;have u15:=aE.upd (o:=.lst [V.ref c1,.ref c2,.ref c3]) hce;have zce:(upd H14 ce (.lst [V.ref c1,.ref c2,.ref c3])) ce=some (.lst [V.ref c1,.ref c2,.ref c3]):=ah;generalize upd H14 ce (.lst [V.ref c1,.ref c2,.ref c3])=H15 at u15 zce ⊢;have U15:=((u12.trans u13).trans u14).trans u15;have J15:=J11.same U15;have Y15:=Y11.trans U15;have fn:∀ u∈s.names.map nmV,jU u=true:=λu m=>by obtain⟨n,_,rfl⟩:=ajz.mp m;cases n<;>rfl
   have fk:∀ u∈(keys s).map V.int,jU u=true:=λu m=>by obtain⟨n,_,rfl⟩:=ajz.mp m;rfl
   have r3:Rp H15 4 (V.ref ce) _:=rp3 zce (O2 (k:=1) (u15 _ _ (u14 _ _ (u13 _ _ zc1))) J15.rhl) (Bf (k:=2) (u15 _ _ (u14 _ _ zc2)) fn) (Bf (k:=2) (u15 _ _ zc3) fk);have r4:Rp H15 4 (V.ref be) _:=rp3 (Y15 _ _ zbe) (O2 (k:=1) (Y15 _ _ zb1) J15.rhl) (Bf (k:=2) (Y15 _ _ zb2) fn) (Bf (k:=2) (Y15 _ _ zb3) fk);refine⟨_,rfl,_,_,r3,r4,_,rfl,ku (by rw[nz r3 r3];rfl) ?_⟩;have E15:=E11.trans U15;have aeL:=E15 _ _ zm;have M15:=((M3.same T0).same U4).same Y15;have lm:=rm.1;refine⟨_,rfl,ml,_,rfl,.inl (SqL.of aeL),_,rfl,by omega,by omega,λL hL=>?_⟩;refine Fe (lo:=0) (n:=(mys.length:Int).toNat) (λi us Hd=>us=mys.take i∧aE H15 Hd∧Hd L=some (.lst us)) ⟨rfl,aE.upd hL,ah⟩ (λi us Hd hi ⟨e,_,z⟩=>⟨z,by rw[e,ajp];omega⟩) (wz (by omega)) (λi us Hd hi ⟨e,sc,z⟩=>?_) (λus H16 ⟨e,s16,z16⟩=>?_)
   ·have Md:=M15.same sc
    refine⟨_,rfl,m,_,_,rfl,Md.i,(by kernel_rfl),_,rfl,m,mx,c,mys,ws,_,rfl,Md,Sm.of (by omega) (by omega),?_⟩;rw[if_pos ⟨by omega,by omega⟩];intro v w' hv hw' mv;rw[show(0+(i:Int)).toNat=i by omega]at hv;refine⟨z,?_,λb u y=>by rw[af (aq y hL)];exact sc b u y,ah⟩;rw[take_snoc hv,e]
   ·rw[Int.toNat_natCast,ajj (ajb _)]at e
    subst e;have r5:Rp H16 4 (V.ref L) _:=Kw (k:=2) z16 (rm.keep (cv.of (E15.trans s16)));have r6:Rp H16 4 (V.ref ml) _:=Kw (k:=2) (s16 _ _ aeL) (rm.keep (cv.of (E15.trans s16)));refine⟨_,rfl,_,_,r5,r6,_,rfl,ku (by rw[nz r5 r5];rfl) ?_⟩;have SF:=(s2.trans E15).trans s16;exact⟨_,_,_,_,_,_,_,_,rfl,sx.trans SF,SF _ _ h0⟩
  ·rintro σ Hx ⟨v2,v3,v4,v5,v6,v7,v8,v9,rfl,sx,h0⟩
   exact k _
end
open PySem.W
section
variable{K:Frag}
noncomputable def LK(K:Frag)(n q:Str)(s:Stmt)(f:Addr):Prop:=(∃ d,Fun K n q s f d)∧keepIn K (.ref f)=true∧isFn K (.ref f)=true
theorem LK.mk{n q:Str}{s:Stmt}{f:Addr}{od an:Option Addr}{sl:Array (Option Value)}{oc kV dc pm cd ct:Value}(h1:K.lookup f=some ⟨oc,od,.func (fnOf n q (tU s) (qZ s) (ar s) .none kV dc pm an cd ct),sl⟩)(h2:codeIn K cd q=true)(h3:keepIn K (.ref f)=true)(h4:isFn K (.ref f)=true):LK K n q s f:=⟨⟨_,U7 (st:=s) h1 h2 h3⟩,h3,h4⟩
noncomputable def FI(K:Frag)(c:Addr)(n:Str)(f:Addr):Prop:=findIn K (.ref c) n=some (some (.ref f))
noncomputable def NF(K:Frag)(c:Addr)(n:Str):Prop:=findIn K (.ref c) n=some none
structure PK(K:Frag)(c:Addr):Prop where
 g:plainGet K c Str.empty=true
 d:hasDictIn K c=true
 o:plainOver K c=true
 s:findIn K (.ref c) "__setattr__" = some (some (.builtin "object.__setattr__"))
 k:keepIn K (.ref c)=true
structure EK(K:Frag)(b e i:Addr):Prop where
 x:Kl K e=true
 a:findIn K (.ref e) "__getattribute__" = some (some (.builtin "BaseException.__getattribute__"))
 t:findIn K (.ref e) "__getattr__" = some none
 c:findIn K (.ref e) "__class__" = some (some (.builtin "object.__class__"))
 i:findIn K (.ref e) "__init__" = some (some (.ref i))
 k:keepIn K (.ref e)=true
 v:kitOne K (.ref e) (.type "ValueError")=some true
 s:mroIn K e (.ref b)=some true
end
theorem all_mk{l:OpenLaw}{w:World}{K:Frag}{h:Heap}{mg:Str→Option Value}{fa aL dv bX fD f9 cF h7 ko i9 ja cP a9 aM aF aX aa bN ao dJ cK eV gc cc bp cW cH cN iM fF cX ck dM cO bD bI jb gI c8 cI bO eZ gF eW eT fL ba bT da cz fG bU de cR bH cA cJ cf fQ eU fR fS dG fT bP gJ bF cZ bt bh bA eJ bV di dq eC dC c5 dr bQ cS dR bW bR bS bj aN cT cU fM e7 gG aU fe dP dN gK fH gL eM eN fI eO Hv:Addr}{Fi nJ mj nK nL nM k6:Tok}(X:K.In h)(G:h.Ns mainGlobals mg)(hfa:mg "law" = some (.ref fa))
  (nH:nsIn K mainGlobals "HeapError" = some (some (.ref aL)))
  (xH:Kl K aL=true)
  (EB:nsIn K mainGlobals "number_value" = some (some (.ref dJ)))
  (GN:nsIn K mainGlobals "thing_value" = some (some (.ref cK)))
  (PX:nsIn K mainGlobals "kind_of" = some (some (.ref eV)))
  (NM:nsIn K mainGlobals "words_of" = some (some (.ref gc)))
  (BL:nsIn K mainGlobals "look_at_number" = some (some (.ref cc)))
  (EC:nsIn K mainGlobals "look_at_hand" = some (some (.ref bp)))
  (ED:nsIn K mainGlobals "look_at_name" = some (some (.ref cW)))
  (DE:nsIn K mainGlobals "look_at_field" = some (some (.ref cH)))
  (BM:nsIn K mainGlobals "look_at_limits" = some (some (.ref cN)))
  (NN:nsIn K mainGlobals "resolved" = some (some (.ref iM)))
  (Jf:nsIn K mainGlobals "is_picture" = some (some (.ref fF)))
  (EE:nsIn K mainGlobals "first_unlike" = some (some (.ref cX)))
  (zC:nsIn K mainGlobals "first_misplaced" = some (some (.ref ck)))
  (EF:nsIn K mainGlobals "addresses_of" = some (some (.ref dM)))
  (BN:nsIn K mainGlobals "first_headless" = some (some (.ref cO)))
  (ue:nsIn K mainGlobals "first_unlike_field" = some (some (.ref bD)))
  (vz:nsIn K mainGlobals "first_unlike_word" = some (some (.ref bI)))
  (PY:nsIn K mainGlobals "is_like" = some (some (.ref jb)))
  (Li:nsIn K mainGlobals "place_met" = some (some (.ref gI)))
  (Jg:nsIn K mainGlobals "last_steps" = some (some (.ref fG)))
  (GO:nsIn K mainGlobals "thing_among" = some (some (.ref eJ)))
  (Lj:nsIn K mainGlobals "_law_cell" = some (some (.ref fe)))
  (Jh:nsIn K mainGlobals "_law_mixed" = some (some (.ref dP)))
  (EG:nsIn K mainGlobals "_law_numbers" = some (some (.ref dN)))
  (Ll:nsIn K mainGlobals "_law_deed" = some (some (.ref gK)))
  (Ji:nsIn K mainGlobals "_law_round" = some (some (.ref fH)))
  (Lm:nsIn K mainGlobals "_law_heap" = some (some (.ref gL)))
  (GP:nsIn K mainGlobals "_law_places" = some (some (.ref eM)))
  (GQ:nsIn K mainGlobals "_law_spoken" = some (some (.ref eN)))
  (Jj:nsIn K mainGlobals "_law_model" = some (some (.ref fI)))
  (GR:nsIn K mainGlobals "_law_memory" = some (some (.ref eO)))
  (UH:nsIn K mainGlobals "law" = some (some (.ref Hv)))
  (Rg:nsIn K mainGlobals "Hands" = some (some (.ref a9)))
  (vA:PK K a9)
  (Rh:FI K a9 "__init__" c8)
  (FP:makesIn K a9=true)
  (vB:NF K a9 "words_held")
  (BO:FI K a9 "word_in" cI)
  (xt:FI K a9 "all_words" bO)
  (Jk:FI K a9 "put" eZ)
  (GS:FI K a9 "copy" gF)
  (DF:FI K a9 "number" eW)
  (GU:FI K a9 "kind" eT)
  (EH:FI K a9 "value" fL)
  (xu:FI K a9 "thing_due" ba)
  (Jl:nsIn K mainGlobals "WordTable" = some (some (.ref aM)))
  (lJ:PK K aM)
  (Jm:FI K aM "__init__" bT)
  (sA:makesIn K aM=true)
  (pX:NF K aM "words_borne")
  (qR:NF K aM "words_said")
  (zD:FI K aM "bear" da)
  (vC:FI K aM "settle" cz)
  (Jn:nsIn K mainGlobals "NameTable" = some (some (.ref aF)))
  (lK:PK K aF)
  (Jo:FI K aF "__init__" bU)
  (sC:makesIn K aF=true)
  (pF:NF K aF "things_named")
  (zE:FI K aF "name" de)
  (xv:FI K aF "named" cR)
  (rO:FI K aF "all_named" bH)
  (vD:FI K aF "settle" cA)
  (TM:nsIn K mainGlobals "Heap" = some (some (.ref aX)))
  (BP:PK K aX)
  (TN:FI K aX "__init__" cJ)
  (OC:makesIn K aX=true)
  (vE:NF K aX "makes_young")
  (BQ:NF K aX "in_hands")
  (xw:NF K aX "weak_names")
  (xx:NF K aX "last_words")
  (vF:NF K aX "fields_held")
  (uf:NF K aX "young_things")
  (xy:NF K aX "next_thing")
  (zF:FI K aX "add_thing" cf)
  (Jp:FI K aX "load" fQ)
  (GV:FI K aX "store" eU)
  (Jq:FI K aX "copy" fR)
  (Jr:FI K aX "drop" fS)
  (EI:FI K aX "number" dG)
  (Js:FI K aX "name" fT)
  (xA:FI K aX "read_thing" bP)
  (Jt:FI K aX "word" gJ)
  (vG:FI K aX "small_round" bF)
  (EJ:FI K aX "let_go" cZ)
  (ug:FI K aX "look_at_held" bt)
  (vH:FI K aX "words_among" bh)
  (zG:FI K aX "led_among" bA)
  (TQ:readsIn K aX (.type "type")=true)
  (TR:findCls K (.ref aX) (.type "type") "__init__" = some (.val (.ref cJ)))
  (TU:specialIn K (.ref aX) "__getattribute__" = some (some (.builtin "type.__getattribute__")))
  (Ju:nsIn K mainGlobals "IdealHeap" = some (some (.ref aa)))
  (lL:PK K aa)
  (Jv:FI K aa "__init__" bV)
  (sD:makesIn K aa=true)
  (pY:NF K aa "makes_young")
  (tI:NF K aa "in_hands")
  (qS:NF K aa "weak_names")
  (qT:NF K aa "last_words")
  (pZ:NF K aa "fields_held")
  (pG:NF K aa "young_things")
  (qU:NF K aa "next_thing")
  (qV:NF K aa "young_room")
  (xB:NF K aa "limit")
  (oi:NF K aa "doomed_things")
  (tJ:NF K aa "in_round")
  (rP:FI K aa "add_thing" cf)
  (zH:FI K aa "load" fQ)
  (xC:FI K aa "store" eU)
  (zI:FI K aa "copy" fR)
  (zJ:FI K aa "drop" fS)
  (vI:FI K aa "number" dG)
  (zK:FI K aa "name" fT)
  (qW:FI K aa "read_thing" bP)
  (zM:FI K aa "word" gJ)
  (qa:FI K aa "small_round" bF)
  (vJ:FI K aa "let_go" cZ)
  (pH:FI K aa "look_at_held" bt)
  (qb:FI K aa "words_among" bh)
  (rQ:FI K aa "led_among" bA)
  (zN:FI K aa "make" di)
  (zO:FI K aa "read" dq)
  (zP:FI K aa "kind" eC)
  (xD:FI K aa "value" dC)
  (vK:FI K aa "fields" c5)
  (zQ:FI K aa "held" dr)
  (xE:FI K aa "small" bQ)
  (xF:FI K aa "begin" cS)
  (BR:FI K aa "end" dR)
  (tK:FI K aa "round_on" bW)
  (xG:FI K aa "hands" bR)
  (xI:FI K aa "names" bS)
  (vL:FI K aa "things" bj)
  (rR:FI K aa "fields_of" aN)
  (xJ:FI K aa "spare" cT)
  (PZ:nsIn K mainGlobals "Memory" = some (some (.ref bN)))
  (rS:PK K bN)
  (P0:FI K bN "__init__" cU)
  (CK:makesIn K bN=true)
  (DG:NF K bN "cells")
  (EL:FI K bN "size" fM)
  (Jw:FI K bN "at" e7)
  (GW:FI K bN "put" gG)
  (pI:FI K bN "look_at_address" aU)
  (NO:nsIn K mainGlobals "BadCount" = some (some (.ref dv)))
  (fi0:FI K dv "__init__" ao)
  (iE:EK K aL dv ao)
  (P1:nsIn K mainGlobals "BadHand" = some (some (.ref bX)))
  (jH:EK K aL bX ao)
  (P8:nsIn K mainGlobals "BadName" = some (some (.ref fD)))
  (jI:EK K aL fD ao)
  (NP:nsIn K mainGlobals "BadField" = some (some (.ref f9)))
  (iF:EK K aL f9 ao)
  (EM:nsIn K mainGlobals "TooManyWords" = some (some (.ref cF)))
  (dX:EK K aL cF ao)
  (P9:nsIn K mainGlobals "BadView" = some (some (.ref h7)))
  (jJ:EK K aL h7 ao)
  (Ri:nsIn K mainGlobals "NoRoom" = some (some (.ref ko)))
  (kI:EK K aL ko ao)
  (Qa:nsIn K mainGlobals "RoundOn" = some (some (.ref i9)))
  (jK:EK K aL i9 ao)
  (Qb:nsIn K mainGlobals "NoRound" = some (some (.ref ja)))
  (jL:EK K aL ja ao)
  (JA:nsIn K mainGlobals "BadAddress" = some (some (.ref cP)))
  (fO:EK K aL cP ao)
  (uh:LK K "__init__" "HeapError.__init__" jc ao)
  (EN:LK K "number_value" "number_value" oz dJ)
  (GX:LK K "thing_value" "thing_value" qz cK)
  (Qc:LK K "kind_of" "kind_of" vU eV)
  (NQ:LK K "words_of" "words_of" yp gc)
  (BS:LK K "look_at_number" "look_at_number" lP cc)
  (EO:LK K "look_at_hand" "look_at_hand" oA bp)
  (ER:LK K "look_at_name" "look_at_name" oB cW)
  (DH:LK K "look_at_field" "look_at_field" mX cH)
  (BU:LK K "look_at_limits" "look_at_limits" lQ cN)
  (NR:LK K "resolved" "resolved" yq iM)
  (JB:LK K "is_picture" "is_picture" sh fF)
  (ES:LK K "first_unlike" "first_unlike" jj cX)
  (zR:LK K "first_misplaced" "first_misplaced" kJ ck)
  (ET:LK K "addresses_of" "addresses_of" kZ dM)
  (BV:LK K "first_headless" "first_headless" lR cO)
  (ui:LK K "first_unlike_field" "first_unlike_field" jd bD)
  (vM:LK K "first_unlike_word" "first_unlike_word" jS bI)
  (Qd:LK K "is_like" "is_like" CJ jb)
  (Ln:LK K "place_met" "place_met" uM gI)
  (BW:LK K "__init__" "Hands.__init__" lS c8)
  (DI:LK K "word_in" "Hands.word_in" mY cI)
  (zS:LK K "all_words" "Hands.all_words" kK bO)
  (Lo:LK K "put" "Hands.put" uN eZ)
  (JC:LK K "copy" "Hands.copy" si gF)
  (EU:LK K "number" "Hands.number" oE eW)
  (JD:LK K "kind" "Hands.kind" sj eT)
  (GY:LK K "value" "Hands.value" qA fL)
  (zU:LK K "thing_due" "Hands.thing_due" kL ba)
  (uj:LK K "__init__" "WordTable.__init__" je bT)
  (BX:LK K "bear" "WordTable.bear" lT da)
  (xK:LK K "settle" "WordTable.settle" ke cz)
  (JE:LK K "last_steps" "last_steps" sk fG)
  (uk:LK K "__init__" "NameTable.__init__" jf bU)
  (BY:LK K "name" "NameTable.name" lU de)
  (zV:LK K "named" "NameTable.named" kM cR)
  (tL:LK K "all_named" "NameTable.all_named" iQ bH)
  (xM:LK K "settle" "NameTable.settle" ie cA)
  (DJ:LK K "__init__" "Heap.__init__" mZ cJ)
  (BZ:LK K "add_thing" "Heap.add_thing" lV cf)
  (Lp:LK K "load" "Heap.load" uO fQ)
  (JF:LK K "store" "Heap.store" so eU)
  (Lq:LK K "copy" "Heap.copy" uP fR)
  (Lr:LK K "drop" "Heap.drop" uQ fS)
  (GZ:LK K "number" "Heap.number" qB dG)
  (Ls:LK K "name" "Heap.name" uR fT)
  (zW:LK K "read_thing" "Heap.read_thing" kN bP)
  (Lu:LK K "word" "Heap.word" uS gJ)
  (xN:LK K "small_round" "Heap.small_round" ig bF)
  (G0:LK K "let_go" "Heap.let_go" qC cZ)
  (vN:LK K "look_at_held" "Heap.look_at_held" jT bt)
  (xO:LK K "words_among" "Heap.words_among" ip bh)
  (B7:LK K "led_among" "Heap.led_among" gU bA)
  (G4:LK K "thing_among" "thing_among" qD eJ)
  (uo:LK K "__init__" "IdealHeap.__init__" jg bV)
  (B8:LK K "make" "IdealHeap.make" lW di)
  (B9:LK K "read" "IdealHeap.read" lX dq)
  (Ca:LK K "kind" "IdealHeap.kind" lY eC)
  (zX:LK K "value" "IdealHeap.value" kO dC)
  (xP:LK K "fields" "IdealHeap.fields" kf c5)
  (Cb:LK K "held" "IdealHeap.held" lZ dr)
  (zY:LK K "small" "IdealHeap.small" kP bQ)
  (zZ:LK K "begin" "IdealHeap.begin" kQ cS)
  (DK:LK K "end" "IdealHeap.end" ng dR)
  (uq:LK K "round_on" "IdealHeap.round_on" jh bW)
  (z0:LK K "hands" "IdealHeap.hands" kR bR)
  (Aa:LK K "names" "IdealHeap.names" kS bS)
  (xQ:LK K "things" "IdealHeap.things" kg bj)
  (tM:LK K "fields_of" "IdealHeap.fields_of" iR aN)
  (Ab:LK K "spare" "IdealHeap.spare" kT cT)
  (Ac:LK K "__init__" "Memory.__init__" kU cU)
  (G5:LK K "size" "Memory.size" qE fM)
  (Lv:LK K "at" "Memory.at" uT e7)
  (JG:LK K "put" "Memory.put" sq gG)
  (qc:LK K "look_at_address" "Memory.look_at_address" gE aU)
  (Lw:LK K "_law_cell" "_law_cell" uU fe)
  (JH:LK K "_law_mixed" "_law_mixed" sr dP)
  (EV:LK K "_law_numbers" "_law_numbers" oH dN)
  (Lx:LK K "_law_deed" "_law_deed" uV gK)
  (JI:LK K "_law_round" "_law_round" sv fH)
  (Ly:LK K "_law_heap" "_law_heap" uW gL)
  (G6:LK K "_law_places" "_law_places" qF eM)
  (G7:LK K "_law_spoken" "_law_spoken" qG eN)
  (JJ:LK K "_law_model" "_law_model" jM fI)
  (G8:LK K "_law_memory" "_law_memory" qH eO)
  (YD:LK K "law" "law" Qi Hv)
  (kr:nsIn K mainGlobals "len" = some none)
  (tV:nsIn K mainGlobals "range" = some none)
  (qM:nsIn K mainGlobals "list" = some none)
  (A7:nsIn K mainGlobals "sorted" = some none)
  (Sk:nsIn K mainGlobals "sum" = some none)
  (Sl:nsIn K mainGlobals "abs" = some none)
  (iD:nsIn K mainGlobals "enumerate" = some none)
  (sJ:nsIn K mainGlobals "ValueError" = some none)
  (Kr:nsIn K mainGlobals "dict" = some none)
  (Fl:nsIn K mainGlobals "HANDS" = some (some (.int 8 Fi)))
  (nO:nsIn K mainGlobals "WEAK_NAMES" = some (some (.int 8 nJ)))
  (qN:nsIn K mainGlobals "MOST_FIELDS" = some (some (.int 6 mj)))
  (nP:nsIn K mainGlobals "LEAST_ROOM" = some (some (.int 7 nK)))
  (sL:nsIn K mainGlobals "MOST_YOUNG" = some (some (.int 64 nL)))
  (sM:nsIn K mainGlobals "MOST_LIMIT" = some (some (.int 400 nM)))
  (lg:nsIn K mainGlobals "MOST_BEARERS" = some (some (.int 12 k6))) :
  ∃ fd:FuncData,(∀(s:Shared) (v:Value),BindsTo s fd ⟨[v],[]⟩ [("script",v)])∧∀ base:Heap,K.In base→base.Ns mainGlobals mg→Bi l.prog w K mg base (CXE l.prog w) 12 fa fd ["script"] (Qn K):=by
 have e:=(mg_of X G UH).symm.trans hfa;cases e;obtain⟨cdH,_,yH⟩:=lO xH;obtain⟨C0,Lz,yx⟩:=lO iE.x;obtain⟨Fx,NS,CN⟩:=lO jH.x;obtain⟨Fy,NT,CO⟩:=lO jI.x;obtain⟨C1,LA,yy⟩:=lO iF.x;obtain⟨sV,DL,oW⟩:=lO dX.x;obtain⟨Fz,NU,CP⟩:=lO jJ.x;obtain⟨Il,Qe,FU⟩:=lO kI.x;obtain⟨FA,NV,CQ⟩:=lO jK.x;obtain⟨FC,NW,CS⟩:=lO jL.x;obtain⟨wC,G9,sN⟩:=lO fO.x;have su:∀ {D:Addr} {cd:ClassData},clsIn K D=some cd→i8 K D cd→mroIn K D (.ref aL)=some true→∃ cd,i8 K D cd∧cd.mro.contains (.ref aL)=true:=λ{D cd} hc y sb=>⟨cd,y,by
  unfold mroIn at sb;rw[hc,Option.bind_some,if_neg (by rw[y.FJ];decide)]at sb;exact ajx sb⟩
 have m:=λ{n:Str} {v:Value} (q:nsIn K mainGlobals n=some (some v))=>mg_of X G q;obtain⟨⟨aA,ur⟩,Kx,a5⟩:=uh;obtain⟨⟨jk,EW⟩,oJ,Qy⟩:=EN;obtain⟨⟨fJ,Ha⟩,iV,RS⟩:=GX;obtain⟨⟨h9,Im⟩,mM,VA⟩:=Qc;obtain⟨⟨kq,NX⟩,pA,UI⟩:=NQ;obtain⟨⟨fK,Cc⟩,jw,O3⟩:=BS;obtain⟨⟨cG,EX⟩,dO,Qz⟩:=EO;obtain⟨⟨hR,EY⟩,k7,QA⟩:=ER;obtain⟨⟨gj,DM⟩,j9,Qp⟩:=DH;obtain⟨⟨gW,Cd⟩,l9,O4⟩:=BU;obtain⟨⟨pw,NY⟩,yv,UJ⟩:=NR;obtain⟨⟨lr,JK⟩,sE,Sx⟩:=JB;obtain⟨⟨hU,EZ⟩,k8,QB⟩:=ES;obtain⟨⟨gx,Ae⟩,kW,N7⟩:=zR;obtain⟨⟨jm,E0⟩,k9,QC⟩:=ET;obtain⟨⟨gX,Ce⟩,md,O5⟩:=BV;obtain⟨⟨eF,uu⟩,ji,Ky⟩:=ui;obtain⟨⟨fz,vO⟩,gO,MM⟩:=vM;obtain⟨⟨ph,Qf⟩,vV,VB⟩:=Qd;obtain⟨⟨mN,LB⟩,uY,TZ⟩:=Ln;obtain⟨⟨gY,Cf⟩,O6,Cg⟩:=BW;obtain⟨⟨fq,DN⟩,DO,DP⟩:=DI;obtain⟨⟨dB,Af⟩,Ag,Ah⟩:=zS;obtain⟨⟨iB,LC⟩,LD,LF⟩:=Lo;obtain⟨⟨lA,JL⟩,JM,JN⟩:=JC;obtain⟨⟨jn,E1⟩,E3,E4⟩:=EU;obtain⟨⟨iH,JO⟩,JP,JQ⟩:=JD;obtain⟨⟨jZ,Hg⟩,Hh,Hi⟩:=GY;obtain⟨⟨cn,Ai⟩,Aj,Ak⟩:=zU;obtain⟨⟨eG,uv⟩,Kz,uw⟩:=uj;obtain⟨⟨gZ,Ci⟩,Cj,Ck⟩:=BX;obtain⟨⟨fU,xR⟩,xS,xU⟩:=xK;obtain⟨⟨lB,JR⟩,sF,Sy⟩:=JE;obtain⟨⟨eI,ux⟩,KA,uy⟩:=uk;obtain⟨⟨g4,Cm⟩,Cn,Co⟩:=BY;obtain⟨⟨gy,Al⟩,Am,An⟩:=zV;obtain⟨⟨dZ,tN⟩,tO,tP⟩:=tL;obtain⟨⟨fV,xV⟩,xW,xX⟩:=xM;obtain⟨⟨iN,DQ⟩,DR,DS⟩:=DJ;obtain⟨⟨g7,Cp⟩,rh,rj⟩:=BZ;obtain⟨⟨mO,LG⟩,C2,C3⟩:=Lp;obtain⟨⟨lC,JS⟩,AS,AU⟩:=JF;obtain⟨⟨mP,LH⟩,C4,C5⟩:=Lq;obtain⟨⟨mQ,LI⟩,C6,C7⟩:=Lr;obtain⟨⟨j2,Hj⟩,wD,wF⟩:=GZ;obtain⟨⟨mR,LJ⟩,C8,C9⟩:=Ls;obtain⟨⟨gz,Ao⟩,pT,pU⟩:=zW;obtain⟨⟨qh,LL⟩,De,Df⟩:=Lu;obtain⟨⟨fW,xY⟩,ot,ou⟩:=xN;obtain⟨⟨iU,Hk⟩,wG,wH⟩:=G0;obtain⟨⟨fA,vP⟩,nD,nE⟩:=vN;obtain⟨⟨ed,xZ⟩,ow,oy⟩:=xO;obtain⟨⟨eB,Cq⟩,rk,rn⟩:=B7;obtain⟨⟨j3,Hl⟩,mC,RT⟩:=G4;obtain⟨⟨eK,uz⟩,KC,uA⟩:=uo;obtain⟨⟨g8,Cr⟩,Cs,Ct⟩:=B8;obtain⟨⟨g9,Cu⟩,Cw,Cy⟩:=B9;obtain⟨⟨ju,Cz⟩,CA,CB⟩:=Ca;obtain⟨⟨iY,Ap⟩,Aq,Ar⟩:=zX;obtain⟨⟨iq,x8⟩,x9,ya⟩:=xP;obtain⟨⟨hG,CC⟩,CD,CF⟩:=Cb;obtain⟨⟨dD,As⟩,Au,Av⟩:=zY;obtain⟨⟨gA,Aw⟩,Ax,Ay⟩:=zZ;obtain⟨⟨iO,DT⟩,DU,DV⟩:=DK;obtain⟨⟨eL,uB⟩,uC,uD⟩:=uq;obtain⟨⟨dE,Az⟩,AA,AB⟩:=z0;obtain⟨⟨dF,AD⟩,AE,AF⟩:=Aa;obtain⟨⟨cB,yc⟩,yd,ye⟩:=xQ;obtain⟨⟨bo,tQ⟩,tR,tS⟩:=tM;obtain⟨⟨gB,AG⟩,AH,AI⟩:=Ab;obtain⟨⟨gC,AJ⟩,N8,AK⟩:=Ac;obtain⟨⟨j4,Hm⟩,Ho,Hq⟩:=G5;obtain⟨⟨iC,LM⟩,LN,LO⟩:=Lv;obtain⟨⟨lD,JT⟩,JU,JV⟩:=JG;obtain⟨⟨bZ,qd⟩,qe,qf⟩:=qc;obtain⟨⟨jr,LP⟩,mW,T3⟩:=Lw;obtain⟨⟨iI,JW⟩,gH,Sz⟩:=JH;obtain⟨⟨jo,E8⟩,oK,QD⟩:=EV;obtain⟨⟨mS,LQ⟩,u1,T4⟩:=Lx;obtain⟨⟨lE,JX⟩,sG,SA⟩:=JI;obtain⟨⟨mT,LR⟩,u3,T5⟩:=Ly;obtain⟨⟨j5,Hr⟩,qK,RU⟩:=G6;obtain⟨⟨j6,Hs⟩,mD,RV⟩:=G7;obtain⟨⟨lF,JY⟩,sI,SD⟩:=JJ;obtain⟨⟨j7,Ht⟩,qL,RW⟩:=G8;obtain⟨⟨Nh,UK⟩,Uy,ai3⟩:=YD
 let D:Ad:=⟨aL,dv,bX,fD,f9,cF,h7,ko,i9,ja,cP,a9,aM,aF,aX,aa,bN,ao,aA,dJ,jk,cK,fJ,eV,h9,gc,kq,cc,fK,bp,cG,cW,hR,cH,gj,cN,gW,iM,pw,fF,lr,cX,hU,ck,gx,dM,jm,cO,gX,bD,eF,bI,fz,jb,ph,gI,mN,c8,gY,cI,fq,bO,dB,eZ,iB,gF,lA,eW,jn,eT,iH,fL,jZ,ba,cn,bT,eG,da,gZ,cz,fU,fG,lB,bU,eI,de,g4,cR,gy,bH,dZ,cA,fV,cJ,iN,cf,g7,fQ,mO,eU,lC,fR,mP,fS,mQ,dG,j2,fT,mR,bP,gz,gJ,qh,bF,fW,cZ,iU,bt,fA,bh,ed,bA,eB,eJ,j3,bV,eK,di,g8,dq,g9,eC,ju,dC,iY,c5,iq,dr,hG,bQ,dD,cS,gA,dR,iO,bW,eL,bR,dE,bS,dF,bj,cB,aN,bo,cT,gB,cU,gC,fM,j4,e7,iC,gG,lD,aU,bZ,fe,jr,dP,iI,dN,jo,gK,mS,fH,lE,gL,mT,eM,j5,eN,j6,fI,lF,eO,j7,fa,Nh,Fi,nJ,mj,nK,nL,nM,k6⟩
 have T:Txt K mg D:=⟨⟨cdH,yH⟩,m nH,m NO,⟨⟨C0,yx⟩,⟨iE.a,iE.t⟩,iE.c⟩,⟨⟨C0,yx⟩,iE.i,a5,iE.k⟩,iE.v,su Lz yx iE.s,m P1,⟨⟨Fx,CN⟩,⟨jH.a,jH.t⟩,jH.c⟩,⟨⟨Fx,CN⟩,jH.i,a5,jH.k⟩,jH.v,su NS CN jH.s,m P8,⟨⟨Fy,CO⟩,⟨jI.a,jI.t⟩,jI.c⟩,⟨⟨Fy,CO⟩,jI.i,a5,jI.k⟩,jI.v,su NT CO jI.s,m NP,⟨⟨C1,yy⟩,⟨iF.a,iF.t⟩,iF.c⟩,⟨⟨C1,yy⟩,iF.i,a5,iF.k⟩,iF.v,su LA yy iF.s,m EM,⟨⟨sV,oW⟩,⟨dX.a,dX.t⟩,dX.c⟩,⟨⟨sV,oW⟩,dX.i,a5,dX.k⟩,dX.v,su DL oW dX.s,m P9,⟨⟨Fz,CP⟩,⟨jJ.a,jJ.t⟩,jJ.c⟩,⟨⟨Fz,CP⟩,jJ.i,a5,jJ.k⟩,jJ.v,su NU CP jJ.s,m Ri,⟨⟨Il,FU⟩,⟨kI.a,kI.t⟩,kI.c⟩,⟨⟨Il,FU⟩,kI.i,a5,kI.k⟩,kI.v,su Qe FU kI.s,m Qa,⟨⟨FA,CQ⟩,⟨jK.a,jK.t⟩,jK.c⟩,⟨⟨FA,CQ⟩,jK.i,a5,jK.k⟩,jK.v,su NV CQ jK.s,m Qb,⟨⟨FC,CS⟩,⟨jL.a,jL.t⟩,jL.c⟩,⟨⟨FC,CS⟩,jL.i,a5,jL.k⟩,jL.v,su NW CS jL.s,m JA,⟨⟨wC,sN⟩,⟨fO.a,fO.t⟩,fO.c⟩,⟨⟨wC,sN⟩,fO.i,a5,fO.k⟩,fO.v,su G9 sN fO.s,m Rg,⟨vA.g,vA.d,vA.o,vA.s⟩,⟨FP,Rh,Cg,vA.k⟩,vB,⟨BO,DP,DO⟩,⟨xt,Ah,Ag⟩,⟨Jk,LF,LD⟩,⟨GS,JN,JM⟩,⟨DF,E4,E3⟩,⟨GU,JQ,JP⟩,⟨EH,Hi,Hh⟩,⟨xu,Ak,Aj⟩,m Jl,⟨lJ.g,lJ.d,lJ.o,lJ.s⟩,⟨sA,Jm,uw,lJ.k⟩,pX,qR,⟨zD,Ck,Cj⟩,⟨vC,xU,xS⟩,m Jn,⟨lK.g,lK.d,lK.o,lK.s⟩,⟨sC,Jo,uy,lK.k⟩,pF,⟨zE,Co,Cn⟩,⟨xv,An,Am⟩,⟨rO,tP,tO⟩,⟨vD,xX,xW⟩,m TM,⟨BP.g,BP.d,BP.o,BP.s⟩,⟨OC,TN,DS,BP.k⟩,vE,BQ,xw,xx,vF,uf,xy,⟨zF,rj,rh⟩,⟨Jp,C3,C2⟩,⟨GV,AU,AS⟩,⟨Jq,C5,C4⟩,⟨Jr,C7,C6⟩,⟨EI,wF,wD⟩,⟨Js,C9,C8⟩,⟨xA,pU,pT⟩,⟨Jt,Df,De⟩,⟨vG,ou,ot⟩,⟨EJ,wH,wG⟩,⟨ug,nE,nD⟩,⟨vH,oy,ow⟩,⟨zG,rn,rk⟩,⟨TQ,TR,TU,DR⟩,m Ju,⟨lL.g,lL.d,lL.o,lL.s⟩,⟨sD,Jv,uA,lL.k⟩,pY,tI,qS,qT,pZ,pG,qU,qV,xB,oi,tJ,⟨rP,rj,rh⟩,⟨zH,C3,C2⟩,⟨xC,AU,AS⟩,⟨zI,C5,C4⟩,⟨zJ,C7,C6⟩,⟨vI,wF,wD⟩,⟨zK,C9,C8⟩,⟨qW,pU,pT⟩,⟨zM,Df,De⟩,⟨qa,ou,ot⟩,⟨vJ,wH,wG⟩,⟨pH,nE,nD⟩,⟨qb,oy,ow⟩,⟨rQ,rn,rk⟩,⟨zN,Ct,Cs⟩,⟨zO,Cy,Cw⟩,⟨zP,CB,CA⟩,⟨xD,Ar,Aq⟩,⟨vK,ya,x9⟩,⟨zQ,CF,CD⟩,⟨xE,Av,Au⟩,⟨xF,Ay,Ax⟩,⟨BR,DV,DU⟩,⟨tK,uD,uC⟩,⟨xG,AB,AA⟩,⟨xI,AF,AE⟩,⟨vL,ye,yd⟩,⟨rR,tS,tR⟩,⟨xJ,AI,AH⟩,m PZ,⟨rS.g,rS.d,rS.o,rS.s⟩,⟨CK,P0,AK,rS.k⟩,DG,⟨EL,Hq,Ho⟩,⟨Jw,LO,LN⟩,⟨GW,JV,JU⟩,⟨pI,qf,qe⟩,m EB,oJ,m GN,iV,m PX,mM,m NM,pA,m BL,jw,m EC,dO,m ED,k7,m DE,j9,m BM,l9,m NN,yv,m Jf,sE,m EE,k8,m zC,kW,m EF,k9,m BN,md,m ue,ji,m vz,gO,m PY,vV,m Li,uY,m Jg,sF,m GO,mC,m Lj,mW,m Jh,gH,m EG,oK,m Ll,u1,m Ji,sG,m Lm,u3,m GP,qK,m GQ,mD,m Jj,sI,m GR,qL,m UH,Uy,mg_none_of X G kr,mg_none_of X G tV,mg_none_of X G qM,mg_none_of X G A7,mg_none_of X G Sk,mg_none_of X G Sl,mg_none_of X G iD,mg_none_of X G sJ,mg_none_of X G Kr,m Fl,m nO,m qN,m nP,m sL,m sM,m lg⟩;refine⟨Nh,λs v=>?_,λbase _ _=>?_⟩
 ·obtain⟨_,_,_,_,_,_,_,_,_,e,_⟩:=UK.ex
  rw[e];exact .of_eq rfl
 have ag:=sY (P:=l.prog) (w:=w) (mg:=mg) (base:=base) ur T;have gM:=NA (P:=l.prog) (w:=w) (mg:=mg) (base:=base) Im T;have aD:=Dp (P:=l.prog) (w:=w) (mg:=mg) (base:=base) EX T ag;have eX:=Dr (P:=l.prog) (w:=w) (mg:=mg) (base:=base) EY T ag;have fE:=K4 (P:=l.prog) (w:=w) (mg:=mg) (base:=base) NX T ag;have dU:=Bt (P:=l.prog) (w:=w) (mg:=mg) (base:=base) DM T ag;have dt:=yL (P:=l.prog) (w:=w) (mg:=mg) (base:=base) Cc T ag;have lj:=Du (P:=l.prog) (w:=w) (mg:=mg) (base:=base) EW T dt;have bz:=Ei (P:=l.prog) (w:=w) (mg:=mg) (base:=base) Ha T ag;have jA:=yN (P:=l.prog) (w:=w) (mg:=mg) (base:=base) Cd T ag;have jz:=yP (P:=l.prog) (w:=w) (mg:=mg) (base:=base) Cf T;have gk:=tf (P:=l.prog) (w:=w) (mg:=mg) (base:=base) ux T;have bK:=By (P:=l.prog) (w:=w) (mg:=mg) (base:=base) DN T aD;have cu:=ID (P:=l.prog) (w:=w) (mg:=mg) (base:=base) LC T aD;have nV:=Gk (P:=l.prog) (w:=w) (mg:=mg) (base:=base) JL T aD bK;have ll:=Dx (P:=l.prog) (w:=w) (mg:=mg) (base:=base) E1 T aD lj;have c6:=Gn (P:=l.prog) (w:=w) (mg:=mg) (base:=base) JO T gM bK;have mF:=El (P:=l.prog) (w:=w) (mg:=mg) (base:=base) Hg T ag c6;have aG:=wN (P:=l.prog) (w:=w) (mg:=mg) (base:=base) Ai T ag c6;have bc:=wQ (P:=l.prog) (w:=w) (mg:=mg) (base:=base) Af T;have jx:=yT (P:=l.prog) (w:=w) (mg:=mg) (base:=base) Cm T eX;have iZ:=wU (P:=l.prog) (w:=w) (mg:=mg) (base:=base) Al T eX;have gn:=tm (P:=l.prog) (w:=w) (mg:=mg) (base:=base) uv T;have jy:=yW (P:=l.prog) (w:=w) (mg:=mg) (base:=base) Ci T ag;have qo:=II (P:=l.prog) (w:=w) (mg:=mg) (base:=base) LH T nV;have qq:=IK (P:=l.prog) (w:=w) (mg:=mg) (base:=base) LI T cu;have mI:=En (P:=l.prog) (w:=w) (mg:=mg) (base:=base) Hj T ll;have qr:=IL (P:=l.prog) (w:=w) (mg:=mg) (base:=base) LJ T aG jx;have T6:=IM (P:=l.prog) (w:=w) (mg:=mg) (base:=base) LL T aG dt jy;have qm:=IP (P:=l.prog) (w:=w) (mg:=mg) (base:=base) LG T aD aG dU cu;have nY:=Gr (P:=l.prog) (w:=w) (mg:=mg) (base:=base) JS T aG bK dU;have ka:=BC (P:=l.prog) (w:=w) (mg:=mg) (base:=base) DQ T jz gk gn;have gv:=tw (P:=l.prog) (w:=w) (mg:=mg) (base:=base) uz T jA ka;have jC:=yX (P:=l.prog) (w:=w) (mg:=mg) (base:=base) Cp T bz cu;have i0:=wV (P:=l.prog) (w:=w) (mg:=mg) (base:=base) Ao T aD iZ cu bz;have cE:=vi (P:=l.prog) (w:=w) (mg:=mg) (base:=base) xZ T fE;have jB:=y8 (P:=l.prog) (w:=w) (mg:=mg) (base:=base) CC T cE;have O7:=za (P:=l.prog) (w:=w) (mg:=mg) (base:=base) Cz T c6;have N9:=wX (P:=l.prog) (w:=w) (mg:=mg) (base:=base) Ap T mF;have MS:=vk (P:=l.prog) (w:=w) (mg:=mg) (base:=base) x8 T aG;have nX:=Gv (P:=l.prog) (w:=w) (mg:=mg) (base:=base) JR T;have iW:=Ep (P:=l.prog) (w:=w) (mg:=mg) (base:=base) Hl T gM;have bB:=zg (P:=l.prog) (w:=w) (mg:=mg) (base:=base) Cq T iW nX;have iw:=vo (P:=l.prog) (w:=w) (mg:=mg) (base:=base) xV T;have iy:=vp (P:=l.prog) (w:=w) (mg:=mg) (base:=base) xR T;have fN:=Es (P:=l.prog) (w:=w) (mg:=mg) (base:=base) Hk T iw iy;have iA:=vq (P:=l.prog) (w:=w) (mg:=mg) (base:=base) xY T bc bB fN;have bg:=xa (P:=l.prog) (w:=w) (mg:=mg) (base:=base) As T iA;have i6:=xb (P:=l.prog) (w:=w) (mg:=mg) (base:=base) Aw T ag bg bc bB;have kc:=BH (P:=l.prog) (w:=w) (mg:=mg) (base:=base) DT T ag fN;have gr:=tE (P:=l.prog) (w:=w) (mg:=mg) (base:=base) uB T;have i3:=xg (P:=l.prog) (w:=w) (mg:=mg) (base:=base) AG T bz bB;have jF:=zo (P:=l.prog) (w:=w) (mg:=mg) (base:=base) Cr T ag aD fE cE bg jB jC;have jG:=zq (P:=l.prog) (w:=w) (mg:=mg) (base:=base) Cu T i0 i3;have aS:=xi (P:=l.prog) (w:=w) (mg:=mg) (base:=base) Az T bc;have fY:=rL (P:=l.prog) (w:=w) (mg:=mg) (base:=base) tN T;have aT:=xk (P:=l.prog) (w:=w) (mg:=mg) (base:=base) AD T fY;have az:=vv (P:=l.prog) (w:=w) (mg:=mg) (base:=base) yc T;have gP:=ua (P:=l.prog) (w:=w) (mg:=mg) (base:=base) vP T ag;have av:=rN (P:=l.prog) (w:=w) (mg:=mg) (base:=base) tQ T gP;have i7:=xo (P:=l.prog) (w:=w) (mg:=mg) (base:=base) AJ T;have mG:=Eu (P:=l.prog) (w:=w) (mg:=mg) (base:=base) Hm T;have aZ:=pE (P:=l.prog) (w:=w) (mg:=mg) (base:=base) qd T ag;have bL:=IU (P:=l.prog) (w:=w) (mg:=mg) (base:=base) LM T aZ;have oa:=GA (P:=l.prog) (w:=w) (mg:=mg) (base:=base) JT T aZ;have jD:=Lc (P:=l.prog) (w:=w) (mg:=mg) (base:=base) Im T;have sT:=Ld (P:=l.prog) (w:=w) (mg:=mg) (base:=base) NY T bL jD;have ql:=IX (P:=l.prog) (w:=w) (mg:=mg) (base:=base) LB T sT;have kH:=NL (P:=l.prog) (w:=w) (mg:=mg) (base:=base) Qf T gM jD ql;have dI:=ub (P:=l.prog) (w:=w) (mg:=mg) (base:=base) vO T kH;have gq:=tH (P:=l.prog) (w:=w) (mg:=mg) (base:=base) uu T kH av bL;have jE:=zw (P:=l.prog) (w:=w) (mg:=mg) (base:=base) Ce T av bL;have hW:=DB (P:=l.prog) (w:=w) (mg:=mg) (base:=base) E0 T av fE;have i4:=xq (P:=l.prog) (w:=w) (mg:=mg) (base:=base) Ae T hW mG;have eY:=DC (P:=l.prog) (w:=w) (mg:=mg) (base:=base) EZ T az i4 jE gq dI aS aT bz;have oh:=GC (P:=l.prog) (w:=w) (mg:=mg) (base:=base) JK T eY;have d8:=I0 (P:=l.prog) (w:=w) (mg:=mg) (base:=base) LP T;have bu:=GD (P:=l.prog) (w:=w) (mg:=mg) (base:=base) JW T;have nZ:=GG (P:=l.prog) (w:=w) (mg:=mg) (base:=base) JX T bg kc;have qt:=Jd (P:=l.prog) (w:=w) (mg:=mg) (base:=base) LQ T jF nY qm qo qq mI qr jG gr nZ i6;have lq:=DD (P:=l.prog) (w:=w) (mg:=mg) (base:=base) E8 T d8 bu;have qu:=Je (P:=l.prog) (w:=w) (mg:=mg) (base:=base) LR T d8 lq qt gv;have mJ:=Ex (P:=l.prog) (w:=w) (mg:=mg) (base:=base) Hr T az bu av;have iX:=Ez (P:=l.prog) (w:=w) (mg:=mg) (base:=base) Hs T;have mK:=EA (P:=l.prog) (w:=w) (mg:=mg) (base:=base) Ht T i7 oa;have og:=GL (P:=l.prog) (w:=w) (mg:=mg) (base:=base) JY T mJ az av iX bu aS aT;exact(Vy (P:=l.prog) (w:=w) (mg:=mg) (base:=base) UK T qu d8 og mK aS aT az eY oh bL).g
theorem walk{l:OpenLaw}{q:Program}{loose:List Str}{XP:(Str→Option Value)→Heap→Prop}{YP:World→Heap→Prop}{d:DefRec}{K:Params→Frag}(hn:l.most=some 63)(hdf:d.params.defaults=[])
  (hY:∀(w:World) (h:Heap),YP w h→(K w.params).In h)
  (F:∀(w:World) (mg:Str→Option Value) (fa:Addr) (h:Heap),(K w.params).In h→h.Ns mainGlobals mg→mg d.name=some (.ref fa) →
   ∃ fd:FuncData,(∀(s:Shared) (u:Value),BindsTo s fd ⟨[u],[]⟩ [("script",u)])∧∀ base:Heap,(K w.params).In base→base.Ns mainGlobals mg→Bi l.prog w (K w.params) mg base (CXE l.prog w) 12 fa fd ["script"] (Qn (K w.params))) :
  WalkO q loose XP YP l.row.toRowW d [] (λf vs=>PySem.call f vs) :=
 L2.SW (n:=63) (k:=12) (x := "script") (CX:=λw=>CXE l.prog w) (sp:=λw=>Qn (K w.params)) hn (by decide) hdf ⟨rfl,by decide,by decide⟩ hY F (λ_ _ a ns hl _ hS=>⟨a,ns,rfl,hS,hl,λ_=>rfl⟩) λ_ _ _ _ _ z=>Yb z
end K36
end
section
open PySem PySem.W PyProof.Rows
set_option maxRecDepth 100000 in
set_option maxHeartbeats 0 in
theorem PySem.Challenge.cw_stillheap_k36_right_pictures_holds : PySem.Challenge.rw_stillheap_k36_right_pictures.Holds := by
 w_on;o_law
 refine holds_open (q:=K36.hQ) (loose:=K36.hLo) (Xt:=λs=>xlAt K36.hQ [] s&&recOk (RowW.records (OpenRow.toRowW (OpenLaw.row PySem.Challenge.rw_stillheap_k36_right_pictures))) s)
  (XP:=XL K36.hQ []) (Yf:=Hook.obs (kHook K36.hK K36.hAs K36.qy)) (Ya:=Hook.val (kHook K36.hK K36.hAs K36.qy)) (YP:=Hook.says (kHook K36.hK K36.hAs K36.qy)) (N:=14550)
  ?hl (Hook.of (kHook K36.hK K36.hAs K36.qy)) (Hook.keeps (kHook K36.hK K36.hAs K36.qy))
  (λs e=>xl_of s (Bool.and_eq_true_iff.mp e).1) XL.keeps (by rfl) (by rfl) (by rfl)
  (λs e=>recFacts_of (Bool.and_eq_true_iff.mp e).2) (by rfl) (by first|assumption|decide +kernel)
  (by decide +kernel) ⟨rfl,rfl,rfl,rfl,rfl,by decide +kernel⟩ ?hw ?hc
 (case hl=>exact K36.X0)
 (case hw=>w_witness2)
 k_fill
 refine K36.walk (l:=PySem.Challenge.rw_stillheap_k36_right_pictures) rfl rfl (λw h Y=>PySem.W.kIn_of Y) ?F
 case F =>
  intro w mg fa h KX G hmg;refine' K36.all_mk KX G hmg ?_ ?_ ?_ ?_ ?_ ?_ ?_ ?_ ?_ ?_ ?_ ?_ ?_ ?_ ?_ ?_ ?_ ?_ ?_ ?_ ?_ ?_ ?_ ?_ ?_ ?_ ?_ ?_ ?_ ?_ ?_ ?_ ?_ ?_ ?_ ?_ ?_ ?_ ?_ ?_ ?_ ?_ ?_ ?_ ?_ ?_ ?_ ?_ ?_ ?_ ?_ ?_ ?_ ?_ ?_ ?_ ?_ ?_ ?_ ?_ ?_ ?_ ?_ ?_ ?_ ?_ ?_ ?_ ?_ ?_ ?_ ?_ ?_ ?_ ?_ ?_ ?_ ?_ ?_ ?_ ?_ ?_ ?_ ?_ ?_ ?_ ?_ ?_ ?_ ?_ ?_ ?_ ?_ ?_ ?_ ?_ ?_ ?_ ?_ ?_ ?_ ?_ ?_ ?_ ?_ ?_ ?_ ?_ ?_ ?_ ?_ ?_ ?_ ?_ ?_ ?_ ?_ ?_ ?_ ?_ ?_ ?_ ?_ ?_ ?_ ?_ ?_ ?_ ?_ ?_ ?_ ?_ ?_ ?_ ?_ ?_ ?_ ?_ ?_ ?_ ?_ ?_ ?_ ?_ ?_ ?_ ?_ ?_ ?_ ?_ ?_ ?_ ?_ ?_ ?_ ?_ ?_ ?_ ?_ ?_ ?_ ?_ ?_ ?_ ?_ ?_ ?_ ?_ ?_ ?_ ?_ ?_ ?_ ?_ ?_ ?_ ?_ ?_ ?_ ?_ ?_ ?_ ?_ ?_ ?_ ?_ ?_ ?_ ?_ ?_ ?_ ?_ ?_ ?_ ?_ ?_ ?_ ?_ ?_ ?_ ?_ ?_ ?_ ?_ ?_ ?_ ?_ ?_ ?_ ?_ ?_ ?_ ?_ ?_ ?_ ?_ ?_ ?_ ?_ ?_ ?_ ?_ ?_ ?_ ?_ ?_ ?_ ?_ ?_ ?_ ?_ ?_ ?_ ?_ ?_ ?_ ?_ ?_ ?_ ?_ ?_ ?_ ?_ ?_ ?_ ?_ ?_ ?_ ?_ ?_ ?_ ?_ ?_ ?_ ?_ ?_ ?_ ?_ ?_ ?_ ?_ ?_ ?_ ?_ ?_ ?_ ?_ ?_
  all_goals first
   | k_is
   | (unfold K36.FI;k_is)
   | (unfold K36.NF;k_is)
   | (refine' K36.LK.mk ?la ?lb ?lc ?ld;(case la=>k_is);(case lb=>k_is);(case lc=>k_is);(case ld=>k_is))
   | kernel_rfl
   | (refine' K36.PK.mk ?_ ?_ ?_ ?_ ?_<;>k_is)
   | (refine' K36.EK.mk ?_ ?_ ?_ ?_ ?_ ?_ ?_ ?_<;>first|k_is|kernel_rfl)
   | skip
end
