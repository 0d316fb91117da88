import PyProof.Rows.All
import Wide.All
import OpenK.AllK
import Wide.FinOn
import PyProof.EqAt
import PyProof.EqKinds
import PyProof.TupleCall
import OpenK.KCls
import PyProof.ExcClass2
import PyProof.ExcBaseAll.ValueError
import PyProof.ExcArgs
import PyProof.Rows.Exc
import KE.KIsAll
import PyProof.StationsW
import PyProof.EnumFor
import PyProof.EnumStmt
import PyProof.EnumMake
import PyProof.NeKinds
import PyProof.Rows.SumAny
import KE.KDictSum
import PyProof.Rows.SortWalk
import PyProof.Rows.Range3
import PyProof.Rows.SetFrom
import KE.KEqDict
import PyProof.Rows.DictUnroll
import KE.KRevSl
import PyProof.AutoListH
import PyProof.AttrMiss
import KE.KRevIter
import PyProof.SeqI3
import Wide.Seal
import PyProof.ListRange
import PySem.Challenge.RW_stillheap_k13_whole_never_lost
set_option Elab.async false
set_option linter.all false
set_option maxRecDepth 100000
set_option maxHeartbeats 4000000
set_option exponentiation.threshold 4000
section
open PySem PySem.W PySem.Spec PyProof.Rows
noncomputable def aiI:=@List.length_map
noncomputable def aiJ:=@List.mem_singleton
noncomputable def aiK:=@List.getElem?_eq_getElem
noncomputable def aiL:=@Heap.get?_push_of_some
noncomputable def aiM:=@List.getElem?_eq_some_iff
noncomputable def aiN:=@Nat.le_refl
noncomputable def aiO:=@Bool.false_ne_true
noncomputable def aiP:=@List.mem_append_right
noncomputable def aiQ:=@List.size_toArray
noncomputable def aiR:=@List.length_append
noncomputable def aiS:=@List.mem_append
noncomputable def aiT:=@Heap.lt_size
noncomputable def aiU:=@List.mem_of_getElem?
noncomputable def aiV:=@List.length_take
noncomputable def aiW:=@List.getElem?_map
noncomputable def aiX:=@Array.length_toList
noncomputable def aiY:=@List.mem_cons
noncomputable def aiZ:=@Option.map_eq_some_iff
noncomputable def ai0:=@Nat.lt_of_lt_of_le
noncomputable def ai1:=@List.mem_cons_self
noncomputable def ai2:=@List.take_of_length_le
noncomputable def ai3:=@List.map_append
noncomputable def ai4:=@List.mem_cons_of_mem
noncomputable def ai5:=@Nat.le_trans
noncomputable def ai6:=@Nat.ne_of_lt
noncomputable def ai7:=@Ne.symm
noncomputable def ai8:=@List.take_succ_eq_append_getElem
noncomputable def ai9:=@Bool.false_eq_true
noncomputable def aja:=@Option.some.inj
noncomputable def ajb:=@List.mem_append_left
noncomputable def ajc:=@List.take_append_drop
noncomputable def ajd:=@List.append_assoc
noncomputable def aje:=@List.mem_map
noncomputable def ajf:=@Bool.eq_false_iff
noncomputable def ajg:=@List.pairwise_append
noncomputable def ajh:=@Heap.get?_push_size
noncomputable def aji:=@List.map_cons
noncomputable def ajj:=@Int.le_refl
noncomputable def ajk:=@Nat.zero_le
noncomputable def ajl:=@List.length_singleton
noncomputable def ajm:=@Array.getElem?_eq_some_iff
noncomputable def ajn:=@List.lookup_cons
noncomputable def ajo:=@PassesOwn.never
noncomputable def ajp:=@Array.toList_append
noncomputable def ajq:=@Array.getElem?_eq_getElem
noncomputable def ajr:=@List.length_drop
noncomputable def ajs:=@List.mem_filter
noncomputable def ajt:=@List.length_cons
noncomputable def aju:=@List.map_map
noncomputable def ajv:=@Heap.get?_update_other
noncomputable def ajw:=@List.perm_append_comm
noncomputable def ajx:=@List.getElem?_append_right
noncomputable def ajy:=@PySem.mem_of_lookup
noncomputable def ajz:=@Array.getElem?_toList
noncomputable def ajA:=@List.length_filter_le
noncomputable def ajB:=@Nat.lt_or_ge
noncomputable def ajC:=@List.eq_of_mem_replicate
noncomputable def ajD:=@List.mem_filterMap
noncomputable def ajE:=@Int.emod_nonneg
noncomputable def ajF:=@Int.emod_lt_of_pos
noncomputable def ajG:=@List.replicate_succ
noncomputable def ajH:=@List.map_congr_left
noncomputable def ajI:=@List.filter_sublist
noncomputable def ajJ:=@List.drop_eq_getElem_cons
noncomputable def ajK:=@List.length_set
noncomputable def ajL:=@Int.le_of_lt
noncomputable def ajM:=@Nat.lt_of_le_of_lt
noncomputable def ajN:=@Nat.lt_irrefl
noncomputable def ajO:=@List.take_sublist
noncomputable def ajP:=@List.filter_congr
noncomputable def ajQ:=@List.nodup_append
noncomputable def ajR:=@List.getElem_mem
noncomputable def ajS:=@List.Pairwise.sublist
noncomputable def ajT:=@List.filter_append
noncomputable def ajU:=@List.getElem?_append_left
noncomputable def ajV:=@List.pairwise_iff_getElem
noncomputable def ajW:=@Classical.byContradiction
noncomputable def ajX:=@List.mem_of_mem_take
noncomputable def ajY:=@List.mem_of_mem_drop
noncomputable def ajZ:=@List.nodup_cons
noncomputable def aj0:=@Option.isSome_map
noncomputable def aj1:=@List.drop_sublist
noncomputable def aj2:=@Option.bind_some
noncomputable def aj3:=@List.not_mem_nil
noncomputable def aj4:=@List.take_zero
noncomputable def aj5:=@Calls.callWith_builtin
noncomputable def aj6:=@List.drop_of_length_le
noncomputable def aj7:=@List.pairwise_cons
noncomputable def aj8:=@List.find?_cons
noncomputable def aj9:=@List.flatten_cons
noncomputable def aka:=@Array.perm_iff_toList_perm
noncomputable def akb:=@Array.toList_extract
noncomputable def akc:=@Heap.size_push
noncomputable def akd:=@Bool.and_false
noncomputable def ake:=@Calls.call_function_entry
noncomputable def akf:=@Bool.and_eq_true
noncomputable def akg:=@Nat.le_succ
noncomputable def akh:=@Nat.ne_of_gt
noncomputable def aki:=@List.getElem?_take_of_lt
noncomputable def akj:=@List.append_nil
noncomputable def akk:=@List.any_cons
noncomputable def akl:=@List.pairwise_singleton
noncomputable def akm:=@Nat.lt_succ_of_lt
noncomputable def akn:=@Nat.le_of_lt
noncomputable def ako:=@List.map_nil
noncomputable def akp:=@Int.le_trans
noncomputable def akq:=@List.getElem?_set_ne
noncomputable def akr:=@Calls.evalArgs_plain
noncomputable def aks:=@Array.toList_reverse
noncomputable def akt:=@Bool.eq_iff_iff
noncomputable def aku:=@List.of_mem_zip
noncomputable def akv:=@Option.map_some
noncomputable def akw:=@Array.Perm.refl
noncomputable def akx:=@List.getElem_of_mem
noncomputable def aky:=@Calls.Name_function_global
noncomputable def akz:=@Array.toList_setIfInBounds
noncomputable def akA:=@Calls.spliced_cons
noncomputable def akB:=@List.mem_range
noncomputable def akC:=@Array.size_map
noncomputable def akD:=@Calls.spliced_nil
noncomputable def akE:=@Array.toList_push
noncomputable def akF:=@Paired.length
noncomputable def akG:=@Nat.lt_succ_self
noncomputable def akH:=@List.Sublist.map
noncomputable def akI:=@Nat.not_lt_zero
noncomputable def akJ:=@List.filter_map
noncomputable def akK:=@Int.not_lt
end
section
namespace L2
open PySem PySem.Spec PyProof.Rows
noncomputable abbrev Key:=Sum Int Str
noncomputable def sJ:Key→Value→Bool
  | .inl k,v=>Value.isInt k v
  | .inr x,v=>Value.isStrOf x v
noncomputable def ZL(w:World):Key→Int
  | .inl k=>hashInt k
  | .inr x=>hashStr w x
theorem cf:∀ {k:Key} {v:Value},sJ k v=true→(∃ i t,k=Sum.inl i∧v=Value.int i t)∨(∃ x t,k=Sum.inr x∧v=Value.str x t)
  | .inl i,v,h=>by
    obtain⟨t,e⟩:=Value.isInt_shape (k:=i) (v:=v) h;exact .inl ⟨i,t,rfl,e⟩
  | .inr x,v,h=>by
    obtain⟨t,e⟩:=Value.isStrOf_shape (x:=x) (v:=v) h;exact .inr ⟨x,t,rfl,e⟩
theorem Qh(i:Int)(t:Tok):sJ (.inl i) (.int i t)=true:=by simp[sJ,Value.isInt]
theorem Qi(x:Str)(t:Tok):sJ (.inr x) (.str x t)=true:=by simp[sJ,Value.isStrOf]
theorem VV(a b:Int):decide ((Sum.inl a:Key)=Sum.inl b)=(a == b):=by
  by_cases e:a=b
  · subst e;simp
  · have h:¬(Sum.inl a:Key)=Sum.inl b:=λq=>e (Sum.inl.inj q)
    rw[decide_eq_false h];exact(beq_eq_false_iff_ne.mpr e).symm
theorem VW(a b:Str):decide ((Sum.inr a:Key)=Sum.inr b)=decide (a=b):=by
  by_cases e:a=b
  · subst e;simp
  · have h:¬(Sum.inr a:Key)=Sum.inr b:=λq=>e (Sum.inr.inj q)
    rw[decide_eq_false h,decide_eq_false e]
theorem VX(a:Int)(b:Str):decide ((Sum.inl a:Key)=Sum.inr b)=false:=decide_eq_false (λq=>nomatch q)
theorem VY(a:Str)(b:Int):decide ((Sum.inr a:Key)=Sum.inl b)=false:=decide_eq_false (λq=>nomatch q)
noncomputable def cL(prog:Program)(w:World):PySem.KeyKind prog w Key where
  is:=sJ
  hash:=ZL w
  inj:=λv a b ha hb=>by
    rcases cf ha with⟨i,t,rfl,rfl⟩|⟨x,t,rfl,rfl⟩
    · rcases cf hb with⟨j,u,rfl,e⟩|⟨y,u,rfl,e⟩
      · injection e with e1 _;rw[e1]
      · exact nomatch e
    · rcases cf hb with⟨j,u,rfl,e⟩|⟨y,u,rfl,e⟩
      · exact nomatch e
      · injection e with e1 _;rw[e1]
  byValue:=λk v h=>by
    rcases cf h with⟨i,t,rfl,rfl⟩|⟨x,t,rfl,rfl⟩<;>rfl
  pyHash:=λhv h=>by
    rcases cf hv with⟨i,t,rfl,rfl⟩|⟨x,t,rfl,rfl⟩
    · exact wpAny_pyHash_int h
    · exact wpAny_pyHash_str h
  eqBool:=λhu hv h=>by
    rcases cf hu with⟨i,t,rfl,rfl⟩|⟨x,t,rfl,rfl⟩
    · rcases cf hv with⟨j,u,rfl,rfl⟩|⟨y,u,rfl,rfl⟩
      · rw[VV]at h;exact wpAny_eqBool_int h
      · rw[VX]at h;exact SeqAt.EqAt.int_str i t y u _ _ _ _ h
    · rcases cf hv with⟨j,u,rfl,rfl⟩|⟨y,u,rfl,rfl⟩
      · rw[VY]at h;exact SeqAt.EqAt.str_int x t j u _ _ _ _ h
      · rw[VW]at h;exact wpAny_eqBool_str h
  «strs» := λk x t v h=>by
    rcases cf h with⟨i,u,rfl,e⟩|⟨y,u,rfl,e⟩
    · exact nomatch e
    · injection e with e1 _
      subst e1;cases v<;>rfl
theorem La(prog:Program)(w:World)(i:Int)(t:Tok):(cL prog w).is (.inl i) (.int i t)=true:=Qh i t
theorem Lb(prog:Program)(w:World)(x:Str)(t:Tok):(cL prog w).is (.inr x) (.str x t)=true:=Qi x t
end L2
namespace L2
open PySem PySem.Spec PyProof.Rows
inductive V where
  | non|bl (b:Bool)|int (i:Int)|str (x:Str)|byt (b:Array UInt8)|flt (b:UInt64)|ref (a:Addr)|ty (n:String)
  deriving DecidableEq
noncomputable def RelV:V→Value→Prop
  | .non,u=>u=Value.none
  | .bl b,u=>u=Value.bool b
  | .int i,u=>∃ t,u=Value.int i t
  | .str x,u=>∃ t,u=Value.str x t
  | .byt b,u=>∃ t,u=Value.bytes b t
  | .flt b,u=>∃ t,u=Value.float b t
  | .ref a,u=>u=Value.ref a
  | .ty n,u=>u=Value.type n
noncomputable abbrev Vals:List V→List Value→Prop:=Paired RelV
theorem Vals.length{xs:List V}{us:List Value}(r:Vals xs us):xs.length=us.length:=akF r
theorem Vals.get:∀ {xs:List V} {us:List Value} {i:Nat} {x:V},Vals xs us→xs[i]?=some x→∃ u,us[i]?=some u∧RelV x u
  | _,_,_,_,.nil,e=>by simp at e
  | _,_,0,_,.cons r _,e=>by simp at e;subst e;exact⟨_,rfl,r⟩
  | _,_,i+1,x,.cons _ t,e=>by
    obtain⟨u,h1,h2⟩:=Vals.get (i:=i) (x:=x) t (by simpa using e);exact⟨u,by simpa using h1,h2⟩
theorem Vals.set{x:V}{u:Value}(r:RelV x u):∀ {xs:List V} {us:List Value} (i:Nat),Vals xs us→Vals (xs.set i x) (us.set i u)
  | _,_,_,.nil=>.nil
  | _,_,0,.cons _ t=>.cons r t
  | _,_,i+1,.cons q t=>.cons q (Vals.set r i t)
theorem Vals.append:∀ {xs ys:List V} {us ws:List Value},Vals xs us→Vals ys ws→Vals (xs++ys) (us++ws)
  | _,_,_,_,.nil,s=>s
  | _,_,_,_,.cons r t,s=>.cons r (Vals.append t s)
theorem Vals.take:∀ {xs:List V} {us:List Value} (n:Nat),Vals xs us→Vals (xs.take n) (us.take n)
  | _,_,0,_=>.nil
  | _,_,_+1,.nil=>.nil
  | _,_,n+1,.cons r t=>.cons r (Vals.take n t)
theorem Vals.drop:∀ {xs:List V} {us:List Value} (n:Nat),Vals xs us→Vals (xs.drop n) (us.drop n)
  | _,_,0,r=>r
  | _,_,_+1,.nil=>.nil
  | _,_,n+1,.cons _ t=>Vals.drop n t
noncomputable def zh:Option V→Option Value→Prop
  | some v,some u=>RelV v u
  | none,none=>True
  | _,_=>False
noncomputable def KV{κ:Type}:List (κ×V)→List (κ×Value)→Prop:=Paired λ(p:κ×V) (q:κ×Value)=>p.1=q.1∧RelV p.2 q.2
noncomputable def kV:Key→V
  | .inl i=>.int i
  | .inr x=>.str x
inductive HO where
  | lst (xs:List V)
  | tup (xs:List V)
  | dK (kvs:List (Key×V))|dT (kvs:List (List Key×V))
  | set (S:Int→Bool) (n:Nat)
  | ins (C dx:Addr) (fs:List (Str×V))
  | own (x:Addr)
  | xd (fs:List (Str×V))
  | met (f x:Addr)
  | rng (lo hi:Int)
  | frz (o:Obj) (u:HO)
  | tbl (ps:Array Value)
  | ext (φ:Heap→Prop)
noncomputable abbrev Hp:=Addr→Option HO
noncomputable def upd(H:Hp)(a:Addr)(o:HO):Hp:=λb=>if b=a then some o else H b
theorem ah{H:Hp}{a:Addr}{o:HO}:upd H a o a=some o:=by unfold upd;rw[if_pos rfl]
theorem ag{H:Hp}{a b:Addr}{o:HO}(h:b≠a):upd H a o b=H b:=by unfold upd;rw[if_neg h]
theorem ay{H:Hp}{a b:Addr}{o u:HO}(h:H a=some o)(h':H b=some u)(d:o≠u):a≠b:=by
  intro e;subst e;rw[h]at h';exact d (aja h')
theorem au{H:Hp}{a b:Addr}{o:HO}(h:H a=some o)(h':H b=none):a≠b:=by
  intro e;subst e;rw[h]at h';cases h'
section
variable(P:Program)(w:World)
noncomputable def fg(H:Hp)(h:Heap)(a:Addr):HO→Prop
  | .lst xs=>xs.length≤sizeLine∧∃(its:List Value) (n:Nat),Vals xs its∧h.get? a=some {cls:=.type "list",data:=.seq its.toArray n}
  | .tup xs=>xs.length≤sizeLine∧∃ its:List Value,Vals xs its∧IsTup h a its.toArray
  | .dK kvs=>kvs.length≤sizeLine∧(a == sysModules)=false∧∃ vs,KV kvs vs∧h.DictOf (cL P w) a vs
  | .dT kvs=>kvs.length≤sizeLine∧(a == sysModules)=false∧∃ xs:List (List Key×Addr×Value),
      Paired (λ(p:List Key×V) (q:List Key×Addr×Value)=>p.1=q.1∧H q.2.1=some (.tup (p.1.map kV))∧RelV p.2 q.2.2) kvs xs ∧
      ∃ o es ep,h.get? a=some o∧o.ExactDict∧o.data=.dict es ep∧es.toList=xs.map (entryOfKey (tupleKind (cL P w)))∧(xs.map (·.1)).Nodup
  | .set S n=>h.SetOf (intKind P w) a S n
  | .ins C dx fs=>H dx=some (.own a)∧fs.length≤1000∧dx≠a∧h.get? a=some (PySem.W.instObj C dx) ∧
      ∃ mA,h.Ns1 dx mA∧(∀ f,zh (fs.lookup f) (mA f))∧PySem.Within mA (fs.map (·.1))
  | .own _=>∃ o,h.get? a=some o
  | .xd fs=>∃ mA,h.Ns1 a mA∧∀ f,zh (fs.lookup f) (mA f)
  | .rng lo hi=>∃ t u v,h.get? a=some {cls:=.type "range",data:=.fields #[.int lo t,.int hi u,.int 1 v]}
  | .frz o u=>h.get? a=some o∧fg H h a u
  | .tbl ps=>h.get? a=some {cls:=.none,data:=.fields ps}
  | .met f x=>h.get? a=some (PySem.W.methodObj (.ref f) (.ref x))
  | .ext φ=>φ h∧(∃ o,h.get? a=some o)∧∀ h1 h2:Heap,φ h1→(∀ o,h1.get? a=some o→h2.get? a=some o)→φ h2
noncomputable def HOk(H:Hp)(h:Heap):Prop:=∀ a o,H a=some o→fg P w H h a o
end
section
variable{P:Program}{w:World}{H H':Hp}{h h':Heap}{a:Addr}{o:HO}
theorem fg.lt(x:fg P w H h a o):a<h.objs.size:=by
  cases o with
  | lst xs=>obtain⟨_,_,_,_,e⟩:=x;exact aiT e
  | tup xs=>obtain⟨_,_,_,p⟩:=x;exact p.lt
  | dK kvs=>obtain⟨_,_,_,_,o,_,_,e,_⟩:=x;exact aiT e
  | dT kvs=>obtain⟨_,_,_,_,o,_,_,e,_⟩:=x;exact aiT e
  | set S n=>obtain⟨o,_,_,_,e,_⟩:=x;exact aiT e
  | ins C dx fs=>obtain⟨_,_,_,e,_⟩:=x;exact aiT e
  | own y=>obtain⟨_,e⟩:=x;exact aiT e
  | xd fs=>obtain⟨_,⟨_,_,_,e,_⟩,_⟩:=x;exact aiT e
  | rng lo hi=>obtain⟨_,_,_,e⟩:=x;exact aiT e
  | frz ob u=>obtain⟨e,_⟩:=x;exact aiT e
  | tbl ps=>exact aiT (show h.get? a=some _ from x)
  | met f y=>exact aiT (show h.get? a=some _ from x)
  | ext φ=>obtain⟨_,⟨_,e⟩,_⟩:=x;exact aiT e
theorem Paired.WY{α β:Type}{F G:α→β→Prop}:∀ {l₁:List α} {l₂:List β},Paired F l₁ l₂→(∀ a b,F a b→G a b)→Paired G l₁ l₂
  | _,_,.nil,_=>.nil
  | _,_,.cons r t,f=>.cons (f _ _ r) (Paired.WY t f)
theorem fg.Kx(x:fg P w H h a o)(k:∀ b u,(b=a∨H b=some (.own a))→h.get? b=some u→h'.get? b=some u)
    (ho:∀ b,H b=some (.own a)→H' b=some (.own a)) (ht:∀ b xs,H b=some (.tup xs)→H' b=some (.tup xs)):fg P w H' h' a o:=by
  induction o with
  | lst xs=>obtain⟨z,its,n,r,e⟩:=x;exact⟨z,its,n,r,k _ _ (.inl rfl) e⟩
  | tup xs=>obtain⟨z,its,r,ob,e,c⟩:=x;exact⟨z,its,r,ob,k _ _ (.inl rfl) e,c⟩
  | dK kvs=>obtain⟨z,y,vs,r,ob,es,ep,e,c⟩:=x;exact⟨z,y,vs,r,ob,es,ep,k _ _ (.inl rfl) e,c⟩
  | dT kvs =>
    obtain⟨z,y,xs,r,ob,es,ep,e,c⟩:=x;exact⟨z,y,xs,Paired.WY r λp q z=>⟨z.1,ht _ _ z.2.1,z.2.2⟩,ob,es,ep,k _ _ (.inl rfl) e,c⟩
  | set S n=>obtain⟨ob,es,ep,t,e,c⟩:=x;exact⟨ob,es,ep,t,k _ _ (.inl rfl) e,c⟩
  | ins C dx fs =>
    obtain⟨d,z,ne,e,mA,⟨od,es,ep,e2,c⟩,r⟩:=x;exact⟨ho _ d,z,ne,k _ _ (.inl rfl) e,mA,⟨od,es,ep,k _ _ (.inr d) e2,c⟩,r⟩
  | own y=>obtain⟨ob,e⟩:=x;exact⟨ob,k _ _ (.inl rfl) e⟩
  | xd fs=>obtain⟨mA,⟨od,es,ep,e,c⟩,r⟩:=x;exact⟨mA,⟨od,es,ep,k _ _ (.inl rfl) e,c⟩,r⟩
  | rng lo hi=>obtain⟨t,u,v,e⟩:=x;exact⟨t,u,v,k _ _ (.inl rfl) e⟩
  | frz ob u ih=>obtain⟨e,q⟩:=x;exact⟨k _ _ (.inl rfl) e,ih q⟩
  | tbl ps =>
    have e:h.get? a=some {cls:=.none,data:=.fields ps}:=x;show h'.get? a=some {cls:=.none,data:=.fields ps};exact k a _ (.inl rfl) e
  | met f y =>
    have e:h.get? a=some (PySem.W.methodObj (.ref f) (.ref y)):=x;show h'.get? a=some (PySem.W.methodObj (.ref f) (.ref y));exact k a _ (.inl rfl) e
  | ext φ=>obtain⟨p,⟨o,e⟩,st⟩:=x;exact⟨st _ _ p λo q=>k _ _ (.inl rfl) q,⟨o,k _ _ (.inl rfl) e⟩,st⟩
theorem HOk.lt(x:HOk P w H h)(e:H a=some o):a<h.objs.size:=(x a o e).lt
theorem HOk.fresh(x:HOk P w H h)(e:h.objs.size≤a):H a=none:=by
  cases q:H a with
  | none=>rfl
  | some u=>exact absurd (ai0 (x.lt q) e) (ajN _)
theorem HOk.kept(x:HOk P w H h)(k:∀ b u,h.get? b=some u→h'.get? b=some u):HOk P w H h':=λa o e =>
  (x a o e).Kx (λb u _ q=>k b u q) (λ_ q=>q) λ_ _ q=>q
theorem HOk.laid(x:HOk P w H h)(k:∀ b u,h.get? b=some u→h'.get? b=some u)(hp:h.objs.size≤a)(new:fg P w (upd H a o) h' a o):HOk P w (upd H a o) h':=λb u e=>by
  have hn:=x.fresh hp;by_cases hb:b=a
  · subst hb;rw[ah]at e;cases e;exact new
  · rw[ag hb]at e
    exact(x b u e).Kx (λc v _ q=>k c v q) (λc q=>by rw[ag (au q hn)];exact q) λc xs q=>by rw[ag (au q hn)];exact q
end
noncomputable def Rd(H:Hp)(a:Addr)(u:HO):Prop:=H a=some u∨∃ o,H a=some (.frz o u)
theorem Rd.ok{P:Program}{w:World}{H:Hp}{h:Heap}{a:Addr}{u:HO}(r:Rd H a u)(x:HOk P w H h):fg P w H h a u:=by
  rcases r with r|⟨o,r⟩
  · exact x a u r
  · obtain⟨_,q⟩:=x a _ r
    exact q
noncomputable def Mut:Option HO→Prop
  | some (.lst _)=>True
  | some (.dK _)=>True
  | some (.dT _)=>True
  | some (.set _ _)=>True
  | some (.ins _ _ _)=>True
  | some (.ext _)=>True
  | _=>False
section
variable{P:Program}{w:World}{H:Hp}{h h':Heap}{x e:Addr}{o':HO}
theorem HOk.write(ok:HOk P w H h)(mu:Mut (H x))(he:e=x∨H e=some (.own x))(k:∀ b u,b≠e→h.get? b=some u→h'.get? b=some u)(heo:∃ u,h'.get? e=some u)
    (new:fg P w (upd H x o') h' x o'):HOk P w (upd H x o') h':=λb u q=>by
  have ZM:∀ c y,H c=some (.own y)→c≠x:=λc y r z=>by subst z;rw[r]at mu;exact mu
  have ae1:∀ c xs,H c=some (.tup xs)→c≠x:=λc xs r z=>by subst z;rw[r]at mu;exact mu
  by_cases hb:b=x
  · subst hb;rw[ah]at q;cases q;exact new
  · rw[ag hb]at q
    by_cases hbe:b=e
    · have q':H b=some (.own x):=by
        rcases he with z|z
        · exact absurd (hbe.trans z) hb
        · rw[hbe];exact z
      rw[q]at q';cases q';obtain⟨v,hv⟩:=heo;exact⟨v,by rw[hbe];exact hv⟩
    · refine(ok b u q).Kx (λc v hc r=>k c v ?_ r) (λc r=>by rw[ag (ZM c b r)];exact r) λc xs r=>by rw[ag (ae1 c xs r)];exact r
      rcases hc with rfl|hc
      · exact hbe
      · rintro rfl
        rcases he with z|z
        · exact ZM c b hc z
        · rw[hc]at z;cases z;exact hb rfl
end
structure Un(fs ex:List Addr)(H H':Hp)(h h':Heap):Prop where
  keep:∀ b o,h.get? b=some o→H b=none→b∉fs→b∉ex→h'.get? b=some o
  slot:∀ b o,h.get? b=some o→H b=none→b∈fs→b∉ex→∃ sl,h'.get? b=some {o with slots:=sl}
  free:∀ b o,h.get? b=some o→H b=none→b∉ex→H' b=none
  there:∀ b o,h.get? b=some o→b∉ex→∃ o',h'.get? b=some o'
  Gr:∀ b xs,H b=some (.tup xs)→H' b=some (.tup xs)
  Fu:∀ b o u,H b=some (.frz o u)→H' b=some (.frz o u)
  Gu:∀ b ps,H b=some (.tbl ps)→∃ more,H' b=some (.tbl (ps++more))
section
variable{fs fs' ex ex':List Addr}{H H1 H2:Hp}{h h1 h2 h':Heap}{a x e:Addr}{o:HO}
theorem Un.any(u:Un fs ex H H1 h h1){b:Addr}{ob:Obj}(q:h.get? b=some ob)(n:H b=none)(hx:b∉ex):∃ sl,h1.get? b=some {ob with slots:=sl}:=by
  by_cases hb:b∈fs
  · exact u.slot b ob q n hb hx
  · exact⟨ob.slots,u.keep b ob q n hb hx⟩
theorem Un.kept(k:∀ b u,h.get? b=some u→h'.get? b=some u):Un fs ex H H h h' :=
  ⟨λb ob q _ _ _=>k b ob q,λb ob q _ _ _=>⟨ob.slots,k b ob q⟩,λ_ _ _ n _=>n,λb ob q _=>⟨ob,k b ob q⟩,λ_ _ q=>q,λ_ _ _ q=>q,λ_ ps q=>⟨#[],by rw[q];simp⟩⟩
theorem Un.refl:Un fs ex H H h h:=Un.kept λ_ _ q=>q
theorem Un.laid(k:∀ b u,h.get? b=some u→h'.get? b=some u)(hp:h.objs.size≤a)(hn:H a=none):Un fs ex H (upd H a o) h h' where
  keep:=λb u q _ _ _=>k b u q
  slot:=λb u q _ _ _=>⟨u.slots,k b u q⟩
  free:=λb u q n _=>by rw[ag (ai6 (ai0 (aiT q) hp))];exact n
  there:=λb u q _=>⟨u,k b u q⟩
  Gr:=λb xs q=>by rw[ag (au q hn)];exact q
  Fu:=λb u xs q=>by rw[ag (au q hn)];exact q
  Gu:=λb ps q=>⟨#[],by rw[ag (au q hn),q];simp⟩
theorem Un.write(mu:Mut (H x))(he:e=x∨H e=some (.own x))(k:∀ b u,b≠e→h.get? b=some u→h'.get? b=some u)(heo:∃ u,h'.get? e=some u):Un fs ex H (upd H x o) h h':=by
  have hx:∀ b,H b=none→b≠x:=λb n z=>by subst z;rw[n]at mu;exact mu
  have hb:∀ b,H b=none→b≠e:=λb n z=>by
    subst z;rcases he with r|r
    · exact hx b n r
    · rw[n]at r;cases r
  have hm:∀ b u,H b=some u→¬Mut (some u)→b≠x:=λb u q nm z=>by subst z;rw[q]at mu;exact nm mu
  refine⟨λb u q n _ _=>k b u (hb b n) q,λb u q n _ _=>⟨u.slots,k b u (hb b n) q⟩,λb u q n _=>by rw[ag (hx b n)];exact n,λb u q _=>?_,
    λb xs q=>by rw[ag (hm b _ q λz=>z)];exact q,λb u xs q=>by rw[ag (hm b _ q λz=>z)];exact q,λb ps q=>⟨#[],by rw[ag (hm b _ q λz=>z),q];simp⟩⟩
  by_cases hbe:b=e
  · subst hbe;exact heo
  · exact⟨u,k b u hbe q⟩
end
noncomputable def trk(h:Heap)(H:Hp):List Addr:=(List.range h.objs.size).filter λa=>(H a).isSome
noncomputable def M7(h:Heap)(H:Hp):Heap:=PySem.W.hideAll h (trk h H)
theorem Qj(h:Heap)(H:Hp):(M7 h H).objs.size=h.objs.size:=PySem.W.hideAll_size _ _
theorem RA{h:Heap}{H:Hp}{b:Addr}{o:Obj}(e:h.get? b=some o)(n:H b=none):(M7 h H).get? b=some o :=
  PySem.W.hideAll_get _ e λhm=>by
    have q:(H b).isSome=true:=(ajs.mp hm).2;rw[n]at q;simp at q
theorem TZ{h:Heap}{H:Hp}{b:Addr}{o:Obj}(e:(M7 h H).get? b=some o):h.get? b=some o∧H b=none:=by
  have e':h.get? b=some o:=PySem.W.of_hideAll (trk h H) e;refine⟨e',?_⟩;cases q:H b with
  | none=>rfl
  | some x =>
    have hm:b∈trk h H:=ajs.mpr ⟨akB.mpr (aiT e'),by simp[q]⟩;have z:(M7 h H).get? b=none:=PySem.W.hideAll_none (trk h H) hm;rw[z]at e;cases e
end L2
namespace L2
open PySem PySem.Spec PyProof.Rows
structure Mod(K:W.Frag)(mg:Str→Option Value)(base:Heap):Prop where
  kin:K.In base
  glob:base.Ns mainGlobals mg
  blt:∃ mb,base.Ns builtinsNs mb∧∀ x:Str,x ≠ "__name__" → mb x=bootBuiltins x
  nolimit:base.NoLimit
structure Cx where
  prog:Program
  w:World
  K:W.Frag
  mg:Str→Option Value
  base:Heap
  A:Around
  N:List Str
  s₀:Shared
  H₀:Hp
  env:Env
  outer:List Env
  stack:List Env
  ex:List Addr
  fn:Str→Bool
  calm:Bool
  pn:List (Addr×Obj)
  xe:Value→Shared→Prop
noncomputable def frs(l:List Env):List Addr:=l.filterMap (·.frame)
noncomputable abbrev Cx.fs(X:Cx):List Addr:=frs X.outer
noncomputable def Vis(sc:Scope)(x:Str):Prop:=sc.names.lookup x=some .local∨sc.names.lookup x=some .cell∨sc.names.lookup x=some .free
noncomputable def Loc(sc:Scope)(x:Str):Prop:=sc.names.lookup x=some .local∨sc.names.lookup x=some .cell
noncomputable def Look(env:Env)(h:Heap)(m:Str→Option Value)(x:Str)(u:Value):Prop :=
  (env.kindOf x=some .local∧m x=some u)∨((env.kindOf x=some .cell∨env.kindOf x=some .free)∧∃ c,env.cells.lookup x=some c∧h.IsCell c (some u))
structure Cx.Ok(X:Cx):Prop where
  mod:Mod X.K X.mg X.base
  kind:X.env.scope.kind=.function
  glob:X.env.globals=mainGlobals
  blt:X.env.builtins=builtinsNs
  above:X.s₀.heap.objs.size≤X.env.locals
  inj:∀ x y c,X.env.cells.lookup x=some c→X.env.cells.lookup y=some c→x=y
  has:∀ x,(X.env.kindOf x=some .cell∨X.env.kindOf x=some .free)→∃ c,X.env.cells.lookup x=some c
  cab:∀ x c,X.fn x=true→X.env.cells.lookup x=some c→X.s₀.heap.objs.size≤c
  hd:X.calm=true→X.A.handled=none
  frames:X.A.frames=some X.stack
  stk:X.stack=X.outer∨(X.stack=X.env::X.outer∧X.env.frame=some X.env.locals)
  exf:∀ b∈X.ex,b≠X.env.locals∧∀ x c,X.env.cells.lookup x=some c→c≠b
  bs:∀ b o,X.base.get? b=some o→X.s₀.heap.get? b=some o∧X.H₀ b=none
  bsz:X.base.objs.size≤X.s₀.heap.objs.size
  M8:∀ b o,X.base.get? b=some o→b∉X.ex
  OS:∀ b∈X.ex,b∉X.fs
  Ce:X.s₀.heap.FunFrames X.base X.outer
  frf:∀ b∈X.fs,X.H₀ b=none
structure Inv(X:Cx)(pins:List (Addr×Obj))(σ:List (Option V))(H:Hp)(s:Shared):Prop where
  ok:X.Ok
  os:s.os=X.s₀.os
  bare:AllBare s.gens
  base:Un X.fs X.ex X.H₀ H X.s₀.heap s.heap
  loc:∃ m,s.heap.Ns X.env.locals m∧∀(i:Nat) (x:Str) (v:V),X.N[i]?=some x→σ[i]?=some (some v)→Vis X.env.scope x→∃ u,RelV v u∧Look X.env s.heap m x u
  cell:∀ x c,X.env.cells.lookup x=some c→∃ v,s.heap.IsCell c v
  free:H X.env.locals=none
  m7:∀ x c,X.env.cells.lookup x=some c→H c=none
  pin:∀ p∈X.pn++pins,s.heap.get? p.1=some p.2∧H p.1=none∧p.1≠X.env.locals∧p.1∉X.fs∧∀ v,p.2.data≠.cell v
  hok:HOk X.prog X.w H s.heap
  len:σ.length=X.N.length
section
variable{X:Cx}{pins:List (Addr×Obj)}{σ:List (Option V)}{H H':Hp}{s:Shared}{h':Heap}
theorem Cx.Ok.ae2(ok:X.Ok){b:Addr}{o:Obj}(e:X.base.get? b=some o):b∉X.fs:=λhb=>by
  have:=(ok.Ce.mem hb).1
  rw[e]at this;cases this
theorem Inv.bs(I:Inv X pins σ H s):∀ b o,X.base.get? b=some o→s.heap.get? b=some o∧H b=none:=λb o e =>
  ⟨I.base.keep b o (I.ok.bs b o e).1 (I.ok.bs b o e).2 (I.ok.ae2 e) (I.ok.M8 b o e),I.base.free b o (I.ok.bs b o e).1 (I.ok.bs b o e).2 (I.ok.M8 b o e)⟩
theorem Inv.bk(I:Inv X pins σ H s):∀ b o,X.base.get? b=some o→s.heap.get? b=some o:=λb o e=>(I.bs b o e).1
theorem Inv.mod(I:Inv X pins σ H s):Mod X.K X.mg X.base:=I.ok.mod
theorem Inv.kIn(I:Inv X pins σ H s):X.K.In s.heap:=I.ok.mod.kin.keeps I.bk
theorem Inv.lt(I:Inv X pins σ H s):X.env.locals<s.heap.objs.size:=let ⟨_,hn,_⟩:=I.loc;hn.lt
theorem Inv.sz(I:Inv X pins σ H s):X.s₀.heap.objs.size≤s.heap.objs.size:=ai5 I.ok.above (akn I.lt)
theorem Inv.ae3(I:Inv X pins σ H s){a:Addr}(h:s.heap.objs.size≤a):a∉X.fs:=λhb=>by
  obtain⟨_,o,ho,_⟩:=I.ok.Ce.mem hb;exact absurd (ai0 (aiT ho) (ai5 I.sz h)) (ajN _)
theorem Inv.cne(I:Inv X pins σ H s):∀ x c,X.env.cells.lookup x=some c→c≠X.env.locals:=λx c e z=>by
  obtain⟨v,o,ho,hd⟩:=I.cell x c e;obtain⟨m,⟨o',es,ep,ho',hd',_⟩,_⟩:=I.loc;rw[z,ho']at ho;cases ho;rw[hd']at hd;cases hd
theorem Inv.Ce(I:Inv X pins σ H s):s.heap.FunFrames X.base X.outer:=by
  have all:∀(l:List Env),(∀ b∈frs l,b∈X.fs)→X.s₀.heap.FunFrames X.base l→s.heap.FunFrames X.base l:=by
    intro l;induction l with
    | nil=>intro _ _;trivial
    | cons env r ih =>
      intro hs hl;obtain⟨hk,⟨L,o,hf,hn,ho,hd⟩,hr⟩:=hl;have hL:L∈X.fs:=hs L (by unfold frs;rw[List.filterMap_cons,hf];exact ai1);obtain⟨sl,e⟩:=I.base.slot L o ho (I.ok.frf L hL) hL λz=>I.ok.OS L z hL;exact⟨hk,⟨L,_,hf,hn,e,hd⟩,ih (λb hb=>hs b (by unfold frs;rw[List.filterMap_cons,hf];exact ai4 _ hb)) hr⟩
  exact all X.outer (λ_ hb=>hb) I.ok.Ce
theorem Inv.stack(I:Inv X pins σ H s):s.heap.FunFrames X.base X.stack:=by
  rcases I.ok.stk with e|⟨e,hf⟩
  · rw[e];exact I.Ce
  · rw[e]
    obtain⟨m,hn,_⟩:=I.loc;refine .cons (by rw[I.ok.kind];decide) hf hn ?_ I.Ce;exact Heap.get?_none_of_le (ai5 I.ok.bsz I.ok.above)
theorem Inv.BN(I:Inv X pins σ H s):∀ b∈frs X.stack,b∈X.env.locals::X.fs:=λb hb=>by
  rcases I.ok.stk with e|⟨e,hf⟩
  · rw[e]at hb;exact ai4 _ hb
  · rw[e]at hb
    unfold frs at hb;rw[List.filterMap_cons,hf]at hb;exact hb
theorem Inv.Cf(I:Inv X pins σ H s):∀ b∈frs X.stack,H b=none:=λb hb=>by
  rcases aiY.mp (I.BN b hb) with e|hb
  · rw[e];exact I.free
  · obtain⟨_,o,ho,_⟩:=I.ok.Ce.mem hb
    exact I.base.free b o ho (I.ok.frf b hb) λz=>I.ok.OS b z hb
theorem Inv.step{g':Array GenState}{t':Nat}{d':Drawn}{ch:List Addr}(I:Inv X pins σ H s)
    (hch:∀ b∈ch,(b∈X.ex∨X.s₀.heap.objs.size≤b)∧b≠X.env.locals∧(∀ x c,X.env.cells.lookup x=some c→c≠b)∧∀ p∈X.pn++pins,p.1≠b)
    (keep:∀ b o,b≠X.env.locals→b∉X.fs→b∉ch→s.heap.get? b=some o→H b=none→h'.get? b=some o)
    (slot:∀ b o,b≠X.env.locals→b∈X.fs→b∉ch→s.heap.get? b=some o→H b=none→∃ sl,h'.get? b=some {o with slots:=sl}) (free:∀ b o,b∉ch→s.heap.get? b=some o→H b=none→H' b=none)
    (there:∀ b o,b∉ch→s.heap.get? b=some o→∃ o',h'.get? b=some o')
    (Gr:∀ b xs,H b=some (.tup xs)→H' b=some (.tup xs)) (Fu:∀ b o u,H b=some (.frz o u)→H' b=some (.frz o u)) (Gu:∀ b ps,H b=some (.tbl ps)→∃ more,H' b=some (.tbl (ps++more)))
    (ns:∀ m,s.heap.Ns X.env.locals m→h'.Ns X.env.locals m) (hok:HOk X.prog X.w H' h') (hg:AllBare g') :
    Inv X pins σ H' {s with heap:=h',gens:=g',drawn:=d',toks:=t'}:=by
  have neL:∀ b o,X.s₀.heap.get? b=some o→b≠X.env.locals:=λb o e=>ai6 (ai0 (aiT e) I.ok.above);have neC:∀ b o,X.s₀.heap.get? b=some o→b∉X.ex→b∉ch:=λb o e hx hb=>by
    rcases(hch b hb).1 with z|z
    · exact hx z
    · exact absurd (ai0 (aiT e) z) (ajN _)
  have cellK:∀ x c,X.env.cells.lookup x=some c→∀ v,s.heap.IsCell c v→h'.IsCell c v:=λx c e v ⟨o,ho,hd⟩=>by
    have nch:c∉ch:=λz=>(hch c z).2.2.1 x c e rfl;by_cases hc:c∈X.fs
    · obtain⟨sl,q⟩:=slot c o (I.cne x c e) hc nch ho (I.m7 x c e)
      exact⟨_,q,hd⟩
    · exact⟨o,keep c o (I.cne x c e) hc nch ho (I.m7 x c e),hd⟩
  refine⟨I.ok,I.os,hg,⟨λb o e n hb hx=>?_,λb o e n hb hx=>?_,λb o e n hx=>?_,λb o e hx=>?_,λb xs e=>Gr b xs (I.base.Gr b xs e),λb o xs e=>Fu b o xs (I.base.Fu b o xs e),λb ps e=>?_⟩,?_,λx c e=>?_,?_,λx c e=>?_,λp hp=>?_,hok,I.len⟩
  · exact keep b o (neL b o e) hb (neC b o e hx) (I.base.keep b o e n hb hx) (I.base.free b o e n hx)
  · obtain⟨sl,e1⟩:=I.base.slot b o e n hb hx
    obtain⟨sl',e2⟩:=slot b _ (neL b o e) hb (neC b o e hx) e1 (I.base.free b o e n hx);exact⟨sl',e2⟩
  · obtain⟨o',e1⟩:=I.base.there b o e hx
    exact free b o' (neC b o e hx) e1 (I.base.free b o e n hx)
  · obtain⟨o',e1⟩:=I.base.there b o e hx
    exact there b o' (neC b o e hx) e1
  · obtain⟨m1,e1⟩:=I.base.Gu b ps e
    obtain⟨m2,e2⟩:=Gu b _ e1;exact⟨m1++m2,by rw[e2,Array.append_assoc]⟩
  · obtain⟨m,hn,hl⟩:=I.loc
    refine⟨m,ns m hn,λi x v e1 e2 e3=>?_⟩;obtain⟨u,r,l⟩:=hl i x v e1 e2 e3;refine⟨u,r,?_⟩;rcases l with l|⟨k,c,e,z⟩
    · exact .inl l
    · exact .inr ⟨k,c,e,cellK x c e _ z⟩
  · obtain⟨v,z⟩:=I.cell x c e
    exact⟨v,cellK x c e v z⟩
  · obtain⟨m,⟨o,_,_,ho,_⟩,_⟩:=I.loc
    exact free _ o (λz=>(hch _ z).2.1 rfl) ho I.free
  · obtain⟨v,o,ho,hd⟩:=I.cell x c e
    exact free c o (λz=>(hch c z).2.2.1 x c e rfl) ho (I.m7 x c e)
  · obtain⟨e,n,ne,nf,d⟩:=I.pin p hp
    have nch:p.1∉ch:=λz=>(hch p.1 z).2.2.2 p hp rfl;exact⟨keep p.1 p.2 ne nf nch e n,free p.1 p.2 nch e n,ne,nf,d⟩
theorem Inv.un{t':Nat}(I:Inv X pins σ H s)(u:Un X.fs [] H H' s.heap h')(hok:HOk X.prog X.w H' h'):Inv X pins σ H' {s with heap:=h',toks:=t'}:=by
  obtain⟨m,⟨o,es,ep,ho,r⟩,_⟩:=id I.loc;obtain⟨sl,hL⟩:=u.any ho I.free (by simp);exact I.step (g':=s.gens) (d':=s.drawn) (ch:=[]) (λ_ z=>nomatch z) (λb o _ hb _ e n=>u.keep b o e n hb (by simp)) (λb o _ hb _ e n=>u.slot b o e n hb (by simp)) (λb o _ e n=>u.free b o e n (by simp)) (λb o _ e=>u.there b o e (by simp)) u.Gr u.Fu u.Gu (λm' hm=>by
    obtain⟨o',es',ep',ho',r'⟩:=hm;rw[ho]at ho';cases ho';exact⟨_,es',ep',hL,r'⟩) hok I.bare
theorem Inv.call{g':Array GenState}{t':Nat}{d':Drawn}{ch:List Addr}(I:Inv X pins σ H s)(u:Un (frs X.stack) ch H H' s.heap h')(hok:HOk X.prog X.w H' h')(hg:AllBare g')
    (hch:∀ b∈ch,(b∈X.ex∨X.s₀.heap.objs.size≤b)∧b≠X.env.locals∧(∀ x c,X.env.cells.lookup x=some c→c≠b)∧∀ p∈X.pn++pins,p.1≠b) :
    Inv X pins σ H' {s with heap:=h',gens:=g',drawn:=d',toks:=t'}:=by
  obtain⟨m,⟨o,es,ep,ho,r⟩,_⟩:=id I.loc;obtain⟨sl,hL⟩:=u.any ho I.free λz=>(hch _ z).2.1 rfl;exact I.step (ch:=ch) hch (λb o hL hb hc e n=>u.keep b o e n (λz=>(aiY.mp (I.BN b z)).elim hL hb) hc) (λb o _ _ hc e n=>u.any e n hc) (λb o hc e n=>u.free b o e n hc) (λb o hc e=>u.there b o e hc) u.Gr u.Fu u.Gu (λm' hm=>by
    obtain⟨o',es',ep',ho',r'⟩:=hm;rw[ho]at ho';cases ho';exact⟨_,es',ep',hL,r'⟩) hok hg
theorem Inv.turned{t':Nat}{it:Addr}(I:Inv X pins σ H s)(k:∀ b o,b≠it→s.heap.get? b=some o→h'.get? b=some o)(hn:H it=none)(hL:it≠X.env.locals)
    (h1:it∈X.ex∨X.s₀.heap.objs.size≤it) (h2:∀ x c,X.env.cells.lookup x=some c→c≠it) (h3:∀ p∈X.pn++pins,p.1≠it):Inv X pins σ H {s with heap:=h',toks:=t'}:=by
  have nit:∀ b u,H b=some u→b≠it:=λb u e z=>by rw[z,hn]at e;cases e
  refine I.step (g':=s.gens) (d':=s.drawn) (ch:=[it]) (λb hb=>?_) (λb o _ _ hc e _=>k b o (λz=>hc (by simp[z])) e) (λb o _ _ hc e _=>⟨o.slots,k b o (λz=>hc (by simp[z])) e⟩) (λ_ _ _ _ n=>n)
    (λb o hc e=>⟨o,k b o (λz=>hc (by simp[z])) e⟩) (λ_ _ e=>e) (λ_ _ _ e=>e) (λb ps e=>⟨#[],by rw[e];simp⟩) (λm hm=>?_) (λb u e=>?_) I.bare
  · have e:b=it:=by simpa using hb
    subst e;exact⟨h1,hL,h2,h3⟩
  · obtain⟨o,es,ep,ho,r⟩:=hm
    exact⟨o,es,ep,k _ o (ai7 hL) ho,r⟩
  · refine(I.hok b u e).Kx (λc v hc q=>k c v ?_ q) (λ_ q=>q) λ_ _ q=>q
    rcases hc with z|z
    · rw[z];exact nit b u e
    · exact nit c _ z
theorem Inv.tok(I:Inv X pins σ H s)(t:Nat):Inv X pins σ H {s with toks:=t}:=I.un (h':=s.heap) (t':=t) Un.refl I.hok
theorem Inv.kept{t':Nat}(I:Inv X pins σ H s)(k:∀ b u,s.heap.get? b=some u→h'.get? b=some u):Inv X pins σ H {s with heap:=h',toks:=t'}:=I.un (Un.kept k) (I.hok.kept k)
theorem Inv.laid{a:Addr}{o:HO}{t':Nat}(I:Inv X pins σ H s)(k:∀ b u,s.heap.get? b=some u→h'.get? b=some u)(hp:s.heap.objs.size≤a)(new:fg X.prog X.w (upd H a o) h' a o) :
    Inv X pins σ (upd H a o) {s with heap:=h',toks:=t'}:=I.un (Un.laid k hp (I.hok.fresh hp)) (I.hok.laid k hp new)
theorem Inv.write{x e:Addr}{o:HO}{t':Nat}(I:Inv X pins σ H s)(mu:Mut (H x))(he:e=x∨H e=some (.own x))(k:∀ b u,b≠e→s.heap.get? b=some u→h'.get? b=some u)(heo:∃ u,h'.get? e=some u)
    (new:fg X.prog X.w (upd H x o) h' x o):Inv X pins σ (upd H x o) {s with heap:=h',toks:=t'}:=I.un (Un.write mu he k heo) (I.hok.write mu he k heo new)
theorem Inv.OT{M9:List (Addr×Obj)}(I:Inv X pins σ H s)(h:∀ p∈M9,s.heap.get? p.1=some p.2∧H p.1=none∧p.1≠X.env.locals∧p.1∉X.fs∧∀ v,p.2.data≠.cell v):Inv X M9 σ H s :=
  ⟨I.ok,I.os,I.bare,I.base,I.loc,I.cell,I.free,I.m7,λp hp=>(aiS.mp hp).elim (λz=>I.pin p (ajb _ z)) (h p),I.hok,I.len⟩
theorem Hh{N:List Str}(hN:N.Nodup){i j:Nat}{x:Str}(a:N[i]?=some x)(b:N[j]?=some x):i=j:=by
  obtain⟨h1,e1⟩:=aiM.mp a;obtain⟨h2,e2⟩:=aiM.mp b;exact(List.getElem_inj hN).mp (e1.trans e2.symm)
theorem Qk{M:Model}{A:Around}{E:Value→Shared→Prop}{i:Nat}{x:Str}{v:V}{u:Value}{Q:Unit→Shared→Prop}(I:Inv X pins σ H s)(hN:X.N.Nodup)(hi:X.N[i]?=some x)(hx:Loc X.env.scope x)(r:RelV v u)
    (h:∀ s',Inv X pins (σ.set i (some v)) H s'→(∃ a,Heap.SameBut a s.heap s'.heap∧(a=X.env.locals∨X.env.cells.lookup x=some a))→Q () s') (hf:X.fn x=true∨X.env.scope.names.lookup x=some .local:=by first|exact .inl rfl|exact .inr rfl|assumption):wpAny M A (storeName X.env x u) Q E s:=by
  obtain⟨m,hn,hl⟩:=id I.loc;have WZ:(X.env.scope.kind == .class||(X.env.scope.kind == .module&&X.env.locals != X.env.globals))=false:=by rw[I.ok.kind];rfl
  have hiσ:i<σ.length:=by rw[I.len];exact(aiM.mp hi).1
  have cne:=I.cne;have tracked:∀ {a:Addr} {h':Heap},(∃ o,s.heap.get? a=some o∧H a=none)→Heap.SameBut a s.heap h'→HOk X.prog X.w H h':=λ{a h'} ha hs b ob e=>by
    obtain⟨_,_,Vi⟩:=ha;refine(I.hok b ob e).Kx (λc w' hc q=>(hs.2 c ?_).trans q) (λ_ q=>q) λ_ _ q=>q;rintro rfl;rcases hc with rfl|hc
    · rw[Vi]at e;cases e
    · rw[Vi]at hc;cases hc
  rcases hx with hk|hk
  · refine wpAny_storeName_local hk hn (λh' hn' hs=>?_) WZ
    obtain⟨oL,_,_,hoL,_⟩:=id hn;refine h _ ⟨I.ok,I.os,I.bare,⟨λb o e n hb hx=>?_,λb o e n hb hx=>?_,I.base.free,λb o e hx=>?_,I.base.Gr,I.base.Fu,I.base.Gu⟩,⟨_,hn',λj y v' e1 e2 e3=>?_⟩,λy c e=>?_,I.free,I.m7,λp hp=>?_,tracked ⟨oL,hoL,I.free⟩ hs,by simpa using I.len⟩ ⟨_,hs,.inl rfl⟩
    · exact(hs.2 b (ai6 (ai0 (aiT e) I.ok.above))).trans (I.base.keep b o e n hb hx)
    · obtain⟨sl,e1⟩:=I.base.slot b o e n hb hx
      exact⟨sl,(hs.2 b (ai6 (ai0 (aiT e) I.ok.above))).trans e1⟩
    · obtain⟨o',e1⟩:=I.base.there b o e hx
      exact⟨o',(hs.2 b (ai6 (ai0 (aiT e) I.ok.above))).trans e1⟩
    · by_cases hj:j=i
      · subst hj
        rw[hi]at e1;cases e1;rw[List.getElem?_set_self hiσ]at e2;cases e2;exact⟨u,r,.inl ⟨hk,by simp⟩⟩
      · rw[akq (ai7 hj)]at e2
        obtain⟨u',r',q⟩:=hl j y v' e1 e2 e3;refine⟨u',r',?_⟩;rcases q with⟨k,e⟩|⟨k,c,e,z⟩
        · refine .inl ⟨k,?_⟩
          have:y≠x:=λe=>hj (Hh hN e1 (e ▸ hi))
          simp[this,e]
        · exact .inr ⟨k,c,e,z.sameBut hs (cne y c e)⟩
    · obtain⟨w',z⟩:=I.cell y c e
      exact⟨w',z.sameBut hs (cne y c e)⟩
    · obtain⟨e,n,ne,nf,d⟩:=I.pin p hp
      exact⟨(hs.2 p.1 ne).trans e,n,ne,nf,d⟩
  · have hfn:X.fn x=true:=by
      rcases hf with z|z
      · exact z
      · rw[z]at hk;cases hk
    obtain⟨c,hc⟩:=I.ok.has x (.inl hk);obtain⟨w',z⟩:=I.cell x c hc;refine wpAny_storeName_cell I.ok.kind hk hc z (λh' hc' hs=>?_);obtain⟨oc,hoc,ae4⟩:=id z;refine h {s with heap:=h'} ⟨I.ok,I.os,I.bare,⟨λb o e n hb hx=>?_,λb o e n hb hx=>?_,I.base.free,λb o e hx=>?_,I.base.Gr,I.base.Fu,I.base.Gu⟩,⟨m,hn.sameBut hs (ai7 (cne x c hc)),λj y v' e1 e2 e3=>?_⟩,λy c' e=>?_,I.free,I.m7,λp hp=>?_,tracked ⟨oc,hoc,I.m7 x c hc⟩ hs,by simpa using I.len⟩ ⟨c,hs,.inr hc⟩
    · exact(hs.2 b (ai6 (ai0 (aiT e) (I.ok.cab x c hfn hc)))).trans (I.base.keep b o e n hb hx)
    · obtain⟨sl,e1⟩:=I.base.slot b o e n hb hx
      exact⟨sl,(hs.2 b (ai6 (ai0 (aiT e) (I.ok.cab x c hfn hc)))).trans e1⟩
    · obtain⟨o',e1⟩:=I.base.there b o e hx
      exact⟨o',(hs.2 b (ai6 (ai0 (aiT e) (I.ok.cab x c hfn hc)))).trans e1⟩
    · by_cases hj:j=i
      · subst hj
        rw[hi]at e1;cases e1;rw[List.getElem?_set_self hiσ]at e2;cases e2;exact⟨u,r,.inr ⟨.inl hk,c,hc,hc'⟩⟩
      · rw[akq (ai7 hj)]at e2
        obtain⟨u',r',q⟩:=hl j y v' e1 e2 e3;refine⟨u',r',?_⟩;rcases q with q|⟨k,c',e,z'⟩
        · exact .inl q
        · refine .inr ⟨k,c',e,z'.sameBut hs ?_⟩
          rintro rfl;exact hj (Hh hN e1 (I.ok.inj _ _ _ e hc ▸ hi))
    · by_cases hcc:c'=c
      · subst hcc;exact⟨_,hc'⟩
      · obtain⟨w2,z2⟩:=I.cell y c' e
        exact⟨w2,z2.sameBut hs hcc⟩
    · obtain⟨e,n,ne,nf,d⟩:=I.pin p hp
      refine⟨(hs.2 p.1 ?_).trans e,n,ne,nf,d⟩;intro q;rw[q,hoc]at e;have q':oc=p.2:=aja e;exact d w' (by rw[←q'];exact ae4)
theorem BQ{M:Model}{A:Around}{E:Value→Shared→Prop}{i:Nat}{x:Str}{v:V}{u:Value}{Q:Unit→Shared→Prop}(I:Inv X pins σ H s)(hN:X.N.Nodup)(hi:X.N[i]?=some x)(hx:Loc X.env.scope x)(r:RelV v u)
    (h:∀ s',Inv X pins (σ.set i (some v)) H s'→Q () s') (hf:X.fn x=true∨X.env.scope.names.lookup x=some .local:=by first|exact .inl rfl|exact .inr rfl|assumption):wpAny M A (storeName X.env x u) Q E s :=
  Qk I hN hi hx r (λs' I' _=>h s' I') hf
theorem Inv.Na{s':Shared}{ch:List Addr}(I:Inv X pins σ H s)(ho:s'.os=s.os)(u:Un (frs X.stack) ch H H' s.heap s'.heap)(hok:HOk X.prog X.w H' s'.heap)(hg:AllBare s'.gens)
    (hch:∀ b∈ch,(b∈X.ex∨X.s₀.heap.objs.size≤b)∧b≠X.env.locals∧(∀ x c,X.env.cells.lookup x=some c→c≠b)∧∀ p∈X.pn++pins,p.1≠b):Inv X pins σ H' s':=by
  obtain⟨h',g',d',t',o'⟩:=s';have e:o'=s.os:=ho;subst e;exact I.call (g':=g') (t':=t') (d':=d') u hok hg hch
end
noncomputable abbrev XK:=Value→Option Addr→Hp→Prop
noncomputable abbrev St:=List (Option V)
noncomputable abbrev VK:=V→Hp→Prop
noncomputable abbrev TE:=St→Hp→VK→Prop
noncomputable abbrev TT:=St→Hp→(Bool→Hp→Prop)→Prop
noncomputable abbrev TA:=St→Hp→(List V→Hp→Prop)→Prop
structure Ends where
  nx:St→Hp→Prop
  rt:VK
  bk:St→Hp→Prop:=λ_ _=>False
  ct:St→Hp→Prop:=λ_ _=>False
noncomputable abbrev TS:=Ends→St→Hp→Prop
noncomputable def EP(X:Cx)(pins:List (Addr×Obj))(σ:St)(Q:VK)(u:Value)(s':Shared):Prop:=∃ v H',Inv X pins σ H' s'∧RelV v u∧Q v H'
noncomputable def TP(X:Cx)(pins:List (Addr×Obj))(σ:St)(Q:Bool→Hp→Prop)(b:Bool)(s':Shared):Prop:=∃ H',Inv X pins σ H' s'∧Q b H'
noncomputable def AP(X:Cx)(pins:List (Addr×Obj))(σ:St)(Q:List V→Hp→Prop)(us:List Value)(s':Shared):Prop:=∃ vs H',Inv X pins σ H' s'∧Vals vs us∧Q vs H'
noncomputable def SP(X:Cx)(pins:List (Addr×Obj))(D:Ends)(f:Flow)(s':Shared):Prop :=
  match f with
  | .next=>∃ σ' H',Inv X pins σ' H' s'∧D.nx σ' H'
  | .brk=>∃ σ' H',Inv X pins σ' H' s'∧D.bk σ' H'
  | .cont=>∃ σ' H',Inv X pins σ' H' s'∧D.ct σ' H'
  | .ret u=>∃ v σ' H',Inv X pins σ' H' s'∧RelV v u∧D.rt v H'
noncomputable def PE(X:Cx)(e:Expr)(t:TE):Prop :=
  ∀(pins:List (Addr×Obj)) (s:Shared) (σ:St) (H:Hp) (Q:VK),Inv X pins σ H s→t σ H Q→wpAny (model X.prog X.w) X.A (eval e X.env) (EP X pins σ Q) X.xe s
noncomputable def PT(X:Cx)(e:Expr)(t:TT):Prop :=
  ∀(pins:List (Addr×Obj)) (s:Shared) (σ:St) (H:Hp) (Q:Bool→Hp→Prop),Inv X pins σ H s→t σ H Q→wpAny (model X.prog X.w) X.A (isTrue e X.env (eval e X.env)) (TP X pins σ Q) X.xe s
noncomputable def PW(X:Cx)(e:Expr)(t:TT):Prop :=
  ∀(whole:Sem Value) (pins:List (Addr×Obj)) (s:Shared) (σ:St) (H:Hp) (Q:Bool→Hp→Prop),Inv X pins σ H s→t σ H Q→wpAny (model X.prog X.w) X.A (isTrue e X.env whole) (TP X pins σ Q) X.xe s
theorem PW.pt{X:Cx}{e:Expr}{t:TT}(h:PW X e t):PT X e t:=h _
noncomputable def PA(X:Cx)(es:List Expr)(t:TA):Prop :=
  ∀(pos:Pos) (pins:List (Addr×Obj)) (s:Shared) (σ:St) (H:Hp) (Q:List V→Hp→Prop),Inv X pins σ H s→t σ H Q→wpAny (model X.prog X.w) X.A (spliced (backTo pos (starEach es X.env))) (AP X pins σ Q) X.xe s
noncomputable def PS(X:Cx)(st:Stmt)(t:TS):Prop :=
  ∀(pins:List (Addr×Obj)) (s:Shared) (σ:St) (H:Hp) (D:Ends),Inv X pins σ H s→t D σ H→wpAny (model X.prog X.w) X.A (exec st X.env) (SP X pins D) X.xe s
noncomputable def PSs(X:Cx)(st:List Stmt)(t:TS):Prop :=
  ∀(pins:List (Addr×Obj)) (s:Shared) (σ:St) (H:Hp) (D:Ends),Inv X pins σ H s→t D σ H→wpAny (model X.prog X.w) X.A (execs st X.env) (SP X pins D) X.xe s
theorem thn{α:Type}{t:Sem α}{Q Q':α→Shared→Prop}{M:Model}{A:Around}{E:Value→Shared→Prop}{s:Shared}(h:wpAny M A t Q E s)(hQ:∀ a s,Q a s→Q' a s):wpAny M A t Q' E s:=wpAny_mono h hQ λ_ _ x=>x
end L2
namespace L2
open PySem PySem.Spec PyProof.Rows
section
variable{X:Cx}
inductive ZN(o:Option (Option V))(H:Hp)(Q:VK):Prop where
  | mk (v:V):o=some (some v)→Q v H→ZN o H Q
noncomputable def T1(i:Nat):TE:=λσ H Q=>ZN σ[i]? H Q
noncomputable def tC(v:V):TE:=λ_ H Q=>Q v H
theorem VZ{i:Nat}{x:Str}{pos:Pos}(hN:X.N[i]?=some x)(hv:Vis X.env.scope x)(hd:(x == ("__debug__" : Str))=false:=by decide)(hcd:(x == ("__classdict__" : Str))=false:=by decide):PE X (.Name x pos) (T1 i):=by
  intro pins s σ H Q I h;obtain⟨v,e,h⟩:=h;obtain⟨m,hn,hl⟩:=I.loc;obtain⟨u,r,l⟩:=hl i x v hN e hv;have fin:EP X pins σ Q u s:=⟨v,H,I,r,h⟩;rcases l with⟨hk,hm⟩|⟨hk,c,hc,Q5⟩
  · exact wpAny_Name (wpAny_loadName_local I.ok.kind hk hn hm fin) hd
  · rcases hk with hk|hk
    · exact wpAny_Name (wpAny_loadName_cell I.ok.kind hk hc Q5 fin) hd
    · exact wpAny_Name (wpAny_loadName_free I.ok.kind hk hc Q5 fin hcd) hd
theorem av{i j pos}:PE X (.Constant (.int i) j pos) (tC (.int i)):=λ_ _ _ H _ I h=>wpAny_Constant_int ⟨.int i,H,I.tok _,⟨_,rfl⟩,h⟩
theorem pJ{b j pos}:PE X (.Constant (.bool b) j pos) (tC (.bl b)):=λ_ _ _ H _ I h=>Constant_bool ⟨.bl b,H,I,rfl,h⟩
theorem kc{j pos}:PE X (.Constant .none j pos) (tC .non):=λ_ _ _ H _ I h=>Constant_none ⟨.non,H,I,rfl,h⟩
theorem bh{x j pos}:PE X (.Constant (.str x) j pos) (tC (.str x)):=λ_ _ _ H _ I h=>Calls.Constant_str ⟨.str x,H,I.tok _,⟨_,rfl⟩,h⟩
noncomputable def Gl(X:Cx)(x:Str):Prop:=X.env.kindOf x=some .globalImplicit
theorem tZ{E:Value→Shared→Prop}{pins:List (Addr×Obj)}{s:Shared}{σ:St}{H:Hp}{x:Str}{u:Value}{pos:Pos}{Q:Value→Shared→Prop}(I:Inv X pins σ H s)(hg:Gl X x)(hm:X.mg x=some u)(h:Q u s)
    (hd:(x == ("__debug__" : Str))=false:=by decide):wpAny (model X.prog X.w) X.A (eval (.Name x pos) X.env) Q E s :=
  aky I.ok.kind hg (Calls.loadGlobal_global (by rw[I.ok.glob];exact I.mod.glob.keeps I.bk) hm h) hd
theorem Fn{E:Value→Shared→Prop}{pins:List (Addr×Obj)}{s:Shared}{σ:St}{H:Hp}{x:Str}{u:Value}{pos:Pos}{Q:Value→Shared→Prop}(I:Inv X pins σ H s)(hg:Gl X x)(hm:X.mg x=none)(hv:bootBuiltins x=some u)(h:Q u s)
    (hn:x ≠ "__name__" := by decide) (hd:(x == ("__debug__" : Str))=false:=by decide):wpAny (model X.prog X.w) X.A (eval (.Name x pos) X.env) Q E s:=by
  obtain⟨mb,h1,h2⟩:=I.mod.blt;exact aky I.ok.kind hg (Calls.loadGlobal_builtin (by rw[I.ok.glob];exact I.mod.glob.keeps I.bk) hm (by rw[I.ok.blt];exact h1.keeps I.bk) ((h2 x hn).trans hv) h) hd
theorem kh{x:Str}{v:V}{u:Value}{pos:Pos}(hg:Gl X x)(hm:X.mg x=some u)(r:RelV v u)(hd:(x == ("__debug__" : Str))=false:=by decide):PE X (.Name x pos) (tC v) :=
  λ_ _ _ H _ I h=>tZ I hg hm ⟨v,H,I,r,h⟩ hd
variable{a b:Expr}{ta tb:TE}{pos:Pos}
noncomputable def PC(X:Cx)(op:CmpOp)(a b:Expr)(t:TE):Prop :=
  ∀(pins:List (Addr×Obj)) (s:Shared) (σ:St) (H:Hp) (Q:VK),Inv X pins σ H s→t σ H Q →
    wpAny (model X.prog X.w) X.A (eval a X.env) (λv s₁=>wpAny (model X.prog X.w) X.A (eval b X.env) (λu s₂=>wpAny (model X.prog X.w) X.A (compareOp op v u) (EP X pins σ Q) X.xe s₂) X.xe s₁) X.xe s
inductive W0(x:V)(H:Hp)(Q:Bool→Hp→Prop):Prop where
  | mk (k:Bool):x=.bl k→Q k H→W0 x H Q
noncomputable def tB(t:TE):TT:=λσ H Q=>t σ H λx H1=>W0 x H1 Q
theorem V0{op:CmpOp}{t:TE}(h:PC X op a b t)(h1:behindInMarks op b=false:=by first|exact nobehind _ (by decide) (by decide)|rfl):PE X (.Compare a [op] [b] pos) t:=λpins s σ H Q I hw=>wpAny_Compare1 (h pins s σ H Q I hw) h1
theorem rM{op:CmpOp}{t:TE}(h:PC X op a b t)(h1:behindInMarks op b=false:=by first|exact nobehind _ (by decide) (by decide)|rfl):PT X (.Compare a [op] [b] pos) (tB t):=by
  intro pins s σ H Q I hw;refine wpAny_isTrue_Compare1 (thn (h pins s σ H _ I hw) λv s1 h1=>thn h1 λu s2 h2=>thn h2 λc s3 ⟨x,H1,I1,r1,q1⟩=>?_) h1;obtain⟨d,rfl,q⟩:=q1;cases r1;exact wpAny_truthy_bool ⟨H1,I1,q⟩
theorem pA{e:Expr}{t:TE}(h:PE X e t)(he:∀ whole,isTrue e X.env whole=(do let v ←whole;standAt e.pos;holding [v] (truthy v)):=by intro _;rfl):PT X e (tB t):=by
  intro pins s σ H Q I hw;refine isTrue_plain (thn (h pins s σ H _ I hw) λv s1 ⟨x,H1,I1,r1,q1⟩=>?_) (he _);obtain⟨d,rfl,q⟩:=q1;cases r1;exact wpAny_truthy_bool ⟨H1,I1,q⟩
variable{tA tB':TT}{rest:List Expr}
noncomputable def ae5(t u:TT):TT:=λσ H Q=>t σ H λc H1=>if c=true then u σ H1 Q else Q false H1
noncomputable def tOr(t u:TT):TT:=λσ H Q=>t σ H λc H1=>if c=true then Q true H1 else u σ H1 Q
noncomputable def ae6(t:TT):TT:=λσ H Q=>t σ H λc H1=>Q (!c) H1
theorem pw_and1(ha:PT X a tA):PW X (.BoolOp .And [a] pos) tA:=by
  intro wh pins s σ H Q I h;refine isTrue_and (thn (ha pins s σ H Q I h) λc s1 e=>?_);cases c with
  | true=>exact isTrue_and_nil e
  | false=>exact e
theorem pw_or1(ha:PT X a tA):PW X (.BoolOp .Or [a] pos) tA:=by
  intro wh pins s σ H Q I h;refine isTrue_or (thn (ha pins s σ H Q I h) λc s1 e=>?_);cases c with
  | false=>exact isTrue_or_nil e
  | true=>exact e
theorem pw_and(ha:PT X a tA)(hb:PW X (.BoolOp .And (b::rest) pos) tB'):PW X (.BoolOp .And (a::b::rest) pos) (ae5 tA tB'):=by
  intro wh pins s σ H Q I h;refine isTrue_and (thn (ha pins s σ H _ I h) λc s1 ⟨H1,I1,q1⟩=>?_);cases c with
  | true=>exact hb wh pins s1 σ H1 Q I1 q1
  | false=>exact⟨H1,I1,q1⟩
theorem pw_or(ha:PT X a tA)(hb:PW X (.BoolOp .Or (b::rest) pos) tB'):PW X (.BoolOp .Or (a::b::rest) pos) (tOr tA tB'):=by
  intro wh pins s σ H Q I h;refine isTrue_or (thn (ha pins s σ H _ I h) λc s1 ⟨H1,I1,q1⟩=>?_);cases c with
  | true=>exact⟨H1,I1,q1⟩
  | false=>exact hb wh pins s1 σ H1 Q I1 q1
theorem pB(ha:PT X a tA):PT X (.UnaryOp .Not a pos) (ae6 tA):=by
  intro pins s σ H Q I h;exact isTrue_not (ha pins s σ H (λc H1=>Q (!c) H1) I h)
noncomputable def YS(ta tb:TE):TE:=λσ H Q=>ta σ H λx H1=>∃ c,x=.bl c∧if c=true then tb σ H1 Q else Q (.bl false) H1
theorem Sn{op}{t:TE}(h:PE X a t):PE X (.BoolOp op [a] pos) t:=λpins s σ H Q I hw=>BoolOp_one (h pins s σ H Q I hw)
theorem So(ha:PE X a ta)(hb:PE X (.BoolOp .And (b::rest) pos) tb):PE X (.BoolOp .And (a::b::rest) pos) (YS ta tb):=by
  intro pins s σ H Q I h;refine BoolOp_and (thn (ha pins s σ H _ I h) λv s1 ⟨x,H1,I1,r1,q1⟩=>?_);obtain⟨c,rfl,q1⟩:=q1;cases r1;refine wpAny_truthy_bool ?_;cases c with
  | true=>exact hb pins s1 σ H1 Q I1 q1
  | false=>exact⟨.bl false,H1,I1,rfl,q1⟩
noncomputable def tIf(t:TT)(ta tb:TE):TE:=λσ H Q=>t σ H λc H1=>if c=true then ta σ H1 Q else tb σ H1 Q
theorem BR{c:Expr}(hc:PT X c tA)(ha:PE X a ta)(hb:PE X b tb):PE X (.IfExp c a b pos) (tIf tA ta tb):=by
  intro pins s σ H Q I h;refine wpAny_IfExp (thn (hc pins s σ H _ I h) λd s1 ⟨H1,I1,q1⟩=>?_);cases d with
  | true=>exact ha pins s1 σ H1 Q I1 q1
  | false=>exact hb pins s1 σ H1 Q I1 q1
end
end L2
namespace L2
open PySem PySem.Spec PyProof.Rows
noncomputable def SqL(K:W.Frag)(H:Hp)(a:Addr)(xs:List V):Prop :=
  Rd H a (.lst xs) ∨
    ∃(o:Obj) (its:Array Value) (n:Nat),K.lookup a=some o∧o.cls=.type "list" ∧ o.dict=none∧o.data=.seq its n∧its.size≤sizeLine∧Vals xs its.toList
noncomputable def SqT(K:W.Frag)(H:Hp)(a:Addr)(xs:List V):Prop :=
  Rd H a (.tup xs) ∨
    ∃(o:Obj) (its:Array Value) (n:Nat),K.lookup a=some o∧o.cls=.type "tuple" ∧ o.data=.seq its n∧its.size≤sizeLine∧Vals xs its.toList
noncomputable def ae7:Value→Option V
  | .none=>some .non
  | .bool b=>some (.bl b)
  | .int i _=>some (.int i)
  | .str x _=>some (.str x)
  | .bytes b _=>some (.byt b)
  | .float b _=>some (.flt b)
  | .ref a=>some (.ref a)
  | .type n=>some (.ty n)
  | _=>none
theorem RelV.abs{x:V}{u:Value}(r:RelV x u):ae7 u=some x:=by
  cases x with
  | non=>cases r;rfl
  | bl _=>cases r;rfl
  | int _=>obtain⟨t,rfl⟩:=r;rfl
  | str _=>obtain⟨t,rfl⟩:=r;rfl
  | byt _=>obtain⟨t,rfl⟩:=r;rfl
  | flt _=>obtain⟨t,rfl⟩:=r;rfl
  | ref _=>cases r;rfl
  | ty _=>cases r;rfl
theorem RelV.inj{x y:V}{u:Value}(r:RelV x u)(q:RelV y u):x=y:=aja (r.abs.symm.trans q.abs)
theorem Vals.inj:∀ {xs ys:List V} {us:List Value},Vals xs us→Vals ys us→xs=ys
  | _,_,_,.nil,.nil=>rfl
  | _,_,_,.cons r t,.cons r' t'=>by rw[r.inj r',Vals.inj t t']
section
variable{X:Cx}{pins:List (Addr×Obj)}{σ:St}{H:Hp}{s:Shared}{a:Addr}{xs ys:List V}
theorem SqL.of{K:W.Frag}(h:H a=some (.lst xs)):SqL K H a xs:=.inl (.inl h)
theorem SqT.of{K:W.Frag}(h:H a=some (.tup xs)):SqT K H a xs:=.inl (.inl h)
theorem Inv.list(I:Inv X pins σ H s)(h:SqL X.K H a xs):∃ its:List Value,Vals xs its∧PlainL s.heap a its.toArray∧xs.length≤sizeLine:=by
  rcases h with h|⟨o,its,n,hk,hc,hd,hs,hz,r⟩
  · obtain⟨z,its,n,r,e⟩:=h.ok I.hok
    exact⟨its,r,⟨_,n,e,rfl,rfl,rfl⟩,z⟩
  · refine⟨its.toList,r,⟨o,n,I.kIn a o hk,hc,hd,by simpa using hs⟩,?_⟩
    have e:=r.length;simp only[aiX]at e;omega
theorem Inv.tuple(I:Inv X pins σ H s)(h:SqT X.K H a xs):∃ its:List Value,Vals xs its∧IsTup s.heap a its.toArray∧xs.length≤sizeLine:=by
  rcases h with h|⟨o,its,n,hk,hc,hs,hz,r⟩
  · obtain⟨z,its,r,p⟩:=h.ok I.hok
    exact⟨its,r,p,z⟩
  · refine⟨its.toList,r,⟨o,I.kIn a o hk,hc,n,by simpa using hs⟩,?_⟩
    have e:=r.length;simp only[aiX]at e;omega
theorem Inv.Mi(I:Inv X pins σ H s)(h:SqL X.K H a xs)(h':SqL X.K H a ys):xs=ys:=by
  obtain⟨its,r,⟨o,n,e,_,_,d⟩,_⟩:=I.list h;obtain⟨HC,r',⟨o',n',e',_,_,d'⟩,_⟩:=I.list h';rw[e]at e';cases e';rw[d]at d';injection d' with d1 _
  have:its=HC:=by simpa using congrArg Array.toList d1
  subst this;exact r.inj r'
end
noncomputable abbrev Cx.Ky(X:Cx)(E:Value→Shared→Prop):Cx:={X with xe:=E}
noncomputable abbrev Cx.nox(X:Cx):Cx:=X.Ky λ_ _=>False
theorem Cx.Ok.Ky{X:Cx}(ok:X.Ok)(E:Value→Shared→Prop):(X.Ky E).Ok :=
  ⟨ok.mod,ok.kind,ok.glob,ok.blt,ok.above,ok.inj,ok.has,ok.cab,ok.hd,ok.frames,ok.stk,ok.exf,ok.bs,ok.bsz,ok.M8,ok.OS,ok.Ce,ok.frf⟩
theorem Cx.Ok.ud{X:Cx}{E:Value→Shared→Prop}(ok:(X.Ky E).Ok):X.Ok :=
  ⟨ok.mod,ok.kind,ok.glob,ok.blt,ok.above,ok.inj,ok.has,ok.cab,ok.hd,ok.frames,ok.stk,ok.exf,ok.bs,ok.bsz,ok.M8,ok.OS,ok.Ce,ok.frf⟩
section
variable{X:Cx}{pins:List (Addr×Obj)}{σ:St}{H:Hp}{s:Shared}{E:Value→Shared→Prop}
theorem Inv.Ky(I:Inv X pins σ H s)(E:Value→Shared→Prop):Inv (X.Ky E) pins σ H s:=⟨I.ok.Ky E,I.os,I.bare,I.base,I.loc,I.cell,I.free,I.m7,I.pin,I.hok,I.len⟩
theorem Inv.ud(I:Inv (X.Ky E) pins σ H s):Inv X pins σ H s:=⟨I.ok.ud,I.os,I.bare,I.base,I.loc,I.cell,I.free,I.m7,I.pin,I.hok,I.len⟩
theorem SP.ud{D:Ends}{f:Flow}{s':Shared}(h:SP (X.Ky E) pins D f s'):SP X pins D f s':=by
  cases f with
  | next=>obtain⟨σ',H',I,q⟩:=h;exact⟨σ',H',I.ud,q⟩
  | brk=>obtain⟨σ',H',I,q⟩:=h;exact⟨σ',H',I.ud,q⟩
  | cont=>obtain⟨σ',H',I,q⟩:=h;exact⟨σ',H',I.ud,q⟩
  | ret u=>obtain⟨v,σ',H',I,r,q⟩:=h;exact⟨v,σ',H',I.ud,r,q⟩
theorem PSs.nox{st:List Stmt}{t:TS}(h:PSs X.nox st t):PSs X st t:=λpins s σ H D I hw =>
  wpAny_mono (h pins s σ H D (I.Ky _) hw) (λ_ _ q=>q.ud) λ_ _ z=>False.elim z
end
section
variable{X:Cx}{st:Stmt}{rest:List Stmt}{t u:TS}{e:Expr}{te:TE}{pos:Pos}
noncomputable def YT:TS:=λD σ H=>D.nx σ H
noncomputable def Kz(t u:TS):TS:=λD σ H=>t {D with nx:=u D} σ H
theorem aU:PSs X [] YT:=λ_ _ σ H _ I h=>wpAny_execs_nil ⟨σ,H,I,h⟩
theorem ak(h1:PS X st t)(h2:PSs X rest u):PSs X (st::rest) (Kz t u):=by
  intro pins s σ H D I h;refine wpAny_execs_cons (thn (h1 pins s σ H {D with nx:=u D} I h) λf s1 q=>?_);cases f with
  | next =>
    obtain⟨σ',H',I',q⟩:=q;exact h2 pins s1 σ' H' D I' q
  | ret v=>exact q
  | brk=>exact q
  | cont=>exact q
theorem ai(h1:PS X st t):PSs X [st] t:=by
  intro pins s σ H D I h;refine wpAny_execs_cons (thn (h1 pins s σ H D I h) λf s1 q=>?_);cases f with
  | next=>exact wpAny_execs_nil q
  | ret v=>exact q
  | brk=>exact q
  | cont=>exact q
theorem Inv.quiet{pins:List (Addr×Obj)}{σ:St}{H:Hp}{s:Shared}(I:Inv X pins σ H s):interactive X.env=false:=by simp[interactive,I.ok.kind]
noncomputable def YU(te:TE):TS:=λD σ H=>te σ H λ_ H1=>D.nx σ H1
theorem aG(he:PE X e te)(hs:swapsWith e none pos.line X.env=pure false:=by rfl):PS X (.Expr e pos) (YU te):=by
  intro pins s σ H D I h;exact wpAny_Expr_any (thn (he pins s σ H _ I h) λv s1 ⟨x,H1,I1,r1,q1⟩=>⟨σ,H1,I1,q1⟩) I.quiet hs
noncomputable def ae8(te:TE):TS:=λD σ H=>te σ H D.rt
theorem aM(he:PE X e te):PS X (.Return (some e) pos) (ae8 te):=by
  intro pins s σ H D I h;exact wpAny_Return_some (thn (he pins s σ H _ I h) λv s1 ⟨x,H1,I1,r1,q1⟩=>⟨x,σ,H1,I1,r1,q1⟩)
noncomputable def ZO(c:TT)(t u:TS):TS:=λD σ H=>c σ H λb H1=>if b=true then t D σ H1 else u D σ H1
theorem cj{c:Expr}{a b:List Stmt}{tc:TT}(hc:PT X c tc)(ha:PSs X a t)(hb:PSs X b u):PS X (.If c a b pos) (ZO tc t u):=by
  intro pins s σ H D I h;refine wpAny_If (thn (hc pins s σ H _ I h) λd s1 ⟨H1,I1,q1⟩=>?_);cases d with
  | true=>exact ha pins s1 σ H1 D I1 q1
  | false=>exact hb pins s1 σ H1 D I1 q1
end
noncomputable abbrev TG:=V→St→Hp→(St→Hp→Prop)→Prop
noncomputable abbrev TGs:=List V→St→Hp→(St→Hp→Prop)→Prop
noncomputable def PG(X:Cx)(target:Expr)(t:TG):Prop :=
  ∀(pins:List (Addr×Obj)) (s:Shared) (σ:St) (H:Hp) (v:V) (u:Value) (Q:St→Hp→Prop),Inv X pins σ H s→RelV v u→t v σ H Q →
    wpAny (model X.prog X.w) X.A (assign target X.env u) (λ_ s'=>∃ σ' H',Inv X pins σ' H' s'∧Q σ' H') X.xe s
noncomputable def PGs(X:Cx)(ts:List Expr)(t:TGs):Prop :=
  ∀(pins:List (Addr×Obj)) (s:Shared) (σ:St) (H:Hp) (vs:List V) (us:List Value) (Q:St→Hp→Prop),Inv X pins σ H s→Vals vs us→t vs σ H Q →
    wpAny (model X.prog X.w) X.A (assignInOrder ((assignEach ts X.env).map (·.2)) us) (λ_ s'=>∃ σ' H',Inv X pins σ' H' s'∧Q σ' H') X.xe s
noncomputable abbrev W2:=V→V→V→Hp→(Hp→Prop)→Prop
noncomputable def ZP(X:Cx)(t:W2):Prop :=
  ∀(pins:List (Addr×Obj)) (s:Shared) (σ:St) (H:Hp) (o i v:V) (ov iv u:Value) (Q:Hp→Prop),Inv X pins σ H s→RelV o ov→RelV i iv→RelV v u→t o i v H Q →
    wpAny (model X.prog X.w) X.A (setItem ov iv u) (λ_ s'=>∃ H',Inv X pins σ H' s'∧Q H') X.xe s
noncomputable abbrev TIp:=V→V→Hp→VK→Prop
noncomputable def PIp(X:Cx)(op:Operator)(t:TIp):Prop :=
  ∀(pins:List (Addr×Obj)) (s:Shared) (σ:St) (H:Hp) (x y:V) (v u:Value) (Q:VK),Inv X pins σ H s→RelV x v→RelV y u→t x y H Q →
    wpAny (model X.prog X.w) X.A (inplaceOp op v u) (EP X pins σ Q) X.xe s
section
variable{X:Cx}{pos:Pos}
noncomputable def qo(i:Nat):TG:=λv σ H Q=>Q (σ.set i (some v)) H
theorem gb{i:Nat}{x:Str}(hN:X.N.Nodup)(hi:X.N[i]?=some x)(hx:Loc X.env.scope x)(hf:X.fn x=true∨X.env.scope.names.lookup x=some .local:=by first|exact .inl rfl|exact .inr rfl|assumption):PG X (.Name x pos) (qo i):=by
  intro pins s σ H v u Q I r h;exact wpAny_assign_Name (BQ I hN hi hx r (λs' I'=>⟨_,H,I',h⟩) hf)
noncomputable def ae9:TGs:=λvs σ H Q=>vs=[]∧Q σ H
noncomputable def YV(t:TG)(u:TGs):TGs:=λvs σ H Q=>∃ v r,vs=v::r∧t v σ H λσ' H'=>u r σ' H' Q
theorem OU:PGs X [] ae9:=by
  intro pins s σ H vs us Q I r h;obtain⟨e,h⟩:=h;subst e;cases r;exact assignInOrder_nil ⟨σ,H,I,h⟩
theorem BS{e:Expr}{es:List Expr}{t:TG}{u:TGs}(h1:PG X e t)(h2:PGs X es u)
    (hs:(assignEach (e::es) X.env).map (·.2)=assign e X.env::(assignEach es X.env).map (·.2):=by rfl):PGs X (e::es) (YV t u):=by
  intro pins s σ H vs us Q I r h;obtain⟨v,vr,e1,h⟩:=h;subst e1;cases r with
  | cons r rr =>
    rw[hs];refine assignInOrder_cons (thn (h1 pins s σ H _ _ _ I r h) λ_ s1 ⟨σ1,H1,I1,q1⟩=>?_);exact h2 pins s1 σ1 H1 _ _ Q I1 rr q1
noncomputable def afa(K:W.Frag)(n:Nat)(t:TGs):TG:=λv σ H Q=>∃ a xs,v=.ref a∧SqT K H a xs∧xs.length=n∧t xs σ H Q
theorem Sq{es:List Expr}{k:Nat}{t:TGs}{n:Nat}(hc:X.calm=true)(h:PGs X es t)
    (hn:(assignEach es X.env).length=n:=by rfl) (hst:(assignEach es X.env).findIdx? (·.1)=none:=by rfl):PG X (.Tuple es k pos) (afa X.K n t):=by
  intro pins s σ H v u Q I r hw;obtain⟨a,xs,e1,hq,hl,hw⟩:=hw;subst e1;cases r;obtain⟨its,rv,ht,hz⟩:=I.tuple hq;refine assign_Tuple_tuple (I.ok.hd hc) ht (by simp[hn,←hl,rv.length]) hst λh' hx=>?_;have I1:Inv X pins σ H {s with heap:=h'}:=I.kept (t':=s.toks) λb o e=>hx b o (ai6 (aiT e)) e;exact h pins _ σ H xs _ Q I1 (by simpa using rv) hw
noncomputable def afb(to ti:TE)(t:W2):TG:=λv σ H Q=>to σ H λo H1=>ti σ H1 λi H2=>t o i v H2 λH3=>Q σ H3
theorem HD{o i:Expr}{to ti:TE}{t:W2}(ho:PE X o to)(hi:PE X i ti)(hs:ZP X t)
    (ha:∀ v,assign (.Subscript o i pos) X.env v=(do
      let ov ←holding [v] (eval o X.env)
      let iv ←holding [v,ov] (eval i X.env)
      standAt pos
      holding [v,ov,iv] (setItem ov iv v)
      release [v,ov,iv] []):=by intro _;rfl):PG X (.Subscript o i pos) (afb to ti t):=by
  intro pins s σ H v u Q I r h;rw[ha];refine wpAny_bind (wpAny_holding (thn (ho pins s σ H _ I h) λov s1 ⟨x,H1,I1,r1,q1⟩=>?_));refine wpAny_bind (wpAny_holding (thn (hi pins s1 σ H1 _ I1 q1) λiv s2 ⟨y,H2,I2,r2,q2⟩=>?_));refine wpAny_bind (wpAny_standAt (wpAny_bind (wpAny_holding (thn (hs pins s2 σ H2 x y v ov iv u _ I2 r1 r2 r q2) λ_ s3 ⟨H3,I3,q3⟩=>?_))));exact wpAny_release ⟨σ,H3,I3,q3⟩
noncomputable def Sr(te:TE)(g:TG):TS:=λD σ H=>te σ H λx H1=>g x σ H1 D.nx
theorem HE{tg e:Expr}{te:TE}{g:TG}(he:PE X e te)(hg:PG X tg g)(hs:swapsWithSole [tg] e pos.line X.env=pure false:=by rfl)(hw:swappedStores [tg] e X.env=pure none:=by rfl)
    (h1:(assignEach [tg] X.env).map (·.2)=[assign tg X.env]:=by rfl):PS X (.Assign [tg] e pos) (Sr te g):=by
  intro pins s σ H D I h;refine wpAny_Assign_stores (thn (he pins s σ H _ I h) λv s1 ⟨x,H1,I1,r1,q1⟩=>?_) hs hw;rw[h1];exact thn (hg pins s1 σ H1 x v _ I1 r1 q1) λ_ s2 q=>q
theorem bp{i:Nat}{x:Str}{e:Expr}{te:TE}{pos':Pos}(hN:X.N.Nodup)(hi:X.N[i]?=some x)(hx:Loc X.env.scope x)(he:PE X e te)(hs:swapsWith e (some (.Name x pos')) pos.line X.env=pure false:=by rfl)(hf:X.fn x=true∨X.env.scope.names.lookup x=some .local:=by first|exact .inl rfl|exact .inr rfl|assumption) :
    PS X (.Assign [.Name x pos'] e pos) (Sr te (qo i)):=by
  intro pins s σ H D I h;refine wpAny_Assign_Name (thn (he pins s σ H _ I h) λv s1 ⟨y,H1,I1,r1,q1⟩=>?_) hs;exact BQ I1 hN hi hx r1 (λs2 I2=>⟨_,H1,I2,q1⟩) hf
noncomputable def afc(i:Nat)(te:TE)(ti:TIp):TS:=λD σ H=>∃ x,σ[i]?=some (some x)∧te σ H λy H1=>ti x y H1 λz H2=>D.nx (σ.set i (some z)) H2
theorem V1{i:Nat}{x:Str}{e:Expr}{te:TE}{op:Operator}{ti:TIp}{pos':Pos}(hN:X.N.Nodup)(hi:X.N[i]?=some x)(hx:Loc X.env.scope x)(he:PE X e te)(ho:PIp X op ti)(hf:X.fn x=true∨X.env.scope.names.lookup x=some .local:=by first|exact .inl rfl|exact .inr rfl|assumption) :
    PS X (.AugAssign (.Name x pos') op e pos) (afc i te ti):=by
  intro pins s σ H D I h;obtain⟨v,e1,h⟩:=h;obtain⟨m,hn,hl⟩:=I.loc;have vis:Vis X.env.scope x:=by rcases hx with k|k;exact .inl k;exact .inr (.inl k)
  obtain⟨u,r,l⟩:=hl i x v hi e1 vis;refine wpAny_AugAssign_Name ?_;have go:wpAny (model X.prog X.w) X.A (eval e X.env) (λw s₂=>wpAny (model X.prog X.w) X.A (inplaceOp op u w) (λr s₃=>wpAny (model X.prog X.w) X.A (storeName X.env x r) (λ_=>SP X pins D .next) X.xe s₃) X.xe s₂) X.xe s:=by
    refine thn (he pins s σ H _ I h) λw s1 ⟨y,H1,I1,r1,q1⟩=>?_;refine thn (ho pins s1 σ H1 v y u w _ I1 r r1 q1) λz s2 ⟨zv,H2,I2,r2,q2⟩=>?_;exact BQ I2 hN hi hx r2 (λs3 I3=>⟨_,H2,I3,q2⟩) hf
  rcases l with⟨hk,hm⟩|⟨hk,c,hc,Q5⟩
  · exact wpAny_loadName_local I.ok.kind hk hn hm go
  · rcases hk with hk|hk
    · exact wpAny_loadName_cell I.ok.kind hk hc Q5 go
    · rcases hx with k|k
      · have:X.env.scope.names.lookup x=some .free:=hk
        rw[k]at this;cases this
      · have:X.env.scope.names.lookup x=some .free:=hk
        rw[k]at this;cases this
noncomputable def ipI(f:Int→Int→Int):TIp:=λx y H Q=>∃ i j,x=.int i∧y=.int j∧Q (.int (f i j)) H
theorem V2:PIp X .Add (ipI λi j=>i+j):=by
  intro pins s σ H x y v u Q I r1 r2 h;obtain⟨i,j,e1,e2,q⟩:=h;subst e1;subst e2;obtain⟨t,rfl⟩:=r1;obtain⟨t',rfl⟩:=r2;exact iadd_int ⟨.int _,H,I.tok _,⟨_,rfl⟩,q⟩
end
section
variable{X:Cx}{pos:Pos}
noncomputable def V3(c:TT)(tb:TS):TS:=λD σ H=>∃ W:Nat→St→Hp→Prop,(∃ m,W m σ H)∧∀ m σ H,W m σ H →
  c σ H λb H1=>if b=true then ∃ N:St→Hp→Prop,(∀ σ' H',N σ' H'→∃ m',m'<m∧W m' σ' H')∧tb {D with nx:=N,ct:=N,bk:=D.nx} σ H1 else D.nx σ H1
theorem Mj{c:Expr}{body:List Stmt}{tc:TT}{tb:TS}(hp:PassesOwn (model X.prog X.w) X.A X.env X.xe)(hc:PT X c tc)(hb:PSs X body tb):PS X (.While c body [] pos) (V3 tc tb):=by
  intro pins s σ H D I h;obtain⟨W,⟨m0,w0⟩,turn⟩:=h;refine wpAny_While (codeAny_whileLoop (λn s'=>∃ σ' H',Inv X pins σ' H' s'∧W n σ' H') ?_ m0 ⟨σ,H,I,w0⟩);rintro n s1 ⟨σ1,H1,I1,w1⟩;refine wpAny_passesOwn hp (thn (hc pins s1 σ1 H1 _ I1 (turn n σ1 H1 w1)) λb s2 ⟨H2,I2,q2⟩=>?_);cases b with
  | true =>
    obtain⟨N,hN,q2⟩:=q2;rw[if_pos rfl];refine wpAny_passesOwn hp (thn (hb pins s2 σ1 H2 _ I2 q2) λf s3 q3=>?_);cases f with
    | next =>
      obtain⟨σ3,H3,I3,n3⟩:=q3;obtain⟨m',hm,w3⟩:=hN σ3 H3 n3;exact⟨m',hm,σ3,H3,I3,w3⟩
    | cont =>
      obtain⟨σ3,H3,I3,n3⟩:=q3;obtain⟨m',hm,w3⟩:=hN σ3 H3 n3;exact⟨m',hm,σ3,H3,I3,w3⟩
    | brk=>exact q3
    | ret v=>exact q3
  | false =>
    rw[if_neg aiO];exact wpAny_execs_nil ⟨σ1,H2,I2,q2⟩
end
structure It where
  go:Nat→Hp→Prop
  yld:Nat→Hp→V→Hp→Prop
  stop:Nat→Hp→Prop
noncomputable def Gv(X:Cx)(pins:List (Addr×Obj))(H:Hp)(b:Addr):Prop :=
  H b=none∧b≠X.env.locals∧b∉X.fs∧(b∈X.ex∨X.s₀.heap.objs.size≤b)∧(∀ x c,X.env.cells.lookup x=some c→c≠b)∧∀ p∈X.pn++pins,p.1≠b
theorem Inv.T2{X:Cx}{pins:List (Addr×Obj)}{σ:St}{H H':Hp}{s:Shared}{b:Addr}(I:Inv X pins σ H s)(hb:s.heap.objs.size≤b)(hn:H' b=none):Gv X pins H' b:=by
  refine⟨hn,akh (ai0 I.lt hb),I.ae3 hb,.inr (ai5 I.sz hb),λx c e z=>?_,λp hp z=>?_⟩
  · obtain⟨v,q⟩:=I.cell x c e
    exact absurd (ai0 q.lt (by rw[z];exact hb)) (ajN _)
  · exact absurd (ai0 (aiT (I.pin p hp).1) (by rw[z];exact hb)) (ajN _)
structure Turn(P:Program)(w:World)(K:W.Frag)(tg:Expr)(J:It)(fp:List Addr)(it:Addr)(tn:Nat→Heap→Prop):Prop where
  mem:it∈fp
  obj:∀ i h,tn i h→∀ b∈fp,∃ o,h.get? b=some o∧∀ v,o.data≠.cell v
  keep:∀ i h h',tn i h→(∀ b∈fp,∀ o,h.get? b=some o→h'.get? b=some o)→tn i h'
  item:∀(X:Cx),X.prog=P→X.w=w→X.K=K→X.calm=true→∀(i:Nat) (pins:List (Addr×Obj)) (s:Shared) (σ:St) (H:Hp) (E:Value→Shared→Prop),Inv X pins σ H s→(∀ b∈fp,Gv X pins H b)→tn i s.heap→J.go i H →
    wpAny (model P w) X.A (pyNext (.ref it)) (λr s1=>∃ u,r=some u ∧
      wpAny (model P w) X.A (letOwnedTupleGo tg (.ref it) u) (λ_ s2=>∃ x H',Inv X pins σ H' s2∧RelV x u∧J.yld i H x H'∧tn (i+1) s2.heap∧∀ b∈fp,H' b=none) E s1) E s
  done:∀(X:Cx),X.prog=P→X.w=w→X.K=K→X.calm=true→∀(i:Nat) (pins:List (Addr×Obj)) (s:Shared) (σ:St) (H:Hp) (E:Value→Shared→Prop),Inv X pins σ H s→(∀ b∈fp,Gv X pins H b)→tn i s.heap→J.stop i H →
    wpAny (model P w) X.A (pyNext (.ref it)) (λr s1=>r=none∧Inv X pins σ H s1) E s
  self:∀(A:Around) (i:Nat) (s:Shared) (Q:Value→Shared→Prop) (E:Value→Shared→Prop),tn i s.heap→Q (.ref it) s→wpAny (model P w) A (pyIter (.ref it)) Q E s
noncomputable abbrev TI:=St→Hp→(It→Hp→Prop)→Prop
noncomputable def PIE(X:Cx)(pins:List (Addr×Obj))(σ:St)(tg:Expr)(R:It→Hp→Prop)(itv:Value)(s2:Shared):Prop :=
  ∃(it:Addr) (fp:List Addr) (tn:Nat→Heap→Prop) (J:It) (H':Hp),itv=.ref it∧Inv X pins σ H' s2∧Turn X.prog X.w X.K tg J fp it tn∧tn 0 s2.heap∧(∀ b∈fp,Gv X pins H' b)∧R J H'
noncomputable def PI(X:Cx)(tg iter:Expr)(wi:TI):Prop :=
  ∀(pins:List (Addr×Obj)) (s:Shared) (σ:St) (H:Hp) (R:It→Hp→Prop),Inv X pins σ H s→wi σ H R →
    wpAny (model X.prog X.w) X.A (eval iter X.env) (λv s1=>wpAny (model X.prog X.w) X.A (pyIter v) (PIE X pins σ tg R) X.xe s1) X.xe s
theorem Vj{M:Model}{A:Around}{E:Value→Shared→Prop}{s:Shared}{tg:Expr}{it:Addr}{u:Value}{o:Obj}{n:String}{vs:Array Value}{Q:Unit→Shared→Prop}(ho:s.heap.get? it=some o)(hc:o.cls=.type n)(hd:o.data=.fields vs)
    (hn:["enumerate", "zip", "dict_itemiterator", "dict_reverseitemiterator", "odict_iterator", "itertools.zip_longest", "itertools.pairwise"].contains n=false) (hQ:Q () s):wpAny M A (letOwnedTupleGo tg (.ref it) u) Q E s:=by
  unfold letOwnedTupleGo;cases tg<;>first
    | exact wpAny_pure hQ
    | (cases u<;>first
        | exact wpAny_pure hQ
        | (refine wpAny_bind (wpAny_load ho ?_)
           rw[hc,hd];show wpAny M A (if(["enumerate", "zip", "dict_itemiterator", "dict_reverseitemiterator", "odict_iterator", "itertools.zip_longest", "itertools.pairwise"].contains n&&vs[0]? == some (rawInt _))=true then _ else _) Q E s;rw[if_neg (by intro h;rw[hn,Bool.false_and]at h;cases h)];exact wpAny_pure hQ))
noncomputable def Itl(K:W.Frag)(a:Addr):It :=
  ⟨λi H=>∃ xs x,SqL K H a xs∧xs[i]?=some x,λi H x H'=>H'=H∧∀ xs,SqL K H a xs→xs[i]?=some x,λi H=>∃ xs,SqL K H a xs∧xs.length≤i⟩
noncomputable def Itr(lo:Int)(n:Nat):It:=⟨λi _=>i<n,λi H x H'=>H'=H∧x=.int (lo+i),λi _=>n≤i⟩
theorem Ql{P:Program}{w:World}{K:W.Frag}{tg:Expr}(a it:Addr):Turn P w K tg (Itl K a) [it] it (λi h=>h.IsListIter it a i) where
  mem:=by simp
  obj:=λi h st b hb=>by
    have e:b=it:=(by simpa using hb);subst e;obtain⟨o,e,c,d⟩:=st;exact⟨o,e,λv z=>by rw[d]at z;cases z⟩
  keep:=λi h h' st k=>st.at λo e=>k it (by simp) o e
  item:=by
    intro X hP hw hK hc i pins s σ H E I hf st hg;subst hP hw hK;obtain⟨xs,x,hq,hx⟩:=hg;obtain⟨its,rv,p,hz⟩:=I.list hq;obtain⟨u,hu,ru⟩:=rv.get hx;obtain⟨f0,f1,f2,f3,f4,f5⟩:=hf it (by simp);refine wpAny_pyNext_list_item st p.isList (x:=u) (by simpa using hu) λh' st' sb=>?_;have I1:Inv X pins σ H {s with heap:=h'}:=I.turned (t':=s.toks) (λb o hb e=>(sb.2 b hb).trans e) f0 f1 f3 f4 f5;obtain⟨o,e,c,d⟩:=id st';exact⟨u,rfl,Vj (s:={s with heap:=h'}) e c d (by decide) ⟨x,H,I1,ru,⟨rfl,λys hy=>by rw[I.Mi hy hq];exact hx⟩,st',λb hb=>(hf b hb).1⟩⟩
  done:=by
    intro X hP hw hK hc i pins s σ H E I hf st hg;subst hP hw hK;obtain⟨xs,hq,hx⟩:=hg;obtain⟨its,rv,p,hz⟩:=I.list hq;obtain⟨f0,f1,f2,f3,f4,f5⟩:=hf it (by simp);have hl:=rv.length;exact wpAny_pyNext_list_end (I.ok.hd hc) st p.isList (by simp;omega) λh' eb=>⟨rfl,I.turned (t':=s.toks) (λb o hb e=>eb b o hb e) f0 f1 f3 f4 f5⟩
  self:=λ_ _ _ _ _ st h=>wpAny_pyIter_listiter st h
theorem Nb{P:Program}{w:World}{K:W.Frag}{tg:Expr}(it:Addr)(lo:Int)(n:Nat):Turn P w K tg (Itr lo n) [it] it (λi h=>IsRangeIter h it (lo+(i:Nat)*1) ((n:Int)-(i:Nat)) 1) where
  mem:=by simp
  obj:=λi h st b hb=>by
    have e:b=it:=(by simpa using hb);subst e;exact⟨_,st,λv z=>by
      have z':Data.fields _=Data.cell v:=z;cases z'⟩
  keep:=λi h h' st k=>k it (by simp) _ st
  item:=by
    intro X hP hw hK hc i pins s σ H E I hf st hg;subst hP hw hK;obtain⟨f0,f1,f2,f3,f4,f5⟩:=hf it (by simp);have W:=Walks.range (prog:=X.prog) (w:=X.w) (I.ok.hd hc) it lo 1 n;refine W.item i s _ _ hg st λv h' tk hv st' kk=>?_;obtain⟨t,rfl⟩:=hv;have I1:Inv X pins σ H {s with heap:=h',toks:=tk}:=I.turned (λb o hb e=>kk b o (by simpa using hb) e) f0 f1 f3 f4 f5;refine⟨_,rfl,Vj (s:={s with heap:=h',toks:=tk}) (n := "range_iterator") st' rfl rfl (by decide) ⟨.int (lo+i),H,I1,⟨t,?_⟩,⟨rfl,rfl⟩,st',λb hb=>(hf b hb).1⟩⟩;rw[Int.mul_one]
  done:=by
    intro X hP hw hK hc i pins s σ H E I hf st hg;subst hP hw hK;obtain⟨f0,f1,f2,f3,f4,f5⟩:=hf it (by simp);exact wpAny_pyNext_range_end (I.ok.hd hc) st (by have:n≤i:=hg;omega) λh' eb=>⟨rfl,I.turned (t':=s.toks) (λb o hb e=>eb b o hb e) f0 f1 f3 f4 f5⟩
  self:=λ_ _ _ _ _ st h=>wpAny_pyIter_rangeiter st h
end L2
namespace L2
open PySem PySem.Spec PyProof.Rows
section
variable{X:Cx}{tg:Expr}
inductive ZQ(K:W.Frag)(x:V)(H:Hp)(R:It→Hp→Prop):Prop where
  | mk (a:Addr):x=.ref a→(∃ xs,SqL K H a xs)→R (Itl K a) H→ZQ K x H R
noncomputable def YW(K:W.Frag)(tl:TE):TI:=λσ H R=>tl σ H λx H1=>ZQ K x H1 R
theorem iw{l:Expr}{tl:TE}(hl:PE X l tl):PI X tg l (YW X.K tl):=by
  intro pins s σ H R I h;refine thn (hl pins s σ H _ I h) λv s1 ⟨x,H1,I1,r1,q1⟩=>?_;obtain⟨a,e,⟨xs,hq⟩,q⟩:=q1;subst e;cases r1;obtain⟨its,rv,p,hz⟩:=I1.list hq;refine wpAny_pyIter_list p.isList ?_;refine⟨s1.heap.objs.size,[s1.heap.objs.size],_,_,H1,rfl,I1.kept (t':=s1.toks) λb o e=>aiL _ e,Ql a _,⟨_,ajh _ rfl,rfl,rfl⟩,λb hb=>?_,q⟩;have e:b=s1.heap.objs.size:=by simpa using hb
  subst e;exact I1.T2 (aiN _) (I1.hok.fresh (aiN _))
theorem RB{pins:List (Addr×Obj)}{σ:St}{H:Hp}{s:Shared}{R:It→Hp→Prop}{E:Value→Shared→Prop}{lo hi:Int}{t u v:Tok}{tk:Nat}(I:Inv X pins σ H s)(h1:-(2 ^ 62)≤lo)(h2:lo<2 ^ 62)(h3:-(2 ^ 62)≤hi)(h4:hi<2 ^ 62)
    (q:R (Itr lo (hi-lo).toNat) H):wpAny (model X.prog X.w) X.A (pyIter (.ref s.heap.objs.size)) (PIE X pins σ tg R) E {s with heap:=s.heap.push {cls:=.type "range",data:=.fields #[.int lo t,.int hi u,.int 1 v]},toks:=tk}:=by
  refine wpAny_pyIter_range (IsRange.new ..) (small_one h1 h2 h3 h4) ?_;have I1:Inv X pins σ H {s with heap:=s.heap.push {cls:=.type "range",data:=.fields #[.int lo t,.int hi u,.int 1 v]},toks:=tk}:=I.kept λb o e=>aiL _ e;refine⟨(s.heap.push {cls:=.type "range",data:=.fields #[.int lo t,.int hi u,.int 1 v]}).objs.size,[(s.heap.push {cls:=.type "range",data:=.fields #[.int lo t,.int hi u,.int 1 v]}).objs.size],_,_,H,rfl,
    I1.kept (t':=tk) λb o e=>aiL _ e,Nb _ lo (hi-lo).toNat,?_,λb hb=>?_,q⟩
  · have e1:lo+((0:Nat):Int)*1=lo:=by simp
    have e2:(((hi-lo).toNat:Nat):Int)-((0:Nat):Int)=Builtin.Range.rangeSize lo hi 1:=(by rw[rangeSize_one];split<;>omega);show IsRangeIter _ _ (lo+((0:Nat):Int)*1) ((((hi-lo).toNat:Nat):Int)-((0:Nat):Int)) 1;rw[e1,e2];exact ajh _ rfl
  · have e:b=(s.heap.push {cls:=.type "range",data:=.fields #[.int lo t,.int hi u,.int 1 v]}).objs.size:=by simpa using hb
    subst e;exact I1.T2 (aiN _) (I1.hok.fresh (aiN _))
noncomputable def YX(ta:TA):TI:=λσ H R=>ta σ H λvs H1=>∃ j:Int,vs=[.int j]∧-(2 ^ 62)≤j∧j<2 ^ 62∧R (Itr 0 j.toNat) H1
theorem D4{a:Expr}{ta:TA}{p pos:Pos}(hg:Gl X "range")(hm:X.mg "range" = none)(ha:PA X [a] ta)(hs:starEach [a] X.env=[(false,eval a X.env)]:=by rfl):PI X tg (.Call (.Name "range" p) [a] [] pos) (YX ta):=by
  intro pins s σ H R I h;refine Call_ (Fn I hg hm boot_range (PyProof.Rows.callWith_type1 (thn (ha pos pins s σ H _ I h) λus s1 ⟨vs,H1,I1,r1,q1⟩=>?_) hs rfl));obtain⟨j,e,q1,q2,q⟩:=q1;subst e;cases r1 with
  | cons r rr =>
    cases rr;obtain⟨t,rfl⟩:=r;exact call_range_1 (RB I1 (by omega) (by omega) q1 q2 (by simpa using q))
noncomputable def afd(wi:TI)(g:TG)(tb:TS):TS:=λD σ H=>wi σ H λJ H1=>∃ W:Nat→Nat→St→Hp→Prop,(∃ m,W 0 m σ H1)∧∀ i m σ H,W i m σ H →
  (J.stop i H∧D.nx σ H)∨(J.go i H∧∃ N:St→Hp→Prop,(∀ σ' H',N σ' H'→∃ m',m'<m∧W (i+1) m' σ' H')∧∀ x H',J.yld i H x H'→g x σ H' λσ2 H2=>tb {D with nx:=N,ct:=N,bk:=D.nx} σ2 H2)
noncomputable def Fo(fp:List Addr)(h:Heap):List (Addr×Obj):=fp.filterMap λb=>(h.get? b).map λo=>(b,o)
theorem iH{fp:List Addr}{h:Heap}{b:Addr}{o:Obj}(hb:b∈fp)(e:h.get? b=some o):(b,o)∈Fo fp h:=ajD.mpr ⟨b,hb,by rw[e];rfl⟩
theorem Qm{fp:List Addr}{h:Heap}{p:Addr×Obj}(hp:p∈Fo fp h):p.1∈fp∧h.get? p.1=some p.2:=by
  obtain⟨b,hb,e⟩:=ajD.mp hp;cases q:h.get? b with
  | none=>rw[q]at e;cases e
  | some o =>
    rw[q]at e;have e':(b,o)=p:=aja e;subst e';exact⟨hb,q⟩
theorem Inv.pinned{pins:List (Addr×Obj)}{σ:St}{H:Hp}{s:Shared}{fp:List Addr}(I:Inv X pins σ H s)(hf:∀ b∈fp,Gv X pins H b)(ho:∀ b∈fp,∃ o,s.heap.get? b=some o∧∀ v,o.data≠.cell v):Inv X (pins++Fo fp s.heap) σ H s :=
  I.OT λp hp=>(aiS.mp hp).elim (λz=>I.pin p (aiP _ z)) λz=>by
    obtain⟨hb,e⟩:=Qm z;obtain⟨f0,f1,f2,_⟩:=hf p.1 hb;obtain⟨o,e',d⟩:=ho p.1 hb;rw[e]at e';cases e';exact⟨e,f0,f1,f2,d⟩
theorem Inv.pP{pins pl:List (Addr×Obj)}{σ:St}{H:Hp}{s:Shared}(I:Inv X (pins++pl) σ H s):Inv X pins σ H s:=I.OT λp hp=>I.pin p (aiP _ (ajb _ hp))
theorem nK{iter:Expr}{body:List Stmt}{wi:TI}{g:TG}{tb:TS}{pos:Pos}(hp:PassesOwn (model X.prog X.w) X.A X.env X.xe)(hc:X.calm=true)(hi:PI X tg iter wi)(hg:PG X tg g)(hb:PSs X body tb)
    (hs:∀ x,foldedSetIterable iter X.env x=pure x:=by intro _;rfl):PS X (.For tg iter body [] pos) (afd wi g tb):=by
  intro pins s σ H D I h;refine wpAny_For (thn (hi pins s σ H _ I h) λv s1 h1=>thn h1 λitv s2 h2=>?_) hs;obtain⟨it,fp,tn,J,H2,e,I2,T,st2,f2,W,⟨m0,w0⟩,turn⟩:=h2;subst e;have Fv:∀ {H':Hp},(∀ b∈fp,H' b=none)→∀ b∈fp,Gv X pins H' b:=λhn b hb=>⟨hn b hb,(f2 b hb).2⟩;refine codeAny_forLoop_any (λn s'=>∃ i σ' H',Inv X pins σ' H' s'∧tn i s'.heap∧(∀ b∈fp,H' b=none)∧W i n σ' H') ?_ m0 ⟨0,σ,H2,I2,st2,λb hb=>(f2 b hb).1,w0⟩;rintro n s3 ⟨i,σ3,H3,I3,st3,fr3,w3⟩;rcases turn i n σ3 H3 w3 with⟨stop,qn⟩|⟨go,N,hN,step⟩
  · refine wpAny_passesOwn hp (thn (T.done X rfl rfl rfl hc i pins s3 σ3 H3 X.xe I3 (Fv fr3) st3 stop) λr s4 ⟨hr,I4⟩=>?_)
    subst hr;exact wpAny_execs_nil ⟨σ3,H3,I4,qn⟩
  · refine wpAny_passesOwn hp (thn (T.item X rfl rfl rfl hc i pins s3 σ3 H3 X.xe I3 (Fv fr3) st3 go) λr s4 ⟨u,hr,h4⟩=>?_)
    subst hr;refine wpAny_passesOwn hp (thn h4 λ_ s5 ⟨x,H5,I5,r5,y5,st5,fr5⟩=>?_);have I5':=I5.pinned (Fv fr5) (T.obj _ _ st5);refine wpAny_passesOwn hp (thn (hg _ s5 σ3 H5 x u _ I5' r5 (step x H5 y5)) λ_ s6 ⟨σ6,H6,I6,q6⟩=>?_);refine wpAny_passesOwn hp (thn (hb _ s6 σ6 H6 _ I6 q6) λf s7 q7=>?_);have again:∀ {σ7:St} {H7:Hp},Inv X (pins++Fo fp s5.heap) σ7 H7 s7→N σ7 H7→∃ m,m<n∧∃ i σ' H',Inv X pins σ' H' s7∧tn i s7.heap∧(∀ b∈fp,H' b=none)∧W i m σ' H':=λ{σ7 H7} I7 n7=>by
      obtain⟨m',hm,w7⟩:=hN σ7 H7 n7;refine⟨m',hm,i+1,σ7,H7,I7.pP,T.keep _ _ _ st5 λb hb o e=>(I7.pin (b,o) (aiP _ (aiP _ (iH hb e)))).1,λb hb=>?_,w7⟩;obtain⟨o,e,d⟩:=T.obj _ _ st5 b hb;exact(I7.pin (b,o) (aiP _ (aiP _ (iH hb e)))).2.1
    cases f with
    | next=>obtain⟨σ7,H7,I7,n7⟩:=q7;exact again I7 n7
    | cont=>obtain⟨σ7,H7,I7,n7⟩:=q7;exact again I7 n7
    | brk=>obtain⟨σ7,H7,I7,q7⟩:=q7;exact⟨σ7,H7,I7.pP,q7⟩
    | ret v=>obtain⟨x7,σ7,H7,I7,r7,q7⟩:=q7;exact⟨x7,σ7,H7,I7.pP,r7,q7⟩
end
theorem BU{K:W.Frag}{a:Addr}{xs:List V}{g:TG}{tb:TS}{D:Ends}{σ:St}{H:Hp}(Pv:Nat→St→Hp→Prop)(h0:Pv 0 σ H)(hl:∀ i σ H,i≤xs.length→Pv i σ H→SqL K H a xs)
    (hs:∀ i x σ H,xs[i]?=some x→Pv i σ H→g x σ H λσ2 H2=>tb {D with nx:=Pv (i+1),ct:=Pv (i+1),bk:=D.nx} σ2 H2) (hd:∀ σ H,Pv xs.length σ H→D.nx σ H) :
    ∃ W:Nat→Nat→St→Hp→Prop,(∃ m,W 0 m σ H)∧∀ i m σ H,W i m σ H →
      ((Itl K a).stop i H∧D.nx σ H)∨((Itl K a).go i H∧∃ N:St→Hp→Prop,(∀ σ' H',N σ' H'→∃ m',m'<m∧W (i+1) m' σ' H')∧∀ x H',(Itl K a).yld i H x H'→g x σ H' λσ2 H2=>tb {D with nx:=N,ct:=N,bk:=D.nx} σ2 H2):=by
  refine⟨λi m σ H=>m=xs.length-i∧i≤xs.length∧Pv i σ H,⟨xs.length,by simp,ajk _,h0⟩,?_⟩;rintro i m σ H ⟨rfl,hi,p⟩;have q:=hl i σ H hi p;by_cases hlt:i<xs.length
  · refine .inr ⟨⟨xs,xs[i],q,by simp[hlt]⟩,Pv (i+1),λσ' H' p'=>⟨xs.length-(i+1),by omega,rfl,hlt,p'⟩,λx H' y=>?_⟩
    obtain⟨e,y⟩:=y;subst e;exact hs i x σ _ (y xs q) p
  · have e:i=xs.length:=by omega
    subst e;exact .inl ⟨⟨xs,q,aiN _⟩,hd σ H p⟩
theorem D5{lo:Int}{n:Nat}{g:TG}{tb:TS}{D:Ends}{σ:St}{H:Hp}(Pv:Nat→St→Hp→Prop)(h0:Pv 0 σ H)
    (hs:∀ i σ H,i<n→Pv i σ H→g (.int (lo+i)) σ H λσ2 H2=>tb {D with nx:=Pv (i+1),ct:=Pv (i+1),bk:=D.nx} σ2 H2) (hd:∀ σ H,Pv n σ H→D.nx σ H) :
    ∃ W:Nat→Nat→St→Hp→Prop,(∃ m,W 0 m σ H)∧∀ i m σ H,W i m σ H →
      ((Itr lo n).stop i H∧D.nx σ H)∨((Itr lo n).go i H∧∃ N:St→Hp→Prop,(∀ σ' H',N σ' H'→∃ m',m'<m∧W (i+1) m' σ' H')∧∀ x H',(Itr lo n).yld i H x H'→g x σ H' λσ2 H2=>tb {D with nx:=N,ct:=N,bk:=D.nx} σ2 H2):=by
  refine⟨λi m σ H=>m=n-i∧i≤n∧Pv i σ H,⟨n,by simp,ajk _,h0⟩,?_⟩;rintro i m σ H ⟨rfl,hi,p⟩;by_cases hlt:i<n
  · refine .inr ⟨hlt,Pv (i+1),λσ' H' p'=>⟨n-(i+1),by omega,rfl,hlt,p'⟩,λx H' y=>?_⟩
    obtain⟨e,y⟩:=y;subst e y;exact hs i σ _ hlt p
  · have e:i=n:=by omega
    subst e;exact .inl ⟨aiN _,hd σ H p⟩
end L2
namespace L2
open PySem PySem.Spec PyProof.Rows
noncomputable abbrev R2:=V→V→Hp→VK→Prop
noncomputable def OpR(X:Cx)(f:Value→Value→Sem Value)(r:R2):Prop :=
  ∀(pins:List (Addr×Obj)) (s:Shared) (σ:St) (H:Hp) (x y:V) (v u:Value) (Q:VK),Inv X pins σ H s→RelV x v→RelV y u→r x y H Q →
    wpAny (model X.prog X.w) X.A (f v u) (EP X pins σ Q) X.xe s
noncomputable def UnR(X:Cx)(f:Value→Sem Value)(r:V→Hp→VK→Prop):Prop :=
  ∀(pins:List (Addr×Obj)) (s:Shared) (σ:St) (H:Hp) (x:V) (v:Value) (Q:VK),Inv X pins σ H s→RelV x v→r x H Q →
    wpAny (model X.prog X.w) X.A (f v) (EP X pins σ Q) X.xe s
noncomputable def qq(X:Cx)(f:Value)(r:List V→Hp→VK→Prop):Prop :=
  ∀(pins:List (Addr×Obj)) (s:Shared) (σ:St) (H:Hp) (xs:List V) (us:List Value) (Q:VK),Inv X pins σ H s→Vals xs us→r xs H Q →
    wpAny (model X.prog X.w) X.A (call f us) (EP X pins σ Q) X.xe s
noncomputable def afe(X:Cx)(r:V→Hp→(Bool→Hp→Prop)→Prop):Prop :=
  ∀(pins:List (Addr×Obj)) (s:Shared) (σ:St) (H:Hp) (x:V) (v:Value) (Q:Bool→Hp→Prop),Inv X pins σ H s→RelV x v→r x H Q →
    wpAny (model X.prog X.w) X.A (truthy v) (TP X pins σ Q) X.xe s
noncomputable def tOp(r:R2)(ta tb:TE):TE:=λσ H Q=>ta σ H λx H1=>tb σ H1 λy H2=>r x y H2 Q
noncomputable def tUn(r:V→Hp→VK→Prop)(ta:TE):TE:=λσ H Q=>ta σ H λx H1=>r x H1 Q
inductive IrI(C:Int→Int→Prop)(g:Int→Int→V)(x y:V)(H:Hp)(Q:VK):Prop where
  | mk (i j:Int):x=.int i→y=.int j→C i j→Q (g i j) H→IrI C g x y H Q
noncomputable def rI(C:Int→Int→Prop)(g:Int→Int→V):R2:=λx y H Q=>IrI C g x y H Q
inductive ZR(g:Int→Int→V)(x y:V)(H:Hp)(Q:VK):Prop where
  | mk (i j:Int):x=.int i→y=.int j→Q (g i j) H→ZR g x y H Q
noncomputable def rI0(g:Int→Int→V):R2:=λx y H Q=>ZR g x y H Q
noncomputable def rU(g:Int→V):V→Hp→VK→Prop:=λx H Q=>∃ i,x=.int i∧Q (g i) H
section
variable{X:Cx}{a b c:Expr}{ta tb tc:TE}{pos:Pos}
theorem W3(ha:PE X a ta)(hb:PE X b tb){pins:List (Addr×Obj)}{s:Shared}{σ:St}{H:Hp}{R:V→V→Hp→Prop}(I:Inv X pins σ H s)
    (h:ta σ H λx H1=>tb σ H1 λy H2=>R x y H2) {Q:Value→Shared→Prop} {f:Value→Value→Sem Value}
    (hf:∀ v u s2 x y H2,Inv X pins σ H2 s2→RelV x v→RelV y u→R x y H2→wpAny (model X.prog X.w) X.A (f v u) Q X.xe s2) :
    wpAny (model X.prog X.w) X.A (eval a X.env) (λv s₁=>wpAny (model X.prog X.w) X.A (eval b X.env) (λu s₂=>wpAny (model X.prog X.w) X.A (f v u) Q X.xe s₂) X.xe s₁) X.xe s:=by
  refine thn (ha pins s σ H _ I h) λv s1 ⟨x,H1,I1,r1,q1⟩=>?_;refine thn (hb pins s1 σ H1 _ I1 q1) λu s2 ⟨y,H2,I2,r2,q2⟩=>?_;exact hf v u s2 x y H2 I2 r1 r2 q2
theorem eE{op:Operator}{r:R2}(ho:OpR X (binaryOp op) r)(ha:PE X a ta)(hb:PE X b tb):PE X (.BinOp a op b pos) (tOp r ta tb):=by
  intro pins s σ H Q I h;exact wpAny_BinOp (W3 ha hb I h λv u s2 x y H2 I2 rx ry q=>ho pins s2 σ H2 x y v u Q I2 rx ry q)
theorem YY{op:UnaryOp}{r:V→Hp→VK→Prop}(ho:UnR X (unaryOp op) r)(ha:PE X a ta):PE X (.UnaryOp op a pos) (tUn r ta):=by
  intro pins s σ H Q I h;exact UnaryOp_ (thn (ha pins s σ H _ I h) λv s1 ⟨x,H1,I1,r1,q1⟩=>ho pins s1 σ H1 x v Q I1 r1 q1)
theorem opI{f:Value→Value→Sem Value}{C:Int→Int→Prop}{g:Int→Int→Int}
    (rule:∀(i j:Int) (t u:Tok) (s:Shared) (Q:Value→Shared→Prop) (E:Value→Shared→Prop),C i j→Q (.int (g i j) s.toks) {s with toks:=s.toks+1}→wpAny (model X.prog X.w) X.A (f (.int i t) (.int j u)) Q E s) :
    OpR X f (rI C λi j=>.int (g i j)):=by
  intro pins s σ H x y v u Q I rx ry h;obtain⟨i,j,rfl,rfl,hc,q⟩:=h;obtain⟨t,rfl⟩:=rx;obtain⟨t',rfl⟩:=ry;exact rule i j t t' s _ _ hc ⟨.int (g i j),H,I.tok _,⟨_,rfl⟩,q⟩
theorem ZS{f:Value→Value→Sem Value}{g:Int→Int→Int}
    (rule:∀(i j:Int) (t u:Tok) (s:Shared) (Q:Value→Shared→Prop) (E:Value→Shared→Prop),Q (.int (g i j) s.toks) {s with toks:=s.toks+1}→wpAny (model X.prog X.w) X.A (f (.int i t) (.int j u)) Q E s) :
    OpR X f (rI0 λi j=>.int (g i j)):=by
  intro pins s σ H x y v u Q I rx ry h;obtain⟨i,j,rfl,rfl,q⟩:=h;obtain⟨t,rfl⟩:=rx;obtain⟨t',rfl⟩:=ry;exact rule i j t t' s _ _ ⟨.int (g i j),H,I.tok _,⟨_,rfl⟩,q⟩
theorem Vk{f:Value→Value→Sem Value}{g:Int→Int→Bool}
    (rule:∀(i j:Int) (t u:Tok) (s:Shared) (Q:Value→Shared→Prop) (E:Value→Shared→Prop),Q (.bool (g i j)) s→wpAny (model X.prog X.w) X.A (f (.int i t) (.int j u)) Q E s) :
    OpR X f (rI0 λi j=>.bl (g i j)):=by
  intro pins s σ H x y v u Q I rx ry h;obtain⟨i,j,rfl,rfl,q⟩:=h;obtain⟨t,rfl⟩:=rx;obtain⟨t',rfl⟩:=ry;exact rule i j t t' s _ _ ⟨.bl (g i j),H,I,rfl,q⟩
noncomputable def aff(i j:Int):Prop:=0<j∧j<1073741824
noncomputable def afg(i j:Int):Prop:=0≤j∧j≤1000000∧i.natAbs<2 ^ 64
noncomputable def W5(i j:Int):Prop:=(-(2 ^ 64)<i∧i<2 ^ 64)∨(-(2 ^ 64)<j∧j<2 ^ 64)
theorem W5.ok{i j:Int}(h:W5 i j):IntMulOk i j:=by
  rcases h with⟨h1,h2⟩|⟨h1,h2⟩
  · exact .of_left (intBits_le_64 h1 h2)
  · exact .of_right (intBits_le_64 h1 h2)
theorem Fp:OpR X (binaryOp .Add) (rI0 λi j=>.int (i+j)):=ZS λ_ _ _ _ _ _ _ q=>add_int q
theorem OB:OpR X (binaryOp .Sub) (rI0 λi j=>.int (i-j)):=ZS λ_ _ _ _ _ _ _ q=>sub_int q
theorem KO:OpR X (binaryOp .Mult) (rI W5 λi j=>.int (i*j)):=opI λ_ _ _ _ _ _ _ hc q=>mul_int q hc.ok
theorem wY:OpR X (binaryOp .FloorDiv) (rI aff λi j=>.int (i/j)):=opI λi j _ _ _ _ _ hc q=>by
  have h1:(0:Int)<j:=hc.1;have h2:j<1073741824:=hc.2;exact floordiv_int (by omega) (by rw[Int.fdiv_eq_ediv_of_nonneg i (by omega)];exact q) (.inl (PyProof.noPylong_small (by omega)))
theorem mh:OpR X (binaryOp .Mod) (rI (λ_ j=>0<j) λi j=>.int (i%j)):=opI λi j _ _ _ _ _ hc q=>by
  have h1:(0:Int)<j:=hc;exact mod_int' (by omega) (by rw[Int.fmod_eq_emod_of_nonneg i (by omega)];exact q)
theorem V4:OpR X (binaryOp .Pow) (rI afg λi j=>.int (i ^ j.toNat)):=opI λ_ _ _ _ _ _ _ hc q=>pow_int_small hc.1 hc.2.1 hc.2.2 q
theorem unI{f:Value→Sem Value}{g:Int→Int}
    (rule:∀(i:Int) (t:Tok) (s:Shared) (Q:Value→Shared→Prop) (E:Value→Shared→Prop),Q (.int (g i) s.toks) {s with toks:=s.toks+1}→wpAny (model X.prog X.w) X.A (f (.int i t)) Q E s) :
    UnR X f (rU λi=>.int (g i)):=by
  intro pins s σ H x v Q I rx h;obtain⟨i,rfl,q⟩:=h;obtain⟨t,rfl⟩:=rx;exact rule i t s _ _ ⟨.int (g i),H,I.tok _,⟨_,rfl⟩,q⟩
theorem V5:UnR X (unaryOp .USub) (rU λi=>.int (-i)):=unI λ_ _ _ _ _ q=>neg_int q
end
noncomputable def ZT:V→V→Bool
  | .non,.non=>true|.non,.int _=>true|.int _,.non=>true|.non,.bl _=>true|.bl _,.non=>true|.non,.str _=>true|.str _,.non=>true
  | .int _,.int _=>true|.bl _,.bl _=>true|.str _,.str _=>true|.byt _,.byt _=>true
  | .int _,.str _=>true|.str _,.int _=>true|.bl _,.str _=>true|.str _,.bl _=>true
  | _,_=>false
noncomputable def rEq:R2:=λx y H Q=>ZT x y=true∧Q (.bl (decide (x=y))) H
noncomputable def rNe:R2:=λx y H Q=>ZT x y=true∧Q (.bl (!decide (x=y))) H
theorem OV{i j:Int}:decide (V.int i=V.int j)=(i == j):=by
  rw[akt];simp
theorem Ss{i j:Bool}:decide (V.bl i=V.bl j)=(i == j):=by
  rw[akt];simp
theorem OW{i j:Str}:decide (V.str i=V.str j)=(i == j):=by
  rw[akt];simp
theorem OX{i j:Array UInt8}:decide (V.byt i=V.byt j)=(i.toList == j.toList):=by
  rw[akt];cases i;cases j;simp
section
variable{X:Cx}{a b c:Expr}{ta tb tc:TE}{pos:Pos}
theorem dJ{pins:List (Addr×Obj)}{σ:St}{H:Hp}{s:Shared}{Q:VK}{k k':Bool}(I:Inv X pins σ H s)(q:Q (.bl k) H)(e:k=k'):EP X pins σ Q (.bool k') s:=by
  subst e;exact⟨.bl k,H,I,rfl,q⟩
theorem nM:OpR X (compareOp .Eq) rEq:=by
  intro pins s σ H x y v u Q I rx ry h;obtain⟨hs,q⟩:=h;cases x with
  | non =>
    cases rx;cases y with
    | non=>cases ry;exact PySem.EqNone.eq_none_none (dJ I q (by simp))
    | bl j=>cases ry;exact PySem.EqNone.eq_none_bool (dJ I q (by simp))
    | int j=>obtain⟨t',rfl⟩:=ry;exact PySem.EqNone.eq_none_int (dJ I q (by simp))
    | str j=>obtain⟨t',rfl⟩:=ry;exact PySem.EqNone.eq_none_str (dJ I q (by simp))
    | _=>exact absurd (show false=true from hs) aiO
  | bl i =>
    cases rx;cases y with
    | non=>cases ry;exact PySem.EqNone.eq_bool_none (dJ I q (by simp))
    | bl j=>cases ry;exact eq_bool (dJ I q Ss)
    | str j=>obtain⟨t',rfl⟩:=ry;exact PySem.EqMixed.eq_bool_str (dJ I q (by simp))
    | _=>exact absurd (show false=true from hs) aiO
  | int i =>
    obtain⟨t,rfl⟩:=rx;cases y with
    | non=>cases ry;exact PySem.EqNone.eq_int_none (dJ I q (by simp))
    | int j=>obtain⟨t',rfl⟩:=ry;exact eq_int (dJ I q OV)
    | str j=>obtain⟨t',rfl⟩:=ry;exact PySem.EqMixed.eq_int_str (dJ I q (by simp))
    | _=>exact absurd (show false=true from hs) aiO
  | str i =>
    obtain⟨t,rfl⟩:=rx;cases y with
    | non=>cases ry;exact PySem.EqNone.eq_str_none (dJ I q (by simp))
    | bl j=>cases ry;exact PySem.EqMixed.eq_str_bool (dJ I q (by simp))
    | int j=>obtain⟨t',rfl⟩:=ry;exact PySem.EqMixed.eq_str_int (dJ I q (by simp))
    | str j=>obtain⟨t',rfl⟩:=ry;exact eq_str (dJ I q OW)
    | _=>exact absurd (show false=true from hs) aiO
  | byt i =>
    obtain⟨t,rfl⟩:=rx;cases y with
    | byt j=>obtain⟨t',rfl⟩:=ry;exact PySem.W.eq_bytes (dJ I q OX)
    | _=>exact absurd (show false=true from hs) aiO
  | _=>cases y<;>exact absurd (show false=true from hs) aiO
theorem Q7:OpR X (compareOp .NotEq) rNe:=by
  intro pins s σ H x y v u Q I rx ry h;obtain⟨hs,q⟩:=h;cases x with
  | non =>
    cases rx;cases y with
    | non=>cases ry;exact PySem.EqNone.ne_none_none (dJ I q (by simp))
    | bl j=>cases ry;exact PySem.EqNone.ne_none_bool (dJ I q (by simp))
    | int j=>obtain⟨t',rfl⟩:=ry;exact PySem.EqNone.ne_none_int (dJ I q (by simp))
    | str j=>obtain⟨t',rfl⟩:=ry;exact PySem.EqNone.ne_none_str (dJ I q (by simp))
    | _=>exact absurd (show false=true from hs) aiO
  | bl i =>
    cases rx;cases y with
    | non=>cases ry;exact PySem.EqNone.ne_bool_none (dJ I q (by simp))
    | bl j=>cases ry;exact ne_bool (dJ I q (congrArg not Ss))
    | str j=>obtain⟨t',rfl⟩:=ry;exact PySem.EqMixed.ne_bool_str (dJ I q (by simp))
    | _=>exact absurd (show false=true from hs) aiO
  | int i =>
    obtain⟨t,rfl⟩:=rx;cases y with
    | non=>cases ry;exact PySem.EqNone.ne_int_none (dJ I q (by simp))
    | int j=>obtain⟨t',rfl⟩:=ry;exact ne_int (dJ I q (congrArg not OV))
    | str j=>obtain⟨t',rfl⟩:=ry;exact PySem.EqMixed.ne_int_str (dJ I q (by simp))
    | _=>exact absurd (show false=true from hs) aiO
  | str i =>
    obtain⟨t,rfl⟩:=rx;cases y with
    | non=>cases ry;exact PySem.EqNone.ne_str_none (dJ I q (by simp))
    | bl j=>cases ry;exact PySem.EqMixed.ne_str_bool (dJ I q (by simp))
    | int j=>obtain⟨t',rfl⟩:=ry;exact PySem.EqMixed.ne_str_int (dJ I q (by simp))
    | str j=>obtain⟨t',rfl⟩:=ry;exact ne_str (dJ I q (congrArg not OW))
    | _=>exact absurd (show false=true from hs) aiO
  | byt i =>
    obtain⟨t,rfl⟩:=rx;cases y with
    | byt j=>obtain⟨t',rfl⟩:=ry;exact PySem.W.ne_bytes (dJ I q (congrArg not OX))
    | _=>exact absurd (show false=true from hs) aiO
  | _=>cases y<;>exact absurd (show false=true from hs) aiO
theorem Gw:OpR X (compareOp .Lt) (rI0 λi j=>.bl (decide (i<j))):=Vk λ_ _ _ _ _ _ _ q=>lt_int q
theorem Ez:OpR X (compareOp .LtE) (rI0 λi j=>.bl (decide (i≤j))):=Vk λ_ _ _ _ _ _ _ q=>le_int q
theorem KP:OpR X (compareOp .Gt) (rI0 λi j=>.bl (decide (j<i))):=Vk λ_ _ _ _ _ _ _ q=>gt_int q
theorem YZ:OpR X (compareOp .GtE) (rI0 λi j=>.bl (decide (j≤i))):=Vk λ_ _ _ _ _ _ _ q=>ge_int q
theorem Su:OpR X (compareOp .Is) (λx y H Q=>y=.non∧Q (.bl (decide (x=.non))) H):=by
  intro pins s σ H x y v u Q I rx ry h;obtain⟨rfl,q⟩:=h;cases ry;refine is_none_gen (dJ I q ?_);cases x<;>first
    | (cases rx;rfl)
    | (obtain⟨t,rfl⟩:=rx;rfl)
theorem Gx:OpR X (compareOp .IsNot) (λx y H Q=>y=.non∧Q (.bl (!decide (x=.non))) H):=by
  intro pins s σ H x y v u Q I rx ry h;obtain⟨rfl,q⟩:=h;cases ry;refine isnot_none_gen (dJ I q ?_);cases x<;>first
    | (cases rx;rfl)
    | (obtain⟨t,rfl⟩:=rx;rfl)
theorem bN(b:Expr){op:CmpOp}(h:op≠.In:=by decide)(h2:op≠.NotIn:=by decide):behindInMarks op b=false:=by
  have e1:(op == CmpOp.In)=false:=by cases op<;>first|rfl|exact absurd rfl h
  have e2:(op == CmpOp.NotIn)=false:=by cases op<;>first|rfl|exact absurd rfl h2
  cases b<;>simp[behindInMarks,e1,e2]
theorem Gy{op:CmpOp}{r:R2}(ho:OpR X (compareOp op) r)(ha:PE X a ta)(hb:PE X b tb)(hm:behindInMarks op b=false):PE X (.Compare a [op] [b] pos) (tOp r ta tb):=by
  intro pins s σ H Q I h;exact wpAny_Compare1 (W3 ha hb I h λv u s2 x y H2 I2 rx ry q=>ho pins s2 σ H2 x y v u Q I2 rx ry q) hm
noncomputable def Vm(t:TE):TT:=λσ H Q=>t σ H λx H'=>W0 x H' Q
theorem aJ{op:CmpOp}{r:R2}(ho:OpR X (compareOp op) r)(ha:PE X a ta)(hb:PE X b tb)(hm:behindInMarks op b=false):PT X (.Compare a [op] [b] pos) (Vm (tOp r ta tb)):=by
  intro pins s σ H Q I h;refine wpAny_isTrue_Compare1 (thn (ha pins s σ H _ I h) λv s1 ⟨x,H1,I1,r1,q1⟩=>thn (hb pins s1 σ H1 _ I1 q1) λu s2 ⟨y,H2,I2,r2,q2⟩ =>
    thn (ho pins s2 σ H2 x y v u _ I2 r1 r2 q2) λc s3 ⟨z,H3,I3,r3,k,e,q3⟩=>?_) hm
  subst e;cases r3;exact wpAny_truthy_bool ⟨H3,I3,q3⟩
noncomputable def V6(r r':R2)(ta tb tc:TE):TE:=λσ H Q=>ta σ H λx H1=>tb σ H1 λy H2=>r x y H2 λz H3=>∃ k,z=.bl k ∧
  (if k=true then tc σ H3 λw' H4=>r' y w' H4 Q else Q (.bl false) H3)
theorem rN{op op':CmpOp}{r r':R2}(ho:OpR X (compareOp op) r)(ho':OpR X (compareOp op') r')(ha:PE X a ta)(hb:PE X b tb)(hc:PE X c tc)
    (hm:lastMarks [op,op'] [b,c]=false:=by with_unfolding_all rfl):PT X (.Compare a [op,op'] [b,c] pos) (Vm (V6 r r' ta tb tc)):=by
  intro pins s σ H Q I h;refine isTrue_chain (thn (ha pins s σ H _ I h) λv s1 ⟨x,H1,I1,r1,q1⟩=>test_link (thn (hb pins s1 σ H1 _ I1 q1) λu s2 ⟨y,H2,I2,r2,q2⟩ =>
    thn (ho pins s2 σ H2 x y v u _ I2 r1 r2 q2) λd s3 ⟨z,H3,I3,r3,k,e,q3⟩=>?_)) hm
  subst e;cases r3;refine wpAny_truthy_bool ?_;cases k with
  | false =>
    obtain⟨k',e',q'⟩:=q3;cases e';exact ite_ff ⟨H3,I3,q'⟩
  | true =>
    refine ite_tt (test_last (thn (hc pins s3 σ H3 _ I3 q3) λw' s4 ⟨z',H4,I4,r4,q4⟩=>thn (ho' pins s4 σ H4 y z' u w' _ I4 r2 r4 q4) λd' s5 ⟨z2,H5,I5,r5,k2,e2,q5⟩=>?_));subst e2;cases r5;exact wpAny_truthy_bool ⟨H5,I5,q5⟩
noncomputable def ZU(K:W.Frag)(x:V)(H:Hp)(k:Bool):Prop :=
  match x with
  | .non=>k=false
  | .bl b=>k=b
  | .int i=>k=(i != 0)
  | .str y=>y.length≤sizeLine∧k=((y.length:Int) != 0)
  | .byt y=>y.size≤sizeLine∧k=((y.size:Int) != 0)
  | .ref p=>(∃ xs,SqL K H p xs∧k=!xs.isEmpty)∨(∃ xs,SqT K H p xs∧k=!xs.isEmpty)∨∃ kvs,H p=some (.dK kvs)∧k=!kvs.isEmpty
  | _=>False
theorem Nc{κ:Type}{kvs:List (κ×V)}{vs:List (κ×Value)}(r:KV kvs vs):(!vs.isEmpty)=!kvs.isEmpty:=by
  cases r<;>rfl
theorem Gz{xs:List V}{its:List Value}(r:Vals xs its):(!its.toArray.isEmpty)=!xs.isEmpty:=by
  cases r<;>simp
theorem HG:(sizeLine:Nat)<2 ^ 63:=by rw[sizeLine_eq];decide
theorem V7:afe X (λx H Q=>∃ k,ZU X.K x H k∧Q k H):=by
  intro pins s σ H x v Q I rx h;obtain⟨k,e,q⟩:=h;have hl:=HG;have hs:sizeLine=16777216:=sizeLine_eq;cases x with
  | non =>
    cases rx;have e':k=false:=e;subst e';exact truthy_none ⟨H,I,q⟩
  | bl b =>
    cases rx;have e':k=b:=e;subst e';exact wpAny_truthy_bool ⟨H,I,q⟩
  | int i =>
    obtain⟨t,rfl⟩:=rx;have e':k=(i != 0):=e;subst e';exact PySem.P.truthy_int ⟨H,I,q⟩
  | str y =>
    obtain⟨t,rfl⟩:=rx;obtain⟨hy,e'⟩:y.length≤sizeLine∧k=((y.length:Int) != 0):=e;subst e';exact PySem.P.truthy_str (by omega) ⟨H,I.tok _,q⟩
  | byt y =>
    obtain⟨t,rfl⟩:=rx;obtain⟨hy,e'⟩:y.size≤sizeLine∧k=((y.size:Int) != 0):=e;subst e';exact PySem.W.truthy_bytes (by omega) ⟨H,I.tok _,q⟩
  | ref p =>
    cases rx;have e':(∃ xs,SqL X.K H p xs∧k=!xs.isEmpty)∨(∃ xs,SqT X.K H p xs∧k=!xs.isEmpty)∨∃ kvs,H p=some (.dK kvs)∧k=!kvs.isEmpty:=e;rcases e' with⟨xs,hx,e'⟩|⟨xs,hx,e'⟩|⟨kvs,hx,e'⟩
    · subst e'
      obtain⟨its,r,pl,hz⟩:=I.list hx;have hlen:=r.length;exact wpAny_truthy_list pl.isList (by simp only[aiQ];omega) ⟨H,I.tok _,by rw[Gz r];exact q⟩
    · subst e'
      obtain⟨its,r,pl,hz⟩:=I.tuple hx;have hlen:=r.length;exact truthy_tuple pl (by simp only[aiQ];omega) ⟨H,I.tok _,by rw[Gz r];exact q⟩
    · subst e'
      obtain⟨hz,hS,vs,r,m⟩:kvs.length≤sizeLine∧(p == sysModules)=false∧∃ vs,KV kvs vs∧s.heap.DictOf (cL X.prog X.w) p vs:=I.hok p _ hx;have hlen:kvs.length=vs.length:=akF r;exact wpAny_truthy_dict hS m (by omega) ⟨H,I.tok _,by rw[Nc r];exact q⟩
  | _=>exact(show False from e).elim
theorem nA(ha:PE X a ta)(he:∀ whole,isTrue a X.env whole=(do let v ←whole;standAt a.pos;holding [v] (truthy v))) :
    PT X a (λσ H Q=>ta σ H λx H'=>∃ k,ZU X.K x H' k∧Q k H'):=by
  intro pins s σ H Q I h;exact isTrue_plain (thn (ha pins s σ H _ I h) λv s1 ⟨x,H1,I1,r1,q1⟩=>V7 pins s1 σ H1 x v Q I1 r1 q1) (he _)
theorem vals1{x:V}{us:List Value}(r:Vals [x] us):∃ u,us=[u]∧RelV x u:=by
  cases r with
  | cons r1 r2=>cases r2;exact⟨_,rfl,r1⟩
theorem vals2{x y:V}{us:List Value}(r:Vals [x,y] us):∃ u w',us=[u,w']∧RelV x u∧RelV y w':=by
  cases r with
  | cons r1 r2 =>
    cases r2 with
    | cons r3 r4=>cases r4;exact⟨_,_,rfl,r1,r3⟩
theorem RC:qq X (.builtin "abs") (λxs H Q=>∃ i,xs=[.int i]∧Q (.int (if i<0 then -i else i)) H):=by
  intro pins s σ H xs us Q I r h;obtain⟨i,rfl,q⟩:=h;obtain⟨u,rfl,t,rfl⟩:=vals1 r;exact call_abs_int λu tk=>⟨.int (if i<0 then -i else i),H,I.tok _,⟨_,rfl⟩,q⟩
end
end L2
namespace L2
open PySem PySem.Spec PyProof.Rows
structure Rn(h:Heap)(x dx C:Addr)(mA:Str→Option Value):Prop where
  obj:h.get? x=some (PySem.W.instObj C dx)
  ns:h.Ns1 dx mA
  ne:dx≠x
theorem Qn{h:Heap}{dx:Addr}{mA:Str→Option Value}(n:h.Ns1 dx mA):∃ od,h.get? dx=some od∧∀ name,PySem.W.lookIn name od=some (mA name):=by
  obtain⟨o,es,ep,ho,hd,hk,_,hm⟩:=n;refine⟨o,ho,λname=>?_⟩;have e:=hm name;unfold nsFind findBy at e;rw[←Array.find?_toList]at e;unfold PySem.W.lookIn;rw[hd];dsimp only;split
  · rename_i y q
    rw[q]at e;exact congrArg some e
  · rename_i q
    rw[q]at e;have a:es.toList.any (·.refKey)=false:=by
      rw[List.any_eq_false];intro y hy;obtain⟨z,t,afi⟩:=hk y (Array.mem_toList_iff.mp hy);simp[DictEntry.refKey,afi]
    have a':¬es.toList.any (·.refKey)=true:=(by rw[a];exact aiO);rw[if_neg a'];exact congrArg some e
theorem Rn.look{h:Heap}{x dx C:Addr}{mA:Str→Option Value}(I:Rn h x dx C mA):∃ od,PySem.W.InstAt h x (PySem.W.instObj C dx) C (some od)∧∀ name,PySem.W.lookIn name od=some (mA name) :=
  let ⟨od,ho,hl⟩:=Qn I.ns
  ⟨od,⟨I.obj,rfl,rfl,ho⟩,hl⟩
section
variable{prog:Program}{w:World}{A:Around}{E:Value→Shared→Prop}{s:Shared}{K:W.Frag}{x dx C f:Addr}{mA:Str→Option Value}{name:Str}{v:Value}
theorem get_map{expr:Bool}{Q:Value→Shared→Prop}(X:K.In s.heap)(I:Rn s.heap x dx C mA)(hg:PySem.W.plainGet K C name=true)(hh:PySem.W.hasDictIn K C=true)
    (ha:PySem.W.findIn K (.ref C) name=some none) (hv:mA name=some v) (hv':PySem.W.handedIn v=true) (h:Q v {s with toks:=s.toks+1}) :
    wpAny (model prog w) A (getAttr (.ref x) name expr) Q E s:=by
  obtain⟨od,J,hl⟩:=I.look;exact PySem.W.get_value X J (PySem.W.plainGet_of hg).1 (PySem.W.findObj_own hh ha rfl (by rw[hl,hv])) hv' h
theorem RD{pl:Sem Bool}{Q:Value×List Value→Shared→Prop}(X:K.In s.heap)(I:Rn s.heap x dx C mA)(hg:PySem.W.plainGet K C name=true)
    (hf:PySem.W.findIn K (.ref C) name=some (some (.ref f))) (ht:PySem.W.isFn K (.ref f)=true) (hv:mA name=none) (h:Q (.ref f,[.ref x]) s) :
    wpAny (model prog w) A (getMethod (.ref x) name pl) Q E s:=by
  obtain⟨od,J,hl⟩:=I.look;exact PySem.W.method_fn X J (PySem.W.plainGet_of hg).1 (PySem.W.plainGet_of hg).2 hf (beq_iff_eq.mp ht) (by show(PySem.W.lookIn name od).map (·.isSome)=some false;rw[hl,hv];rfl) h
theorem T3{ns:List Str}{Q:Unit→Shared→Prop}(X:K.In s.heap)(I:Rn s.heap x dx C mA)
    (hs:PySem.W.findIn K (.ref C) "__setattr__" = some (some (.builtin "object.__setattr__"))) (hp:PySem.W.plainOver K C=true) (ht:PySem.W.takerIn K C name=some none) (hh:PySem.W.hasDictIn K C=true)
    (hw:PySem.Within mA ns) (hsz:ns.length≤sizeLine)
    (h:∀ h',Rn h' x dx C (λy=>if y=name then some v else mA y)→Heap.SameBut dx s.heap h'→Q () {s with heap:=h',toks:=s.toks+2}) :
    wpAny (model prog w) A (setAttr (.ref x) name v) Q E s:=by
  obtain⟨od,J,hl⟩:=I.look;refine PySem.W.set_plain X J hs (PySem.W.osa_open (s:={s with toks:=s.toks+1}) (r:=none) X J hp ht λb=>?_);obtain⟨cd,hc,hd'⟩:=PySem.W.any_some hh;have hx:s.heap.get? x=some ⟨.ref C,some dx,.plain,#[]⟩:=I.obj;refine wpAny_bind (wpAny_pure (wpAny_bind (wpAny_bind (wpAny_loadPart hx (wpAny_bind (PySem.W.Looks.here (s:={s with toks:=s.toks+1}) (PySem.W.looks_clsIn X hc) ?_))))));rw[hd'];refine wpAny_pure (a:=some dx) (wpAny_bind (wpAny_pure (wpAny_bind ?_)));refine wpAny_nsSet1 (s:={s with toks:=s.toks+1}) I.ns λh' hn2 hs2=>?_;obtain⟨oD,esD,epD,hoD,hdD,hcD⟩:=hn2.count (PySem.Within.cons name v hw);refine wpAny_bind (wpAny_lookBehind hoD (by rw[hdD];exact pastItsLine_dict (ai5 hcD (by rw[ajt];omega))) ?_);exact wpAny_pure (h _ ⟨(hs2.2 _ (ai7 I.ne)).trans I.obj,hn2,I.ne⟩ hs2)
theorem RE{R:Result→Shared→Prop}{vs:List Value}{kw:List (Str×Value)}(X:K.In s.heap)(hm:PySem.W.makesIn K C=true)
    (hi:PySem.W.findIn K (.ref C) "__init__" = some (some (.ref f))) (hf:PySem.W.typeIn K (.ref f)=some (.type "function"))
    (h:codeAny (model prog w) (A.under (.builtin "type.__call__" ⟨.ref C::vs,kw⟩)) (.call (.ref f) ⟨.ref (s.heap.objs.size+1)::vs,kw⟩) (PySem.W.InitBack (s.heap.objs.size+1) R)
      {s with heap:=(s.heap.push PySem.W.emptyDict).push (PySem.W.instObj C s.heap.objs.size)}) :
    codeAny (model prog w) A (.call (.ref C) ⟨vs,kw⟩) R s:=by
  obtain⟨hh,g,d,t,os⟩:=s;exact PySem.W.make_core (PySem.W.makes_of X hm) (PySem.W.looks_findIn X hi) (λself=>PySem.W.bind_fn X self hf) (.inl rfl) h
end
noncomputable def iI(f:Str)(v:V):List (Str×V)→List (Str×V)
  | []=>[(f,v)]
  | (g,x)::r=>if g=f then(g,v)::r else(g,x)::iI f v r
theorem Ef(f g:Str)(v:V):∀ fs:List (Str×V),(iI f v fs).lookup g=if g=f then some v else fs.lookup g
  | []=>by
    show List.lookup g [(f,v)]=_;by_cases h:g=f
    · have hb:(g == f)=true:=beq_iff_eq.mpr h
      simp only[List.lookup,hb,if_pos h]
    · have hb:(g == f)=false:=beq_eq_false_iff_ne.mpr h
      simp only[List.lookup,hb,if_neg h]
  | (k,x)::r=>by
    have ih:=Ef f g v r;rw[show iI f v ((k,x)::r)=(if k=f then(k,v)::r else(k,x)::iI f v r) from rfl];by_cases hk:k=f
    · rw[if_pos hk]
      by_cases h:g=k
      · have hb:(g == k)=true:=beq_iff_eq.mpr h
        simp only[List.lookup,hb,if_pos (h.trans hk)]
      · have hb:(g == k)=false:=beq_eq_false_iff_ne.mpr h
        simp only[List.lookup,hb,if_neg (λe:g=f=>h (e.trans hk.symm))]
    · rw[if_neg hk]
      by_cases h:g=k
      · have hb:(g == k)=true:=beq_iff_eq.mpr h
        simp only[List.lookup,hb,if_neg (λe:g=f=>hk (h.symm.trans e))]
      · have hb:(g == k)=false:=beq_eq_false_iff_ne.mpr h
        simp only[List.lookup,hb];exact ih
theorem D6(f:Str)(v:V):∀ fs:List (Str×V),f∈(iI f v fs).map (·.1)∧∀ g,g∈fs.map (·.1)→g∈(iI f v fs).map (·.1)
  | []=>⟨by simp[iI],λg h=>by simp at h⟩
  | (k,x)::r=>by
    obtain⟨i1,i2⟩:=D6 f v r;rw[show iI f v ((k,x)::r)=(if k=f then(k,v)::r else(k,x)::iI f v r) from rfl];by_cases hk:k=f
    · rw[if_pos hk]
      subst hk;exact⟨by simp,λg h=>by simpa using h⟩
    · rw[if_neg hk]
      refine⟨?_,λg h=>?_⟩
      · rw[aji]
        exact ai4 _ i1
      · rw[aji]at h ⊢
        rcases aiY.mp h with e|e
        · exact aiY.mpr (.inl e)
        · exact ai4 _ (i2 g e)
theorem Eg(f:Str)(v:V):∀ fs:List (Str×V),(iI f v fs).length≤fs.length+1
  | []=>by simp[iI]
  | (k,x)::r=>by
    have ih:=Eg f v r;rw[show iI f v ((k,x)::r)=(if k=f then(k,v)::r else(k,x)::iI f v r) from rfl];by_cases hk:k=f
    · rw[if_pos hk,ajt,ajt];omega
    · rw[if_neg hk,ajt,ajt];omega
theorem zh.some_of{v:V}{o:Option Value}(r:zh (some v) o):∃ u,o=some u∧RelV v u:=by
  cases o with
  | none=>exact(show False from r).elim
  | some u=>exact⟨u,rfl,r⟩
theorem zh.none_of{o:Option Value}(r:zh none o):o=none:=by
  cases o with
  | none=>rfl
  | some u=>exact(show False from r).elim
theorem Qo{v:V}{u:Value}(r:RelV v u):PySem.W.handedIn u=true:=by
  cases v with
  | non=>cases (show u=Value.none from r);rfl
  | bl b=>cases (show u=Value.bool b from r);rfl
  | int i=>obtain⟨t,e⟩:=(show ∃ t,u=Value.int i t from r);cases e;rfl
  | str x=>obtain⟨t,e⟩:=(show ∃ t,u=Value.str x t from r);cases e;rfl
  | byt b=>obtain⟨t,e⟩:=(show ∃ t,u=Value.bytes b t from r);cases e;rfl
  | flt b=>obtain⟨t,e⟩:=(show ∃ t,u=Value.float b t from r);cases e;rfl
  | ref a=>cases (show u=Value.ref a from r);rfl
  | ty n=>cases (show u=Value.type n from r);rfl
section
variable{P:Program}{w:World}{H H':Hp}{h h':Heap}{a C dx:Addr}{fs fs':List (Str×V)}
theorem GA(hok:HOk P w H h)(e:H a=some (.ins C dx fs)):∃ mA,Rn h a dx C mA∧(∀ f,zh (fs.lookup f) (mA f))∧PySem.Within mA (fs.map (·.1))∧fs.length≤1000∧H dx=some (.own a):=by
  obtain⟨d,z,ne,ob,mA,n,r,q⟩:=(show fg P w H h a (.ins C dx fs) from hok a _ e);exact⟨mA,⟨ob,n,ne⟩,r,q,z,d⟩
end
structure Cls(K:W.Frag)(C:Addr):Prop where
  pg:PySem.W.plainGet K C Str.empty=true
  hd:PySem.W.hasDictIn K C=true
  po:PySem.W.plainOver K C=true
  sa:PySem.W.findIn K (.ref C) "__setattr__" = some (some (.builtin "object.__setattr__"))
theorem Cls.get{K:W.Frag}{C:Addr}(c:Cls K C)(f:Str):PySem.W.plainGet K C f=true:=c.pg
noncomputable def eQ(K:W.Frag)(C:Addr)(f:Str):Prop:=PySem.W.findIn K (.ref C) f=some none
theorem eQ.Y0{K:W.Frag}{C:Addr}{f:Str}(n:eQ K C f):PySem.W.takerIn K C f=some none:=by
  unfold PySem.W.takerIn;rw[show PySem.W.findIn K (.ref C) f=some none from n];rfl
structure Meth(K:W.Frag)(C:Addr)(m:Str)(f:Addr):Prop where
  at_:PySem.W.findIn K (.ref C) m=some (some (.ref f))
  fn:PySem.W.isFn K (.ref f)=true
  kp:PySem.W.keepIn K (.ref f)=true
section
variable{X:Cx}{pins:List (Addr×Obj)}{σ:St}{H:Hp}{s:Shared}{a C dx:Addr}{fs:List (Str×V)}{f:Str}{v:V}{A:Around}{E:Value→Shared→Prop}
theorem Nd{b:Bool}{Q:Value→Shared→Prop}(I:Inv X pins σ H s)(e:H a=some (.ins C dx fs))(c:Cls X.K C)(n:eQ X.K C f)(l:fs.lookup f=some v)
    (h:∀ u s',Inv X pins σ H s'→RelV v u→Q u s'):wpAny (model X.prog X.w) A (getAttr (.ref a) f b) Q E s:=by
  obtain⟨mA,O,r,_,_,_⟩:=GA I.hok e;obtain⟨u,hu,ru⟩:=zh.some_of (v:=v) (o:=mA f) (by rw[←l];exact r f);exact get_map I.kIn O (c.get f) c.hd n hu (Qo ru) (h u _ (I.tok _) ru)
theorem GB{m:Str}{g:Addr}{pl:Sem Bool}{Q:Value×List Value→Shared→Prop}(I:Inv X pins σ H s)(e:H a=some (.ins C dx fs))(c:Cls X.K C)(k:Meth X.K C m g)(l:fs.lookup m=none)
    (h:Q (.ref g,[.ref a]) s):wpAny (model X.prog X.w) A (getMethod (.ref a) m pl) Q E s:=by
  obtain⟨mA,O,r,_,_,_⟩:=GA I.hok e;have hn:mA m=none:=zh.none_of (by rw[←l];exact r m);exact RD I.kIn O (c.get m) k.at_ k.fn hn h
theorem Nf{y:V}{u:Value}{Q:Unit→Shared→Prop}(I:Inv X pins σ H s)(e:H a=some (.ins C dx fs))(c:Cls X.K C)(n:eQ X.K C f)(hl:fs.length<1000)(ry:RelV y u)
    (h:∀ s',Inv X pins σ (upd H a (.ins C dx (iI f y fs))) s'→Q () s'):wpAny (model X.prog X.w) A (setAttr (.ref a) f u) Q E s:=by
  obtain⟨mA,O,r,wi,_,ho⟩:=GA I.hok e;have hz:(fs.map (·.1)).length≤sizeLine:=by rw[aiI,sizeLine_eq];omega
  refine T3 I.kIn O c.sa c.po n.Y0 c.hd wi hz λh' O' sb=>h _ ?_;have hd:∃ o,h'.get? dx=some o:=let ⟨o,_,_,e',_⟩:=O'.ns;⟨o,e'⟩;refine I.write (x:=a) (e:=dx) (by rw[e];exact True.intro) (.inr ho) (λb q hb z=>(sb.2 b hb).trans z) hd ?_;refine⟨by rw[ag O.ne];exact ho,?_,O.ne,O'.obj,_,O'.ns,λg=>?_,λg hg=>?_⟩
  · have:=Eg f y fs;omega
  · show zh ((iI f y fs).lookup g) (if g=f then some u else mA g)
    rw[Ef];by_cases q:g=f
    · rw[if_pos q,if_pos q];exact ry
    · rw[if_neg q,if_neg q];exact r g
  · by_cases q:g=f
    · rw[q];exact(D6 f y fs).1
    · refine(D6 f y fs).2 g (wi g λz=>hg ?_)
      show(if g=f then some u else mA g)=none;rw[if_neg q];exact z
theorem Inv.made(I:Inv X pins σ H s):Inv X pins σ (upd (upd H s.heap.objs.size (.own (s.heap.objs.size+1))) (s.heap.objs.size+1) (.ins C s.heap.objs.size []))
    {s with heap:=(s.heap.push PySem.W.emptyDict).push (PySem.W.instObj C s.heap.objs.size)}:=by
  have e1:(s.heap.push PySem.W.emptyDict).get? s.heap.objs.size=some PySem.W.emptyDict:=ajh s.heap rfl;have e2:((s.heap.push PySem.W.emptyDict).push (PySem.W.instObj C s.heap.objs.size)).get? (s.heap.objs.size+1)=some (PySem.W.instObj C s.heap.objs.size):=by
    have:=ajh (s.heap.push PySem.W.emptyDict) (o:=PySem.W.instObj C s.heap.objs.size) rfl
    rwa[akc]at this
  have e3:(s.heap.push PySem.W.emptyDict).Ns s.heap.objs.size (λ_=>none):=⟨PySem.W.emptyDict,#[],_,e1,rfl,(λe he=>absurd he (by simp)),λ_=>rfl⟩;have I1:=I.laid (a:=s.heap.objs.size) (o:=.own (s.heap.objs.size+1)) (h':=s.heap.push PySem.W.emptyDict) (t':=s.toks) (λb u q=>aiL _ q) (aiN _) ⟨_,e1⟩;refine I1.laid (a:=s.heap.objs.size+1) (o:=.ins C s.heap.objs.size []) (t':=s.toks) (λb u q=>aiL _ q) (Nat.le_of_eq (akc _ _)) ?_;have ne:s.heap.objs.size≠s.heap.objs.size+1:=ai6 (akG _);refine⟨by rw[ag ne,ah],ajk _,ne,e2,λ_=>none,(Heap.Ns1.of_empty e3).at λo q=>aiL _ q,λ_=>True.intro,λy hy=>absurd rfl hy⟩
theorem T4{prog:Program}{w:World}{env:Env}{e:Expr}{f:Str}{pos:Pos}{s:Shared}{Q:Value→Shared→Prop}(hb:attributeBase e f env (eval e env)=eval e env)
    (h:wpAny (model prog w) A (eval e env) (λo s₁=>wpAny (model prog w) A (getAttr o f true) Q E s₁) E s):wpAny (model prog w) A (eval (.Attribute e f pos) env) Q E s :=
  Attribute_any_ h (by rw[arm_eval_Attribute,hb])
end
inductive ZV(K:W.Frag)(f:Str)(x:V)(H:Hp)(Q:VK):Prop where
  | mk (a C dx:Addr) (fs:List (Str×V)) (v:V):x=.ref a→H a=some (.ins C dx fs)→Cls K C→eQ K C f→fs.lookup f=some v→Q v H→ZV K f x H Q
noncomputable def ZW(K:W.Frag)(ta:TE)(f:Str):TE:=λσ H Q=>ta σ H λx H1=>ZV K f x H1 Q
noncomputable def afj(K:W.Frag)(ta tv:TE)(f:Str):TS:=λD σ H=>tv σ H λy H1=>ta σ H1 λx H2=>∃ a C dx fs,x=.ref a∧H2 a=some (.ins C dx fs)∧Cls K C∧eQ K C f∧fs.length<1000 ∧
  D.nx σ (upd H2 a (.ins C dx (iI f y fs)))
section
variable{X:Cx}{o e value:Expr}{f:Str}{pos pos' afk:Pos}{ta tv:TE}
theorem aH(he:PE X e ta)(hb:attributeBase e f X.env (eval e X.env)=eval e X.env):PE X (.Attribute e f pos) (ZW X.K ta f):=by
  intro pins s σ H Q I h;refine T4 hb (thn (he pins s σ H _ I h) λu s1 ⟨x,H1,I1,rx,a,C,dx,fs,v,ex,ea,c,n,l,q⟩=>?_);subst ex;obtain rfl:u=Value.ref a:=rx;exact Nd I1 ea c n l λu' s2 I2 ru=>⟨v,H1,I2,ru,q⟩
theorem ir(ha:PE X o ta)(hv:PE X value tv)(hs:swapsWith value (some (.Attribute o f pos')) pos.line X.env=pure false):PS X (.Assign [.Attribute o f pos'] value pos) (afj X.K ta tv f):=by
  intro pins s σ H D I h;refine plainObj_wpAny_Assign_Attribute (thn (hv pins s σ H _ I h) λu s1 ⟨y,H1,I1,ry,q⟩=>thn (ha pins s1 σ H1 _ I1 q) λov s2 ⟨x,H2,I2,rx,a,C,dx,fs,ex,ea,c,n,l,q2⟩=>?_) hs;subst ex;obtain rfl:ov=Value.ref a:=rx;exact Nf I2 ea c n l ry λs3 I3=>⟨σ,_,I3,q2⟩
end
section
variable{X:Cx}{pins:List (Addr×Obj)}{σ:St}{H:Hp}{s:Shared}{A:Around}{E:Value→Shared→Prop}{Q:Value→Shared→Prop}{c:Value}{b:Bool}
inductive HH(K:W.Frag)(H:Hp):V→Value→Prop where
  | non:HH K H .non (.type "NoneType")
  | bl (x:Bool):HH K H (.bl x) (.type "bool")
  | int (i:Int):HH K H (.int i) (.type "int")
  | str (x:Str):HH K H (.str x) (.type "str")
  | flt (x:UInt64):HH K H (.flt x) (.type "float")
  | lst {a:Addr} {xs:List V} (e:H a=some (.lst xs)):HH K H (.ref a) (.type "list")
  | frz {a:Addr} {o:Obj} {xs:List V} (e:H a=some (.frz o (.lst xs))):HH K H (.ref a) (.type "list")
  | tup {a:Addr} {xs:List V} (e:H a=some (.tup xs)):HH K H (.ref a) (.type "tuple")
  | dK {a:Addr} {kvs:List (Key×V)} (e:H a=some (.dK kvs)):HH K H (.ref a) (.type "dict")
  | dT {a:Addr} {kvs:List (List Key×V)} (e:H a=some (.dT kvs)):HH K H (.ref a) (.type "dict")
  | ins {a C dx:Addr} {fs:List (Str×V)} (e:H a=some (.ins C dx fs)) (cl:Cls K C) (ha:PySem.W.findIn K (.ref C) "__class__" = some (some (.builtin "object.__class__")))
      (hn:PySem.W.specialIn K (.builtin "object.__class__") "__get__" = some (some (.builtin "getset_descriptor.__get__"))) (htk:PySem.W.takesIn K (.builtin "object.__class__")=some true)
      (hm:PySem.W.mroIn K C (.type "object")=some true):HH K H (.ref a) (.ref C)
theorem Qp{x:V}{u t:Value}(I:Inv X pins σ H s)(rx:RelV x u)(ty:HH X.K H x t)(e:PySem.W.kitOne X.K t c=some b)(h:∀ tk,Q (.bool b) {s with toks:=tk}) :
    wpAny (model X.prog X.w) A (call (.builtin "isinstance") [u,c]) Q E s:=by
  cases ty with
  | non=>cases (show u=Value.none from rx);exact PySem.W.kia_one PySem.W.kitx_none I.kIn True.intro e (λz=>nomatch z) h
  | bl y=>cases (show u=Value.bool y from rx);exact PySem.W.kia_one PySem.W.kitx_bool I.kIn True.intro e (λz=>nomatch z) h
  | int i=>obtain⟨t,q⟩:=(show ∃ t,u=Value.int i t from rx);cases q;exact PySem.W.kia_one PySem.W.kitx_int I.kIn True.intro e (λz=>nomatch z) h
  | str y=>obtain⟨t,q⟩:=(show ∃ t,u=Value.str y t from rx);cases q;exact PySem.W.kia_one PySem.W.kitx_str I.kIn True.intro e (λz=>nomatch z) h
  | flt y=>obtain⟨t,q⟩:=(show ∃ t,u=Value.float y t from rx);cases q;exact PySem.W.kia_one PySem.W.kitx_float I.kIn True.intro e (λz=>nomatch z) h
  | @lst a xs ea =>
    cases (show u=Value.ref a from rx);obtain⟨_,_,n,_,h1⟩:=(show fg X.prog X.w H s.heap a (.lst xs) from I.hok a _ ea);exact PySem.W.kia_one PySem.W.kitx_list I.kIn ⟨_,h1,rfl⟩ e (λz=>nomatch z) h
  | @frz a ob xs ea =>
    cases (show u=Value.ref a from rx);obtain⟨_,_,_,n,_,h1⟩:=(show fg X.prog X.w H s.heap a (.frz ob (.lst xs)) from I.hok a _ ea);exact PySem.W.kia_one PySem.W.kitx_list I.kIn ⟨_,h1,rfl⟩ e (λz=>nomatch z) h
  | @tup a xs ea =>
    cases (show u=Value.ref a from rx);obtain⟨_,_,_,p⟩:=(show fg X.prog X.w H s.heap a (.tup xs) from I.hok a _ ea);obtain⟨o,h1,h2,_⟩:=p;exact PySem.W.kia_one PySem.W.kitx_tuple I.kIn ⟨o,h1,h2⟩ e (λz=>nomatch z) h
  | @dK a kvs ea =>
    cases (show u=Value.ref a from rx);obtain⟨_,_,vs,_,p⟩:=(show fg X.prog X.w H s.heap a (.dK kvs) from I.hok a _ ea);obtain⟨o,es,ep,h1,h2,_⟩:=p;exact PySem.W.kia_one PySem.W.kitx_dict I.kIn ⟨o,h1,h2.1⟩ e (λz=>nomatch z) h
  | @dT a kvs ea =>
    cases (show u=Value.ref a from rx);obtain⟨_,_,xs,_,o,es,ep,h1,h2,_⟩:=(show fg X.prog X.w H s.heap a (.dT kvs) from I.hok a _ ea);exact PySem.W.kia_one PySem.W.kitx_dict I.kIn ⟨o,h1,h2.1⟩ e (λz=>nomatch z) h
  | @ins a C dx fs ea cl ha hn htk hm =>
    cases (show u=Value.ref a from rx);obtain⟨mA,O,_⟩:=GA I.hok ea;obtain⟨od,J,_⟩:=O.look;exact PySem.W.kia_one (PySem.W.kitx_own (cl.get _) cl.hd ha hn htk hm) I.kIn J e (λz=>nomatch z) h
end
end L2
namespace L2
open PySem PySem.Spec PyProof.Rows
structure lB(k:Nat)(A:Around):Prop where
  hd:A.handled=none
  dp:A.depth+3*k+5<recursionLimit
  un:A.units+16*k+200<cLine
theorem lB.mono{j k:Nat}{A:Around}(r:lB k A)(h:j≤k):lB j A:=⟨r.hd,by have:=r.dp;omega,by have:=r.un;omega⟩
theorem lB.deeper{k:Nat}{A:Around}(r:lB (k+1) A)(env:Env):lB k (A.deeper env) :=
  ⟨r.hd,by have:=r.dp;show A.depth+1+3*k+5<_;omega,by have:=r.un;show A.units+3+16*k+200<_;omega⟩
theorem Ng{A:Around}{C:Addr}{us:List Value}{kw:List (Str×Value)}:(A.under (.builtin "type.__call__" ⟨.ref C::us,kw⟩)).depth=A.depth+1:=by
  first|rfl|simp[Around.under,Code.weight,Code.isCreation,Code.isGuard,Code.isCaller,Code.frames,Code.isFrame,guardIds]
theorem Nh{A:Around}{C:Addr}{us:List Value}{kw:List (Str×Value)}:(A.under (.builtin "type.__call__" ⟨.ref C::us,kw⟩)).units=A.units+1:=by
  first|rfl|simp[Around.under,Code.cUnits,Code.frames,Code.isFrame]
theorem lB.make{k:Nat}{A:Around}(r:lB (k+1) A)(C:Addr)(us:List Value)(kw:List (Str×Value)):lB k (A.under (.builtin "type.__call__" ⟨.ref C::us,kw⟩)) :=
  ⟨r.hd,by have:=r.dp;rw[Ng];omega,by have:=r.un;rw[Nh];omega⟩
theorem lB.depth{k:Nat}{A:Around}(r:lB k A):A.depth<recursionLimit:=by have:=r.dp;omega
theorem lB.units{k:Nat}{A:Around}(r:lB k A):A.units+64<cLine:=by have:=r.un;omega
noncomputable def Ni:TA:=λ_ H Q=>Q [] H
noncomputable def qr(ta:TE)(tr:TA):TA:=λσ H Q=>ta σ H λx H1=>tr σ H1 λxs H2=>Q (x::xs) H2
section
variable{X:Cx}{e:Expr}{es:List Expr}{te:TE}{t:TA}{pos:Pos}
theorem aq:PA X [] Ni:=λ_ _ _ _ H Q I h=>akD ⟨[],H,I,.nil,h⟩
theorem ae(ha:PE X e te)(hr:PA X es t)(hs:starEach (e::es) X.env=(false,eval e X.env)::starEach es X.env:=by rfl):PA X (e::es) (qr te t):=by
  intro pos pins s σ H Q I h;rw[hs];show wpAny _ _ (spliced ((false,eval e X.env)::backTo pos (starEach es X.env))) _ _ s;refine akA (thn (ha pins s σ H _ I h) λu s1 ⟨x,H1,I1,r1,q1⟩=>?_);exact thn (hr pos pins s1 σ H1 _ I1 q1) λus s2 ⟨xs,H2,I2,r2,q2⟩=>⟨x::xs,H2,I2,.cons r1 r2,q2⟩
noncomputable def Vn(t:TA):TE:=λσ H Q=>t σ H λxs H1=>xs.length≤sizeLine∧∀ p,H1 p=none→Q (.ref p) (upd H1 p (.tup xs))
noncomputable def ZX(t:TA):TE:=λσ H Q=>t σ H λxs H1=>xs.length≤sizeLine∧∀ p,H1 p=none→Q (.ref p) (upd H1 p (.lst xs))
theorem iu{x1}(h:PA X es t):PE X (.Tuple es x1 pos) (Vn t):=by
  intro pins s σ H Q I hq;refine wpAny_Tuple_spliced (thn (h pos pins s σ H _ I hq) λus s1 ⟨xs,H1,I1,r,z,q⟩=>⟨by rw[←r.length];exact z,?_⟩);have hf:H1 s1.heap.objs.size=none:=I1.hok.fresh (aiN _);refine⟨.ref s1.heap.objs.size,upd H1 s1.heap.objs.size (.tup xs),I1.laid (t':=s1.toks) (λb u e=>aiL _ e) (aiN _) ?_,rfl,q _ hf⟩;exact⟨z,us,r,⟨_,ajh _ rfl,rfl,_,rfl⟩⟩
theorem ke(h:PA X es t):PE X (.List es pos) (ZX t):=by
  intro pins s σ H Q I hq;refine wpAny_List_spliced (thn (h pos pins s σ H _ I hq) λus s1 ⟨xs,H1,I1,r,z,q⟩=>⟨by rw[←r.length];exact z,?_⟩);have hf:H1 s1.heap.objs.size=none:=I1.hok.fresh (aiN _);refine⟨.ref s1.heap.objs.size,upd H1 s1.heap.objs.size (.lst xs),I1.laid (t':=s1.toks) (λb u e=>aiL _ e) (aiN _) ?_,rfl,q _ hf⟩;exact⟨z,us,0,r,ajh _ rfl⟩
end
noncomputable abbrev Sp:=List V→Hp→VK→XK→Prop
noncomputable abbrev CXT:=List Env→Hp→Shared→XK→Value→Shared→Prop
structure Nj(P:Program)(w:World)(K:W.Frag)(mg:Str→Option Value)(base:Heap)(A:Around)(outer:List Env)(s:Shared)(H:Hp):Prop where
  frames:A.frames=some outer
  mod:Mod K mg base
  bs:∀ b o,base.get? b=some o→s.heap.get? b=some o∧H b=none
  bsz:base.objs.size≤s.heap.objs.size
  Ce:s.heap.FunFrames base outer
  frf:∀ b∈frs outer,H b=none
  hok:HOk P w H s.heap
  bare:AllBare s.gens
noncomputable def CE(outer:List Env)(P:Program)(w:World)(H:Hp)(s:Shared)(Q:VK)(u:Value)(s':Shared):Prop :=
  ∃ v H',s'.os=s.os∧AllBare s'.gens∧Un (frs outer) [] H H' s.heap s'.heap∧HOk P w H' s'.heap∧RelV v u∧Q v H'
noncomputable def CR(CX:CXT)(outer:List Env)(P:Program)(w:World)(H:Hp)(s:Shared)(Q:VK)(E:XK)(r:Result)(s':Shared):Prop :=
  match r with
  | .ok (.ret u)=>CE outer P w H s Q u s'
  | .ok _=>False
  | .error e=>CX outer H s E e s'
structure Cg(P:Program)(w:World)(K:W.Frag)(mg:Str→Option Value)(base:Heap)(CX:CXT)(k:Nat)(f:Addr)(fd:FuncData)(ps:List Str)(sp:Sp):Prop where
  len:∀ vs H Q E,sp vs H Q E→vs.length=ps.length
  run:∀(A:Around) (outer:List Env) (s:Shared) (H:Hp) (args:Args) (us:List Value) (vs:List V) (Q:VK) (E:XK),lB k A→Nj P w K mg base A outer s H→BindsTo s fd args (ps.zip us)→Vals vs us→sp vs H Q E →
    codeAny (model P w) A (.call (.ref f) args) (CR CX outer P w H s Q E) s
theorem Nj.make{P:Program}{w:World}{K:W.Frag}{mg:Str→Option Value}{base:Heap}{A:Around}{outer:List Env}{s:Shared}{H:Hp}(e:Nj P w K mg base A outer s H)(C:Addr)(us:List Value)(kw:List (Str×Value)) :
    Nj P w K mg base (A.under (.builtin "type.__call__" ⟨.ref C::us,kw⟩)) outer s H:=⟨by first|exact e.frames|(simpa[Around.under,Code.envs,Code.isFrame,pushEnvs] using e.frames),e.mod,e.bs,e.bsz,e.Ce,e.frf,e.hok,e.bare⟩
section
variable{X:Cx}{pins:List (Addr×Obj)}{σ:St}{H:Hp}{s s':Shared}
theorem Inv.Vo(I:Inv X pins σ H s):Nj X.prog X.w X.K X.mg X.base X.A X.stack s H :=
  ⟨I.ok.frames,I.ok.mod,I.bs,ai5 I.ok.bsz I.sz,I.stack,I.Cf,I.hok,I.bare⟩
theorem Inv.after{Q:VK}{u:Value}(I:Inv X pins σ H s)(h:CE X.stack X.prog X.w H s Q u s'):EP X pins σ Q u s':=by
  obtain⟨v,H',os,bare,un,hok,r,q⟩:=h;obtain⟨hh,g,d,t,os'⟩:=s';obtain rfl:os'=s.os:=os;exact⟨v,H',I.call (h':=hh) (g':=g) (d':=d) (t':=t) (ch:=[]) un hok bare (λb z=>absurd z (by simp)),r,q⟩
end
noncomputable def Vp(C:Addr)(sp:Sp)(dvs:List V)(E:XK)(t:TA):TE:=λσ H Q=>t σ H λvs H1=>∀ x dx,H1 x=none→H1 dx=none→dx≠x →
  sp (.ref x::(vs++dvs)) (upd (upd H1 dx (.own x)) x (.ins C dx [])) (λv H2=>v=.non∧Q (.ref x) H2) E
noncomputable def Binds(K:W.Frag)(fd:FuncData)(ps:List Str)(ds:List Value):Prop :=
  ∀(s:Shared) (us:List Value),K.In s.heap→(us++ds).length=ps.length→BindsTo s fd ⟨us,[]⟩ (ps.zip (us++ds))
theorem Binds.all{K:W.Frag}{fd:FuncData}{ps:List Str}(h:∀ us:List Value,us.length=ps.length→bindArgs fd ⟨us,[]⟩=pure (ps.zip us)):Binds K fd ps []:=λs us _ hl=>by
  rw[akj]at hl ⊢;exact .of_eq (h us hl)
noncomputable def Passes(CX:CXT)(X:Cx)(E:XK):Prop:=∀(pins:List (Addr×Obj)) (σ:St) (H:Hp) (s:Shared) (e:Value) (s':Shared),Inv X pins σ H s→CX X.stack H s E e s'→X.xe e s'
section
variable{X:Cx}{CX:CXT}{k:Nat}{f C:Addr}{fd:FuncData}{ps:List Str}{sp:Sp}{dvs:List V}{ds:List Value}{E:XK}{x m:Str}{p pos apos:Pos}{e o:Expr}{es:List Expr}{ta:TE}{t:TA}
structure Mk(K:W.Frag)(C f:Addr):Prop where
  makes:PySem.W.makesIn K C=true
  init:PySem.W.findIn K (.ref C) "__init__" = some (some (.ref f))
  fn:PySem.W.isFn K (.ref f)=true
  kp:PySem.W.keepIn K (.ref C)=true
theorem Ml{pins:List (Addr×Obj)}{σ:St}{H:Hp}{s:Shared}{Q:VK}{us:List Value}{vs:List V}(M:Mk X.K C f)(F:Cg X.prog X.w X.K X.mg X.base CX k f fd ps sp)(hr:lB (k+1) X.A)(hb:Binds X.K fd ps ds)(hd:Vals dvs ds)
    (hx:Passes CX X E) (I:Inv X pins σ H s) (r:Vals vs us)
    (h:∀ x dx,H x=none→H dx=none→dx≠x→sp (.ref x::(vs++dvs)) (upd (upd H dx (.own x)) x (.ins C dx [])) (λv H2=>v=.non∧Q (.ref x) H2) E) :
    wpAny (model X.prog X.w) X.A (call (.ref C) us) (EP X pins σ Q) X.xe s:=by
  have hq:=h (s.heap.objs.size+1) s.heap.objs.size (I.hok.fresh (akg _)) (I.hok.fresh (aiN _)) (ai6 (akG _));have I2:=Inv.made (C:=C) I;have r2:Vals (V.ref (s.heap.objs.size+1)::(vs++dvs)) (Value.ref (s.heap.objs.size+1)::(us++ds)):=.cons rfl (r.append hd);have hl:(Value.ref (s.heap.objs.size+1)::us++ds).length=ps.length:=by
    have e:=r2.length;rw[F.len _ _ _ _ hq]at e;exact e.symm
  refine wpAny_call (RE (f:=f) I.kIn M.makes M.init (beq_iff_eq.mp M.fn) (codeAny_mono (F.run _ X.stack _ _ ⟨Value.ref (s.heap.objs.size+1)::us,[]⟩ (Value.ref (s.heap.objs.size+1)::(us++ds)) _ _ E (hr.make C us [])
    (I2.Vo.make C us []) (hb _ (Value.ref (s.heap.objs.size+1)::us) I2.kIn hl) r2 hq) λr s' hq'=>?_))
  cases r with
  | error e=>exact hx pins σ _ _ e s' I2 hq'
  | ok fl =>
    cases fl with
    | ret u =>
      obtain⟨v,H',I3,rv,ev,q3⟩:=I2.after hq';subst ev;exact⟨rv,⟨V.ref (s.heap.objs.size+1),H',I3,rfl,q3⟩⟩
    | next=>exact False.elim hq'
    | brk=>exact False.elim hq'
    | cont=>exact False.elim hq'
theorem T5(M:Mk X.K C f)(F:Cg X.prog X.w X.K X.mg X.base CX k f fd ps sp)(hr:lB (k+1) X.A)(hg:Gl X x)(hm:X.mg x=some (.ref C))(hb:Binds X.K fd ps ds)(hd:Vals dvs ds)(hx:Passes CX X E)
    (ha:PA X (e::es) t) (hdb:(x == ("__debug__" : Str))=false:=by decide) (he:starEach (e::es) X.env=(false,eval e X.env)::starEach es X.env:=by rfl) (hpl:(backTo pos (starEach es X.env)).any (·.1)=false:=by rfl) :
    PE X (.Call (.Name x p) (e::es) [] pos) (Vp C sp dvs E t):=by
  intro pins s σ H Q I h;refine wpAny_Call_Name_kw (tZ I hg hm ?_ hdb);refine PySem.W.callWith_K (h₀:=X.base) I.ok.mod.kin M.kp (thn (ha pos pins s σ H _ I h) λus s1 ⟨vs,H1,I1,r,q⟩=>⟨I1.kIn,?_⟩) he hpl;exact Ml M F hr hb hd hx I1 r q
theorem Hi(M:Mk X.K C f)(F:Cg X.prog X.w X.K X.mg X.base CX k f fd ps sp)(hr:lB (k+1) X.A)(hg:Gl X x)(hm:X.mg x=some (.ref C))(hb:Binds X.K fd ps ds)(hd:Vals dvs ds)(hx:Passes CX X E)
    (hdb:(x == ("__debug__" : Str))=false:=by decide):PE X (.Call (.Name x p) [] [] pos) (Vp C sp dvs E Ni):=by
  intro pins s σ H Q I h;refine wpAny_Call_Name_kw (tZ I hg hm ?_ hdb);exact PySem.W.callWith_K0 I.kIn M.kp (Ml (us:=[]) M F hr hb hd hx I .nil h)
end
section
variable{X:Cx}{CX:CXT}{k:Nat}{f C:Addr}{fd:FuncData}{ps ks:List Str}{sp:Sp}{E:XK}{x m:Str}{p pos apos aiG:Pos}{e o:Expr}{es:List Expr}{kws:List Keyword}{te ta:TE}{t tk:TA}{nm:Option Str}
variable{g:List Value→List Value→List Value}{gV:List V→List V→List V}
end
structure aw(N P:List Str)(sc:Scope):Prop where
  kind:sc.kind=.function
  co:sc.isCoroutine=false
  gen:sc.isGenerator=false
  nd:N.Nodup
  pre:N.take P.length=P
  par:∀ x∈P,sc.names.lookup x=some .local∨sc.names.lookup x=some .cell
  V8:∀ y∈sc.names,y.2≠.free
theorem IF{kindOf:Str→Option NameKind}{x:Str}:∀ {binds:List (Str×Value)} {m:Str→Option Value},(∀ v,(x,v)∉binds)→bindL kindOf binds m x=m x
  | [],_,_=>rfl
  | (n,v)::r,m,h=>by
    unfold bindL;rw[IF λw hw=>h w (ai4 _ hw)];split
    · have:x≠n:=by rintro rfl;exact h v ai1
      simp[this]
    · rfl
theorem IG{kindOf:Str→Option NameKind}{x:Str}:∀ {binds:List (Str×Value)} {m:Str→Option Value},(∀ v,(x,v)∉binds)→bindC kindOf binds m x=m x
  | [],_,_=>rfl
  | (n,v)::r,m,h=>by
    unfold bindC;rw[IG λw hw=>h w (ai4 _ hw)];split
    · rfl
    · have:x≠n:=by rintro rfl;exact h v ai1
      simp[this]
theorem II{kindOf:Str→Option NameKind}{x:Str}{v:Value}:∀ {P:List Str} {vs:List Value} {i:Nat} {m:Str→Option Value},P.Nodup→P[i]?=some x→vs[i]?=some v→kindOf x=some .local →
    bindL kindOf (P.zip vs) m x=some v
  | [],_,_,_,_,h,_,_=>by simp at h
  | _::_,[],_,_,_,_,h,_=>by simp at h
  | p::P,w::vs,0,m,nd,h1,h2,hk=>by
    simp at h1 h2;subst h1;subst h2;show bindL kindOf ((p,w)::P.zip vs) m p=_;unfold bindL;rw[IF λv hv=>(ajZ.mp nd).1 (aku hv).1,if_pos hk];simp
  | p::P,w::vs,i+1,m,nd,h1,h2,hk=>by
    show bindL kindOf ((p,w)::P.zip vs) m x=_;unfold bindL;exact II (i:=i) (ajZ.mp nd).2 (by simpa using h1) (by simpa using h2) hk
theorem IJ{kindOf:Str→Option NameKind}{x:Str}{v:Value}:∀ {P:List Str} {vs:List Value} {i:Nat} {m:Str→Option Value},P.Nodup→P[i]?=some x→vs[i]?=some v→kindOf x≠some .local →
    bindC kindOf (P.zip vs) m x=some v
  | [],_,_,_,_,h,_,_=>by simp at h
  | _::_,[],_,_,_,_,h,_=>by simp at h
  | p::P,w::vs,0,m,nd,h1,h2,hk=>by
    simp at h1 h2;subst h1;subst h2;show bindC kindOf ((p,w)::P.zip vs) m p=_;unfold bindC;rw[IG λv hv=>(ajZ.mp nd).1 (aku hv).1,if_neg hk];simp
  | p::P,w::vs,i+1,m,nd,h1,h2,hk=>by
    show bindC kindOf ((p,w)::P.zip vs) m x=_;unfold bindC;exact IJ (i:=i) (ajZ.mp nd).2 (by simpa using h1) (by simpa using h2) hk
noncomputable def start(N:List Str)(vs:List V):St:=vs.map some++List.replicate (N.length-vs.length) none
noncomputable def Ro(CX:CXT)(P:Program)(w:World)(K:W.Frag)(mg:Str→Option Value)(base:Heap)(N:List Str)(qual:Str)(scope:Scope)(f:Addr)(cd:Value)(A:Around)(outer:List Env)(s:Shared)(H:Hp)(E:XK):Cx where
  prog:=P
  w:=w
  K:=K
  mg:=mg
  base:=base
  A:=A.deeper (envOfC qual scope s.heap.objs.size f cd)
  N:=N
  s₀:=s
  H₀:=H
  env:=envOfC qual scope s.heap.objs.size f cd
  outer:=outer
  stack:=envOfC qual scope s.heap.objs.size f cd::outer
  ex:=[]
  calm:=true
  fn:=λ_=>true
  pn:=[]
  xe:=λe s'=>wpAny (model P w) (A.deeper (envOfC qual scope s.heap.objs.size f cd)) (leaving (envOfC qual scope s.heap.objs.size f cd) e) (λ_ s''=>CX outer H s E e s'') (λe' s''=>CX outer H s E e' s'') s'
theorem Mm{sc:Scope}{n:Nat}{x:Str}(h:sc.names.lookup x=some .cell):∃ c,(cellsFrom n sc.names []).lookup x=some c:=by
  have q:=PySem.W.cellsFrom_some sc.names n [] (.inl h);exact Option.isSome_iff_exists.mp q
theorem IK{CX:CXT}{P:Program}{w:World}{K:W.Frag}{mg:Str→Option Value}{base:Heap}{N ps:List Str}{qual:Str}{scope:Scope}{f:Addr}{cd:Value}{A:Around}{outer:List Env}{s s1:Shared}{H:Hp}{E:XK}{us:List Value}{vs:List V}
    (S:aw N ps scope) (hd:A.handled=none) (e0:Nj P w K mg base A outer s H) (hl:vs.length=ps.length) (r:Vals vs us)
    (x:InCallC s s.heap.objs.size (bindL (envOfC qual scope s.heap.objs.size f cd).kindOf (ps.zip us) λ_=>none) (cellsFrom (s.heap.objs.size+1) scope.names []) (bindC (envOfC qual scope s.heap.objs.size f cd).kindOf (ps.zip us) λ_=>none) s1) :
    Inv (Ro CX P w K mg base N qual scope f cd A outer s H E) [] (start N vs) H s1:=by
  have hpl:ps.length≤N.length:=by have:=congrArg List.length S.pre;rw[aiV]at this;omega
  obtain⟨h1,tk,rfl,hk⟩:=x.done;have noA:∀ b:Addr,b∉(Ro CX P w K mg base N qual scope f cd A outer s H E).ex:=λb z=>absurd (show b∈([]:List Addr) from z) (by simp);refine⟨⟨e0.mod,S.kind,rfl,rfl,aiN _,λy z c h1 h2=>?_,λy hy=>?_,λy c _ h=>?_,λ_=>hd,Around.frames_deeper e0.frames,.inr ⟨rfl,rfl⟩,λb z=>absurd z (noA b),e0.bs,e0.bsz,λb _ _=>noA b,λb z=>absurd z (noA b),e0.Ce,e0.frf⟩,
    rfl,e0.bare,Un.kept hk,⟨_,x.toInCall.ns,λi y v h1 h2 h3=>?_⟩,λy c h=>⟨_,x.cell y c h⟩,e0.hok.fresh (aiN _),λy c h=>?_,λp hp=>absurd (show p∈([]:List (Addr×Obj)) from hp) (by simp),e0.hok.kept hk,?_⟩
  · exact name_of_addr x.apart (ajy h1) (ajy h2)
  · have hy:scope.names.lookup y=some .cell∨scope.names.lookup y=some .free:=hy
    rcases hy with hy|hy
    · exact Mm hy
    · exact absurd rfl (S.V8 _ (ajy hy))
  · exact akn (x.above y c (ajy h))
  · have hi:i<vs.length:=by
      unfold start at h2;by_cases hi:i<vs.length
      · exact hi
      · rw[ajx (by simpa using hi)]at h2
        rw[List.getElem?_replicate]at h2;split at h2<;>cases h2
    have ha:vs[i]?=some v:=by
      unfold start at h2;rw[ajU (by simpa using hi),aiW]at h2;cases e:vs[i]? with
      | none=>rw[e]at h2;cases h2
      | some a=>rw[e]at h2;cases h2;rfl
    obtain⟨u,hu,rv⟩:=r.get ha;have hp:ps[i]?=some y:=by
      rw[←S.pre,aki (by omega)];exact h1
    have ndP:ps.Nodup:=(by rw[←S.pre];exact S.nd.sublist (ajO _ _));refine⟨u,rv,?_⟩;rcases S.par y (aiU hp) with k|k
    · exact .inl ⟨k,II ndP hp hu k⟩
    · obtain⟨c,e⟩:=Mm (n:=s.heap.objs.size+1) k
      refine .inr ⟨.inl k,c,e,?_⟩;have q:=x.cell y c e;rw[IJ ndP hp hu (by show scope.names.lookup y≠_;rw[k];decide)]at q;exact q
  · exact e0.hok.fresh (akn (x.above y c (ajy h)))
  · unfold start
    show _=N.length;rw[aiR,aiI,List.length_replicate];omega
theorem Y1{CX:CXT}{P:Program}{w:World}{K:W.Frag}{mg:Str→Option Value}{base:Heap}{k:Nat}{f:Addr}{name qual:Str}{params:Arguments}{body:List Stmt}{scope:Scope}{dV kV doc pm cdv ct oc:Value}{an od:Option Addr}
    {osl:Array (Option Value)} {N ps:List Str} {sp:Sp} (lk:K.lookup f=some ⟨oc,od,.func (PySem.W.fnOf name qual params body scope dV kV doc pm an cdv ct),osl⟩) (hcd:PySem.W.codeIn K cdv qual=true) (S:aw N ps scope)
    (len:∀ vs H Q E,sp vs H Q E→vs.length=ps.length)
    (EA:∀(A:Around) (outer:List Env) (s:Shared) (H:Hp) (vs:List V) (Q:VK) (E:XK),lB k (A.deeper (envOfC qual scope s.heap.objs.size f cdv))→sp vs H Q E →
      ∃ t,PSs (Ro CX P w K mg base N qual scope f cdv A outer s H E) body t∧t {nx:=λ_ H'=>Q .non H',rt:=Q} (start N vs) H) :
    Cg P w K mg base CX (k+1) f (PySem.W.fnOf name qual params body scope dV kV doc pm an cdv ct) ps sp:=by
  refine⟨len,λA outer s H args us vs Q E hr e0 hb r hsp=>?_⟩;have hl:=len _ _ _ _ hsp;have KX:K.In s.heap:=e0.mod.kin.keeps λb o e=>(e0.bs b o e).1;have lim:s.heap.NoLimit:=e0.mod.nolimit.keeps λb o e=>(e0.bs b o e).1;have To:∀ y∈ps.zip us,scope.names.lookup y.1=some .local∨(scope.names.lookup y.1=some .cell∧((cellsFrom (s.heap.objs.size+1) scope.names []).lookup y.1).isSome=true):=λ⟨n,v⟩ hy=>by
    rcases S.par n (aku hy).1 with q|q
    · exact .inl q
    · exact .inr ⟨q,PySem.W.cellsFrom_some _ _ _ (.inl q)⟩
  refine codeAny_call_function hr.depth (KX _ _ lk) rfl S.co S.gen rfl (PySem.W.codeRec_of KX hcd) (hb _ _ _ _ ?_);refine wpAny_newFunctionEnv_cells S.kind To λenv he s1 x=>?_;subst he;refine⟨lim.keeps x.toInCall.keep,codeAny_func ?_⟩;obtain⟨t,ht,hq⟩:=EA A outer s H vs Q E (hr.deeper _) hsp;have I:Inv (Ro CX P w K mg base N qual scope f cdv A outer s H E) [] (start N vs) H s1:=IK S hr.hd e0 hl r x;refine wpAny_mono (ht [] s1 (start N vs) H _ I hq) (λfl s' hs=>?_) λe s' hs=>hs;have fin:∀ {σ':St} {H':Hp} {v:V} {u:Value},Inv (Ro CX P w K mg base N qual scope f cdv A outer s H E) [] σ' H' s'→RelV v u→Q v H'→CE outer P w H s Q u s' :=
    λ{σ' H' v u} J rv q=>⟨v,H',J.os,J.bare,J.base,J.hok,rv,q⟩
  cases fl with
  | ret u =>
    obtain⟨v,σ',H',J,rv,q⟩:=hs;exact fin J rv q
  | next =>
    obtain⟨σ',H',J,q⟩:=hs;exact fin (v:=V.non) (u:=Value.none) J rfl q
  | brk =>
    obtain⟨_,_,_,q⟩:=hs;exact False.elim q
  | cont =>
    obtain⟨_,_,_,q⟩:=hs;exact False.elim q
end L2
namespace L2
open PySem PySem.Spec PyProof.Rows
section
variable{X:Cx}{x:Str}{p pos:Pos}{e:Expr}{es:List Expr}{t:TA}{id T:String}{r:List V→Hp→VK→Prop}
noncomputable def tCB(r:List V→Hp→VK→Prop)(t:TA):TE:=λσ H Q=>t σ H λvs H1=>r vs H1 Q
theorem eh(hc:qq X (.builtin id) r)(hg:Gl X x)(hm:X.mg x=none)(hv:bootBuiltins x=some (.builtin id))(ha:PA X (e::es) t)(hn:x ≠ "__name__" := by decide)(hdb:(x == ("__debug__" : Str))=false:=by decide)
    (he:starEach (e::es) X.env=(false,eval e X.env)::starEach es X.env:=by rfl) (hpl:(backTo pos (starEach es X.env)).any (·.1)=false:=by rfl):PE X (.Call (.Name x p) (e::es) [] pos) (tCB r t):=by
  intro pins s σ H Q I h;refine wpAny_Call_Name_kw (Fn I hg hm hv ?_ hn hdb);exact PyProof.Rows.callWith_builtin1 (thn (ha pos pins s σ H _ I h) λus s1 ⟨vs,H1,I1,r1,q1⟩=>hc pins s1 σ H1 vs us Q I1 r1 q1) he hpl
theorem km(hc:qq X (.type T) r)(hg:Gl X x)(hm:X.mg x=none)(hv:bootBuiltins x=some (.type T))(ha:PA X (e::es) t)(hn:x ≠ "__name__" := by decide)(hdb:(x == ("__debug__" : Str))=false:=by decide)
    (he:starEach (e::es) X.env=(false,eval e X.env)::starEach es X.env:=by rfl) (hpl:(backTo pos (starEach es X.env)).any (·.1)=false:=by rfl):PE X (.Call (.Name x p) (e::es) [] pos) (tCB r t):=by
  intro pins s σ H Q I h;refine wpAny_Call_Name_kw (Fn I hg hm hv ?_ hn hdb);exact PyProof.Rows.callWith_type1 (thn (ha pos pins s σ H _ I h) λus s1 ⟨vs,H1,I1,r1,q1⟩=>hc pins s1 σ H1 vs us Q I1 r1 q1) he hpl
end
end L2
namespace HT
open PySem PyProof.Rows
section
open PySem.SeqAt
open PySem.AutoSeq1 (wpAny_loadPart')
open PySem.MeetsSeq PySem.MeetsSeq2 PySem.MeetsSeq3
end
section
variable{prog:Program}{w:World}{A:Around}{E:Value→Shared→Prop}{s:Shared}
noncomputable def sIx(n d:Nat):Option Int→Nat
  | none=>d
  | some v=>if v<0 then(v+(n:Int)).toNat else min v.toNat n
end
end HT
namespace L2
open PySem PySem.Spec PyProof.Rows
noncomputable abbrev TO:=St→Hp→(Option Int→Hp→Prop)→Prop
noncomputable def PO(X:Cx)(e:Option Expr)(t:TO):Prop :=
  ∀(pins:List (Addr×Obj)) (s:Shared) (σ:St) (H:Hp) (Q:Option Int→Hp→Prop),Inv X pins σ H s→t σ H Q →
    wpAny (model X.prog X.w) X.A (evalPart e X.env) (λu s'=>∃ o H',Inv X pins σ H' s'∧IsPart u o∧Q o H') X.xe s
noncomputable def T6:TO:=λ_ H Q=>Q none H
noncomputable def Y2(t:TE):TO:=λσ H Q=>t σ H λx H1=>∃ i,x=.int i∧Q (some i) H1
theorem intsAre_of{ns:List Int}:∀ {us:List Value},Vals (ns.map V.int) us→IntsAre us ns:=by
  induction ns with
  | nil=>intro us r;rw[ako]at r;cases r;exact .nil
  | cons n ns ih =>
    intro us r;rw[aji]at r;cases r with
    | cons r1 r2 =>
      obtain⟨t,e⟩:=r1;subst e;exact .cons n t (ih r2)
section
variable{X:Cx}{e:Expr}{te:TE}{lo hi:Option Expr}{tl th:TO}{pos p2:Pos}
theorem T8:PO X none T6:=by
  intro pins s σ H Q I h;rw[evalPart_none];exact wpAny_pure ⟨none,H,I,.none,h⟩
theorem T9(h:PE X e te):PO X (some e) (Y2 te):=by
  intro pins s σ H Q I hw;rw[evalPart_some];refine thn (h pins s σ H _ I hw) λu s1 ⟨x,H1,I1,r1,q1⟩=>?_;obtain⟨i,rfl,q⟩:=q1;obtain⟨t,rfl⟩:=r1;exact⟨some i,H1,I1,.int i t,q⟩
noncomputable def SlR(X:Cx)(r:V→Option Int→Option Int→Hp→VK→Prop):Prop :=
  ∀(pins:List (Addr×Obj)) (s:Shared) (σ:St) (H:Hp) (x:V) (v vl vu:Value) (lo hi:Option Int) (sl:Addr) (Q:VK),Inv X pins σ H s→RelV x v→s.heap.IsSliceOf sl vl vu .none→IsPart vl lo→IsPart vu hi→r x lo hi H Q →
    ∃ T id,typeLookup (.type T) "__getitem__" = pure (some (.builtin id))∧s.TypeIs v T∧wpAny (model X.prog X.w) X.A (getItem v (.ref sl)) (EP X pins σ Q) X.xe s
noncomputable def tSl(r:V→Option Int→Option Int→Hp→VK→Prop)(te:TE)(tl th:TO):TE:=λσ H Q=>te σ H λx H1=>tl σ H1 λl H2=>th σ H2 λu H3=>r x l u H3 Q
theorem RF{r:V→Option Int→Option Int→Hp→VK→Prop}(hr:SlR X r)(he:PE X e te)(hl:PO X lo tl)(hu:PO X hi th):PE X (.Subscript e (.Slice lo hi none p2) pos) (tSl r te tl th):=by
  intro pins s σ H Q I h;refine Subscript_ (thn (he pins s σ H _ I h) λv s1 ⟨x,H1,I1,r1,q1⟩=>?_);refine wpAny_Slice (thn (hl pins s1 σ H1 _ I1 q1) λvl s2 ⟨l,H2,I2,pl,q2⟩=>thn (hu pins s2 σ H2 _ I2 q2) λvu s3 ⟨u,H3,I3,pu,q3⟩=>?_);rw[evalPart_none];refine wpAny_pure ?_;have I4:Inv X pins σ H3 {s3 with heap:=s3.heap.push {cls:=.type "slice",data:=.fields #[vl,vu,.none]}}:=I3.kept (t':=s3.toks) λb ob q=>aiL _ q;obtain⟨T,id,hT,ht,hg⟩:=hr pins {s3 with heap:=s3.heap.push {cls:=.type "slice",data:=.fields #[vl,vu,.none]}} σ H3 x v vl vu l u s3.heap.objs.size Q I4 r1 (Heap.IsSliceOf.new ..) pl pu q3;show wpAny (model X.prog X.w) X.A (subscriptTail e (.Slice lo hi none p2) v (.ref s3.heap.objs.size)) (EP X pins σ Q) X.xe {s3 with heap:=s3.heap.push {cls:=.type "slice",data:=.fields #[vl,vu,.none]}};exact tail_any (ops:=[.ref s3.heap.objs.size,v]) ht hT hg (by with_unfolding_all rfl)
noncomputable def Sv(xs:List V)(lo hi:Option Int):List V:=(xs.drop (HT.sIx xs.length 0 lo)).take (HT.sIx xs.length xs.length hi-HT.sIx xs.length 0 lo)
theorem Lc(xs:List V)(lo hi:Option Int):(Sv xs lo hi).length≤xs.length:=by
  unfold Sv;rw[aiV,ajr];omega
end
end L2
namespace L2
open PySem PySem.Spec PyProof.Rows
noncomputable def ixN(n:Nat)(i:Int):Option Nat:=if 0≤i then(if i<n then some i.toNat else none) else if -(n:Int)≤i then some (i+n).toNat else none
noncomputable def atI{α:Type}(xs:List α)(i:Int):Option α:=(ixN xs.length i).bind λj=>xs[j]?
theorem OY{n:Nat}{i:Int}{j:Nat}(h:ixN n i=some j):seqIndex? i n=some j∧j<n∧-(n:Int)≤i∧i<n:=by
  unfold ixN at h;by_cases h0:0≤i
  · rw[if_pos h0]at h
    by_cases h1:i<n
    · rw[if_pos h1]at h
      have e:i.toNat=j:=aja h;exact⟨by rw[seqIndex_of h0 h1,e],by omega,by omega,h1⟩
    · rw[if_neg h1]at h;cases h
  · rw[if_neg h0]at h
    by_cases h1:-(n:Int)≤i
    · rw[if_pos h1]at h
      have e:(i+n).toNat=j:=aja h;exact⟨by rw[seqIndex_neg (by omega) h1,e],by omega,h1,by omega⟩
    · rw[if_neg h1]at h;cases h
theorem OZ{α:Type}{xs:List α}{i:Int}{v:α}(h:atI xs i=some v):∃ j,seqIndex? i xs.length=some j∧xs[j]?=some v∧j<xs.length∧-(xs.length:Int)≤i∧i<xs.length:=by
  unfold atI at h;cases e:ixN xs.length i with
  | none=>rw[e]at h;cases h
  | some j =>
    rw[e]at h;obtain⟨h1,h2,h3,h4⟩:=OY e;exact⟨j,h1,h,h2,h3,h4⟩
theorem pK{α:Type}{xs:List α}{j:Nat}{v:α}(h:xs[j]?=some v):atI xs (j:Int)=some v:=by
  have hj:j<xs.length:=(aiM.mp h).1;have e:ixN xs.length (j:Int)=some j:=by
    unfold ixN;rw[if_pos (by omega),if_pos (by omega)];simp
  unfold atI;rw[e];exact h
noncomputable def Ua(b:Expr):Prop:=∀ o i,subscripted b false o i=operate [o,i] (getItem o i)
noncomputable def IxR(X:Cx)(r:R2):Prop :=
  ∀(value slice:Expr) (pins:List (Addr×Obj)) (s:Shared) (σ:St) (H:Hp) (x y:V) (v u:Value) (Q:VK),Inv X pins σ H s→RelV x v→RelV y u→r x y H Q →
    subscripted slice false v u=operate [v,u] (getItem v u)→wpAny (model X.prog X.w) X.A (subscriptTail value slice v u) (EP X pins σ Q) X.xe s
noncomputable def MtR(X:Cx)(id:String)(r:V→List V→Hp→VK→Prop):Prop :=
  ∀(pins:List (Addr×Obj)) (s:Shared) (σ:St) (H:Hp) (x:V) (xs:List V) (v:Value) (us:List Value) (Q:VK),Inv X pins σ H s→RelV x v→Vals xs us→r x xs H Q →
    wpAny (model X.prog X.w) X.A (call (.builtin id) (v::us)) (EP X pins σ Q) X.xe s
section
variable{X:Cx}{a b:Expr}{ta tb:TE}{pos:Pos}
theorem cg{r:R2}(hr:IxR X r)(ha:PE X a ta)(hb:PE X b tb)(hs:Ua b):PE X (.Subscript a b pos) (tOp r ta tb):=by
  intro pins s σ H Q I h;exact Subscript_ (W3 ha hb I h λv u s2 x y H2 I2 rx ry q=>hr a b pins s2 σ H2 x y v u Q I2 rx ry q (hs _ _))
inductive ZY(K:W.Frag)(x y:V)(H:Hp)(Q:VK):Prop where
  | mk (p:Addr) (xs:List V) (i:Int) (v:V):x=.ref p→y=.int i→SqL K H p xs→atI xs i=some v→Q v H→ZY K x y H Q
noncomputable def afm(K:W.Frag):R2:=λx y H Q=>ZY K x y H Q
inductive ZZ(K:W.Frag)(x y:V)(H:Hp)(Q:VK):Prop where
  | mk (p:Addr) (xs:List V) (i:Int) (v:V):x=.ref p→y=.int i→SqT K H p xs→atI xs i=some v→Q v H→ZZ K x y H Q
noncomputable def W6(K:W.Frag):R2:=λx y H Q=>ZZ K x y H Q
theorem iW:IxR X (afm X.K):=by
  intro value slice pins s σ H x y v u Q I rx ry h hs;obtain⟨p,xs,i,z,rfl,rfl,hq,he,q⟩:=h;cases rx;obtain⟨t,rfl⟩:=ry;obtain⟨its,r,pl,hz⟩:=I.list hq;obtain⟨j,h1,h2,h3,h4,h5⟩:=OZ he;obtain⟨w,ew,rw'⟩:=r.get h2;have hl:=r.length;have hn:=HG;have fin:EP X pins σ Q w s:=⟨z,H,I,rw',q⟩;by_cases h0:0≤i
  · have hj:i.toNat=j:=by
      rw[seqIndex_of h0 h5]at h1;exact aja h1
    exact item_listR pl.isList h0 (by omega) (by rw[hj];simpa using ew) fin hs
  · have hj:(i+(its.toArray.size:Int)).toNat=j:=by
      rw[seqIndex_neg (by omega) h4]at h1;rw[aiQ,←hl];exact aja h1
    exact subscriptTail_builtinR (x:=w) pl.isList.typeIs slot_list_getitem.lookup
      (wpAny_getItem_list_neg (Q:=λr s'=>r=w∧EP X pins σ Q r s') pl.isList (by omega) (by rw[aiQ]<;>omega) (by omega) (by rw[hj];simpa using ew) ⟨rfl,fin⟩) hs
theorem bY:IxR X (W6 X.K):=by
  intro value slice pins s σ H x y v u Q I rx ry h hs;obtain⟨p,xs,i,z,rfl,rfl,hq,he,q⟩:=h;cases rx;obtain⟨t,rfl⟩:=ry;obtain⟨its,r,pl,hz⟩:=I.tuple hq;obtain⟨j,h1,h2,h3,h4,h5⟩:=OZ he;obtain⟨w,ew,rw'⟩:=r.get h2;have hl:=r.length;have hn:=HG;have fin:EP X pins σ Q w s:=⟨z,H,I,rw',q⟩;exact subscriptTail_builtinR (x:=w) pl.typeIs slot_tuple_getitem.lookup
    (getItem_tuple (j:=j) (Q:=λr s'=>r=w∧EP X pins σ Q r s') pl (by omega) (by omega) (by rw[aiQ,←hl];exact h1) (by simpa using ew) ⟨rfl,fin⟩) hs
theorem Nk(its:List Value)(n j:Nat)(u:Value):Obj.mapSeq (·.setIfInBounds j u) {cls:=.type "list",data:=.seq its.toArray n}={cls:=.type "list",data:=.seq (its.set j u).toArray n}:=by
  simp[Obj.mapSeq]
theorem Inv.lst{pins:List (Addr×Obj)}{σ:St}{H:Hp}{s:Shared}{p:Addr}{xs:List V}(I:Inv X pins σ H s)(h:H p=some (.lst xs)) :
    ∃(its:List Value) (n:Nat),Vals xs its∧s.heap.get? p=some {cls:=.type "list",data:=.seq its.toArray n}∧xs.length≤sizeLine:=by
  obtain⟨z,its,n,r,e⟩:=I.hok p _ h;exact⟨its,n,r,e,z⟩
theorem Inv.V9{pins:List (Addr×Obj)}{σ:St}{H:Hp}{s:Shared}{p:Addr}{xs ys:List V}{its HC:List Value}{n n':Nat}{f:Obj→Obj}(I:Inv X pins σ H s)(h:H p=some (.lst xs))
    (ho:s.heap.get? p=some {cls:=.type "list",data:=.seq its.toArray n}) (hf:f {cls:=.type "list",data:=.seq its.toArray n}={cls:=.type "list",data:=.seq HC.toArray n'}) (r:Vals ys HC) (hz:ys.length≤sizeLine) (t:Nat) :
    Inv X pins σ (upd H p (.lst ys)) {s with heap:=s.heap.update p f,toks:=t}:=by
  have e:(s.heap.update p f).get? p=some {cls:=.type "list",data:=.seq HC.toArray n'}:=by
    rw[Heap.get?_update_self f ho (by rw[hf]<;>rfl),hf]
  refine I.write (x:=p) (e:=p) (by rw[h];trivial) (.inl rfl) (λb u hb q=>(ajv _ _ (ai7 hb)).trans q) ⟨_,e⟩ ?_;exact⟨hz,HC,n',r,e⟩
noncomputable def Y3:V→V→V→Hp→(Hp→Prop)→Prop:=λo i v H Q=>∃ p xs k j,o=.ref p∧i=.int k∧H p=some (.lst xs)∧ixN xs.length k=some j∧Q (upd H p (.lst (xs.set j v)))
theorem set_list:ZP X Y3:=by
  intro pins s σ H o i v ov iv u Q I ro ri rv h;obtain⟨p,xs,k,j,rfl,rfl,hp,hj,q⟩:=h;cases ro;obtain⟨t,rfl⟩:=ri;obtain⟨its,n,r,ho,hz⟩:=I.lst hp;obtain⟨h1,h2,h3,h4⟩:=OY hj;have hl:=r.length;have hn:=HG;have I':Inv X pins σ (upd H p (.lst (xs.set j v))) {s with heap:=s.heap.update p (Obj.mapSeq (·.setIfInBounds j u))} :=
    I.V9 hp ho (Nk its n j u) (r.set rv j) (by rw[ajK];exact hz) s.toks
  by_cases h0:0≤k
  · have hk:k.toNat=j:=by
      rw[seqIndex_of h0 h4]at h1;exact aja h1
    exact PySem.W.ki_setAt ho h0 (by omega) (by rw[aiQ,←hl];exact h4) (by rw[hk];exact⟨_,I',q⟩)
  · have hk:(k+(its.toArray.size:Int)).toNat=j:=by
      rw[seqIndex_neg (by omega) h3]at h1;rw[aiQ,←hl];exact aja h1
    exact PySem.W.ki_setBack ho (by omega) (by rw[aiQ,←hl];exact h3) (by omega) (by rw[hk];exact⟨_,I',q⟩)
theorem Jn(lo hi:Option Int)(n:Nat):(sliceBounds lo hi none n).1=((HT.sIx n 0 lo:Nat):Int)∧(sliceBounds lo hi none n).2.1=((HT.sIx n n hi:Nat):Int)∧(sliceBounds lo hi none n).2.2=1:=by
  refine⟨?_,?_,rfl⟩
  · cases lo with
    | none=>simp[sliceBounds,HT.sIx]
    | some i =>
      simp only[sliceBounds,HT.sIx,Option.getD_none,show(1:Int)>0 by decide,if_true];by_cases h:i<0
      · simp only[h,if_true]<;>omega
      · simp only[h,if_false]<;>omega
  · cases hi with
    | none=>simp[sliceBounds,HT.sIx]
    | some i =>
      simp only[sliceBounds,HT.sIx,Option.getD_none,show(1:Int)>0 by decide,if_true];by_cases h:i<0
      · simp only[h,if_true]<;>omega
      · simp only[h,if_false]<;>omega
theorem HI(its:List Value)(lo hi:Option Int):slicePick its.toArray lo hi none=((its.drop (HT.sIx its.length 0 lo)).take (HT.sIx its.length its.length hi-HT.sIx its.length 0 lo)).toArray:=by
  obtain⟨h1,h2,h3⟩:=Jn lo hi its.toArray.size;unfold slicePick;rw[h1,h2,h3];simp only[sliceRange_one,pick_run,aiQ]<;>rfl
noncomputable def afn(K:W.Frag):V→Option Int→Option Int→Hp→VK→Prop:=λx lo hi H Q=>∃ a xs,x=.ref a∧SqL K H a xs∧∀ p,H p=none→Q (.ref p) (upd H p (.lst (Sv xs lo hi)))
theorem Ub:SlR X (afn X.K):=by
  intro pins s σ H x v vl vu lo hi sl Q I rx hs pl pu h;obtain⟨a,xs,rfl,hx,q⟩:=h;cases rx;obtain⟨its,r,ht,hz⟩:=I.list hx;have hlen:=r.length;refine⟨"list",_,slot_list_getitem.lookup,ht.isList.typeIs,?_⟩;refine wpAny_getItem_list_slice ht.isList hs pl pu .none (by simp) ?_ (by rw[aiQ]<;>omega);rw[HI,←hlen];refine⟨.ref s.heap.objs.size,_,I.laid (t':=s.toks) (o:=.lst (Sv xs lo hi)) (λb ob q=>aiL _ q) (aiN _) ?_,rfl,q _ (I.hok.fresh (aiN _))⟩;exact⟨ai5 (Lc xs lo hi) hz,_,0,(r.drop (HT.sIx xs.length 0 lo)).take (HT.sIx xs.length xs.length hi-HT.sIx xs.length 0 lo),ajh _ rfl⟩
noncomputable def m9:V→Bool
  | .non=>true
  | .bl _=>true
  | .int _=>true
  | .str _=>true
  | _=>false
noncomputable def eqV:V→V→Bool
  | .non,.non=>true
  | .bl a,.bl b=>a == b
  | .bl a,.int b=>(if a then 1 else 0) == b
  | .int a,.bl b=>a == (if b then 1 else 0)
  | .int a,.int b=>a == b
  | .str a,.str b=>a == b
  | _,_=>false
theorem OC{A:Around}{s:Shared}{y x:V}{u v:Value}(ry:RelV y u)(rx:RelV x v)(fy:m9 y=true)(fx:m9 x=true):SeqAt.EqAt A s u v (eqV y x):=by
  cases y with
  | non =>
    cases ry;cases x with
    | non=>cases rx;exact SeqAt.EqAt.same _
    | bl b=>cases rx;exact SeqAt.EqAt.none_bool b
    | int b=>obtain⟨t,rfl⟩:=rx;exact SeqAt.EqAt.none_int b t
    | str b=>obtain⟨t,rfl⟩:=rx;exact SeqAt.EqAt.none_str b t
    | _=>exact absurd (show false=true from fx) aiO
  | bl a =>
    cases ry;cases x with
    | non=>cases rx;exact SeqAt.EqAt.bool_none a
    | bl b=>cases rx;exact SeqAt.EqAt.bool_bool a b
    | int b=>obtain⟨t,rfl⟩:=rx;exact SeqAt.EqAt.bool_int a b t
    | str b=>obtain⟨t,rfl⟩:=rx;exact SeqAt.EqAt.bool_str a b t
    | _=>exact absurd (show false=true from fx) aiO
  | int a =>
    obtain⟨t',rfl⟩:=ry;cases x with
    | non=>cases rx;exact SeqAt.EqAt.int_none a t'
    | bl b=>cases rx;exact SeqAt.EqAt.int_bool a t' b
    | int b=>obtain⟨t,rfl⟩:=rx;exact SeqAt.EqAt.int_int a t' b t
    | str b=>obtain⟨t,rfl⟩:=rx;exact SeqAt.EqAt.int_str a t' b t
    | _=>exact absurd (show false=true from fx) aiO
  | str a =>
    obtain⟨t',rfl⟩:=ry;cases x with
    | non=>cases rx;exact SeqAt.EqAt.str_none a t'
    | bl b=>cases rx;exact SeqAt.EqAt.str_bool a t' b
    | int b=>obtain⟨t,rfl⟩:=rx;exact SeqAt.EqAt.str_int a t' b t
    | str b=>obtain⟨t,rfl⟩:=rx;exact SeqAt.EqAt.str_str a t' b t
    | _=>exact absurd (show false=true from fx) aiO
  | _=>exact absurd (show false=true from fy) aiO
noncomputable def eqU(x:V)(u:Value):Bool:=match u with
  | .none=>eqV .non x
  | .bool b=>eqV (.bl b) x
  | .int i _=>eqV (.int i) x
  | .str z _=>eqV (.str z) x
  | _=>false
theorem Sw{x y:V}{u:Value}(r:RelV y u)(f:m9 y=true):eqU x u=eqV y x:=by
  cases y with
  | non=>cases r;rfl
  | bl b=>cases r;rfl
  | int i=>obtain⟨t,rfl⟩:=r;rfl
  | str z=>obtain⟨t,rfl⟩:=r;rfl
  | _=>exact absurd (show false=true from f) aiO
theorem Ci{x:V}:∀ {xs:List V} {us:List Value},Vals xs us→xs.all m9=true→us.any (eqU x)=xs.any λy=>eqV y x
  | _,_,.nil,_=>rfl
  | y::xs,u::us,.cons r t,f=>by
    rw[List.all_cons,akf]at f;rw[akk,akk,Sw r f.1,Ci t f.2]
theorem vz{A:Around}{s:Shared}{x:V}{v:Value}(rx:RelV x v)(fx:m9 x=true):∀ {xs:List V} {us:List Value},Vals xs us→xs.all m9=true→∀ u∈us,SeqAt.EqAt A s u v (eqU x u)
  | _,_,.nil,_=>λu hu=>by cases hu
  | y::xs,u::us,.cons r t,f=>λu' hu=>by
    rw[List.all_cons,akf]at f;rcases aiY.mp hu with rfl|hu
    · rw[Sw r f.1];exact OC r rx f.1 fx
    · exact vz rx fx t f.2 u' hu
noncomputable def inV(x:V)(xs:List V):Bool:=xs.any λy=>eqV y x
noncomputable def rIn(K:W.Frag)(neg:Bool):R2:=λx y H Q=>∃ p xs,y=.ref p∧(SqL K H p xs∨SqT K H p xs)∧m9 x=true∧xs.all m9=true∧Q (.bl (if neg then !inV x xs else inV x xs)) H
theorem mK:OpR X (compareOp .In) (rIn X.K false):=by
  intro pins s σ H x y v u Q I rx ry h;obtain⟨p,xs,rfl,hq,fx,fs,q⟩:=h;cases ry;rcases hq with hq|hq
  · obtain⟨its,r,pl,hz⟩:=I.list hq
    refine SeqAt.in_listAt (eqU x) pl.isList (λw hw=>vz rx fx r fs w (by simpa using hw)) ⟨.bl _,H,I,rfl,?_⟩;rw[show its.toArray.any (eqU x)=its.any (eqU x) by simp,Ci r fs];exact q
  · obtain⟨its,r,pl,hz⟩:=I.tuple hq
    refine SeqAt.in_tupleAt (eqU x) pl (λw hw=>vz rx fx r fs w (by simpa using hw)) ⟨.bl _,H,I,rfl,?_⟩;rw[show its.toArray.any (eqU x)=its.any (eqU x) by simp,Ci r fs];exact q
theorem iE:OpR X (compareOp .NotIn) (rIn X.K true):=by
  intro pins s σ H x y v u Q I rx ry h;obtain⟨p,xs,rfl,hq,fx,fs,q⟩:=h;cases ry;rcases hq with hq|hq
  · obtain⟨its,r,pl,hz⟩:=I.list hq
    refine SeqAt.notIn_listAt (eqU x) pl.isList (λw hw=>vz rx fx r fs w (by simpa using hw)) ⟨.bl _,H,I,rfl,?_⟩;rw[show its.toArray.any (eqU x)=its.any (eqU x) by simp,Ci r fs];exact q
  · obtain⟨its,r,pl,hz⟩:=I.tuple hq
    refine SeqAt.notIn_tupleAt (eqU x) pl (λw hw=>vz rx fx r fs w (by simpa using hw)) ⟨.bl _,H,I,rfl,?_⟩;rw[show its.toArray.any (eqU x)=its.any (eqU x) by simp,Ci r fs];exact q
theorem iF:qq X (.builtin "len") (λxs H Q=>∃ p ys,xs=[.ref p]∧(SqL X.K H p ys∨SqT X.K H p ys)∧Q (.int ys.length) H):=by
  intro pins s σ H xs us Q I r h;obtain⟨p,ys,rfl,hq,q⟩:=h;obtain⟨u,rfl,rx⟩:=vals1 r;cases rx;have hn:=HG;rcases hq with hq|hq
  · obtain⟨its,r',pl,hz⟩:=I.list hq
    have hlen:=r'.length;exact Calls.call_len_list pl.isList (by simp only[aiQ]<;>omega) ⟨.int ys.length,H,I.tok _,⟨s.toks+1,by rw[aiQ,hlen]⟩,q⟩
  · obtain⟨its,r',pl,hz⟩:=I.tuple hq
    have hlen:=r'.length;exact len_tuple pl (by simp only[aiQ]<;>omega) ⟨.int ys.length,H,I.tok _,⟨s.toks+1,by rw[aiQ,hlen]⟩,q⟩
theorem nN:qq X (.type "list") (λxs H Q=>∃ p ys,xs=[.ref p]∧(SqL X.K H p ys∨SqT X.K H p ys)∧∀ l,H l=none→Q (.ref l) (upd H l (.lst ys))):=by
  intro pins s σ H xs us Q I r h;obtain⟨p,ys,rfl,hq,q⟩:=h;obtain⟨u,rfl,rx⟩:=vals1 r;cases rx;have fin:∀(its:List Value),Vals ys its→ys.length≤sizeLine→∀(h':Heap) (c':Nat),(∀ b o',s.heap.get? b=some o'→h'.get? b=some o') →
      h'.get? s.heap.objs.size=some {cls:=.type "list",dict:=none,data:=.seq its.toArray c',slots:=#[]}→EP X pins σ Q (.ref s.heap.objs.size) {s with heap:=h'}:=λits r' hz h' c' kp e =>
    ⟨.ref s.heap.objs.size,_,I.laid (t':=s.toks) kp (aiN _) (show fg X.prog X.w _ h' _ (.lst ys) from⟨hz,its,c',r',e⟩),rfl,q _ (I.hok.fresh (aiN _))⟩
  rcases hq with hq|hq
  · obtain⟨its,r',pl,hz⟩:=I.list hq
    have hlen:=r'.length;obtain⟨o,ho,hc,n,hd⟩:=pl.isList;exact call_list_seq p (.inl rfl) ho hc hd (λh' c' kp e=>fin its r' hz h' c' kp e) (by simp only[aiQ]<;>omega)
  · obtain⟨its,r',pl,hz⟩:=I.tuple hq
    have hlen:=r'.length;obtain⟨o,ho,hc,n,hd⟩:=pl;exact call_list_seq p (.inr rfl) ho hc hd (λh' c' kp e=>fin its r' hz h' c' kp e) (by simp only[aiQ]<;>omega)
noncomputable def tyV(K:W.Frag)(T:String)(x:V)(H:Hp):Prop:=match x with
  | .str _=>T = "str"
  | .int _=>T = "int"
  | .ref p=>(T = "list" ∧ ∃ xs,SqL K H p xs)∨(T = "tuple" ∧ ∃ o,K.lookup p=some o∧o.cls=.type "tuple" ∧ o.dict=none) ∨
      (T = "dict" ∧ ((∃ kvs,H p=some (.dK kvs))∨∃ kvs,H p=some (.dT kvs)))∨(T = "set" ∧ ∃ S n,H p=some (.set S n))
  | _=>False
theorem Sx{pins:List (Addr×Obj)}{σ:St}{H:Hp}{s:Shared}{T:String}{x:V}{v:Value}(I:Inv X pins σ H s)(r:RelV x v)(ty:tyV X.K T x H) :
    s.TypeIs v T∧∀ a,v=.ref a→∃ ob,s.heap.get? a=some ob∧ob.dict=none:=by
  cases x with
  | str z =>
    obtain⟨t,rfl⟩:=r;cases (show T = "str" from ty);exact⟨typeIs_str s z t,λ_ e=>nomatch e⟩
  | int i =>
    obtain⟨t,rfl⟩:=r;cases (show T = "int" from ty);exact⟨typeIs_int s i t,λ_ e=>nomatch e⟩
  | ref p =>
    cases r;rcases ty with⟨rfl,xs,hq⟩|⟨rfl,o,hk,hc,hd⟩|⟨rfl,hk⟩|⟨rfl,S,n,hk⟩
    · obtain⟨its,_,pl,_⟩:=I.list hq
      refine⟨pl.isList.typeIs,λa e=>?_⟩;cases e;obtain⟨o,n,e,c,hd,_⟩:=pl;exact⟨o,e,hd⟩
    · refine⟨⟨o,I.kIn p o hk,hc⟩,λa e=>?_⟩
      cases e;exact⟨o,I.kIn _ o hk,hd⟩
    · have z:∃ o,s.heap.get? p=some o∧o.ExactDict:=by
        rcases hk with⟨kvs,hk⟩|⟨kvs,hk⟩
        · obtain⟨_,_,_,_,o,_,_,e,ex,_⟩:=I.hok p _ hk
          exact⟨o,e,ex⟩
        · obtain⟨_,_,_,_,o,_,_,e,ex,_⟩:=I.hok p _ hk
          exact⟨o,e,ex⟩
      obtain⟨o,e,ex⟩:=z;refine⟨⟨o,e,ex.1⟩,λa e2=>?_⟩;cases e2;exact⟨o,e,ex.2.1⟩
    · obtain⟨o,_,_,_,e,ex,_⟩:=I.hok p _ hk
      refine⟨⟨o,e,ex.1⟩,λa e2=>?_⟩;cases e2;exact⟨o,e,ex.2.1⟩
  | _=>exact False.elim ty
noncomputable def afo(K:W.Frag)(T:String)(r:V→List V→Hp→VK→Prop)(to:TE):TE:=λσ H Q=>to σ H λx H1=>tyV K T x H1∧r x [] H1 Q
noncomputable def tBM(K:W.Frag)(T:String)(r:V→List V→Hp→VK→Prop)(to:TE)(t:TA):TE:=λσ H Q=>to σ H λx H1=>tyV K T x H1∧t σ H1 λxs H2=>r x xs H2 Q
variable{o e:Expr}{es:List Expr}{to:TE}{t:TA}{name:Str}{apos zi:Pos}{T id:String}{r:V→List V→Hp→VK→Prop}
theorem Wa(pa:PlainAttrs T)(slot:Slot T name id)(hty:typeOf (.builtin id)=pure (.type "method_descriptor"))(hm:MtR X id r)(ho:PE X o to)
    (Tp:attributeBase o name X.env (eval o X.env)=eval o X.env:=by rfl) (Tq:(apos.endLine == zi.line)=true:=by rfl):PE X (.Call (.Attribute o name apos) [] [] zi) (afo X.K T r to):=by
  intro pins s σ H Q I h;refine wpAny_Call_method0_late Tp Tq (thn (ho pins s σ H _ I h) λv s1 ⟨x,H1,I1,r1,ty,q1⟩=>?_);obtain⟨h1,h2⟩:=Sx I1 r1 ty;exact⟨T,id,pa,slot,hty,h1,h2,aj5 rfl (PySem.evalArgs_none (hm pins s1 σ H1 x [] v [] Q I1 r1 .nil q1))⟩
theorem KQ(pa:PlainAttrs T)(slot:Slot T name id)(hty:typeOf (.builtin id)=pure (.type "method_descriptor"))(hm:MtR X id r)(ho:PE X o to)(ha:PA X (e::es) t)
    (Tp:attributeBase o name X.env (eval o X.env)=eval o X.env:=by rfl)
    (Uc:((backTo zi (starEach (e::es) X.env)).all (λx=>!x.1)&&(backToKw zi (keywordEach [] X.env)).all (λx=>x.1.isSome)
      && decide ((e::es).length+([]:List Keyword).length+(if([]:List Keyword).isEmpty then 0 else 1)<30))=true:=by rfl)
    (Tq:(apos.endLine == zi.line)=true:=by rfl) (hs:starEach (e::es) X.env=(false,eval e X.env)::starEach es X.env:=by rfl) (Wb:(backTo zi (starEach es X.env)).any (·.1)=false:=by rfl) :
    PE X (.Call (.Attribute o name apos) (e::es) [] zi) (tBM X.K T r to t):=by
  intro pins s σ H Q I h;refine wpAny_Call_method_late Tp Uc Tq rfl (thn (ho pins s σ H _ I h) λv s1 ⟨x,H1,I1,r1,ty,q1⟩=>?_);obtain⟨h1,h2⟩:=Sx I1 r1 ty;refine⟨T,id,pa,slot,hty,h1,h2,?_⟩;have hA:=ha zi pins s1 σ H1 _ I1 q1;rw[hs]at hA ⊢;refine aj5 (by show(false||(backTo zi (starEach es X.env)).any (·.1))=false;rw[Wb]<;>rfl) (akr ?_);exact thn hA λus s2 ⟨vs,H2,I2,r2,q2⟩=>hm pins s2 σ H2 x vs v us Q I2 r1 r2 q2
end
end L2
namespace L2
open PySem PySem.Spec PyProof.Rows
noncomputable def MtM(X:Cx)(id:String)(r:V→List V→Hp→VK→Prop):Prop :=
  ∀(pins:List (Addr×Obj)) (s:Shared) (σ:St) (H:Hp) (x:V) (xs:List V) (v:Value) (us:List Value) (Q:VK),Inv X pins σ H s→RelV x v→Vals xs us→r x xs H Q →
    wpAny (model X.prog X.w) X.A (call (.builtin id) (v::us)) (EP X pins σ Q) X.xe s
theorem Vals.one:∀ {x:V} {us:List Value},Vals [x] us→∃ u,us=[u]∧RelV x u
  | _,_,.cons r .nil=>⟨_,rfl,r⟩
theorem Vals.zero:∀ {us:List Value},Vals [] us→us=[]
  | _,.nil=>rfl
theorem Vals.dropLast{xs:List V}{us:List Value}(h:Vals xs us):Vals xs.dropLast us.dropLast:=by
  induction h with
  | nil=>exact .nil
  | cons r t ih =>
    cases t with
    | nil=>exact .nil
    | cons q t'=>exact .cons r ih
theorem Vals.rep{xs:List V}{us:List Value}(h:Vals xs us):∀ k:Nat,Vals (List.replicate k xs).flatten (List.replicate k us).flatten
  | 0=>.nil
  | k+1=>by
    rw[ajG,ajG,aj9,aj9];exact Vals.append h (Vals.rep h k)
theorem Nl{α:Type}(l:List α):l.eraseIdx (l.length-1)=l.dropLast:=by
  induction l with
  | nil=>rfl
  | cons a r ih =>
    cases r with
    | nil=>rfl
    | cons b r =>
      have e:(a::b::r).length-1=((b::r).length-1)+1:=by
        have h1:(a::b::r).length=r.length+2:=rfl;have h2:(b::r).length=r.length+1:=rfl;omega
      rw[e,List.eraseIdx_cons_succ,ih]
      all_goals rfl
theorem foldl_rep(its:List Value):∀(k:Nat) (acc:List Value),
    List.foldl (λx1 x2=>x1++x2) acc.toArray (List.replicate k its.toArray)=(acc++(List.replicate k its).flatten).toArray
  | 0,acc=>by simp
  | k+1,acc=>by
    have e:acc.toArray++its.toArray=(acc++its).toArray:=(by simp);have e2:(acc++its)++(List.replicate k its).flatten=acc++(List.replicate (k+1) its).flatten:=by
      rw[ajG,aj9,ajd]
    rw[←e2,←foldl_rep its k (acc++its),←e,ajG,List.foldl_cons]
section
variable{X:Cx}{pins:List (Addr×Obj)}{σ:St}{H:Hp}{s:Shared}{l b:Addr}{xs ys zs:List V}
theorem Inv.Xa{its HC:List Value}{n:Nat}{f:Array Value→Array Value}{t':Nat}(I:Inv X pins σ H s)(hH:H l=some (.lst xs))
    (e:s.heap.get? l=some {cls:=.type "list",data:=.seq its.toArray n}) (hf:f its.toArray=HC.toArray) (hv:Vals ys HC) (hz:ys.length≤sizeLine) :
    Inv X pins σ (upd H l (.lst ys)) {s with heap:=s.heap.update l (Obj.mapSeq f),toks:=t'}:=by
  have q:=PySem.IsL.update e f;rw[hf]at q;refine I.write (x:=l) (e:=l) (by rw[hH];exact trivial) (.inl rfl) (λb' u hb hu=>(ajv s.heap (Obj.mapSeq f) (ai7 hb)).trans hu) ⟨_,q⟩ ?_;exact⟨hz,HC,_,hv,q⟩
theorem Inv.Ud{its:List Value}{t':Nat}(I:Inv X pins σ H s)(hv:Vals ys its)(hz:ys.length≤sizeLine) :
    Inv X pins σ (upd H s.heap.objs.size (.lst ys)) {s with heap:=s.heap.push {cls:=.type "list",data:=.seq its.toArray},toks:=t'} :=
  I.laid (λ_ _ q=>aiL _ q) (aiN _) ⟨hz,its,0,hv,ajh _ rfl⟩
theorem Inv.fresh(I:Inv X pins σ H s):H s.heap.objs.size=none:=I.hok.fresh (aiN _)
theorem Inv.Ue(I:Inv X pins σ H s)(hH:H l=some (.lst xs)):xs.length≤sizeLine∧∃(its:List Value) (n:Nat),Vals xs its∧xs.length=its.length∧s.heap.get? l=some {cls:=.type "list",data:=.seq its.toArray n}:=by
  obtain⟨z,its,n,r,e⟩:=I.hok l _ hH;exact⟨z,its,n,r,r.length,e⟩
theorem Mn{n:Nat}(h:n≤sizeLine):Builtin.List.listTooLong n=false:=by
  unfold Builtin.List.listTooLong;exact decide_eq_false (by omega)
end
section
variable{X:Cx}
noncomputable def Ug:V→List V→Hp→VK→Prop:=λx vs H Q=>∃ l xs y,x=.ref l∧vs=[y]∧H l=some (.lst xs)∧xs.length<sizeLine∧Q .non (upd H l (.lst (xs++[y])))
theorem rp:MtM X "list.append" Ug:=by
  intro pins s σ H x vs v us Q I rx rv h;obtain⟨l,xs,y,rfl,rfl,hH,hz,q⟩:=h;cases rx;obtain⟨u,rfl,ru⟩:=rv.one;obtain⟨z,its,n,r,hl,e⟩:=I.Ue hH;refine call_meets F.slot_list_append ⟨_,e,rfl⟩ F.entry_list_append (F.args_list_append_2 _ _) (PySem.list_append l its.toArray n u (by rw[aiQ];omega)) ⟨e,?_⟩;refine⟨.non,_,I.Xa (HC:=its++[u]) hH e (by simp) (r.append (.cons ru .nil)) ?_,rfl,q⟩;rw[aiR,ajl];omega
noncomputable def Uh:V→List V→Hp→VK→Prop:=λx vs H Q=>∃ l b xs zs,x=.ref l∧vs=[.ref b]∧H l=some (.lst xs)∧H b=some (.lst zs)∧xs.length+zs.length≤sizeLine∧Q .non (upd H l (.lst (xs++zs)))
theorem IL:MtM X "list.extend" Uh:=by
  intro pins s σ H x vs v us Q I rx rv h;obtain⟨l,b,xs,zs,rfl,rfl,hH,hB,hz,q⟩:=h;cases rx;obtain⟨u,rfl,ru⟩:=rv.one;cases ru;obtain⟨z,its,n,r,hl,e⟩:=I.Ue hH;obtain⟨z2,Vq,n2,r2,hl2,e2⟩:=I.Ue hB;have hsz:its.toArray.size+Vq.toArray.size≤sizeLine:=by rw[aiQ,aiQ];omega
  have Tr:¬(!its.toArray.isEmpty&&Builtin.List.listTooLong (its.toArray.size+Vq.toArray.size))=true:=by
    rw[Mn hsz,akd];exact aiO
  refine call_meets F.slot_list_extend ⟨_,e,rfl⟩ F.entry_list_extend (F.args_list_extend_2 _ _)
    (AutoSeq1.list_extend_list_list_0 l its.toArray n b Vq.toArray n2 Tr (by rw[aiQ];omega) (by omega)) ⟨e,e2,?_⟩
  refine⟨.non,_,I.Xa (HC:=its++Vq) hH e (by simp) (r.append r2) ?_,rfl,q⟩;rw[aiR];omega
noncomputable def afp:V→List V→Hp→VK→Prop:=λx vs H Q=>∃ l xs y,x=.ref l∧vs=[]∧H l=some (.lst xs)∧xs[xs.length-1]?=some y∧Q y (upd H l (.lst xs.dropLast))
theorem Wc:MtM X "list.pop" afp:=by
  intro pins s σ H x vs v us Q I rx rv h;obtain⟨l,xs,y,rfl,rfl,hH,hy,q⟩:=h;cases rx;have hus:=rv.zero;subst hus;obtain⟨z,its,n,r,hl,e⟩:=I.Ue hH;obtain⟨u,hu,ru⟩:=r.get hy;have hy':its.toArray[its.toArray.size-1]?=some u:=by
    show its.toArray[its.length-1]?=some u;rw[←ajz,←hl];exact hu
  refine call_meets F.slot_list_pop ⟨_,e,rfl⟩ F.entry_list_pop (F.args_list_pop_1 _) (MeetsSeq.list_pop_last l its.toArray n u hy' (by rw[aiQ];omega)) ⟨e,?_⟩;refine⟨y,_,I.Xa (HC:=its.dropLast) hH e ?_ r.dropLast ?_,ru,q⟩
  · show its.toArray.eraseIdxIfInBounds (its.toArray.size-1)=its.dropLast.toArray
    rw[aiQ,List.eraseIdxIfInBounds_toArray,Nl]
  · rw[List.length_dropLast]
    omega
noncomputable def afq:R2:=λx y H Q=>∃ l k xs,x=.ref l∧y=.int k∧H l=some (.lst xs)∧-(2 ^ 63)≤k∧k<2 ^ 63∧xs.length*k.toNat≤sizeLine ∧
  ∀ p,H p=none→Q (.ref p) (upd H p (.lst (List.replicate k.toNat xs).flatten))
theorem len_rep{α:Type}(xs:List α)(k:Nat):(List.replicate k xs).flatten.length=k*xs.length:=by
  induction k with
  | zero=>simp
  | succ k ih=>rw[ajG,aj9,aiR,ih,Nat.succ_mul,Nat.add_comm]
theorem OD:OpR X (binaryOp .Mult) afq:=by
  intro pins s σ H x y v u Q I rx ry h;obtain⟨l,k,xs,rfl,rfl,hH,h1,h2,hz,q⟩:=h;cases rx;obtain⟨t,rfl⟩:=ry;obtain⟨z,its,n,r,hl,e⟩:=I.Ue hH;have hlen:its.toArray.size*k.toNat≤sizeLine:=by rw[aiQ,←hl];exact hz
  have afr:¬its.toArray.size*k.toNat>(2 ^ 63-1)/8:=by
    have:(sizeLine:Nat)≤(2 ^ 63-1)/8:=by decide
    omega
  have afs:¬(!Builtin.List.listFitsIndex k)=true:=by
    rw[fitsIndex_both h1 h2];exact aiO
  have Tr:¬Builtin.List.listTooLong (its.toArray.size*k.toNat)=true:=by
    rw[Mn hlen];exact aiO
  have aft:List.foldl (λx1 x2=>x1++x2) #[] (List.replicate (if its.toArray.isEmpty=true then 0 else k.toNat) its.toArray)=(List.replicate k.toNat its).flatten.toArray:=by
    have f0:∀ m:Nat,List.foldl (λx1 x2=>x1++x2) #[] (List.replicate m its.toArray)=(List.replicate m its).flatten.toArray:=λm=>by
      have:=foldl_rep its m []
      rw[List.nil_append]at this;exact this
    rw[f0];cases its with
    | nil=>simp
    | cons a r'=>rw[if_neg (by simp)]
  refine wpAny_binaryOp_repeat_ref (T := "list") (U := "int") (by decide) ⟨_,e,rfl⟩ (λs'=>typeIs_int s' k t) noFill_list_mul F.fills_int_mul F.slot_int_rmul repeat_list F.slot_int_index.lookup
    (call_meets F.slot_int_rmul (typeIs_int s k t) F.entry_int_rmul (F.args_int_rmul_2 _ _) (int___rmul___int_list k t l its.toArray n)
      ⟨e,rfl,⟨_,e,rfl⟩,call_meets F.slot_list_mul ⟨_,e,rfl⟩ F.entry_list_mul (F.args_list_mul_2 _ _) (AutoListH.list___mul___list_int_3 l its.toArray n k t afs afr Tr) ⟨e,?_⟩⟩)
  rw[aft];exact⟨.ref _,_,I.Ud (t':=s.toks) (r.rep k.toNat) (by rw[len_rep,Nat.mul_comm];exact hz),rfl,q _ I.fresh⟩
end
section
variable{prog:Program}{w:World}{A:Around}{E:Value→Shared→Prop}{s:Shared}
end
section
variable{X:Cx}
end
end L2
namespace Att
open PySem PySem.W PySem.Calls PyProof.Rows
theorem EB{P:Params}{h:Heap}:∀(ns:List Int) (vs:List Value),WellAll P h vs (ns.map WData.int)→IntsAre vs ns:=by
  intro ns;induction ns with
  | nil =>
    intro vs w;rw[ako]at w;cases w;exact .nil
  | cons n ns ih =>
    intro vs w;rw[aji]at w;cases w with
    | cons a b =>
      cases a;exact .cons _ _ (ih _ b)
theorem Qq{l:OpenLaw}{n:Nat}(hn:l.most=some n){P:Params}{h:Heap}{args:List WData}{vals:List Value}
    (Vr:l.row.toRowW.claim.pre args=true) (hwl:WellAll P h vals args) :
    ∃ a vs ns,vals=[Value.ref a]∧args=[WData.list (ns.map WData.int)]∧h.get? a=some {cls:=.type "list",data:=.seq vs.toArray}∧IntsAre vs ns∧ns.length≤n:=by
  have hsh:WShape.hasAll [] args [.list .int]=true:=(pre_splitW Vr).1;have hc:l.pre.holds [] {args:=args}=true:=(pre_splitW Vr).2;obtain⟨d,r,rfl,h1,h2⟩:=hasAllW_cons hsh;obtain rfl:=hasAllW_nil h2;obtain⟨xs,rfl,h3⟩:=hasW_list h1;obtain⟨ns,rfl⟩:=items_int h3;have hlen:ns.length≤n:=by
    unfold OpenLaw.pre at hc;have h4:(WTm.not (.lt (.lit (.int (n:Int))) (.len (.arg 0)))).holds [] {args:=[.list (ns.map .int)]}=true:=by
      have h4:=(holds_andW hc).1;rw[hn]at h4;exact h4
    have h5:=condW_of h4 (w_not (w_lt w_lit (w_len_list (w_arg rfl))));rw[aiI]at h5;refine Nat.le_of_not_lt λq=>?_;have q':(n:Int)<((ns.length:Nat):Int):=by omega
    first
      | (rw[decide_eq_true q']at h5;exact absurd h5 (by decide))
      | (simp at h5;omega)
  cases hwl with
  | cons w1 w2 =>
    cases w2;cases w1 with
    | list ho Fw=>exact⟨_,_,ns,rfl,rfl,ho,EB ns _ Fw,hlen⟩
theorem Qr(l:OpenLaw)(args:List WData):l.row.toRowW.claim.post args (.bool true) args=true :=
  postW_of (r:=l.row.toRowW) (X:=(true == true))
    (show WShape.has [] (.bool true) .bool=true by first|rfl|decide|simp[WShape.has,WShape.arms,WShape.armsAll])
    (show(WTm.eq .res (.lit (.bool true))).value [] {args:=args,res:=some (.bool true),after:=args}=some (.bool (true == true)) from w_eq_bool (w_res rfl) w_lit) rfl
theorem Ld{l:OpenLaw}{n:Nat}{q:Program}{loose:List Str}{XP:(Str→Option Value)→Heap→Prop}{YP:World→Heap→Prop}{d:DefRec}
    (hn:l.most=some n) (hdf:d.params.defaults=[])
    (call:∀(w:World) (s₀ s₁:Shared) (mg mb:Str→Option Value) (fa:Addr) (o:Obj) (pm cd doc:Value) (a:Addr) (vs:List Value) (ns:List Int),
      Ground q loose [] XP w s₀ mg mb s₁.heap→YP w s₁.heap →
      s₁.heap.get? fa=some o→o.data=.func (docDef d.name d.params d.body d.scope pm cd doc)→s₁.heap.CodeRec cd d.name→mg d.name=some (.ref fa) →
      s₁.heap.get? a=some {cls:=.type "list",data:=.seq vs.toArray}→IntsAre vs ns→ns.length≤n→s₁.gens=#[] →
      codeAny (model l.prog w) callerA (.call (.ref fa) ⟨[.ref a],[]⟩) (λr s'=>r=.ok (.ret (.bool true))∧OldK s₁.heap s'.heap∧s'.os=s₁.os∧AllBare s'.gens) s₁) :
    WalkO q loose XP YP l.row.toRowW d [] (λf vs=>PySem.call f vs):=by
  intro w s₀ s₁ mg mb G Y fa o pm cd doc dV kV ho hd hcd hD hmg hg args vals as Vr hlay hrd hwl hlo;obtain rfl:dV=.none:=Dflts.none hD hdf;obtain rfl:kV=.none:=Dflts.noKw hD;obtain⟨a,vs,ns,rfl,rfl,Xb,hints,hlen⟩:=Qq hn Vr hwl;refine enter_call (codeAny_mono (call w s₀ s₁ mg mb fa o pm cd doc a vs ns G Y ho (fd_plain hd) hcd hmg Xb hints hlen hg) λr s' hq=>?_);obtain⟨rfl,h2,h3,h4⟩:=hq;exact⟨.inl ⟨.bool true,.bool true,[],rfl,λ_=>rfl,.bool true,Qr l _,λ_=>⟨List.Pairwise.nil,λ_ hm=>(nomatch hm)⟩⟩,h2,h3,h4⟩
section
variable{prog:Program}{w:World}{A:Around}{E:Value→Shared→Prop}{s:Shared}{K:Frag}
end
end Att
namespace L2
open PySem PySem.Spec PyProof.Rows
theorem mL:∀ {vs:List Value} {ns:List Int},IntsAre vs ns→Vals (ns.map V.int) vs
  | _,_,.nil=>.nil
  | _,_,.cons n t h=>.cons ⟨t,rfl⟩ (mL h)
noncomputable def Xc(H:Hp):Prop:=∀ b,H b=none∨∃ o xs,H b=some (.frz o (.lst xs))
theorem RG{P:Program}{w:World}{K:W.Frag}{mg mb:Str→Option Value}{CX:CXT}{k:Nat}{fa a:Addr}{fd:FuncData}{x:Str}{sp:Sp}{s₁:Shared}{vs:List Value}{ns:List Int}
    (KX:K.In s₁.heap) (hns:s₁.heap.Ns mainGlobals mg) (hb:s₁.heap.Ns builtinsNs mb) (hbb:∀ x:Str,x ≠ "__name__" → mb x=bootBuiltins x) (afu:s₁.heap.NoLimit) (hg:s₁.gens=#[])
    (ha:s₁.heap.get? a=some {cls:=.type "list",data:=.seq vs.toArray}) (hi:IntsAre vs ns) (hl:ns.length≤sizeLine) (hr:lB k callerA)
    (F:∀ base:Heap,K.In base→base.Ns mainGlobals mg→Cg P w K mg base CX k fa fd [x] sp) (Y4:∀(s:Shared) (u:Value),BindsTo s fd ⟨[u],[]⟩ [(x,u)])
    (hsp:∀ H:Hp,Xc H→SqL K H a (ns.map V.int)→sp [.ref a] H (λv _=>v=.bl true) λ_ _ _=>False)
    (hCX:∀ H e s',CX [] H s₁ (λ_ _ _=>False) e s'→False) :
    codeAny (model P w) callerA (.call (.ref fa) ⟨[.ref a],[]⟩) (λr s'=>r=.ok (.ret (.bool true))∧OldK s₁.heap s'.heap∧s'.os=s₁.os∧AllBare s'.gens) s₁:=by
  have rv:=mL hi;have afv:=hi.length;have core:∀ H:Hp,Xc H→SqL K H a (ns.map V.int)→HOk P w H s₁.heap→(∀ b,H b≠none→b=a)→(H a≠none→K.lookup a=none) →
      codeAny (model P w) callerA (.call (.ref fa) ⟨[.ref a],[]⟩) (λr s'=>r=.ok (.ret (.bool true))∧OldK s₁.heap s'.heap∧s'.os=s₁.os∧AllBare s'.gens) s₁:=by
    intro H hO hS hok hA hK;have O0:∀ {b:Addr} {o:Obj},s₁.heap.get? b=some o→H b=none→(M7 s₁.heap H).get? b=some o:=λe n=>RA e n;have noA:∀ {b:Addr} {o:Obj} {es:Array DictEntry} {ep:Nat},s₁.heap.get? b=some o→o.data=.dict es ep→H b=none:=λ{b o es ep} e d=>by
      cases q:H b with
      | none=>rfl
      | some u =>
        have e':b=a:=hA b (by rw[q];simp);subst e';rw[ha]at e;cases e;have d':Data.seq vs.toArray _=Data.dict es ep:=d;cases d'
    have nsK:∀ {b:Addr} {m:Str→Option Value},s₁.heap.Ns b m→(M7 s₁.heap H).Ns b m:=λ{b m} ⟨o,es,ep,e,d,r⟩=>⟨o,es,ep,O0 e (noA e d),d,r⟩;have hKb:K.In (M7 s₁.heap H):=λb o e=>O0 (KX b o e) (by
      cases q:H b with
      | none=>rfl
      | some u =>
        have e':b=a:=hA b (by rw[q];simp);subst e';rw[hK (by rw[q];simp)]at e;cases e)
    have hM:Mod K mg (M7 s₁.heap H):=⟨hKb,nsK hns,⟨mb,nsK hb,hbb⟩,let ⟨mc,h1,h2⟩:=afu;⟨mc,nsK h1,h2⟩⟩;have e0:Nj P w K mg (M7 s₁.heap H) callerA [] s₁ H:=⟨rfl,hM,λb o e=>TZ e,Nat.le_of_eq (Qj _ _),trivial,λb hb=>absurd (show b∈([]:List Addr) from hb) (by simp),hok,.of_eq hg⟩;refine codeAny_mono ((F _ hKb (nsK hns)).run callerA [] s₁ H ⟨[.ref a],[]⟩ [.ref a] [.ref a] _ _ hr e0 (Y4 s₁ (.ref a)) (.cons rfl .nil) (hsp H hO hS)) λr s' h=>?_;cases r with
    | error e=>exact(hCX H e s' h).elim
    | ok fl =>
      cases fl with
      | next=>exact False.elim h
      | brk=>exact False.elim h
      | cont=>exact False.elim h
      | ret u =>
        obtain⟨v,H',os,bare,un,afw,r',q⟩:=h;have q':v=.bl true:=q;subst q';obtain rfl:u=Value.bool true:=r';refine⟨rfl,OldK.of_keep λb o e=>?_,os,bare⟩;cases q:H b with
        | none=>exact un.keep b o e q (by intro z;exact absurd (show b∈([]:List Addr) from z) (by simp)) (by simp)
        | some u =>
          rcases hO b with z|⟨ob,xs,z⟩
          · rw[q]at z;cases z
          · have z2:=un.Fu b ob _ z
            obtain⟨e1,_⟩:=hok b _ z;obtain⟨e2,_⟩:=afw b _ z2;rw[e]at e1;cases e1;exact e2
  cases hk:K.lookup a with
  | some o =>
    have e:=KX a o hk;rw[ha]at e;cases e;refine core (λ_=>none) (λ_=>.inl rfl) (.inr ⟨_,vs.toArray,_,hk,rfl,rfl,rfl,by rw[aiQ,afv];exact hl,by simpa using rv⟩) (λb u z=>by have z':(none:Option HO)=some u:=z;cases z') (λb z=>absurd rfl z) λz=>absurd rfl z
  | none =>
    refine core (λb=>if b=a then some (.frz {cls:=.type "list",data:=.seq vs.toArray} (.lst (ns.map V.int))) else none) (λb=>?_) (.inl (.inr ⟨{cls:=.type "list",data:=.seq vs.toArray},if_pos rfl⟩)) (λb u z=>?_) (λb z=>?_) λ_=>hk
    · by_cases hb:b=a
      · exact .inr ⟨_,_,if_pos hb⟩
      · exact .inl (if_neg hb)
    · by_cases hb:b=a
      · have z':=(if_pos hb).symm.trans z
        cases z';subst hb;exact⟨ha,by rw[aiI];exact hl,vs,_,rv,ha⟩
      · have z':=(if_neg hb).symm.trans z
        cases z'
    · by_cases hb:b=a
      · exact hb
      · exact absurd (if_neg hb) z
end L2
namespace L2
open PySem PySem.Spec PyProof.Rows
theorem Ui{l:PySem.W.OpenLaw}{n k:Nat}{q:Program}{loose:List Str}{XP:(Str→Option Value)→Heap→Prop}{YP:World→Heap→Prop}{d:DefRec}{K:Params→W.Frag}{CX:World→CXT}{sp:World→Sp}{x:Str}
    (hn:l.most=some n) (hn2:n≤sizeLine) (hdf:d.params.defaults=[]) (hr:lB k callerA)
    (hY:∀(w:World) (h:Heap),YP w h→(K w.params).In h)
    (F:∀(w:World) (mg:Str→Option Value) (fa:Addr) (h:Heap),(K w.params).In h→h.Ns mainGlobals mg→mg d.name=some (.ref fa) →
      ∃ fd:FuncData,(∀(s:Shared) (u:Value),BindsTo s fd ⟨[u],[]⟩ [(x,u)]) ∧
        ∀ base:Heap,(K w.params).In base→base.Ns mainGlobals mg→Cg l.prog w (K w.params) mg base (CX w) k fa fd [x] (sp w))
    (hsp:∀(w:World) (H:Hp) (a:Addr) (ns:List Int),ns.length≤n→Xc H→SqL (K w.params) H a (ns.map V.int)→sp w [.ref a] H (λv _=>v=.bl true) λ_ _ _=>False)
    (hCX:∀(w:World) (H:Hp) (s:Shared) (e:Value) (s':Shared),CX w [] H s (λ_ _ _=>False) e s'→False) :
    PySem.W.WalkO q loose XP YP l.row.toRowW d [] (λf vs=>PySem.call f vs):=by
  refine Att.Ld hn hdf λw s₀ s₁ mg mb fa o pm cd doc a vs ns G Y ho hd hcd hmg Xb hints hlen hg=>?_;have KX:=hY w _ Y;obtain⟨fd,hb,hF⟩:=F w mg fa _ KX G.T.g hmg;exact RG KX G.T.g G.T.b G.T.builtins G.T.nolimit hg Xb hints (ai5 hlen hn2) hr hF hb (λH hO hS=>hsp w H a ns hlen hO hS) λH e s'=>hCX w H s₁ e s'
end L2
namespace L2
open PySem PySem.Spec PyProof.Rows
noncomputable def inClass(s:Stmt)(j:Nat):Stmt:=match s with
  | .ClassDef _ _ _ body _ _ _ _ _ _ _=>body.getD j (.Pass ⟨0,0,0,0⟩)
  | _=>.Pass ⟨0,0,0,0⟩
noncomputable def lF(s:Stmt):Arguments:=match s with
  | .FunctionDef _ a _ _ _ _ _ _ _ _=>a
  | _=>{posonlyargs:=[],args:=[],vararg:=none,kwonlyargs:=[],kw_defaults:=[],kwarg:=none,defaults:=[]}
noncomputable def bo(s:Stmt):List Stmt:=match s with
  | .FunctionDef _ _ b _ _ _ _ _ _ _=>b
  | _=>[]
noncomputable def ar(s:Stmt):Scope:=match s with
  | .FunctionDef _ _ _ _ _ _ sc _ _ _=>sc
  | _=>{kind:=.function,names:=[],isGenerator:=false,isCoroutine:=false}
structure Fun(K:W.Frag)(x qual:Str)(st:Stmt)(f:Addr)(fd:FuncData):Prop where
  ex:∃(oc:Value) (od:Option Addr) (kV doc pm:Value) (an:Option Addr) (cdv ct:Value) (osl:Array (Option Value)),
    fd=PySem.W.fnOf x qual (lF st) (bo st) (ar st) .none kV doc pm an cdv ct∧K.lookup f=some ⟨oc,od,.func fd,osl⟩∧PySem.W.codeIn K cdv qual=true
  kp:PySem.W.keepIn K (.ref f)=true
section
variable{P:Program}{w:World}{K:W.Frag}{mg:Str→Option Value}{base:Heap}
theorem Fun.binds{x qual:Str}{st:Stmt}{f:Addr}{fd:FuncData}{ps:List Str}(F:Fun K x qual st f fd)
    (h:∀(kV doc pm:Value) (an:Option Addr) (cdv ct:Value) (us:List Value),us.length=ps.length→bindArgs (PySem.W.fnOf x qual (lF st) (bo st) (ar st) .none kV doc pm an cdv ct) ⟨us,[]⟩=pure (ps.zip us)):Binds K fd ps []:=by
  obtain⟨oc,od,kV,doc,pm,an,cdv,ct,osl,rfl,lk,hcd⟩:=F.ex;exact .all (h kV doc pm an cdv ct)
theorem We{x qual:Str}{st:Stmt}{f:Addr}{oc:Value}{od an:Option Addr}{osl:Array (Option Value)}{kV doc pm cdv ct:Value}(l:K.lookup f=some ⟨oc,od,.func (PySem.W.fnOf x qual (lF st) (bo st) (ar st) .none kV doc pm an cdv ct),osl⟩)
    (c:PySem.W.codeIn K cdv qual=true) (k:PySem.W.keepIn K (.ref f)=true):Fun K x qual st f (PySem.W.fnOf x qual (lF st) (bo st) (ar st) .none kV doc pm an cdv ct):=⟨⟨oc,od,kV,doc,pm,an,cdv,ct,osl,rfl,l,c⟩,k⟩
end
theorem kQ{A:Around}{k:Nat}(hr:lB k A):A.units+1<cLine:=ajM (Nat.add_le_add_left (by decide:1≤64) _) hr.units
section
variable{X:Cx}
theorem pv(i:Nat){x:Str}{pos:Pos}(hN:X.N[i]?=some x:=by rfl)(hv:Vis X.env.scope x:=by first|exact Or.inl rfl|exact Or.inr (Or.inl rfl)|exact Or.inr (Or.inr rfl))(hd:(x == ("__debug__" : Str))=false:=by decide)
    (hcd:(x == ("__classdict__" : Str))=false:=by decide):PE X (.Name x pos) (T1 i):=VZ hN hv hd hcd
end
theorem gS{A B:Prop}(h:B):if false=true then A else B:=by
  rw[if_neg aiO];exact h
theorem sL{A B:Prop}(h:A):if true=true then A else B:=by
  rw[if_pos rfl];exact h
theorem aY{c A B:Prop}[Decidable c](h1:c→A)(h2:¬c→B):if c then A else B:=by
  by_cases h:c
  · rw[if_pos h]
    exact h1 h
  · rw[if_neg h]
    exact h2 h
noncomputable def aE(H H':Hp):Prop:=∀ b o,H b=some o→H' b=some o
theorem aE.refl(H:Hp):aE H H:=λ_ _ h=>h
theorem aE.trans{H H1 H2:Hp}(a:aE H H1)(b:aE H1 H2):aE H H2:=λc o h=>b c o (a c o h)
theorem aE.seq{K:W.Frag}{H H':Hp}{a:Addr}{xs:List V}(e:aE H H')(h:SqL K H a xs):SqL K H' a xs:=by
  rcases h with(h|⟨o,h⟩)|h
  · exact .inl (.inl (e _ _ h))
  · exact .inl (.inr ⟨o,e _ _ h⟩)
  · exact .inr h
end L2
end
section
namespace K13
open PySem PySem.W L2 PySem.PyData
theorem wsd:PySem.Challenge.rw_stillheap_k13_whole_never_lost.wellSaid=true:=by kernel_rfl
noncomputable def top(i:Nat):Stmt:=PySem.Challenge.pw_stillheap_k13_whole_never_lost.main.body.getD i (.Pass ⟨0,0,0,0⟩)
noncomputable section
abbrev OO:=Params→Obj
abbrev FN:=Str×Str×Stmt
noncomputable def oF(f:FN)(m:Value)(r:Addr):OO:=λ_=>⟨.type "function",none,.func (fnOf f.1 f.2.1 (lF f.2.2) (bo f.2.2) (ar f.2.2) .none .none .none m none (.ref r) .none),#[]⟩
noncomputable def oG(f:FN):OO:=λ_=>⟨.none,none,.func ⟨f.1,f.2.1,lF f.2.2,.stmts (bo f.2.2),ar f.2.2,0,[],.none,.none,.none,.none,none,.none,.none,0⟩,#[]⟩
noncomputable def oT(l:List Value):OO:=λ_=>⟨.type "tuple",none,.seq (List.toArray l) 0,#[]⟩
def oS:List Str→Tok→List Value
 | [],_=>[]
 | x::r,k=>.str x k::oS r (k+1)
noncomputable def oD(l:List (Str×Tok×Value))(n:Nat):OO:=λP=>⟨.type "dict",none,.dict (List.toArray (l.map λe=>⟨keyHash P e.1,.str e.1 e.2.1,e.2.2⟩)) n,#[]⟩
def zB:List String→Tok→List (Str×Tok×Value)
 | [],_=>[]
 | x::r,k=>(Str.ofString x,k,.builtin x)::zB r (k+1)
def zT:List String→Tok→List (Str×Tok×Value)
 | [],_=>[]
 | x::r,k=>(Str.ofString x,k,.type x)::zT r (k+1)
def ap(a b:List (Str×Tok×Value)):List (Str×Tok×Value):=a++b
noncomputable def oC(f:FN)(t:Tok)(l a b c d:Int)(r:Addr)(e:Int)(g h i j:Addr)(z:Int)(u:Tok):OO:=λ_=>⟨.type "code",none,.fields (List.toArray [.str f.1 t,.str f.2.1 (t+1),.str "/claim/cut.py" (t+2),.int l 0,.int a 0,.int b 0,.int c 0,.int d 0,.ref r,.bool true,.int e 0,.ref g,.none,.ref h,.ref i,.ref j,.int z 0,.int l 0,.str "/claim/cut.py" u]),#[]⟩
noncomputable def oN(f:FN)(t:Tok)(l a b c d:Int)(r:Addr)(e:Int)(g j:Addr)(z:Int)(u:Tok):OO:=λ_=>⟨.type "code",none,.fields (List.toArray [.str f.1 t,.str f.2.1 (t+1),.str "/claim/cut.py" (t+2),.int l 0,.int a 0,.int b 0,.int c 0,.int d 0,.ref r,.bool true,.int e 0,.ref g,.none,.none,.none,.ref j,.int z 0,.int l 0,.str "/claim/cut.py" u]),#[]⟩
noncomputable def oM(n:Str)(t:Tok)(l:Int)(r:Addr)(e:Int)(f:Addr)(z:Int)(u:Tok):OO:=λ_=>⟨.type "code",none,.fields (List.toArray [.str n t,.str n (t+1),.str "/claim/cut.py" (t+2),.int l 0,.int 0 0,.int 0 0,.int 0 0,.int 0 0,.ref r,.bool false,.int e 0,.ref f,.none,.none,.none,.none,.int z 0,.int l 0,.str "/claim/cut.py" u]),#[]⟩
def oI:List Nat→List Value
 | a::b::c::r=>.int a 0::.int b 0::.ref c::oI r
 | _=>[]
noncomputable def oX(l:List Nat):OO:=λ_=>⟨.none,none,.fields (List.toArray (oI l)),#[]⟩
noncomputable def oR(a b c:Addr)(m:Value):OO:=λ_=>⟨.type "frame",none,.plain,List.toArray [some (.ref a),some (.ref b),some (.ref c),none,some m,none,some (.ref 0)]⟩
noncomputable def oP(a b:Value):OO:=λ_=>⟨.type "builtin_function_or_method",none,.fields (List.toArray [a,b]),#[]⟩
noncomputable def oY(n:Str)(b m:List Value)(d:Addr)(u:List Value)(k:Option Value)(t1 t2:Tok)(w:Value):OO:=λ_=>⟨.type "type",none,.cls ⟨n,b,m,d,n,true,[],u,false,none,false⟩,List.toArray [k,none,some (.str n t1),some (.str n t2),some w,some (.bool true)]⟩
noncomputable def oU(a:Addr):OO:=λ_=>⟨.type "super",none,.fields (List.toArray [.ref a,.ref a,.ref a]),#[]⟩
def spl:List OO→List OO×List OO
 | []=>([],[])
 | [a]=>([a],[])
 | a::b::r=>(a::(spl r).1,b::(spl r).2)
noncomputable def mkT(P:Params):Nat→List OO→BT
 | 0,_=>.nil
 | _+1,[]=>.nil
 | n+1,x::r=>.node (x P) (mkT P n (spl r).1) (mkT P n (spl r).2)
def stT(l:List OO)(c:List (Nat×OO)):List OO:=c.foldl (λl p=>l.set p.1 p.2) l
def fn0:FN:=("_wall","_wall",top 0)
def fn1:FN:=("__init__","HeapError.__init__",inClass (top 2) 0)
def fn2:FN:=("called","HeapError.called",inClass (top 2) 1)
def fn3:FN:=("called","BadHand.called",inClass (top 3) 0)
def fn4:FN:=("called","BadName.called",inClass (top 4) 0)
def fn5:FN:=("called","BadField.called",inClass (top 5) 0)
def fn6:FN:=("called","BadCount.called",inClass (top 6) 0)
def fn7:FN:=("called","NoRoom.called",inClass (top 7) 0)
def fn8:FN:=("called","TooManyWords.called",inClass (top 8) 0)
def fn9:FN:=("called","RoundOn.called",inClass (top 9) 0)
def Xd:FN:=("called","NoRound.called",inClass (top 10) 0)
def Xe:FN:=("called","BadView.called",inClass (top 11) 0)
def Xf:FN:=("number_value","number_value",top 19)
def Xg:FN:=("thing_value","thing_value",top 20)
def Xh:FN:=("kind_of","kind_of",top 21)
def Xi:FN:=("words_of","words_of",top 22)
def Xj:FN:=("look_at_number","look_at_number",top 23)
def Xk:FN:=("look_at_hand","look_at_hand",top 24)
def Xl:FN:=("look_at_name","look_at_name",top 25)
def Xm:FN:=("look_at_field","look_at_field",top 26)
def Xn:FN:=("look_at_limits","look_at_limits",top 27)
def Xo:FN:=("__init__","Hands.__init__",inClass (top 29) 0)
def Xp:FN:=("word_in","Hands.word_in",inClass (top 29) 1)
def Xq:FN:=("all_words","Hands.all_words",inClass (top 29) 2)
def Xr:FN:=("put","Hands.put",inClass (top 29) 3)
def Xs:FN:=("copy","Hands.copy",inClass (top 29) 4)
def Xu:FN:=("number","Hands.number",inClass (top 29) 5)
def Xv:FN:=("kind","Hands.kind",inClass (top 29) 6)
def Xw:FN:=("value","Hands.value",inClass (top 29) 7)
def Xx:FN:=("same","Hands.same",inClass (top 29) 8)
def Xy:FN:=("thing_due","Hands.thing_due",inClass (top 29) 9)
def Xz:FN:=("__init__","WordTable.__init__",inClass (top 32) 0)
def XA:FN:=("bear","WordTable.bear",inClass (top 32) 1)
def XB:FN:=("word_of","WordTable.word_of",inClass (top 32) 2)
def XC:FN:=("bearers","WordTable.bearers",inClass (top 32) 3)
def XD:FN:=("settle","WordTable.settle",inClass (top 32) 4)
def XE:FN:=("take","WordTable.take",inClass (top 32) 5)
def XF:FN:=("said","WordTable.said",inClass (top 32) 6)
def XG:FN:=("last_steps","last_steps",top 34)
def XH:FN:=("__init__","NameTable.__init__",inClass (top 36) 0)
def XI:FN:=("name","NameTable.name",inClass (top 36) 1)
def XJ:FN:=("named","NameTable.named",inClass (top 36) 2)
def XM:FN:=("all_named","NameTable.all_named",inClass (top 36) 3)
def XN:FN:=("settle","NameTable.settle",inClass (top 36) 4)
def XO:FN:=("__init__","Heap.__init__",inClass (top 38) 0)
def XQ:FN:=("add_thing","Heap.add_thing",inClass (top 38) 1)
def XR:FN:=("load","Heap.load",inClass (top 38) 2)
def XS:FN:=("store","Heap.store",inClass (top 38) 3)
def XT:FN:=("copy","Heap.copy",inClass (top 38) 4)
def XU:FN:=("drop","Heap.drop",inClass (top 38) 5)
def XW:FN:=("number","Heap.number",inClass (top 38) 6)
def XX:FN:=("name","Heap.name",inClass (top 38) 7)
def XY:FN:=("read_thing","Heap.read_thing",inClass (top 38) 8)
def XZ:FN:=("word","Heap.word",inClass (top 38) 9)
def X0:FN:=("small_round","Heap.small_round",inClass (top 38) 10)
def X2:FN:=("let_go","Heap.let_go",inClass (top 38) 11)
def X3:FN:=("look_at_held","Heap.look_at_held",inClass (top 38) 12)
def X4:FN:=("field_value","Heap.field_value",inClass (top 38) 13)
def X5:FN:=("counts_held","Heap.counts_held",inClass (top 38) 14)
def X6:FN:=("words_among","Heap.words_among",inClass (top 38) 15)
def X7:FN:=("led_among","Heap.led_among",inClass (top 38) 16)
def X8:FN:=("thing_among","thing_among",top 39)
def X9:FN:=("__init__","IdealHeap.__init__",inClass (top 41) 0)
def Yb:FN:=("make","IdealHeap.make",inClass (top 41) 1)
def Yc:FN:=("read","IdealHeap.read",inClass (top 41) 2)
def Yd:FN:=("take","IdealHeap.take",inClass (top 41) 3)
def Ye:FN:=("kind","IdealHeap.kind",inClass (top 41) 4)
def Yg:FN:=("value","IdealHeap.value",inClass (top 41) 5)
def Yh:FN:=("fields","IdealHeap.fields",inClass (top 41) 6)
def Yi:FN:=("same","IdealHeap.same",inClass (top 41) 7)
def Yj:FN:=("held","IdealHeap.held",inClass (top 41) 8)
def Yk:FN:=("small","IdealHeap.small",inClass (top 41) 9)
def Yl:FN:=("begin","IdealHeap.begin",inClass (top 41) 10)
def Ym:FN:=("end","IdealHeap.end",inClass (top 41) 11)
def Yn:FN:=("round_on","IdealHeap.round_on",inClass (top 41) 12)
def Yo:FN:=("hands","IdealHeap.hands",inClass (top 41) 13)
def Yp:FN:=("names","IdealHeap.names",inClass (top 41) 14)
def Yq:FN:=("things","IdealHeap.things",inClass (top 41) 15)
def Yr:FN:=("fields_of","IdealHeap.fields_of",inClass (top 41) 16)
def Ys:FN:=("is_old","IdealHeap.is_old",inClass (top 41) 17)
def Yt:FN:=("word_of","IdealHeap.word_of",inClass (top 41) 18)
def Yu:FN:=("doomed","IdealHeap.doomed",inClass (top 41) 19)
def Yv:FN:=("said","IdealHeap.said",inClass (top 41) 20)
def Yw:FN:=("made","IdealHeap.made",inClass (top 41) 21)
def Yx:FN:=("spare","IdealHeap.spare",inClass (top 41) 22)
def Yy:FN:=("_law_numbers","_law_numbers",top 43)
def Yz:FN:=("_law_deed","_law_deed",top 44)
def YA:FN:=("_law_plain","_law_plain",top 45)
def YB:FN:=("_law_done","_law_done",top 46)
def YC:FN:=("_law_things","_law_things",top 47)
def YD:FN:=("_law_led","_law_led",top 48)
def YE:FN:=("_law_heap","_law_heap",top 49)
def YF:FN:=("_law_deeds","_law_deeds",top 50)
def YG:FN:=("_law_none_told","_law_none_told",top 51)
def YH:FN:=("_law_inside_right","_law_inside_right",top 52)
def YI:FN:=("law","law",top 53)
def xs0:List Nat:=[1,0,20,5,0,27,12,0,54,16,0,73,20,0,92,24,0,111,28,0,130,32,0,149,36,0,168,40,0,187,44,0,206,55,0,225,58,0,232,62,0,239,64,0,246,68,0,253,71,0,260,74,0,267,77,0,274,80,0,281,86,0,288,128,0,372,156,0,435,171,0,442,190,0,489,280,0,616,285,0,623,386,0,796,398,0,803,411,0,810,436,0,817,443,0,822,445,0,829,454,0,836,459,0,841,462,0,848,477,0,853,494,0,858]
def v0:Value:=.str "stillheap.ideal" 960
def v1:Value:=.type "object"
def v2:Value:=.str "stillheap.errors" 194
def v3:Value:=.str "stillheap.heaps" 775
def v4:Value:=.builtin "object.__init_subclass__"
def v5:Value:=.type "ValueError"
def v6:Value:=.type "Exception"
def v7:Value:=.type "BaseException"
def v8:Value:=.builtin "ValueError.__new__"
def v9:Value:=.str "stillheap.hands" 515
def v10:Value:=.str "law_stillheap_k13_whole_never_lost" 1165
def v11:Value:=.type "getset_descriptor"
def v12:Value:=.str "stillheap.values" 436
def v13:Value:=.str "stillheap.lastwords" 621
def v14:Value:=.builtin "object.__new__"
def v15:Value:=.str "stillheap.weaknames" 715
def v16:Value:=.builtin "ExceptionGroup.__weakref__"
def v17:Value:=.builtin "function.__dict__"
def v18:Value:=.builtin "function.__dict__#set"
def v19:Value:=.str "__main__" 164
def o0:OO:=oD (ap [("__name__",1,.str "builtins" 160),("__doc__",2,.builtin "builtins.__doc__:str#opaque"),("__package__",3,.builtin "builtins.__package__:str#opaque"),("__loader__",4,.builtin "builtins.__loader__:shared#opaque"),("__spec__",5,.builtin "builtins.__spec__#opaque")] (ap (zB ["__build_class__","__import__","abs","all","any","ascii","bin","breakpoint","callable","chr","compile","delattr","dir","divmod","eval","exec","format","getattr","globals","hasattr","hash","hex","id","input","isinstance","issubclass","iter","aiter","len","locals","max","min","next","anext","oct","ord","pow","print","repr","round","setattr","sorted","sum","vars"] 6) (ap [("None",50,.none),("Ellipsis",51,.ellipsis),("NotImplemented",52,.notImplemented),("False",53,.bool false),("True",54,.bool true)] (ap (zT ["bool","memoryview","bytearray","bytes","classmethod","complex","dict","enumerate","filter","float","frozenset","property","int","list","map","object","range","reversed","set","slice","staticmethod","str","super","tuple","type","zip"] 55) (ap [("__debug__",81,.bool true)] (ap (zT ["BaseException","BaseExceptionGroup","Exception","GeneratorExit","KeyboardInterrupt","SystemExit","ArithmeticError","AssertionError","AttributeError","BufferError","EOFError","ImportError","LookupError","MemoryError","NameError","OSError","ReferenceError","RuntimeError","StopAsyncIteration","StopIteration","SyntaxError","SystemError","TypeError","ValueError","Warning","FloatingPointError","OverflowError","ZeroDivisionError","BytesWarning","DeprecationWarning","EncodingWarning","FutureWarning","ImportWarning","PendingDeprecationWarning","ResourceWarning","RuntimeWarning","SyntaxWarning","UnicodeWarning","UserWarning","BlockingIOError","ChildProcessError","ConnectionError","FileExistsError","FileNotFoundError","InterruptedError","IsADirectoryError","NotADirectoryError","PermissionError","ProcessLookupError","TimeoutError","IndentationError","_IncompleteInputError","IndexError","KeyError","ModuleNotFoundError","NotImplementedError","PythonFinalizationError","RecursionError","UnboundLocalError","UnicodeError"] 82) (ap (zT ["BrokenPipeError","ConnectionAbortedError","ConnectionRefusedError","ConnectionResetError","TabError","UnicodeDecodeError","UnicodeEncodeError","UnicodeTranslateError","ExceptionGroup"] 142) [("EnvironmentError",151,.type "OSError"),("IOError",152,.type "OSError"),("open",153,.builtin "open"),("quit",154,.builtin "builtins.quit#opaque"),("exit",155,.builtin "builtins.exit#opaque"),("copyright",156,.builtin "builtins.copyright#opaque"),("credits",157,.builtin "builtins.credits#opaque"),("license",158,.builtin "builtins.license#opaque"),("help",159,.builtin "builtins.help#opaque")]))))))) 159
def o1:OO:=oD [("builtins",162,.ref 4),("__main__",163,.ref 5)] 2
def o2:OO:=λ_=>⟨.none,none,(.dict #[] 0),#[]⟩
def o3:OO:=oD [("__name__",165,.str "__main__" 164),("__doc__",166,.none),("__package__",167,.none),("__loader__",168,.builtin "__main__.__loader__#opaque"),("__spec__",169,.none),("__annotations__",170,.ref 6),("__builtins__",171,.ref 4),("__file__",173,.str "/claim/cut.py" 172),("__cached__",174,.none)] 9
def o4:OO:=λ_=>⟨(.type "module"),(.some 0),.plain,#[]⟩
def o5:OO:=λ_=>⟨(.type "module"),(.some 3),.plain,#[]⟩
def o6:OO:=λ_=>⟨(.type "dict"),none,(.dict #[] 0),#[]⟩
def o7:OO:=λ_=>⟨(.type "tuple"),none,(.seq #[] 0),#[]⟩
def o8:OO:=λ_=>⟨.none,none,(.fields #[]),#[]⟩
def o9:OO:=oM "<module>" 176 1 7 175 8 179 180
def o10:OO:=oR 9 3 3 v19
def o11:OO:=oM "<module>" 182 1 11 181 12 185 186
def o12:OO:=oR 13 3 3 v19
def o13:OO:=oD [("__name__",165,.str "stillheap.errors" 194),("__doc__",166,.none),("__package__",167,.none),("__loader__",168,.builtin "__main__.__loader__#opaque"),("__spec__",169,.none),("__annotations__",170,.ref 6),("__builtins__",171,.ref 4),("__file__",173,.str "/claim/cut.py" 172),("__cached__",174,.none),("_wall",193,.ref 21),("HeapError",228,.ref 45),("BadHand",251,.ref 65),("BadName",274,.ref 84),("BadField",297,.ref 103),("BadCount",320,.ref 122),("NoRoom",343,.ref 141),("TooManyWords",366,.ref 160),("RoundOn",389,.ref 179)] 18
def o14:OO:=oX (xs0.take 27)
def o15:OO:=oT (oS ["k"] 190)
def o16:OO:=oG fn0
def o17:OO:=oC fn0 187 1 1 0 0 3 15 181 16 17 18 19 191 192
def o18:OO:=oF fn0 v19 20
def o19:OO:=oT [v5]
def o20:OO:=oP (.builtin "type.__prepare__") (.type "type")
def o21:OO:=oD [("__module__",203,.str "stillheap.errors" 194),("__qualname__",205,.str "HeapError" 204),("__firstlineno__",207,.int 5 206),("__init__",215,.ref 35),("called",222,.ref 42),("__static_attributes__",223,.ref 43)] 6
def o22:OO:=oX [7,4,34,10,4,41]
def o23:OO:=oM "HeapError" 198 5 25 181 26 201 202
def o24:OO:=oR 27 3 24 v2
def o25:OO:=oT (oS ["self","text"] 211)
def o26:OO:=oG fn1
def o27:OO:=oC fn1 208 7 2 0 0 3 29 181 30 31 32 33 213 214
def o28:OO:=oF fn1 v2 34
def o29:OO:=oT (oS ["self"] 219)
def o30:OO:=oG fn2
def o31:OO:=oC fn2 216 10 1 0 0 3 36 181 37 38 39 40 220 221
def o32:OO:=oF fn2 v2 41
def o33:OO:=oD [("__module__",203,.str "stillheap.errors" 194),("__firstlineno__",207,.int 5 206),("__init__",215,.ref 35),("called",222,.ref 42),("__static_attributes__",223,.ref 43),("__weakref__",225,.ref 46),("__doc__",226,.none)] 3
def o34:OO:=oY "HeapError" [v5] [(.ref 45),v5,v6,v7,v1] 44 [(.ref 65),(.ref 84),(.ref 103),(.ref 122),(.ref 141),(.ref 160),(.ref 179)] (.some (.ref 22)) 196 204 v8
def o35:OO:=λ_=>⟨v11,none,(.fields (List.toArray [(.str "__weakref__" 224),(.ref 45),v16,.none])),#[]⟩
def o36:OO:=oU 45
def o37:OO:=oP v4 (.ref 45)
def o38:OO:=oT [(.ref 45)]
def o39:OO:=oD [("__module__",236,.str "stillheap.errors" 194),("__qualname__",238,.str "BadHand" 237),("__firstlineno__",240,.int 12 239),("called",247,.ref 62),("__static_attributes__",248,.ref 63)] 5
def o40:OO:=oX [14,4,61]
def o41:OO:=oM "BadHand" 231 12 52 181 53 234 235
def o42:OO:=oR 54 3 51 v2
def o43:OO:=oT (oS ["self"] 244)
def o44:OO:=oG fn3
def o45:OO:=oC fn3 241 14 1 0 0 3 56 181 57 58 59 60 245 246
def o46:OO:=oF fn3 v2 61
def o47:OO:=oD [("__module__",236,.str "stillheap.errors" 194),("__firstlineno__",240,.int 12 239),("called",247,.ref 62),("__static_attributes__",248,.ref 63),("__doc__",249,.none)] 2
def o48:OO:=oY "BadHand" [(.ref 45)] [(.ref 65),(.ref 45),v5,v6,v7,v1] 64 [] (.some (.ref 49)) 229 237 v8
def o49:OO:=oU 65
def o50:OO:=oP v4 (.ref 65)
def o51:OO:=oD [("__module__",259,.str "stillheap.errors" 194),("__qualname__",261,.str "BadName" 260),("__firstlineno__",263,.int 16 262),("called",270,.ref 81),("__static_attributes__",271,.ref 82)] 5
def o52:OO:=oX [18,4,80]
def o53:OO:=oM "BadName" 254 16 71 181 72 257 258
def o54:OO:=oR 73 3 70 v2
def o55:OO:=oT (oS ["self"] 267)
def o56:OO:=oG fn4
def o57:OO:=oC fn4 264 18 1 0 0 3 75 181 76 77 78 79 268 269
def o58:OO:=oF fn4 v2 80
def o59:OO:=oD [("__module__",259,.str "stillheap.errors" 194),("__firstlineno__",263,.int 16 262),("called",270,.ref 81),("__static_attributes__",271,.ref 82),("__doc__",272,.none)] 2
def o60:OO:=oY "BadName" [(.ref 45)] [(.ref 84),(.ref 45),v5,v6,v7,v1] 83 [] (.some (.ref 68)) 252 260 v8
def o61:OO:=oU 84
def o62:OO:=oP v4 (.ref 84)
def o63:OO:=oD [("__module__",282,.str "stillheap.errors" 194),("__qualname__",284,.str "BadField" 283),("__firstlineno__",286,.int 20 285),("called",293,.ref 100),("__static_attributes__",294,.ref 101)] 5
def o64:OO:=oX [22,4,99]
def o65:OO:=oM "BadField" 277 20 90 181 91 280 281
def o66:OO:=oR 92 3 89 v2
def o67:OO:=oT (oS ["self"] 290)
def o68:OO:=oG fn5
def o69:OO:=oC fn5 287 22 1 0 0 3 94 181 95 96 97 98 291 292
def o70:OO:=oF fn5 v2 99
def o71:OO:=oD [("__module__",282,.str "stillheap.errors" 194),("__firstlineno__",286,.int 20 285),("called",293,.ref 100),("__static_attributes__",294,.ref 101),("__doc__",295,.none)] 2
def o72:OO:=oY "BadField" [(.ref 45)] [(.ref 103),(.ref 45),v5,v6,v7,v1] 102 [] (.some (.ref 87)) 275 283 v8
def o73:OO:=oU 103
def o74:OO:=oP v4 (.ref 103)
def o75:OO:=oD [("__module__",305,.str "stillheap.errors" 194),("__qualname__",307,.str "BadCount" 306),("__firstlineno__",309,.int 24 308),("called",316,.ref 119),("__static_attributes__",317,.ref 120)] 5
def o76:OO:=oX [26,4,118]
def o77:OO:=oM "BadCount" 300 24 109 181 110 303 304
def o78:OO:=oR 111 3 108 v2
def o79:OO:=oT (oS ["self"] 313)
def o80:OO:=oG fn6
def o81:OO:=oC fn6 310 26 1 0 0 3 113 181 114 115 116 117 314 315
def o82:OO:=oF fn6 v2 118
def o83:OO:=oD [("__module__",305,.str "stillheap.errors" 194),("__firstlineno__",309,.int 24 308),("called",316,.ref 119),("__static_attributes__",317,.ref 120),("__doc__",318,.none)] 2
def o84:OO:=oY "BadCount" [(.ref 45)] [(.ref 122),(.ref 45),v5,v6,v7,v1] 121 [] (.some (.ref 106)) 298 306 v8
def o85:OO:=oU 122
def o86:OO:=oP v4 (.ref 122)
def o87:OO:=oD [("__module__",328,.str "stillheap.errors" 194),("__qualname__",330,.str "NoRoom" 329),("__firstlineno__",332,.int 28 331),("called",339,.ref 138),("__static_attributes__",340,.ref 139)] 5
def o88:OO:=oX [30,4,137]
def o89:OO:=oM "NoRoom" 323 28 128 181 129 326 327
def o90:OO:=oR 130 3 127 v2
def o91:OO:=oT (oS ["self"] 336)
def o92:OO:=oG fn7
def o93:OO:=oC fn7 333 30 1 0 0 3 132 181 133 134 135 136 337 338
def o94:OO:=oF fn7 v2 137
def o95:OO:=oD [("__module__",328,.str "stillheap.errors" 194),("__firstlineno__",332,.int 28 331),("called",339,.ref 138),("__static_attributes__",340,.ref 139),("__doc__",341,.none)] 2
def o96:OO:=oY "NoRoom" [(.ref 45)] [(.ref 141),(.ref 45),v5,v6,v7,v1] 140 [] (.some (.ref 125)) 321 329 v8
def o97:OO:=oU 141
def o98:OO:=oP v4 (.ref 141)
def o99:OO:=oD [("__module__",351,.str "stillheap.errors" 194),("__qualname__",353,.str "TooManyWords" 352),("__firstlineno__",355,.int 32 354),("called",362,.ref 157),("__static_attributes__",363,.ref 158)] 5
def afx:OO:=oX [34,4,156]
def afy:OO:=oM "TooManyWords" 346 32 147 181 148 349 350
def afz:OO:=oR 149 3 146 v2
def Z2:OO:=oT (oS ["self"] 359)
def afA:OO:=oG fn8
def Z3:OO:=oC fn8 356 34 1 0 0 3 151 181 152 153 154 155 360 361
def Z5:OO:=oF fn8 v2 156
def Z6:OO:=oD [("__module__",351,.str "stillheap.errors" 194),("__firstlineno__",355,.int 32 354),("called",362,.ref 157),("__static_attributes__",363,.ref 158),("__doc__",364,.none)] 2
def Z7:OO:=oY "TooManyWords" [(.ref 45)] [(.ref 160),(.ref 45),v5,v6,v7,v1] 159 [] (.some (.ref 144)) 344 352 v8
def afB:OO:=oU 160
def afC:OO:=oP v4 (.ref 160)
def afD:OO:=oD [("__module__",374,.str "stillheap.errors" 194),("__qualname__",376,.str "RoundOn" 375),("__firstlineno__",378,.int 36 377),("called",385,.ref 176),("__static_attributes__",386,.ref 177)] 5
def afE:OO:=oX [38,4,175]
def afF:OO:=oM "RoundOn" 369 36 166 181 167 372 373
def afG:OO:=oR 168 3 165 v2
def Z8:OO:=oT (oS ["self"] 382)
def afH:OO:=oG fn9
def Z9:OO:=oC fn9 379 38 1 0 0 3 170 181 171 172 173 174 383 384
def aaa:OO:=oF fn9 v2 175
def aab:OO:=oD [("__module__",374,.str "stillheap.errors" 194),("__firstlineno__",378,.int 36 377),("called",385,.ref 176),("__static_attributes__",386,.ref 177),("__doc__",387,.none)] 2
def aac:OO:=oY "RoundOn" [(.ref 45)] [(.ref 179),(.ref 45),v5,v6,v7,v1] 178 [] (.some (.ref 163)) 367 375 v8
def afI:OO:=oU 179
def afJ:OO:=oP v4 (.ref 179)
def afK:OO:=oD (ap [("__name__",165,.str "stillheap.weaknames" 715),("__doc__",166,.none),("__package__",167,.none),("__loader__",168,.builtin "__main__.__loader__#opaque"),("__spec__",169,.none),("__annotations__",170,.ref 6),("__builtins__",171,.ref 4),("__file__",173,.str "/claim/cut.py" 172),("__cached__",174,.none),("_wall",193,.ref 21),("HeapError",228,.ref 45),("BadHand",251,.ref 65),("BadName",274,.ref 84),("BadField",297,.ref 103),("BadCount",320,.ref 122),("NoRoom",343,.ref 141),("TooManyWords",366,.ref 160),("RoundOn",389,.ref 179),("NoRound",412,.ref 198),("BadView",435,.ref 217),("HANDS",439,.int 8 438),("WEAK_NAMES",441,.int 8 440),("MOST_FIELDS",443,.int 6 442),("LEAST_ROOM",445,.int 7 444),("MOST_YOUNG",447,.int 64 446),("MOST_LIMIT",449,.int 400 448),("number_value",456,.ref 226),("thing_value",463,.ref 233)] [("kind_of",470,.ref 240),("words_of",477,.ref 247),("look_at_number",484,.ref 254),("look_at_hand",491,.ref 261),("look_at_name",498,.ref 268),("look_at_field",506,.ref 275),("look_at_limits",514,.ref 282),("Hands",620,.ref 362),("MOST_BEARERS",624,.int 12 623),("WordTable",700,.ref 425),("last_steps",714,.ref 436)]) 39
def afL:OO:=oX (xs0.take 69)
def aad:OO:=oY "HeapError" [v5] [(.ref 45),v5,v6,v7,v1] 44 [(.ref 65),(.ref 84),(.ref 103),(.ref 122),(.ref 141),(.ref 160),(.ref 179),(.ref 198),(.ref 217)] (.some (.ref 22)) 196 204 v8
def afM:OO:=oD [("__module__",397,.str "stillheap.errors" 194),("__qualname__",399,.str "NoRound" 398),("__firstlineno__",401,.int 40 400),("called",408,.ref 195),("__static_attributes__",409,.ref 196)] 5
def afN:OO:=oX [42,4,194]
def afO:OO:=oM "NoRound" 392 40 185 181 186 395 396
def afP:OO:=oR 187 3 184 v2
def aae:OO:=oT (oS ["self"] 405)
def afQ:OO:=oG Xd
def aaf:OO:=oC Xd 402 42 1 0 0 3 189 181 190 191 192 193 406 407
def aag:OO:=oF Xd v2 194
def aah:OO:=oD [("__module__",397,.str "stillheap.errors" 194),("__firstlineno__",401,.int 40 400),("called",408,.ref 195),("__static_attributes__",409,.ref 196),("__doc__",410,.none)] 2
def aai:OO:=oY "NoRound" [(.ref 45)] [(.ref 198),(.ref 45),v5,v6,v7,v1] 197 [] (.some (.ref 182)) 390 398 v8
def afR:OO:=oU 198
def afS:OO:=oP v4 (.ref 198)
def afT:OO:=oD [("__module__",420,.str "stillheap.errors" 194),("__qualname__",422,.str "BadView" 421),("__firstlineno__",424,.int 44 423),("called",431,.ref 214),("__static_attributes__",432,.ref 215)] 5
def afU:OO:=oX [46,4,213]
def afV:OO:=oM "BadView" 415 44 204 181 205 418 419
def afW:OO:=oR 206 3 203 v2
def aaj:OO:=oT (oS ["self"] 428)
def afX:OO:=oG Xe
def aak:OO:=oC Xe 425 46 1 0 0 3 208 181 209 210 211 212 429 430
def aal:OO:=oF Xe v2 213
def aam:OO:=oD [("__module__",420,.str "stillheap.errors" 194),("__firstlineno__",424,.int 44 423),("called",431,.ref 214),("__static_attributes__",432,.ref 215),("__doc__",433,.none)] 2
def aan:OO:=oY "BadView" [(.ref 45)] [(.ref 217),(.ref 45),v5,v6,v7,v1] 216 [] (.some (.ref 201)) 413 421 v8
def afY:OO:=oU 217
def afZ:OO:=oP v4 (.ref 217)
def aao:OO:=oT (oS ["x"] 453)
def af0:OO:=oG Xf
def aap:OO:=oC Xf 450 55 1 0 0 3 220 181 221 222 223 224 454 455
def aaq:OO:=oF Xf v12 225
def aar:OO:=oT (oS ["t"] 460)
def af1:OO:=oG Xg
def aas:OO:=oC Xg 457 58 1 0 0 3 227 181 228 229 230 231 461 462
def aat:OO:=oF Xg v12 232
def aau:OO:=oT (oS ["value"] 467)
def af3:OO:=oG Xh
def aav:OO:=oC Xh 464 62 1 0 0 3 234 181 235 236 237 238 468 469
def aaw:OO:=oF Xh v12 239
def aax:OO:=oT (oS ["fields"] 474)
def af4:OO:=oG Xi
def aay:OO:=oC Xi 471 64 1 0 0 3 241 181 242 243 244 245 475 476
def aaz:OO:=oF Xi v12 246
def aaA:OO:=oT (oS ["x"] 481)
def af5:OO:=oG Xj
def aaB:OO:=oC Xj 478 68 1 0 0 3 248 181 249 250 251 252 482 483
def aaC:OO:=oF Xj v12 253
def aaD:OO:=oT (oS ["h"] 488)
def af6:OO:=oG Xk
def aaE:OO:=oC Xk 485 71 1 0 0 3 255 181 256 257 258 259 489 490
def aaF:OO:=oF Xk v12 260
def aaG:OO:=oT (oS ["w"] 495)
def af7:OO:=oG Xl
def aaH:OO:=oC Xl 492 74 1 0 0 3 262 181 263 264 265 266 496 497
def aaI:OO:=oF Xl v12 267
def aaJ:OO:=oT (oS ["k","fields"] 502)
def af8:OO:=oG Xm
def aaK:OO:=oC Xm 499 77 2 0 0 3 269 181 270 271 272 273 504 505
def aaL:OO:=oF Xm v12 274
def aaM:OO:=oT (oS ["young","limit"] 510)
def af9:OO:=oG Xn
def aaN:OO:=oC Xn 507 80 2 0 0 3 276 181 277 278 279 280 512 513
def aaO:OO:=oF Xn v12 281
def aga:OO:=oD [("__module__",524,.str "stillheap.hands" 515),("__qualname__",526,.str "Hands" 525),("__firstlineno__",528,.int 86 527),("__init__",535,.ref 296),("word_in",543,.ref 303),("all_words",550,.ref 310),("put",559,.ref 317),("copy",568,.ref 324),("number",577,.ref 331),("kind",586,.ref 338),("value",594,.ref 345),("same",603,.ref 352),("thing_due",611,.ref 359),("__static_attributes__",613,.ref 360)] 14
def agb:OO:=oX [88,4,295,91,4,302,95,4,309,98,4,316,102,4,323,106,4,330,110,4,337,114,4,344,119,4,351,122,4,358]
def agc:OO:=oM "Hands" 519 86 286 181 287 522 523
def agd:OO:=oR 288 3 285 v9
def aaP:OO:=oT (oS ["self"] 532)
def age:OO:=oG Xo
def aaQ:OO:=oC Xo 529 88 1 0 0 3 290 181 291 292 293 294 533 534
def aaR:OO:=oF Xo v9 295
def aaS:OO:=oT (oS ["self","h"] 539)
def agf:OO:=oG Xp
def aaT:OO:=oC Xp 536 91 2 0 0 3 297 181 298 299 300 301 541 542
def aaU:OO:=oF Xp v9 302
def aaV:OO:=oT (oS ["self"] 547)
def agg:OO:=oG Xq
def aaW:OO:=oC Xq 544 95 1 0 0 3 304 181 305 306 307 308 548 549
def aaX:OO:=oF Xq v9 309
def aaY:OO:=oT (oS ["self","h","word"] 554)
def agh:OO:=oG Xr
def aaZ:OO:=oC Xr 551 98 3 0 0 3 311 181 312 313 314 315 557 558
def aa0:OO:=oF Xr v9 316
def aa1:OO:=oT (oS ["self","h","g"] 563)
def agi:OO:=oG Xs
def aa2:OO:=oC Xs 560 102 3 0 0 3 318 181 319 320 321 322 566 567
def aa3:OO:=oF Xs v9 323
def aa4:OO:=oT (oS ["self","h","x"] 572)
def agj:OO:=oG Xu
def aa5:OO:=oC Xu 569 106 3 0 0 3 325 181 326 327 328 329 575 576
def aa6:OO:=oF Xu v9 330
def aa7:OO:=oT (oS ["self","h","kind"] 581)
def agk:OO:=oG Xv
def aa8:OO:=oC Xv 578 110 2 0 0 3 332 181 333 334 335 336 584 585
def aa9:OO:=oF Xv v9 337
def aba:OO:=oT (oS ["self","h"] 590)
def agl:OO:=oG Xw
def abb:OO:=oC Xw 587 114 2 0 0 3 339 181 340 341 342 343 592 593
def abc:OO:=oF Xw v9 344
def abd:OO:=oT (oS ["self","h","g"] 598)
def agm:OO:=oG Xx
def abe:OO:=oC Xx 595 119 3 0 0 3 346 181 347 348 349 350 601 602
def abf:OO:=oF Xx v9 351
def abg:OO:=oT (oS ["self","h"] 607)
def agn:OO:=oG Xy
def abh:OO:=oC Xy 604 122 2 0 0 3 353 181 354 355 356 357 609 610
def abi:OO:=oF Xy v9 358
def abj:OO:=oT (oS ["words_held"] 612)
def abk:OO:=oD [("__module__",524,.str "stillheap.hands" 515),("__firstlineno__",528,.int 86 527),("__init__",535,.ref 296),("word_in",543,.ref 303),("all_words",550,.ref 310),("put",559,.ref 317),("copy",568,.ref 324),("number",577,.ref 331),("kind",586,.ref 338),("value",594,.ref 345),("same",603,.ref 352),("thing_due",611,.ref 359),("__static_attributes__",613,.ref 360),("__dict__",615,.ref 363),("__weakref__",617,.ref 364),("__doc__",618,.none)] 4
def abl:OO:=oY "Hands" [v1] [(.ref 362),v1] 361 [] none 517 525 v14
def abm:OO:=λ_=>⟨v11,none,(.fields (List.toArray [(.str "__dict__" 614),(.ref 362),v17,v18])),#[]⟩
def abn:OO:=λ_=>⟨v11,none,(.fields (List.toArray [(.str "__weakref__" 616),(.ref 362),v16,.none])),#[]⟩
def ago:OO:=oU 362
def agp:OO:=oP v4 (.ref 362)
def agq:OO:=oD [("__module__",632,.str "stillheap.lastwords" 621),("__qualname__",634,.str "WordTable" 633),("__firstlineno__",636,.int 128 635),("__init__",643,.ref 380),("bear",652,.ref 387),("word_of",660,.ref 394),("bearers",667,.ref 401),("settle",676,.ref 408),("take",683,.ref 415),("said",690,.ref 422),("__static_attributes__",693,.ref 423)] 11
def agr:OO:=oX [130,4,379,134,4,386,139,4,393,142,4,400,145,4,407,150,4,414,153,4,421]
def ags:OO:=oM "WordTable" 627 128 370 181 371 630 631
def agt:OO:=oR 372 3 369 v13
def abo:OO:=oT (oS ["self"] 640)
def agu:OO:=oG Xz
def abp:OO:=oC Xz 637 130 1 0 0 3 374 181 375 376 377 378 641 642
def abq:OO:=oF Xz v13 379
def abr:OO:=oT (oS ["self","t","x"] 647)
def agv:OO:=oG XA
def abt:OO:=oC XA 644 134 3 0 0 3 381 181 382 383 384 385 650 651
def abu:OO:=oF XA v13 386
def abv:OO:=oT (oS ["self","t"] 656)
def agw:OO:=oG XB
def abw:OO:=oC XB 653 139 2 0 0 3 388 181 389 390 391 392 658 659
def abx:OO:=oF XB v13 393
def aby:OO:=oT (oS ["self"] 664)
def agx:OO:=oG XC
def abz:OO:=oC XC 661 142 1 0 0 3 395 181 396 397 398 399 665 666
def abA:OO:=oF XC v13 400
def abB:OO:=oT (oS ["self","things","t"] 671)
def agy:OO:=oG XD
def abC:OO:=oC XD 668 145 2 0 0 3 402 181 403 404 405 406 674 675
def abD:OO:=oF XD v13 407
def abE:OO:=oT (oS ["self"] 680)
def agz:OO:=oG XE
def abF:OO:=oC XE 677 150 1 0 0 3 409 181 410 411 412 413 681 682
def abG:OO:=oF XE v13 414
def abH:OO:=oT (oS ["self"] 687)
def agA:OO:=oG XF
def abI:OO:=oC XF 684 153 1 0 0 3 416 181 417 418 419 420 688 689
def abJ:OO:=oF XF v13 421
def abK:OO:=oT (oS ["words_borne","words_said"] 691)
def abL:OO:=oD [("__module__",632,.str "stillheap.lastwords" 621),("__firstlineno__",636,.int 128 635),("__init__",643,.ref 380),("bear",652,.ref 387),("word_of",660,.ref 394),("bearers",667,.ref 401),("settle",676,.ref 408),("take",683,.ref 415),("said",690,.ref 422),("__static_attributes__",693,.ref 423),("__dict__",695,.ref 426),("__weakref__",697,.ref 427),("__doc__",698,.none)] 4
def abM:OO:=oY "WordTable" [v1] [(.ref 425),v1] 424 [] none 625 633 v14
def abN:OO:=λ_=>⟨v11,none,(.fields (List.toArray [(.str "__dict__" 694),(.ref 425),v17,v18])),#[]⟩
def abO:OO:=λ_=>⟨v11,none,(.fields (List.toArray [(.str "__weakref__" 696),(.ref 425),v16,.none])),#[]⟩
def agB:OO:=oU 425
def agC:OO:=oP v4 (.ref 425)
def abP:OO:=oT (oS ["view","steps","place","thing","met","done"] 706)
def agD:OO:=oG XG
def abQ:OO:=oC XG 703 156 1 0 0 3 430 181 431 432 433 434 712 713
def abR:OO:=oF XG (.str "stillheap.reach" 701) 435
def agE:OO:=oD (ap [("__name__",165,.str "stillheap.ideal" 960),("__doc__",166,.none),("__package__",167,.none),("__loader__",168,.builtin "__main__.__loader__#opaque"),("__spec__",169,.none),("__annotations__",170,.ref 6),("__builtins__",171,.ref 4),("__file__",173,.str "/claim/cut.py" 172),("__cached__",174,.none),("_wall",193,.ref 21),("HeapError",228,.ref 45),("BadHand",251,.ref 65),("BadName",274,.ref 84),("BadField",297,.ref 103),("BadCount",320,.ref 122),("NoRoom",343,.ref 141),("TooManyWords",366,.ref 160),("RoundOn",389,.ref 179),("NoRound",412,.ref 198),("BadView",435,.ref 217),("HANDS",439,.int 8 438),("WEAK_NAMES",441,.int 8 440),("MOST_FIELDS",443,.int 6 442),("LEAST_ROOM",445,.int 7 444),("MOST_YOUNG",447,.int 64 446),("MOST_LIMIT",449,.int 400 448),("number_value",456,.ref 226),("thing_value",463,.ref 233)] [("kind_of",470,.ref 240),("words_of",477,.ref 247),("look_at_number",484,.ref 254),("look_at_hand",491,.ref 261),("look_at_name",498,.ref 268),("look_at_field",506,.ref 275),("look_at_limits",514,.ref 282),("Hands",620,.ref 362),("MOST_BEARERS",624,.int 12 623),("WordTable",700,.ref 425),("last_steps",714,.ref 436),("NameTable",774,.ref 479),("Heap",951,.ref 606),("thing_among",959,.ref 617)]) 42
def agF:OO:=oX (xs0.take 78)
def agG:OO:=oD [("__module__",724,.str "stillheap.weaknames" 715),("__qualname__",726,.str "NameTable" 725),("__firstlineno__",728,.int 171 727),("__init__",735,.ref 450),("name",744,.ref 457),("named",752,.ref 464),("all_named",759,.ref 471),("settle",765,.ref 476),("__static_attributes__",767,.ref 477)] 9
def agH:OO:=oX [173,4,449,176,4,456,180,4,463,184,4,470,187,4,475]
def agI:OO:=oM "NameTable" 719 171 440 181 441 722 723
def agJ:OO:=oR 442 3 439 v15
def abS:OO:=oT (oS ["self"] 732)
def agK:OO:=oG XH
def abT:OO:=oC XH 729 173 1 0 0 3 444 181 445 446 447 448 733 734
def abU:OO:=oF XH v15 449
def abV:OO:=oT (oS ["self","w","t"] 739)
def agL:OO:=oG XI
def abW:OO:=oC XI 736 176 3 0 0 3 451 181 452 453 454 455 742 743
def abX:OO:=oF XI v15 456
def abY:OO:=oT (oS ["self","w"] 748)
def agM:OO:=oG XJ
def abZ:OO:=oC XJ 745 180 2 0 0 3 458 181 459 460 461 462 750 751
def ab0:OO:=oF XJ v15 463
def ab1:OO:=oT (oS ["self"] 756)
def agN:OO:=oG XM
def ab2:OO:=oC XM 753 184 1 0 0 3 465 181 466 467 468 469 757 758
def ab3:OO:=oF XM v15 470
def agO:OO:=oG XN
def ab4:OO:=oN XN 760 187 2 0 0 3 472 181 473 474 763 764
def ab5:OO:=oF XN v15 475
def ab6:OO:=oT (oS ["things_named"] 766)
def ab7:OO:=oD [("__module__",724,.str "stillheap.weaknames" 715),("__firstlineno__",728,.int 171 727),("__init__",735,.ref 450),("name",744,.ref 457),("named",752,.ref 464),("all_named",759,.ref 471),("settle",765,.ref 476),("__static_attributes__",767,.ref 477),("__dict__",769,.ref 480),("__weakref__",771,.ref 481),("__doc__",772,.none)] 4
def ab8:OO:=oY "NameTable" [v1] [(.ref 479),v1] 478 [] none 717 725 v14
def ab9:OO:=λ_=>⟨v11,none,(.fields (List.toArray [(.str "__dict__" 768),(.ref 479),v17,v18])),#[]⟩
def aca:OO:=λ_=>⟨v11,none,(.fields (List.toArray [(.str "__weakref__" 770),(.ref 479),v16,.none])),#[]⟩
def agP:OO:=oU 479
def agQ:OO:=oP v4 (.ref 479)
def agR:OO:=oD [("__module__",784,.str "stillheap.heaps" 775),("__qualname__",786,.str "Heap" 785),("__firstlineno__",788,.int 190 787),("__init__",796,.ref 497),("add_thing",806,.ref 504),("load",817,.ref 511),("store",829,.ref 518),("copy",838,.ref 525),("drop",846,.ref 532),("number",855,.ref 539),("name",865,.ref 546),("read_thing",875,.ref 553),("word",885,.ref 560),("small_round",891,.ref 565),("let_go",900,.ref 572),("look_at_held",908,.ref 579),("field_value",917,.ref 586),("counts_held",924,.ref 593),("words_among",930,.ref 598),("led_among",936,.ref 603),("__static_attributes__",944,.ref 604)] 21
def agS:OO:=oX [192,4,496,201,4,503,209,4,510,215,4,517,221,4,524,224,4,531,227,4,538,230,4,545,234,4,552,240,4,559,245,4,564,256,4,571,262,4,578,266,4,585,269,4,592,272,4,597,275,4,602]
def agT:OO:=oM "Heap" 779 190 487 181 488 782 783
def agU:OO:=oR 489 3 486 v3
def acb:OO:=oT (oS ["self","makes_young"] 792)
def agV:OO:=oG XO
def acd:OO:=oC XO 789 192 2 0 0 3 491 181 492 493 494 495 794 795
def ace:OO:=oF XO v3 496
def acf:OO:=oT (oS ["self","h","n","t"] 800)
def agW:OO:=oG XQ
def acg:OO:=oC XQ 797 201 3 0 0 3 498 181 499 500 501 502 804 805
def ach:OO:=oF XQ v3 503
def aci:OO:=oT (oS ["self","h","g","k","fields"] 810)
def agX:OO:=oG XR
def acj:OO:=oC XR 807 209 4 0 0 3 505 181 506 507 508 509 815 816
def ack:OO:=oF XR v3 510
def acm:OO:=oT (oS ["self","g","k","h","fields","value"] 821)
def agY:OO:=oG XS
def acn:OO:=oC XS 818 215 4 0 0 3 512 181 513 514 515 516 827 828
def aco:OO:=oF XS v3 517
def acp:OO:=oT (oS ["self","h","g"] 833)
def agZ:OO:=oG XT
def acq:OO:=oC XT 830 221 3 0 0 3 519 181 520 521 522 523 836 837
def acr:OO:=oF XT v3 524
def acs:OO:=oT (oS ["self","h"] 842)
def ag0:OO:=oG XU
def acu:OO:=oC XU 839 224 2 0 0 3 526 181 527 528 529 530 844 845
def acv:OO:=oF XU v3 531
def acw:OO:=oT (oS ["self","h","x"] 850)
def ag1:OO:=oG XW
def acx:OO:=oC XW 847 227 3 0 0 3 533 181 534 535 536 537 853 854
def acy:OO:=oF XW v3 538
def acz:OO:=oT (oS ["self","w","h","t"] 859)
def ag2:OO:=oG XX
def acA:OO:=oC XX 856 230 3 0 0 3 540 181 541 542 543 544 863 864
def acB:OO:=oF XX v3 545
def acC:OO:=oT (oS ["self","h","w","t"] 869)
def ag3:OO:=oG XY
def acD:OO:=oC XY 866 234 3 0 0 3 547 181 548 549 550 551 873 874
def acE:OO:=oF XY v3 552
def acF:OO:=oT (oS ["self","h","x","t"] 879)
def ag4:OO:=oG XZ
def acG:OO:=oC XZ 876 240 3 0 0 3 554 181 555 556 557 558 883 884
def acH:OO:=oF XZ v3 559
def ag5:OO:=oG X0
def acI:OO:=oN X0 886 245 1 0 0 3 561 181 562 563 889 890
def acJ:OO:=oF X0 v3 564
def acK:OO:=oT (oS ["self","gone","t"] 895)
def ag6:OO:=oG X2
def acL:OO:=oC X2 892 256 2 0 0 3 566 181 567 568 569 570 898 899
def acM:OO:=oF X2 v3 571
def acN:OO:=oT (oS ["self","t"] 904)
def ag7:OO:=oG X3
def acO:OO:=oC X3 901 262 2 0 0 3 573 181 574 575 576 577 906 907
def acP:OO:=oF X3 v3 578
def acQ:OO:=oT (oS ["self","t","k"] 912)
def ag8:OO:=oG X4
def acR:OO:=oC X4 909 266 3 0 0 3 580 181 581 582 583 584 915 916
def acS:OO:=oF X4 v3 585
def acT:OO:=oT (oS ["self"] 921)
def ag9:OO:=oG X5
def acU:OO:=oC X5 918 269 1 0 0 3 587 181 588 589 590 591 922 923
def acV:OO:=oF X5 v3 592
def aha:OO:=oG X6
def acW:OO:=oN X6 925 272 2 0 0 3 594 181 595 596 928 929
def acX:OO:=oF X6 v3 597
def ahb:OO:=oG X7
def acY:OO:=oN X7 931 275 3 0 0 3 599 181 600 601 934 935
def acZ:OO:=oF X7 v3 602
def ac0:OO:=oT (oS ["fields_held","in_hands","last_words","makes_young","next_thing","weak_names","young_things"] 937)
def ac1:OO:=oD [("__module__",784,.str "stillheap.heaps" 775),("__firstlineno__",788,.int 190 787),("__init__",796,.ref 497),("add_thing",806,.ref 504),("load",817,.ref 511),("store",829,.ref 518),("copy",838,.ref 525),("drop",846,.ref 532),("number",855,.ref 539),("name",865,.ref 546),("read_thing",875,.ref 553),("word",885,.ref 560),("small_round",891,.ref 565),("let_go",900,.ref 572),("look_at_held",908,.ref 579),("field_value",917,.ref 586),("counts_held",924,.ref 593),("words_among",930,.ref 598),("led_among",936,.ref 603),("__static_attributes__",944,.ref 604),("__dict__",946,.ref 607),("__weakref__",948,.ref 608),("__doc__",949,.none)] 4
def ahc:OO:=oY "Heap" [v1] [(.ref 606),v1] 605 [] none 777 785 v14
def ac2:OO:=λ_=>⟨v11,none,(.fields (List.toArray [(.str "__dict__" 945),(.ref 606),v17,v18])),#[]⟩
def ac3:OO:=λ_=>⟨v11,none,(.fields (List.toArray [(.str "__weakref__" 947),(.ref 606),v16,.none])),#[]⟩
def ahe:OO:=oU 606
def ahf:OO:=oP v4 (.ref 606)
def ac4:OO:=oT (oS ["value","things"] 955)
def ahg:OO:=oG X8
def ac5:OO:=oC X8 952 280 2 0 0 3 611 181 612 613 614 615 957 958
def ac6:OO:=oF X8 v3 616
def ac7:OO:=oD (ap [("__name__",165,.str "law_stillheap_k13_whole_never_lost" 1165),("__doc__",166,.none),("__package__",167,.none),("__loader__",168,.builtin "__main__.__loader__#opaque"),("__spec__",169,.none),("__annotations__",170,.ref 6),("__builtins__",171,.ref 4),("__file__",173,.str "/claim/cut.py" 172),("__cached__",174,.none),("_wall",193,.ref 21),("HeapError",228,.ref 45),("BadHand",251,.ref 65),("BadName",274,.ref 84),("BadField",297,.ref 103),("BadCount",320,.ref 122),("NoRoom",343,.ref 141),("TooManyWords",366,.ref 160),("RoundOn",389,.ref 179),("NoRound",412,.ref 198),("BadView",435,.ref 217),("HANDS",439,.int 8 438),("WEAK_NAMES",441,.int 8 440),("MOST_FIELDS",443,.int 6 442),("LEAST_ROOM",445,.int 7 444),("MOST_YOUNG",447,.int 64 446),("MOST_LIMIT",449,.int 400 448),("number_value",456,.ref 226),("thing_value",463,.ref 233)] [("kind_of",470,.ref 240),("words_of",477,.ref 247),("look_at_number",484,.ref 254),("look_at_hand",491,.ref 261),("look_at_name",498,.ref 268),("look_at_field",506,.ref 275),("look_at_limits",514,.ref 282),("Hands",620,.ref 362),("MOST_BEARERS",624,.int 12 623),("WordTable",700,.ref 425),("last_steps",714,.ref 436),("NameTable",774,.ref 479),("Heap",951,.ref 606),("thing_among",959,.ref 617),("IdealHeap",1164,.ref 788),("_law_numbers",1178,.ref 797),("_law_deed",1190,.ref 804),("_law_plain",1198,.ref 811),("_law_done",1208,.ref 818),("_law_things",1214,.ref 823),("_law_led",1226,.ref 830),("_law_heap",1234,.ref 837),("_law_deeds",1240,.ref 842),("_law_none_told",1251,.ref 849),("_law_inside_right",1257,.ref 854),("law",1263,.ref 859)]) 54
def ahh:OO:=oX (xs0.take 114)
def ac8:OO:=oY "Heap" [v1] [(.ref 606),v1] 605 [(.ref 788)] none 777 785 v14
def ac9:OO:=oT [(.ref 606)]
def ahi:OO:=oD [("__module__",969,.str "stillheap.ideal" 960),("__qualname__",971,.str "IdealHeap" 970),("__firstlineno__",973,.int 285 972),("__init__",982,.ref 631),("make",992,.ref 638),("read",1002,.ref 645),("take",1009,.ref 652),("kind",1017,.ref 659),("value",1025,.ref 666),("fields",1033,.ref 673),("same",1042,.ref 680),("held",1049,.ref 687),("small",1056,.ref 694),("begin",1065,.ref 701),("end",1073,.ref 708),("round_on",1080,.ref 715),("hands",1087,.ref 722),("names",1094,.ref 729),("things",1101,.ref 736),("fields_of",1109,.ref 743),("is_old",1117,.ref 750),("word_of",1125,.ref 757),("doomed",1132,.ref 764),("said",1139,.ref 771),("made",1146,.ref 778),("spare",1156,.ref 785),("__static_attributes__",1161,.ref 786)] 27
def ahj:OO:=oX [287,4,630,295,4,637,304,4,644,309,4,651,312,4,658,315,4,665,318,4,672,321,4,679,324,4,686,327,4,693,330,4,700,340,4,707,348,4,714,351,4,721,354,4,728,357,4,735,360,4,742,364,4,749,368,4,756,372,4,763,375,4,770,378,4,777,381,4,784]
def ahk:OO:=oM "IdealHeap" 964 285 621 181 622 967 968
def ahm:OO:=oR 623 3 620 v0
def ada:OO:=oT (oS ["self","young","limit"] 977)
def ahn:OO:=oG X9
def adb:OO:=oC X9 974 287 3 0 0 3 625 181 626 627 628 629 980 981
def ade:OO:=oF X9 v0 630
def adf:OO:=oT (oS ["self","h","n","size"] 986)
def aho:OO:=oG Yb
def adg:OO:=oC Yb 983 295 3 0 0 3 632 181 633 634 635 636 990 991
def adh:OO:=oF Yb v0 637
def adi:OO:=oT (oS ["self","h","w","t"] 996)
def ahp:OO:=oG Yc
def adj:OO:=oC Yc 993 304 3 0 0 3 639 181 640 641 642 643 1000 1001
def adk:OO:=oF Yc v0 644
def adl:OO:=oT (oS ["self"] 1006)
def ahq:OO:=oG Yd
def adn:OO:=oC Yd 1003 309 1 0 0 3 646 181 647 648 649 650 1007 1008
def ado:OO:=oF Yd v0 651
def adp:OO:=oT (oS ["self","h"] 1013)
def ahr:OO:=oG Ye
def adq:OO:=oC Ye 1010 312 2 0 0 3 653 181 654 655 656 657 1015 1016
def ads:OO:=oF Ye v0 658
def adt:OO:=oT (oS ["self","h"] 1021)
def ahs:OO:=oG Yg
def adu:OO:=oC Yg 1018 315 2 0 0 3 660 181 661 662 663 664 1023 1024
def adv:OO:=oF Yg v0 665
def adw:OO:=oT (oS ["self","h"] 1029)
def aht:OO:=oG Yh
def adx:OO:=oC Yh 1026 318 2 0 0 3 667 181 668 669 670 671 1031 1032
def ady:OO:=oF Yh v0 672
def adz:OO:=oT (oS ["self","h","g"] 1037)
def ahu:OO:=oG Yi
def adA:OO:=oC Yi 1034 321 3 0 0 3 674 181 675 676 677 678 1040 1041
def adB:OO:=oF Yi v0 679
def adC:OO:=oT (oS ["self"] 1046)
def ahv:OO:=oG Yj
def adD:OO:=oC Yj 1043 324 1 0 0 3 681 181 682 683 684 685 1047 1048
def adE:OO:=oF Yj v0 686
def adF:OO:=oT (oS ["self"] 1053)
def ahw:OO:=oG Yk
def adG:OO:=oC Yk 1050 327 1 0 0 3 688 181 689 690 691 692 1054 1055
def adH:OO:=oF Yk v0 693
def adI:OO:=oT (oS ["self","kept","t"] 1060)
def ahx:OO:=oG Yl
def adJ:OO:=oC Yl 1057 330 1 0 0 3 695 181 696 697 698 699 1063 1064
def adK:OO:=oF Yl v0 700
def adL:OO:=oT (oS ["self","gone"] 1069)
def ahy:OO:=oG Ym
def adM:OO:=oC Ym 1066 340 1 0 0 3 702 181 703 704 705 706 1071 1072
def adN:OO:=oF Ym v0 707
def adO:OO:=oT (oS ["self"] 1077)
def ahz:OO:=oG Yn
def adP:OO:=oC Yn 1074 348 1 0 0 3 709 181 710 711 712 713 1078 1079
def adQ:OO:=oF Yn v0 714
def adR:OO:=oT (oS ["self"] 1084)
def ahA:OO:=oG Yo
def adS:OO:=oC Yo 1081 351 1 0 0 3 716 181 717 718 719 720 1085 1086
def adT:OO:=oF Yo v0 721
def adU:OO:=oT (oS ["self"] 1091)
def ahB:OO:=oG Yp
def adV:OO:=oC Yp 1088 354 1 0 0 3 723 181 724 725 726 727 1092 1093
def adW:OO:=oF Yp v0 728
def adX:OO:=oT (oS ["self"] 1098)
def ahC:OO:=oG Yq
def adY:OO:=oC Yq 1095 357 1 0 0 3 730 181 731 732 733 734 1099 1100
def adZ:OO:=oF Yq v0 735
def ad0:OO:=oT (oS ["self","t"] 1105)
def ahD:OO:=oG Yr
def ad1:OO:=oC Yr 1102 360 2 0 0 3 737 181 738 739 740 741 1107 1108
def ad2:OO:=oF Yr v0 742
def ad3:OO:=oT (oS ["self","t"] 1113)
def ahE:OO:=oG Ys
def ad4:OO:=oC Ys 1110 364 2 0 0 3 744 181 745 746 747 748 1115 1116
def ad5:OO:=oF Ys v0 749
def ad6:OO:=oT (oS ["self","t"] 1121)
def ahF:OO:=oG Yt
def ad7:OO:=oC Yt 1118 368 2 0 0 3 751 181 752 753 754 755 1123 1124
def ad8:OO:=oF Yt v0 756
def ad9:OO:=oT (oS ["self"] 1129)
def ahG:OO:=oG Yu
def aea:OO:=oC Yu 1126 372 1 0 0 3 758 181 759 760 761 762 1130 1131
def aeb:OO:=oF Yu v0 763
def aec:OO:=oT (oS ["self"] 1136)
def ahH:OO:=oG Yv
def aed:OO:=oC Yv 1133 375 1 0 0 3 765 181 766 767 768 769 1137 1138
def aee:OO:=oF Yv v0 770
def aef:OO:=oT (oS ["self"] 1143)
def ahI:OO:=oG Yw
def aeg:OO:=oC Yw 1140 378 1 0 0 3 772 181 773 774 775 776 1144 1145
def aeh:OO:=oF Yw v0 777
def aei:OO:=oT (oS ["self","t","spared","other"] 1150)
def ahJ:OO:=oG Yx
def aej:OO:=oC Yx 1147 381 2 0 0 3 779 181 780 781 782 783 1154 1155
def aek:OO:=oF Yx v0 784
def ael:OO:=oT (oS ["doomed_things","in_round","limit","young_room"] 1157)
def aem:OO:=oD [("__module__",969,.str "stillheap.ideal" 960),("__firstlineno__",973,.int 285 972),("__init__",982,.ref 631),("make",992,.ref 638),("read",1002,.ref 645),("take",1009,.ref 652),("kind",1017,.ref 659),("value",1025,.ref 666),("fields",1033,.ref 673),("same",1042,.ref 680),("held",1049,.ref 687),("small",1056,.ref 694),("begin",1065,.ref 701),("end",1073,.ref 708),("round_on",1080,.ref 715),("hands",1087,.ref 722),("names",1094,.ref 729),("things",1101,.ref 736),("fields_of",1109,.ref 743),("is_old",1117,.ref 750),("word_of",1125,.ref 757),("doomed",1132,.ref 764),("said",1139,.ref 771),("made",1146,.ref 778),("spare",1156,.ref 785),("__static_attributes__",1161,.ref 786),("__doc__",1162,.none)] 2
def aen:OO:=oY "IdealHeap" [(.ref 606)] [(.ref 788),(.ref 606),v1] 787 [] (.some (.ref 618)) 962 970 v14
def ahK:OO:=oU 788
def ahL:OO:=oP v4 (.ref 788)
def aeo:OO:=oT (oS ["script","most","found","k","near","turn"] 1170)
def ahM:OO:=oG Yy
def aep:OO:=oC Yy 1167 386 2 0 0 3 791 181 792 793 794 795 1176 1177
def aeq:OO:=oF Yy v10 796
def aer:OO:=oT (oS ["number","a","b","c","kind","some"] 1182)
def ahN:OO:=oG Yz
def aes:OO:=oC Yz 1179 398 1 0 0 3 798 181 799 800 801 802 1188 1189
def aet:OO:=oF Yz v10 803
def aeu:OO:=oT (oS ["hall","deed"] 1194)
def ahO:OO:=oG YA
def aev:OO:=oC YA 1191 411 2 0 0 3 805 181 806 807 808 809 1196 1197
def aew:OO:=oF YA v10 810
def aex:OO:=oT (oS ["hall","deed","word","e"] 1202)
def ahP:OO:=oG YB
def aey:OO:=oC YB 1199 436 2 0 0 3 812 181 813 814 815 816 1206 1207
def aez:OO:=oF YB v10 817
def ahQ:OO:=oG YC
def aeA:OO:=oN YC 1209 443 1 0 0 3 819 181 820 821 1212 1213
def aeB:OO:=oF YC v10 822
def aeC:OO:=oT (oS ["heap","starts","some","found","left","thing"] 1218)
def ahR:OO:=oG YD
def aeD:OO:=oC YD 1215 445 3 0 0 3 824 181 825 826 827 828 1224 1225
def aeE:OO:=oF YD v10 829
def aeF:OO:=oT (oS ["script","head"] 1230)
def ahS:OO:=oG YE
def aeG:OO:=oC YE 1227 454 1 0 0 3 831 181 832 833 834 835 1232 1233
def aeH:OO:=oF YE v10 836
def ahT:OO:=oG YF
def aeI:OO:=oN YF 1235 459 2 0 0 3 838 181 839 840 1238 1239
def aeJ:OO:=oF YF v10 841
def aeK:OO:=oT (oS ["heap","t","way","kept","e"] 1244)
def ahU:OO:=oG YG
def aeL:OO:=oC YG 1241 462 2 0 0 3 843 181 844 845 846 847 1249 1250
def aeM:OO:=oF YG v10 848
def ahV:OO:=oG YH
def aeN:OO:=oN YH 1252 477 2 0 0 3 850 181 851 852 1255 1256
def aeO:OO:=oF YH v10 853
def ahW:OO:=oG YI
def aeP:OO:=oN YI 1258 494 1 0 0 3 855 181 856 857 1261 1262
def aeQ:OO:=oF YI v10 858
def hL:List OO:=o0::o1::o2::ac7::o4::o5::o6::o7::o8::o9::o10::o7::ahh::o11::o12::o7::o8::o15::o7::o16::o17::o18::o19::o20::o21::o7::o22::o23::o24::o7::o8::o25::o7::o26::o27::o28::o7::o8::o29::o7::o30::o31::o32::o7::o33::aad::o35::o36::o37::o38::o20::o39::o7::o40::o41::o42::o7::o8::o43::o7::o44::o45::o46::o7::o47::o48::o49::o50::o38::o20::o51::o7::o52::o53::o54::o7::o8::o55::o7::o56::o57::o58::o7::o59::o60::o61::o62::o38::o20::o63::o7::o64::o65::o66::o7::o8::o67::o7::o68::o69::o70::o7::o71::o72::o73::o74::o38::o20::o75::o7::o76::o77::o78::o7::o8::o79::o7::o80::o81::o82::o7::o83::o84::o85::o86::o38::o20::o87::o7::o88::o89::o90::o7::o8::o91::o7::o92::o93::o94::o7::o95::o96::o97::o98::o38::o20::o99::o7::afx::afy::afz::o7::o8::Z2::o7::afA::Z3::Z5::o7::Z6::Z7::afB::afC::o38::o20::afD::o7::afE::afF::afG::o7::o8::Z8::o7::afH::Z9::aaa::o7::aab::aac::afI::afJ::o38::o20::afM::o7::afN::afO::afP::o7::o8::aae::o7::afQ::aaf::aag::o7::aah::aai::afR::afS::o38::o20::afT::o7::afU::afV::afW::o7::o8::aaj::o7::afX::aak::aal::o7::aam::aan::afY::afZ::o7::o8::aao::o7::af0::aap::aaq::o7::o8::aar::o7::af1::aas::aat::o7::o8::aau::o7::af3::aav::aaw::o7::o8::aax::o7::af4::aay::aaz::o7::o8::aaA::o7::af5::aaB::aaC::o7::o8::aaD::o7::af6::aaE::aaF::o7::o8::aaG::o7::af7::aaH::aaI::o7::o8::aaJ::o7::af8::aaK::aaL::o7::o8::aaM::o7::af9::aaN::aaO::o7::o20::aga::o7::agb::agc::agd::o7::o8::aaP::o7::age::aaQ::aaR::o7::o8::aaS::o7::agf::aaT::aaU::o7::o8::aaV::o7::agg::aaW::aaX::o7::o8::aaY::o7::agh::aaZ::aa0::o7::o8::aa1::o7::agi::aa2::aa3::o7::o8::aa4::o7::agj::aa5::aa6::o7::o8::aa7::o7::agk::aa8::aa9::o7::o8::aba::o7::agl::abb::abc::o7::o8::abd::o7::agm::abe::abf::o7::o8::abg::o7::agn::abh::abi::abj::abk::abl::abm::abn::ago::agp::o7::o20::agq::o7::agr::ags::agt::o7::o8::abo::o7::agu::abp::abq::o7::o8::abr::o7::agv::abt::abu::o7::o8::abv::o7::agw::abw::abx::o7::o8::aby::o7::agx::abz::abA::o7::o8::abB::o7::agy::abC::abD::o7::o8::abE::o7::agz::abF::abG::o7::o8::abH::o7::agA::abI::abJ::abK::abL::abM::abN::abO::agB::agC::o7::o8::abP::o7::agD::abQ::abR::o7::o20::agG::o7::agH::agI::agJ::o7::o8::abS::o7::agK::abT::abU::o7::o8::abV::o7::agL::abW::abX::o7::o8::abY::o7::agM::abZ::ab0::o7::o8::ab1::o7::agN::ab2::ab3::o7::o8::agO::ab4::ab5::ab6::ab7::ab8::ab9::aca::agP::agQ::o7::o20::agR::o7::agS::agT::agU::o7::o8::acb::o7::agV::acd::ace::o7::o8::acf::o7::agW::acg::ach::o7::o8::aci::o7::agX::acj::ack::o7::o8::acm::o7::agY::acn::aco::o7::o8::acp::o7::agZ::acq::acr::o7::o8::acs::o7::ag0::acu::acv::o7::o8::acw::o7::ag1::acx::acy::o7::o8::acz::o7::ag2::acA::acB::o7::o8::acC::o7::ag3::acD::acE::o7::o8::acF::o7::ag4::acG::acH::o7::o8::ag5::acI::acJ::o7::o8::acK::o7::ag6::acL::acM::o7::o8::acN::o7::ag7::acO::acP::o7::o8::acQ::o7::ag8::acR::acS::o7::o8::acT::o7::ag9::acU::acV::o7::o8::aha::acW::acX::o7::o8::ahb::acY::acZ::ac0::ac1::ac8::ac2::ac3::ahe::ahf::o7::o8::ac4::o7::ahg::ac5::ac6::ac9::o20::ahi::o7::ahj::ahk::ahm::o7::o8::ada::o7::ahn::adb::ade::o7::o8::adf::o7::aho::adg::adh::o7::o8::adi::o7::ahp::adj::adk::o7::o8::adl::o7::ahq::adn::ado::o7::o8::adp::o7::ahr::adq::ads::o7::o8::adt::o7::ahs::adu::adv::o7::o8::adw::o7::aht::adx::ady::o7::o8::adz::o7::ahu::adA::adB::o7::o8::adC::o7::ahv::adD::adE::o7::o8::adF::o7::ahw::adG::adH::o7::o8::adI::o7::ahx::adJ::adK::o7::o8::adL::o7::ahy::adM::adN::o7::o8::adO::o7::ahz::adP::adQ::o7::o8::adR::o7::ahA::adS::adT::o7::o8::adU::o7::ahB::adV::adW::o7::o8::adX::o7::ahC::adY::adZ::o7::o8::ad0::o7::ahD::ad1::ad2::o7::o8::ad3::o7::ahE::ad4::ad5::o7::o8::ad6::o7::ahF::ad7::ad8::o7::o8::ad9::o7::ahG::aea::aeb::o7::o8::aec::o7::ahH::aed::aee::o7::o8::aef::o7::ahI::aeg::aeh::o7::o8::aei::o7::ahJ::aej::aek::ael::aem::aen::ahK::ahL::o7::o8::aeo::o7::ahM::aep::aeq::o7::o8::aer::o7::ahN::aes::aet::o7::o8::aeu::o7::ahO::aev::aew::o7::o8::aex::o7::ahP::aey::aez::o7::o8::ahQ::aeA::aeB::o7::o8::aeC::o7::ahR::aeD::aeE::o7::o8::aeF::o7::ahS::aeG::aeH::o7::o8::ahT::aeI::aeJ::o7::o8::aeK::o7::ahU::aeL::aeM::o7::o8::ahV::aeN::aeO::o7::o8::ahW::aeP::aeQ::[]
def hTa(P:Params):BT:=mkT P 12 (stT (hL.take 15) [(3,o3),(12,o8)])
def hSa(w:World)(os:OsState):SharedT:=⟨hTa w.params,15,⟨[],[],[],0,[],[],false,(List.toArray []),[],0,false,false,false,0,[2000,10,10],false,0,true,[],[],0,false⟩,#[],⟨0,0,0,0⟩,187,os⟩
def hTb(P:Params):BT:=mkT P 12 (stT (hL.take 15) [(3,o3),(12,o8)])
def hSb(w:World)(os:OsState):SharedT:=⟨hTb w.params,15,⟨[],[],[],0,[],[],false,(List.toArray []),[],0,false,false,false,0,[2000,10,10],false,0,true,[],[],0,false⟩,#[],⟨0,0,0,0⟩,187,os⟩
def hT0(P:Params):BT:=mkT P 12 (stT (hL.take 182) [(3,o13),(12,o14),(45,o34)])
def hS0(w:World)(os:OsState):SharedT:=⟨hT0 w.params,182,⟨[],[],[],0,[],[],false,(List.toArray []),[],0,false,false,false,0,[2000,10,10],false,0,true,[],[],0,false⟩,#[],⟨0,0,0,0⟩,390,os⟩
def hT1(P:Params):BT:=mkT P 12 (stT (hL.take 437) [(3,afK),(12,afL)])
def hS1(w:World)(os:OsState):SharedT:=⟨hT1 w.params,437,⟨[],[],[],0,[],[],false,(List.toArray []),[],0,false,false,false,0,[2000,10,10],false,0,true,[],[],0,false⟩,#[],⟨0,0,0,0⟩,717,os⟩
def hT2(P:Params):BT:=mkT P 12 (stT (hL.take 618) [(3,agE),(12,agF),(606,ahc)])
def hS2(w:World)(os:OsState):SharedT:=⟨hT2 w.params,618,⟨[],[],[],0,[],[],false,(List.toArray []),[],0,false,false,false,0,[2000,10,10],false,0,true,[],[],0,false⟩,#[],⟨0,0,0,0⟩,962,os⟩
def hT3(P:Params):BT:=mkT P 12 hL
def hS3(w:World)(os:OsState):SharedT:=⟨hT3 w.params,860,⟨[],[],[],0,[],[],false,(List.toArray []),[],0,false,false,false,0,[2000,10,10],false,0,true,[],[],0,false⟩,#[],⟨0,0,0,0⟩,1264,os⟩
def hTf(P:Params):BT:=mkT P 12 hL
def hSf(w:World)(os:OsState):SharedT:=⟨hTf w.params,860,⟨[],[],[],0,[],[],false,(List.toArray []),[],0,false,false,false,0,[2000,10,10],false,0,true,[],[],0,false⟩,#[],⟨0,0,0,0⟩,1264,os⟩
def Sy:Env:={scope:=(PySem.Challenge.pw_stillheap_k13_whole_never_lost).main.scope,locals:=mainNs,globals:=mainNs,cells:=[],code:=(.ref 13),frame:=some 14}
def hG0:List Stmt:=[top 0,top 1,top 2,top 3,top 4,top 5,top 6,top 7,top 8,top 9]
def hG1:List Stmt:=[top 10,top 11,top 12,top 13,top 14,top 15,top 16,top 17,top 18,top 19,top 20,top 21,top 22,top 23,top 24,top 25,top 26,top 27,top 28,top 29,top 30,top 31,top 32,top 33,top 34,top 35]
def hG2:List Stmt:=[top 36,top 37,top 38,top 39,top 40]
def hG3:List Stmt:=[top 41,top 42,top 43,top 44,top 45,top 46,top 47,top 48,top 49,top 50,top 51,top 52,top 53]
def hB:List Stmt:=hG0++(hG1++(hG2++(hG3++[])))
def hC:Code:=.body hB Sy
abbrev hF:List Frame:=[topFrame ⟨0,0,0,0⟩]
theorem ahX(w:World)(os:OsState):topGo treeTable PySem.Challenge.pw_stillheap_k13_whole_never_lost w 11 (.some (.ref 6)) 12 ⟨boot_heap w.params,#[],boot_drawn,boot_toks,os⟩ (topStub PySem.Challenge.pw_stillheap_k13_whole_never_lost)=some ((hSa w os).abs,⟨denote treeTable hC,hC,⟨0,0,0,0⟩,hF⟩):=by kernel_rfl
theorem ahY(w:World)(os:OsState):segRun treeTable PySem.Challenge.pw_stillheap_k13_whole_never_lost w 11 (.some (.ref 6)) 1 1 (hSa w os).abs (blockOf hB Sy hC ⟨0,0,0,0⟩ hF)=some (.next,(hSb w os).abs,hC,⟨0,0,0,0⟩):=by kernel_rfl
theorem hR0(w:World)(os:OsState):segRunT treeTable PySem.Challenge.pw_stillheap_k13_whole_never_lost w 11 (.some (.ref 6)) 1 1988 (hSb w os) (piecesOf hG0 Sy hC ⟨0,0,0,0⟩ hF)=some (.next,hS0 w os,hC,⟨36,0,39,24⟩):=by kernel_rfl
theorem hR1(w:World)(os:OsState):segRunT treeTable PySem.Challenge.pw_stillheap_k13_whole_never_lost w 11 (.some (.ref 6)) 1 1818 (hS0 w os) (piecesOf hG1 Sy hC ⟨36,0,39,24⟩ hF)=some (.next,hS1 w os,hC,⟨170,0,170,8⟩):=by kernel_rfl
theorem hR2(w:World)(os:OsState):segRunT treeTable PySem.Challenge.pw_stillheap_k13_whole_never_lost w 11 (.some (.ref 6)) 1 1140 (hS1 w os) (piecesOf hG2 Sy hC ⟨170,0,170,8⟩ hF)=some (.next,hS2 w os,hC,⟨284,0,284,8⟩):=by kernel_rfl
theorem hR3(w:World)(os:OsState):segRunT treeTable PySem.Challenge.pw_stillheap_k13_whole_never_lost w 11 (.some (.ref 6)) 1 1292 (hS2 w os) (piecesOf hG3 Sy hC ⟨284,0,284,8⟩ hF)=some (.next,hS3 w os,hC,⟨494,0,514,15⟩):=by kernel_rfl
theorem ahZ(w:World)(os:OsState):topRun treeTable PySem.Challenge.pw_stillheap_k13_whole_never_lost w 11 (.some (.ref 6)) 2 (hS3 w os).abs ⟨doneF .next,hC,⟨494,0,514,15⟩,hF⟩=some (hSf w os).abs:=by kernel_rfl
theorem ah0(w:World)(os:OsState):topRun treeTable PySem.Challenge.pw_stillheap_k13_whole_never_lost w 11 (.some (.ref 6)) (12+(1+(1988+(1818+(1140+(1292+2)))))) ⟨boot_heap w.params,#[],boot_drawn,boot_toks,os⟩ (topStub PySem.Challenge.pw_stillheap_k13_whole_never_lost)=some (hSf w os).abs:=go_top (ahX w os) (piece_block (ahY w os) (piece_app (segRun_of (hR0 w os)) (piece_app (segRun_of (hR1 w os)) (piece_app (segRun_of (hR2 w os)) (piece_app (segRun_of (hR3 w os)) (ahZ w os))))))
def hK(P:Params):Frag:=(nat_lit 2,o2 P)::(nat_lit 3,ac7 P)::(nat_lit 15,o7 P)::(nat_lit 17,o15 P)::(nat_lit 18,o7 P)::(nat_lit 20,o17 P)::(nat_lit 21,o18 P)::(nat_lit 22,o19 P)::(nat_lit 29,o7 P)::(nat_lit 31,o25 P)::(nat_lit 32,o7 P)::(nat_lit 34,o27 P)::(nat_lit 35,o28 P)::(nat_lit 36,o7 P)::(nat_lit 38,o29 P)::(nat_lit 39,o7 P)::(nat_lit 41,o31 P)::(nat_lit 42,o32 P)::(nat_lit 43,o7 P)::(nat_lit 44,o33 P)::(nat_lit 45,aad P)::(nat_lit 46,o35 P)::(nat_lit 49,o38 P)::(nat_lit 56,o7 P)::(nat_lit 58,o43 P)::(nat_lit 59,o7 P)::(nat_lit 61,o45 P)::(nat_lit 62,o46 P)::(nat_lit 63,o7 P)::(nat_lit 64,o47 P)::(nat_lit 65,o48 P)::(nat_lit 68,o38 P)::(nat_lit 75,o7 P)::(nat_lit 77,o55 P)::(nat_lit 78,o7 P)::(nat_lit 80,o57 P)::(nat_lit 81,o58 P)::(nat_lit 82,o7 P)::(nat_lit 83,o59 P)::(nat_lit 84,o60 P)::(nat_lit 87,o38 P)::(nat_lit 94,o7 P)::(nat_lit 96,o67 P)::(nat_lit 97,o7 P)::(nat_lit 99,o69 P)::(nat_lit 100,o70 P)::(nat_lit 101,o7 P)::(nat_lit 102,o71 P)::(nat_lit 103,o72 P)::(nat_lit 106,o38 P)::(nat_lit 113,o7 P)::(nat_lit 115,o79 P)::(nat_lit 116,o7 P)::(nat_lit 118,o81 P)::(nat_lit 119,o82 P)::(nat_lit 120,o7 P)::(nat_lit 121,o83 P)::(nat_lit 122,o84 P)::(nat_lit 125,o38 P)::(nat_lit 132,o7 P)::(nat_lit 134,o91 P)::(nat_lit 135,o7 P)::(nat_lit 137,o93 P)::(nat_lit 138,o94 P)::(nat_lit 139,o7 P)::(nat_lit 140,o95 P)::(nat_lit 141,o96 P)::(nat_lit 144,o38 P)::(nat_lit 151,o7 P)::(nat_lit 153,Z2 P)::(nat_lit 154,o7 P)::(nat_lit 156,Z3 P)::(nat_lit 157,Z5 P)::(nat_lit 158,o7 P)::(nat_lit 159,Z6 P)::(nat_lit 160,Z7 P)::(nat_lit 163,o38 P)::(nat_lit 170,o7 P)::(nat_lit 172,Z8 P)::(nat_lit 173,o7 P)::(nat_lit 175,Z9 P)::(nat_lit 176,aaa P)::(nat_lit 177,o7 P)::(nat_lit 178,aab P)::(nat_lit 179,aac P)::(nat_lit 182,o38 P)::(nat_lit 189,o7 P)::(nat_lit 191,aae P)::(nat_lit 192,o7 P)::(nat_lit 194,aaf P)::(nat_lit 195,aag P)::(nat_lit 196,o7 P)::(nat_lit 197,aah P)::(nat_lit 198,aai P)::(nat_lit 201,o38 P)::(nat_lit 208,o7 P)::(nat_lit 210,aaj P)::(nat_lit 211,o7 P)::(nat_lit 213,aak P)::(nat_lit 214,aal P)::(nat_lit 215,o7 P)::(nat_lit 216,aam P)::(nat_lit 217,aan P)::(nat_lit 220,o7 P)::(nat_lit 222,aao P)::(nat_lit 223,o7 P)::(nat_lit 225,aap P)::(nat_lit 226,aaq P)::(nat_lit 227,o7 P)::(nat_lit 229,aar P)::(nat_lit 230,o7 P)::(nat_lit 232,aas P)::(nat_lit 233,aat P)::(nat_lit 234,o7 P)::(nat_lit 236,aau P)::(nat_lit 237,o7 P)::(nat_lit 239,aav P)::(nat_lit 240,aaw P)::(nat_lit 241,o7 P)::(nat_lit 243,aax P)::(nat_lit 244,o7 P)::(nat_lit 246,aay P)::(nat_lit 247,aaz P)::(nat_lit 248,o7 P)::(nat_lit 250,aaA P)::(nat_lit 251,o7 P)::(nat_lit 253,aaB P)::(nat_lit 254,aaC P)::(nat_lit 255,o7 P)::(nat_lit 257,aaD P)::(nat_lit 258,o7 P)::(nat_lit 260,aaE P)::(nat_lit 261,aaF P)::(nat_lit 262,o7 P)::(nat_lit 264,aaG P)::(nat_lit 265,o7 P)::(nat_lit 267,aaH P)::(nat_lit 268,aaI P)::(nat_lit 269,o7 P)::(nat_lit 271,aaJ P)::(nat_lit 272,o7 P)::(nat_lit 274,aaK P)::(nat_lit 275,aaL P)::(nat_lit 276,o7 P)::(nat_lit 278,aaM P)::(nat_lit 279,o7 P)::(nat_lit 281,aaN P)::(nat_lit 282,aaO P)::(nat_lit 290,o7 P)::(nat_lit 292,aaP P)::(nat_lit 293,o7 P)::(nat_lit 295,aaQ P)::(nat_lit 296,aaR P)::(nat_lit 297,o7 P)::(nat_lit 299,aaS P)::(nat_lit 300,o7 P)::(nat_lit 302,aaT P)::(nat_lit 303,aaU P)::(nat_lit 304,o7 P)::(nat_lit 306,aaV P)::(nat_lit 307,o7 P)::(nat_lit 309,aaW P)::(nat_lit 310,aaX P)::(nat_lit 311,o7 P)::(nat_lit 313,aaY P)::(nat_lit 314,o7 P)::(nat_lit 316,aaZ P)::(nat_lit 317,aa0 P)::(nat_lit 318,o7 P)::(nat_lit 320,aa1 P)::(nat_lit 321,o7 P)::(nat_lit 323,aa2 P)::(nat_lit 324,aa3 P)::(nat_lit 325,o7 P)::(nat_lit 327,aa4 P)::(nat_lit 328,o7 P)::(nat_lit 330,aa5 P)::(nat_lit 331,aa6 P)::(nat_lit 332,o7 P)::(nat_lit 334,aa7 P)::(nat_lit 335,o7 P)::(nat_lit 337,aa8 P)::(nat_lit 338,aa9 P)::(nat_lit 339,o7 P)::(nat_lit 341,aba P)::(nat_lit 342,o7 P)::(nat_lit 344,abb P)::(nat_lit 345,abc P)::(nat_lit 346,o7 P)::(nat_lit 348,abd P)::(nat_lit 349,o7 P)::(nat_lit 351,abe P)::(nat_lit 352,abf P)::(nat_lit 353,o7 P)::(nat_lit 355,abg P)::(nat_lit 356,o7 P)::(nat_lit 358,abh P)::(nat_lit 359,abi P)::(nat_lit 360,abj P)::(nat_lit 361,abk P)::(nat_lit 362,abl P)::(nat_lit 363,abm P)::(nat_lit 364,abn P)::(nat_lit 374,o7 P)::(nat_lit 376,abo P)::(nat_lit 377,o7 P)::(nat_lit 379,abp P)::(nat_lit 380,abq P)::(nat_lit 381,o7 P)::(nat_lit 383,abr P)::(nat_lit 384,o7 P)::(nat_lit 386,abt P)::(nat_lit 387,abu P)::(nat_lit 388,o7 P)::(nat_lit 390,abv P)::(nat_lit 391,o7 P)::(nat_lit 393,abw P)::(nat_lit 394,abx P)::(nat_lit 395,o7 P)::(nat_lit 397,aby P)::(nat_lit 398,o7 P)::(nat_lit 400,abz P)::(nat_lit 401,abA P)::(nat_lit 402,o7 P)::(nat_lit 404,abB P)::(nat_lit 405,o7 P)::(nat_lit 407,abC P)::(nat_lit 408,abD P)::(nat_lit 409,o7 P)::(nat_lit 411,abE P)::(nat_lit 412,o7 P)::(nat_lit 414,abF P)::(nat_lit 415,abG P)::(nat_lit 416,o7 P)::(nat_lit 418,abH P)::(nat_lit 419,o7 P)::(nat_lit 421,abI P)::(nat_lit 422,abJ P)::(nat_lit 423,abK P)::(nat_lit 424,abL P)::(nat_lit 425,abM P)::(nat_lit 426,abN P)::(nat_lit 427,abO P)::(nat_lit 430,o7 P)::(nat_lit 432,abP P)::(nat_lit 433,o7 P)::(nat_lit 435,abQ P)::(nat_lit 436,abR P)::(nat_lit 444,o7 P)::(nat_lit 446,abS P)::(nat_lit 447,o7 P)::(nat_lit 449,abT P)::(nat_lit 450,abU P)::(nat_lit 451,o7 P)::(nat_lit 453,abV P)::(nat_lit 454,o7 P)::(nat_lit 456,abW P)::(nat_lit 457,abX P)::(nat_lit 458,o7 P)::(nat_lit 460,abY P)::(nat_lit 461,o7 P)::(nat_lit 463,abZ P)::(nat_lit 464,ab0 P)::(nat_lit 465,o7 P)::(nat_lit 467,ab1 P)::(nat_lit 468,o7 P)::(nat_lit 470,ab2 P)::(nat_lit 471,ab3 P)::(nat_lit 472,o7 P)::(nat_lit 475,ab4 P)::(nat_lit 476,ab5 P)::(nat_lit 477,ab6 P)::(nat_lit 478,ab7 P)::(nat_lit 479,ab8 P)::(nat_lit 480,ab9 P)::(nat_lit 481,aca P)::(nat_lit 491,o7 P)::(nat_lit 493,acb P)::(nat_lit 494,o7 P)::(nat_lit 496,acd P)::(nat_lit 497,ace P)::(nat_lit 498,o7 P)::(nat_lit 500,acf P)::(nat_lit 501,o7 P)::(nat_lit 503,acg P)::(nat_lit 504,ach P)::(nat_lit 505,o7 P)::(nat_lit 507,aci P)::(nat_lit 508,o7 P)::(nat_lit 510,acj P)::(nat_lit 511,ack P)::(nat_lit 512,o7 P)::(nat_lit 514,acm P)::(nat_lit 515,o7 P)::(nat_lit 517,acn P)::(nat_lit 518,aco P)::(nat_lit 519,o7 P)::(nat_lit 521,acp P)::(nat_lit 522,o7 P)::(nat_lit 524,acq P)::(nat_lit 525,acr P)::(nat_lit 526,o7 P)::(nat_lit 528,acs P)::(nat_lit 529,o7 P)::(nat_lit 531,acu P)::(nat_lit 532,acv P)::(nat_lit 533,o7 P)::(nat_lit 535,acw P)::(nat_lit 536,o7 P)::(nat_lit 538,acx P)::(nat_lit 539,acy P)::(nat_lit 540,o7 P)::(nat_lit 542,acz P)::(nat_lit 543,o7 P)::(nat_lit 545,acA P)::(nat_lit 546,acB P)::(nat_lit 547,o7 P)::(nat_lit 549,acC P)::(nat_lit 550,o7 P)::(nat_lit 552,acD P)::(nat_lit 553,acE P)::(nat_lit 554,o7 P)::(nat_lit 556,acF P)::(nat_lit 557,o7 P)::(nat_lit 559,acG P)::(nat_lit 560,acH P)::(nat_lit 561,o7 P)::(nat_lit 564,acI P)::(nat_lit 565,acJ P)::(nat_lit 566,o7 P)::(nat_lit 568,acK P)::(nat_lit 569,o7 P)::(nat_lit 571,acL P)::(nat_lit 572,acM P)::(nat_lit 573,o7 P)::(nat_lit 575,acN P)::(nat_lit 576,o7 P)::(nat_lit 578,acO P)::(nat_lit 579,acP P)::(nat_lit 580,o7 P)::(nat_lit 582,acQ P)::(nat_lit 583,o7 P)::(nat_lit 585,acR P)::(nat_lit 586,acS P)::(nat_lit 587,o7 P)::(nat_lit 589,acT P)::(nat_lit 590,o7 P)::(nat_lit 592,acU P)::(nat_lit 593,acV P)::(nat_lit 594,o7 P)::(nat_lit 597,acW P)::(nat_lit 598,acX P)::(nat_lit 599,o7 P)::(nat_lit 602,acY P)::(nat_lit 603,acZ P)::(nat_lit 604,ac0 P)::(nat_lit 605,ac1 P)::(nat_lit 606,ac8 P)::(nat_lit 607,ac2 P)::(nat_lit 608,ac3 P)::(nat_lit 611,o7 P)::(nat_lit 613,ac4 P)::(nat_lit 614,o7 P)::(nat_lit 616,ac5 P)::(nat_lit 617,ac6 P)::(nat_lit 618,ac9 P)::(nat_lit 625,o7 P)::(nat_lit 627,ada P)::(nat_lit 628,o7 P)::(nat_lit 630,adb P)::(nat_lit 631,ade P)::(nat_lit 632,o7 P)::(nat_lit 634,adf P)::(nat_lit 635,o7 P)::(nat_lit 637,adg P)::(nat_lit 638,adh P)::(nat_lit 639,o7 P)::(nat_lit 641,adi P)::(nat_lit 642,o7 P)::(nat_lit 644,adj P)::(nat_lit 645,adk P)::(nat_lit 646,o7 P)::(nat_lit 648,adl P)::(nat_lit 649,o7 P)::(nat_lit 651,adn P)::(nat_lit 652,ado P)::(nat_lit 653,o7 P)::(nat_lit 655,adp P)::(nat_lit 656,o7 P)::(nat_lit 658,adq P)::(nat_lit 659,ads P)::(nat_lit 660,o7 P)::(nat_lit 662,adt P)::(nat_lit 663,o7 P)::(nat_lit 665,adu P)::(nat_lit 666,adv P)::(nat_lit 667,o7 P)::(nat_lit 669,adw P)::(nat_lit 670,o7 P)::(nat_lit 672,adx P)::(nat_lit 673,ady P)::(nat_lit 674,o7 P)::(nat_lit 676,adz P)::(nat_lit 677,o7 P)::(nat_lit 679,adA P)::(nat_lit 680,adB P)::(nat_lit 681,o7 P)::(nat_lit 683,adC P)::(nat_lit 684,o7 P)::(nat_lit 686,adD P)::(nat_lit 687,adE P)::(nat_lit 688,o7 P)::(nat_lit 690,adF P)::(nat_lit 691,o7 P)::(nat_lit 693,adG P)::(nat_lit 694,adH P)::(nat_lit 695,o7 P)::(nat_lit 697,adI P)::(nat_lit 698,o7 P)::(nat_lit 700,adJ P)::(nat_lit 701,adK P)::(nat_lit 702,o7 P)::(nat_lit 704,adL P)::(nat_lit 705,o7 P)::(nat_lit 707,adM P)::(nat_lit 708,adN P)::(nat_lit 709,o7 P)::(nat_lit 711,adO P)::(nat_lit 712,o7 P)::(nat_lit 714,adP P)::(nat_lit 715,adQ P)::(nat_lit 716,o7 P)::(nat_lit 718,adR P)::(nat_lit 719,o7 P)::(nat_lit 721,adS P)::(nat_lit 722,adT P)::(nat_lit 723,o7 P)::(nat_lit 725,adU P)::(nat_lit 726,o7 P)::(nat_lit 728,adV P)::(nat_lit 729,adW P)::(nat_lit 730,o7 P)::(nat_lit 732,adX P)::(nat_lit 733,o7 P)::(nat_lit 735,adY P)::(nat_lit 736,adZ P)::(nat_lit 737,o7 P)::(nat_lit 739,ad0 P)::(nat_lit 740,o7 P)::(nat_lit 742,ad1 P)::(nat_lit 743,ad2 P)::(nat_lit 744,o7 P)::(nat_lit 746,ad3 P)::(nat_lit 747,o7 P)::(nat_lit 749,ad4 P)::(nat_lit 750,ad5 P)::(nat_lit 751,o7 P)::(nat_lit 753,ad6 P)::(nat_lit 754,o7 P)::(nat_lit 756,ad7 P)::(nat_lit 757,ad8 P)::(nat_lit 758,o7 P)::(nat_lit 760,ad9 P)::(nat_lit 761,o7 P)::(nat_lit 763,aea P)::(nat_lit 764,aeb P)::(nat_lit 765,o7 P)::(nat_lit 767,aec P)::(nat_lit 768,o7 P)::(nat_lit 770,aed P)::(nat_lit 771,aee P)::(nat_lit 772,o7 P)::(nat_lit 774,aef P)::(nat_lit 775,o7 P)::(nat_lit 777,aeg P)::(nat_lit 778,aeh P)::(nat_lit 779,o7 P)::(nat_lit 781,aei P)::(nat_lit 782,o7 P)::(nat_lit 784,aej P)::(nat_lit 785,aek P)::(nat_lit 786,ael P)::(nat_lit 787,aem P)::(nat_lit 788,aen P)::(nat_lit 791,o7 P)::(nat_lit 793,aeo P)::(nat_lit 794,o7 P)::(nat_lit 796,aep P)::(nat_lit 797,aeq P)::(nat_lit 798,o7 P)::(nat_lit 800,aer P)::(nat_lit 801,o7 P)::(nat_lit 803,aes P)::(nat_lit 804,aet P)::(nat_lit 805,o7 P)::(nat_lit 807,aeu P)::(nat_lit 808,o7 P)::(nat_lit 810,aev P)::(nat_lit 811,aew P)::(nat_lit 812,o7 P)::(nat_lit 814,aex P)::(nat_lit 815,o7 P)::(nat_lit 817,aey P)::(nat_lit 818,aez P)::(nat_lit 819,o7 P)::(nat_lit 822,aeA P)::(nat_lit 823,aeB P)::(nat_lit 824,o7 P)::(nat_lit 826,aeC P)::(nat_lit 827,o7 P)::(nat_lit 829,aeD P)::(nat_lit 830,aeE P)::(nat_lit 831,o7 P)::(nat_lit 833,aeF P)::(nat_lit 834,o7 P)::(nat_lit 836,aeG P)::(nat_lit 837,aeH P)::(nat_lit 838,o7 P)::(nat_lit 841,aeI P)::(nat_lit 842,aeJ P)::(nat_lit 843,o7 P)::(nat_lit 845,aeK P)::(nat_lit 846,o7 P)::(nat_lit 848,aeL P)::(nat_lit 849,aeM P)::(nat_lit 850,o7 P)::(nat_lit 853,aeN P)::(nat_lit 854,aeO P)::(nat_lit 855,o7 P)::(nat_lit 858,aeP P)::(nat_lit 859,aeQ P)::[]
def hAs:List Addr:=[2,3,15,17,18,20,21,22,29,31,32,34,35,36,38,39,41,42,43,44,45,46,49,56,58,59,61,62,63,64,65,68,75,77,78,80,81,82,83,84,87,94,96,97,99,100,101,102,103,106,113,115,116,118,119,120,121,122,125,132,134,135,137,138,139,140,141,144,151,153,154,156,157,158,159,160,163,170,172,173,175,176,177,178,179,182,189,191,192,194,195,196,197,198,201,208,210,211,213,214,215,216,217,220,222,223,225,226,227,229,230,232,233,234,236,237,239,240,241,243,244,246,247,248,250,251,253,254,255,257,258,260,261,262,264,265,267,268,269,271,272,274,275,276,278,279,281,282,290,292,293,295,296,297,299,300,302,303,304,306,307,309,310,311,313,314,316,317,318,320,321,323,324,325,327,328,330,331,332,334,335,337,338,339,341,342,344,345,346,348,349,351,352,353,355,356,358,359,360,361,362,363,364,374,376,377,379,380,381,383,384,386,387,388,390,391,393,394,395,397,398,400,401,402,404,405,407,408,409,411,412,414,415,416,418,419,421,422,423,424,425,426,427,430,432,433,435,436,444,446,447,449,450,451,453,454,456,457,458,460,461,463,464,465,467,468,470,471,472,475,476,477,478,479,480,481,491,493,494,496,497,498,500,501,503,504,505,507,508,510,511,512,514,515,517,518,519,521,522,524,525,526,528,529,531,532,533,535,536,538,539,540,542,543,545,546,547,549,550,552,553,554,556,557,559,560,561,564,565,566,568,569,571,572,573,575,576,578,579,580,582,583,585,586,587,589,590,592,593,594,597,598,599,602,603,604,605,606,607,608,611,613,614,616,617,618,625,627,628,630,631,632,634,635,637,638,639,641,642,644,645,646,648,649,651,652,653,655,656,658,659,660,662,663,665,666,667,669,670,672,673,674,676,677,679,680,681,683,684,686,687,688,690,691,693,694,695,697,698,700,701,702,704,705,707,708,709,711,712,714,715,716,718,719,721,722,723,725,726,728,729,730,732,733,735,736,737,739,740,742,743,744,746,747,749,750,751,753,754,756,757,758,760,761,763,764,765,767,768,770,771,772,774,775,777,778,779,781,782,784,785,786,787,788,791,793,794,796,797,798,800,801,803,804,805,807,808,810,811,812,814,815,817,818,819,822,823,824,826,827,829,830,831,833,834,836,837,838,841,842,843,845,846,848,849,850,853,854,855,858,859]
theorem qx(P:Params):hAs=(hK P).map (·.1):=rfl
def hQ:Program:={PySem.Challenge.pw_stillheap_k13_whole_never_lost with main:={(PySem.Challenge.pw_stillheap_k13_whole_never_lost).main with body:=[top 0,top 2,top 3,top 4,top 5,top 6,top 7,top 8,top 9,top 10,top 11,top 13,top 14,top 15,top 16,top 17,top 18,top 19,top 20,top 21,top 22,top 23,top 24,top 25,top 26,top 27,top 29,top 31,top 32,top 34,top 36,top 38,top 39,top 41,top 43,top 44,top 45,top 46,top 47,top 48,top 49,top 50,top 51,top 52,top 53]}}
def hLo:List Str:=[]
theorem Y5(w:World):(fencedOpening treeTable PySem.Challenge.pw_stillheap_k13_whole_never_lost w 12594).map (λs=>(s.heap,s.gens,s.drawn,s.toks))=some (boot_heap w.params,#[],boot_drawn,boot_toks):=by kernel_rfl
theorem Y6(w:World):((boot_heap w.params).isNs mainGlobals&&(#[]:Array GenState).size == 0,(boot_heap w.params).objs.size,(boot_heap w.params).nsMap mainGlobals "__annotations__")=(true,11,((.some (.ref 6)):Option Value)):=by kernel_rfl
abbrev hXt(s:Shared):Bool:=xlAt hQ [] s&&recOk (RowW.records (OpenRow.toRowW (OpenLaw.row PySem.Challenge.rw_stillheap_k13_whole_never_lost))) s
noncomputable abbrev hFH(w:World):Heap:=(absHeap (hTf w.params) 860 ⟨[],[],[],0,[],[],false,(List.toArray []),[],0,false,false,false,0,[2000,10,10],false,0,true,[],[],0,false⟩)
noncomputable abbrev hFS(w:World)(os:OsState):Shared:=⟨hFH w,#[],⟨0,0,0,0⟩,1264,os⟩
theorem hK1(w:World)(os:OsState):staticsOk (importedModules (PySem.Challenge.pw_stillheap_k13_whole_never_lost).main.body) (boot_heap w.params) (hFH w)=true:=by kernel_rfl
theorem hK2(w:World)(os:OsState):namesBound PySem.Challenge.pw_stillheap_k13_whole_never_lost (hFH w)=true:=by kernel_rfl
theorem hK3(w:World)(os:OsState):gensDone (hFS w os)=true:=by kernel_rfl
theorem hK4(w:World)(os:OsState):laidKept (boot_heap w.params) (hFH w)=true:=by kernel_rfl
theorem hK5(w:World)(os:OsState):openSeen hQ hLo (importedModules (PySem.Challenge.pw_stillheap_k13_whole_never_lost).main.body) hXt true (hFS w os)=openGood hQ hLo:=by kernel_rfl
theorem hK6(w:World)(os:OsState):Hook.obs (kHook hK hAs qx) (hFS w os)=Hook.val (kHook hK hAs qx) w:=by kernel_rfl
theorem Wf(w:World):(λos:OsState=>((staticsOk (importedModules (PySem.Challenge.pw_stillheap_k13_whole_never_lost).main.body) (boot_heap w.params) (hFH w)&&namesBound PySem.Challenge.pw_stillheap_k13_whole_never_lost (hFH w)&&gensDone (hFS w os)&&laidKept (boot_heap w.params) (hFH w)),
  openSeen hQ hLo (importedModules (PySem.Challenge.pw_stillheap_k13_whole_never_lost).main.body) hXt true (hFS w os),Hook.obs (kHook hK hAs qx) (hFS w os)))=λ_=>(true,openGood hQ hLo,Hook.val (kHook hK hAs qx) w):=by
 funext os
 rw[hK1 w os,hK2 w os,hK3 w os,hK4 w os,hK5 w os,hK6 w os];rfl
theorem Y7:LeftO PySem.Challenge.pw_stillheap_k13_whole_never_lost hQ hLo hXt (Hook.obs (kHook hK hAs qx)) (Hook.val (kHook hK hAs qx)) 12594 :=
 LeftO.of_pieces (H₁:=λP=>absHeap (hTf P) 860 ⟨[],[],[],0,[],[],false,(List.toArray []),[],0,false,false,false,0,[2000,10,10],false,0,true,[],[],0,false⟩) Y5 Y6 ah0 (by rfl) Wf
end
end K13
end
section
namespace L2
open PySem PySem.Spec PyProof.Rows
section
variable{κ:Type}[DecidableEq κ]
noncomputable def mj(kvs:List (κ×V))(k:κ):Option V:=(kvs.find? λkv=>decide (kv.1=k)).map (·.2)
noncomputable def putK(kvs:List (κ×V))(k:κ)(v:V):List (κ×V) :=
  if(kvs.any λkv=>decide (kv.1=k))=true then kvs.map (λkv=>if kv.1=k then(kv.1,v) else kv) else kvs++[(k,v)]
noncomputable def ue(kvs:List (κ×V))(k:κ):List (κ×V):=kvs.filter λkv=>decide (kv.1≠k)
theorem pQ{p:κ×V}{r:List (κ×V)}{k:κ}(e:p.1=k):mj (p::r) k=some p.2:=by simp[mj,aj8,e]
theorem pR{p:κ×V}{r:List (κ×V)}{k:κ}(e:¬p.1=k):mj (p::r) k=mj r k:=by simp[mj,aj8,e]
theorem BV(k:κ):∀ kvs:List (κ×V),(kvs.any λkv=>decide (kv.1=k))=(mj kvs k).isSome
  | []=>rfl
  | p::r=>by
    rw[akk];by_cases e:p.1=k
    · simp only[pQ e,decide_eq_true e,Bool.true_or,Option.isSome_some]
    · rw[pR e,decide_eq_false e,Bool.false_or];exact BV k r
theorem Eh(kvs:List (κ×V))(k:κ)(v:V):(putK kvs k v).length≤kvs.length+1:=by
  unfold putK;split
  · rw[aiI];omega
  · rw[aiR,ajt,List.length_nil];omega
theorem BW{kvs:List (κ×V)}{k:κ}(v:V)(h:mj kvs k=none):putK kvs k v=kvs++[(k,v)]:=by
  unfold putK;rw[BV,h];exact if_neg (by decide)
theorem zh.pD{o:Option V}{u:Option Value}(r:zh o u):o.isSome=u.isSome:=by
  cases o with
  | none=>cases u with
    | none=>rfl
    | some _=>exact(show False from r).elim
  | some _=>cases u with
    | none=>exact(show False from r).elim
    | some _=>rfl
theorem zh.getD{o:Option V}{u:Option Value}{d:V}{d':Value}(r:zh o u)(rd:RelV d d'):RelV (o.getD d) (u.getD d'):=by
  cases o with
  | none=>cases u with
    | none=>exact rd
    | some _=>exact(show False from r).elim
  | some _=>cases u with
    | none=>exact(show False from r).elim
    | some _=>exact r
theorem KV.val{kvs:List (κ×V)}{vs:List (κ×Value)}(r:KV kvs vs)(k:κ):zh (mj kvs k) (valueAt vs k):=by
  unfold KV at r;induction r with
  | nil=>exact True.intro
  | @cons p q ps qs h t ih =>
    obtain⟨h1,h2⟩:=h;by_cases e:p.1=k
    · have e':q.1=k:=h1.symm.trans e
      have b:valueAt (q::qs) k=some q.2:=(by simp[valueAt,aj8,e']);rw[pQ e,b];exact h2
    · have e':¬q.1=k:=λz=>e (h1.trans z)
      have b:valueAt (q::qs) k=valueAt qs k:=(by simp[valueAt,aj8,e']);rw[pR e,b];exact ih
theorem KV.any{kvs:List (κ×V)}{vs:List (κ×Value)}(r:KV kvs vs)(k:κ):(kvs.any λkv=>decide (kv.1=k))=vs.any λkv=>decide (kv.1=k):=by
  unfold KV at r;induction r with
  | nil=>rfl
  | cons h t ih=>rw[akk,akk,ih,h.1]
theorem KV.YJ{kvs:List (κ×V)}{vs:List (κ×Value)}(r:KV kvs vs)(k:κ){y:V}{u:Value}(ry:RelV y u) :
    KV (kvs.map λkv=>if kv.1=k then(kv.1,y) else kv) (vs.map λkv=>if kv.1=k then(kv.1,u) else kv):=by
  unfold KV at r ⊢;induction r with
  | nil=>exact .nil
  | @cons p q ps qs h t ih =>
    rw[aji,aji];refine .cons ?_ ih;obtain⟨h1,h2⟩:=h;by_cases e:p.1=k
    · rw[if_pos e,if_pos (h1.symm.trans e)];exact⟨h1,ry⟩
    · rw[if_neg e,if_neg (λz=>e (h1.trans z))];exact⟨h1,h2⟩
theorem KV.put{kvs:List (κ×V)}{vs:List (κ×Value)}(r:KV kvs vs)(k:κ){y:V}{u:Value}(ry:RelV y u):KV (putK kvs k y) (stored vs k u):=by
  unfold putK stored;rw[r.any k];by_cases e:(vs.any λkv=>decide (kv.1=k))=true
  · rw[if_pos e,if_pos e];exact r.YJ k ry
  · rw[if_neg e,if_neg e];exact Paired.snoc r ⟨rfl,ry⟩
theorem KV.drop{kvs:List (κ×V)}{vs:List (κ×Value)}(r:KV kvs vs)(k:κ):KV (ue kvs k) (without vs k):=by
  unfold KV at r ⊢;unfold ue without;induction r with
  | nil=>exact .nil
  | @cons p q ps qs h t ih =>
    obtain⟨h1,h2⟩:=h;rw[List.filter_cons,List.filter_cons];by_cases e:p.1=k
    · have a:¬decide (p.1≠k)=true:=by simp[e]
      have b:¬decide (q.1≠k)=true:=(by simp[h1.symm.trans e]);rw[if_neg a,if_neg b];exact ih
    · have e':¬q.1=k:=λz=>e (h1.trans z)
      have a:decide (p.1≠k)=true:=(by simp[e]);have b:decide (q.1≠k)=true:=(by simp[e']);rw[if_pos a,if_pos b];exact .cons ⟨h1,h2⟩ ih
theorem KV.keys{kvs:List (κ×V)}{vs:List (κ×Value)}(r:KV kvs vs):kvs.map (·.1)=vs.map (·.1):=by
  unfold KV at r;induction r with
  | nil=>rfl
  | cons h t ih=>rw[aji,aji,ih,h.1]
theorem KV.length{kvs:List (κ×V)}{vs:List (κ×Value)}(r:KV kvs vs):kvs.length=vs.length:=akF r
theorem RH(kvs:List (κ×V))(k:κ):(ue kvs k).length≤kvs.length:=ajA _ _
end
theorem GC{P:Program}{w:World}{k:Key}{u:Value}(r:RelV (kV k) u):(cL P w).is k u=true:=by
  cases k with
  | inl i=>obtain⟨t,e⟩:=(show ∃ t,u=Value.int i t from r);subst e;exact La P w i t
  | inr x=>obtain⟨t,e⟩:=(show ∃ t,u=Value.str x t from r);subst e;exact Lb P w x t
theorem IM{P:Program}{w:World}:∀ {ks:List Key} {us:List Value},Vals (ks.map kV) us→ItemsAre (cL P w) ks us
  | [],_,r=>by rw[ako]at r;cases r;exact .nil
  | k::ks,_,r=>by
    rw[aji]at r;cases r with
    | cons h t=>exact .cons (GC h) (IM t)
noncomputable abbrev KT(H:Hp):List (List Key×V)→List (List Key×Addr×Value)→Prop:=Paired λp q=>p.1=q.1∧H q.2.1=some (.tup (p.1.map kV))∧RelV p.2 q.2.2
theorem KT.val{H:Hp}{kvs:List (List Key×V)}{xs:List (List Key×Addr×Value)}(r:KT H kvs xs)(k:List Key):zh (mj kvs k) ((atKey xs k).map (·.2)):=by
  induction r with
  | nil=>exact True.intro
  | @cons p q ps qs h t ih =>
    obtain⟨h1,_,h2⟩:=h;by_cases e:p.1=k
    · have e':q.1=k:=h1.symm.trans e
      have b:atKey (q::qs) k=some q.2:=(by simp[atKey,aj8,e']);rw[pQ e,b];exact h2
    · have e':¬q.1=k:=λz=>e (h1.trans z)
      have b:atKey (q::qs) k=atKey qs k:=(by simp[atKey,aj8,e']);rw[pR e,b];exact ih
theorem KT.YJ{H:Hp}{kvs:List (List Key×V)}{xs:List (List Key×Addr×Value)}(r:KT H kvs xs)(k:List Key){y:V}{u:Value}(ry:RelV y u) :
    KT H (kvs.map λkv=>if kv.1=k then(kv.1,y) else kv) (xs.map (putAt k u)):=by
  induction r with
  | nil=>exact .nil
  | @cons p q ps qs h t ih =>
    rw[aji,aji];refine .cons ?_ ih;obtain⟨h1,h2,h3⟩:=h;unfold putAt;by_cases e:p.1=k
    · rw[if_pos e,if_pos (h1.symm.trans e)];exact⟨h1,h2,ry⟩
    · rw[if_neg e,if_neg (λz=>e (h1.trans z))];exact⟨h1,h2,h3⟩
theorem KT.put{H:Hp}{kvs:List (List Key×V)}{xs:List (List Key×Addr×Value)}(r:KT H kvs xs)(k:List Key){b:Addr}{y:V}{u:Value}(hb:H b=some (.tup (k.map kV)))(ry:RelV y u) :
    KT H (putK kvs k y) (storedH xs k b u):=by
  have e:(kvs.any λkv=>decide (kv.1=k))=(atKey xs k).isSome:=by
    rw[BV,(r.val k).pD,aj0]
  unfold putK storedH;rw[e];by_cases q:(atKey xs k).isSome=true
  · rw[if_pos q,if_pos q];exact r.YJ k ry
  · rw[if_neg q,if_neg q];exact Paired.snoc r ⟨rfl,hb,ry⟩
theorem KT.keeps{H H':Hp}{kvs:List (List Key×V)}{xs:List (List Key×Addr×Value)}(r:KT H kvs xs)(ht:∀ b ys,H b=some (.tup ys)→H' b=some (.tup ys)):KT H' kvs xs :=
  Paired.WY r λ_ _ z=>⟨z.1,ht _ _ z.2.1,z.2.2⟩
section
variable{P:Program}{w:World}{H:Hp}{h:Heap}{a:Addr}
theorem Vs{u:HO}(ok:HOk P w H h)(e:Rd H a u):fg P w H h a u:=e.ok ok
theorem zj{kvs:List (Key×V)}(ok:HOk P w H h)(e:Rd H a (.dK kvs)):kvs.length≤sizeLine∧(a == sysModules)=false∧∃ vs,KV kvs vs∧h.DictOf (cL P w) a vs :=
  show fg P w H h a (.dK kvs) from Vs ok e
theorem Ts{kvs:List (Key×V)}(ok:HOk P w H h)(e:H a=some (.dK kvs)):kvs.length≤sizeLine∧(a == sysModules)=false∧∃ vs,KV kvs vs∧h.DictOf (cL P w) a vs:=zj ok (.inl e)
theorem Fq{ks:List Key}(ok:HOk P w H h)(e:H a=some (.tup (ks.map kV))):(tupleKind (cL P w)).is h ks a:=by
  obtain⟨_,its,r,o,h1,h2,n,h3⟩:=(show fg P w H h a (.tup (ks.map kV)) from ok a _ e);exact⟨o,its.toArray,n,h1,h2,h3,by simpa using IM r⟩
theorem IC{kvs:List (List Key×V)}(ok:HOk P w H h)(e:Rd H a (.dT kvs)):kvs.length≤sizeLine∧(a == sysModules)=false ∧
    ∃ xs,KT H kvs xs∧h.DictOfH (tupleKind (cL P w)) a xs:=by
  obtain⟨z,y,xs,r,o,es,ep,h1,h2,h3,h4,h5⟩:=(show fg P w H h a (.dT kvs) from Vs ok e);refine⟨z,y,xs,r,o,es,ep,h1,h2,h3,h4,λx hx=>?_,h5⟩;have all:∀ {l:List (List Key×V)} {m:List (List Key×Addr×Value)},KT H l m→∀ x∈m,(tupleKind (cL P w)).is h x.1 x.2.1:=by
    intro l m q;induction q with
    | nil=>intro x hx;exact nomatch hx
    | @cons p q ps qs hq t ih =>
      intro x hx;rcases aiY.mp hx with e|hx
      · subst e
        exact Fq ok (by rw[←hq.1];exact hq.2.1)
      · exact ih x hx
  exact all r x hx
theorem Y8{kvs:List (List Key×V)}(ok:HOk P w H h)(e:H a=some (.dT kvs)):kvs.length≤sizeLine∧(a == sysModules)=false ∧
    ∃ xs,KT H kvs xs∧h.DictOfH (tupleKind (cL P w)) a xs:=IC ok (.inl e)
end
noncomputable def qQ(H:Hp)(a:Addr)(y:V)(r:Option V):Prop :=
  (∃ kvs k,Rd H a (.dK kvs)∧y=kV k∧r=mj kvs k)∨∃ kvs k b,Rd H a (.dT kvs)∧y=.ref b∧H b=some (.tup (k.map kV))∧r=mj kvs k
noncomputable def IP(H:Hp)(a:Addr)(y v:V)(H':Hp):Prop :=
  (∃ kvs k,H a=some (.dK kvs)∧y=kV k∧kvs.length<sizeLine∧H'=upd H a (.dK (putK kvs k v))) ∨
  ∃ kvs k b,H a=some (.dT kvs)∧y=.ref b∧H b=some (.tup (k.map kV))∧kvs.length<sizeLine∧H'=upd H a (.dT (putK kvs k v))
theorem qQ.k{H:Hp}{a:Addr}{kvs:List (Key×V)}{k:Key}(e:H a=some (.dK kvs)):qQ H a (kV k) (mj kvs k):=.inl ⟨kvs,k,.inl e,rfl,rfl⟩
theorem IP.k{H:Hp}{a:Addr}{kvs:List (Key×V)}{k:Key}{v:V}(e:H a=some (.dK kvs))(hl:kvs.length<sizeLine):IP H a (kV k) v (upd H a (.dK (putK kvs k v))):=.inl ⟨kvs,k,e,rfl,hl,rfl⟩
section
variable{X:Cx}{pins:List (Addr×Obj)}{σ:St}{H:Hp}{s:Shared}{a:Addr}{y v:V}{u r:Value}{o:Option V}{A:Around}{E:Value→Shared→Prop}
theorem Inv.big(I:Inv X pins σ H s):sysModules<s.heap.objs.size:=by
  have h:mainGlobals<s.heap.objs.size:=(I.mod.glob.keeps I.bk).lt;exact Nat.lt_trans (by decide) h
theorem Qs{Q:Value→Shared→Prop}(hu:A.units+1<cLine)(I:Inv X pins σ H s)(g:qQ H a y (some v))(ry:RelV y u)(h:∀ w' s',Inv X pins σ H s'→RelV v w'→Q w' s') :
    wpAny (model X.prog X.w) A (getItem (.ref a) u) Q E s:=by
  rcases g with⟨kvs,k,e,ey,l⟩|⟨kvs,k,b,e,ey,eb,l⟩
  · subst ey
    obtain⟨z,hd,vs,rel,dd⟩:=zj I.hok e;obtain⟨w',hw,rw'⟩:=zh.some_of (v:=v) (o:=valueAt vs k) (by rw[l];exact rel.val k);exact wpAny_getItem_of (GC ry) dd.mapOf hw (h w' _ (I.tok _) rw')
  · subst ey
    cases (show u=Value.ref b from ry);obtain⟨z,hd,xs,rel,dd⟩:=IC I.hok e;obtain⟨w',hw,rw'⟩:=zh.some_of (v:=v) (o:=(atKey xs k).map (·.2)) (by rw[l];exact rel.val k);obtain⟨p,hp,hp2⟩:=aiZ.mp hw;refine wpAny_getItem_heap (tupleKind_room_in1 hu) (Fq I.hok eb) dd hp ?_;rw[hp2];exact h w' _ (I.tok _) rw'
theorem ah1{Q:Value→Shared→Prop}(hu:A.units+1<cLine)(I:Inv X pins σ H s)(g:qQ H a y o)(ry:RelV y u)(h:∀ s',Inv X pins σ H s'→Q (.bool o.isSome) s') :
    wpAny (model X.prog X.w) A (compareOp .In u (.ref a)) Q E s:=by
  rcases g with⟨kvs,k,e,ey,l⟩|⟨kvs,k,b,e,ey,eb,l⟩
  · subst ey
    obtain⟨z,hd,vs,rel,dd⟩:=zj I.hok e;refine wpAny_in_of (GC ry) hd dd.mapOf ?_;rw[←(rel.val k).pD,←l];exact h _ (I.tok _)
  · subst ey
    cases (show u=Value.ref b from ry);obtain⟨z,hd,xs,rel,dd⟩:=IC I.hok e;refine wpAny_in_heap (tupleKind_room_in1 hu) (Fq I.hok eb) hd dd ?_;have q:=(rel.val k).pD;rw[aj0]at q;rw[←q,←l];exact h _ (I.tok _)
theorem Uj{Q:Value→Shared→Prop}(hu:A.units+1<cLine)(I:Inv X pins σ H s)(g:qQ H a y o)(ry:RelV y u)(h:∀ s',Inv X pins σ H s'→Q (.bool (!o.isSome)) s') :
    wpAny (model X.prog X.w) A (compareOp .NotIn u (.ref a)) Q E s:=by
  rcases g with⟨kvs,k,e,ey,l⟩|⟨kvs,k,b,e,ey,eb,l⟩
  · subst ey
    obtain⟨z,hd,vs,rel,dd⟩:=zj I.hok e;refine wpAny_notIn_of (GC ry) hd dd.mapOf ?_;rw[←(rel.val k).pD,←l];exact h _ (I.tok _)
  · subst ey
    cases (show u=Value.ref b from ry);obtain⟨z,hd,xs,rel,dd⟩:=IC I.hok e;refine wpAny_notIn_heap (tupleKind_room_in1 hu) (Fq I.hok eb) hd dd ?_;have q:=(rel.val k).pD;rw[aj0]at q;rw[←q,←l];exact h _ (I.tok _)
theorem KA{h':Heap}{t':Nat}{ob:HO}(I:Inv X pins σ H s)(mu:Mut (H a))(hs:Heap.SameBut a s.heap h')(he:∃ q,h'.get? a=some q)(new:fg X.prog X.w (upd H a ob) h' a ob) :
    Inv X pins σ (upd H a ob) {s with heap:=h',toks:=t'} :=
  I.write (x:=a) (e:=a) mu (.inl rfl) (λb q hb z=>(hs.2 b hb).trans z) he new
theorem Sz{P:Program}{w:World}{H':Hp}{h':Heap}{kvs:List (Key×V)}{vs:List (Key×Value)}(z:kvs.length≤sizeLine)(hd:(a == sysModules)=false)(rel:KV kvs vs)(dd:h'.DictOf (cL P w) a vs) :
    fg P w H' h' a (.dK kvs):=⟨z,hd,vs,rel,dd⟩
theorem Qt{H':Hp}{Q:Unit→Shared→Prop}(hu:A.units+1<cLine)(I:Inv X pins σ H s)(g:IP H a y v H')(ry:RelV y u)(rv:RelV v r)(h:∀ s',Inv X pins σ H' s'→Q () s') :
    wpAny (model X.prog X.w) A (setItem (.ref a) u r) Q E s:=by
  rcases g with⟨kvs,k,e,ey,l,eH⟩|⟨kvs,k,b,e,ey,eb,l,eH⟩
  · subst ey eH
    obtain⟨z,hd,vs,rel,dd⟩:=Ts I.hok e;have hz:vs.length≤sizeLine:=(by rw[←rel.length];exact z);have hl:(putK kvs k v).length≤sizeLine:=(by have:=Eh kvs k v;omega);refine wpAny_setItem_pairs (hsz:=hz) (GC ry) dd λh' dd' hs=>h _ ?_;have he:∃ q,h'.get? a=some q:=let ⟨q,_,_,hq,_⟩:=dd';⟨q,hq⟩;exact KA I (by rw[e];exact True.intro) hs he (Sz hl hd (rel.put k rv) dd')
  · subst ey eH
    cases (show u=Value.ref b from ry);obtain⟨z,hd,xs,rel,dd⟩:=Y8 I.hok e;have hz:xs.length≤sizeLine:=(by rw[←akF rel];exact z);have hl:(putK kvs k v).length≤sizeLine:=(by have:=Eh kvs k v;omega);refine wpAny_setItem_heap (hsz:=hz) (tupleKind_room_in1 hu) (Fq I.hok eb) dd λh' dd' hs=>h _ ?_;obtain⟨q,es,ep,hq,h2,h3,h4,_,h5⟩:=dd';refine KA I (by rw[e];exact True.intro) hs ⟨q,hq⟩ ⟨hl,hd,_,(rel.put k eb rv).keeps λc ys ec=>?_,q,es,ep,hq,h2,h3,h4,h5⟩;rw[ag (ay ec e (λz=>nomatch z))];exact ec
end
section
variable{X:Cx}{pins:List (Addr×Obj)}{σ:St}{H:Hp}{s:Shared}{a:Addr}{kvs:List (Key×V)}{k:Key}{u:Value}{A:Around}{E:Value→Shared→Prop}
theorem Y9{v:V}{more:List Value}{Q:Value→Shared→Prop}(I:Inv X pins σ H s)(e:H a=some (.dK kvs))(ry:RelV (kV k) u)(l:mj kvs k=some v)(hm:more=[]∨∃ x,more=[x])
    (h:∀ w' s',Inv X pins σ (upd H a (.dK (ue kvs k))) s'→RelV v w'→Q w' s'):wpAny (model X.prog X.w) A (call (.builtin "dict.pop") (.ref a::u::more)) Q E s:=by
  obtain⟨z,hd,vs,rel,dd⟩:=Ts I.hok e;obtain⟨w',hw,rw'⟩:=zh.some_of (v:=v) (o:=valueAt vs k) (by rw[←l];exact rel.val k);have hp:(keyPart u).isSome=true:=by
    cases k with
    | inl i=>obtain⟨t,q⟩:=(show ∃ t,u=Value.int i t from ry);subst q;rfl
    | inr x=>obtain⟨t,q⟩:=(show ∃ t,u=Value.str x t from ry);subst q;rfl
  have ha:argsOk "dict.pop" ⟨.ref a::u::more,[]⟩:=by
    rcases hm with q|⟨x,q⟩
    · subst q;exact PySem.F.args_dict_pop_2 _ _
    · subst q;exact PySem.F.args_dict_pop_3 _ _ _
  refine call_meetsIn PySem.F.slot_dict_pop dd.typeIs PySem.F.entry_dict_pop ha (meets_dict_pop_there (cL X.prog X.w) a (GC ry) more hm hp)
    ⟨vs,w',dd,by rw[←rel.length];exact z,hw,λh' dd' hs=>h w' _ ?_ rw'⟩
  have he:∃ q,h'.get? a=some q:=let ⟨q,_,_,hq,_⟩:=dd';⟨q,hq⟩;exact KA I (by rw[e];exact True.intro) hs he (Sz (ai5 (RH kvs k) z) hd (rel.drop k) dd')
theorem Za{Q:Value→Shared→Prop}(I:Inv X pins σ H s)(e:Rd H a (.dK kvs))(h:∀ t s',Inv X pins σ H s'→Q (.int kvs.length t) s'):wpAny (model X.prog X.w) A (call (.builtin "len") [.ref a]) Q E s:=by
  obtain⟨z,hd,vs,rel,dd⟩:=zj I.hok e;refine call_len_dict hd dd (by rw[←rel.length];rw[sizeLine_eq]at z;omega) ?_;rw[←rel.length];exact h _ _ (I.tok _)
end
noncomputable def aeR(i:Expr):Prop:=∀ ov iv,subscripted i false ov iv=operate [ov,iv] (getItem ov iv)
theorem Uk{prog:Program}{w:World}{A:Around}{E:Value→Shared→Prop}{s:Shared}{env:Env}{value slice:Expr}{pos:Pos}{T id:String}{Q:Value→Shared→Prop}
    (hl:typeLookup (.type T) "__getitem__" = pure (some (.builtin id))) (hs:aeR slice)
    (h:wpAny (model prog w) A (eval value env) (λo s₁=>wpAny (model prog w) A (eval slice env) (λi s₂=>s₂.TypeIs o T∧wpAny (model prog w) A (getItem o i) Q E s₂) E s₁) E s) :
    wpAny (model prog w) A (eval (.Subscript value slice pos) env) Q E s:=by
  refine Subscript_ (wpAny_mono h (λo s₁ h₁=>wpAny_mono h₁ (λi s₂ h₂=>?_) λ_ _ x=>x) λ_ _ x=>x);obtain⟨hT,h₂⟩:=h₂;unfold subscriptTail;refine wpAny_bind ?_;rw[getitemInPython_of_ne hT.not_modules];refine wpAny_bind (wpAny_specialOf hT hl ?_);have fin:wpAny (model prog w) A (subscripted slice false o i) (λr s₃=>wpAny (model prog w) A (letTemporaryGo value o r >>= λ_=>pure r) Q E s₃) E s₂:=by
    rw[hs o i];exact wpAny_operating (wpAny_mono h₂ (λr s₃ h₃=>wpAny_bind (wpAny_letTemporaryGo (wpAny_pure h₃))) λ_ _ x=>x)
  first
    | exact wpAny_pure (wpAny_bind fin)
    | exact wpAny_bind (wpAny_pure (wpAny_bind fin))
    | exact wpAny_bind fin
theorem Le{X:Cx}{pins:List (Addr×Obj)}{σ:St}{H:Hp}{s:Shared}{a:Addr}{y:V}{o:Option V}(I:Inv X pins σ H s)(g:qQ H a y o):s.TypeIs (.ref a) "dict" := by
  rcases g with⟨kvs,k,e,_,_⟩|⟨kvs,k,b,e,_,_,_⟩
  · obtain⟨_,_,vs,_,dd⟩:=zj I.hok e
    exact dd.typeIs
  · obtain⟨_,_,xs,_,dd⟩:=IC I.hok e
    exact dd.typeIs
noncomputable def Zb(td ty:TE):TE:=λσ H Q=>td σ H λx H1=>ty σ H1 λy H2=>∃ a v,x=.ref a∧qQ H2 a y (some v)∧Q v H2
noncomputable def ah2(ty td:TE):TE:=λσ H Q=>ty σ H λy H1=>td σ H1 λx H2=>∃ a o,x=.ref a∧qQ H2 a y o∧Q (.bl o.isSome) H2
noncomputable def Ul(ty td:TE):TE:=λσ H Q=>ty σ H λy H1=>td σ H1 λx H2=>∃ a o,x=.ref a∧qQ H2 a y o∧Q (.bl (!o.isSome)) H2
noncomputable def Zc(td ty tv:TE):TS:=λD σ H=>tv σ H λv H1=>td σ H1 λx H2=>ty σ H2 λy H3=>∃ a H4,x=.ref a∧IP H3 a y v H4∧D.nx σ H4
section
variable{X:Cx}{o i e value:Expr}{pos pos' afk:Pos}{td ty tv:TE}
theorem qR(hu:X.A.units+1<cLine)(ho:PE X o td)(hi:PE X i ty)(hs:aeR i):PE X (.Subscript o i pos) (Zb td ty):=by
  intro pins s σ H Q I h;refine Uk PySem.F.slot_dict_getitem.lookup hs (thn (ho pins s σ H _ I h) λu s1 ⟨x,H1,I1,rx,q1⟩=>thn (hi pins s1 σ H1 _ I1 q1) λiv s2 ⟨y,H2,I2,ry,a,v,ex,g,q2⟩=>?_);subst ex;obtain rfl:u=Value.ref a:=rx;exact⟨Le I2 g,Qs hu I2 g ry λw' s3 I3 rw'=>⟨v,H2,I3,rw',q2⟩⟩
theorem SA(hu:X.A.units+1<cLine)(hi:PE X i ty)(ho:PE X o td):PC X .In i o (ah2 ty td):=by
  intro pins s σ H Q I h;refine thn (hi pins s σ H _ I h) λiv s1 ⟨y,H1,I1,ry,q1⟩=>thn (ho pins s1 σ H1 _ I1 q1) λu s2 ⟨x,H2,I2,rx,a,ov,ex,g,q2⟩=>?_;subst ex;obtain rfl:u=Value.ref a:=rx;exact ah1 hu I2 g ry λs3 I3=>⟨.bl ov.isSome,H2,I3,rfl,q2⟩
theorem ko(hu:X.A.units+1<cLine)(hi:PE X i ty)(ho:PE X o td):PC X .NotIn i o (Ul ty td):=by
  intro pins s σ H Q I h;refine thn (hi pins s σ H _ I h) λiv s1 ⟨y,H1,I1,ry,q1⟩=>thn (ho pins s1 σ H1 _ I1 q1) λu s2 ⟨x,H2,I2,rx,a,ov,ex,g,q2⟩=>?_;subst ex;obtain rfl:u=Value.ref a:=rx;exact Uj hu I2 g ry λs3 I3=>⟨.bl (!ov.isSome),H2,I3,rfl,q2⟩
theorem t9(hu:X.A.units+1<cLine)(ho:PE X o td)(hi:PE X i ty)(hv:PE X value tv)(hs:swapsWith value (some (.Subscript o i pos')) pos.line X.env=pure false) :
    PS X (.Assign [.Subscript o i pos'] value pos) (Zc td ty tv):=by
  intro pins s σ H D I h;refine wpAny_Assign_Subscript (thn (hv pins s σ H _ I h) λr s1 ⟨v,H1,I1,rv,q1⟩=>thn (ho pins s1 σ H1 _ I1 q1) λu s2 ⟨x,H2,I2,rx,q2⟩=>thn (hi pins s2 σ H2 _ I2 q2) λiv s3 ⟨y,H3,I3,ry,a,H4,ex,g,q3⟩=>?_) hs;subst ex;obtain rfl:u=Value.ref a:=rx;exact Qt hu I3 g ry rv λs4 I4=>⟨σ,H4,I4,q3⟩
end
theorem RI{P:Program}{w:World}{H:Hp}(h:Heap)(hb:sysModules<h.objs.size):fg P w H (h.push {cls:=.type "dict",data:=.dict #[]}) h.objs.size (.dK []) :=
  ⟨ajk _,beq_eq_false_iff_ne.mpr (ai7 (ai6 hb)),[],.nil,Heap.DictOf.new h⟩
noncomputable def Wg:TE:=λ_ H Q=>∀ p,H p=none→Q (.ref p) (upd H p (.dK []))
section
variable{X:Cx}{pos:Pos}
theorem nB:PE X (.Dict [] [] pos) Wg:=λpins s σ H Q I h =>
  wpAny_Dict_empty ⟨.ref s.heap.objs.size,_,I.laid (a:=s.heap.objs.size) (o:=.dK []) (t':=s.toks) (λ_ _ q=>aiL _ q) (aiN _) (RI s.heap I.big),rfl,h _ (I.hok.fresh (aiN _))⟩
end
structure M1(X:Cx)(o:Expr)(m:Str)(apos:Pos)(e:Expr)(zi:Pos):Prop where
  base:attributeBase o m X.env (eval o X.env)=eval o X.env
  few:((backTo zi (starEach [e] X.env)).all (λx=>!x.1)&&(backToKw zi (keywordEach [] X.env)).all (λx=>x.1.isSome)
    && decide (([e]:List Expr).length+([]:List Keyword).length+(if([]:List Keyword).isEmpty then 0 else 1)<30))=true
  line:(apos.endLine == zi.line)=true
  trees:backTo zi (starEach [e] X.env)=[(false,eval e X.env)]
noncomputable def IsD(H:Hp)(a:Addr):Prop:=(∃ kvs,Rd H a (.dK kvs))∨∃ kvs,Rd H a (.dT kvs)
theorem SD{X:Cx}{pins:List (Addr×Obj)}{σ:St}{H:Hp}{s:Shared}{a:Addr}(I:Inv X pins σ H s)(d:IsD H a) :
    s.TypeIs (.ref a) "dict" ∧ (∀ b,Value.ref a=.ref b→∃ ob,s.heap.get? b=some ob∧ob.dict=none)∧(a == sysModules)=false:=by
  rcases d with⟨kvs,e⟩|⟨kvs,e⟩
  · obtain⟨_,hd,vs,_,dd⟩:=zj I.hok e
    refine⟨dd.typeIs,λb q=>?_,hd⟩;cases q;obtain⟨ob,_,_,h1,h2,_⟩:=dd;exact⟨ob,h1,h2.2.1⟩
  · obtain⟨_,hd,xs,_,dd⟩:=IC I.hok e
    refine⟨dd.typeIs,λb q=>?_,hd⟩;cases q;obtain⟨ob,_,_,h1,h2,_⟩:=dd;exact⟨ob,h1,h2.2.1⟩
section
variable{X:Cx}{pins:List (Addr×Obj)}{σ:St}{H:Hp}{s:Shared}{a:Addr}{y d:V}{u r:Value}{o:Option V}{A:Around}{E:Value→Shared→Prop}
theorem Wi{Q:Value→Shared→Prop}(hu:A.units+1<cLine)(I:Inv X pins σ H s)(g:qQ H a y o)(ry:RelV y u)(h:∀ w' s',Inv X pins σ H s'→RelV (o.getD .non) w'→Q w' s') :
    wpAny (model X.prog X.w) A (call (.builtin "dict.get") [.ref a,u]) Q E s:=by
  rcases g with⟨kvs,k,e,ey,l⟩|⟨kvs,k,b,e,ey,eb,l⟩
  · subst ey
    obtain⟨z,hd,vs,rel,dd⟩:=zj I.hok e;refine call_meetsIn PySem.F.slot_dict_get dd.typeIs PySem.F.entry_dict_get (PySem.F.args_dict_get_2 _ _) (meets_dict_get (cL X.prog X.w) a (GC ry) hd) ⟨_,dd.mapOf,h _ _ (I.tok _) ?_⟩;rw[l];exact(rel.val k).getD rfl
  · subst ey
    cases (show u=Value.ref b from ry);obtain⟨z,hd,xs,rel,dd⟩:=IC I.hok e;refine call_meetsIn PySem.F.slot_dict_get dd.typeIs PySem.F.entry_dict_get (PySem.F.args_dict_get_2 _ _) (meetsH_dict_get (tupleKind (cL X.prog X.w)) a b hd) ⟨tupleKind_room_in1 hu,k,xs,Fq I.hok eb,dd,h _ _ (I.tok _) ?_⟩;rw[l];exact(rel.val k).getD rfl
end
noncomputable def Wj(td ty:TE):TE:=λσ H Q=>td σ H λx H1=>∃ a,x=.ref a∧IsD H1 a∧ty σ H1 λy H2=>∃ o,qQ H2 a y o∧Q (o.getD .non) H2
noncomputable def Wl(td ty:TE):TE:=λσ H Q=>td σ H λx H1=>∃ a,x=.ref a∧IsD H1 a∧ty σ H1 λy H2=>∃ kvs k v,H2 a=some (.dK kvs)∧y=kV k∧mj kvs k=some v∧Q v (upd H2 a (.dK (ue kvs k)))
section
variable{X:Cx}{o e f:Expr}{apos zi:Pos}{td ty tx:TE}
theorem RJ(hu:X.A.units+1<cLine)(ho:PE X o td)(he:PE X e ty)(m:M1 X o "get" apos e zi):PE X (.Call (.Attribute o "get" apos) [e] [] zi) (Wj td ty):=by
  intro pins s σ H Q I h;refine wpAny_Call_method m.base m.few m.line PySem.F.plainAttrs_dict PySem.F.slot_dict_get PySem.F.type_dict_get (thn (ho pins s σ H _ I h) λu s1 ⟨x,H1,I1,rx,a,ex,d,q1⟩=>?_);subst ex;obtain rfl:u=Value.ref a:=rx;obtain⟨t1,t2,_⟩:=SD I1 d;refine⟨t1,t2,?_⟩;rw[m.trees];refine aj5 rfl (akr (akA (thn (he pins s1 σ H1 _ I1 q1) λiv s2 ⟨y,H2,I2,ry,ov,g,q2⟩=>akD ?_)));exact Wi hu I2 g ry λw' s3 I3 rw'=>⟨_,H2,I3,rw',q2⟩
theorem Hj(ho:PE X o td)(he:PE X e ty)(m:M1 X o "pop" apos e zi):PE X (.Call (.Attribute o "pop" apos) [e] [] zi) (Wl td ty):=by
  intro pins s σ H Q I h;refine wpAny_Call_method m.base m.few m.line PySem.F.plainAttrs_dict PySem.F.slot_dict_pop PySem.F.type_dict_pop (thn (ho pins s σ H _ I h) λu s1 ⟨x,H1,I1,rx,a,ex,d,q1⟩=>?_);subst ex;obtain rfl:u=Value.ref a:=rx;obtain⟨t1,t2,_⟩:=SD I1 d;refine⟨t1,t2,?_⟩;rw[m.trees];refine aj5 rfl (akr (akA (thn (he pins s1 σ H1 _ I1 q1) λiv s2 ⟨y,H2,I2,ry,kvs,k,v,ea,ey,l,q2⟩=>akD ?_)));subst ey;exact Y9 I2 ea ry l (.inl rfl) λw' s3 I3 rw'=>⟨v,_,I3,rw',q2⟩
end
section
variable{X:Cx}{pins:List (Addr×Obj)}{σ:St}{H:Hp}{s:Shared}{a:Addr}{kvs:List (Key×V)}{A:Around}{E:Value→Shared→Prop}
end
section
variable{X:Cx}{pins:List (Addr×Obj)}{σ:St}{H:Hp}{s:Shared}{a:Addr}{y:V}{u:Value}{A:Around}{E:Value→Shared→Prop}
end
end L2
namespace L2
open PySem PySem.Spec PyProof.Rows
section
variable{X:Cx}
theorem Qu:qq X (.builtin "len") (λxs H Q=>∃ a kvs,xs=[V.ref a]∧H a=some (.dK kvs)∧Q (.int kvs.length) H):=by
  intro pins s σ H xs us Q I r h;obtain⟨a,kvs,rfl,ha,q⟩:=h;obtain⟨u,rfl,ru⟩:=vals1 r;cases ru;exact Za I (.inl ha) λt s' I'=>⟨.int kvs.length,H,I',⟨t,rfl⟩,q⟩
end
end L2
end
section
namespace LX
open PySem PySem.W
noncomputable def eR(c:Value)(od:Option Addr)(fs:Array Value)(sl:Array (Option Value)):Obj:={cls:=c,dict:=od,data:=.fields fs,slots:=sl}
noncomputable def SE(dd:Option Addr)(cd:ClassData)(k0 k1 k2 k3 k5:Option Value):Obj:={cls:=.type "type",dict:=dd,data:=.cls cd,slots:=#[k0,k1,k2,k3,some (.builtin "ValueError.__new__"),k5]}
structure iy(K:Frag)(C:Addr)(cd:ClassData):Prop where
 ob:∃ dd k0 k1 k2 k3 k5,K.lookup C=some (SE dd cd k0 k1 k2 k3 k5)
 del:cd.hasDel=false
 line:∃ r,cd.mro=.ref C::r
 val:cd.mro.contains (.type "ValueError")=true
 bas:cd.mro.contains (.type "BaseException")=true
 obj:cd.mro.contains (.type "object")=true
 atr:cd.mro.contains (.type "AttributeError")=false
 nam:cd.mro.contains (.type "NameError")=false
noncomputable def KR(K:Frag)(C:Addr):Bool:=match K.lookup C with
 | some ⟨.type "type",_,.cls cd,sl⟩=>(match cd.mro,sl.toList with
  | .ref D::_,[_,_,_,_,some (.builtin n),_]=>D == C&&n == "ValueError.__new__" && !cd.hasDel&&cd.mro.contains (.type "ValueError")&&cd.mro.contains (.type "BaseException") &&
    cd.mro.contains (.type "object")&&!cd.mro.contains (.type "AttributeError")&&!cd.mro.contains (.type "NameError")
  | _,_=>false)
 | _=>false
theorem nC{K:Frag}{C:Addr}(e:KR K C=true):∃ cd,clsIn K C=some cd∧iy K C cd:=by
 unfold KR at e;split at e
 ·rename_i dd cd sl ho
  split at e
  ·rename_i D r k0 k1 k2 k3 n k5 hm hs
   simp only[akf,beq_iff_eq,Bool.not_eq_true']at e;obtain⟨⟨⟨⟨⟨⟨⟨rfl,rfl⟩,e1⟩,e2⟩,e3⟩,e4⟩,e5⟩,e6⟩:=e;obtain⟨sl⟩:=sl;simp only at hs;subst hs;exact⟨cd,by unfold clsIn;rw[ho],⟨dd,k0,k1,k2,k3,k5,ho⟩,e1,⟨r,hm⟩,e2,e3,e4,e5,e6⟩
  ·cases e
 ·cases e
section
variable{K:Frag}{C:Addr}{cd:ClassData}{M:Model}{h:Heap}
theorem iy.cls(x:iy K C cd):clsIn K C=some cd:=by
 obtain⟨dd,k0,k1,k2,k3,k5,e⟩:=x.ob;unfold clsIn;rw[e];rfl
theorem iy.BX(x:iy K C cd):cd.mro.isEmpty=false:=by
 obtain⟨r,e⟩:=x.line;rw[e];rfl
theorem iy.sub(x:iy K C cd)(X:K.In h)(v:Value):Looks M h (isSubtype (.ref C) v) (cd.mro.contains v) :=
 looks_mroIn X (by unfold mroIn;rw[x.cls,aj2,if_neg (by rw[x.BX];decide)])
theorem iy.mro(x:iy K C cd)(X:K.In h):Looks M h (mroOf (.ref C)) cd.mro:=(looks_clsIn X x.cls).andThen .now
theorem iy.typ(x:iy K C cd)(X:K.In h):Looks M h (typeOf (.ref C)) (.type "type"):=by
 obtain⟨dd,k0,k1,k2,k3,k5,e⟩:=x.ob;exact(Looks.ld (X _ _ e)).andThen .now
theorem iy.YK(x:iy K C cd)(X:K.In h):Looks M h (isType (.ref C)) true:=by
 obtain⟨dd,k0,k1,k2,k3,k5,e⟩:=x.ob;intro A Q E s k q;unfold isType loadHead;exact wpAny_bind (wpAny_loadPart (k _ _ (X _ _ e)) (wpAny_pure q))
theorem iy.madeBy(x:iy K C cd)(X:K.In h):Looks M h (Bind.madeBy (.ref C)) (some "ValueError.__new__"):=by
 obtain⟨dd,k0,k1,k2,k3,k5,e⟩:=x.ob;obtain⟨r,hr⟩:=x.line;intro A Q E s k q;unfold Bind.madeBy;refine wpAny_bind (x.mro X A _ E s k ?_);rw[hr,List.forIn_cons];refine wpAny_bind (wpAny_bind (wpAny_bind (wpAny_bind (wpAny_loadPart (k _ _ (X _ _ e)) (wpAny_pure ?_)))));exact wpAny_pure (wpAny_pure (wpAny_pure q))
theorem iy.static(x:iy K C cd)(X:K.In h):Looks M h (Bind.staticBase (.ref C)) (.ref C):=by
 obtain⟨r,hr⟩:=x.line;intro A Q E s k q;unfold Bind.staticBase;refine wpAny_bind (x.mro X A _ E s k ?_);rw[hr,List.forIn_cons];exact wpAny_bind (wpAny_bind (wpAny_bind (x.madeBy X A _ E s k (wpAny_pure (wpAny_pure (wpAny_pure q))))))
theorem Um:Manifest.canonical "ValueError.__new__" = Manifest.canonical "BaseException.__new__" := PySem.F.excBase_ValueError.canon
theorem iy.here(x:iy K C cd)(X:K.In h):Looks M h (Bind.madeHere "BaseException.__new__" (.ref C)) () :=
 (x.static X).andThen ((x.madeBy X).andThen (Looks.of_pure (by simp only[akv,Um,bne_self_eq_false,ai9,if_false])))
end
noncomputable def Back(x:Addr)(R:Result→Shared→Prop)(r:Result)(s':Shared):Prop:=match r with
 | .ok (.ret v)=>v=.none∧R (.ok (.ret (.ref x))) s'
 | .ok _=>False
 | .error e=>R (.error e) s'
noncomputable abbrev OE(C t:Addr):Obj:=eR (.ref C) none #[.ref t,.none,.none,.none,.bool false,.none] #[]
noncomputable abbrev wZ(vs:List Value):Obj:={cls:=.type "tuple",data:=.seq vs.toArray}
noncomputable abbrev qS(h:Heap)(C:Addr)(vs:List Value):Heap:=(h.push (wZ vs)).push (OE C h.objs.size)
section
variable{prog:Program}{w:World}{A:Around}{R:Result→Shared→Prop}{h:Heap}{g:Array GenState}{d:Drawn}{t:Nat}{os:OsState}{K:Frag}{C:Addr}{cd:ClassData}{vs:List Value}
theorem RK(x:iy K C cd)(X:K.In h)(hv:vs.length≤sizeLine)(k:R (.ok (.ret (.ref (h.objs.size+1)))) ⟨qS h C vs,g,d,t,os⟩) :
  codeAny (model prog w) A (.call (.builtin "ValueError.__new__") ⟨.ref C::vs,[]⟩) R ⟨h,g,d,t,os⟩:=by
 have F:=PySem.F.excBase_ValueError;have st:=x.static (M:=model prog w) X;have ty:=x.YK (M:=model prog w) X;have mb:=x.madeBy (M:=model prog w) X;have hh:=x.here (M:=model prog w) X;have s1:=x.sub (M:=model prog w) X (.type "ValueError");rw[x.val]at s1;have s2:=x.sub (M:=model prog w) X (.type "AttributeError");rw[x.atr]at s2;have s3:=x.sub (M:=model prog w) X (.type "NameError");rw[x.nam]at s3;refine codeAny_call_builtin_code (Code.quiet_builtin _ F.quiet) ?_;have star:=F.noStar;simp only[checkBuiltinCall,F.newKind,F.newSplit,F.newRow]
 repeat (first|simp only[bne_self_eq_false,ai9,if_false,Bool.not_true]|lk)
 refine codeAny_builtinAt F.entry ?_;unfold Builtin.«BaseException.__new__»;refine wpAt_bind ?_;show wpAt _ _ _ (stack >>= _) _ _ _;refine wpAt_bind (wpAt_stack λp below=>wpAt_of_wpAny ?_);have aiD:=F.ends;wp_walk
 refine wpAt_of_wpAny ?_;rw[F.owner]
 repeat (first|simp only[bne_self_eq_false,ai9,if_false,Bool.not_true]|lk)
 rw[if_neg (by rw[aiQ];omega)];obtain⟨dd,k0,k1,k2,k3,k5,ho⟩:=x.ob
 repeat lk
 refine nd_load (aiL _ (aiL _ (X _ _ ho))) (wpAny_pure (wpAny_pure ?_));rw[x.del,if_neg aiO];refine wpAny_pure (wpAny_pure ?_);show R _ _;rw[akc];exact k
theorem RL{f:Addr}(x:iy K C cd)(X:K.In h)(hi:findIn K (.ref C) "__init__" = some (some (.ref f)))(hf:typeIn K (.ref f)=some (.type "function"))(hv:vs.length≤sizeLine)
  (k:codeAny (model prog w) (A.under (.builtin "type.__call__" ⟨.ref C::vs,[]⟩)) (.call (.ref f) ⟨.ref (h.objs.size+1)::vs,[]⟩) (Back (h.objs.size+1) R) ⟨qS h C vs,g,d,t,os⟩) :
  codeAny (model prog w) A (.call (.ref C) ⟨vs,[]⟩) R ⟨h,g,d,t,os⟩:=by
 obtain⟨dd,k0,k1,k2,k3,k5,ho⟩:=x.ob;have hC:=X _ _ ho;have ht:=x.typ (M:=model prog w) X;refine codeAny_of_tree ?_;show wpAny _ _ (callAny (.ref C) _) _ _ _;refine nd_load hC ?_;show wpAny _ _ (callAny.viaDunder (.ref C) _) _ _ _;unfold callAny.viaDunder;have sp:Looks (model prog w) h (specialOf (.ref C) "__call__") (some (.builtin "type.__call__")):=ht.andThen (Looks.of_pure tc_lookup);refine wpAny_bind (sp.at ?_);dsimp only;rw[tc_bind];refine wpAny_bind (wpAny_pure (wpAny_bind (wpAny_pure ?_)));refine wpAny_pure (a:=Fin.again (.call (.builtin "type.__call__") ⟨.ref C::vs,[]⟩)) (And.intro rfl ?_);refine codeAny_call_builtin_at (Code.quiet_builtin _ (by decide +kernel)) entry_typeCall (check_slot tc_kind tc_split (ht.andThen (Looks.of_pure tc_sub)) (tc_args _ _ _) ?_);unfold Builtin.«type.__call__»;have hm:=x.mro (M:=model prog w) X;have em:=x.BX;have mb:=x.madeBy (M:=model prog w) X
 repeat (first|simp only[em,ai9,if_false]|with_reducible refine wpAny_call ?_|lk)
 refine RK x X hv ?_;have kp:∀ b o,h.get? b=some o→(qS h C vs).get? b=some o:=λb o e=>aiL _ (aiL _ e);have X1:K.In (qS h C vs):=X.keeps kp;have hx:(qS h C vs).get? (h.objs.size+1)=some (OE C h.objs.size):=by heap_get
 have t1:Looks (model prog w) (qS h C vs) (typeOf (.ref (h.objs.size+1))) (.ref C):=(Looks.ld hx).andThen .now;have s1:=x.sub (M:=model prog w) X1 (.ref C);obtain⟨r,hr⟩:=x.line;rw[show cd.mro.contains (.ref C)=true by rw[hr];simp]at s1;have i1:=looks_findIn (M:=model prog w) X1 hi;have b1:=bind_fn (M:=model prog w) X1 (.ref (h.objs.size+1)) hf;unfold isInstance callSpecial? specialOf
 repeat (first|with_reducible refine wpAny_call ?_|lk)
 refine codeAny_mono k λr s' z=>?_;rcases r with e|(v|_|_|_)<;>first|exact z|exact z.elim|skip;obtain⟨rfl,z⟩:=z;exact wpAny_pure (wpAny_pure z)
end
section
variable{prog:Program}{w:World}{A:Around}{E:Value→Shared→Prop}{h:Heap}{g:Array GenState}{d:Drawn}{t:Nat}{os:OsState}{K:Frag}{C e t0:Addr}{cd:ClassData}{vs:List Value}{od:Option Addr}{fs:Array Value}{sl:Array (Option Value)}
theorem Hk{M:Model}(he:h.get? e=some (eR (.ref C) od fs sl)):Looks M h (typeOf (.ref e)) (.ref C):=(Looks.ld he).andThen .now
theorem Lf{Q:Value→Shared→Prop}(x:iy K C cd)(X:K.In h)(he:h.get? e=some (eR (.ref C) od fs sl))(h0:fs[0]?=some (.ref t0))(hv:vs.length≤sizeLine)
  (k:Q .none ⟨(h.push (wZ vs)).update e (Obj.mapFields (·.setIfInBounds 0 (.ref h.objs.size))),g,d,t,os⟩) :
  wpAny (model prog w) A (call (.builtin "ValueError.__init__") (.ref e::vs)) Q E ⟨h,g,d,t,os⟩:=by
 have F:=PySem.F.excBase_ValueError;have ty:=Hk (M:=model prog w) he;have s1:=x.sub (M:=model prog w) X (.type "ValueError");rw[x.val]at s1;obtain⟨dd,k0,k1,k2,k3,k5,ho⟩:=x.ob;have hC:h.get? C=some ⟨.type "type",dd,.cls cd,#[k0,k1,k2,k3,some (.builtin "ValueError.__new__"),k5]⟩:=X _ _ ho;have star:=F.noStar;refine wpAny_call (codeAny_call_builtin F.init.plain F.initEntry ?_);simp only[checkBuiltinCall,F.initKind,F.initSplit,F.initRow];unfold isInstance Bind.checkArgs;refine wpAny_bind (wpAny_bind (ty.at (s1.at ?_)));simp only[ai9,if_false,Bool.not_true];refine wpAny_bind (m:=Bind.printed "*" true _ _) ?_;unfold Bind.printed Bind.receiverType typeNameWhole;rw[if_neg (by decide)];dsimp only;rw[if_neg (by decide)];refine wpAny_bind (ty.at ?_);refine wpAny_bind (wpAny_bind ((looks_clsIn X x.cls).at (wpAny_pure (wpAny_pure ?_))));refine wpAny_bind (m:=if("ValueError" != "*")=true then pure "ValueError" else _) ?_;rw[if_pos star];refine wpAny_pure (wpAny_onRaise ?_);show wpAny _ _ (Bind.check _ _ _ _ []) _ _ _;rw[PyProof.Rows.check_varPos];refine wpAny_pure ?_;unfold Builtin.«BaseException.__init__»;dsimp only;rw[if_neg (by simp)];unfold newTuple Builtin.BaseException.bexcPut;have hsz:0<fs.size:=(ajm.mp h0).1;have e1:=aiL (h:=h) (wZ vs) he;refine wpAny_bind (wpAny_newObj_type ?_ (by show vs.toArray.size≤sizeLine;rw[aiQ];exact hv));refine wpAny_bind (wpAny_bind (wpAny_field (s:=⟨h.push (wZ vs),g,d,t,os⟩) e1 rfl h0 ?_));refine wpAny_bind (wpAny_setField (s:=⟨h.push (wZ vs),g,d,t,os⟩) e1 rfl hsz ?_);exact wpAny_letGo (wpAny_pure k)
end
section
variable{prog:Program}{w:World}{A:Around}{E:Value→Shared→Prop}{s:Shared}{K:Frag}
theorem Uo:findCls K (.type "ValueError") (.type "type") "__init__" = some (.val (.builtin "ValueError.__init__")):=by kernel_rfl
theorem Vt:findIn K (.type "type") "__getattribute__" = some (some (.builtin "type.__getattribute__")):=by kernel_rfl
theorem SF{M:Model}{h:Heap}:Looks M h (typeOf (.type "ValueError")) (.type "type"):=Looks.of_pure (by kernel_rfl)
theorem Wn:subIn K (.type "type") (.type "type")=some true:=by kernel_rfl
theorem Wo{M:Model}{h:Heap}:Looks M h (opaqueClassAbove (.type "ValueError")) none:=Looks.of_pure (by kernel_rfl)
theorem Uq{pl:Sem Bool}{Q:Value×List Value→Shared→Prop}(X:K.In s.heap)(k:Q (.builtin "ValueError.__init__",[]) {s with toks:=s.toks+1}) :
  wpAny (model prog w) A (getMethod (.type "ValueError") "__init__" pl) Q E s:=by
 have sp:Looks (model prog w) s.heap (specialOf (.type "ValueError") "__getattribute__") (some (.builtin "type.__getattribute__")):=SF.andThen (looks_findIn X Vt);unfold getMethod;refine wpAny_bind (sp.here ?_);dsimp only;rw[if_pos canon_tga];refine wpAny_bind (cls_open (hook:=none) X Wo SF Vt (Looks.of_pure (by kernel_rfl)) Wn Uo ?_);refine wpAny_pure ?_;show wpAny _ _ (handedOut _) _ _ _;rw[handedOut_of (by kernel_rfl)];exact wpAny_pure (wpAny_pure k)
end
section
variable{prog:Program}{w:World}{A:Around}{E:Value→Shared→Prop}{s:Shared}{K:Frag}{env:Env}
noncomputable def Qv(K:Frag)(E:Value→Shared→Prop)(v:Value)(s1:Shared):Prop :=
 ∃(ea C:Addr) (cd:ClassData) (od:Option Addr) (fs:Array Value) (sl:Array (Option Value)),v=.ref ea∧s1.heap.get? ea=some (eR (.ref C) od fs sl)∧fs[1]?=some .none∧iy K C cd∧K.In s1.heap∧E (.ref ea) s1
theorem Qw{e:Expr}{pos:Pos}{Q:Flow→Shared→Prop}(hh:A.handled=none)(k:wpAny (model prog w) A (eval e env) (Qv K E) E s) :
  wpAny (model prog w) A (exec (.Raise (some e) none pos) env) Q E s:=by
 show wpAny (model prog w) A (do standAt pos;raiseStmt env (some (do let v ←eval e env;standAt pos;pure v)) none) Q E s
 refine wpAny_bind (wpAny_standAt ?_);unfold raiseStmt;dsimp only;refine wpAny_bind (wpAny_bind (wpAny_mono k (λv s1 q=>wpAny_bind (wpAny_standAt (wpAny_pure ?_))) λ_ _ z=>z));obtain⟨ea,C,cd,od,fs,sl,rfl,he,h1,x,X,hE⟩:=q;obtain⟨hp,g,d,tk,os⟩:=s1;have ty:=Hk (M:=model prog w) he;have nt:Looks (model prog w) hp (isType (.ref ea)) false:=by
  intro A' Q' E' s' kk q;unfold isType loadHead;exact wpAny_bind (wpAny_loadPart (kk _ _ he) (wpAny_pure q))
 have sb:=x.sub (M:=model prog w) X (.type "BaseException");rw[x.bas]at sb;have ct:=x.typ (M:=model prog w) X;have f1:Looks (model prog w) hp (field (.ref ea) 1) .none:=looks_field he 1 h1;refine wpAny_bind (wpAny_pure ?_);dsimp only;refine wpAny_bind (wpAny_holding ?_);unfold excFromValue isExcClass isInstance
 repeat (first|simp only[ai9,if_false,if_true]|lk)
 show wpAny _ _ handled _ _ _;refine wpAny_handled ?_;rw[hh];exact wpAny_throw hE
theorem Lg{ea C D:Addr}{cd cd':ClassData}{od:Option Addr}{fs:Array Value}{sl:Array (Option Value)}{h:Heap}{g:Array GenState}{d:Drawn}{t:Nat}{os:OsState}{Q:Bool→Shared→Prop}{M:Model}(x:iy K C cd)(y:iy K D cd')(X:K.In h)
  (he:h.get? ea=some (eR (.ref C) od fs sl)) (q:Q (cd.mro.contains (.ref D)) ⟨h,g,d,t,os⟩):wpAny M A (excMatches (.ref ea) (.ref D)) Q E ⟨h,g,d,t,os⟩:=by
 have ty:=Hk (M:=M) he;have td:=y.typ (M:=M) X;have ti:=y.YK (M:=M) X;have tn:Looks M h (isSubtype (.type "type") (.type "tuple")) false:=Looks.of_pure tc_notTuple;have yb:=y.sub (M:=M) X (.type "BaseException");rw[y.bas]at yb;have xs:=x.sub (M:=M) X (.ref D);unfold excMatches isInstance isExcClass
 repeat (first|simp only[ai9,if_false,if_true,Bool.not_true]|lk)
 cases hb:cd.mro.contains (.ref D) with
 | true =>
  rw[hb]at q;simp only[if_true]
  repeat lk
  exact q
 | false =>
  rw[hb]at q;simp only[ai9,if_false]
  repeat lk
  exact q
theorem IQ{ea C:Addr}{fs:Array Value}{sl:Array (Option Value)}{h:Heap}(he:h.get? ea=some (eR (.ref C) none fs sl)):InstAt h ea (eR (.ref C) none fs sl) C none:=⟨he,rfl,rfl,True.intro⟩
theorem Qx{ea C dx:Addr}{o:Obj}{fs:Array Value}{sl:Array (Option Value)}{h:Heap}(he:h.get? ea=some (eR (.ref C) (some dx) fs sl))(hd:h.get? dx=some o):InstAt h ea (eR (.ref C) (some dx) fs sl) C (some o):=⟨he,rfl,rfl,hd⟩
theorem Ur:(Manifest.canonical "BaseException.__getattribute__" != "object.__getattribute__")=false:=by decide +kernel
theorem RM{ea C f:Addr}{ox:Obj}{od:Option Obj}{name:Str}{pl:Sem Bool}{Q:Value×List Value→Shared→Prop}(X:K.In s.heap)(I:InstAt s.heap ea ox C od)
  (hg:findIn K (.ref C) "__getattribute__" = some (some (.builtin "BaseException.__getattribute__"))) (hk:findIn K (.ref C) "__getattr__" = some none)
  (hf:findIn K (.ref C) name=some (some (.ref f))) (ht:typeIn K (.ref f)=some (.type "function")) (hs:shadowIn od name=some false) (k:Q (.ref f,[.ref ea]) s) :
  wpAny (model prog w) A (getMethod (.ref ea) name pl) Q E s:=by
 unfold getMethod specialOf;refine wpAny_bind (wpAny_bind (I.type.here ((looks_findIn X hg).here ?_)));dsimp only;rw[Ur,if_neg aiO];refine wpAny_bind (wpAny_bind (I.type.here ((looks_findIn X hk).here ?_)));refine wpAny_bind (wpAny_bind (I.type.here ((looks_findIn X hf).here (wpAny_bind ((looks_typeIn X ht).here ?_)))));rw[if_neg (by decide +kernel)];refine wpAny_bind (wpAny_loadPart I.at_ ?_);have hd:=I.dict;cases e:ox.dict with
 | none=>exact wpAny_bind (wpAny_rule (wpAny_pure k))
 | some dx =>
  cases od with
  | none=>rw[e]at hd;exact hd.elim
  | some o =>
   rw[e]at hd;obtain⟨r,a,b⟩:=aiZ.mp hs;refine wpAny_bind (wpAny_bind (wpAny_loadPart hd ?_));rw[nsLook_of a];refine wpAny_pure ?_;rw[b];exact wpAny_bind (wpAny_rule (wpAny_pure k))
end
structure Rq(K:Frag)(C:Addr):Prop where
 ga:findIn K (.ref C) "__getattribute__" = some (some (.builtin "BaseException.__getattribute__"))
 gt:findIn K (.ref C) "__getattr__" = some none
section
variable{prog:Program}{w:World}{A:Around}{E:Value→Shared→Prop}{h:Heap}{g:Array GenState}{d:Drawn}{t:Nat}{os:OsState}{K:Frag}{C ea:Addr}{cd:ClassData}{ox:Obj}{od:Option Obj}{name:Str}
theorem Qy{tk:Tok}{fill expr:Bool}{r:Builtin.ObjectAttr.Found}{Q:Value→Shared→Prop}(x:iy K C cd)(G:Rq K C)(X:K.In h)(I:InstAt h ea ox C od)(hf:findObj K C od name=some r)
  (k:match r with
   | .value v=>handedIn v=true∧Q v ⟨h,g,d,t,os⟩
   | .bind gg a=>wpAny (model prog w) A.in1 (call gg [a,.ref ea,.ref C]) (λv s'=>handedIn v=true∧Q v s') (λ_ _=>False) ⟨h,g,d,t,os⟩
   | .missing=>False) :
  wpAny (model prog w) A (getAttrBy (.ref ea) (.str name tk) fill expr) Q E ⟨h,g,d,t,os⟩:=by
 have ty:=I.type (M:=model prog w);have l1:=looks_findIn (M:=model prog w) X G.ga;have l2:=looks_findIn (M:=model prog w) X G.gt;have l3:=looks_find (M:=model prog w) X I hf;have sb:=x.sub (M:=model prog w) X (.type "BaseException");rw[x.bas]at sb;have S:=PySem.F.excAttr_ValueError.ga;unfold getAttrBy;refine wpAny_holding (wpAny_bind (ty.at (wpAny_bind (l1.at ?_))));dsimp only;rw[show(onTheHeap (Value.ref C)&&Value.builtin "BaseException.__getattribute__" == Value.builtin "object.__getattribute__")=false by rw[show(Value.builtin "BaseException.__getattribute__" == Value.builtin "object.__getattribute__")=false by decide +kernel,akd],if_neg aiO];unfold getAttrByItsOwn;have hb:Looks (model prog w) h (hookBefore (.ref C)) none:=looks_hook X (by rw[if_pos (by rfl)];exact G.gt);refine wpAny_bind (hb.at (wpAny_bind (wpAny_attempt (wpAny_holding ?_))));unfold callGetattribute;rw[show(expr&&onTheHeap (Value.builtin "BaseException.__getattribute__"))=false from akd _,if_neg aiO];unfold boundAndCalled;rw[S.bind];refine wpAny_bind (wpAny_pure ?_);show wpAny _ _ (call (.builtin "BaseException.__getattribute__") [.ref ea,.str name tk]) _ _ _;refine wpAny_call (codeAny_call_builtin S.plain PySem.F.entry_bexc_ga ?_);refine @check_slot (model prog w) _ _ ⟨h,g,d,t,os⟩ "BaseException.__getattribute__" "BaseException" "__getattribute__" (.ref ea) [.str name tk] [] _ (by decide +kernel) (by decide +kernel) (ty.andThen sb) (PySem.F.args_bexc_ga (.ref ea) (.str name tk)) ?_;unfold Builtin.«object.__getattribute__»;refine wpAny_bind (wpAny_pure (wpAny_bind (wpAny_pure (wpAny_bind (ty.at (wpAny_bind (l3.at ?_)))))));cases r with
 | value v =>
  refine wpAny_pure ?_;show wpAny _ _ (handedOut v) _ _ _;rw[handedOut_of k.1];exact wpAny_pure k.2
 | bind gg a =>
  refine wpAny_bind (wpAny_holding (wpAny_mono k (λv s' z=>wpAny_pure ?_) λ_ _ z=>z.elim));show wpAny _ _ (handedOut v) _ _ _;rw[handedOut_of z.1];exact wpAny_pure z.2
 | missing=>exact k.elim
theorem Qz{Q:Option Value→Shared→Prop}(x:iy K C cd)(G:Rq K C)(X:K.In h)(I:InstAt h ea ox C od)(hc:findIn K (.ref C) "__class__" = some (some (.builtin "object.__class__")))
  (k:Q (some (.ref C)) ⟨h,g,d,t+1,os⟩):wpAny (model prog w) A (getAttr? (.ref ea) "__class__") Q E ⟨h,g,d,t,os⟩:=by
 have hn:specialIn K (.builtin "object.__class__") "__get__" = some (some (.builtin "getset_descriptor.__get__")):=by kernel_rfl
 have ht:takesIn K (.builtin "object.__class__")=some true:=by kernel_rfl
 have hf:findObj K C od "__class__" = some (.bind (.builtin "getset_descriptor.__get__") (.builtin "object.__class__")):=by
  unfold findObj;rw[x.cls,aj2,hc,aj2];dsimp only;rw[hn,aj2];dsimp only;rw[ht];rfl
 have mo:mroIn K C (.type "object")=some true:=by
  unfold mroIn;rw[x.cls,aj2,if_neg (by rw[x.BX];decide),x.obj]
 unfold getAttr? getAttrBy?;refine wpAny_bind (wpAny_mkText (wpAny_bind (wpAny_attempt ?_)));refine Qy (t:=t+1) x G X I hf ?_;refine wpAny_call ?_;refine class_get (s:=⟨h,g,d,t+1,os⟩) (ox:=ox) (od:=od) X I mo ⟨rfl,?_⟩;exact wpAny_pure k
theorem Us(x:iy K C cd)(G:Rq K C)(hc:findIn K (.ref C) "__class__" = some (some (.builtin "object.__class__"))):KitX K (.ref ea) (.ref C) (λh=>∃ ox od,InstAt h ea ox C od) where
 ty:=λ_ _ _ ⟨_,_,I⟩=>I.type
 it:=λ_ _ X _=>x.YK X
 ne:=λh tp dd its n sl X htp=>by
  obtain⟨d2,k0,k1,k2,k3,k5,e⟩:=x.ob;refine ajf.mpr λq=>?_;have e2:C=tp:=Value.ref.inj (beq_iff_eq.mp q);subst e2;have z:=congrArg (λo:Option Obj=>o.map (·.data)) ((X _ _ e).symm.trans htp);simp[SE]at z
 ca:=λ{_ _ _ _ _ s} X ⟨_,_,I⟩ k=>by
  obtain⟨hh,gg,dd,tt,oo⟩:=s;exact Qz x G X I hc k
end
section
variable{prog:Program}{w:World}{A:Around}{E:Value→Shared→Prop}{h:Heap}{g:Array GenState}{d:Drawn}{t:Nat}{os:OsState}{K:Frag}{C CH ea:Addr}{cd:ClassData}{fs:Array Value}{sl:Array (Option Value)}{name:Str}{v:Value}
end
end LX
end
section
namespace LX
open PySem
structure Kept(fr xs:List Addr)(h k:Heap):Prop where
 plain:∀ b o,h.get? b=some o→b∉fr→b∉xs→k.get? b=some o
 frame:∀ b o,h.get? b=some o→b∈fr→b∉xs→∃ sl,k.get? b=some {o with slots:=sl}
theorem Kept.trans{fr xs ys:List Addr}{h k m:Heap}(x:Kept fr xs h k)(y:Kept fr ys k m):Kept fr (xs++ys) h m where
 plain:=λb o e hb hx=>y.plain b o (x.plain b o e hb λz=>hx (ajb _ z)) hb λz=>hx (aiP _ z)
 frame:=λb o e hb hx=>by
  obtain⟨sl,e1⟩:=x.frame b o e hb λz=>hx (ajb _ z);obtain⟨sm,e2⟩:=y.frame b _ e1 hb λz=>hx (aiP _ z);exact⟨sm,e2⟩
theorem Kept.weak{fr xs ys:List Addr}{h k:Heap}(x:Kept fr xs h k)(s:∀ b o,h.get? b=some o→b∈xs→b∈ys):Kept fr ys h k :=
 ⟨λb o e hb hy=>x.plain b o e hb λz=>hy (s b o e z),λb o e hb hy=>x.frame b o e hb λz=>hy (s b o e z)⟩
noncomputable abbrev gN(l:List Env):List Addr:=l.filterMap (·.frame)
section
variable{M:Model}{A:Around}{E:Value→Shared→Prop}{s:Shared}{base:Heap}{env:Env}{outer:List Env}{L e:Addr}{c:Value}{od:Option Addr}{fs:Array Value}{sl:Array (Option Value)}
theorem Mo{l:List Env}(F:s.heap.FunFrames base l)(he:s.heap.get? e=some (eR c od fs sl)):e∉gN l:=λz=>by
 obtain⟨_,o,ho,hn⟩:=F.mem z;rw[he]at ho;cases ho;exact hn fs rfl
theorem GD{h:Heap}{a:Addr}{i:Nat}{x:Value}(ha:h.get? a=some (eR c od fs sl)) :
  (h.update a (Obj.mapFields (·.setIfInBounds i x))).get? a=some (eR c od (fs.setIfInBounds i x) sl):=Heap.get?_update_self _ ha rfl
theorem GF{head:Value}{had:Bool}{Q:Unit→Shared→Prop}(hA:A.frames=some (env::outer))(F:s.heap.FunFrames base (env::outer))(hL:env.frame=some L)
  (he:s.heap.get? e=some (eR c od fs sl)) (h1:1<fs.size)
  (k:∀ m T oc ts,s.heap.objs.size≤T→Kept (gN (env::outer)) [e] s.heap m→m.get? e=some (eR c od (fs.setIfInBounds 1 (.ref T)) sl)→m.get? T=some (eR oc none ts #[])→ts[3]?=some (rawInt L)→Q () {s with heap:=m}) :
  wpAny M A (do let a ←frameOf env;let pl ←entryPlaceOf L had;let b ←EntryCells.newEntry head a .none (rawInt L) .none pl;setField (.ref e) 1 b) Q E s:=by
 have ne:=Mo F he;refine wpAny_bind (wpAny_frameOf_fun hA F hL λg hg=>?_);obtain⟨g0,g1,g2⟩:=hg;refine wpAny_bind (wpAny_entryPlaceOf λpl hp=>?_);unfold EntryCells.newEntry newFields;refine wpAny_bind (wpAny_newObj_type ?_ (hp.sizeOk5 _ _ _ _ _));have e1:g.get? e=some (eR c od fs sl):=(g1 e ne).trans he;have e2:=aiL (h:=g) {cls:=.type "traceback",dict:=none,data:=.fields ([head,.ref L,.none,rawInt L,.none]++(if pl.isEmpty then List.replicate 6 Value.none else pl)).toArray} e1;refine wpAny_setField e2 rfl h1 ?_;have Te:g.objs.size≠e:=akh (aiT e1);refine k _ g.objs.size (.type "traceback") ([head,.ref L,.none,rawInt L,.none]++(if pl.isEmpty then List.replicate 6 Value.none else pl)).toArray (Nat.le_of_eq g0.symm) ⟨λb o q hb hx=>?_,λb o q hb hx=>?_⟩ (GD e2) ?_ ?_
 ·have be:b≠e:=λz=>hx (by rw[z];exact aiJ.mpr rfl)
  rw[ajv _ _ (ai7 be)];exact aiL _ ((g1 b hb).trans q)
 ·have be:b≠e:=λz=>hx (by rw[z];exact aiJ.mpr rfl)
  obtain⟨sm,q2⟩:=g2 b o q;refine⟨sm,?_⟩;rw[ajv _ _ (ai7 be)];exact aiL _ q2
 ·rw[ajv _ _ (ai7 Te)]
  exact ajh g rfl
 ·first|(simp;done)|(rcases hp with rfl|⟨_,_,_,_,_,_,_,rfl⟩<;>simp)
inductive EC(h:Heap)(e:Addr)(fs:Array Value):Option Addr→Prop where
 | none (h1:fs[1]?=some .none):EC h e fs none
 | some {T:Addr} {oc:Value} {ts:Array Value} {d:Option Addr} {sl:Array (Option Value)} (h1:fs[1]?=some (.ref T)) (ne:T≠e) (hT:h.get? T=some (eR oc d ts sl)) (h3:ts[3]?=some .none):EC h e fs (some T)
theorem EC.size{h:Heap}{fs:Array Value}{T:Option Addr}(t:EC h e fs T):1<fs.size:=by
 cases t with
 | none h1=>exact(ajm.mp h1).1
 | some h1=>exact(ajm.mp h1).1
theorem O1{T0:Option Addr}{Q:Unit→Shared→Prop}(hA:A.frames=some (env::outer))(F:s.heap.FunFrames base (env::outer))(hL:env.frame=some L)(he:s.heap.get? e=some (eR c od fs sl))(t:EC s.heap e fs T0)
  (k:∀ m T oc ts,s.heap.objs.size≤T→Kept (gN (env::outer)) (e::T0.toList) s.heap m→m.get? e=some (eR c od (fs.setIfInBounds 1 (.ref T)) sl)→m.get? T=some (eR oc none ts #[])→ts[3]?=some (rawInt L)→Q () {s with heap:=m}) :
  wpAny M A (noteFrame (.ref e) env) Q E s:=by
 unfold noteFrame;simp only[hL];have h1s:=t.size;cases t with
 | none h1 =>
  refine wpAny_bind (wpAny_field he rfl h1 ?_);rw[if_neg (by decide)];exact GF hA F hL he h1s k
 | @some T oc ts d sm h1 ne hT h3 =>
  refine wpAny_bind (wpAny_field he rfl h1 ?_);rw[if_pos (show(Value.ref T != Value.none)=true by simp)];refine wpAny_bind (wpAny_field hT rfl h3 ?_);rw[if_neg (show ¬((Value.none == rawInt L)=true) by simp[rawInt])];have h3s:3<ts.size:=(ajm.mp h3).1;refine wpAny_bind (wpAny_setField hT rfl h3s ?_);have oth:∀ b,b≠T→(s.heap.update T (Obj.mapFields (·.setIfInBounds 3 Value.none))).get? b=s.heap.get? b:=λb hb=>ajv _ _ (ai7 hb);have nT:=Mo F hT;have F1:(s.heap.update T (Obj.mapFields (·.setIfInBounds 3 Value.none))).FunFrames base (env::outer):=F.of_keeps λb o hb hn=>⟨o,(oth b λz=>by rw[z,hT]at hb;cases hb;exact hn ts rfl).trans hb,rfl⟩;refine GF (s:={s with heap:=s.heap.update T (Obj.mapFields (·.setIfInBounds 3 Value.none))}) hA F1 hL ((oth e (ai7 ne)).trans he) h1s λm T' oc' ts' z1 z2 z3 z4 z5=>k m T' oc' ts' ?_ ?_ z3 z4 z5
  ·have zz:(s.heap.update T (Obj.mapFields (·.setIfInBounds 3 Value.none))).objs.size=s.heap.objs.size:=(Heap.SameBut.update (h:=s.heap) (a:=T) (f:=Obj.mapFields (·.setIfInBounds 3 Value.none))).1
   rw[←zz];exact z1
  ·have kk:Kept (gN (env::outer)) [T] s.heap (s.heap.update T (Obj.mapFields (·.setIfInBounds 3 Value.none))) :=
    ⟨λb o q _ hx=>(oth b λz=>hx (by rw[z];exact aiJ.mpr rfl)).trans q,λb o q _ hx=>⟨o.slots,(oth b λz=>hx (by rw[z];exact aiJ.mpr rfl)).trans q⟩⟩
   refine(kk.trans z2).weak λb o _ q=>?_;simp only[aiS,aiJ]at q;simp only[Option.toList_some,aiY,aj3,or_false];exact q.symm
theorem zk{T:Addr}{oc:Value}{ts:Array Value}{d:Option Addr}{sm:Array (Option Value)}{Q:Unit→Shared→Prop}(he:s.heap.get? e=some (eR c od fs sl))(h1:fs[1]?=some (.ref T))(ne:T≠e)
  (hT:s.heap.get? T=some (eR oc d ts sm)) (h3:3<ts.size)
  (k:∀ m,(∀ b o,b≠T→s.heap.get? b=some o→m.get? b=some o)→EC m e fs (some T)→m.get? e=some (eR c od fs sl)→Q () {s with heap:=m}):wpAny M A (setFlight (.ref e) none) Q E s:=by
 unfold setFlight;refine wpAny_bind (wpAny_field he rfl h1 ?_);rw[if_pos (show(Value.ref T != Value.none)=true by simp)];have oth:∀ b o,b≠T→s.heap.get? b=some o→(s.heap.update T (Obj.mapFields (·.setIfInBounds 3 Value.none))).get? b=some o:=λb o hb q=>(ajv _ _ (ai7 hb)).trans q;exact wpAny_setField hT rfl h3 (k _ oth (.some h1 ne (GD hT) (by simp[h3])) (oth e _ (ai7 ne) he))
theorem SG{T0:Option Addr}{Q:Unit→Shared→Prop}(hA:A.frames=some (env::outer))(F:s.heap.FunFrames base (env::outer))(hL:env.frame=some L)(he:s.heap.get? e=some (eR c od fs sl))(t:EC s.heap e fs T0)
  (k:∀ m T fs',s.heap.objs.size≤T→Kept (gN (env::outer)) (e::T0.toList) s.heap m→m.get? e=some (eR c od fs' sl)→fs'[0]?=fs[0]?→EC m e fs' (some T)→Q () {s with heap:=m}) :
  wpAny M A (leaving env (.ref e)) Q E s:=by
 unfold leaving;refine wpAny_bind (O1 hA F hL he t λm T oc ts z1 z2 z3 z4 z5=>?_);have Te:T≠e:=akh (ai0 (aiT he) z1);have f1:(fs.setIfInBounds 1 (Value.ref T))[1]?=some (.ref T):=by
  have:=t.size
  simp[this]
 refine zk (s:={s with heap:=m}) z3 f1 Te z4 (ajm.mp z5).1 λm' q1 q2 q3=>k m' T _ z1 ⟨λb o q hb hx=>?_,λb o q hb hx=>?_⟩ q3 (by simp) q2
 ·exact q1 b o (ai6 (ai0 (aiT q) z1)) (z2.plain b o q hb hx)
 ·obtain⟨sm,r⟩:=z2.frame b o q hb hx
  exact⟨sm,q1 b _ (ai6 (ai0 (aiT q) z1)) r⟩
end
end LX
end
section
namespace L2
open PySem PySem.Spec PyProof.Rows LX
noncomputable def ExP(fresh:Bool)(C e:Addr)(od:Option Addr)(h:Heap):Prop:=∃ fs sl t0,h.get? e=some (eR (.ref C) od fs sl)∧fs[0]?=some (.ref t0)∧(fresh=true→fs[1]?=some .none)
noncomputable def exo(fresh:Bool)(C e:Addr)(od:Option Addr):HO:=.ext (ExP fresh C e od)
section
variable{P:Program}{w:World}{H:Hp}{h:Heap}{b:Bool}{C e:Addr}{od:Option Addr}
theorem OF(x:ExP b C e od h):fg P w H h e (exo b C e od):=by
 refine⟨x,?_,λh1 h2 p k=>?_⟩
 ·obtain⟨fs,sl,t0,z,_⟩:=x
  exact⟨_,z⟩
 ·obtain⟨fs,sl,t0,z,r⟩:=p
  exact⟨fs,sl,t0,k _ z,r⟩
theorem Cj(ok:HOk P w H h)(z:H e=some (exo b C e od)):ExP b C e od h:=(show fg P w H h e (exo b C e od) from ok e _ z).1
end
noncomputable def del(H:Hp)(a:Addr):Hp:=λb=>if b=a then none else H b
theorem Mp{H:Hp}{a:Addr}:del H a a=none:=by unfold del;rw[if_pos rfl]
theorem w8{H:Hp}{a b:Addr}(h:b≠a):del H a b=H b:=by unfold del;rw[if_neg h]
theorem Mq{H:Hp}{a b:Addr}{o:HO}(h:del H a b=some o):H b=some o∧b≠a:=by
 unfold del at h;by_cases q:b=a
 ·rw[if_pos q]at h;cases h
 ·rw[if_neg q]at h;exact⟨h,q⟩
section
variable{P:Program}{w:World}{H H':Hp}{h h':Heap}{a:Addr}
theorem HOk.keeps(ok:HOk P w H h)(k:∀ b u o,H b=some u→h.get? b=some o→h'.get? b=some o):HOk P w H h':=λb u q =>
 (ok b u q).Kx (λc v hc r=>by
  rcases hc with rfl|hc
  ·exact k c u v q r
  ·exact k c _ v hc r) (λ_ z=>z) λ_ _ z=>z
theorem HOk.del(ok:HOk P w H h)(ha:∀ y,H a≠some (.own y))(hb:∀ xs,H a≠some (.tup xs)):HOk P w (del H a) h:=λb u q=>by
 obtain⟨q1,q2⟩:=Mq q;refine(ok b u q1).Kx (λ_ _ _ r=>r) (λc z=>?_) λc xs z=>?_
 ·rw[w8 λe=>ha b (by rw[←e];exact z)];exact z
 ·rw[w8 λe=>hb xs (by rw[←e];exact z)];exact z
theorem HOk.add(ok:HOk P w H h){o:HO}(ha:H a=none)(new:fg P w (upd H a o) h a o):HOk P w (upd H a o) h:=λb u q=>by
 by_cases e:b=a
 ·subst e
  rw[ah]at q;cases q;exact new
 ·rw[ag e]at q
  refine(ok b u q).Kx (λ_ _ _ r=>r) (λc z=>?_) λc xs z=>?_
  ·rw[ag λe=>by rw[e,ha]at z;cases z];exact z
  ·rw[ag λe=>by rw[e,ha]at z;cases z];exact z
end
theorem uW{h k base:Heap}:∀ {l:List Env},h.FunFrames base l→(∀ b∈frs l,∀ o,h.get? b=some o→∃ sl,k.get? b=some {o with slots:=sl})→k.FunFrames base l
 | [],_,_=>True.intro
 | env::r,⟨h1,⟨L,o,e1,e2,e3,e4⟩,h2⟩,q=>by
  have hm:L∈frs (env::r):=ajD.mpr ⟨env,ai1,e1⟩;obtain⟨sl,z⟩:=q L hm o e3;refine⟨h1,⟨L,_,e1,e2,z,e4⟩,uW h2 λb hb o' z'=>q b ?_ o' z'⟩;obtain⟨x,hx,hy⟩:=ajD.mp hb;exact ajD.mpr ⟨x,ai4 _ hx,hy⟩
structure Lies(P:Program)(w:World)(outer:List Env)(H H':Hp)(s:Shared)(ea C T:Addr)(od:Option Addr)(fs:Array Value)(sl:Array (Option Value))(s':Shared):Prop where
 os:s'.os=s.os
 bare:AllBare s'.gens
 un:Un (frs outer) [] H H' s.heap s'.heap
 hok:HOk P w H' s'.heap
 Vu:s.heap.get? ea=none
 ah3:s.heap.get? T=none
 Q8:H' ea=none
 Zd:H' T=none
 at_:s'.heap.get? ea=some (eR (.ref C) od fs sl)
 args:∃ t0,fs[0]?=some (.ref t0)
 trail:EC s'.heap ea fs (some T)
noncomputable def CXE(P:Program)(w:World):CXT:=λouter H s E e s'=>∃ ea C T od fs sl H',e=.ref ea∧Lies P w outer H H' s ea C T od fs sl s'∧E (.ref C) od H'
section
variable{X:Cx}{pins:List (Addr×Obj)}{σ:St}{H H':Hp}{s s':Shared}{ea C T:Addr}{od:Option Addr}{fs:Array Value}{sl:Array (Option Value)}
theorem Lies.frames(I:Inv X pins σ H s)(l:Lies X.prog X.w X.stack H H' s ea C T od fs sl s'):s'.heap.FunFrames X.base X.stack :=
 uW I.stack λb hb o z=>l.un.any z (I.Cf b hb) (by simp)
theorem Lies.on{m:Heap}{t':Nat}(I:Inv X pins σ H s)(l:Lies X.prog X.w X.stack H H' s ea C T od fs sl s')(k:Kept (gN X.stack) [ea,T] s'.heap m) :
  Un (frs X.stack) [] H H' s.heap m∧HOk X.prog X.w H' m:=by
 have fr:∀ b,b∈frs X.stack→H' b=none:=λb hb=>by
  obtain⟨_,o,z,_⟩:=I.stack.mem hb;exact l.un.free b o z (I.Cf b hb) (by simp)
 have ne:∀ b o,s.heap.get? b=some o→b∉[ea,T]:=λb o z q=>by
  rcases aiY.mp q with e|q
  ·rw[e,l.Vu]at z;cases z
  ·rw[aiJ.mp q,l.ah3]at z;cases z
 refine⟨⟨λb o z n hb hx=>?_,λb o z n hb hx=>?_,l.un.free,λb o z hx=>?_,l.un.Gr,l.un.Fu,l.un.Gu⟩,?_⟩
 ·exact k.plain b o (l.un.keep b o z n hb hx) hb (ne b o z)
 ·obtain⟨s1,z1⟩:=l.un.slot b o z n hb hx
  obtain⟨s2,z2⟩:=k.frame b _ z1 hb (ne b o z);exact⟨s2,z2⟩
 ·obtain⟨o1,z1⟩:=l.un.there b o z hx
  by_cases hb:b∈gN X.stack
  ·obtain⟨s2,z2⟩:=k.frame b _ z1 hb (ne b o z)
   exact⟨_,z2⟩
  ·exact⟨_,k.plain b _ z1 hb (ne b o z)⟩
 ·refine l.hok.keeps λb u o z q=>k.plain b o q (λhb=>?_) λhx=>?_
  ·rw[fr b hb]at z;cases z
  ·rcases aiY.mp hx with e|hx
   ·rw[e,l.Q8]at z;cases z
   ·rw[aiJ.mp hx,l.Zd]at z;cases z
end
section
variable{P:Program}{w:World}{K:W.Frag}{mg:Str→Option Value}{base:Heap}{N:List Str}{qual:Str}{scope:Scope}{f:Addr}{cdv:Value}{A:Around}{outer:List Env}{s₀:Shared}{H₀:Hp}{E₀:XK}
noncomputable abbrev cxE(P:Program)(w:World)(K:W.Frag)(mg:Str→Option Value)(base:Heap)(N:List Str)(qual:Str)(scope:Scope)(f:Addr)(cdv:Value)(A:Around)(outer:List Env)(s₀:Shared)(H₀:Hp)(E₀:XK):Cx :=
 Ro (CXE P w) P w K mg base N qual scope f cdv A outer s₀ H₀ E₀
theorem Nm{pins:List (Addr×Obj)}{σ:St}{H H':Hp}{s s':Shared}{ea C T:Addr}{od:Option Addr}{fs:Array Value}{sl:Array (Option Value)}(I:Inv (cxE P w K mg base N qual scope f cdv A outer s₀ H₀ E₀) pins σ H s)
  (l:Lies P w (cxE P w K mg base N qual scope f cdv A outer s₀ H₀ E₀).stack H H' s ea C T od fs sl s') (hE:E₀ (.ref C) od H'):(cxE P w K mg base N qual scope f cdv A outer s₀ H₀ E₀).xe (.ref ea) s':=by
 refine SG I.ok.frames (Lies.frames I l) rfl l.at_ l.trail λm T' fs' z1 z2 z3 z4 z5=>?_;obtain⟨un,hok⟩:=l.on (t':=s'.toks) I z2;have J:Inv (cxE P w K mg base N qual scope f cdv A outer s₀ H₀ E₀) pins σ H' {s' with heap:=m}:=I.Na l.os un hok l.bare (λb z=>absurd z (by simp));have old:∀ b o,s₀.heap.get? b=some o→∃ o',s.heap.get? b=some o':=λb o z=>I.base.there b o z (aj3);have e0:s₀.heap.get? ea=none:=by
  cases q:s₀.heap.get? ea with
  | none=>rfl
  | some o =>
   obtain⟨o',z⟩:=old ea o q;rw[l.Vu]at z;cases z
 have t0:s₀.heap.get? T'=none:=by
  cases q:s₀.heap.get? T' with
  | none=>rfl
  | some o =>
   obtain⟨o1,y1⟩:=old T' o q;obtain⟨o2,y2⟩:=l.un.there T' o1 y1 (by simp);exact absurd (aiT y2) (Nat.not_lt.mpr z1)
 obtain⟨a0,ha⟩:=l.args;exact⟨ea,C,T',od,fs',sl,H',rfl,⟨J.os,J.bare,J.base,J.hok,e0,t0,l.Q8,l.hok.fresh z1,z3,⟨a0,by rw[z4];exact ha⟩,z5⟩,hE⟩
theorem Q9{E:XK}(hE:∀ c od H',E c od H'→E₀ c od H'):Passes (CXE P w) (cxE P w K mg base N qual scope f cdv A outer s₀ H₀ E₀) E:=λpins σ H s e s' I h=>by
 obtain⟨ea,C,T,od,fs,sl,H',rfl,l,q⟩:=h;exact Nm I l (hE _ _ _ q)
theorem leave_new{pins:List (Addr×Obj)}{σ:St}{H:Hp}{s:Shared}{ea C:Addr}{od:Option Addr}(I:Inv (cxE P w K mg base N qual scope f cdv A outer s₀ H₀ E₀) pins σ H s)(h1:H ea=some (exo true C ea od))(h0:H₀ ea=none)
  (hE:E₀ (.ref C) od (del H ea)):(cxE P w K mg base N qual scope f cdv A outer s₀ H₀ E₀).xe (.ref ea) s:=by
 obtain⟨fs,sl,a0,z,ha,hf⟩:=Cj I.hok h1;have frz:∀ b,b∈frs (cxE P w K mg base N qual scope f cdv A outer s₀ H₀ E₀).stack→H b=none:=I.Cf;have e0:s₀.heap.get? ea=none:=by
  cases q:s₀.heap.get? ea with
  | none=>rfl
  | some o =>
   have:=I.base.free ea o q h0 aj3
   rw[h1]at this;cases this
 refine SG I.ok.frames I.stack rfl z (.none (hf rfl)) λm T' fs' z1 z2 z3 z4 z5=>?_;have hd:HOk P w (del H ea) s.heap:=I.hok.del (λy q=>by rw[h1]at q;cases q) λxs q=>by rw[h1]at q;cases q
 have hm:HOk P w (del H ea) m:=hd.keeps λb u o q r=>by
  obtain⟨q1,q2⟩:=Mq q;exact z2.plain b o r (λhb=>by rw[frz b hb]at q1;cases q1) (by simpa using q2)
 have neE:∀ b o,s₀.heap.get? b=some o→b≠ea:=λb o q r=>by rw[r,e0]at q;cases q
 have t0:s₀.heap.get? T'=none:=by
  cases q:s₀.heap.get? T' with
  | none=>rfl
  | some o =>
   obtain⟨o2,y2⟩:=I.base.there T' o q aj3;exact absurd (aiT y2) (Nat.not_lt.mpr z1)
 have neL:∀ b o,s₀.heap.get? b=some o→b∈gN (cxE P w K mg base N qual scope f cdv A outer s₀ H₀ E₀).stack→b∈frs outer:=λb o q hb=>by
  rcases aiY.mp (I.BN b hb) with r|r
  ·exact absurd (aiT q) (by rw[r];exact Nat.not_lt.mpr I.ok.above)
  ·exact r
 have sub:∀ b,b∈frs outer→b∈gN (cxE P w K mg base N qual scope f cdv A outer s₀ H₀ E₀).stack:=λb hb=>by
  obtain⟨x,hx,hy⟩:=ajD.mp hb;exact ajD.mpr ⟨x,ai4 _ hx,hy⟩
 refine⟨ea,C,T',od,fs',sl,del H ea,rfl,⟨I.os,I.bare,⟨λb o q n hb hx=>?_,λb o q n hb hx=>?_,λb o q n hx=>?_,λb o q hx=>?_,λb xs q=>?_,λb o u q=>?_,λb ps q=>?_⟩,hm,e0,t0,Mp,?_,z3,⟨a0,by rw[z4];exact ha⟩,z5⟩,hE⟩
 ·exact z2.plain b o (I.base.keep b o q n hb hx) (λz=>hb (neL b o q z)) (by simpa using neE b o q)
 ·obtain⟨s1,y1⟩:=I.base.slot b o q n hb hx
  obtain⟨s2,y2⟩:=z2.frame b _ y1 (sub b hb) (by simpa using neE b o q);exact⟨s2,y2⟩
 ·rw[w8 (neE b o q)]
  exact I.base.free b o q n hx
 ·obtain⟨o1,y1⟩:=I.base.there b o q hx
  by_cases hb:b∈gN (cxE P w K mg base N qual scope f cdv A outer s₀ H₀ E₀).stack
  ·obtain⟨s2,y2⟩:=z2.frame b _ y1 hb (by simpa using neE b o q)
   exact⟨_,y2⟩
  ·exact⟨_,z2.plain b _ y1 hb (by simpa using neE b o q)⟩
 ·have r:=I.base.Gr b xs q
  rw[w8 λe=>by rw[e,h1]at r;cases r];exact r
 ·have r:=I.base.Fu b o u q
  rw[w8 λe=>by rw[e,h1]at r;cases r];exact r
 ·obtain⟨more,r⟩:=I.base.Gu b ps q
  exact⟨more,by rw[w8 λe=>by rw[e,h1]at r;cases r];exact r⟩
 ·by_cases q:T'=ea
  ·rw[q];exact Mp
  ·rw[w8 q];exact I.hok.fresh z1
end
theorem Fun.okE{P:Program}{w:World}{K:W.Frag}{mg:Str→Option Value}{base:Heap}{x qual:Str}{st:Stmt}{f:Addr}{fd:FuncData}{N ps:List Str}{k:Nat}{sp:Sp}(F:Fun K x qual st f fd)(S:aw N ps (ar st))(len:∀ vs H Q E,sp vs H Q E→vs.length=ps.length)
  (EA:∀(cdv:Value) (A:Around) (outer:List Env) (s:Shared) (H:Hp) (vs:List V) (Q:VK) (E:XK),lB k (A.deeper (envOfC qual (ar st) s.heap.objs.size f cdv))→sp vs H Q E →
   ∃ t,PSs (cxE P w K mg base N qual (ar st) f cdv A outer s H E) (bo st) t∧t {nx:=λ_ H'=>Q .non H',rt:=Q} (start N vs) H):Cg P w K mg base (CXE P w) (k+1) f fd ps sp:=by
 obtain⟨oc,od,kV,doc,pm,an,cdv,ct,osl,rfl,lk,hcd⟩:=F.ex;exact Y1 lk hcd S len λA outer s H vs Q E hr hsp=>EA cdv A outer s H vs Q E hr hsp
noncomputable def Mr(X:Cx)(E:XK):Prop:=∀(pins:List (Addr×Obj)) (σ:St) (H:Hp) (s:Shared) (ea C:Addr) (od:Option Addr),Inv X pins σ H s→H ea=some (exo true C ea od)→X.H₀ ea=none→E (.ref C) od (del H ea)→X.xe (.ref ea) s
theorem lA{P:Program}{w:World}{K:W.Frag}{mg:Str→Option Value}{base:Heap}{N:List Str}{qual:Str}{scope:Scope}{f:Addr}{cdv:Value}{A:Around}{outer:List Env}{s₀:Shared}{H₀:Hp}{E₀:XK} :
  Mr (cxE P w K mg base N qual scope f cdv A outer s₀ H₀ E₀) E₀:=λ_ _ _ _ _ _ _ I h1 h0 q=>leave_new I h1 h0 q
noncomputable def Wq(H₀:Hp)(K:W.Frag)(E:XK)(te:TE):TS:=λ_ σ H=>te σ H λv H1=>∃ ea C od,v=.ref ea∧H1 ea=some (exo true C ea od)∧(∃ cd,iy K C cd)∧H₀ ea=none∧E (.ref C) od (del H1 ea)
section
variable{X:Cx}
theorem gh{e:Expr}{te:TE}{pos:Pos}{E:XK}(hc:X.calm=true)(hx:Mr X E)(he:PE X e te):PS X (.Raise (some e) none pos) (Wq X.H₀ X.K E te):=by
 intro pins s σ H D I h;refine Qw (K:=X.K) (I.ok.hd hc) (thn (he pins s σ H _ I h) λu s1 ⟨v,H1,I1,r,ea,C,od,ev,h1,⟨cd,xc⟩,h0,q⟩=>?_);subst ev;obtain rfl:u=Value.ref ea:=r;obtain⟨fs,sl,a0,z,ha,hf⟩:=Cj I1.hok h1;exact⟨ea,C,cd,od,fs,sl,rfl,z,hf rfl,xc,I1.kIn,hx pins σ H1 s1 ea C od I1 h1 h0 q⟩
noncomputable def gC(CX:CXT)(X:Cx)(EK:St→XK):Prop:=∀(pins:List (Addr×Obj)) (σ:St) (H:Hp) (s:Shared) (e:Value) (s':Shared),Inv X pins σ H s→CX X.stack H s (EK σ) e s'→X.xe e s'
theorem Passes.x{CX:CXT}{E:XK}(h:Passes CX X E):gC CX X (λ_=>E):=λpins σ H s e s' I q=>h pins σ H s e s' I q
noncomputable def Tt(sp:Sp)(dvs:List V)(EK:St→XK)(t:TA):TE:=λσ H Q=>t σ H λvs H1=>sp (vs++dvs) H1 Q (EK σ)
inductive Vv(C:Addr)(m:Str)(x:V)(H:Hp)(k:Prop):Prop where
 | mk (a dx:Addr) (fs:List (Str×V)):x=.ref a→H a=some (.ins C dx fs)→fs.lookup m=none→k→Vv C m x H k
noncomputable def Ra(C:Addr)(m:Str)(sp:Sp)(dvs:List V)(EK:St→XK)(ta:TE)(t:TA):TE:=λσ H Q=>ta σ H λx H1=>Vv C m x H1
 (t σ H1 λvs H2=>sp (x::(vs++dvs)) H2 Q (EK σ))
noncomputable def aeS(C:Addr)(sp:Sp)(EK:St→XK)(t:TA):TE:=λσ H Q=>t σ H λvs H1=>∀ ea,H1 ea=none→sp (.ref ea::vs) (upd H1 ea (exo true C ea none)) (λv H2=>v=.non∧Q (.ref ea) H2) (EK σ)
variable{CX:CXT}{k:Nat}{f C:Addr}{fd:FuncData}{ps:List Str}{sp:Sp}{dvs:List V}{ds:List Value}{EK:St→XK}{x m:Str}{p pos apos:Pos}{e o:Expr}{es:List Expr}{ta:TE}{t:TA}
theorem Vw{pins:List (Addr×Obj)}{σ:St}{H:Hp}{s:Shared}{Q:VK}{us:List Value}{vs:List V}(F:Cg X.prog X.w X.K X.mg X.base CX k f fd ps sp)(hr:lB k X.A)(hb:Binds X.K fd ps ds)(hd:Vals dvs ds)(hx:gC CX X EK)
  (I:Inv X pins σ H s) (r:Vals vs us) (h:sp (vs++dvs) H Q (EK σ)):wpAny (model X.prog X.w) X.A (call (.ref f) us) (EP X pins σ Q) X.xe s:=by
 have r2:Vals (vs++dvs) (us++ds):=r.append hd;have hl:(us++ds).length=ps.length:=by rw[←r2.length];exact F.len _ _ _ _ h
 refine wpAny_call (codeAny_mono (F.run X.A X.stack s H ⟨us,[]⟩ (us++ds) (vs++dvs) Q (EK σ) hr I.Vo (hb s us I.kIn hl) r2 h) λr s' hq=>?_);cases r with
 | error e=>exact hx pins σ H s e s' I hq
 | ok fl =>
  cases fl with
  | ret u=>exact I.after hq
  | _=>exact False.elim hq
theorem O2(F:Cg X.prog X.w X.K X.mg X.base CX k f fd ps sp)(hr:lB k X.A)(hg:Gl X x)(hm:X.mg x=some (.ref f))(hk:PySem.W.keepIn X.K (.ref f)=true)(hb:Binds X.K fd ps ds)(hd:Vals dvs ds)(hx:gC CX X EK)
  (ha:PA X (e::es) t) (hdb:(x == ("__debug__" : Str))=false:=by decide) (he:starEach (e::es) X.env=(false,eval e X.env)::starEach es X.env:=by rfl) (hpl:(backTo pos (starEach es X.env)).any (·.1)=false:=by rfl) :
  PE X (.Call (.Name x p) (e::es) [] pos) (Tt sp dvs EK t):=by
 intro pins s σ H Q I h;refine wpAny_Call_Name_kw (tZ I hg hm ?_ hdb);exact PySem.W.callWith_K (h₀:=X.base) I.ok.mod.kin hk (thn (ha pos pins s σ H _ I h) λus s1 ⟨vs,H1,I1,r,q⟩=>⟨I1.kIn,Vw F hr hb hd hx I1 r q⟩) he hpl
theorem Ut{pl:Sem Bool}(he:PE X o ta)(c:Cls X.K C)(hm:Meth X.K C m f)(F:Cg X.prog X.w X.K X.mg X.base CX k f fd ps sp)(hr:lB k X.A)(hb:Binds X.K fd ps ds)(hd:Vals dvs ds)(hx:gC CX X EK)(ha:PA X (e::es) t)
  (hst:starEach (e::es) X.env=(false,eval e X.env)::starEach es X.env:=by rfl) (hpl:(backTo pos (starEach es X.env)).any (·.1)=false:=by rfl)
  (ht:eval (.Call (.Attribute o m apos) (e::es) [] pos) X.env=(do
   let ov ←eval o X.env
   standAt apos.atName
   let (f,first) ←holding [ov] (getMethod ov m pl)
   callWith pos f first (backTo pos (starEach (e::es) X.env)) (backToKw pos (keywordEach [] X.env))):=by rfl) :
  PE X (.Call (.Attribute o m apos) (e::es) [] pos) (Ra C m sp dvs EK ta t):=by
 intro pins s σ H Q I h;refine PySem.W.methodCall_KW (pl:=pl) (thn (he pins s σ H _ I h) λu s1 ⟨x,H1,I1,rx,a,dx,fs,ex,ea,l,q⟩=>?_) ht;subst ex;obtain rfl:u=Value.ref a:=rx;refine GB I1 ea c hm l ?_;exact PySem.W.callWith_K (first:=[.ref a]) (h₀:=X.base) I.ok.mod.kin hm.kp (thn (ha pos pins s1 σ H1 _ I1 q) λus s2 ⟨vs,H2,I2,r,q2⟩=>⟨I2.kIn,Vw (us:=.ref a::us) (vs:=.ref a::vs) F hr hb hd hx I2 (.cons rfl r) q2⟩) hst hpl
theorem RN{pl:Sem Bool}(he:PE X o ta)(c:Cls X.K C)(hm:Meth X.K C m f)(F:Cg X.prog X.w X.K X.mg X.base CX k f fd ps sp)(hr:lB k X.A)(hb:Binds X.K fd ps ds)(hd:Vals dvs ds)(hx:gC CX X EK)
  (ht:eval (.Call (.Attribute o m apos) [] [] pos) X.env=(do
   let ov ←eval o X.env
   standAt apos.atName
   let (f,first) ←holding [ov] (getMethod ov m pl)
   callWith pos f first (backTo pos (starEach [] X.env)) (backToKw pos (keywordEach [] X.env))):=by rfl) :
  PE X (.Call (.Attribute o m apos) [] [] pos) (Ra C m sp dvs EK ta Ni):=by
 intro pins s σ H Q I h;refine PySem.W.methodCall_KW (pl:=pl) (thn (he pins s σ H _ I h) λu s1 ⟨x,H1,I1,rx,a,dx,fs,ex,ea,l,q⟩=>?_) ht;subst ex;obtain rfl:u=Value.ref a:=rx;refine GB I1 ea c hm l ?_;exact PySem.W.callWith_K0 (first:=[.ref a]) I1.kIn hm.kp (Vw (us:=[.ref a]) (vs:=[.ref a]) F hr hb hd hx I1 (.cons rfl .nil) q)
structure MkX(K:W.Frag)(C f:Addr):Prop where
 cls:∃ cd,iy K C cd
 init:PySem.W.findIn K (.ref C) "__init__" = some (some (.ref f))
 fn:PySem.W.isFn K (.ref f)=true
 kp:PySem.W.keepIn K (.ref C)=true
theorem Uu{pins:List (Addr×Obj)}{σ:St}{H:Hp}{s:Shared}{Q:VK}{us:List Value}{vs:List V}(M:MkX X.K C f)(F:Cg X.prog X.w X.K X.mg X.base CX k f fd ps sp)(hr:lB (k+1) X.A)(hb:Binds X.K fd ps [])(hx:gC CX X EK)(hps:ps.length≤1000)
  (I:Inv X pins σ H s) (r:Vals vs us) (h:∀ ea,H ea=none→sp (.ref ea::vs) (upd H ea (exo true C ea none)) (λv H2=>v=.non∧Q (.ref ea) H2) (EK σ)) :
  wpAny (model X.prog X.w) X.A (call (.ref C) us) (EP X pins σ Q) X.xe s:=by
 have hq:=h (s.heap.objs.size+1) (I.hok.fresh (akg _));obtain⟨cd,xc⟩:=M.cls;have r2:Vals (V.ref (s.heap.objs.size+1)::vs) (Value.ref (s.heap.objs.size+1)::us):=.cons rfl r;have hl:(Value.ref (s.heap.objs.size+1)::us).length=ps.length:=by rw[←r2.length];exact F.len _ _ _ _ hq
 have hz:us.length≤sizeLine:=by rw[ajt]at hl;rw[sizeLine_eq];omega
 have I2:Inv X pins σ (upd H (s.heap.objs.size+1) (exo true C (s.heap.objs.size+1) none)) {s with heap:=qS s.heap C us}:=by
  refine I.laid (t':=s.toks) (λb u q=>aiL _ (aiL _ q)) (akg _) (OF ⟨#[.ref s.heap.objs.size,.none,.none,.none,.bool false,.none],#[],s.heap.objs.size,?_,rfl,λ_=>rfl⟩);show(qS s.heap C us).get? (s.heap.objs.size+1)=some (OE C s.heap.objs.size);heap_get
 obtain⟨hh,g,d,tk,os⟩:=s;refine wpAny_call (RL xc I.kIn M.init (beq_iff_eq.mp M.fn) hz (codeAny_mono (F.run _ X.stack _ _ ⟨Value.ref (hh.objs.size+1)::us,[]⟩ (Value.ref (hh.objs.size+1)::us) _ _ (EK σ) (hr.make C us []) (I2.Vo.make C us [])
  (by have:=hb _ (Value.ref (hh.objs.size+1)::us) I2.kIn (by rw[akj];exact hl);rw[akj]at this;exact this) r2 hq) λr s' hq'=>?_))
 cases r with
 | error e=>exact hx pins σ _ _ e s' I2 hq'
 | ok fl =>
  cases fl with
  | ret u =>
   obtain⟨v,H',I3,rv,ev,q3⟩:=I2.after hq';subst ev;exact⟨rv,⟨V.ref (hh.objs.size+1),H',I3,rfl,q3⟩⟩
  | _=>exact False.elim hq'
theorem Wr(M:MkX X.K C f)(F:Cg X.prog X.w X.K X.mg X.base CX k f fd ps sp)(hr:lB (k+1) X.A)(hg:Gl X x)(hm:X.mg x=some (.ref C))(hb:Binds X.K fd ps [])(hx:gC CX X EK)
  (ha:PA X (e::es) t) (hps:ps.length≤1000:=by decide) (hdb:(x == ("__debug__" : Str))=false:=by decide) (he:starEach (e::es) X.env=(false,eval e X.env)::starEach es X.env:=by rfl) (hpl:(backTo pos (starEach es X.env)).any (·.1)=false:=by rfl) :
  PE X (.Call (.Name x p) (e::es) [] pos) (aeS C sp EK t):=by
 intro pins s σ H Q I h;refine wpAny_Call_Name_kw (tZ I hg hm ?_ hdb);exact PySem.W.callWith_K (h₀:=X.base) I.ok.mod.kin M.kp (thn (ha pos pins s σ H _ I h) λus s1 ⟨vs,H1,I1,r,q⟩=>⟨I1.kIn,Uu M F hr hb hx hps I1 r q⟩) he hpl
end
theorem RO{H:Hp}{a:Addr}{o:HO}(h:H a=some o):upd H a o=H:=by
 funext b
 by_cases e:b=a
 ·rw[e,ah,h]
 ·rw[ag e]
section
variable{X:Cx}
noncomputable def tVe(K:W.Frag)(t:TA):TE:=λσ H Q=>t σ H λvs H1=>∃ ea C od r,vs=.ref ea::r∧r.length≤1000∧H1 ea=some (exo true C ea od)∧(∃ cd,iy K C cd)∧Q .non H1
theorem Ze{p apos pos:Pos}{e:Expr}{es:List Expr}{t:TA}{pl:Sem Bool}(hg:Gl X "ValueError")(hm:X.mg "ValueError" = none)(ha:PA X (e::es) t)
  (hst:starEach (e::es) X.env=(false,eval e X.env)::starEach es X.env:=by rfl) (hpl:(backTo pos (starEach es X.env)).any (·.1)=false:=by rfl)
  (ht:eval (.Call (.Attribute (.Name "ValueError" p) "__init__" apos) (e::es) [] pos) X.env=(do
   let ov ←eval (.Name "ValueError" p) X.env
   standAt apos.atName
   let (f,first) ←holding [ov] (getMethod ov "__init__" pl)
   callWith pos f first (backTo pos (starEach (e::es) X.env)) (backToKw pos (keywordEach [] X.env))):=by rfl) :
  PE X (.Call (.Attribute (.Name "ValueError" p) "__init__" apos) (e::es) [] pos) (tVe X.K t):=by
 intro pins s σ H Q I h;refine PySem.W.methodCall_KW (pl:=pl) (Fn I hg hm PyProof.Rows.Boot.«ValueError» ?_) ht;refine Uq I.kIn ?_;refine PyProof.Rows.callWith_builtin1 (thn (ha pos pins _ σ H _ (I.tok _) h) λus s1 ⟨vs,H1,I1,r,ea,C,od,rr,ev,hl,h1,⟨cd,xc⟩,q⟩=>?_) hst hpl;subst ev;cases r with
 | @cons _ u _ us' r1 r2 =>
 obtain rfl:u=Value.ref ea:=r1;obtain⟨fs,sl,a0,z,ha,hf⟩:=Cj I1.hok h1;have hz:us'.length≤sizeLine:=by rw[←r2.length,sizeLine_eq];omega
 have I2:Inv X pins σ H1 {s1 with heap:=s1.heap.push (wZ us')}:=I1.kept (t':=s1.toks) λb u q=>aiL _ q;have z2:=aiL (h:=s1.heap) (wZ us') z;have hs0:0<fs.size:=(ajm.mp ha).1;have I3:Inv X pins σ (upd H1 ea (exo true C ea od)) {s1 with heap:=(s1.heap.push (wZ us')).update ea (Obj.mapFields (·.setIfInBounds 0 (.ref s1.heap.objs.size)))}:=by
  refine I2.write (x:=ea) (e:=ea) (t':=s1.toks) (by rw[h1];exact True.intro) (.inl rfl) (λb u hb q=>(ajv _ _ (ai7 hb)).trans q) ⟨_,GD z2⟩ (OF ⟨_,_,s1.heap.objs.size,GD z2,by simp[hs0],λ_=>?_⟩)
  have:=hf rfl
  simpa using this
 rw[RO h1]at I3;obtain⟨hh,g,d,tk,os⟩:=s1;exact Lf xc I1.kIn z ha hz ⟨.non,H1,I3,rfl,q⟩
noncomputable abbrev TF:=St→Hp→(Hp→Prop)→Prop
noncomputable def PF(X:Cx)(e:Expr)(t:TF):Prop :=
 ∀(pins:List (Addr×Obj)) (s:Shared) (σ:St) (H:Hp) (Q:Hp→Prop),Inv X pins σ H s→t σ H Q→wpAny (model X.prog X.w) X.A (eval e X.env) (λv s1=>∃ y tk H1,v=.str y tk∧y.length≤2000∧Inv X pins σ H1 s1∧Q H1) X.xe s
noncomputable def PFs(X:Cx)(es:List Expr)(t:TF):Prop :=
 ∀(out:Str) (pins:List (Addr×Obj)) (s:Shared) (σ:St) (H:Hp) (Q:V→Hp→Prop),out.length+2000*es.length≤100000→Inv X pins σ H s→t σ H (λH1=>∀ y,y.length≤100000→Q (.str y) H1) →
  wpAny (model X.prog X.w) X.A (joinParts out (evalEach es X.env)) (EP X pins σ Q) X.xe s
noncomputable def Vx:TF:=λ_ H Q=>Q H
noncomputable def ah4(te:TE):TF:=λσ H Q=>te σ H λv H1=>∃ i,v=.int i∧i.natAbs.log2<1920∧Q H1
noncomputable def Ws(t u:TF):TF:=λσ H Q=>t σ H λH1=>u σ H1 Q
theorem Ms:(100000:Nat)≤sizeLine:=by rw[sizeLine_eq];omega
theorem iA{x j pos}(hl:x.length≤2000:=by decide +kernel):PF X (.Constant (.str x) j pos) Vx:=λ_ _ _ H _ I h=>Calls.Constant_str ⟨_,_,H,rfl,hl,I.tok _,h⟩
theorem mx{e:Expr}{te:TE}{pos:Pos}(he:PE X e te):PF X (.FormattedValue e (-1) none pos) (ah4 te):=by
 intro pins s σ H Q I h;refine FormattedValue_plain (thn (he pins s σ H _ I h) λu s1 ⟨v,H1,I1,r,i,ev,hi,q⟩=>?_);subst ev;obtain⟨t,rfl⟩:=(show ∃ t,u=Value.int i t from r);exact formatField_int_small hi ⟨_,_,H1,rfl,ai5 (int_text_len_1921 hi) (by decide),I1.tok _,q⟩
theorem jG:PFs X [] Vx:=λout pins s σ H Q hl I h =>
 joinParts_nil ⟨.str out,H,I.tok _,⟨_,rfl⟩,h out (by simpa using hl)⟩ (ai5 (by simpa using hl) Ms)
theorem bu{e:Expr}{es:List Expr}{t u:TF}(h1:PF X e t)(h2:PFs X es u):PFs X (e::es) (Ws t u):=by
 intro out pins s σ H Q hl I h;rw[ajt]at hl;refine joinParts_consE (joinParts_cons (thn (h1 pins s σ H _ I h) λv s1 ⟨y,tk,H1,ev,hy,I1,q⟩=>?_));subst ev;have hz:(out++y).length+2000*es.length≤100000:=by rw[strLen_append];omega
 exact⟨ai5 (by omega) Ms,h2 (out++y) pins s1 σ H1 Q hz I1 q⟩
noncomputable def Zf(t:TF):TE:=λσ H Q=>t σ H λH1=>∀ y,y.length≤100000→Q (.str y) H1
theorem jH{e e':Expr}{es:List Expr}{t:TF}{pos:Pos}(h:PFs X (e::e'::es) t)(hl:2000*(e::e'::es).length≤100000:=by decide):PE X (.JoinedStr (e::e'::es) pos) (Zf t) :=
 λpins s σ H Q I q=>JoinedStr_many (h Str.empty pins s σ H Q (by have z:Str.empty.length=0:=rfl;rw[z];omega) I q)
inductive TyX(K:W.Frag)(H:Hp):V→Value→Prop where
 | of {x:V} {t:Value} (h:HH K H x t):TyX K H x t
 | exc {b:Bool} {a C:Addr} {od:Option Addr} {cd:ClassData} (e:H a=some (exo b C a od)) (hd:od=none∨∃ dx fs,od=some dx∧H dx=some (.xd fs)) (x:iy K C cd) (g:Rq K C)
   (hc:PySem.W.findIn K (.ref C) "__class__" = some (some (.builtin "object.__class__"))):TyX K H (.ref a) (.ref C)
noncomputable def aeT:V→Value
 | .ref a=>.ref a
 | .ty n=>.type n
 | _=>.none
theorem RP{P:Program}{w:World}{H:Hp}{h:Heap}{b:Bool}{C a:Addr}{od:Option Addr}(ok:HOk P w H h)(e:H a=some (exo b C a od))(hd:od=none∨∃ dx fs,od=some dx∧H dx=some (.xd fs)) :
  ∃ ox o,PySem.W.InstAt h a ox C o:=by
 obtain⟨fs,sl,a0,z,_⟩:=Cj ok e;rcases hd with rfl|⟨dx,gs,rfl,q⟩
 ·exact⟨_,_,IQ z⟩
 ·obtain⟨mA,n,_⟩:=(show fg P w H h dx (.xd gs) from ok dx _ q)
  obtain⟨o,_,_,ho,_⟩:=n;exact⟨_,_,Qx z ho⟩
noncomputable def aeU(K:W.Frag):List V→Hp→VK→Prop:=λvs H Q=>∃ x c t b,vs=[x,c]∧TyX K H x t∧(∃ a,c=.ref a)∧PySem.W.kitOne K t (aeT c)=some b∧Q (.bl b) H
noncomputable def Tu(K:W.Frag):List V→Hp→VK→Prop:=λvs H Q=>∃ x c t b,vs=[x,c]∧TyX K H x t∧(∃ n,c=.ty n)∧PySem.W.kitOne K t (aeT c)=some b∧Q (.bl b) H
theorem O3{pins:List (Addr×Obj)}{s:Shared}{σ:St}{H:Hp}{x:V}{u c t:Value}{b:Bool}{Q:VK}(I:Inv X pins σ H s)(rx:RelV x u)(ty:TyX X.K H x t)(e:PySem.W.kitOne X.K t c=some b)(q:Q (.bl b) H) :
  wpAny (model X.prog X.w) X.A (call (.builtin "isinstance") [u,c]) (EP X pins σ Q) X.xe s:=by
 have fin:∀ tk,EP X pins σ Q (.bool b) {s with toks:=tk}:=λtk=>⟨.bl b,H,I.tok tk,rfl,q⟩;cases ty with
 | of h=>exact Qp I rx h e fin
 | exc ea hd xc g hc =>
  cases (show u=Value.ref _ from rx);obtain⟨ox,o,J⟩:=RP I.hok ea hd;exact PySem.W.kia_one (Us xc g hc) I.kIn ⟨ox,o,J⟩ e (λz=>nomatch z) fin
theorem RQ:qq X (.builtin "isinstance") (aeU X.K):=by
 rintro pins s σ H xs us Q I r ⟨x,c,t,b,rfl,ty,⟨a,rfl⟩,e,q⟩;obtain⟨u,v,rfl,ru,rv⟩:=vals2 r;cases (show v=Value.ref a from rv);exact O3 I ru ty e q
theorem QA:qq X (.builtin "isinstance") (Tu X.K):=by
 rintro pins s σ H xs us Q I r ⟨x,c,t,b,rfl,ty,⟨n,rfl⟩,e,q⟩;obtain⟨u,v,rfl,ru,rv⟩:=vals2 r;cases (show v=Value.type n from rv);exact O3 I ru ty e q
end
noncomputable abbrev Cx.KS(X:Cx)(pins:List (Addr×Obj))(E:Value→Shared→Prop):Cx:={X with xe:=E,pn:=X.pn++pins}
noncomputable abbrev Cx.uf(X:Cx)(ea:Addr):Cx:={X with A:=X.A.mark (some (.ref ea)),calm:=false,xe:=λ_ _=>False}
section
variable{X:Cx}{pins:List (Addr×Obj)}{σ:St}{H:Hp}{s:Shared}{E:Value→Shared→Prop}{ea:Addr}
theorem Inv.KS(I:Inv X pins σ H s)(E:Value→Shared→Prop):Inv (X.KS pins E) [] σ H s :=
 ⟨⟨I.ok.mod,I.ok.kind,I.ok.glob,I.ok.blt,I.ok.above,I.ok.inj,I.ok.has,I.ok.cab,I.ok.hd,I.ok.frames,I.ok.stk,I.ok.exf,I.ok.bs,I.ok.bsz,I.ok.M8,I.ok.OS,I.ok.Ce,I.ok.frf⟩,
  I.os,I.bare,I.base,I.loc,I.cell,I.free,I.m7,λp hp=>I.pin p (by simpa using hp),I.hok,I.len⟩
theorem Inv.Ck{M9:List (Addr×Obj)}(I:Inv (X.KS pins E) M9 σ H s):Inv X pins σ H s :=
 ⟨⟨I.ok.mod,I.ok.kind,I.ok.glob,I.ok.blt,I.ok.above,I.ok.inj,I.ok.has,I.ok.cab,I.ok.hd,I.ok.frames,I.ok.stk,I.ok.exf,I.ok.bs,I.ok.bsz,I.ok.M8,I.ok.OS,I.ok.Ce,I.ok.frf⟩,
  I.os,I.bare,I.base,I.loc,I.cell,I.free,I.m7,λp hp=>I.pin p (ajb _ hp),I.hok,I.len⟩
theorem Inv.uf(I:Inv X pins σ H s)(ea:Addr):Inv (X.uf ea) pins σ H s :=
 ⟨⟨I.ok.mod,I.ok.kind,I.ok.glob,I.ok.blt,I.ok.above,I.ok.inj,I.ok.has,I.ok.cab,(λz=>nomatch z),I.ok.frames,I.ok.stk,I.ok.exf,I.ok.bs,I.ok.bsz,I.ok.M8,I.ok.OS,I.ok.Ce,I.ok.frf⟩,
  I.os,I.bare,I.base,I.loc,I.cell,I.free,I.m7,I.pin,I.hok,I.len⟩
theorem Inv.uncaught{Y:Cx}(I:Inv (Y.uf ea) pins σ H s)(ok:Y.Ok):Inv Y pins σ H s:=⟨ok,I.os,I.bare,I.base,I.loc,I.cell,I.free,I.m7,I.pin,I.hok,I.len⟩
theorem Inv.Zg{o:HO}{c:Value}{od:Option Addr}{fs:Array Value}{sl:Array (Option Value)}(I:Inv X pins σ H s)(hn:H ea=none)(h0:X.s₀.heap.get? ea=none)(hr:s.heap.get? ea=some (eR c od fs sl))
  (hp:∀ p∈X.pn++pins,p.1≠ea) (new:fg X.prog X.w (upd H ea o) s.heap ea o):Inv X pins σ (upd H ea o) s:=by
 have ne:∀ b u,H b=some u→b≠ea:=λb u q e=>by rw[e,hn]at q;cases q
 refine⟨I.ok,I.os,I.bare,⟨I.base.keep,I.base.slot,λb u q n hx=>?_,I.base.there,λb xs q=>?_,λb u v q=>?_,λb ps q=>?_⟩,I.loc,I.cell,?_,λx c' q=>?_,λp hq=>?_,I.hok.add hn new,I.len⟩
 ·rw[ag λe=>by rw[e,h0]at q;cases q]
  exact I.base.free b u q n hx
 ·have r:=I.base.Gr b xs q
  rw[ag (ne b _ r)];exact r
 ·have r:=I.base.Fu b u v q
  rw[ag (ne b _ r)];exact r
 ·obtain⟨more,r⟩:=I.base.Gu b ps q
  exact⟨more,by rw[ag (ne b _ r)];exact r⟩
 ·rw[ag λe=>?_]
  ·exact I.free
  ·obtain⟨m,⟨oL,es,ep,ho,hd,_⟩,_⟩:=I.loc
   rw[e,hr]at ho;cases ho;cases hd
 ·rw[ag λe=>?_]
  ·exact I.m7 x c' q
  ·obtain⟨v,oc,ho,hd⟩:=I.cell x c' q
   rw[e,hr]at ho;cases ho;cases hd
 ·obtain⟨e,n,z⟩:=I.pin p hq
  exact⟨e,by rw[ag (hp p hq)];exact n,z⟩
end
noncomputable def O4(i:Nat)(D:Ends):Ends:={nx:=λσ H=>D.nx (σ.set i none) H,rt:=D.rt,bk:=λσ H=>D.bk (σ.set i none) H,ct:=λσ H=>D.ct (σ.set i none) H}
noncomputable def Tv(K:W.Frag)(Dc:Addr)(i:Nat)(ts:TS)(D:Ends):St→XK:=λσ c od H=>∃ C cd,c=.ref C∧iy K C cd∧cd.mro.contains (.ref Dc)=true∧∀ ea,H ea=none→ts (O4 i D) (σ.set i (some (.ref ea))) (upd H ea (exo false C ea od))
noncomputable def ah5(K:W.Frag)(Dc:Addr)(i:Nat)(tb:(St→XK)→TS)(ts:TS):TS:=λD σ H=>tb (Tv K Dc i ts D) D σ H
section
variable{X:Cx}
theorem RR{pins:List (Addr×Obj)}{σ:St}{H:Hp}{s:Shared}{E:Value→Shared→Prop}{n:Str}{i:Nat}{pos:Pos}{Q:Unit→Shared→Prop}(I:Inv X pins σ H s)(hN:X.N.Nodup)(hi:X.N[i]?=some n)(hx:X.env.scope.names.lookup n=some .local)
  (k:∀ s',Inv X pins (σ.set i none) H s'→Q () s'):wpAny (model X.prog X.w) X.A (do bindName X.env n .none;unbindBehindTheSuite X.env n pos) Q E s:=by
 obtain⟨m,hn,hl⟩:=id I.loc;have WZ:(X.env.scope.kind == .class||(X.env.scope.kind == .module&&X.env.locals != X.env.globals))=false:=by rw[I.ok.kind];rfl
 refine wpAny_nameGoes_keeps hx hn WZ λh' v hn' hs=>k _ ?_;obtain⟨oL,_,_,hoL,_⟩:=id hn;have tr:HOk X.prog X.w H h':=I.hok.keeps λb u o q r=>(hs.2 b λe=>by rw[e,I.free]at q;cases q).trans r;refine⟨I.ok,I.os,I.bare,⟨λb o e n hb hx=>?_,λb o e n hb hx=>?_,I.base.free,λb o e hx=>?_,I.base.Gr,I.base.Fu,I.base.Gu⟩,⟨_,hn',λj y v' e1 e2 e3=>?_⟩,λy c e=>?_,I.free,I.m7,λp hp=>?_,tr,by simpa using I.len⟩
 ·exact(hs.2 b (ai6 (ai0 (aiT e) I.ok.above))).trans (I.base.keep b o e n hb hx)
 ·obtain⟨sl,e1⟩:=I.base.slot b o e n hb hx
  exact⟨sl,(hs.2 b (ai6 (ai0 (aiT e) I.ok.above))).trans e1⟩
 ·obtain⟨o',e1⟩:=I.base.there b o e hx
  exact⟨o',(hs.2 b (ai6 (ai0 (aiT e) I.ok.above))).trans e1⟩
 ·by_cases hj:j=i
  ·subst hj
   rw[List.getElem?_set]at e2;simp only[if_true]at e2;split at e2<;>cases e2
  ·rw[akq (ai7 hj)]at e2
   obtain⟨u',r',q⟩:=hl j y v' e1 e2 e3;refine⟨u',r',?_⟩;rcases q with⟨kk,e⟩|⟨kk,c,e,z⟩
   ·refine .inl ⟨kk,?_⟩
    have:y≠n:=λe=>hj (Hh hN e1 (e ▸ hi))
    simp[this,e]
   ·exact .inr ⟨kk,c,e,z.sameBut hs (I.cne y c e)⟩
 ·obtain⟨w',z⟩:=I.cell y c e
  exact⟨w',z.sameBut hs (I.cne y c e)⟩
 ·obtain⟨e,n,ne,nf,d⟩:=I.pin p hp
  exact⟨(hs.2 p.1 ne).trans e,n,ne,nf,d⟩
theorem SH{body Vy:List Stmt}{b₀:Stmt}{x n:Str}{np hpos pos:Pos}{i:Nat}{Dc:Addr}{cdD:ClassData}{tb:(St→XK)→TS}{ts:TS}(hex:X.ex=[])(hst:X.stack=X.env::X.outer)(hfr:X.env.frame=some X.env.locals)(hg:Gl X x)(hm:X.mg x=some (.ref Dc))
  (hD:iy X.K Dc cdD) (hN:X.N.Nodup) (hi:X.N[i]?=some n) (hx:X.env.scope.names.lookup n=some .local)
  (hb:∀(pins:List (Addr×Obj)) (E:Value→Shared→Prop) (EK:St→XK),gC (CXE X.prog X.w) (X.KS pins E) EK→PSs (X.KS pins E) body (tb EK))
  (hs:∀ ea,PSs (X.uf ea) (b₀::Vy) ts) (hdb:(x == ("__debug__" : Str))=false:=by decide) :
  PS X (.Try body [.ExceptHandler (some (.Name x np)) (some n) (b₀::Vy) hpos] [] [] pos) (ah5 X.K Dc i tb ts):=by
 intro pins s σ H D I h;refine wpAny_Try_except ?_;refine wpAny_mono (hb pins (λe s₁=>∃ σ' H1 sc,Inv X pins σ' H1 sc∧CXE X.prog X.w X.stack H1 sc (Tv X.K Dc i ts D σ') e s₁) (Tv X.K Dc i ts D)
  (λM9 σ' H1 sc e s' J q=>⟨σ',H1,sc,J.Ck,q⟩) [] s σ H D (I.KS _) h) (λfl s1 q=>?_) λe s1 q=>?_
 ·cases fl with
  | next =>
   obtain⟨σ',H',J,q⟩:=q;exact wpAny_execs_nil ⟨σ',H',J.Ck,q⟩
  | brk=>obtain⟨σ',H',J,q⟩:=q;exact⟨σ',H',J.Ck,q⟩
  | cont=>obtain⟨σ',H',J,q⟩:=q;exact⟨σ',H',J.Ck,q⟩
  | ret u=>obtain⟨v,σ',H',J,r,q⟩:=q;exact⟨v,σ',H',J.Ck,r,q⟩
 ·obtain⟨σ',H1,sc,J,ea,Cv,T,od,fs,sl,H',rfl,l,C,cd,ec,xc,hmr,q⟩:=q
  cases ec;have hA:X.A.frames=some (X.env::X.outer):=by rw[J.ok.frames,hst]
  have hF:s1.heap.FunFrames X.base (X.env::X.outer):=by rw[←hst];exact l.frames J
  have e0:X.s₀.heap.get? ea=none:=by
   cases z:X.s₀.heap.get? ea with
   | none=>rfl
   | some o =>
    obtain⟨o',z'⟩:=J.base.there ea o z (by rw[hex];exact aj3);rw[l.Vu]at z';cases z'
  have st:∀(m:Heap) (tk:Nat),Kept (gN X.stack) [ea,T] s1.heap m→Inv X pins σ' H' {s1 with heap:=m,toks:=tk}:=λm tk k=>by
   obtain⟨un,hok⟩:=l.on (t':=s1.toks) J k;exact J.Na l.os un hok l.bare λb z=>absurd z (by simp)
  have pn:∀ p∈X.pn++pins,p.1≠ea:=λp hp e=>by
   obtain⟨z,_⟩:=J.pin p hp;rw[e,l.Vu]at z;cases z
  refine O1 hA hF hfr l.at_ l.trail λm T' oc tsx z1 z2 z3 z4 z5=>?_;have Te:T'≠ea:=akh (ai0 (aiT l.at_) z1);have f1:(fs.setIfInBounds 1 (Value.ref T'))[1]?=some (.ref T'):=by
   have:=l.trail.size
   simp[this]
  have k1:Kept (gN X.stack) [ea,T] s1.heap m:=by rw[hst];exact z2
  refine zk (s:={s1 with heap:=m}) z3 f1 Te z4 (ajm.mp z5).1 λm' q1 q2 q3=>?_;have nT:∀ b o,s1.heap.get? b=some o→b≠T':=λb o q=>ai6 (ai0 (aiT q) z1);have k2:Kept (gN X.stack) [ea,T] s1.heap m':=⟨λb o q hb hx=>q1 b o (nT b o q) (k1.plain b o q hb hx),λb o q hb hx=>by
   obtain⟨sm,r⟩:=k1.frame b o q hb hx;exact⟨sm,q1 b _ (nT b o q) r⟩⟩
  have J2:=st m' s1.toks k2;refine wpAny_handleBy_cons (codeAny_handlers_test ?_) (by intro z;cases z);refine tZ (X:=X.uf ea) (J2.uf ea) hg hm ?_ hdb;refine Lg xc hD J2.kIn q3 ?_;rw[hmr];refine codeAny_handlers_suite_as ?_;cases q2 with
  | @some _ oc2 ts2 d2 sm2 y1 y2 y3 y4 =>
  refine zk (s:={s1 with heap:=m'}) q3 y1 y2 y3 (ajm.mp y4).1 λm3 r1 r2 r3=>?_;have k3:Kept (gN X.stack) [ea,T] s1.heap m3:=⟨λb o q hb hx=>r1 b o (nT b o q) (k2.plain b o q hb hx),λb o q hb hx=>by
   obtain⟨sm,r⟩:=k2.frame b o q hb hx;exact⟨sm,r1 b _ (nT b o q) r⟩⟩
  have J3:=st m3 s1.toks k3;obtain⟨a0,ha⟩:=l.args;have J4:Inv X pins σ' (upd H' ea (exo false Cv ea od)) {s1 with heap:=m3}:=J3.Zg l.Q8 e0 r3 pn (OF ⟨_,_,a0,r3,by simpa using ha,λz=>nomatch z⟩);refine BQ (X:=X.uf ea) (J4.uf ea) hN hi (.inl hx) (v:=.ref ea) rfl (λs5 J5=>?_) (.inr hx);refine wpAny_mono (hs ea pins s5 _ _ (O4 i D) J5 (q ea l.Q8)) (λfl s6 w=>?_) λ_ _ z=>False.elim z;have off:∀ {σ6:St} {H6:Hp} {Q6:Unit→Shared→Prop},Inv (X.uf ea) pins σ6 H6 s6→(∀ s7,Inv X pins (σ6.set i none) H6 s7→Q6 () s7)→wpAny (model X.prog X.w) X.A (do bindName X.env n .none;unbindBehindTheSuite X.env n hpos) Q6 X.xe s6 :=
   λJ6 k=>RR (J6.uncaught J.ok) hN hi hx k
  cases fl with
  | next=>obtain⟨σ6,H6,J6,w⟩:=w;exact off J6 λs7 J7=>⟨_,_,J7,w⟩
  | brk=>obtain⟨σ6,H6,J6,w⟩:=w;exact off J6 λs7 J7=>⟨_,_,J7,w⟩
  | cont=>obtain⟨σ6,H6,J6,w⟩:=w;exact off J6 λs7 J7=>⟨_,_,J7,w⟩
  | ret u=>obtain⟨v,σ6,H6,J6,r,w⟩:=w;exact off J6 λs7 J7=>⟨v,_,_,J7,r,w⟩
end
section
variable{X:Cx}
noncomputable def Zh(K:W.Frag):R2:=λx y H Q=>∃ l b xs zs,x=.ref l∧y=.ref b∧SqL K H l xs∧SqL K H b zs∧xs.length+zs.length≤sizeLine∧∀ p,H p=none→Q (.ref p) (upd H p (.lst (xs++zs)))
theorem Cm:OpR X (binaryOp .Add) (Zh X.K):=by
 intro pins s σ H x y v u Q I rx ry h;obtain⟨l,b,xs,zs,rfl,rfl,hx,hy,hz,q⟩:=h;cases rx;cases ry;obtain⟨vs,r1,⟨⟨c1,d1,da1,s1⟩,n1,e1,f1,_,g1⟩,_⟩:=I.list hx;obtain⟨ws,r2,⟨⟨c2,d2,da2,s2⟩,n2,e2,f2,_,g2⟩,_⟩:=I.list hy;simp only at f1 g1 f2 g2;subst f1 g1 f2 g2;have hl:vs.length+ws.length≤sizeLine:=by rw[←r1.length,←r2.length];exact hz
 have ea:vs.toArray++ws.toArray=(vs++ws).toArray:=by simp
 refine concat_meets ⟨_,e1,rfl⟩ ⟨_,e2,rfl⟩ noFill_list_add seq_list_add PySem.F.slot_list_add PySem.F.entry_list_add (PySem.F.args_list_add_2 _ _) (list_addW l b vs.toArray ws.toArray n1 n2 d1 d2 s1 s2 (by simpa using hl)) ⟨e1,e2,?_⟩;rw[ea];exact⟨.ref _,_,I.Ud (t':=s.toks) (r1.append r2) (by rw[aiR];exact hz),rfl,q _ I.fresh⟩
end
theorem aE.upd{H:Hp}{a:Addr}{o:HO}(h:H a=none):aE H (L2.upd H a o):=λb u q=>by rw[ag λe=>by rw[e,h]at q;cases q];exact q
structure IS(K:W.Frag)(C:Addr):Prop where
 cls:∃ cd,iy K C cd
 get:Rq K C
 own:PySem.W.findIn K (.ref C) "__class__" = some (some (.builtin "object.__class__"))
theorem IS.ty{K:W.Frag}{C a:Addr}{H:Hp}{b:Bool}(c:IS K C)(e:H a=some (exo b C a none)):TyX K H (.ref a) (.ref C):=by
 obtain⟨cd,x⟩:=c.cls;exact .exc e (.inl rfl) x c.get c.own
noncomputable def Ei(K:W.Frag):Sp:=λvs H Q _=>∃ ea C od x,vs=[.ref ea,x]∧H ea=some (exo true C ea od)∧(∃ cd,iy K C cd)∧Q .non H
theorem QB{K:W.Frag}{i:Nat}{σ:St}{H:Hp}{Q:VK}{x:V}{D:String}{t:Value}{b:Bool}(h0:σ[i]?=some (some x))(ty:TyX K H x t)(hk:PySem.W.kitOne K t (.type D)=some b)(q:Q (.bl b) H) :
  tCB (Tu K) (qr (T1 i) (qr (tC (.ty D)) Ni)) σ H Q:=⟨x,h0,x,.ty D,t,b,rfl,ty,⟨_,rfl⟩,hk,q⟩
theorem Zi{X:Cx}{x:Str}{T:String}{pos:Pos}(hg:Gl X x)(hm:X.mg x=none)(hv:bootBuiltins x=some (.type T))(hn:x ≠ "__name__" := by decide)(hd:(x == ("__debug__" : Str))=false:=by decide):PE X (.Name x pos) (tC (.ty T)) :=
 λ_ _ _ H _ I h=>Fn I hg hm hv ⟨.ty T,H,I,rfl,h⟩ hn hd
theorem dS{P:Program}{w:World}{X:Cx}:gC (CXE P w) X.nox (λ_ _ _ _=>False):=λ_ _ _ _ _ _ _ ⟨_,_,_,_,_,_,_,_,_,q⟩=>q.elim
theorem QC{n:Int}(h:n.natAbs<2 ^ 1920):n.natAbs.log2<1920:=by
 by_cases z:n.natAbs=0
 ·rw[z];decide
 ·exact(Nat.log2_lt z).mpr h
theorem Zj{P:Program}{w:World}{outer:List Env}{H:Hp}{s:Shared}{e:Value}{s':Shared}(h:CXE P w outer H s (λ_ _ _=>False) e s'):False:=by
 obtain⟨_,_,_,_,_,_,_,_,_,q⟩:=h;exact q
end L2
end
section
namespace L2
open PySem PySem.Spec PyProof.Rows LX
section
variable{X:Cx}
variable{o e value:Expr}{f:Str}{pos pos':Pos}{ta tv:TE}
structure Vz(K:W.Frag)(C:Addr)(m:Str)(f:Addr):Prop where
 rd:PySem.W.readsIn K C (.type "type")=true
 fc:PySem.W.findCls K (.ref C) (.type "type") m=some (.val (.ref f))
 ga:PySem.W.specialIn K (.ref C) "__getattribute__" = some (some (.builtin "type.__getattribute__"))
 kp:PySem.W.keepIn K (.ref f)=true
theorem Wu{CX:CXT}{k:Nat}{f C:Addr}{fd:FuncData}{ps:List Str}{sp:Sp}{EK:St→XK}{x m:Str}{p apos pos:Pos}{e:Expr}{es:List Expr}{t:TA}{pl:Sem Bool}(hg:Gl X x)(hm:X.mg x=some (.ref C))(c:Vz X.K C m f)(F:Cg X.prog X.w X.K X.mg X.base CX k f fd ps sp)(hr:lB k X.A)(hb:Binds X.K fd ps [])
  (hx:gC CX X EK) (ha:PA X (e::es) t) (hdb:(x == ("__debug__" : Str))=false:=by decide) (hst:starEach (e::es) X.env=(false,eval e X.env)::starEach es X.env:=by rfl) (hpl:(backTo pos (starEach es X.env)).any (·.1)=false:=by rfl)
  (ht:eval (.Call (.Attribute (.Name x p) m apos) (e::es) [] pos) X.env=(do
   let ov ←eval (.Name x p) X.env
   standAt apos.atName
   let (f,first) ←holding [ov] (getMethod ov m pl)
   callWith pos f first (backTo pos (starEach (e::es) X.env)) (backToKw pos (keywordEach [] X.env))):=by rfl) :
  PE X (.Call (.Attribute (.Name x p) m apos) (e::es) [] pos) (Tt sp [] EK t):=by
 intro pins s σ H Q I h;refine PySem.W.methodCall_KW (pl:=pl) (tZ I hg hm ?_ hdb) ht;refine PySem.W.method_cls I.kIn c.ga (PySem.W.cls_value I.kIn c.rd c.fc rfl ?_);exact PySem.W.callWith_K (first:=[]) (h₀:=X.base) I.ok.mod.kin c.kp (thn (ha pos pins _ σ H _ (I.tok _) h) λus s1 ⟨vs,H1,I1,r,q⟩=>⟨I1.kIn,Vw F hr hb .nil hx I1 r q⟩) hst hpl
end
end L2
end
section
namespace L2
open PySem PySem.Spec PyProof.Rows LX
theorem Jo{prog:Program}{w:World}{A:Around}{R:Result→Shared→Prop}{s:Shared}{elt target iter:Expr}{scope:Scope}{pos:Pos}{it acc:Value}{env:Env}(I:Nat→Shared→Prop)
  (turn:∀ n s,I n s→wpAny (model prog w) A (pyNext it) (λr s₁=>match r with
   | none=>R (.ok .next) s₁
   | some v=>wpAny (model prog w) A (letOwnedTupleGo target it v) (λ_ s5=>wpAny (model prog w) A (assign target env v) (λ_ s₂=>wpAny (model prog w) A (eval elt env) (λx s₃ =>
     wpAny (model prog w) A (call (.builtin "list.append") [acc,x]) (λ_ s₄=>∃ m,m<n∧I m s₄) (notedBy (model prog w) A env λe s'=>R (.error e) s') s₃)
     (notedBy (model prog w) A env λe s'=>R (.error e) s') s₂) (notedBy (model prog w) A env λe s'=>R (.error e) s') s5) (notedBy (model prog w) A env λe s'=>R (.error e) s') s₁) (notedBy (model prog w) A env λe s'=>R (.error e) s') s)
  (n:Nat) (h:I n s):codeAny (model prog w) A (.compLoop (.ListComp elt [⟨target,iter,[],0⟩] scope pos) 0 it acc env) R s:=by
 refine codeAny_loop rfl I (λn s hI=>?_) n h;show wpAny _ _ ((compTurn (.ListComp elt [⟨target,iter,[],0⟩] scope pos) 0 it acc env).onRaise (λx=>do noteFrame x env;theTreesLotGoes x)) _ _ s
 refine wpAny_noted ?_;rw[compTurn_list1];refine wpAny_bind (wpAny_standAt (wpAny_bind (wpAny_mono (turn n s hI) (λr s₁ h₁=>?_) λ_ _ h'=>h')));cases r with
 | none=>exact wpAny_pure h₁
 | some v =>
  refine wpAny_bind (wpAny_mono h₁ (λ_ s5 h5=>?_) λ_ _ h'=>h');exact wpAny_bind (wpAny_mono h5 (λ_ s₂ h₂=>wpAny_bind (wpAny_bind (wpAny_mono h₂ (λx s₃ h₃=>wpAny_bind (wpAny_mono h₃
   (λ_ s₄ h₄=>wpAny_pure (wpAny_pure ⟨rfl,h₄⟩)) λ_ _ h'=>h')) λ_ _ h'=>h'))) λ_ _ h'=>h')
noncomputable abbrev cxC(X:Cx)(scope:Scope)(cl:List (Str×Addr))(NC:List Str)(C:Addr)(fp:List Addr)(s₀:Shared)(H₀:Hp):Cx :=
 {X with N:=NC,s₀:=s₀,H₀:=H₀,env:=compEnvC scope cl C X.env,outer:=X.stack,ex:=fp,fn:=λ_=>false,pn:=[],xe:=λ_ _=>False}
noncomputable def vA(σ:St)(idx:List Nat):St:=idx.map λi=>(σ[i]?).getD none
structure BO(X:Cx)(scope:Scope)(cl:List (Str×Addr))(x:Str)(idx:List Nat)(NC:List Str):Prop where
 YL:closureFor scope X.env=pure cl
 sub:∀ y c,cl.lookup y=some c→X.env.cells.lookup y=some c
 has:∀ y,((relabel scope X.env).names.lookup y=some .cell∨(relabel scope X.env).names.lookup y=some .free)→∃ c,cl.lookup y=some c
 OG:∀ y∈scope.names,y.2≠.cell
 kind:scope.kind=.function
 loc:∀ y∈scope.names,y.2=.local→scope.names.lookup y.1=some .local
 xl:scope.names.lookup x=some .local
 nc:NC=x::idx.map λi=>X.N.getD i x
 nd:NC.Nodup
 cap:∀ i∈idx,i<X.N.length∧((X.env.scope.names.lookup (X.N.getD i x)=some .cell∨X.env.scope.names.lookup (X.N.getD i x)=some .free)∧((relabel scope X.env).names.lookup (X.N.getD i x)=some .cell∨(relabel scope X.env).names.lookup (X.N.getD i x)=some .free))
section
variable{X:Cx}{scope:Scope}{cl:List (Str×Addr)}{x:Str}{idx:List Nat}{NC:List Str}{C:Addr}{fp:List Addr}{pins:List (Addr×Obj)}{σ:St}{H:Hp}{s:Shared}
theorem Hl{h1:Heap}{t':Nat}(c:BO X scope cl x idx NC)(I:Inv X pins σ H s)(hf:∀ b∈fp,Gv X pins H b)(hlt:∀ b∈fp,b<s.heap.objs.size)(ns:h1.Ns s.heap.objs.size (λ_=>none))
  (k:∀ b o,s.heap.get? b=some o→h1.get? b=some o):Inv (cxC X scope cl NC s.heap.objs.size fp s H) [] (none::vA σ idx) H {s with heap:=h1,toks:=t'}:=by
 have sub:∀ b,b∈frs X.stack→b∈X.env.locals::X.fs:=I.BN;refine⟨⟨I.ok.mod,c.kind,I.ok.glob,I.ok.blt,aiN _,λy z a h1 h2=>I.ok.inj y z a (c.sub _ _ h1) (c.sub _ _ h2),c.has,λy a z=>(by cases z),I.ok.hd,I.ok.frames,.inl rfl,λb hb=>⟨ai6 (hlt b hb),λy a q=>(hf b hb).2.2.2.2.1 y a (c.sub _ _ q)⟩,
  λb o q=>I.bs b o q,ai5 I.ok.bsz I.sz,λb o q hb=>?_,λb hb z=>?_,I.stack,I.Cf⟩,rfl,I.bare,Un.kept k,⟨_,ns,λi y v e1 e2 e3=>?_⟩,λy a q=>?_,I.hok.fresh (aiN _),λy a q=>I.m7 _ _ (c.sub _ _ q),λp hp=>(by cases hp),I.hok.keeps λb u o _ q=>k b o q,?_⟩
 ·rcases(hf b hb).2.2.2.1 with z|z
  ·exact I.ok.M8 b o q z
  ·exact absurd (ai0 (aiT (I.ok.bs b o q).1) z) (ajN _)
 ·rcases aiY.mp (sub b z) with r|r
  ·exact(hf b hb).2.1 r
  ·exact(hf b hb).2.2.1 r
 ·cases i with
  | zero=>cases e2
  | succ j =>
   have e1':(idx.map λi=>X.N.getD i x)[j]?=some y:=by
    have:(cxC X scope cl NC s.heap.objs.size fp s H).N=NC:=rfl
    rw[this,c.nc]at e1;exact e1
   have e2':(vA σ idx)[j]?=some (some v):=e2;rw[aiW]at e1';unfold vA at e2';rw[aiW]at e2';cases ei:idx[j]? with
   | none=>rw[ei]at e1';cases e1'
   | some i =>
    rw[ei]at e1' e2';simp only[akv,Option.some.injEq]at e1' e2';obtain⟨hi,h2,h3⟩:=c.cap i (aiU ei);rw[e1']at h2 h3;have hN:X.N[i]?=some y:=by
     rw[←e1'];simp[List.getD,aiK hi]
    have hσ:σ[i]?=some (some v):=by
     cases q:σ[i]? with
     | none=>rw[q]at e2';cases e2'
     | some o=>rw[q]at e2';simp only[Option.getD_some]at e2';rw[e2']
    obtain⟨m,hn,hl⟩:=I.loc;obtain⟨u,r,l⟩:=hl i y v hN hσ (h2.elim (λz=>.inr (.inl z)) λz=>.inr (.inr z));refine⟨u,r,.inr ⟨h3,?_⟩⟩;rcases l with⟨l,_⟩|⟨_,a,ha,hc⟩
    ·exfalso
     have l':X.env.scope.names.lookup y=some .local:=l;rcases h2 with z|z<;>(rw[l']at z;cases z)
    ·obtain⟨a',ha'⟩:=c.has y h3
     have:=c.sub _ _ ha'
     rw[ha]at this;cases this;exact⟨a,ha',hc.keeps k⟩
 ·obtain⟨v,z⟩:=I.cell _ _ (c.sub _ _ q)
  exact⟨v,z.keeps k⟩
 ·show _=NC.length
  rw[c.nc];simp[vA]
noncomputable def OH(J:It)(D:Addr)(τ:St)(te:TE)(Q:VK)(H:Hp):Prop:=∃ W:Nat→Nat→List V→Hp→Prop,(∃ m,W 0 m [] H)∧∀ i m ys H2,W i m ys H2→H2 D=some (.lst ys) ∧
 ((J.stop i H2∧Q (.ref D) H2)∨(J.go i H2∧ys.length<sizeLine∧∃ N:List V→Hp→Prop,(∀ zs H',N zs H'→∃ m',m'<m∧W (i+1) m' zs H')∧∀ y H3,J.yld i H2 y H3→te (some y::τ) H3 λv H4=>H4 D=some (.lst ys)∧N (ys++[v]) (upd H4 D (.lst (ys++[v])))))
noncomputable def Zk(wi:TI)(idx:List Nat)(te:TE):TE:=λσ H Q=>wi σ H λJ H1=>∀ D,H1 D=none→OH J D (vA σ idx) te Q (upd H1 D (.lst []))
theorem Hm{X:Cx}{pins:List (Addr×Obj)}{σ:St}{H:Hp}{s:Shared}{D:Addr}{ys:List V}{v:V}{u:Value}(I:Inv X pins σ H s)(h:H D=some (.lst ys))(hz:ys.length<sizeLine)(r:RelV v u) :
  wpAny (model X.prog X.w) X.A (call (.builtin "list.append") [.ref D,u]) (λ_ s'=>Inv X pins σ (upd H D (.lst (ys++[v]))) s') X.xe s:=by
 refine thn (rp pins s σ H (.ref D) [v] (.ref D) [u] (λ_ H'=>H'=upd H D (.lst (ys++[v]))) I rfl (.cons r .nil) ⟨D,ys,v,rfl,rfl,h,hz,rfl⟩) λw s' ⟨_,H',I',_,e⟩=>?_;rw[←e];exact I'
theorem Cn{elt iter:Expr}{px pos:Pos}{wi:TI}{te:TE}(c:BO X scope cl x idx NC)(hc:X.calm=true)(hi:PI X (.Name x px) iter wi)(he:∀ C fp s₀ H₀,PE (cxC X scope cl NC C fp s₀ H₀) elt te)
  (hs:∀ x,foldedSetIterable iter X.env x=pure x:=by intro _;rfl):PE X (.ListComp elt [⟨.Name x px,iter,[],0⟩] scope pos) (Zk wi idx te):=by
 intro pins s σ H Q I h;rw[eval_ListComp];refine wpAny_comprehension_free (use:=none) rfl hs c.YL c.kind c.loc (thn (hi pins s σ H _ I h) λv s1 h1=>thn h1 λitv s2 h2=>?_);obtain⟨it,fp,tn,J,H2,rfl,I2,T,st2,f2,q⟩:=h2;refine wpAny_newObj_type (wpAny_newFunctionEnv c.OG (by intro y hy;simp at hy) (λh₁ hns₁ hsb₁=>?_) c.kind);dsimp only at hns₁ hsb₁ ⊢;have I3:Inv X pins σ (upd H2 s2.heap.objs.size (.lst [])) {s2 with heap:=s2.heap.push {cls:=.type "list",data:=.seq ([]:List Value).toArray},toks:=s2.toks}:=I2.Ud (ys:=[]) (its:=[]) .nil (ajk _);obtain⟨W,⟨m0,w0⟩,turn⟩:=q s2.heap.objs.size I2.fresh;generalize hD:s2.heap.objs.size=D at *;generalize hH:s2.heap.push {cls:=.type "list",data:=.seq ([]:List Value).toArray}=h3 at *;have O5:∀ b∈fp,b<D:=λb hb=>by
  obtain⟨o,e,_⟩:=T.obj _ _ st2 b hb;rw[←hD];exact aiT e
 have hlt:∀ b∈fp,b<h3.objs.size:=λb hb=>by
  rw[←hH,akc,hD];exact akm (O5 b hb)
 have hf:∀ b∈fp,Gv X pins (upd H2 D (.lst [])) b:=λb hb=>⟨by rw[ag (ai6 (O5 b hb))];exact(f2 b hb).1,(f2 b hb).2⟩;have kp:∀ b o,h3.get? b=some o→h₁.get? b=some o:=λb o e=>hsb₁.extBut b o (ai6 (aiT e)) (aiL _ e);have I4:Inv (cxC X scope cl NC h3.objs.size fp {s2 with heap:=h3,toks:=s2.toks} (upd H2 D (.lst []))) [] (none::vA σ idx) (upd H2 D (.lst [])) {s2 with heap:=h₁,toks:=s2.toks+([]:List (Str×Value)).length} :=
  Hl (s:={s2 with heap:=h3,toks:=s2.toks}) c I3 hf hlt hns₁ kp
 have Fv:∀ {H':Hp},(∀ b∈fp,H' b=none)→∀ b∈fp,Gv (cxC X scope cl NC h3.objs.size fp {s2 with heap:=h3,toks:=s2.toks} (upd H2 D (.lst []))) [] H' b:=λhn b hb =>
  ⟨hn b hb,ai6 (hlt b hb),λz=>(aiY.mp (I3.BN b z)).elim (hf b hb).2.1 (hf b hb).2.2.1,.inl hb,λy a q=>(hf b hb).2.2.2.2.1 y a (c.sub _ _ q),λp hp=>(by cases hp)⟩
 have st1:tn 0 h₁:=T.keep 0 _ _ st2 λb hb o e=>kp b o (by rw[←hH];exact aiL _ e);have loop:∀ s4:Shared,s4={s2 with heap:=h₁,toks:=s2.toks+([]:List (Str×Value)).length} →
   codeAny (model X.prog X.w) X.A (.compLoop (.ListComp elt [⟨.Name x px,iter,[],0⟩] scope pos) 0 (.ref it) (.ref D) (compEnvC scope cl h3.objs.size X.env)) (compPost (model X.prog X.w) X.A X.xe none (EP X pins σ Q) (.ref D) h3.objs.size) s4:=by
  rintro s4 rfl;refine Jo (λn s'=>∃ i ys H' v0,Inv (cxC X scope cl NC h3.objs.size fp {s2 with heap:=h3,toks:=s2.toks} (upd H2 D (.lst []))) [] (v0::vA σ idx) H' s'∧tn i s'.heap∧(∀ b∈fp,H' b=none)∧W i n ys H')
   ?_ m0 ⟨0,[],_,none,I4,st1,λb hb=>(hf b hb).1,w0⟩
  rintro n s5 ⟨i,ys,H5,v0,I5,st5,fr5,w5⟩;obtain⟨hDl,alt⟩:=turn i n ys H5 w5;rcases alt with⟨stop,qn⟩|⟨go,hz,N,hN,step⟩
  ·refine thn (T.done (cxC X scope cl NC h3.objs.size fp {s2 with heap:=h3,toks:=s2.toks} (upd H2 D (.lst []))) rfl rfl rfl hc i [] s5 _ H5 _ I5 (Fv fr5) st5 stop) λr s6 ⟨hr,I6⟩=>?_
   subst hr;obtain⟨m,ns6,_⟩:=id I6.loc;refine⟨m,ns6,λh' hs'=>⟨.ref D,H5,?_,rfl,qn⟩⟩;have J6:Inv X pins σ H5 s6:=I3.Na (ch:=fp) I6.os I6.base I6.hok I6.bare λb hb=>⟨(hf b hb).2.2.2.1,(hf b hb).2.1,(hf b hb).2.2.2.2.1,(hf b hb).2.2.2.2.2⟩;refine J6.turned (t':=s6.toks) (it:=h3.objs.size) (λb o hb e=>hs'.extBut b o hb e) I6.free (akh I3.lt) (.inr I3.sz) (λy a q z=>?_) (λp hp z=>?_)
   ·obtain⟨v,q'⟩:=I3.cell y a q
    exact absurd q'.lt (by rw[z];exact ajN _)
   ·exact absurd (aiT (I3.pin p hp).1) (by rw[z];exact ajN _)
  ·refine thn (T.item (cxC X scope cl NC h3.objs.size fp {s2 with heap:=h3,toks:=s2.toks} (upd H2 D (.lst []))) rfl rfl rfl hc i [] s5 _ H5 _ I5 (Fv fr5) st5 go) λr s6 ⟨u,hr,h6⟩=>?_
   subst hr;refine thn h6 λ_ s7 ⟨y,H7,I7,r7,y7,st7,fr7⟩=>?_;have I7':=I7.pinned (Fv fr7) (T.obj _ _ st7);have hnl:(relabel scope X.env).names.lookup x=some .local:=lookup_relabel_local c.xl;refine wpAny_mono (gb (X:=cxC X scope cl NC h3.objs.size fp {s2 with heap:=h3,toks:=s2.toks} (upd H2 D (.lst []))) (i:=0) (x:=x) (pos:=px) c.nd (by show NC[0]?=some x;rw[c.nc];rfl) (.inl hnl) (.inr hnl) _ s7 _ H7 y u
    (λσ' H'=>σ'=some y::vA σ idx∧H'=H7) I7' r7 ⟨rfl,rfl⟩) (λ_ s8 ⟨σ8,H8,I8,e8,e8'⟩=>?_) λ_ _ z=>z.elim
   subst e8 e8';refine wpAny_mono (he _ _ _ _ _ s8 _ H8 _ I8 (step y H8 y7)) (λw s9 ⟨v,H9,I9,r9,hD9,n9⟩=>?_) λ_ _ z=>z.elim;obtain⟨m',hm,w9⟩:=hN _ _ n9;refine wpAny_mono (Hm (X:=(cxC X scope cl NC h3.objs.size fp {s2 with heap:=h3,toks:=s2.toks} (upd H2 D (.lst [])))) I9 hD9 hz r9) (λ_ s10 I10=>?_) λ_ _ z=>z.elim;refine⟨m',hm,i+1,ys++[v],_,some y,I10.pP,T.keep _ _ _ st7 λb hb o e=>(I10.pin (b,o) (aiP _ (aiP _ (iH hb e)))).1,λb hb=>?_,w9⟩;obtain⟨o,e,d⟩:=T.obj _ _ st7 b hb;exact(I10.pin (b,o) (aiP _ (aiP _ (iH hb e)))).2.1
 exact codeAny_compStart_list (loop _ rfl) (T.self _ 0 _ _ _ st1 (loop _ rfl))
end
section
variable{X:Cx}
theorem xa{prog:Program}{w:World}{A:Around}{R:Result→Shared→Prop}{s:Shared}{elt target iter c:Expr}{scope:Scope}{pos:Pos}{it acc:Value}{env:Env}(I:Nat→Shared→Prop)
  (turn:∀ n s,I n s→wpAny (model prog w) A (pyNext it) (λr s₁=>match r with
   | none=>R (.ok .next) s₁
   | some v=>wpAny (model prog w) A (letOwnedTupleGo target it v) (λ_ s5=>wpAny (model prog w) A (assign target env v) (λ_ s₂=>wpAny (model prog w) A (isTrue c env (eval c env)) (λok s6=>if ok=true then wpAny (model prog w) A (eval elt env) (λx s₃ =>
     wpAny (model prog w) A (call (.builtin "list.append") [acc,x]) (λ_ s₄=>∃ m,m<n∧I m s₄) (notedBy (model prog w) A env λe s'=>R (.error e) s') s₃)
     (notedBy (model prog w) A env λe s'=>R (.error e) s') s6 else ∃ m,m<n∧I m s6) (notedBy (model prog w) A env λe s'=>R (.error e) s') s₂) (notedBy (model prog w) A env λe s'=>R (.error e) s') s5) (notedBy (model prog w) A env λe s'=>R (.error e) s') s₁) (notedBy (model prog w) A env λe s'=>R (.error e) s') s)
  (n:Nat) (h:I n s):codeAny (model prog w) A (.compLoop (.ListComp elt [⟨target,iter,[c],0⟩] scope pos) 0 it acc env) R s:=by
 refine codeAny_loop rfl I (λn s hI=>?_) n h;show wpAny _ _ ((compTurn (.ListComp elt [⟨target,iter,[c],0⟩] scope pos) 0 it acc env).onRaise (λx=>do noteFrame x env;theTreesLotGoes x)) _ _ s
 refine wpAny_noted ?_;rw[compTurn_list];refine wpAny_bind (wpAny_standAt (wpAny_bind (wpAny_mono (turn n s hI) (λr s₁ h₁=>?_) λ_ _ h'=>h')));cases r with
 | none=>exact wpAny_pure h₁
 | some v =>
  refine wpAny_bind (wpAny_mono h₁ (λ_ s5 h5=>?_) λ_ _ h'=>h');refine wpAny_bind (wpAny_mono h5 (λ_ s₂ h₂=>wpAny_bind (wpAny_mono (wpAny_tests_one h₂) (λok s₃ h₃=>?_) λ_ _ h'=>h')) λ_ _ h'=>h');cases ok with
  | false=>exact wpAny_pure ⟨rfl,h₃⟩
  | true =>
   exact wpAny_bind (wpAny_bind (wpAny_mono h₃ (λx s₄ h₄=>wpAny_bind (wpAny_mono h₄ (λ_ s₅ h₅=>wpAny_pure (wpAny_pure ⟨rfl,h₅⟩)) λ_ _ h'=>h')) λ_ _ h'=>h'))
variable{scope:Scope}{cl:List (Str×Addr)}{x:Str}{idx:List Nat}{NC:List Str}{C:Addr}{fp:List Addr}{pins:List (Addr×Obj)}{σ:St}{H:Hp}{s:Shared}
noncomputable def SI(wi:TI)(idx:List Nat)(tc:TT)(te:TE):TE:=λσ H Q=>wi σ H λJ H1=>∀ D,H1 D=none→∃ W:Nat→Nat→List V→Hp→Prop,(∃ m,W 0 m [] (upd H1 D (.lst [])))∧∀ i m ys H2,W i m ys H2→H2 D=some (.lst ys) ∧
 ((J.stop i H2∧Q (.ref D) H2)∨(J.go i H2∧ys.length<sizeLine∧∃ N:List V→Hp→Prop,(∀ zs H',N zs H'→∃ m',m'<m∧W (i+1) m' zs H')∧∀ y H3,J.yld i H2 y H3→tc (some y::vA σ idx) H3 λb H4=>if b=true then te (some y::vA σ idx) H4 λv H5=>H5 D=some (.lst ys)∧N (ys++[v]) (upd H5 D (.lst (ys++[v])))
  else N ys H4))
theorem RS{elt iter ct:Expr}{px pos:Pos}{wi:TI}{tc:TT}{te:TE}(c:BO X scope cl x idx NC)(hc:X.calm=true)(hi:PI X (.Name x px) iter wi)(ht:∀ C fp s₀ H₀,PT (cxC X scope cl NC C fp s₀ H₀) ct tc)(he:∀ C fp s₀ H₀,PE (cxC X scope cl NC C fp s₀ H₀) elt te)
  (hs:∀ x,foldedSetIterable iter X.env x=pure x:=by intro _;rfl):PE X (.ListComp elt [⟨.Name x px,iter,[ct],0⟩] scope pos) (SI wi idx tc te):=by
 intro pins s σ H Q I h;rw[eval_ListComp];refine wpAny_comprehension_free (use:=none) rfl hs c.YL c.kind c.loc (thn (hi pins s σ H _ I h) λv s1 h1=>thn h1 λitv s2 h2=>?_);obtain⟨it,fp,tn,J,H2,rfl,I2,T,st2,f2,q⟩:=h2;refine wpAny_newObj_type (wpAny_newFunctionEnv c.OG (by intro y hy;simp at hy) (λh₁ hns₁ hsb₁=>?_) c.kind);dsimp only at hns₁ hsb₁ ⊢;have I3:Inv X pins σ (upd H2 s2.heap.objs.size (.lst [])) {s2 with heap:=s2.heap.push {cls:=.type "list",data:=.seq ([]:List Value).toArray},toks:=s2.toks}:=I2.Ud (ys:=[]) (its:=[]) .nil (ajk _);obtain⟨W,⟨m0,w0⟩,turn⟩:=q s2.heap.objs.size I2.fresh;generalize hD:s2.heap.objs.size=D at *;generalize hH:s2.heap.push {cls:=.type "list",data:=.seq ([]:List Value).toArray}=h3 at *;have O5:∀ b∈fp,b<D:=λb hb=>by
  obtain⟨o,e,_⟩:=T.obj _ _ st2 b hb;rw[←hD];exact aiT e
 have hlt:∀ b∈fp,b<h3.objs.size:=λb hb=>by
  rw[←hH,akc,hD];exact akm (O5 b hb)
 have hf:∀ b∈fp,Gv X pins (upd H2 D (.lst [])) b:=λb hb=>⟨by rw[ag (ai6 (O5 b hb))];exact(f2 b hb).1,(f2 b hb).2⟩;have kp:∀ b o,h3.get? b=some o→h₁.get? b=some o:=λb o e=>hsb₁.extBut b o (ai6 (aiT e)) (aiL _ e);have I4:Inv (cxC X scope cl NC h3.objs.size fp {s2 with heap:=h3,toks:=s2.toks} (upd H2 D (.lst []))) [] (none::vA σ idx) (upd H2 D (.lst [])) {s2 with heap:=h₁,toks:=s2.toks+([]:List (Str×Value)).length} :=
  Hl (s:={s2 with heap:=h3,toks:=s2.toks}) c I3 hf hlt hns₁ kp
 have Fv:∀ {H':Hp},(∀ b∈fp,H' b=none)→∀ b∈fp,Gv (cxC X scope cl NC h3.objs.size fp {s2 with heap:=h3,toks:=s2.toks} (upd H2 D (.lst []))) [] H' b:=λhn b hb =>
  ⟨hn b hb,ai6 (hlt b hb),λz=>(aiY.mp (I3.BN b z)).elim (hf b hb).2.1 (hf b hb).2.2.1,.inl hb,λy a q=>(hf b hb).2.2.2.2.1 y a (c.sub _ _ q),λp hp=>(by cases hp)⟩
 have st1:tn 0 h₁:=T.keep 0 _ _ st2 λb hb o e=>kp b o (by rw[←hH];exact aiL _ e);have loop:∀ s4:Shared,s4={s2 with heap:=h₁,toks:=s2.toks+([]:List (Str×Value)).length} →
   codeAny (model X.prog X.w) X.A (.compLoop (.ListComp elt [⟨.Name x px,iter,[ct],0⟩] scope pos) 0 (.ref it) (.ref D) (compEnvC scope cl h3.objs.size X.env)) (compPost (model X.prog X.w) X.A X.xe none (EP X pins σ Q) (.ref D) h3.objs.size) s4:=by
  rintro s4 rfl;refine xa (λn s'=>∃ i ys H' v0,Inv (cxC X scope cl NC h3.objs.size fp {s2 with heap:=h3,toks:=s2.toks} (upd H2 D (.lst []))) [] (v0::vA σ idx) H' s'∧tn i s'.heap∧(∀ b∈fp,H' b=none)∧W i n ys H')
   ?_ m0 ⟨0,[],_,none,I4,st1,λb hb=>(hf b hb).1,w0⟩
  rintro n s5 ⟨i,ys,H5,v0,I5,st5,fr5,w5⟩;obtain⟨hDl,alt⟩:=turn i n ys H5 w5;rcases alt with⟨stop,qn⟩|⟨go,hz,N,hN,step⟩
  ·refine thn (T.done (cxC X scope cl NC h3.objs.size fp {s2 with heap:=h3,toks:=s2.toks} (upd H2 D (.lst []))) rfl rfl rfl hc i [] s5 _ H5 _ I5 (Fv fr5) st5 stop) λr s6 ⟨hr,I6⟩=>?_
   subst hr;obtain⟨m,ns6,_⟩:=id I6.loc;refine⟨m,ns6,λh' hs'=>⟨.ref D,H5,?_,rfl,qn⟩⟩;have J6:Inv X pins σ H5 s6:=I3.Na (ch:=fp) I6.os I6.base I6.hok I6.bare λb hb=>⟨(hf b hb).2.2.2.1,(hf b hb).2.1,(hf b hb).2.2.2.2.1,(hf b hb).2.2.2.2.2⟩;refine J6.turned (t':=s6.toks) (it:=h3.objs.size) (λb o hb e=>hs'.extBut b o hb e) I6.free (akh I3.lt) (.inr I3.sz) (λy a q z=>?_) (λp hp z=>?_)
   ·obtain⟨v,q'⟩:=I3.cell y a q
    exact absurd q'.lt (by rw[z];exact ajN _)
   ·exact absurd (aiT (I3.pin p hp).1) (by rw[z];exact ajN _)
  ·refine thn (T.item (cxC X scope cl NC h3.objs.size fp {s2 with heap:=h3,toks:=s2.toks} (upd H2 D (.lst []))) rfl rfl rfl hc i [] s5 _ H5 _ I5 (Fv fr5) st5 go) λr s6 ⟨u,hr,h6⟩=>?_
   subst hr;refine thn h6 λ_ s7 ⟨y,H7,I7,r7,y7,st7,fr7⟩=>?_;have I7':=I7.pinned (Fv fr7) (T.obj _ _ st7);have hnl:(relabel scope X.env).names.lookup x=some .local:=lookup_relabel_local c.xl;refine wpAny_mono (gb (X:=cxC X scope cl NC h3.objs.size fp {s2 with heap:=h3,toks:=s2.toks} (upd H2 D (.lst []))) (i:=0) (x:=x) (pos:=px) c.nd (by show NC[0]?=some x;rw[c.nc];rfl) (.inl hnl) (.inr hnl) _ s7 _ H7 y u
    (λσ' H'=>σ'=some y::vA σ idx∧H'=H7) I7' r7 ⟨rfl,rfl⟩) (λ_ s8 ⟨σ8,H8,I8,e8,e8'⟩=>?_) λ_ _ z=>z.elim
   subst e8 e8';refine wpAny_mono (ht _ _ _ _ _ s8 _ H8 _ I8 (step y H8 y7)) (λbb s11 ⟨H11,I11,q11⟩=>?_) λ_ _ z=>z.elim;have fin:∀ {H12:Hp} {s12:Shared} {zs:List V} {m':Nat},Inv (cxC X scope cl NC h3.objs.size fp {s2 with heap:=h3,toks:=s2.toks} (upd H2 D (.lst []))) ([]++Fo fp s7.heap) (some y::vA σ idx) H12 s12→m'<n→W (i+1) m' zs H12 →
     ∃ m,m<n∧∃ i ys H' v0,Inv (cxC X scope cl NC h3.objs.size fp {s2 with heap:=h3,toks:=s2.toks} (upd H2 D (.lst []))) [] (v0::vA σ idx) H' s12∧tn i s12.heap∧(∀ b∈fp,H' b=none)∧W i m ys H':=λ{H12 s12 zs m'} I12 hm w12=>by
    refine⟨m',hm,i+1,zs,_,some y,I12.pP,T.keep _ _ _ st7 λb hb o e=>(I12.pin (b,o) (aiP _ (aiP _ (iH hb e)))).1,λb hb=>?_,w12⟩;obtain⟨o,e,d⟩:=T.obj _ _ st7 b hb;exact(I12.pin (b,o) (aiP _ (aiP _ (iH hb e)))).2.1
   cases bb with
   | false =>
    obtain⟨m',hm,w9⟩:=hN _ _ q11;exact fin I11 hm w9
   | true =>
    refine wpAny_mono (he _ _ _ _ _ s11 _ H11 _ I11 q11) (λw s9 ⟨v,H9,I9,r9,hD9,n9⟩=>?_) λ_ _ z=>z.elim;obtain⟨m',hm,w9⟩:=hN _ _ n9;refine wpAny_mono (Hm (X:=(cxC X scope cl NC h3.objs.size fp {s2 with heap:=h3,toks:=s2.toks} (upd H2 D (.lst [])))) I9 hD9 hz r9) (λ_ s10 I10=>?_) λ_ _ z=>z.elim;exact fin I10 hm w9
 exact codeAny_compStart_list (loop _ rfl) (T.self _ 0 _ _ _ st1 (loop _ rfl))
end
noncomputable def Ite(K:W.Frag)(a:Addr):It :=
 ⟨λi H=>∃ xs x,SqL K H a xs∧xs[i]?=some x,λi H y H'=>∃ t x,H t=none∧y=.ref t∧(∀ xs,SqL K H a xs→xs[i]?=some x)∧H'=upd H t (.tup [.int (i:Int),x]),λi H=>∃ xs,SqL K H a xs∧xs.length≤i⟩
theorem QD{P:Program}{w:World}{K:W.Frag}{es:List Expr}{x1:Nat}{pos:Pos}(a it e:Addr)(hne:e≠it) :
  Turn P w K (.Tuple es x1 pos) (Ite K a) [e,it] e (λi h=>∃ old,IsEnum h e it i old∧h.IsListIter it a i) where
 mem:=by simp
 obj:=λi h st b hb=>by
  obtain⟨old,h1,o,q,c,d⟩:=st;rcases aiY.mp hb with z|z
  ·rw[z]
   exact⟨_,h1,λv z=>by
    have z':Data.fields _=Data.cell v:=z;cases z'⟩
  ·rw[aiJ.mp z]
   exact⟨o,q,λv z=>by rw[d]at z;cases z⟩
 keep:=λi h h' st k=>by
  obtain⟨old,h1,h2⟩:=st;exact⟨old,k e (by simp) _ h1,h2.at λo q=>k it (by simp) o q⟩
 item:=by
  intro X hP hw hK hc i pins s σ H E I hf st hg;subst hP hw hK;obtain⟨xs,x,hq,hx⟩:=hg;obtain⟨its,rv,p,hz⟩:=I.list hq;obtain⟨u,hu,ru⟩:=rv.get hx;obtain⟨old,he,hit⟩:=st;have fr:H s.heap.objs.size=none:=I.hok.fresh (aiN _);refine wpAny_pyNext_enum_item he hit p.isList (x:=u) (by simpa using hu) hne λh1 heo hit1 ht1 hz1 hk1=>⟨_,rfl,wpAny_letOwnedTupleGo_enum heo λh2 he2 hs2=>?_⟩;replace hs2:Heap.SameBut e h1 h2:=hs2;have hel:e<s.heap.objs.size:=aiT he;have k2:∀ b o,b≠e→b≠it→s.heap.get? b=some o→h2.get? b=some o:=λb o z1 z2 q=>(hs2.2 b z1).trans (hk1 b o z1 z2 q);have ht2:h2.get? s.heap.objs.size=some {cls:=.type "tuple",data:=.seq #[.int i s.toks,u]}:=(hs2.2 _ (akh hel)).trans ht1;have ah6:h2.IsListIter it a (i+1):=hit1.extBut hs2.extBut (ai7 hne);have nt:∀ b o,s.heap.get? b=some o→b≠s.heap.objs.size:=λb o q=>ai6 (aiT q);have nh:∀ b v,H b=some v→b≠s.heap.objs.size:=λb v q=>au q fr;have ne':∀ b v,H b=some v→b≠e∧b≠it:=λb v q=>⟨au q (hf e (by simp)).1,au q (hf it (by simp)).1⟩;refine⟨.ref s.heap.objs.size,upd H s.heap.objs.size (.tup [.int (i:Int),x]),?_,rfl,⟨_,x,fr,rfl,λys hy=>by rw[I.Mi hy hq];exact hx,rfl⟩,⟨_,he2,ah6⟩,λb hb=>?_⟩
  ·refine Inv.step (s:=s) (h':=h2) (t':=s.toks+1) (H:=H) (g':=s.gens) (d':=s.drawn) (ch:=[e,it]) I (λb hb=>⟨(hf b hb).2.2.2.1,(hf b hb).2.1,(hf b hb).2.2.2.2.1,(hf b hb).2.2.2.2.2⟩)
    (λb o _ _ z q _=>k2 b o (λy=>z (by simp[y])) (λy=>z (by simp[y])) q) (λb o _ _ z q _=>⟨o.slots,k2 b o (λy=>z (by simp[y])) (λy=>z (by simp[y])) q⟩)
    (λb o _ q n=>by rw[ag (nt b o q)];exact n) (λb o z q=>⟨o,k2 b o (λy=>z (by simp[y])) (λy=>z (by simp[y])) q⟩)
    (λb xs q=>by rw[ag (nh b _ q)];exact q) (λb o v q=>by rw[ag (nh b _ q)];exact q) (λb ps q=>⟨#[],by rw[ag (nh b _ q),q];simp⟩) (λm hm=>?_) (λb v q=>?_) I.bare
   ·obtain⟨o,es',ep,ho,r⟩:=hm
    exact⟨o,es',ep,k2 _ o (ai7 (hf e (by simp)).2.1) (ai7 (hf it (by simp)).2.1) ho,r⟩
   ·by_cases z:b=s.heap.objs.size
    ·subst z
     rw[ah]at q;cases q;exact⟨by show 2≤sizeLine;decide,[.int i s.toks,u],.cons ⟨_,rfl⟩ (.cons ru .nil),_,ht2,rfl,_,rfl⟩
    ·rw[ag z]at q
     refine(I.hok b v q).Kx (λc o hc w=>?_) (λc w=>by rw[ag (nh c _ w)];exact w) λc xs w=>by rw[ag (nh c _ w)];exact w
     rcases hc with y|y
     ·rw[y]at w ⊢
      exact k2 b o (ne' b v q).1 (ne' b v q).2 w
     ·exact k2 c o (ne' c _ y).1 (ne' c _ y).2 w
  ·have hb':b<s.heap.objs.size:=by
    rcases aiY.mp hb with z|z
    ·rw[z];exact hel
    ·rw[aiJ.mp z]
     obtain⟨o,q,_⟩:=hit;exact aiT q
   rw[ag (ai6 hb')];exact(hf b hb).1
 done:=by
  intro X hP hw hK hc i pins s σ H E I hf st hg;subst hP hw hK;obtain⟨xs,hq,hx⟩:=hg;obtain⟨its,rv,p,hz⟩:=I.list hq;obtain⟨f0,f1,f2,f3,f4,f5⟩:=hf it (by simp);have hl:=rv.length;obtain⟨old,he,hit⟩:=st;exact wpAny_pyNext_enum_end (I.ok.hd hc) he hit p.isList (by simp;omega) λh' eb=>⟨rfl,I.turned (t':=s.toks) (λb o hb q=>eb b o hb q) f0 f1 f3 f4 f5⟩
 self:=λA i s Q E st h=>by
  obtain⟨old,he,hit⟩:=st;exact wpAny_pyIter_enum he h
section
variable{X:Cx}{es:List Expr}{x1:Nat}{tp:Pos}
noncomputable def Zl(K:W.Frag)(ta:TA):TI:=λσ H R=>ta σ H λvs H1=>∃ a,vs=[.ref a]∧(∃ xs,SqL K H1 a xs)∧R (Ite K a) H1
theorem O6{a:Expr}{ta:TA}{p pos:Pos}(hg:Gl X "enumerate")(hm:X.mg "enumerate" = none)(ha:PA X [a] ta)(hs:starEach [a] X.env=[(false,eval a X.env)]:=by rfl):PI X (.Tuple es x1 tp) (.Call (.Name "enumerate" p) [a] [] pos) (Zl X.K ta):=by
 intro pins s σ H R I h;refine Call_ (Fn I hg hm PyProof.Rows.Boot.«enumerate» (PyProof.Rows.callWith_type1 (thn (ha pos pins s σ H _ I h) λus s1 ⟨vs,H1,I1,r1,q1⟩=>?_) hs rfl));obtain⟨l,e,⟨xs,hq⟩,q⟩:=q1;subst e;cases r1 with
 | cons r rr =>
  cases rr;cases r;obtain⟨its,rv,pl,hz⟩:=I1.list hq;refine call_enumerate_list pl.isList λh' he hit hsz hk=>?_;refine wpAny_pyIter_enum he ?_;refine⟨s1.heap.objs.size+1,[s1.heap.objs.size+1,s1.heap.objs.size],_,_,H1,rfl,I1.kept (t':=s1.toks) hk,QD l s1.heap.objs.size (s1.heap.objs.size+1) (Nat.succ_ne_self _),⟨_,he,hit⟩,λb hb=>?_,q⟩;have hb':s1.heap.objs.size≤b:=by
   rcases aiY.mp hb with z|z
   ·rw[z];exact akg _
   ·rw[aiJ.mp z]
    exact aiN _
  exact I1.T2 hb' (I1.hok.fresh hb')
end
theorem Mt{K:W.Frag}{a:Addr}{xs:List V}{g:TG}{tb:TS}{D:Ends}{σ:St}{H:Hp}(Pv:Nat→St→Hp→Prop)(h0:Pv 0 σ H)(hl:∀ i σ H,i≤xs.length→Pv i σ H→SqL K H a xs)
  (hs:∀ i x σ H t,xs[i]?=some x→Pv i σ H→H t=none→g (.ref t) σ (upd H t (.tup [.int (i:Int),x])) λσ2 H2=>tb {D with nx:=Pv (i+1),ct:=Pv (i+1),bk:=D.nx} σ2 H2) (hd:∀ σ H,Pv xs.length σ H→D.nx σ H) :
  ∃ W:Nat→Nat→St→Hp→Prop,(∃ m,W 0 m σ H)∧∀ i m σ H,W i m σ H →
   ((Ite K a).stop i H∧D.nx σ H)∨((Ite K a).go i H∧∃ N:St→Hp→Prop,(∀ σ' H',N σ' H'→∃ m',m'<m∧W (i+1) m' σ' H')∧∀ x H',(Ite K a).yld i H x H'→g x σ H' λσ2 H2=>tb {D with nx:=N,ct:=N,bk:=D.nx} σ2 H2):=by
 refine⟨λi m σ H=>m=xs.length-i∧i≤xs.length∧Pv i σ H,⟨xs.length,by simp,ajk _,h0⟩,?_⟩;rintro i m σ H ⟨rfl,hi,p⟩;by_cases hlt:i<xs.length
 ·refine .inr ⟨⟨xs,xs[i],hl i σ H hi p,aiK hlt⟩,Pv (i+1),λσ' H' p'=>⟨xs.length-(i+1),by omega,rfl,hlt,p'⟩,λx H' y=>?_⟩
  obtain⟨t,v,e1,e2,e3,e4⟩:=y;subst e2 e4;exact hs i v σ H t (e3 xs (hl i σ H hi p)) p e1
 ·have e:i=xs.length:=by omega
  subst e;exact .inl ⟨⟨xs,hl _ σ H hi p,aiN _⟩,hd σ H p⟩
end L2
namespace L2
open PySem
theorem wV{K:W.Frag}{a:Addr}{xs:List V}{te:TE}{Q:VK}{D:Addr}{τ:St}{H:Hp}(Pv:Nat→List V→Hp→Prop)(h0:Pv 0 [] H)(hD:∀ i ys H,i≤xs.length→Pv i ys H→H D=some (.lst ys)∧ys.length=i)(hl:∀ i ys H,i≤xs.length→Pv i ys H→SqL K H a xs)(hn:xs.length≤sizeLine)
  (hs:∀ i x ys H,xs[i]?=some x→Pv i ys H→te (some x::τ) H λv H4=>H4 D=some (.lst ys)∧Pv (i+1) (ys++[v]) (upd H4 D (.lst (ys++[v])))) (hd:∀ ys H,Pv xs.length ys H→Q (.ref D) H):OH (Itl K a) D τ te Q H:=by
 refine⟨λi m ys H=>m=xs.length-i∧i≤xs.length∧Pv i ys H,⟨xs.length,by simp,ajk _,h0⟩,?_⟩;rintro i m ys H2 ⟨rfl,hi,p⟩;obtain⟨hd1,hd2⟩:=hD i ys H2 hi p;refine⟨hd1,?_⟩;by_cases hlt:i<xs.length
 ·refine .inr ⟨⟨xs,xs[i],hl i ys H2 hi p,aiK hlt⟩,by omega,Pv (i+1),λzs H' p'=>⟨xs.length-(i+1),by omega,rfl,hlt,p'⟩,λy H3 e=>?_⟩
  obtain⟨e1,e2⟩:=e;subst e1;exact hs i y ys _ (e2 xs (hl i ys _ hi p)) p
 ·have e:i=xs.length:=by omega
  subst e;exact .inl ⟨⟨xs,hl _ ys H2 hi p,aiN _⟩,hd ys H2 p⟩
end L2
end
section
namespace L2
open PySem PySem.Spec PyProof.Rows LX
noncomputable def VA(sc:Scope)(names:List (Str×NameKind)):List (Str×NameKind):=names.map λ(n,k)=>if(k == .free&&sc.kind == .function&&sc.names.lookup n == some .cell) then(n,.cell) else(n,k)
noncomputable def Tw(sc scope:Scope)(x:Str)(ns N:List Str)(idx:List Nat):Prop :=
 (∀ y∈scope.names,y.2≠.cell)∧(∀ y∈scope.names,y.2=.local→scope.names.lookup y.1=some .local)∧scope.names.lookup x=some .local∧(∀ p∈VA sc scope.names,p.2=.cell∨p.2=.free→p.1∈ns)∧(x::idx.map λi=>N.getD i x).Nodup ∧
 ∀ i∈idx,i<N.length∧((sc.names.lookup (N.getD i x)=some .cell∨sc.names.lookup (N.getD i x)=some .free)∧((VA sc scope.names).lookup (N.getD i x)=some .cell∨(VA sc scope.names).lookup (N.getD i x)=some .free))
noncomputable instance (sc scope:Scope) (x:Str) (ns N:List Str) (idx:List Nat):Decidable (Tw sc scope x ns N idx):=by unfold Tw;infer_instance
theorem Ej{y:Str}:∀ {cl:List (Str×Addr)},y∈cl.map (·.1)→∃ c,cl.lookup y=some c
 | [],h=>by simp at h
 | (n,c)::r,h=>by
  by_cases e:y=n
  ·exact⟨c,by simp[List.lookup,e]⟩
  ·have h':y∈r.map (·.1):=by
    rw[aji]at h;rcases aiY.mp h with z|z
    ·exact absurd z e
    ·exact z
   obtain⟨c',q⟩:=Ej h';have hb:(y == n)=false:=beq_eq_false_iff_ne.mpr e;exact⟨c',by simp only[List.lookup,hb];exact q⟩
theorem jc{X:Cx}{sc scope:Scope}{cl:List (Str×Addr)}{x:Str}{ns N:List Str}{idx:List Nat}(hsc:X.env.scope=sc)(hN:X.N=N)(hk:scope.kind=.function)(p:Tw sc scope x ns N idx)(hn:cl.map (·.1)=ns)
  (Zm:closureFor scope X.env=pure cl) (ah7:∀ q∈cl,X.env.cells.lookup q.1=some q.2):BO X scope cl x idx (x::idx.map λi=>N.getD i x):=by
 obtain⟨p1,p2,p3,p4,p5,p6⟩:=p;have re:(relabel scope X.env).names=VA sc scope.names:=by subst hsc;rfl
 subst hsc hN hn;refine⟨Zm,λy c q=>ah7 (y,c) (ajy q),λy h=>?_,p1,hk,p2,p3,rfl,p5,λi hi=>?_⟩
 ·rw[re]at h
  refine Ej ?_;rcases h with h|h
  ·exact p4 (y,.cell) (ajy h) (.inl rfl)
  ·exact p4 (y,.free) (ajy h) (.inr rfl)
 ·rw[re]
  exact p6 i hi
theorem Nn{P:Program}{w:World}{X:Cx}:gC (CXE P w) X (λ_ _ _ _=>False):=λ_ _ _ _ _ _ _ ⟨_,_,_,_,_,_,_,_,_,q⟩=>q.elim
section
variable{X:Cx}{scope:Scope}{cl:List (Str×Addr)}{x:Str}{idx:List Nat}{NC:List Str}{pins:List (Addr×Obj)}{σ:St}{H:Hp}{s:Shared}
end
theorem O7:∀ {us:List Value} {ks:List Int},us.length=ks.length→(∀(j:Nat) (v:Value),us[j]?=some v→∃ t,v=Value.int (ks.getD j 0) t)→IntsAre us ks
 | [],[],_,_=>.nil
 | [],_::_,h,_=>by simp at h
 | _::_,[],h,_=>by simp at h
 | u::us,k::ks,h,f=>by
  obtain⟨t,e⟩:=f 0 u rfl;subst e;exact .cons k t (O7 (by simpa using h) λj v q=>f (j+1) v q)
section
variable{X:Cx}
theorem IT{P:Program}{w:World}{vs:List (Key×Value)}{ks:List Int}{acc:Array Value}(hk:vs.map (·.1)=ks.map Sum.inl)(ha:acc.size=vs.length)(h:∀(j:Nat) (v:Value),acc[j]?=some v→∃ k x,vs[j]?=some (k,x)∧(cL P w).is k v=true):IntsAre acc.toList ks:=by
 have hl:vs.length=ks.length:=by
  have:=congrArg List.length hk
  simpa using this
 refine O7 (by rw[aiX];omega) λj v e=>?_;obtain⟨k,x,h1,h2⟩:=h j v (by rw[←ajz];exact e);have h3:(vs.map (·.1))[j]?=some k:=by rw[aiW,h1];rfl
 rw[hk,aiW]at h3;obtain⟨i,hi,rfl⟩:=aiZ.mp h3;have h4:sJ (.inl i) v=true:=h2;rcases cf h4 with⟨i',t,e1,e2⟩|⟨y,t,e1,_⟩
 ·injection e1 with e1
  subst e1;exact⟨t,by rw[e2];simp[List.getD,hi]⟩
 ·cases e1
end
theorem IU{xs ys:List Int}(p:xs.Perm ys)(hx:xs.Pairwise (·≤·))(hy:ys.Pairwise (·≤·)):xs=ys :=
 p.eq_of_pairwise (λa b _ _ h1 h2=>Int.le_antisymm h1 h2) hx hy
theorem SJ{v:V}(h:m9 v=true):eqV v v=true:=by
 cases v with
 | non=>rfl
 | bl b=>cases b<;>rfl
 | int n=>simp[eqV]
 | str z=>simp[eqV]
 | _=>exact absurd (show false=true from h) aiO
section
variable{X:Cx}
end
section
variable{X:Cx}{tg:Expr}
theorem PS.nox{st:Stmt}{t:TS}(h:PS X.nox st t):PS X st t:=λpins s σ H D I hw =>
 wpAny_mono (h pins s σ H D (I.Ky _) hw) (λ_ _ q=>q.ud) λ_ _ z=>False.elim z
end
section
variable{X:Cx}{scope:Scope}{cl:List (Str×Addr)}{x:Str}{idx:List Nat}{NC:List Str}{pins:List (Addr×Obj)}{σ:St}{H:Hp}{s:Shared}
theorem RT{i:Nat}{y:Str}{elt iter ct:Expr}{px py pos Uv:Pos}{wi:TI}{tc:TT}{te:TE}(hN:X.N.Nodup)(hi':X.N[i]?=some y)(hx:X.env.scope.names.lookup y=some .local)(c:BO X scope cl x idx NC)(hc:X.calm=true)(hi:PI X (.Name x px) iter wi)
  (ht:∀ C fp s₀ H₀,PT (cxC X scope cl NC C fp s₀ H₀) ct tc) (he:∀ C fp s₀ H₀,PE (cxC X scope cl NC C fp s₀ H₀) elt te) (hsw:swapsWith (.ListComp elt [⟨.Name x px,iter,[ct],0⟩] scope pos) (some (.Name y py)) Uv.line X.env=pure true:=by rfl)
  (hs:∀ x,foldedSetIterable iter X.env x=pure x:=by intro _;rfl):PS X (.Assign [.Name y py] (.ListComp elt [⟨.Name x px,iter,[ct],0⟩] scope pos) Uv) (Sr (SI wi idx tc te) (qo i)):=by
 intro pins s σ H D0 I h;rw[exec_Assign_Name_used _ _ _ _ hsw];refine wpAny_bind (wpAny_standAt (wpAny_bind ?_));show wpAny _ _ (do let _ ←comprehension (.ListComp elt [⟨.Name x px,iter,[ct],0⟩] scope pos) scope X.env _ (newList []) false (eval iter X.env) (some (assign (.Name y py) X.env))) _ _ s
 refine wpAny_bind (wpAny_mono (wpAny_comprehension_free (use:=some (assign (.Name y py) X.env)) (Q:=λ_ s'=>SP X pins D0 .next s') rfl hs c.YL c.kind c.loc
  (thn (hi pins s σ H _ I h) λv s1 h1=>thn h1 λitv s2 h2=>?_)) (λ_ s' hq=>wpAny_pure (wpAny_pure hq)) λ_ _ e=>e)
 obtain⟨it,fp,tn,J,H2,rfl,I2,T,st2,f2,q⟩:=h2;refine wpAny_newObj_type (wpAny_newFunctionEnv c.OG (by intro y hy;simp at hy) (λh₁ hns₁ hsb₁=>?_) c.kind);dsimp only at hns₁ hsb₁ ⊢;have I3:Inv X pins σ (upd H2 s2.heap.objs.size (.lst [])) {s2 with heap:=s2.heap.push {cls:=.type "list",data:=.seq ([]:List Value).toArray},toks:=s2.toks}:=I2.Ud (ys:=[]) (its:=[]) .nil (ajk _);obtain⟨W,⟨m0,w0⟩,turn⟩:=q s2.heap.objs.size I2.fresh;generalize hD:s2.heap.objs.size=D at *;generalize hH:s2.heap.push {cls:=.type "list",data:=.seq ([]:List Value).toArray}=h3 at *;have O5:∀ b∈fp,b<D:=λb hb=>by
  obtain⟨o,e,_⟩:=T.obj _ _ st2 b hb;rw[←hD];exact aiT e
 have hlt:∀ b∈fp,b<h3.objs.size:=λb hb=>by
  rw[←hH,akc,hD];exact akm (O5 b hb)
 have hf:∀ b∈fp,Gv X pins (upd H2 D (.lst [])) b:=λb hb=>⟨by rw[ag (ai6 (O5 b hb))];exact(f2 b hb).1,(f2 b hb).2⟩;have kp:∀ b o,h3.get? b=some o→h₁.get? b=some o:=λb o e=>hsb₁.extBut b o (ai6 (aiT e)) (aiL _ e);have I4:Inv (cxC X scope cl NC h3.objs.size fp {s2 with heap:=h3,toks:=s2.toks} (upd H2 D (.lst []))) [] (none::vA σ idx) (upd H2 D (.lst [])) {s2 with heap:=h₁,toks:=s2.toks+([]:List (Str×Value)).length} :=
  Hl (s:={s2 with heap:=h3,toks:=s2.toks}) c I3 hf hlt hns₁ kp
 have Fv:∀ {H':Hp},(∀ b∈fp,H' b=none)→∀ b∈fp,Gv (cxC X scope cl NC h3.objs.size fp {s2 with heap:=h3,toks:=s2.toks} (upd H2 D (.lst []))) [] H' b:=λhn b hb =>
  ⟨hn b hb,ai6 (hlt b hb),λz=>(aiY.mp (I3.BN b z)).elim (hf b hb).2.1 (hf b hb).2.2.1,.inl hb,λy a q=>(hf b hb).2.2.2.2.1 y a (c.sub _ _ q),λp hp=>(by cases hp)⟩
 have st1:tn 0 h₁:=T.keep 0 _ _ st2 λb hb o e=>kp b o (by rw[←hH];exact aiL _ e);have loop:∀ s4:Shared,s4={s2 with heap:=h₁,toks:=s2.toks+([]:List (Str×Value)).length} →
   codeAny (model X.prog X.w) X.A (.compLoop (.ListComp elt [⟨.Name x px,iter,[ct],0⟩] scope pos) 0 (.ref it) (.ref D) (compEnvC scope cl h3.objs.size X.env)) (compPost (model X.prog X.w) X.A X.xe (some (assign (.Name y py) X.env)) (λ_ s'=>SP X pins D0 .next s') (.ref D) h3.objs.size) s4:=by
  rintro s4 rfl;refine xa (λn s'=>∃ i ys H' v0,Inv (cxC X scope cl NC h3.objs.size fp {s2 with heap:=h3,toks:=s2.toks} (upd H2 D (.lst []))) [] (v0::vA σ idx) H' s'∧tn i s'.heap∧(∀ b∈fp,H' b=none)∧W i n ys H')
   ?_ m0 ⟨0,[],_,none,I4,st1,λb hb=>(hf b hb).1,w0⟩
  rintro n s5 ⟨i5,ys,H5,v0,I5,st5,fr5,w5⟩;obtain⟨hDl,alt⟩:=turn i5 n ys H5 w5;rcases alt with⟨stop,qn⟩|⟨go,hz,N,hN',step⟩
  ·refine thn (T.done (cxC X scope cl NC h3.objs.size fp {s2 with heap:=h3,toks:=s2.toks} (upd H2 D (.lst []))) rfl rfl rfl hc i5 [] s5 _ H5 _ I5 (Fv fr5) st5 stop) λr s6 ⟨hr,I6⟩=>?_
   subst hr;obtain⟨m,ns6,_⟩:=id I6.loc;have J6:Inv X pins σ H5 s6:=I3.Na (ch:=fp) I6.os I6.base I6.hok I6.bare λb hb=>⟨(hf b hb).2.2.2.1,(hf b hb).2.1,(hf b hb).2.2.2.2.1,(hf b hb).2.2.2.2.2⟩;have fC:Gv X pins H5 h3.objs.size:=I3.T2 (aiN _) I6.free;obtain⟨o,es,ep,ho,rr⟩:=ns6;have od:∀ v,o.data≠.cell v:=λv z=>by
    rw[rr.1]at z;cases z
   show wpAny _ _ (assign (.Name y py) X.env (.ref D)) (λ_ s''=>∃ m,s''.heap.Ns h3.objs.size m∧∀ h',Heap.SameBut h3.objs.size s''.heap h'→SP X pins D0 .next {s'' with heap:=h'}) X.xe s6;have J7:=J6.pinned (fp:=[h3.objs.size]) (λb hb=>by rw[aiJ.mp hb];exact fC) (λb hb=>by rw[aiJ.mp hb];exact⟨o,ho,od⟩);refine wpAny_mono (gb (pos:=py) hN hi' (.inl hx) (.inr hx) _ s6 _ H5 (.ref D) (.ref D) D0.nx J7 rfl qn) (λ_ s7 ⟨σ7,H7,I7,q7⟩=>?_) (λ_ _ z=>z);have pC:=I7.pin (h3.objs.size,o) (aiP _ (aiP _ (iH (aiJ.mpr rfl) ho)));refine⟨m,⟨o,es,ep,pC.1,rr⟩,λh' hs'=>⟨σ7,H7,?_,q7⟩⟩;exact I7.pP.turned (t':=s7.toks) (it:=h3.objs.size) (λb o hb e=>hs'.extBut b o hb e) pC.2.1 fC.2.1 fC.2.2.2.1 fC.2.2.2.2.1 fC.2.2.2.2.2
  ·refine thn (T.item (cxC X scope cl NC h3.objs.size fp {s2 with heap:=h3,toks:=s2.toks} (upd H2 D (.lst []))) rfl rfl rfl hc i5 [] s5 _ H5 _ I5 (Fv fr5) st5 go) λr s6 ⟨u,hr,h6⟩=>?_
   subst hr;refine thn h6 λ_ s7 ⟨y,H7,I7,r7,y7,st7,fr7⟩=>?_;have I7':=I7.pinned (Fv fr7) (T.obj _ _ st7);have hnl:(relabel scope X.env).names.lookup x=some .local:=lookup_relabel_local c.xl;refine wpAny_mono (gb (X:=cxC X scope cl NC h3.objs.size fp {s2 with heap:=h3,toks:=s2.toks} (upd H2 D (.lst []))) (i:=0) (x:=x) (pos:=px) c.nd (by show NC[0]?=some x;rw[c.nc];rfl) (.inl hnl) (.inr hnl) _ s7 _ H7 y u
    (λσ' H'=>σ'=some y::vA σ idx∧H'=H7) I7' r7 ⟨rfl,rfl⟩) (λ_ s8 ⟨σ8,H8,I8,e8,e8'⟩=>?_) λ_ _ z=>z.elim
   subst e8 e8';refine wpAny_mono (ht _ _ _ _ _ s8 _ H8 _ I8 (step y H8 y7)) (λbb s11 ⟨H11,I11,q11⟩=>?_) λ_ _ z=>z.elim;have fin:∀ {H12:Hp} {s12:Shared} {zs:List V} {m':Nat},Inv (cxC X scope cl NC h3.objs.size fp {s2 with heap:=h3,toks:=s2.toks} (upd H2 D (.lst []))) ([]++Fo fp s7.heap) (some y::vA σ idx) H12 s12→m'<n→W (i5+1) m' zs H12 →
     ∃ m,m<n∧∃ i ys H' v0,Inv (cxC X scope cl NC h3.objs.size fp {s2 with heap:=h3,toks:=s2.toks} (upd H2 D (.lst []))) [] (v0::vA σ idx) H' s12∧tn i s12.heap∧(∀ b∈fp,H' b=none)∧W i m ys H':=λ{H12 s12 zs m'} I12 hm w12=>by
    refine⟨m',hm,i5+1,zs,_,some y,I12.pP,T.keep _ _ _ st7 λb hb o e=>(I12.pin (b,o) (aiP _ (aiP _ (iH hb e)))).1,λb hb=>?_,w12⟩;obtain⟨o,e,d⟩:=T.obj _ _ st7 b hb;exact(I12.pin (b,o) (aiP _ (aiP _ (iH hb e)))).2.1
   cases bb with
   | false =>
    obtain⟨m',hm,w9⟩:=hN' _ _ q11;exact fin I11 hm w9
   | true =>
    refine wpAny_mono (he _ _ _ _ _ s11 _ H11 _ I11 q11) (λw s9 ⟨v,H9,I9,r9,hD9,n9⟩=>?_) λ_ _ z=>z.elim;obtain⟨m',hm,w9⟩:=hN' _ _ n9;refine wpAny_mono (Hm (X:=(cxC X scope cl NC h3.objs.size fp {s2 with heap:=h3,toks:=s2.toks} (upd H2 D (.lst [])))) I9 hD9 hz r9) (λ_ s10 I10=>?_) λ_ _ z=>z.elim;exact fin I10 hm w9
 exact codeAny_compStart_list (loop _ rfl) (T.self _ 0 _ _ _ st1 (loop _ rfl))
noncomputable def KC(J:It)(D:Addr)(τ:St)(tc:TT)(te:TE)(Q:VK)(H:Hp):Prop:=∃ W:Nat→Nat→List V→Hp→Prop,(∃ m,W 0 m [] H)∧∀ i m ys H2,W i m ys H2→H2 D=some (.lst ys) ∧
 ((J.stop i H2∧Q (.ref D) H2)∨(J.go i H2∧ys.length<sizeLine∧∃ N:List V→Hp→Prop,(∀ zs H',N zs H'→∃ m',m'<m∧W (i+1) m' zs H')∧∀ y H3,J.yld i H2 y H3→tc (some y::τ) H3 λb H4=>if b=true then te (some y::τ) H4 λv H5=>H5 D=some (.lst ys)∧N (ys++[v]) (upd H5 D (.lst (ys++[v])))
  else N ys H4))
noncomputable def SK(wi:TI)(idx:List Nat)(tc:TT)(te:TE):TE:=λσ H Q=>wi σ H λJ H1=>∀ D,H1 D=none→KC J D (vA σ idx) tc te Q (upd H1 D (.lst []))
theorem Mu{i:Nat}{y:Str}{elt iter ct:Expr}{px py pos Uv:Pos}{wi:TI}{tc:TT}{te:TE}(hN:X.N.Nodup)(hi':X.N[i]?=some y)(hx:X.env.scope.names.lookup y=some .local)(c:BO X scope cl x idx NC)(hc:X.calm=true)(hi:PI X (.Name x px) iter wi)
  (ht:∀ C fp s₀ H₀,PT (cxC X scope cl NC C fp s₀ H₀) ct tc) (he:∀ C fp s₀ H₀,PE (cxC X scope cl NC C fp s₀ H₀) elt te) (hsw:swapsWith (.ListComp elt [⟨.Name x px,iter,[ct],0⟩] scope pos) (some (.Name y py)) Uv.line X.env=pure true:=by rfl)
  (hs:∀ x,foldedSetIterable iter X.env x=pure x:=by intro _;rfl):PS X (.Assign [.Name y py] (.ListComp elt [⟨.Name x px,iter,[ct],0⟩] scope pos) Uv) (Sr (SK wi idx tc te) (qo i)) :=
 RT hN hi' hx c hc hi ht he hsw hs
theorem pS{elt iter ct:Expr}{px pos:Pos}{wi:TI}{tc:TT}{te:TE}(c:BO X scope cl x idx NC)(hc:X.calm=true)(hi:PI X (.Name x px) iter wi)(ht:∀ C fp s₀ H₀,PT (cxC X scope cl NC C fp s₀ H₀) ct tc)(he:∀ C fp s₀ H₀,PE (cxC X scope cl NC C fp s₀ H₀) elt te)
  (hs:∀ x,foldedSetIterable iter X.env x=pure x:=by intro _;rfl):PE X (.ListComp elt [⟨.Name x px,iter,[ct],0⟩] scope pos) (SK wi idx tc te) :=
 RS c hc hi ht he hs
end
theorem jd{K:W.Frag}{a:Addr}{xs:List V}{tc:TT}{te:TE}{Q:VK}{D:Addr}{τ:St}{H:Hp}(Pv:Nat→List V→Hp→Prop)(h0:Pv 0 [] H)(hD:∀ i ys H,i≤xs.length→Pv i ys H→H D=some (.lst ys)∧ys.length≤i)(hl:∀ i ys H,i≤xs.length→Pv i ys H→SqL K H a xs)(hn:xs.length≤sizeLine)
  (hs:∀ i x ys H,xs[i]?=some x→Pv i ys H→tc (some x::τ) H λb H4=>if b=true then te (some x::τ) H4 λv H5=>H5 D=some (.lst ys)∧Pv (i+1) (ys++[v]) (upd H5 D (.lst (ys++[v]))) else Pv (i+1) ys H4)
  (hd:∀ ys H,Pv xs.length ys H→Q (.ref D) H):KC (Itl K a) D τ tc te Q H:=by
 refine⟨λi m ys H=>m=xs.length-i∧i≤xs.length∧Pv i ys H,⟨xs.length,by simp,ajk _,h0⟩,?_⟩;rintro i m ys H2 ⟨rfl,hi,p⟩;obtain⟨d1,d2⟩:=hD i ys H2 hi p;refine⟨d1,?_⟩;have hS:=hl i ys H2 hi p;by_cases hlt:i<xs.length
 ·refine .inr ⟨⟨xs,xs[i],hS,aiK hlt⟩,by omega,Pv (i+1),λzs H' p'=>⟨xs.length-(i+1),by omega,rfl,hlt,p'⟩,λy H3 q=>?_⟩
  obtain⟨e1,e2⟩:=q;subst e1;exact hs i y ys _ (e2 xs (hl i ys _ hi p)) p
 ·have e:i=xs.length:=by omega
  subst e;exact .inl ⟨⟨xs,hS,aiN _⟩,hd ys H2 p⟩
end L2
end
section
namespace L2
open PySem PySem.Spec PyProof.Rows LX
section
variable{P:Program}{w:World}{A:Around}{E:Value→Shared→Prop}{s:Shared}{a:Addr}{S:Int→Bool}{n:Nat}
end
end L2
end
section
namespace L2
open PySem PySem.Spec PyProof.Rows LX
section
variable{P:Program}{w:World}{A:Around}{R:Result→Shared→Prop}{I:Addr}{fp wr:List Addr}{G:Array GenState→Array GenState→Prop}{n:Nat}{p:Nat→Value→Prop}{St:Nat→Shared→Prop}
end
section
variable{P:Program}{w:World}{A:Around}{E:Value→Shared→Prop}{s:Shared}
end
section
variable{P:Program}{w:World}{A:Around}{E:Value→Shared→Prop}{s:Shared}{it a:Addr}{first:Value}{i n ep:Nat}
end
section
variable{P:Program}{w:World}{A:Around}{E:Value→Shared→Prop}{s:Shared}{it a:Addr}{first:Value}{i n ep:Nat}{es:Array (Int×Value)}{t:SetTable}
end
section
variable{P:Program}{w:World}{A:Around}{E:Value→Shared→Prop}{s:Shared}{I a:Addr}{ep:Nat}{es:Array (Int×Value)}{t:SetTable}{sl:Nat→Nat}{vs:List Value}
end
end L2
end
section
namespace L2
open PySem PySem.Spec PyProof.Rows LX PySem.W
section
variable{P:Program}{w:World}{A:Around}{E:Value→Shared→Prop}{s:Shared}{a:Addr}{ep:Nat}{es:Array (Int×Value)}{t:SetTable}
end
section
variable{P:Program}{w:World}{A:Around}{E:Value→Shared→Prop}{s:Shared}{a:Addr}{ep:Nat}{es:Array (Int×Value)}{t:SetTable}
end
section
variable{X:Cx}
end
end L2
end
section
namespace L2
open PySem PySem.Spec PyProof.Rows LX
section
variable{X:Cx}{pins:List (Addr×Obj)}{σ:St}{H:Hp}{s:Shared}{d:Addr}{kvs:List (Key×V)}
theorem Inv.frozen(I:Inv X pins σ H s)(hd:H d=some (.dK kvs)):∃ o,Inv X pins σ (upd H d (.frz o (.dK kvs))) s:=by
 obtain⟨hz,h0,vs,rel,o,es,ep,ho,r⟩:=Ts I.hok hd;have nn:∀ {b:Addr},H b=none→upd H d (.frz o (.dK kvs)) b=none:=λ{b} q=>by
  rw[ag λz=>by rw[z,hd]at q;cases q];exact q
 have ns:∀ {b:Addr} {u:HO},H b=some u→u≠.dK kvs→upd H d (.frz o (.dK kvs)) b=some u:=λ{b u} q n=>by
  rw[ag λz=>n (by rw[z,hd]at q;exact(aja q).symm)];exact q
 refine⟨o,I.ok,I.os,I.bare,⟨I.base.keep,I.base.slot,λb ob q n e=>nn (I.base.free b ob q n e),I.base.there,λb xs q=>ns (I.base.Gr b xs q) (by intro z;cases z),λb ob u q=>ns (I.base.Fu b ob u q) (by intro z;cases z),λb ps q=>?_⟩,I.loc,I.cell,nn I.free,λx c q=>nn (I.m7 x c q),λp hp=>?_,λa u q=>?_,I.len⟩
 ·obtain⟨more,q'⟩:=I.base.Gu b ps q
  exact⟨more,ns q' (by intro z;cases z)⟩
 ·obtain⟨p1,p2,p3⟩:=I.pin p hp
  exact⟨p1,nn p2,p3⟩
 ·have st:∀ {a:Addr} {u:HO},fg X.prog X.w H s.heap a u→fg X.prog X.w (upd H d (.frz o (.dK kvs))) s.heap a u:=λx=>x.Kx (λ_ _ _ z=>z) (λb z=>ns z (by intro y;cases y)) λb xs z=>ns z (by intro y;cases y)
  by_cases e:a=d
  ·subst e
   rw[ah]at q;cases q;exact⟨ho,st (I.hok a _ hd)⟩
  ·rw[ag e]at q
   exact st (I.hok a u q)
noncomputable def ah8(te:TE):TE:=λσ H Q=>te σ H λv H1=>∃ d kvs,H1 d=some (.dK kvs)∧∀ o,Q v (upd H1 d (.frz o (.dK kvs)))
theorem Fs{e:Expr}{te:TE}(h:PE X e te):PE X e (ah8 te):=by
 intro pins s σ H Q I t;refine wpAny_mono (h pins s σ H _ I t) (λu s1 ⟨v,H1,I1,r,q⟩=>?_) λ_ _ z=>z;obtain⟨d,kvs,hd,q⟩:=q;obtain⟨o,I2⟩:=I1.frozen hd;exact⟨v,_,I2,r,q o⟩
noncomputable def Itd(d:Addr)(o:Obj)(kvs:List (Key×V)):It :=
 ⟨λi H=>H d=some (.frz o (.dK kvs))∧i<kvs.length,λi H x H'=>H'=H∧∃ p,kvs[i]?=some p∧x=kV p.1,λi H=>H d=some (.frz o (.dK kvs))∧kvs.length≤i⟩
theorem Wv{P:Program}{w:World}{k:Key}{u:Value}(h:(cL P w).is k u=true):RelV (kV k) u:=by
 have h4:sJ k u=true:=h;rcases cf h4 with⟨i,t,e1,e2⟩|⟨y,t,e1,e2⟩
 ·subst e1 e2
  exact⟨t,rfl⟩
 ·subst e1 e2
  exact⟨t,rfl⟩
theorem OI{o:Obj}(I:Inv X pins σ H s)(hd:H d=some (.frz o (.dK kvs))){es:Array DictEntry}{ep:Nat}(eo:o.data=.dict es ep):kvs.length≤sizeLine∧(d == sysModules)=false∧∃ vs,KV kvs vs∧s.heap.DictAt (cL X.prog X.w) d vs ep:=by
 obtain⟨ho,hz,h0,vs,rel,o',es',ep',ho',c1,c2,c3⟩:=(show fg X.prog X.w H s.heap d (.frz o (.dK kvs)) from I.hok d _ hd);have e:o'=o:=aja (ho'.symm.trans ho);subst e;rw[eo]at c2;injection c2 with e1 e2;subst e1 e2;exact⟨hz,h0,vs,rel,o',es,ho',c1,eo,c3⟩
theorem RU{o:Obj}(I:Inv X pins σ H s)(hd:H d=some (.frz o (.dK kvs))):∃ es ep,o.data=.dict es ep:=by
 obtain⟨ho,hz,h0,vs,rel,o',es',ep',ho',c1,c2,c3⟩:=(show fg X.prog X.w H s.heap d (.frz o (.dK kvs)) from I.hok d _ hd);have e:o'=o:=aja (ho'.symm.trans ho);subst e;exact⟨es',ep',c2⟩
theorem SM:∀ {kvs:List (Key×V)} {vs:List (Key×Value)},KV kvs vs→∀ {i:Nat} {p:Key×V},kvs[i]?=some p→∃ x,vs[i]?=some (p.1,x)
 | _,_,.nil,_,_,h=>by simp at h
 | (k,v)::_,(k',x)::_,.cons a r,0,p,h=>by
  have h1:(k,v)=p:=by simpa using h
  subst h1;obtain⟨e,_⟩:=a;have e':k=k':=e;subst e';exact⟨x,rfl⟩
 | _::_,_::_,.cons _ r,i+1,p,h=>by
  have:=SM r (i:=i) (p:=p) (by simpa using h)
  simpa using this
theorem QE{P:Program}{w:World}{K:W.Frag}{tg:Expr}(d it:Addr)(o:Obj)(kvs:List (Key×V))(ne:d≠it):Turn P w K tg (Itd d o kvs) [it] it (λi h=>∃ es ep,o.data=.dict es ep∧h.IsKeyIter it d i kvs.length ep) where
 mem:=by simp
 obj:=λi h st b hb=>by
  have e:b=it:=by simpa using hb
  subst e;obtain⟨es,ep,_,o,e,c,d⟩:=st;exact⟨o,e,λv z=>by rw[d]at z;cases z⟩
 keep:=λi h h' ⟨es,ep,eo,st⟩ k=>⟨es,ep,eo,st.at λo e=>k it (by simp) o e⟩
 item:=by
  rintro X hP hw hK hc i pins s σ H E I hf ⟨es,ep,eo,st⟩ ⟨hd,hi⟩;subst hP hw hK;obtain⟨hz,h0,vs,rel,hat⟩:=OI I hd eo;have hl:=rel.length;obtain⟨x,hx⟩:=SM rel (aiK hi);obtain⟨f0,f1,f2,f3,f4,f5⟩:=hf it (by simp);rw[hl]at st;refine wpAny_pyNext_dict_item st hat hx λkey h' hk st' sb=>?_;have I1:Inv X pins σ H {s with heap:=h'}:=I.turned (t':=s.toks) (λb o hb e=>(sb.2 b hb).trans e) f0 f1 f3 f4 f5;exact⟨key,rfl,letGo_keyiter (s':={s with heap:=h'}) st' ⟨kV (kvs[i]'hi).1,H,I1,Wv hk,⟨rfl,_,aiK hi,rfl⟩,⟨es,ep,eo,by rw[hl];exact st'⟩,λb hb=>(hf b hb).1⟩⟩
 done:=by
  rintro X hP hw hK hc i pins s σ H E I hf ⟨es,ep,eo,st⟩ ⟨hd,hi⟩;subst hP hw hK;obtain⟨hz,h0,vs,rel,hat⟩:=OI I hd eo;have hl:=rel.length;obtain⟨f0,f1,f2,f3,f4,f5⟩:=hf it (by simp);rw[hl]at st;exact wpAny_pyNext_dict_end (I.ok.hd hc) st hat (List.getElem?_eq_none (by omega)) λh' eb=>⟨rfl,I.turned (t':=s.toks) (λb o hb e=>eb b o hb e) f0 f1 f3 f4 f5⟩
 self:=λ_ _ _ _ _ ⟨_,_,_,st⟩ h=>wpAny_pyIter_keyiter st h
noncomputable def Zo(td:TE):TI:=λσ H R=>td σ H λx H1=>∃ d o kvs,x=.ref d∧H1 d=some (.frz o (.dK kvs))∧R (Itd d o kvs) H1
theorem xb{tg l:Expr}{tl:TE}(hl:PE X l tl):PI X tg l (Zo tl):=by
 intro pins s σ H R I h;refine thn (hl pins s σ H _ I h) λv s1 ⟨x,H1,I1,r1,q1⟩=>?_;obtain⟨d,o,kvs,e,hd,q⟩:=q1;subst e;cases r1;obtain⟨es,ep,eo⟩:=RU I1 hd;obtain⟨hz,h0,vs,rel,hat⟩:=OI I1 hd eo;have hl:=rel.length;refine wpAny_pyIter_dict h0 hat ?_;rw[←hl];refine⟨s1.heap.objs.size,[s1.heap.objs.size],_,_,H1,rfl,I1.kept (t':=s1.toks) λb o e=>aiL _ e,QE d _ o kvs (ai6 hat.lt_size),⟨es,ep,eo,_,ajh _ rfl,rfl,rfl⟩,λb hb=>?_,q⟩;have e:b=s1.heap.objs.size:=by simpa using hb
 subst e;exact I1.T2 (aiN _) (I1.hok.fresh (aiN _))
end
theorem BY{d:Addr}{o:Obj}{kvs:List (Key×V)}{g:TG}{tb:TS}{D:Ends}{σ:St}{H:Hp}(Pv:Nat→St→Hp→Prop)(h0:Pv 0 σ H)(hl:∀ i σ H,i≤kvs.length→Pv i σ H→H d=some (.frz o (.dK kvs)))
  (hs:∀ i p σ H,kvs[i]?=some p→Pv i σ H→g (kV p.1) σ H λσ2 H2=>tb {D with nx:=Pv (i+1),ct:=Pv (i+1),bk:=D.nx} σ2 H2) (hd:∀ σ H,Pv kvs.length σ H→D.nx σ H) :
  ∃ W:Nat→Nat→St→Hp→Prop,(∃ m,W 0 m σ H)∧∀ i m σ H,W i m σ H →
   ((Itd d o kvs).stop i H∧D.nx σ H)∨((Itd d o kvs).go i H∧∃ N:St→Hp→Prop,(∀ σ' H',N σ' H'→∃ m',m'<m∧W (i+1) m' σ' H')∧∀ x H',(Itd d o kvs).yld i H x H'→g x σ H' λσ2 H2=>tb {D with nx:=N,ct:=N,bk:=D.nx} σ2 H2):=by
 refine⟨λi m σ H=>m=kvs.length-i∧i≤kvs.length∧Pv i σ H,⟨kvs.length,by simp,ajk _,h0⟩,?_⟩;rintro i m σ H ⟨rfl,hi,p⟩;by_cases hlt:i<kvs.length
 ·refine .inr ⟨⟨hl i σ H hi p,hlt⟩,Pv (i+1),λσ' H' p'=>⟨kvs.length-(i+1),by omega,rfl,hlt,p'⟩,λx H' y=>?_⟩
  obtain⟨e1,q,e2,e3⟩:=y;subst e1 e3;exact hs i q σ _ e2 p
 ·have e:i=kvs.length:=by omega
  subst e;exact .inl ⟨⟨hl _ σ H hi p,aiN _⟩,hd σ H p⟩
section
variable{X:Cx}
end
section
variable{X:Cx}{pins:List (Addr×Obj)}{σ:St}{H:Hp}{s:Shared}
end
section
variable{X:Cx}
end
section
variable{X:Cx}
noncomputable def Ww:List V→Hp→VK→Prop:=λvs H Q=>∃(p:Addr) (kvs:List (Key×V)) (ks:List Int),vs=[.ref p]∧Rd H p (.dK kvs)∧kvs.map (·.1)=ks.map Sum.inl∧∀ l:Addr,H l=none→Q (.ref l) (upd H l (.lst (ks.map V.int)))
theorem GG(hc:X.calm=true):qq X (.type "list") Ww:=by
 rintro pins s σ H xs us Q I r ⟨p,kvs,ks,rfl,hp,hk,q⟩;obtain⟨u,rfl,ru⟩:=r.one;cases (show u=Value.ref p from ru);obtain⟨hz,hd,vs,rel,dd⟩:=zj I.hok hp;obtain⟨ep,hat⟩:=dd.dictAt;have hl:ks.length=kvs.length:=by
  have:=congrArg List.length hk
  simpa using this.symm
 refine PySem.W.kdl_call (PySem.W.kdl_dict (knd:=cL X.prog X.w) (kvs:=vs) (ep:=ep) hd) (I.ok.hd hc) hat (by rw[←rel.length];exact hz) λh' tk acc c hkp hS hacc=>?_;have hI:IntsAre acc.toList ks:=IT (by rw[←rel.keys];exact hk) hacc.1 hacc.2;refine⟨.ref s.heap.objs.size,_,I.laid (a:=s.heap.objs.size) (o:=.lst (ks.map V.int)) (t':=tk) hkp (aiN _) ?_,rfl,q _ (I.hok.fresh (aiN _))⟩;refine⟨by rw[aiI,hl];exact hz,acc.toList,c,mL hI,?_⟩;rw[hS]
end
section
variable{X:Cx}
end
theorem Np{d:Addr}{o:Obj}{kvs:List (Key×V)}{tc:TT}{te:TE}{Q:VK}{D:Addr}{τ:St}{H:Hp}(Pv:Nat→List V→Hp→Prop)(h0:Pv 0 [] H)(hD:∀ i ys H,i≤kvs.length→Pv i ys H→H D=some (.lst ys)∧ys.length≤i)(hl:∀ i ys H,i≤kvs.length→Pv i ys H→H d=some (.frz o (.dK kvs)))(hn:kvs.length≤sizeLine)
  (hs:∀ i p ys H,kvs[i]?=some p→Pv i ys H→tc (some (kV p.1)::τ) H λb H4=>if b=true then te (some (kV p.1)::τ) H4 λv H5=>H5 D=some (.lst ys)∧Pv (i+1) (ys++[v]) (upd H5 D (.lst (ys++[v]))) else Pv (i+1) ys H4)
  (hd:∀ ys H,Pv kvs.length ys H→Q (.ref D) H):KC (Itd d o kvs) D τ tc te Q H:=by
 refine⟨λi m ys H=>m=kvs.length-i∧i≤kvs.length∧Pv i ys H,⟨kvs.length,by simp,ajk _,h0⟩,?_⟩;rintro i m ys H2 ⟨rfl,hi,p⟩;obtain⟨d1,d2⟩:=hD i ys H2 hi p;refine⟨d1,?_⟩;have hS:=hl i ys H2 hi p;by_cases hlt:i<kvs.length
 ·refine .inr ⟨⟨hS,hlt⟩,by omega,Pv (i+1),λzs H' p'=>⟨kvs.length-(i+1),by omega,rfl,hlt,p'⟩,λy H3 q=>?_⟩
  obtain⟨e1,q',e2,e3⟩:=q;subst e1 e3;exact hs i q' ys _ e2 p
 ·have e:i=kvs.length:=by omega
  subst e;exact .inl ⟨⟨hS,aiN _⟩,hd ys H2 p⟩
section
variable{P:Program}{w:World}{A:Around}{E:Value→Shared→Prop}
end
section
variable{P:Program}{w:World}{A:Around}{R:Result→Shared→Prop}{KK:Type}[DecidableEq KK]{knd:KeyKind P w KK}
end
section
variable{P:Program}{w:World}{A:Around}{E:Value→Shared→Prop}{KK:Type}[DecidableEq KK]{knd:KeyKind P w KK}
end
section
variable{P:Program}{w:World}{A:Around}{E:Value→Shared→Prop}
end
section
variable{X:Cx}
end
section
variable{X:Cx}
end
inductive Vl where
 | a (v:V)
 | l (xs:List Vl)
 | t (xs:List Vl)
noncomputable def Rp(H:Hp):Nat→V→Vl→Prop
 | 0,v,.a x=>v=x∧m9 x=true
 | 0,_,.l _=>False
 | 0,_,.t _=>False
 | _+1,v,.a x=>v=x∧m9 x=true
 | n+1,v,.l xs=>∃ p us,v=.ref p∧H p=some (.lst us)∧us.length=xs.length∧∀(i:Nat) (u:V) (x:Vl),us[i]?=some u→xs[i]?=some x→Rp H n u x
 | n+1,v,.t xs=>∃ p us,v=.ref p∧H p=some (.tup us)∧us.length=xs.length∧∀(i:Nat) (u:V) (x:Vl),us[i]?=some u→xs[i]?=some x→Rp H n u x
noncomputable def eqD:Nat→Vl→Vl→Bool
 | _,.a x,.a y=>eqV x y
 | n+1,.l xs,.l ys=>(List.range xs.length).all (λi=>match xs[i]?,ys[i]? with|some x,some y=>eqD n x y|_,_=>true)&&xs.length == ys.length
 | n+1,.t xs,.t ys=>(List.range xs.length).all (λi=>match xs[i]?,ys[i]? with|some x,some y=>eqD n x y|_,_=>true)&&xs.length == ys.length
 | _,_,_=>false
theorem Rp.flat{H:Hp}{n:Nat}{x:V}(h:m9 x=true):Rp H n x (.a x):=by cases n<;>exact⟨rfl,h⟩
theorem Rp.GH{H:Hp}{n:Nat}{v x:V}(h:Rp H n v (.a x)):v=x∧m9 x=true:=by cases n<;>exact h
theorem Nq{n:Nat}{x y:V}:eqD n (.a x) (.a y)=eqV x y:=by cases n<;>rfl
theorem SN{H:Hp}{n:Nat}{us:List V}{xs ys:List Vl}(lx:us.length=xs.length)(ly:us.length=ys.length)(h:∀(i:Nat) (x y:Vl),xs[i]?=some x→ys[i]?=some y→eqD n x y=true) :
  ((List.range xs.length).all (λi=>match xs[i]?,ys[i]? with|some x,some y=>eqD n x y|_,_=>true)&&xs.length == ys.length)=true:=by
 rw[akf];refine⟨List.all_eq_true.mpr λi hi=>?_,beq_iff_eq.mpr (by omega)⟩;have hi:=akB.mp hi;have e1:xs[i]?=some xs[i]:=aiK hi;have e2:ys[i]?=some (ys[i]'(by omega)):=aiK (by omega);simp only[e1,e2];exact h i _ _ e1 e2
theorem BZ{H:Hp}:∀ {n:Nat} {v:V} {a b:Vl},Rp H n v a→Rp H n v b→eqD n a b=true:=by
 intro n;induction n with
 | zero =>
  intro v a b ha hb;cases a with
  | a x =>
   cases b with
   | a y =>
    obtain⟨rfl,fx⟩:=ha.GH;obtain⟨rfl,_⟩:=hb.GH;rw[Nq];exact SJ fx
   | l ys=>exact hb.elim
   | t ys=>exact hb.elim
  | l xs=>exact ha.elim
  | t xs=>exact ha.elim
 | succ n ih =>
  intro v a b ha hb;cases a with
  | a x =>
   obtain⟨rfl,fx⟩:=ha.GH;cases b with
   | a y =>
    obtain⟨rfl,_⟩:=hb.GH;rw[Nq];exact SJ fx
   | l ys =>
    obtain⟨p,us,rfl,_⟩:=hb;exact absurd (show false=true from fx) aiO
   | t ys =>
    obtain⟨p,us,rfl,_⟩:=hb;exact absurd (show false=true from fx) aiO
  | l xs =>
   obtain⟨p,us,rfl,hp,hl,hi⟩:=ha;cases b with
   | a y =>
    obtain⟨e,fy⟩:=hb.GH;rw[←e]at fy;exact absurd (show false=true from fy) aiO
   | l ys =>
    obtain⟨q,ws,e,hq,ml,mi⟩:=hb;cases e;rw[hp]at hq;cases hq;exact SN (H:=H) hl ml λi x y e1 e2=>by
     have hiu:i<us.length:=(by rw[hl];exact(aiM.mp e1).1);exact ih (hi i _ x (aiK hiu) e1) (mi i _ y (aiK hiu) e2)
   | t ys =>
    obtain⟨q,ws,e,hq,ml,mi⟩:=hb;cases e;rw[hp]at hq;cases hq
  | t xs =>
   obtain⟨p,us,rfl,hp,hl,hi⟩:=ha;cases b with
   | a y =>
    obtain⟨e,fy⟩:=hb.GH;rw[←e]at fy;exact absurd (show false=true from fy) aiO
   | t ys =>
    obtain⟨q,ws,e,hq,ml,mi⟩:=hb;cases e;rw[hp]at hq;cases hq;exact SN (H:=H) hl ml λi x y e1 e2=>by
     have hiu:i<us.length:=(by rw[hl];exact(aiM.mp e1).1);exact ih (hi i _ x (aiK hiu) e1) (mi i _ y (aiK hiu) e2)
   | l ys =>
    obtain⟨q,ws,e,hq,ml,mi⟩:=hb;cases e;rw[hp]at hq;cases hq
structure RcB(A:Around)(s:Shared)(u v:Value)(b:Bool):Prop where
 eq:SeqAt.RcAt A s u v b
 ne:SeqAt.RcNeAt A s u v (!b)
theorem QF{A:Around}{s:Shared}{y x:V}{u v:Value}(ry:RelV y u)(rx:RelV x v)(fy:m9 y=true)(fx:m9 x=true):RcB A s u v (eqV y x):=by
 cases y with
 | non =>
  cases ry;cases x with
  | non=>cases rx;exact⟨.none_none ,.none_none ⟩
  | bl b=>cases rx;exact⟨.none_bool b,.none_bool b⟩
  | int b=>obtain⟨t,rfl⟩:=rx;exact⟨.none_int b t,.none_int b t⟩
  | str b=>obtain⟨t,rfl⟩:=rx;exact⟨.none_str b t,.none_str b t⟩
  | _=>exact absurd (show false=true from fx) aiO
 | bl a =>
  cases ry;cases x with
  | non=>cases rx;exact⟨.bool_none a,.bool_none a⟩
  | bl b=>cases rx;exact⟨.bool_bool a b,.bool_bool a b⟩
  | int b=>obtain⟨t,rfl⟩:=rx;exact⟨.bool_int a b t,.bool_int a b t⟩
  | str b=>obtain⟨t,rfl⟩:=rx;exact⟨.bool_str a b t,.bool_str a b t⟩
  | _=>exact absurd (show false=true from fx) aiO
 | int a =>
  obtain⟨t',rfl⟩:=ry;cases x with
  | non=>cases rx;exact⟨.int_none a t',.int_none a t'⟩
  | bl b=>cases rx;exact⟨.int_bool a t' b,.int_bool a t' b⟩
  | int b=>obtain⟨t,rfl⟩:=rx;exact⟨.int_int a t' b t,.int_int a t' b t⟩
  | str b=>obtain⟨t,rfl⟩:=rx;exact⟨.int_str a t' b t,.int_str a t' b t⟩
  | _=>exact absurd (show false=true from fx) aiO
 | str a =>
  obtain⟨t',rfl⟩:=ry;cases x with
  | non=>cases rx;exact⟨.str_none a t',.str_none a t'⟩
  | bl b=>cases rx;exact⟨.str_bool a t' b,.str_bool a t' b⟩
  | int b=>obtain⟨t,rfl⟩:=rx;exact⟨.str_int a t' b t,.str_int a t' b t⟩
  | str b=>obtain⟨t,rfl⟩:=rx;exact⟨.str_str a t' b t,.str_str a t' b t⟩
  | _=>exact absurd (show false=true from fx) aiO
 | _=>exact absurd (show false=true from fy) aiO
section
variable{X:Cx}{pins:List (Addr×Obj)}{σ:St}{H:Hp}{s:Shared}
theorem Mv{A:Around}{x:V}{u:Value}{l:Addr}{items:Array Value}(rx:RelV x u)(fx:m9 x=true)(hl:s.heap.IsList l items)(hu:A.units<cLine):RcB A s u (.ref l) false∧RcB A s (.ref l) u false∧SeqAt.EqAt A s u (.ref l) false∧SeqAt.EqAt A s (.ref l) u false:=by
 cases x with
 | non=>cases rx;exact⟨⟨.none_list hl hu,.none_list hl hu⟩,⟨.list_none hl hu,.list_none hl hu⟩,.none_list hl hu,.list_none hl hu⟩
 | bl b=>cases rx;exact⟨⟨.bool_list _ hl hu,.bool_list _ hl hu⟩,⟨.list_bool _ hl hu,.list_bool _ hl hu⟩,.bool_list _ hl hu,.list_bool _ hl hu⟩
 | int n=>obtain⟨t,rfl⟩:=rx;exact⟨⟨.int_list _ _ hl hu,.int_list _ _ hl hu⟩,⟨.list_int _ _ hl hu,.list_int _ _ hl hu⟩,.int_list _ _ hl hu,.list_int _ _ hl hu⟩
 | str z=>obtain⟨t,rfl⟩:=rx;exact⟨⟨.str_list _ _ hl hu,.str_list _ _ hl hu⟩,⟨.list_str _ _ hl hu,.list_str _ _ hl hu⟩,.str_list _ _ hl hu,.list_str _ _ hl hu⟩
 | _=>exact absurd (show false=true from fx) aiO
theorem Mw{A:Around}{x:V}{u:Value}{l:Addr}{items:Array Value}(rx:RelV x u)(fx:m9 x=true)(hl:s.heap.IsTuple l items)(hu:A.units<cLine):RcB A s u (.ref l) false∧RcB A s (.ref l) u false∧SeqAt.EqAt A s u (.ref l) false∧SeqAt.EqAt A s (.ref l) u false:=by
 cases x with
 | non=>cases rx;exact⟨⟨.none_tuple hl hu,.none_tuple hl hu⟩,⟨.tuple_none hl hu,.tuple_none hl hu⟩,.none_tuple hl hu,.tuple_none hl hu⟩
 | bl b=>cases rx;exact⟨⟨.bool_tuple _ hl hu,.bool_tuple _ hl hu⟩,⟨.tuple_bool _ hl hu,.tuple_bool _ hl hu⟩,.bool_tuple _ hl hu,.tuple_bool _ hl hu⟩
 | int n=>obtain⟨t,rfl⟩:=rx;exact⟨⟨.int_tuple _ _ hl hu,.int_tuple _ _ hl hu⟩,⟨.tuple_int _ _ hl hu,.tuple_int _ _ hl hu⟩,.int_tuple _ _ hl hu,.tuple_int _ _ hl hu⟩
 | str z=>obtain⟨t,rfl⟩:=rx;exact⟨⟨.str_tuple _ _ hl hu,.str_tuple _ _ hl hu⟩,⟨.tuple_str _ _ hl hu,.tuple_str _ _ hl hu⟩,.str_tuple _ _ hl hu,.tuple_str _ _ hl hu⟩
 | _=>exact absurd (show false=true from fx) aiO
theorem lst_is(I:Inv X pins σ H s){p:Addr}{us:List V}(h:H p=some (.lst us)):∃ vs,Vals us vs∧s.heap.IsList p vs.toArray:=by
 obtain⟨vs,r,⟨o,n,e,c,_,g⟩,_⟩:=I.list (SqL.of h);exact⟨vs,r,o,e,c,n,g⟩
theorem tup_is(I:Inv X pins σ H s){p:Addr}{us:List V}(h:H p=some (.tup us)):∃ vs,Vals us vs∧s.heap.IsTuple p vs.toArray:=by
 obtain⟨vs,r,t,_⟩:=I.tuple (SqT.of h);exact⟨vs,r,t⟩
theorem rcG(I:Inv X pins σ H s):∀ {n:Nat} {x y:V} {a b:Vl},Rp H n x a→Rp H n y b→∀ {A:Around} {u v:Value},RelV x u→RelV y v→A.units+n<cLine →
  SeqAt.EqAt A s u v (eqD n a b)∧(¬((∃ z,a=.a z)∧∃ z,b=.a z)→RcB A s u v (eqD n a b)):=by
 intro n;induction n with
 | zero =>
  intro x y a b ha hb A u v rx ry hu;cases a with
  | a z =>
   cases b with
   | a z' =>
    obtain⟨rfl,fx⟩:=ha.GH;obtain⟨rfl,fy⟩:=hb.GH;rw[Nq];exact⟨OC rx ry fx fy,λh=>(h ⟨⟨_,rfl⟩,_,rfl⟩).elim⟩
   | _=>exact hb.elim
  | _=>exact ha.elim
 | succ n ih =>
  intro x y a b ha hb A u v rx ry hu;have hu0:A.units<cLine:=by omega
  cases a with
  | a z =>
   obtain⟨rfl,fx⟩:=ha.GH;cases b with
   | a z' =>
    obtain⟨rfl,fy⟩:=hb.GH;rw[Nq];exact⟨OC rx ry fx fy,λh=>(h ⟨⟨_,rfl⟩,_,rfl⟩).elim⟩
   | l ys =>
    obtain⟨q,ws,rfl,hq,_⟩:=hb;obtain⟨vs,_,hl⟩:=lst_is I hq;cases ry;obtain⟨h1,_,h3,_⟩:=Mv rx fx hl hu0;exact⟨h3,λ_=>h1⟩
   | t ys =>
    obtain⟨q,ws,rfl,hq,_⟩:=hb;obtain⟨vs,_,hl⟩:=tup_is I hq;cases ry;obtain⟨h1,_,h3,_⟩:=Mw rx fx hl hu0;exact⟨h3,λ_=>h1⟩
  | l xs =>
   have ha':=ha;obtain⟨p,us,rfl,hp,lx,hx⟩:=ha;obtain⟨vs,r1,hl⟩:=lst_is I hp;cases rx;cases b with
   | a z' =>
    obtain⟨rfl,fy⟩:=hb.GH;obtain⟨_,h2,_,h4⟩:=Mv ry fy hl hu0;exact⟨h4,λ_=>h2⟩
   | l ys =>
    have hb':=hb;obtain⟨q,ws,rfl,hq,ly,hy⟩:=hb;obtain⟨vs2,r2,hl2⟩:=lst_is I hq;cases ry;have l1:=r1.length;have l2:=r2.length;have rc:RcB A s (.ref p) (.ref q) (eqD (n+1) (.l xs) (.l ys)):=by
     by_cases hs:xs.length=ys.length
     ·have he:∀ j (h1:j<vs.toArray.size) (h2:j<vs2.toArray.size),SeqAt.EqAt A.in1 s vs.toArray[j] vs2.toArray[j] (match xs[j]?,ys[j]? with|some x,some y=>eqD n x y|_,_=>true):=λj h1 h2=>by
       simp only[aiQ]at h1 h2;obtain⟨w1,z1,rz1⟩:=r1.get (i:=j) (x:=us[j]'(by omega)) (aiK (by omega));obtain⟨w2,z2,rz2⟩:=r2.get (i:=j) (x:=ws[j]'(by omega)) (aiK (by omega));have a1:vs.toArray[j]=w1:=by
        have:=(aiM.mp z1).2
        simpa using this
       have a2:vs2.toArray[j]=w2:=by
        have:=(aiM.mp z2).2
        simpa using this
       rw[a1,a2];have e1:xs[j]?=some (xs[j]'(by omega)):=aiK (by omega);have e2:ys[j]?=some (ys[j]'(by omega)):=aiK (by omega);simp only[e1,e2];exact(ih (hx j _ _ (aiK (by omega)) e1) (hy j _ _ (aiK (by omega)) e2) rz1 rz2 (by rw[Around.in1_units];omega)).1
      have e:eqD (n+1) (.l xs) (.l ys)=(List.range vs.toArray.size).all (λi=>match xs[i]?,ys[i]? with|some x,some y=>eqD n x y|_,_=>true):=by
       show(_&&_)=_;rw[beq_iff_eq.mpr hs,Bool.and_true];simp only[aiQ];rw[show vs.length=xs.length by omega]
      rw[e];exact⟨.lists hl hl2 (by simp only[aiQ];omega) hu0 he,.lists hl hl2 (by simp only[aiQ];omega) hu0 he⟩
     ·have e:eqD (n+1) (.l xs) (.l ys)=false:=by
       show(_&&_)=_;rw[beq_eq_false_iff_ne.mpr hs,akd]
      rw[e];exact⟨.lists_lengths hl hl2 (by simp only[aiQ,bne_iff_ne,ne_eq];omega) hu0,.lists_lengths hl hl2 (by simp only[aiQ,bne_iff_ne,ne_eq];omega) hu0⟩
    refine⟨?_,λ_=>rc⟩;by_cases e:p=q
    ·subst e
     rw[BZ ha' hb'];exact .same _
    ·exact .of_refs e rc.eq
   | t ys =>
    obtain⟨q,ws,rfl,hq,ly,hy⟩:=hb;obtain⟨vs2,r2,hl2⟩:=tup_is I hq;cases ry;have ne:p≠q:=λe=>by rw[e,hq]at hp;cases hp
    exact⟨.of_refs ne (.list_tuple hl hl2 hu0),λ_=>⟨.list_tuple hl hl2 hu0,.list_tuple hl hl2 hu0⟩⟩
  | t xs =>
   have ha':=ha;obtain⟨p,us,rfl,hp,lx,hx⟩:=ha;obtain⟨vs,r1,hl⟩:=tup_is I hp;cases rx;cases b with
   | a z' =>
    obtain⟨rfl,fy⟩:=hb.GH;obtain⟨_,h2,_,h4⟩:=Mw ry fy hl hu0;exact⟨h4,λ_=>h2⟩
   | l ys =>
    obtain⟨q,ws,rfl,hq,ly,hy⟩:=hb;obtain⟨vs2,r2,hl2⟩:=lst_is I hq;cases ry;have ne:p≠q:=λe=>by rw[e,hq]at hp;cases hp
    exact⟨.of_refs ne (.tuple_list hl hl2 hu0),λ_=>⟨.tuple_list hl hl2 hu0,.tuple_list hl hl2 hu0⟩⟩
   | t ys =>
    have hb':=hb;obtain⟨q,ws,rfl,hq,ly,hy⟩:=hb;obtain⟨vs2,r2,hl2⟩:=tup_is I hq;cases ry;have l1:=r1.length;have l2:=r2.length;have he:∀ j (h1:j<vs.toArray.size) (h2:j<vs2.toArray.size),SeqAt.EqAt A.in1 s vs.toArray[j] vs2.toArray[j] (match xs[j]?,ys[j]? with|some x,some y=>eqD n x y|_,_=>true):=λj h1 h2=>by
     simp only[aiQ]at h1 h2;obtain⟨w1,z1,rz1⟩:=r1.get (i:=j) (x:=us[j]'(by omega)) (aiK (by omega));obtain⟨w2,z2,rz2⟩:=r2.get (i:=j) (x:=ws[j]'(by omega)) (aiK (by omega));have a1:vs.toArray[j]=w1:=by
      have:=(aiM.mp z1).2
      simpa using this
     have a2:vs2.toArray[j]=w2:=by
      have:=(aiM.mp z2).2
      simpa using this
     rw[a1,a2];have e1:xs[j]?=some (xs[j]'(by omega)):=aiK (by omega);have e2:ys[j]?=some (ys[j]'(by omega)):=aiK (by omega);simp only[e1,e2];exact(ih (hx j _ _ (aiK (by omega)) e1) (hy j _ _ (aiK (by omega)) e2) rz1 rz2 (by rw[Around.in1_units];omega)).1
    have e:eqD (n+1) (.t xs) (.t ys)=((List.range (min vs.toArray.size vs2.toArray.size)).all (λi=>match xs[i]?,ys[i]? with|some x,some y=>eqD n x y|_,_=>true)&&vs.toArray.size == vs2.toArray.size):=by
     show(_&&_)=_;simp only[aiQ];by_cases hs:xs.length=ys.length
     ·rw[show min vs.length vs2.length=xs.length by omega,show(vs.length == vs2.length)=(xs.length == ys.length) by rw[show vs.length=xs.length by omega,show vs2.length=ys.length by omega]]
     ·rw[beq_eq_false_iff_ne.mpr hs,show(vs.length == vs2.length)=false from beq_eq_false_iff_ne.mpr (by omega),akd,akd]
    have rc:RcB A s (.ref p) (.ref q) (eqD (n+1) (.t xs) (.t ys)):=by
     rw[e];exact⟨.tuples hl hl2 hu0 he,.tuples hl hl2 hu0 he⟩
    refine⟨?_,λ_=>rc⟩;by_cases e:p=q
    ·subst e
     rw[BZ ha' hb'];exact .same _
    ·exact .of_refs e rc.eq
end
noncomputable def ah9(n:Nat):R2:=λx y H Q=>∃ a b,Rp H n x a∧Rp H n y b∧Q (.bl (eqD n a b)) H
section
variable{X:Cx}
theorem SO{n:Nat}(hu:X.A.units+n<cLine):OpR X (compareOp .Eq) (ah9 n):=by
 rintro pins s σ H x y v u Q I rx ry ⟨a,b,ha,hb,q⟩;by_cases h:(∃ z,a=.a z)∧∃ z,b=.a z
 ·obtain⟨⟨z,rfl⟩,z',rfl⟩:=h
  obtain⟨rfl,fx⟩:=ha.GH;obtain⟨rfl,fy⟩:=hb.GH;rw[Nq]at q;exact(QF rx ry fx fy).eq _ _ _ _ ⟨.bl _,H,I,rfl,q⟩
 ·exact((rcG I ha hb rx ry hu).2 h).eq _ _ _ _ ⟨.bl _,H,I,rfl,q⟩
end
section
variable{X:Cx}{pins:List (Addr×Obj)}{σ:St}{H:Hp}{s:Shared}{d:Addr}{o:Obj}{u:HO}
theorem Inv.YM(I:Inv X pins σ H s)(hd:H d=some (.frz o u))(h0:∀ o u,X.H₀ d≠some (.frz o u))(nt:∀ xs,u≠.tup xs)(no:∀ x,u≠.own x)(nb:∀ ps,u≠.tbl ps):Inv X pins σ (upd H d u) s:=by
 have nn:∀ {b:Addr},H b=none→upd H d u b=none:=λ{b} q=>by
  rw[ag λz=>by rw[z,hd]at q;cases q];exact q
 have ns:∀ {b:Addr} {v:HO},H b=some v→(∀ o w,v≠.frz o w)→upd H d u b=some v:=λ{b v} q n=>by
  rw[ag λz=>n o u (by rw[z,hd]at q;exact(aja q).symm)];exact q
 refine⟨I.ok,I.os,I.bare,⟨I.base.keep,I.base.slot,λb ob q n e=>nn (I.base.free b ob q n e),I.base.there,λb xs q=>ns (I.base.Gr b xs q) (by intro _ _ z;cases z),λb ob w q=>?_,λb ps q=>?_⟩,I.loc,I.cell,nn I.free,λx c q=>nn (I.m7 x c q),λp hp=>?_,λa w q=>?_,I.len⟩
 ·have q':=I.base.Fu b ob w q
  rw[ag λz=>h0 ob w (by rw[←z];exact q)];exact q'
 ·obtain⟨more,q'⟩:=I.base.Gu b ps q
  exact⟨more,ns q' (by intro _ _ z;cases z)⟩
 ·obtain⟨p1,p2,p3⟩:=I.pin p hp
  exact⟨p1,nn p2,p3⟩
 ·have st:∀ {a:Addr} {w:HO},fg X.prog X.w H s.heap a w→fg X.prog X.w (upd H d u) s.heap a w:=λx=>x.Kx (λ_ _ _ z=>z) (λb z=>ns z (by intro _ _ y;cases y)) λb xs z=>ns z (by intro _ _ y;cases y)
  by_cases e:a=d
  ·subst e
   rw[ah]at q;cases q;exact st (I.hok a _ hd).2
  ·rw[ag e]at q
   exact st (I.hok a w q)
noncomputable def aia(H₀:Hp)(te:TE):TE:=λσ H Q=>te σ H λv H1=>∃ d o kvs,H1 d=some (.frz o (.dK kvs))∧(∀ o u,H₀ d≠some (.frz o u))∧Q v (upd H1 d (.dK kvs))
theorem SQ{e:Expr}{te:TE}(h:PE X e te):PE X e (aia X.H₀ te):=by
 intro pins s σ H Q I t;refine wpAny_mono (h pins s σ H _ I t) (λu s1 ⟨v,H1,I1,r,q⟩=>?_) λ_ _ z=>z;obtain⟨d,o,kvs,hd,h0,q⟩:=q;exact⟨v,_,I1.YM hd h0 (by intro _ z;cases z) (by intro _ z;cases z) (by intro _ z;cases z),r,q⟩
noncomputable def aib(H₀:Hp)(t:TS):TS:=λD σ H=>∃ d o kvs,H d=some (.frz o (.dK kvs))∧(∀ o u,H₀ d≠some (.frz o u))∧t D σ (upd H d (.dK kvs))
theorem SR{st:Stmt}{t:TS}(h:PS X st t):PS X st (aib X.H₀ t):=by
 intro pins s σ H D I q;obtain⟨d,o,kvs,hd,h0,q⟩:=q;exact h pins s σ _ D (I.YM hd h0 (by intro _ z;cases z) (by intro _ z;cases z) (by intro _ z;cases z)) q
theorem VB:∀ {ns:List Int} {us:List Value},Vals (ns.map V.int) us→∃ ps:List (Int×Tok),us=ps.map (λp=>Value.int p.1 p.2)∧ps.map (·.1)=ns
 | [],_,.nil=>⟨[],rfl,rfl⟩
 | n::r,_,.cons h t=>by
  obtain⟨k,rfl⟩:=h;obtain⟨ps,e,e2⟩:=VB t;exact⟨(n,k)::ps,by rw[e];rfl,by rw[aji,e2]⟩
noncomputable def Zp(K:W.Frag):List V→Hp→VK→Prop:=λvs H Q=>∃(p:Addr) (ns:List Int),vs=[.ref p]∧SqL K H p (ns.map V.int)∧Q (.int ns.sum) H
theorem QG(hc:X.calm=true):qq X (.builtin "sum") (Zp X.K):=by
 rintro pins s σ H xs us Q I r ⟨p,ns,rfl,hq,q⟩;obtain⟨u,rfl,ru⟩:=r.one;cases (show u=Value.ref p from ru);obtain⟨its,rv,⟨o,n,e1,e2,e3,e4⟩,hz⟩:=I.list hq;obtain⟨ps,e,ee⟩:=VB rv;have hl:s.heap.IsList p (intItems ps.toArray):=by
  refine⟨o,e1,e2,n,?_⟩;rw[e4,e];simp[intItems]
 have hs:preSum (numAt ps.toArray) ps.toArray.size=ns.sum:=by
  rw[preSum_eq];simp only[aiQ];rw[ee,ai2 (by rw[←ee,aiI];exact aiN _)]
 refine sum_intListG (I.ok.hd hc) hl λh' tk t' hk=>⟨.int ns.sum,H,I.kept (t':=tk) hk,⟨t',by rw[hs]⟩,q⟩
end
theorem QH{d:Addr}{o:Obj}{kvs:List (Key×V)}{te:TE}{Q:VK}{D:Addr}{τ:St}{H:Hp}(Pv:Nat→List V→Hp→Prop)(h0:Pv 0 [] H)(hD:∀ i ys H,i≤kvs.length→Pv i ys H→H D=some (.lst ys)∧ys.length=i)(hl:∀ i ys H,i≤kvs.length→Pv i ys H→H d=some (.frz o (.dK kvs)))(hn:kvs.length≤sizeLine)
  (hs:∀ i p ys H,kvs[i]?=some p→Pv i ys H→te (some (kV p.1)::τ) H λv H4=>H4 D=some (.lst ys)∧Pv (i+1) (ys++[v]) (upd H4 D (.lst (ys++[v])))) (hd:∀ ys H,Pv kvs.length ys H→Q (.ref D) H):OH (Itd d o kvs) D τ te Q H:=by
 refine⟨λi m ys H=>m=kvs.length-i∧i≤kvs.length∧Pv i ys H,⟨kvs.length,by simp,ajk _,h0⟩,?_⟩;rintro i m ys H2 ⟨rfl,hi,p⟩;obtain⟨d1,d2⟩:=hD i ys H2 hi p;refine⟨d1,?_⟩;have hS:=hl i ys H2 hi p;by_cases hlt:i<kvs.length
 ·refine .inr ⟨⟨hS,hlt⟩,by omega,Pv (i+1),λzs H' p'=>⟨kvs.length-(i+1),by omega,rfl,hlt,p'⟩,λy H3 q=>?_⟩
  obtain⟨e1,q',e2,e3⟩:=q;subst e1 e3;exact hs i q' ys _ e2 p
 ·have e:i=kvs.length:=by omega
  subst e;exact .inl ⟨⟨hS,aiN _⟩,hd ys H2 p⟩
noncomputable def Tx:Option Key→Value→Bool
 | none,.none=>true
 | none,_=>false
 | some k,v=>sJ k v
theorem iJ{v:Value}(h:Tx none v=true):v=.none:=by
 cases v<;>first|rfl|cases h
noncomputable def aic(w:World):Option Key→Int
 | none=>reduceHash 0xFCA86420
 | some k=>ZL w k
theorem QI{prog:Program}{w:World}{A:Around}{E:Value→Shared→Prop}{s:Shared}{Q:Int→Shared→Prop}(h:Q (reduceHash 0xFCA86420) {s with toks:=s.toks+1}):wpAny (model prog w) A (pyHash .none) Q E s:=by
 show wpAny _ _ (pyHashByItsType .none) Q E s;exact PySem.W.pyHash_slot (T := "NoneType") rfl F.slot_NoneType_hash F.entry_NoneType_hash (F.args_NoneType_hash_1 _) (beq_builtin_none _) (.inl rfl) (wpAny_bind (wpAny_pure (wpAny_bind (wpAny_mkInt (wpAny_pure ⟨_,_,rfl,h⟩)))))
noncomputable def optKind(prog:Program)(w:World):PySem.KeyKind prog w (Option Key) where
 is:=Tx
 hash:=aic w
 inj:=λv a b ha hb=>by
  cases a with
  | none =>
   obtain rfl:=iJ ha;cases b with
   | none=>rfl
   | some k=>rcases cf (show sJ k .none=true from hb) with⟨_,_,_,e⟩|⟨_,_,_,e⟩<;>exact nomatch e
  | some k =>
   cases b with
   | none =>
    obtain rfl:=iJ hb;rcases cf (show sJ k .none=true from ha) with⟨_,_,_,e⟩|⟨_,_,_,e⟩<;>exact nomatch e
   | some k'=>rw[(cL prog w).inj v k k' ha hb]
 byValue:=λk v h=>by
  cases k with
  | none=>obtain rfl:=iJ h;rfl
  | some k=>exact(cL prog w).byValue k v h
 pyHash:=λ{A E s k v Q} hv h=>by
  cases k with
  | none=>obtain rfl:=iJ hv;exact QI h
  | some k=>exact(cL prog w).pyHash (k:=k) hv h
 eqBool:=λ{A E s a b u v Q} hu hv h=>by
  cases a with
  | none =>
   obtain rfl:=iJ hu;cases b with
   | none=>obtain rfl:=iJ hv;exact SeqAt.EqAt.same _ _ _ _ _ h
   | some k =>
    rw[decide_eq_false (by intro z;cases z)]at h;rcases cf (show sJ k v=true from hv) with⟨i,t,_,rfl⟩|⟨x,t,_,rfl⟩
    ·exact SeqAt.EqAt.none_int i t _ _ _ _ h
    ·exact SeqAt.EqAt.none_str x t _ _ _ _ h
  | some k =>
   cases b with
   | none =>
    obtain rfl:=iJ hv;rw[decide_eq_false (by intro z;cases z)]at h;rcases cf (show sJ k u=true from hu) with⟨i,t,_,rfl⟩|⟨x,t,_,rfl⟩
    ·exact SeqAt.EqAt.int_none i t _ _ _ _ h
    ·exact SeqAt.EqAt.str_none x t _ _ _ _ h
   | some k' =>
    refine(cL prog w).eqBool (a:=k) (b:=k') hu hv ?_;have e:decide (some k=some k')=decide (k=k'):=by
     by_cases c:k=k'
     ·subst c;simp
     ·rw[decide_eq_false c,decide_eq_false (by intro z;exact c (aja z))]
    rw[←e];exact h
 «strs» := λk x t v h=>by
  cases k with
  | none=>exact nomatch iJ h
  | some k=>exact(cL prog w).strs k x t v h
theorem Uw{prog:Program}{w:World}{h:Heap}{a:Addr}{kvs:List (Key×Value)}(hd:h.DictOf (cL prog w) a kvs):h.MapOf (optKind prog w) a (λk=>k.bind λk=>valueAt kvs k):=by
 obtain⟨o,es,ep,ho,hc,aid,hk,hf⟩:=hd.mapOf;refine⟨o,es,ep,ho,hc,aid,λe he=>?_,λk=>?_⟩
 ·obtain⟨k,h1,h2⟩:=hk e he
  exact⟨some k,h1,h2⟩
 ·cases k with
  | none =>
   show(es.find? λe=>Tx none e.key).map (·.val)=none;rw[Array.find?_eq_none.mpr λe he=>?_]
   ·rfl
   ·obtain⟨k,h1,_⟩:=hk e he
    intro z
    have:=iJ z
    rw[this]at h1;rcases cf (show sJ k .none=true from h1) with⟨_,_,_,e⟩|⟨_,_,_,e⟩<;>exact nomatch e
  | some k=>exact hf k
noncomputable def inO(kvs:List (Key×V)):Option Key→Bool
 | none=>false
 | some k=>(mj kvs k).isSome
noncomputable def YN:Option Key→V
 | none=>.non
 | some k=>kV k
section
variable{X:Cx}{i o:Expr}{ty td:TE}
noncomputable def Zq(ty td:TE):TE:=λσ H Q=>ty σ H λy H1=>td σ H1 λx H2=>∃ a kvs k,x=.ref a∧y=YN k∧Rd H2 a (.dK kvs)∧Q (.bl (inO kvs k)) H2
theorem Wx{P:Program}{w:World}{k:Option Key}{u:Value}(r:RelV (YN k) u):(optKind P w).is k u=true:=by
 cases k with
 | none=>cases r;rfl
 | some k=>exact GC (P:=P) (w:=w) r
theorem Ux(hi:PE X i ty)(ho:PE X o td):PC X .In i o (Zq ty td):=by
 intro pins s σ H Q I h;refine thn (hi pins s σ H _ I h) λiv s1 ⟨y,H1,I1,ry,q1⟩=>thn (ho pins s1 σ H1 _ I1 q1) λu s2 ⟨x,H2,I2,rx,a,kvs,k,ex,ey,g,q2⟩=>?_;subst ex ey;cases (show u=Value.ref a from rx);obtain⟨z,hd,vs,rel,dd⟩:=zj I2.hok g;refine wpAny_in_of (Wx (P:=X.prog) (w:=X.w) ry) hd (Uw dd) ?_;have e:(k.bind λk=>valueAt vs k).isSome=inO kvs k:=by
  cases k with
  | none=>rfl
  | some k=>exact(rel.val k).pD.symm
 rw[e];exact⟨.bl (inO kvs k),H2,I2.tok _,rfl,q2⟩
end
section
variable{X:Cx}{K:W.Frag}
theorem Uy{e:Expr}{f:Str}{pos:Pos}{ta:TE}(hK:X.K=K)(he:PE X e ta)(hb:attributeBase e f X.env (eval e X.env)=eval e X.env):PE X (.Attribute e f pos) (ZW K ta f):=by
 subst hK;exact aH he hb
noncomputable def Zr(K:W.Frag):List V→Hp→VK→Prop:=λxs H Q=>∃ p ys,xs=[V.ref p]∧(SqL K H p ys∨SqT K H p ys)∧Q (.int (ys.length:Int)) H
theorem QJ(hK:X.K=K):qq X (.builtin "len") (Zr K):=by
 subst hK;exact iF
end
structure Rb(k:Nat)(A:Around):Prop where
 dp:A.depth+3*k+5<recursionLimit
 un:A.units+16*k+200<cLine
theorem lB.r0{j k:Nat}{A:Around}(r:lB k A)(h:j≤k):Rb j A:=⟨by have:=r.dp;omega,by have:=r.un;omega⟩
structure Nr(P:Program)(w:World)(K:W.Frag)(mg:Str→Option Value)(base:Heap)(CX:CXT)(k:Nat)(f:Addr)(fd:FuncData)(ps:List Str)(sp:Sp):Prop where
 len:∀ vs H Q E,sp vs H Q E→vs.length=ps.length
 run:∀(A:Around) (outer:List Env) (s:Shared) (H:Hp) (args:Args) (us:List Value) (vs:List V) (Q:VK) (E:XK),Rb k A→Nj P w K mg base A outer s H→BindsTo s fd args (ps.zip us)→Vals vs us→sp vs H Q E →
  codeAny (model P w) A (.call (.ref f) args) (CR CX outer P w H s Q E) s
noncomputable def cx0(CX:CXT)(P:Program)(w:World)(K:W.Frag)(mg:Str→Option Value)(base:Heap)(N:List Str)(qual:Str)(scope:Scope)(f:Addr)(cd:Value)(A:Around)(outer:List Env)(s:Shared)(H:Hp)(E:XK):Cx:={Ro CX P w K mg base N qual scope f cd A outer s H E with calm:=false}
theorem Wy{CX:CXT}{P:Program}{w:World}{K:W.Frag}{mg:Str→Option Value}{base:Heap}{k:Nat}{f:Addr}{name qual:Str}{params:Arguments}{body:List Stmt}{scope:Scope}{dV kV doc pm cdv ct oc:Value}{an od:Option Addr}
  {osl:Array (Option Value)} {N ps:List Str} {sp:Sp} (lk:K.lookup f=some ⟨oc,od,.func (PySem.W.fnOf name qual params body scope dV kV doc pm an cdv ct),osl⟩) (hcd:PySem.W.codeIn K cdv qual=true) (S:aw N ps scope)
  (len:∀ vs H Q E,sp vs H Q E→vs.length=ps.length)
  (EA:∀(A:Around) (outer:List Env) (s:Shared) (H:Hp) (vs:List V) (Q:VK) (E:XK),sp vs H Q E →
   ∃ t,PSs (cx0 CX P w K mg base N qual scope f cdv A outer s H E) body t∧t {nx:=λ_ H'=>Q .non H',rt:=Q} (start N vs) H) :
  Nr P w K mg base CX (k+1) f (PySem.W.fnOf name qual params body scope dV kV doc pm an cdv ct) ps sp:=by
 refine⟨len,λA outer s H args us vs Q E hr e0 hb r hsp=>?_⟩;have hl:=len _ _ _ _ hsp;have KX:K.In s.heap:=e0.mod.kin.keeps λb o e=>(e0.bs b o e).1;have lim:s.heap.NoLimit:=e0.mod.nolimit.keeps λb o e=>(e0.bs b o e).1;have To:∀ y∈ps.zip us,scope.names.lookup y.1=some .local∨(scope.names.lookup y.1=some .cell∧((cellsFrom (s.heap.objs.size+1) scope.names []).lookup y.1).isSome=true):=λ⟨n,v⟩ hy=>by
  rcases S.par n (aku hy).1 with q|q
  ·exact .inl q
  ·exact .inr ⟨q,PySem.W.cellsFrom_some _ _ _ (.inl q)⟩
 have dep:A.depth<recursionLimit:=by have:=hr.dp;omega
 refine codeAny_call_function dep (KX _ _ lk) rfl S.co S.gen rfl (PySem.W.codeRec_of KX hcd) (hb _ _ _ _ ?_);refine wpAny_newFunctionEnv_cells S.kind To λenv he s1 x=>?_;subst he;refine⟨lim.keeps x.toInCall.keep,codeAny_func ?_⟩;obtain⟨t,ht,hq⟩:=EA A outer s H vs Q E hsp;have I:Inv (cx0 CX P w K mg base N qual scope f cdv A outer s H E) [] (start N vs) H s1:=by
  have e1:Nj P w K mg base ({A with handled:=none}:Around) outer s H:=⟨e0.frames,e0.mod,e0.bs,e0.bsz,e0.Ce,e0.frf,e0.hok,e0.bare⟩;have J:=IK (CX:=CX) (E:=E) (A:={A with handled:=none}) S rfl e1 hl r x;exact⟨⟨J.ok.mod,J.ok.kind,J.ok.glob,J.ok.blt,J.ok.above,J.ok.inj,J.ok.has,J.ok.cab,(λh=>absurd h (by show ¬false=true;decide)),Around.frames_deeper e0.frames,J.ok.stk,J.ok.exf,J.ok.bs,J.ok.bsz,J.ok.M8,J.ok.OS,J.ok.Ce,J.ok.frf⟩,J.os,J.bare,J.base,J.loc,J.cell,J.free,J.m7,J.pin,J.hok,J.len⟩
 refine wpAny_mono (ht [] s1 (start N vs) H _ I hq) (λfl s' hs=>?_) λe s' hs=>hs;have fin:∀ {σ':St} {H':Hp} {v:V} {u:Value},Inv (cx0 CX P w K mg base N qual scope f cdv A outer s H E) [] σ' H' s'→RelV v u→Q v H'→CE outer P w H s Q u s' :=
  λ{σ' H' v u} J rv q=>⟨v,H',J.os,J.bare,J.base,J.hok,rv,q⟩
 cases fl with
 | ret u =>
  obtain⟨v,σ',H',J,rv,q⟩:=hs;exact fin J rv q
 | next =>
  obtain⟨σ',H',J,q⟩:=hs;exact fin (v:=V.non) (u:=Value.none) J rfl q
 | brk =>
  obtain⟨_,_,_,q⟩:=hs;exact False.elim q
 | cont =>
  obtain⟨_,_,_,q⟩:=hs;exact False.elim q
theorem Fun.ok0{P:Program}{w:World}{K:W.Frag}{mg:Str→Option Value}{base:Heap}{x qual:Str}{st:Stmt}{f:Addr}{fd:FuncData}{N ps:List Str}{k:Nat}{sp:Sp}(F:Fun K x qual st f fd)(S:aw N ps (ar st))(len:∀ vs H Q E,sp vs H Q E→vs.length=ps.length)
  (EA:∀(cdv:Value) (A:Around) (outer:List Env) (s:Shared) (H:Hp) (vs:List V) (Q:VK) (E:XK),sp vs H Q E →
   ∃ t,PSs (cx0 (CXE P w) P w K mg base N qual (ar st) f cdv A outer s H E) (bo st) t∧t {nx:=λ_ H'=>Q .non H',rt:=Q} (start N vs) H):Nr P w K mg base (CXE P w) (k+1) f fd ps sp:=by
 obtain⟨oc,od,kV,doc,pm,an,cdv,ct,osl,rfl,lk,hcd⟩:=F.ex;exact Wy lk hcd S len λA outer s H vs Q E hsp=>EA cdv A outer s H vs Q E hsp
section
variable{X:Cx}{o:Expr}{ta:TE}
theorem Zs{CX:CXT}{k:Nat}{f:Addr}{fd:FuncData}{ps:List Str}{sp:Sp}{ds:List Value}{dvs:List V}{EK:St→XK}{pins:List (Addr×Obj)}{σ:St}{H:Hp}{s:Shared}{Q:VK}{us:List Value}{vs:List V}(F:Nr X.prog X.w X.K X.mg X.base CX k f fd ps sp)(hr:Rb k X.A)(hb:Binds X.K fd ps ds)(hd:Vals dvs ds)(hx:gC CX X EK)
  (I:Inv X pins σ H s) (r:Vals vs us) (h:sp (vs++dvs) H Q (EK σ)):wpAny (model X.prog X.w) X.A (call (.ref f) us) (EP X pins σ Q) X.xe s:=by
 have r2:Vals (vs++dvs) (us++ds):=r.append hd;have hl:(us++ds).length=ps.length:=by rw[←r2.length];exact F.len _ _ _ _ h
 refine wpAny_call (codeAny_mono (F.run X.A X.stack s H ⟨us,[]⟩ (us++ds) (vs++dvs) Q (EK σ) hr I.Vo (hb s us I.kIn hl) r2 h) λr s' hq=>?_);cases r with
 | error e=>exact hx pins σ H s e s' I hq
 | ok fl =>
  cases fl with
  | ret u=>exact I.after hq
  | _=>exact False.elim hq
structure SS(P:Program)(w:World)(K:W.Frag)(mg:Str→Option Value)(base:Heap)(CX:CXT)(k:Nat)(m:Str)(C:Addr)(sp:Sp):Prop where
 ex:∃ f fd ps,Meth K C m f∧Nr P w K mg base CX k f fd ps sp∧Binds K fd ps []
noncomputable def KD(P:Program)(w:World)(K:W.Frag)(mg:Str→Option Value)(base:Heap)(CX:CXT)(k:Nat)(m:Str)(EK:St→XK)(ta:TE):TE:=λσ H Q=>ta σ H λx H1=>∃ b a C sp,x=.ref a∧H1 a=some (exo b C a none)∧Rq K C ∧
 SS P w K mg base CX k m C sp∧sp [x] H1 Q (EK σ)
theorem IV{CX:CXT}{k:Nat}{EK:St→XK}{m:Str}{pos apos:Pos}{pl:Sem Bool}(he:PE X o ta)(hr:Rb k X.A)(hx:gC CX X EK)
  (ht:eval (.Call (.Attribute o m apos) [] [] pos) X.env=(do
   let ov ←eval o X.env
   standAt apos.atName
   let (f,first) ←holding [ov] (getMethod ov m pl)
   callWith pos f first (backTo pos (starEach [] X.env)) (backToKw pos (keywordEach [] X.env))):=by rfl) :
  PE X (.Call (.Attribute o m apos) [] [] pos) (KD X.prog X.w X.K X.mg X.base CX k m EK ta):=by
 intro pins s σ H Q I h;refine PySem.W.methodCall_KW (pl:=pl) (thn (he pins s σ H _ I h) λu s1 ⟨x,H1,I1,rx,b,a,C,sp,ex,ea,g,md,q⟩=>?_) ht;subst ex;obtain rfl:u=Value.ref a:=rx;obtain⟨f,fd,ps,mt,F,hb⟩:=md.ex;obtain⟨fs,sl,a0,z,_⟩:=Cj I1.hok ea;have fin:wpAny (model X.prog X.w) X.A (callWith pos (.ref f) [.ref a] (backTo pos (starEach [] X.env)) (backToKw pos (keywordEach [] X.env))) (EP X pins σ Q) X.xe s1 :=
  PySem.W.callWith_K0 (first:=[.ref a]) I1.kIn mt.kp (Zs (us:=[.ref a]) (vs:=[.ref a]) (dvs:=[]) (ds:=[]) F hr hb .nil hx I1 (.cons rfl .nil) q)
 exact RM I1.kIn (IQ z) g.ga g.gt mt.at_ (beq_iff_eq.mp mt.fn) rfl fin
end
noncomputable def nsE:Expr→Bool
 | .Starred ..=>false
 | _=>true
theorem Uz{e:Expr}{es:List Expr}{env:Env}(h:nsE e=true):starEach (e::es) env=(false,eval e env)::starEach es env:=by
 cases e<;>first|rfl|cases h
theorem iQ{X:Cx}{e:Expr}{es:List Expr}{te:TE}{t:TA}(ha:PE X e te)(hr:PA X es t)(hs:nsE e=true:=by rfl):PA X (e::es) (qr te t):=ae ha hr (Uz hs)
theorem UA{es:List Expr}{p:Pos}{t:Option Expr}{l:Nat}{env:Env}:swapsWith (.List es p) t l env=pure false:=rfl
theorem UB{X:Cx}{i:Nat}{x:Str}{es:List Expr}{p:Pos}{te:TE}{pos' pos:Pos}(hN:X.N.Nodup)(hi:X.N[i]?=some x)(hx:Loc X.env.scope x)(he:PE X (.List es p) te)(hf:X.fn x=true∨X.env.scope.names.lookup x=some .local:=by first|exact .inl rfl|exact .inr rfl|assumption) :
  PS X (.Assign [.Name x pos'] (.List es p) pos) (Sr te (qo i)):=bp hN hi hx he UA hf
theorem IW:∀(f n r:Nat),n≤f→r≤1→minRun' f n r≤max 64 (n+r)
 | 0,n,r,_,_=>Nat.le_max_right _ _
 | f+1,n,r,h,hr=>by
  rw[minRun'_succ];by_cases c:n<64
  ·rw[if_pos c];exact Nat.le_max_right _ _
  ·rw[if_neg c]
   have:=IW f (n/2) (max r (n%2)) (by omega) (by omega)
   omega
theorem Lh{n:Nat}:¬n<minRun' n n 0:=by
 by_cases c:n<64
 ·cases n with
  | zero=>show ¬0<0+0;omega
  | succ f=>rw[minRun'_succ,if_pos c];omega
 ·have:=IW n n 0 (aiN _) (by omega)
  omega
section
variable{prog:Program}{w:World}{A:Around}{E:Value→Shared→Prop}{s:Shared}{a₀:Array Keyed}
theorem Li{st:SortSt}{m:Nat}{Q:Option Nat→SortSt→Prop}(ik:IntKeys a₀)(h:m≤a₀.size)(h1:1≤m)(B:SBase a₀ st)(up:SortedTo (arrOf st) m)(q:Q (some m) st):wpS (model prog w) A E s (countRun' 0 m) Q st:=by
 rw[countRun0_eq];refine wpS_bind (wpS_ascLoop ik h (aiN 1) h1 B (λi j a b=>up i j a (by omega)) λn n1 n2 _ o=>?_);have e:n=m:=by
  rcases o with o|o
  ·exact o
  ·by_cases c:n=m
   ·exact c
   ·have:=up (n-1) n (by omega) (by omega)
    omega
 subst e;dsimp only;rw[if_pos (by simp)];exact wpS_pure q
theorem Nu{st:SortSt}{Q:Unit→SortSt→Prop}(ik:IntKeys a₀)(B:SBase a₀ st)(n2:2≤a₀.size)(up:SortedTo (arrOf st) a₀.size)
  (q:∀ st',(arrOf st').Perm a₀→failedOf st'=none→SortedTo (arrOf st') a₀.size→Q () st'):wpS (model prog w) A E s sortRuns' Q st:=by
 rw[sortRuns'_eq];refine wpS_bind (wpS_get ?_);dsimp only;have mr:¬a₀.size<minRun' a₀.size a₀.size 0:=Lh;simp only[B.size];refine wpS_bind (wpS_mono (wpS_forRange (I:=λx c st'=>(x=0∧c=(none,0)∧st'=st)∨(1≤x∧c=(none,a₀.size)∧SDone a₀ st')) (Q:=λc st'=>c=(none,a₀.size)∧SDone a₀ st') ?one ?all (.inl ⟨rfl,rfl,rfl⟩)) ?rest)
 case all =>
  rintro c st' (⟨z,_,_⟩|⟨_,hc,d⟩)
  ·omega
  ·exact⟨hc,d⟩
 case one =>
  rintro x c st' _ hx (⟨rfl,rfl,rfl⟩|⟨_,rfl,d⟩)
  ·dsimp only
   rw[if_neg (by omega)];simp only[Nat.sub_zero,Nat.zero_add];refine wpS_bind (Li ik (aiN _) (by omega) B up ?_);dsimp only;rw[if_neg mr];refine wpS_bind (wpS_get ?_);rw[show(pendingOf st').back?=none by rw[B.pend];rfl];dsimp only;exact wpS_bind (wpS_modify (wpS_pure (.inr ⟨by omega,rfl,B.done up⟩)))
  ·dsimp only
   rw[if_pos (aiN _)];exact wpS_pure ⟨rfl,d⟩
 case rest =>
  rintro c st' ⟨rfl,d⟩;dsimp only;refine wpS_bind (wpS_mono (wpS_forRange (I:=λ_ c st2=>st2=st'∧c=(none,())) (Q:=λc st2=>st2=st'∧c=(none,())) ?_ (λ_ _ z=>z) ⟨rfl,rfl⟩) ?_)
  ·rintro x c st2 _ _ ⟨rfl,rfl⟩
   refine wpS_bind (wpS_get ?_);rw[if_pos (show(pendingOf st2).size≤1 by rw[d.2.2.1];exact aiN 1)];exact wpS_pure ⟨rfl,rfl⟩
  ·rintro c st2 ⟨rfl,rfl⟩
   exact wpS_pure (q _ d.1 d.2.1 d.2.2.2)
theorem O8:∀ {vs:List Value} {ns:List Int},IntsAre vs ns→∀(i:Nat) (h:i<vs.length) (h':i<ns.length),numOf vs[i]=ns[i]
 | _,_,.nil,i,h,_=>absurd h (akI _)
 | _,_,.cons k t r,0,_,_=>rfl
 | _,_,.cons k t r,i+1,h,h'=>O8 r i (Nat.lt_of_succ_lt_succ h) (Nat.lt_of_succ_lt_succ h')
theorem RV{vs:List Value}{ns:List Int}(hI:IntsAre vs ns)(up:ns.Pairwise (·≤·)):SortedTo (pairsOf vs) (pairsOf vs).size:=by
 intro i j ij hj;have hl:=hI.length;have hs:=pairsOf_size vs;rw[K_eq (by omega),K_eq (by omega)];have hi2:i<ns.length:=by omega
 have hj2:j<ns.length:=by omega
 have e:∀(k:Nat) (h:k<(pairsOf vs).size) (h':k<ns.length),numOf (pairsOf vs)[k].1=ns[k]:=λk h h'=>by
  have:(pairsOf vs)[k].1=vs[k]'(by omega):=by simp[pairsOf]
  rw[this];exact O8 hI k (by omega) h'
 rw[e i (by omega) hi2,e j (by omega) hj2];rcases ajB i j with c|c
 ·exact ajV.mp up i j hi2 hj2 c
 ·have:i=j:=by omega
  subst this;exact ajj _
theorem BF{a:Addr}{vs:List Value}{ns:List Int}{n:Nat}{P:Fin→Shared→Prop}(ho:s.heap.get? a=some (seqObj "list" vs.toArray n))(hI:IntsAre vs ns)(few:vs.length≤20000)(up:ns.Pairwise (·≤·))
  (h:∀(out:Array Value) (ns':List Int),IntsAre out.toList ns'→ns'.Perm ns→ns'.Pairwise (·≤·)→P (.done (.ret .none)) {s with heap:=sortedHeap s.heap a vs out}):wpAny (model prog w) A (Builtin.«list.sort» ⟨[.ref a],[]⟩) P E s:=by
 have hz:vs.length≤sizeLine:=akn (ajM few (by decide));rw[list_sort_plain];have la:a<s.heap.objs.size:=aiT ho;refine wpAny_bind (listItems_at ho rfl (wpAny_bind (listUpdate_at ho rfl ?_ (by rw[aiQ];exact hz) (ajk _))));obtain⟨e1,g1⟩:∃ e1,(s.heap.update a (Obj.mapSeq λ_=>#[])).get? a=some (seqObj "list" #[] e1):=⟨_,get?_update_seq ho (λ_=>#[])⟩;refine wpAny_bind (seqEpoch_at g1 rfl (wpAny_bind (wpAny_newTuple (wpAny_bind (wpAny_newList (wpAny_holding ?_) (ajk _))) (by show vs.length≤_;exact hz))));have g6:(((s.heap.update a (Obj.mapSeq λ_=>#[])).push (seqObj "tuple" vs.toArray 0)).push (seqObj "list" #[] 0)).get? a=some (seqObj "list" #[] e1):=aiL _ (aiL _ g1);show wpAny (model prog w) A _ P E {s with heap:=((s.heap.update a (Obj.mapSeq λ_=>#[])).push (seqObj "tuple" vs.toArray 0)).push (seqObj "list" #[] 0)};dsimp only;have zs:(pairsOf vs).size=vs.length:=pairsOf_size vs;have fin:∀ st':SortSt,(arrOf st').Perm (pairsOf vs)→SortedTo (arrOf st') (pairsOf vs).size→P (.done (.ret .none)) {s with heap:=sortedHeap s.heap a vs ((arrOf st').map (·.2))}:=λst' hp hs=>by
  obtain⟨ns',q1,q2,q3⟩:=sorted_out hI hp hs;exact h _ ns' q1 q2 q3
 have up0:=RV hI up;by_cases c:vs.toArray.size<2
 ·rw[if_pos c,if_pos c]
  refine wpAny_bind (wpAny_pure ?_);rw[StateT.run_pure];refine wpAny_bind (wpAny_pure ?_);dsimp only;refine wpAny_bind (seqEpoch_at g6 rfl (wpAny_bind (listUpdate_at g6 rfl ?_ (hsz2:=by rw[akC];show(pairsOf vs).size≤_;rw[zs];omega))));simp only[bne_self_eq_false,ai9,if_false];exact wpAny_pure (fin (SortSt.mk' general' (vs.toArray.zip vs.toArray) #[] 7 none) (akw _) up0)
 ·rw[if_neg c,if_neg c]
  obtain⟨v1,v2,r,rfl⟩:∃ v1 v2 r,vs=v1::v2::r:=by
   match vs,c with
   | [],c=>simp at c
   | [_],c=>simp at c
   | v1::v2::r,_=>exact⟨v1,v2,r,rfl⟩
  rw[keyKind_ints hI];refine wpAny_bind (wpAny_pure (wpAny_bind (wpAny_mono (Nu (a₀:=pairsOf (v1::v2::r)) (st:=SortSt.mk' oneType' ((v1::v2::r).toArray.zip (v1::v2::r).toArray) #[] 7 none)
   (Q:=λ_ st'=>(arrOf st').Perm (pairsOf (v1::v2::r))∧failedOf st'=none∧SortedTo (arrOf st') (pairsOf (v1::v2::r)).size) hI.intKeys ⟨akw _,rfl,rfl,rfl⟩ (by rw[zs];simp) up0 λst' a1 a2 a3=>⟨a1,a2,a3⟩) ?_ λ_ _ e=>e)))
  rintro⟨⟨⟩,st'⟩ s' ⟨rfl,hp,hf,hs⟩;dsimp only;refine wpAny_bind (seqEpoch_at g6 rfl (wpAny_bind (listUpdate_at g6 rfl ?_ (hsz2:=ai5 (Nat.le_of_eq ((akC ..).trans (hp.size_eq.trans zs))) (Nat.le_succ_of_le hz)))));rw[hf];simp only[bne_self_eq_false,ai9,if_false];exact wpAny_pure (fin st' hp hs)
end
section
variable{X:Cx}
noncomputable def RW:List V→Hp→VK→Prop:=λvs H Q=>∃(p:Addr) (kvs:List (Key×V)) (ks:List Int),vs=[.ref p]∧Rd H p (.dK kvs)∧kvs.map (·.1)=ks.map Sum.inl∧ks.length≤20000∧ks.Pairwise (·≤·)∧∀(l:Addr),H l=none→Q (.ref l) (upd H l (.lst (ks.map V.int)))
theorem BG(hc:X.calm=true):qq X (.builtin "sorted") RW:=by
 rintro pins s σ H xs us Q I r ⟨p,kvs,ks,rfl,hp,hk,few,up,q⟩;obtain⟨u,rfl,ru⟩:=r.one;cases (show u=Value.ref p from ru);obtain⟨hz,hd,vs,rel,dd⟩:=zj I.hok hp;obtain⟨ep,hat⟩:=dd.dictAt;have hh:=I.ok.hd hc;have hl:ks.length=kvs.length:=by
  have:=congrArg List.length hk
  simpa using this.symm
 refine ake kind_sorted plain_sorted entry_sorted (args_sorted1 _) ?_;unfold Builtin.«sorted»;refine wpAny_bind (m:=checkCount "sorted" 1 1 _) (wpAny_pure ?_);refine wpAny_bind (PySem.W.kdu_collect (A:=X.A.in1) (PySem.W.kdl_dict (knd:=cL X.prog X.w) (kvs:=vs) (ep:=ep) hd) hh hat (by rw[←rel.length];exact hz) λh' tk acc hkp hacc=>?_);have hI:IntsAre acc.toList ks:=IT (by rw[←rel.keys];exact hk) hacc.1 hacc.2;have hlen:=hI.length;have I1:Inv X pins σ H {s with heap:=h',toks:=tk}:=I.kept (t':=tk) hkp;refine wpAny_bind (wpAny_newList ?_ (by show acc.toList.length≤sizeLine;rw[hlen,hl];exact hz));have hoL:(h'.push (seqObj "list" acc.toList.toArray 0)).get? h'.objs.size=some (seqObj "list" acc.toList.toArray 0):=ajh _ rfl;show wpAny _ _ _ _ _ {s with heap:=h'.push (seqObj "list" acc.toList.toArray 0),toks:=tk};refine wpAny_bind (wpAny_holding (wpAny_call_entry slot_list_sort ⟨_,hoL,rfl⟩ entry_list_sort (BF hoL hI (by omega) up λout ns' a1 a2 a3=>⟨_,rfl,?_⟩) (args_list_sort _)));refine wpAny_pure ⟨_,rfl,?_⟩;cases IU a2 a3 up;obtain⟨e,he⟩:=sortedHeap_at (out:=out) hoL;refine⟨.ref h'.objs.size,_,I1.laid (a:=h'.objs.size) (o:=.lst (ks.map V.int)) (t':=tk) (λb o hb=>?_) (aiN _) ?_,rfl,q _ (I1.hok.fresh (aiN _))⟩
 ·have hlt:=aiT hb
  rw[sortedHeap_old (ai6 hlt) (by rw[size_push'];exact akm hlt),Heap.get?_push_ne _ _ _ (ai6 hlt)];exact hb
 ·refine⟨by rw[aiI,hl];exact hz,out.toList,e,mL a1,?_⟩
  rw[he]
noncomputable def UC(K:W.Frag):List V→Hp→VK→Prop:=λvs H Q=>∃(p:Addr) (ns:List Int),vs=[.ref p]∧SqL K H p (ns.map V.int)∧ns.length≤20000∧ns.Pairwise (·≤·)∧∀(l:Addr),H l=none→Q (.ref l) (upd H l (.lst (ns.map V.int)))
theorem Lj:qq X (.builtin "sorted") (UC X.K):=by
 rintro pins s σ H xs us Q I r ⟨p,ns,rfl,hq,few,up,q⟩;obtain⟨u,rfl,ru⟩:=r.one;cases (show u=Value.ref p from ru);obtain⟨its,rv,pl,hz⟩:=I.list hq;have hI:=intsAre_of rv;have hlen:=rv.length;rw[aiI]at hlen hz;refine ake kind_sorted plain_sorted entry_sorted (args_sorted1 _) ?_;unfold Builtin.«sorted»;refine wpAny_bind (m:=checkCount "sorted" 1 1 _) (wpAny_pure ?_);have iz:its.length≤sizeLine:=by omega
 refine wpAny_bind (collect_list pl.isList ?_ iz);refine wpAny_bind (wpAny_newList ?_ iz);have sz:((s.heap.push (seqObj "list" #[] 0)).update s.heap.objs.size (Obj.mapSeq (·++its.toArray))).objs.size=s.heap.objs.size+1:=by rw[Heap.size_update,size_push']
 have hoL:(((s.heap.push (seqObj "list" #[] 0)).update s.heap.objs.size (Obj.mapSeq (·++its.toArray))).push (seqObj "list" its.toArray 0)).get? (s.heap.objs.size+1)=some (seqObj "list" its.toArray 0):=by rw[←sz];exact ajh _ rfl
 show wpAny _ _ _ _ _ {s with heap:=((s.heap.push (seqObj "list" #[] 0)).update s.heap.objs.size (Obj.mapSeq (·++its.toArray))).push (seqObj "list" its.toArray 0)};rw[sz];refine wpAny_bind (wpAny_holding (wpAny_call_entry slot_list_sort ⟨_,hoL,rfl⟩ entry_list_sort (BF hoL hI (by omega) up λout ns' a1 a2 a3=>⟨_,rfl,?_⟩) (args_list_sort _)));refine wpAny_pure ⟨_,rfl,?_⟩;cases IU a2 a3 up;obtain⟨e,he⟩:=sortedAll_at s.heap its out;refine⟨.ref (s.heap.objs.size+1),_,I.laid (a:=s.heap.objs.size+1) (o:=.lst (ns.map V.int)) (t':=s.toks) (λ_ _=>sortedAll_old) (akg _) ?_,rfl,q _ (I.hok.fresh (akg _))⟩;refine⟨by rw[aiI];exact hz,out.toList,e,mL a1,?_⟩;show(sortedAll s.heap its out).get? _=_;rw[he]
end
end L2
end
section
namespace K13
open PySem L2 LX
noncomputable abbrev iY:Stmt:=inClass (top 2) 0
noncomputable abbrev qT:Stmt:=inClass (top 3) 0
noncomputable abbrev qU:Stmt:=inClass (top 4) 0
noncomputable abbrev pU:Stmt:=inClass (top 5) 0
noncomputable abbrev pV:Stmt:=inClass (top 6) 0
noncomputable abbrev sM:Stmt:=inClass (top 7) 0
noncomputable abbrev lC:Stmt:=inClass (top 8) 0
noncomputable abbrev qV:Stmt:=inClass (top 9) 0
noncomputable abbrev qW:Stmt:=inClass (top 10) 0
noncomputable abbrev qX:Stmt:=inClass (top 11) 0
noncomputable abbrev oJ:Stmt:=top 19
noncomputable abbrev qy:Stmt:=top 20
noncomputable abbrev D7:Stmt:=top 21
noncomputable abbrev zm:Stmt:=top 22
noncomputable abbrev lG:Stmt:=top 23
noncomputable abbrev oK:Stmt:=top 24
noncomputable abbrev oO:Stmt:=top 25
noncomputable abbrev nj:Stmt:=top 26
noncomputable abbrev lH:Stmt:=top 27
noncomputable abbrev lI:Stmt:=inClass (top 29) 0
noncomputable abbrev nk:Stmt:=inClass (top 29) 1
noncomputable abbrev kz:Stmt:=inClass (top 29) 2
noncomputable abbrev uZ:Stmt:=inClass (top 29) 3
noncomputable abbrev rR:Stmt:=inClass (top 29) 4
noncomputable abbrev oQ:Stmt:=inClass (top 29) 5
noncomputable abbrev rS:Stmt:=inClass (top 29) 6
noncomputable abbrev qz:Stmt:=inClass (top 29) 7
noncomputable abbrev kA:Stmt:=inClass (top 29) 9
noncomputable abbrev iZ:Stmt:=inClass (top 32) 0
noncomputable abbrev lJ:Stmt:=inClass (top 32) 1
noncomputable abbrev jx:Stmt:=inClass (top 32) 2
noncomputable abbrev jR:Stmt:=inClass (top 32) 4
noncomputable abbrev rT:Stmt:=top 34
noncomputable abbrev i3:Stmt:=inClass (top 36) 0
noncomputable abbrev lK:Stmt:=inClass (top 36) 1
noncomputable abbrev kB:Stmt:=inClass (top 36) 2
noncomputable abbrev iM:Stmt:=inClass (top 36) 3
noncomputable abbrev ic:Stmt:=inClass (top 36) 4
noncomputable abbrev nu:Stmt:=inClass (top 38) 0
noncomputable abbrev lL:Stmt:=inClass (top 38) 1
noncomputable abbrev u4:Stmt:=inClass (top 38) 2
noncomputable abbrev rV:Stmt:=inClass (top 38) 3
noncomputable abbrev u5:Stmt:=inClass (top 38) 4
noncomputable abbrev u6:Stmt:=inClass (top 38) 5
noncomputable abbrev qA:Stmt:=inClass (top 38) 6
noncomputable abbrev u7:Stmt:=inClass (top 38) 7
noncomputable abbrev kC:Stmt:=inClass (top 38) 8
noncomputable abbrev u9:Stmt:=inClass (top 38) 9
noncomputable abbrev ie:Stmt:=inClass (top 38) 10
noncomputable abbrev qB:Stmt:=inClass (top 38) 11
noncomputable abbrev jy:Stmt:=inClass (top 38) 12
noncomputable abbrev ig:Stmt:=inClass (top 38) 15
noncomputable abbrev gT:Stmt:=inClass (top 38) 16
noncomputable abbrev qC:Stmt:=top 39
noncomputable abbrev i4:Stmt:=inClass (top 41) 0
noncomputable abbrev lM:Stmt:=inClass (top 41) 1
noncomputable abbrev lN:Stmt:=inClass (top 41) 2
noncomputable abbrev lO:Stmt:=inClass (top 41) 4
noncomputable abbrev kD:Stmt:=inClass (top 41) 5
noncomputable abbrev jS:Stmt:=inClass (top 41) 6
noncomputable abbrev lP:Stmt:=inClass (top 41) 8
noncomputable abbrev kE:Stmt:=inClass (top 41) 9
noncomputable abbrev kF:Stmt:=inClass (top 41) 10
noncomputable abbrev nv:Stmt:=inClass (top 41) 11
noncomputable abbrev i6:Stmt:=inClass (top 41) 12
noncomputable abbrev kG:Stmt:=inClass (top 41) 13
noncomputable abbrev kH:Stmt:=inClass (top 41) 14
noncomputable abbrev jT:Stmt:=inClass (top 41) 15
noncomputable abbrev iN:Stmt:=inClass (top 41) 16
noncomputable abbrev jU:Stmt:=inClass (top 41) 17
noncomputable abbrev jz:Stmt:=inClass (top 41) 18
noncomputable abbrev jV:Stmt:=inClass (top 41) 19
noncomputable abbrev lQ:Stmt:=inClass (top 41) 21
noncomputable abbrev kI:Stmt:=inClass (top 41) 22
noncomputable abbrev oV:Stmt:=top 43
noncomputable abbrev va:Stmt:=top 44
noncomputable abbrev rW:Stmt:=top 45
noncomputable abbrev vc:Stmt:=top 46
noncomputable abbrev mz:Stmt:=top 47
noncomputable abbrev zo:Stmt:=top 48
noncomputable abbrev ve:Stmt:=top 49
noncomputable abbrev bE:Stmt:=top 50
noncomputable abbrev lR:Stmt:=top 51
noncomputable abbrev bS:Stmt:=top 52
noncomputable abbrev i7:Stmt:=top 53
set_option genInjectivity false in
structure Ad where
 aK:Addr
 bP:Addr
 bj:Addr
 di:Addr
 dE:Addr
 bc:Addr
 aC:Addr
 gO:Addr
 fi:Addr
 fq:Addr
 aW:Addr
 aF:Addr
 aD:Addr
 aR:Addr
 aa:Addr
 ao:Addr
 aB:FuncData
 cC:Addr
 fB:FuncData
 cD:Addr
 fD:FuncData
 b5:Addr
 eS:FuncData
 b6:Addr
 eT:FuncData
 cY:Addr
 gi:FuncData
 a5:Addr
 cR:FuncData
 cE:Addr
 fE:FuncData
 cF:Addr
 fF:FuncData
 dt:Addr
 gU:FuncData
 dP:Addr
 i9:FuncData
 cV:Addr
 gL:FuncData
 iX:Addr
 pE:FuncData
 gP:Addr
 mB:FuncData
 bT:Addr
 fG:FuncData
 bg:Addr
 cx:FuncData
 cU:Addr
 hZ:FuncData
 cy:Addr
 gj:FuncData
 cG:Addr
 gW:FuncData
 du:Addr
 gZ:FuncData
 cz:Addr
 eX:FuncData
 bG:Addr
 dG:FuncData
 eP:Addr
 iB:FuncData
 gD:Addr
 kY:FuncData
 eO:Addr
 ja:FuncData
 eM:Addr
 iG:FuncData
 fH:Addr
 jI:FuncData
 aX:Addr
 b7:FuncData
 bJ:Addr
 eF:FuncData
 dw:Addr
 g4:FuncData
 bU:Addr
 eY:FuncData
 cn:Addr
 fV:FuncData
 fv:Addr
 kZ:FuncData
 bK:Addr
 eG:FuncData
 dz:Addr
 g5:FuncData
 cM:Addr
 gw:FuncData
 bA:Addr
 dZ:FuncData
 cp:Addr
 fW:FuncData
 cA:Addr
 iK:FuncData
 bV:Addr
 g9:FuncData
 fQ:Addr
 mN:FuncData
 eN:Addr
 k6:FuncData
 fR:Addr
 mO:FuncData
 fS:Addr
 mP:FuncData
 dM:Addr
 jJ:FuncData
 fT:Addr
 mQ:FuncData
 bH:Addr
 gx:FuncData
 fU:Addr
 mT:FuncData
 bw:Addr
 fX:FuncData
 cW:Addr
 iR:FuncData
 aO:Addr
 cK:FuncData
 aZ:Addr
 ej:FuncData
 bq:Addr
 eC:FuncData
 eI:Addr
 jK:FuncData
 bL:Addr
 eJ:FuncData
 dA:Addr
 hG:FuncData
 dB:Addr
 hJ:FuncData
 eD:Addr
 je:FuncData
 dH:Addr
 iV:FuncData
 da:Addr
 ip:FuncData
 dC:Addr
 hR:FuncData
 bI:Addr
 dI:FuncData
 cN:Addr
 gy:FuncData
 dU:Addr
 iL:FuncData
 br:Addr
 dq:FuncData
 b8:Addr
 eU:FuncData
 cO:Addr
 gz:FuncData
 bM:Addr
 en:FuncData
 aP:Addr
 bX:FuncData
 cu:Addr
 fY:FuncData
 bW:Addr
 eZ:FuncData
 cv:Addr
 fZ:FuncData
 dD:Addr
 hU:FuncData
 cP:Addr
 gA:FuncData
 dQ:Addr
 jb:FuncData
 gG:Addr
 mU:FuncData
 fz:Addr
 k7:FuncData
 gH:Addr
 mV:FuncData
 cX:Addr
 gM:FuncData
 gQ:Addr
 mC:FuncData
 gI:Addr
 mW:FuncData
 cJ:Addr
 k8:FuncData
 cH:Addr
 hV:FuncData
 bB:Addr
 e7:FuncData
 wW:Addr
 Nv:FuncData
 GI:Tok
 nO:Tok
 mD:Tok
 nP:Tok
 nQ:Tok
 nR:Tok
 kR:Tok
structure Txt(K:W.Frag)(mg:Str→Option Value)(D:Ad):Prop where
 h:∃ cd,iy K D.aK cd
 mH:mg "HeapError" = some (.ref D.aK)
 mX:mg "BadCount" = some (.ref D.bP)
 qt:IS K D.bP
 mY:MkX K D.bP D.ao
 Vd:PySem.W.kitOne K (.ref D.bP) (.type "ValueError")=some true
 Jp:∃ cd,iy K D.bP cd∧cd.mro.contains (.ref D.aK)=true
 Ll:Meth K D.bP "called" D.b6
 zp:mg "BadHand" = some (.ref D.bj)
 j9:IS K D.bj
 zq:MkX K D.bj D.ao
 VC:PySem.W.kitOne K (.ref D.bj) (.type "ValueError")=some true
 Lm:∃ cd,iy K D.bj cd∧cd.mro.contains (.ref D.aK)=true
 Nw:Meth K D.bj "called" D.cC
 Nx:mg "BadName" = some (.ref D.di)
 zr:IS K D.di
 Ny:MkX K D.di D.ao
 VD:PySem.W.kitOne K (.ref D.di) (.type "ValueError")=some true
 Ln:∃ cd,iy K D.di cd∧cd.mro.contains (.ref D.aK)=true
 Nz:Meth K D.di "called" D.cD
 Lo:mg "BadField" = some (.ref D.dE)
 vg:IS K D.dE
 Lp:MkX K D.dE D.ao
 Ve:PySem.W.kitOne K (.ref D.dE) (.type "ValueError")=some true
 Jq:∃ cd,iy K D.dE cd∧cd.mro.contains (.ref D.aK)=true
 Lq:Meth K D.dE "called" D.b5
 ED:mg "TooManyWords" = some (.ref D.bc)
 sN:IS K D.bc
 EE:MkX K D.bc D.ao
 Rf:PySem.W.kitOne K (.ref D.bc) (.type "ValueError")=some true
 Co:∃ cd,iy K D.bc cd∧cd.mro.contains (.ref D.aK)=true
 EF:Meth K D.bc "called" D.a5
 GJ:mg "BadView" = some (.ref D.aC)
 zt:IS K D.aC
 NA:MkX K D.aC D.ao
 NB:PySem.W.kitOne K (.ref D.aC) (.type "ValueError")=some true
 Lr:∃ cd,iy K D.aC cd∧cd.mro.contains (.ref D.aK)=true
 ND:Meth K D.aC "called" D.dt
 QK:mg "NoRoom" = some (.ref D.gO)
 IX:IS K D.gO
 QL:MkX K D.gO D.ao
 WW:PySem.W.kitOne K (.ref D.gO) (.type "ValueError")=some true
 NG:∃ cd,iy K D.gO cd∧cd.mro.contains (.ref D.aK)=true
 QM:Meth K D.gO "called" D.cY
 NH:mg "RoundOn" = some (.ref D.fi)
 GK:IS K D.fi
 NI:MkX K D.fi D.ao
 VE:PySem.W.kitOne K (.ref D.fi) (.type "ValueError")=some true
 Ls:∃ cd,iy K D.fi cd∧cd.mro.contains (.ref D.aK)=true
 NJ:Meth K D.fi "called" D.cE
 NK:mg "NoRound" = some (.ref D.fq)
 GL:IS K D.fq
 NL:MkX K D.fq D.ao
 VF:PySem.W.kitOne K (.ref D.fq) (.type "ValueError")=some true
 Lu:∃ cd,iy K D.fq cd∧cd.mro.contains (.ref D.aK)=true
 NM:Meth K D.fq "called" D.cF
 nD:PySem.W.kitOne K (.ref D.bP) (.ref D.aC)=some false
 oj:PySem.W.kitOne K (.ref D.bj) (.ref D.aC)=some false
 om:PySem.W.kitOne K (.ref D.di) (.ref D.aC)=some false
 nE:PySem.W.kitOne K (.ref D.dE) (.ref D.aC)=some false
 j7:PySem.W.kitOne K (.ref D.bc) (.ref D.aC)=some false
 jW:PySem.W.kitOne K (.ref D.aC) (.ref D.aC)=some true
 pW:PySem.W.kitOne K (.ref D.gO) (.ref D.aC)=some false
 oq:PySem.W.kitOne K (.ref D.fi) (.ref D.aC)=some false
 ot:PySem.W.kitOne K (.ref D.fq) (.ref D.aC)=some false
 RZ:mg "Hands" = some (.ref D.aW)
 aS:Cls K D.aW
 Ho:Mk K D.aW D.du
 cw:eQ K D.aW "words_held"
 lS:Meth K D.aW "word_in" D.cz
 jX:Meth K D.aW "all_words" D.bG
 nS:Meth K D.aW "put" D.eP
 HJ:Meth K D.aW "copy" D.gD
 EG:Meth K D.aW "number" D.eO
 qD:Meth K D.aW "kind" D.eM
 Fz:Meth K D.aW "value" D.fH
 f7:Meth K D.aW "thing_due" D.aX
 Jr:mg "WordTable" = some (.ref D.aF)
 bZ:Cls K D.aF
 rZ:Mk K D.aF D.bJ
 ba:eQ K D.aF "words_borne"
 kq:eQ K D.aF "words_said"
 zF:Meth K D.aF "bear" D.dw
 ug:Meth K D.aF "word_of" D.bU
 vB:Meth K D.aF "settle" D.cn
 Js:mg "NameTable" = some (.ref D.aD)
 dN:Cls K D.aD
 sh:Mk K D.aD D.bK
 bO:eQ K D.aD "things_named"
 zG:Meth K D.aD "name" D.dz
 xD:Meth K D.aD "named" D.cM
 rq:Meth K D.aD "all_named" D.bA
 vC:Meth K D.aD "settle" D.cp
 UD:mg "Heap" = some (.ref D.aR)
 YR:Cls K D.aR
 O9:Mk K D.aR D.cA
 M0:eQ K D.aR "makes_young"
 Rg:eQ K D.aR "in_hands"
 Ou:eQ K D.aR "weak_names"
 Ov:eQ K D.aR "last_words"
 M3:eQ K D.aR "fields_held"
 Mx:eQ K D.aR "young_things"
 Ow:eQ K D.aR "next_thing"
 Ox:Meth K D.aR "add_thing" D.bV
 TM:Meth K D.aR "load" D.fQ
 SU:Meth K D.aR "store" D.eN
 TN:Meth K D.aR "copy" D.fR
 TQ:Meth K D.aR "drop" D.fS
 Ru:Meth K D.aR "number" D.dM
 TR:Meth K D.aR "name" D.fT
 M4:Meth K D.aR "read_thing" D.bH
 TU:Meth K D.aR "word" D.fU
 My:Meth K D.aR "small_round" D.bw
 Rv:Meth K D.aR "let_go" D.cW
 KU:Meth K D.aR "look_at_held" D.aO
 Mz:Meth K D.aR "words_among" D.aZ
 Oy:Meth K D.aR "led_among" D.bq
 UE:Vz K D.aR "__init__" D.cA
 Jt:mg "IdealHeap" = some (.ref D.aa)
 ab:Cls K D.aa
 si:Mk K D.aa D.bL
 gR:eQ K D.aa "makes_young"
 az:eQ K D.aa "in_hands"
 dF:eQ K D.aa "weak_names"
 ft:eQ K D.aa "last_words"
 aA:eQ K D.aa "fields_held"
 aV:eQ K D.aa "young_things"
 fu:eQ K D.aa "next_thing"
 kr:eQ K D.aa "young_room"
 pX:eQ K D.aa "limit"
 aQ:eQ K D.aa "doomed_things"
 dr:eQ K D.aa "in_round"
 rz:Meth K D.aa "add_thing" D.bV
 zH:Meth K D.aa "load" D.fQ
 xE:Meth K D.aa "store" D.eN
 zI:Meth K D.aa "copy" D.fR
 zJ:Meth K D.aa "drop" D.fS
 vD:Meth K D.aa "number" D.dM
 zK:Meth K D.aa "name" D.fT
 qJ:Meth K D.aa "read_thing" D.bH
 zM:Meth K D.aa "word" D.fU
 qh:Meth K D.aa "small_round" D.bw
 nF:Meth K D.aa "let_go" D.cW
 gc:Meth K D.aa "look_at_held" D.aO
 jF:Meth K D.aa "words_among" D.aZ
 ia:Meth K D.aa "led_among" D.bq
 zN:Meth K D.aa "make" D.dA
 zO:Meth K D.aa "read" D.dB
 Oz:Meth K D.aa "kind" D.eD
 M5:Meth K D.aa "value" D.dH
 MA:Meth K D.aa "fields" D.da
 zP:Meth K D.aa "held" D.dC
 jY:Meth K D.aa "small" D.bI
 xF:Meth K D.aa "begin" D.cN
 Cp:Meth K D.aa "end" D.dU
 iO:Meth K D.aa "round_on" D.br
 iq:Meth K D.aa "hands" D.b8
 xG:Meth K D.aa "names" D.cO
 jA:Meth K D.aa "things" D.bM
 ib:Meth K D.aa "fields_of" D.aP
 vE:Meth K D.aa "is_old" D.cu
 uh:Meth K D.aa "word_of" D.bW
 vF:Meth K D.aa "doomed" D.cv
 pY:Meth K D.aa "made" D.dD
 xI:Meth K D.aa "spare" D.cP
 FA:mg "number_value" = some (.ref D.dP)
 oW:PySem.W.keepIn K (.ref D.dP)=true
 qE:mg "thing_value" = some (.ref D.cV)
 jL:PySem.W.keepIn K (.ref D.cV)=true
 IY:mg "kind_of" = some (.ref D.iX)
 wX:PySem.W.keepIn K (.ref D.iX)=true
 GN:mg "words_of" = some (.ref D.gP)
 sO:PySem.W.keepIn K (.ref D.gP)=true
 qY:mg "look_at_number" = some (.ref D.bT)
 jf:PySem.W.keepIn K (.ref D.bT)=true
 f9:mg "look_at_hand" = some (.ref D.bg)
 dR:PySem.W.keepIn K (.ref D.bg)=true
 uX:mg "look_at_name" = some (.ref D.cU)
 kT:PySem.W.keepIn K (.ref D.cU)=true
 sP:mg "look_at_field" = some (.ref D.cy)
 jN:PySem.W.keepIn K (.ref D.cy)=true
 Cq:mg "look_at_limits" = some (.ref D.cG)
 lT:PySem.W.keepIn K (.ref D.cG)=true
 Ju:mg "last_steps" = some (.ref D.fv)
 sj:PySem.W.keepIn K (.ref D.fv)=true
 xg:mg "thing_among" = some (.ref D.eI)
 mF:PySem.W.keepIn K (.ref D.eI)=true
 FC:mg "_law_numbers" = some (.ref D.dQ)
 oZ:PySem.W.keepIn K (.ref D.dQ)=true
 Lv:mg "_law_deed" = some (.ref D.gG)
 vh:PySem.W.keepIn K (.ref D.gG)=true
 Jv:mg "_law_plain" = some (.ref D.fz)
 sk:PySem.W.keepIn K (.ref D.fz)=true
 Lw:mg "_law_done" = some (.ref D.gH)
 vi:PySem.W.keepIn K (.ref D.gH)=true
 iS:mg "_law_things" = some (.ref D.cX)
 fI:PySem.W.keepIn K (.ref D.cX)=true
 zu:mg "_law_led" = some (.ref D.gQ)
 pL:PySem.W.keepIn K (.ref D.gQ)=true
 Lx:mg "_law_heap" = some (.ref D.gI)
 vj:PySem.W.keepIn K (.ref D.gI)=true
 Jw:mg "_law_deeds" = some (.ref D.cJ)
 so:PySem.W.keepIn K (.ref D.cJ)=true
 qZ:mg "_law_none_told" = some (.ref D.cH)
 jg:PySem.W.keepIn K (.ref D.cH)=true
 vG:mg "_law_inside_right" = some (.ref D.bB)
 jB:PySem.W.keepIn K (.ref D.bB)=true
 aiE:mg "law" = some (.ref D.wW)
 VG:PySem.W.keepIn K (.ref D.wW)=true
 B7:mg "len" = none
 xh:mg "range" = none
 ui:mg "list" = none
 lE:mg "sorted" = none
 Tz:mg "sum" = none
 TB:mg "abs" = none
 nU:mg "isinstance" = none
 qu:mg "enumerate" = none
 nV:mg "ValueError" = none
 GO:mg "HANDS" = some (.int 8 D.GI)
 nW:mg "WEAK_NAMES" = some (.int 8 D.nO)
 qF:mg "MOST_FIELDS" = some (.int 6 D.mD)
 nX:mg "LEAST_ROOM" = some (.int 7 D.nP)
 sr:mg "MOST_YOUNG" = some (.int 64 D.nQ)
 sA:mg "MOST_LIMIT" = some (.int 400 D.nR)
 kU:mg "MOST_BEARERS" = some (.int 12 D.kR)
structure Ok(P:Program)(w:World)(K:W.Frag)(mg:Str→Option Value)(base:Heap)(n:Nat)(f:Addr)(fd:FuncData)(ps:List Str)(sp:Sp):Prop where
 g:Cg P w K mg base (CXE P w) n f fd ps sp
 b:Binds K fd ps []
section
variable{X:Cx}{n k:Nat}{f C:Addr}{fd:FuncData}{ps:List Str}{sp:Sp}{EK:St→XK}{x mn:Str}{p apos pos:Pos}{ex o:Expr}{es:List Expr}{t:TA}{ta:TE}
theorem Ok.c(G:Ok X.prog X.w X.K X.mg X.base n f fd ps sp)(hr:lB k X.A)(hm:X.mg x=some (.ref f))(hk:PySem.W.keepIn X.K (.ref f)=true)(hx:gC (CXE X.prog X.w) X EK)(ha:PA X (ex::es) t)(hn:n≤k:=by decide)(hg:Gl X x:=by exact rfl)(hdb:(x == ("__debug__" : Str))=false:=by decide)(he:starEach (ex::es) X.env=(false,eval ex X.env)::starEach es X.env:=by rfl)(hpl:(backTo pos (starEach es X.env)).any (·.1)=false:=by rfl):PE X (.Call (.Name x p) (ex::es) [] pos) (Tt sp [] EK t):=O2 G.g (hr.mono hn) hg hm hk G.b .nil hx ha hdb he hpl
theorem Ok.m{pl:Sem Bool}(G:Ok X.prog X.w X.K X.mg X.base n f fd ps sp)(hr:lB k X.A)(he:PE X o ta)(c:Cls X.K C)(hm:Meth X.K C mn f)(hx:gC (CXE X.prog X.w) X EK)(ha:PA X (ex::es) t)(hn:n≤k:=by decide)(hst:starEach (ex::es) X.env=(false,eval ex X.env)::starEach es X.env:=by rfl)(hpl:(backTo pos (starEach es X.env)).any (·.1)=false:=by rfl)
  (ht:eval (.Call (.Attribute o mn apos) (ex::es) [] pos) X.env=(do let ov ←eval o X.env;standAt apos.atName;let (f,first) ←holding [ov] (getMethod ov mn pl);callWith pos f first (backTo pos (starEach (ex::es) X.env)) (backToKw pos (keywordEach [] X.env))):=by rfl):PE X (.Call (.Attribute o mn apos) (ex::es) [] pos) (Ra C mn sp [] EK ta t):=Ut he c hm G.g (hr.mono hn) G.b .nil hx ha hst hpl ht
theorem Ok.m0{pl:Sem Bool}(G:Ok X.prog X.w X.K X.mg X.base n f fd ps sp)(hr:lB k X.A)(he:PE X o ta)(c:Cls X.K C)(hm:Meth X.K C mn f)(hx:gC (CXE X.prog X.w) X EK)(hn:n≤k:=by decide)
  (ht:eval (.Call (.Attribute o mn apos) [] [] pos) X.env=(do let ov ←eval o X.env;standAt apos.atName;let (f,first) ←holding [ov] (getMethod ov mn pl);callWith pos f first (backTo pos (starEach [] X.env)) (backToKw pos (keywordEach [] X.env))):=by rfl):PE X (.Call (.Attribute o mn apos) [] [] pos) (Ra C mn sp [] EK ta Ni):=RN he c hm G.g (hr.mono hn) G.b .nil hx ht
theorem Ok.e(G:Ok X.prog X.w X.K X.mg X.base n f fd ps sp)(hr:lB k X.A)(M:MkX X.K C f)(hm:X.mg x=some (.ref C))(hx:gC (CXE X.prog X.w) X EK)(ha:PA X (ex::es) t)(hn:n+1≤k:=by decide)(hg:Gl X x:=by exact rfl)(hps:ps.length≤1000:=by decide)(hdb:(x == ("__debug__" : Str))=false:=by decide)(he:starEach (ex::es) X.env=(false,eval ex X.env)::starEach es X.env:=by rfl)(hpl:(backTo pos (starEach es X.env)).any (·.1)=false:=by rfl):PE X (.Call (.Name x p) (ex::es) [] pos) (aeS C sp EK t):=Wr M G.g (hr.mono hn) hg hm G.b hx ha hps hdb he hpl
end
section
variable{P:Program}{w:World}{K:W.Frag}{mg:Str→Option Value}{base:Heap}{x qual:Str}{st:Stmt}{f:Addr}{fd:FuncData}{N ps:List Str}{k:Nat}{sp:Sp}
theorem _root_.L2.Fun.oa(F:Fun K x qual st f fd)(S:aw N ps (ar st))(B:Binds K fd ps [])
  (EA:∀(cdv:Value) (A:Around) (outer:List Env) (s:Shared) (H:Hp) (vs:List V) (Q:VK) (E:XK),lB k (A.deeper (PyProof.Rows.envOfC qual (ar st) s.heap.objs.size f cdv))→sp vs H Q E→∃ t,PSs (cxE P w K mg base N qual (ar st) f cdv A outer s H E) (bo st) t∧t {nx:=λ_ H'=>Q .non H',rt:=Q} (start N vs) H)
  (len:∀ vs H Q E,sp vs H Q E→vs.length=ps.length:=by(intro vs H Q E h;repeat (first|(obtain⟨rfl,_⟩:=h;rfl)|obtain⟨_,h⟩:=h))):Ok P w K mg base (k+1) f fd ps sp:=⟨F.okE S len EA,B⟩
theorem fsc{N P:List Str}{sc:Scope}(h1:sc.kind=.function:=by exact rfl)(h2:sc.isCoroutine=false:=by exact rfl)(h3:sc.isGenerator=false:=by exact rfl)(h4:N.Nodup:=by decide +kernel)(h5:N.take P.length=P:=by exact rfl)(h6:∀ x∈P,sc.names.lookup x=some .local∨sc.names.lookup x=some .cell:=by decide +kernel)(h7:∀ y∈sc.names,y.2≠.free:=by decide +kernel):aw N P sc:=⟨h1,h2,h3,h4,h5,h6,h7⟩
theorem _root_.L2.Fun.b1{p0:Str}(F:Fun K x qual st f fd)(h:∀(kV doc pm:Value) (an:Option Addr) (cdv ct:Value) (u0:Value),bindArgs (PySem.W.fnOf x qual (lF st) (bo st) (ar st) .none kV doc pm an cdv ct) ⟨[u0],[]⟩=pure (([p0]:List Str).zip [u0]):=by intros;rfl):Binds K fd [p0] []:=F.binds (ps:=[p0]) λkV doc pm an cdv ct us hl=>match us,hl with|[u0],_=>h kV doc pm an cdv ct u0
theorem _root_.L2.Fun.b2{p0 p1:Str}(F:Fun K x qual st f fd)(h:∀(kV doc pm:Value) (an:Option Addr) (cdv ct:Value) (u0 u1:Value),bindArgs (PySem.W.fnOf x qual (lF st) (bo st) (ar st) .none kV doc pm an cdv ct) ⟨[u0,u1],[]⟩=pure (([p0,p1]:List Str).zip [u0,u1]):=by intros;rfl):Binds K fd [p0,p1] []:=F.binds (ps:=[p0,p1]) λkV doc pm an cdv ct us hl=>match us,hl with|[u0,u1],_=>h kV doc pm an cdv ct u0 u1
theorem _root_.L2.Fun.b3{p0 p1 p2:Str}(F:Fun K x qual st f fd)(h:∀(kV doc pm:Value) (an:Option Addr) (cdv ct:Value) (u0 u1 u2:Value),bindArgs (PySem.W.fnOf x qual (lF st) (bo st) (ar st) .none kV doc pm an cdv ct) ⟨[u0,u1,u2],[]⟩=pure (([p0,p1,p2]:List Str).zip [u0,u1,u2]):=by intros;rfl):Binds K fd [p0,p1,p2] []:=F.binds (ps:=[p0,p1,p2]) λkV doc pm an cdv ct us hl=>match us,hl with|[u0,u1,u2],_=>h kV doc pm an cdv ct u0 u1 u2
theorem _root_.L2.Fun.b4{p0 p1 p2 p3:Str}(F:Fun K x qual st f fd)(h:∀(kV doc pm:Value) (an:Option Addr) (cdv ct:Value) (u0 u1 u2 u3:Value),bindArgs (PySem.W.fnOf x qual (lF st) (bo st) (ar st) .none kV doc pm an cdv ct) ⟨[u0,u1,u2,u3],[]⟩=pure (([p0,p1,p2,p3]:List Str).zip [u0,u1,u2,u3]):=by intros;rfl):Binds K fd [p0,p1,p2,p3] []:=F.binds (ps:=[p0,p1,p2,p3]) λkV doc pm an cdv ct us hl=>match us,hl with|[u0,u1,u2,u3],_=>h kV doc pm an cdv ct u0 u1 u2 u3
end
theorem px{P:Program}{w:World}{K:W.Frag}{mg:Str→Option Value}{base:Heap}{N:List Str}{qual:Str}{sc:Scope}{f:Addr}{cdv:Value}{A:Around}{outer:List Env}{s:Shared}{H:Hp}{E:XK}:gC (CXE P w) (cxE P w K mg base N qual sc f cdv A outer s H E) (λ_=>E):=Passes.x (Q9 λ_ _ _ q=>q)
inductive Wd where
 | no
 | num (x:Int)
 | th (t:Int)
 deriving DecidableEq
noncomputable def Wd.kind:Wd→Str
 | .no => "none"
 | .num _ => "number"
 | .th _ => "thing"
noncomputable def WV(H:Hp)(v:V):Wd→Prop
 | .no=>v=.non
 | .num x=>∃ t,v=.ref t∧H t=some (.tup [.str "number",.int x])
 | .th x=>∃ t,v=.ref t∧H t=some (.tup [.str "thing",.int x])
noncomputable def fJ(H H':Hp):Prop:=∀ t us,H t=some (.tup us)→H' t=some (.tup us)
theorem fJ.of{H H':Hp}(s:aE H H'):fJ H H':=λt us q=>s _ _ q
theorem fJ.trans{H H1 H2:Hp}(a:fJ H H1)(b:fJ H1 H2):fJ H H2:=λt us q=>b t us (a t us q)
theorem fJ.set{H:Hp}{c:Addr}{u o:HO}(h:H c=some u)(n:∀ xs,u≠.tup xs):fJ H (upd H c o):=λt us q=>by
 rw[ag λe=>by rw[e,h]at q;exact n us (aja q)];exact q
theorem WV.keep{H H':Hp}{v:V}{w:Wd}(h:WV H v w)(s:fJ H H'):WV H' v w:=by
 cases w with
 | no=>exact h
 | num n=>obtain⟨t,e,q⟩:=h;exact⟨t,e,s _ _ q⟩
 | th n=>obtain⟨t,e,q⟩:=h;exact⟨t,e,s _ _ q⟩
noncomputable def Rel(H:Hp)(xs:List V)(ws:List Wd):Prop:=xs.length=ws.length∧∀(i:Nat) (v:V) (w:Wd),xs[i]?=some v→ws[i]?=some w→WV H v w
theorem Rel.keep{H H':Hp}{xs:List V}{ws:List Wd}(h:Rel H xs ws)(s:fJ H H'):Rel H' xs ws:=⟨h.1,λi v w a b=>(h.2 i v w a b).keep s⟩
theorem Rel.get{H:Hp}{xs:List V}{ws:List Wd}(h:Rel H xs ws){i:Nat}(hi:i<ws.length):∃ v,xs[i]?=some v∧WV H v ws[i] :=
 ⟨_,aiK (by rw[h.1];exact hi),h.2 i _ _ (aiK (by rw[h.1];exact hi)) (aiK hi)⟩
theorem Rel.set{H:Hp}{xs:List V}{ws:List Wd}{i:Nat}{v:V}{w:Wd}(h:Rel H xs ws)(hv:WV H v w):Rel H (xs.set i v) (ws.set i w):=by
 refine⟨by rw[ajK,ajK];exact h.1,λj u y a b=>?_⟩;rw[List.getElem?_set]at a b;by_cases e:i=j
 ·subst e
  simp only[if_true]at a b;split at a
  ·split at b
   ·cases a;cases b;exact hv
   ·cases b
  ·cases a
 ·rw[if_neg e]at a b
  exact h.2 j u y a b
theorem Rel.nil{H:Hp}{n:Nat}:Rel H (List.replicate n .non) (List.replicate n .no):=⟨by simp,λi v w a b=>by
 rw[ajC (aiU a),ajC (aiU b)];rfl⟩
noncomputable def nmV:Option Int→V
 | none=>.non
 | some t=>.int t
structure HS where
 my:Bool
 aT:List Wd
 names:List (Option Int)
 bQ:List (Int×Int)
 uc:List Int
 aN:List (Int×List Wd)
 yng:List Int
 nxt:Int
 room:Int
 limit:Int
 bF:List Int
 rnd:Bool
structure HA where
 dx:Addr
 hd:Addr
 hdx:Addr
 hl:Addr
 hx:List V
 nt:Addr
 ntx:Addr
 nl:Addr
 wt:Addr
 wtx:Addr
 wb:Addr
 wl:Addr
 fh:Addr
 fa:Int→Addr
 fx:Int→List V
 yg:Addr
 dm:Addr
noncomputable def atts(A:HA)(s:HS):List (Str×V):=[("makes_young",.bl s.my),("in_hands",.ref A.hd),("weak_names",.ref A.nt),("last_words",.ref A.wt),("fields_held",.ref A.fh),("young_things",.ref A.yg),("next_thing",.int s.nxt),("young_room",.int s.room),("limit",.int s.limit),("doomed_things",.ref A.dm),("in_round",.bl s.rnd)]
theorem VH{A:HA}{s:HS}:(atts A s).lookup ("makes_young" : Str)=some (.bl s.my):=by kernel_rfl
theorem nY{A:HA}{s:HS}:(atts A s).lookup ("in_hands" : Str)=some (.ref A.hd):=by kernel_rfl
theorem Rh{A:HA}{s:HS}:(atts A s).lookup ("weak_names" : Str)=some (.ref A.nt):=by kernel_rfl
theorem TC{A:HA}{s:HS}:(atts A s).lookup ("last_words" : Str)=some (.ref A.wt):=by kernel_rfl
theorem rm{A:HA}{s:HS}:(atts A s).lookup ("fields_held" : Str)=some (.ref A.fh):=by kernel_rfl
theorem KW{A:HA}{s:HS}:(atts A s).lookup ("young_things" : Str)=some (.ref A.yg):=by kernel_rfl
theorem VI{A:HA}{s:HS}:(atts A s).lookup ("next_thing" : Str)=some (.int s.nxt):=by kernel_rfl
theorem Zt{A:HA}{s:HS}:(atts A s).lookup ("young_room" : Str)=some (.int s.room):=by kernel_rfl
theorem Zu{A:HA}{s:HS}:(atts A s).lookup ("limit" : Str)=some (.int s.limit):=by kernel_rfl
theorem KY{A:HA}{s:HS}:(atts A s).lookup ("doomed_things" : Str)=some (.ref A.dm):=by kernel_rfl
theorem TH{A:HA}{s:HS}:(atts A s).lookup ("in_round" : Str)=some (.bl s.rnd):=by kernel_rfl
theorem Zv{A:HA}{s:HS}{n:Int}:iI "next_thing" (.int n) (atts A s)=atts A {s with nxt:=n}:=by kernel_rfl
theorem Zw{A:HA}{s:HS}{b:Bool}:iI "in_round" (.bl b) (atts A s)=atts A {s with rnd:=b}:=by kernel_rfl
theorem Zx{A:HA}{s:HS}{a:Addr}:iI "young_things" (.ref a) (atts A s)=atts {A with yg:=a} s:=by kernel_rfl
theorem Zy{A:HA}{s:HS}{a:Addr}:iI "doomed_things" (.ref a) (atts A s)=atts {A with dm:=a} s:=by kernel_rfl
noncomputable def bkv(p:Int×Int):Key×V:=(Sum.inl p.1,.int p.2)
noncomputable def tkv(t:Int):Key×V:=(Sum.inl t,.bl true)
noncomputable def fkv(A:HA)(p:Int×List Wd):Key×V:=(Sum.inl p.1,.ref (A.fa p.1))
structure IH(D:Ad)(H:Hp)(x:Addr)(A:HA)(s:HS):Prop where
 ax:H x=some (.ins D.aa A.dx (atts A s))
 ahd:H A.hd=some (.ins D.aW A.hdx [("words_held",.ref A.hl)])
 ahl:H A.hl=some (.lst A.hx)
 rhl:Rel H A.hx s.aT
 ant:H A.nt=some (.ins D.aD A.ntx [("things_named",.ref A.nl)])
 anl:H A.nl=some (.lst (s.names.map nmV))
 awt:H A.wt=some (.ins D.aF A.wtx [("words_borne",.ref A.wb),("words_said",.ref A.wl)])
 awb:H A.wb=some (.dK (s.bQ.map bkv))
 awl:H A.wl=some (.lst (s.uc.map V.int))
 afh:H A.fh=some (.dK (s.aN.map (fkv A)))
 afl:∀ t ws,(t,ws)∈s.aN→H (A.fa t)=some (.lst (A.fx t))∧Rel H (A.fx t) ws
 ayg:H A.yg=some (.dK (s.yng.map tkv))
 adm:H A.dm=some (.dK (s.bF.map tkv))
 nhn:A.hd≠A.nt
 l1:A.hl≠A.nl
 l2:A.hl≠A.wl
 l3:A.nl≠A.wl
 l4:∀ t ws,(t,ws)∈s.aN→A.fa t≠A.hl∧A.fa t≠A.nl∧A.fa t≠A.wl
 l5:∀ t ws t' ws',(t,ws)∈s.aN→(t',ws')∈s.aN→A.fa t=A.fa t'→t=t'
 d1:A.wb≠A.fh
 d2:A.wb≠A.yg
 d3:A.wb≠A.dm
 d4:A.fh≠A.yg
 d5:A.fh≠A.dm
 d6:A.yg≠A.dm
inductive bR(x:Addr)(A:HA)(s:HS):Addr→Prop where
 | x:bR x A s x
 | hd:bR x A s A.hd
 | hl:bR x A s A.hl
 | nt:bR x A s A.nt
 | nl:bR x A s A.nl
 | wt:bR x A s A.wt
 | wb:bR x A s A.wb
 | wl:bR x A s A.wl
 | fh:bR x A s A.fh
 | yg:bR x A s A.yg
 | dm:bR x A s A.dm
 | fl {t:Int} {ws:List Wd}:(t,ws)∈s.aN→bR x A s (A.fa t)
theorem mG{C d C' d':Addr}{fs gs:List (Str×V)}(h:fs.length≠gs.length):HO.ins C d fs≠HO.ins C' d' gs:=λe=>by
 injection e with _ _ e;exact h (congrArg List.length e)
section
variable{D:Ad}{H H' H1 H2:Hp}{x:Addr}{A A':HA}{s s':HS}
theorem IH.is(J:IH D H x A s){b:Addr}(f:bR x A s b):∃ u,H b=some u∧∀ xs,u≠.tup xs:=by
 cases f with
 | x=>exact⟨_,J.ax,λ_ z=>nomatch z⟩
 | hd=>exact⟨_,J.ahd,λ_ z=>nomatch z⟩
 | hl=>exact⟨_,J.ahl,λ_ z=>nomatch z⟩
 | nt=>exact⟨_,J.ant,λ_ z=>nomatch z⟩
 | nl=>exact⟨_,J.anl,λ_ z=>nomatch z⟩
 | wt=>exact⟨_,J.awt,λ_ z=>nomatch z⟩
 | wb=>exact⟨_,J.awb,λ_ z=>nomatch z⟩
 | wl=>exact⟨_,J.awl,λ_ z=>nomatch z⟩
 | fh=>exact⟨_,J.afh,λ_ z=>nomatch z⟩
 | yg=>exact⟨_,J.ayg,λ_ z=>nomatch z⟩
 | dm=>exact⟨_,J.adm,λ_ z=>nomatch z⟩
 | fl m=>exact⟨_,(J.afl _ _ m).1,λ_ z=>nomatch z⟩
theorem IH.keep(J:IH D H x A s)(k:∀ b u,bR x A s b→H b=some u→H' b=some u)(t:fJ H H'):IH D H' x A s :=
 ⟨k _ _ .x J.ax,k _ _ .hd J.ahd,k _ _ .hl J.ahl,J.rhl.keep t,k _ _ .nt J.ant,k _ _ .nl J.anl,k _ _ .wt J.awt,k _ _ .wb J.awb,k _ _ .wl J.awl,k _ _ .fh J.afh,λu ws m=>⟨k _ _ (.fl m) (J.afl _ _ m).1,(J.afl _ _ m).2.keep t⟩,k _ _ .yg J.ayg,k _ _ .dm J.adm,
  J.nhn,J.l1,J.l2,J.l3,J.l4,J.l5,J.d1,J.d2,J.d3,J.d4,J.d5,J.d6⟩
theorem IH.same(J:IH D H x A s)(k:aE H H'):IH D H' x A s:=J.keep (λ_ _ _ q=>k _ _ q) (fJ.of k)
structure Fr(F:Addr→Prop)(H:Hp)(F':Addr→Prop)(H':Hp):Prop where
 ext:∀ b u,¬F b→H b=some u→H' b=some u
 grow:∀ b,F' b→F b∨H b=none
 all:∀ b u,H b=some u→∃ u',H' b=some u'
 tup:fJ H H'
variable{F F' F1 F2:Addr→Prop}
theorem Fr.trans(a:Fr F H F1 H1)(b:Fr F1 H1 F2 H2):Fr F H F2 H2 where
 ext:=λc u n q=>b.ext c u (λf=>(a.grow c f).elim n λe=>by rw[e]at q;cases q) (a.ext c u n q)
 grow:=λc f=>(b.grow c f).elim (λf1=>a.grow c f1) λe=>by
  cases q:H c with
  | none=>exact .inr rfl
  | some u=>obtain⟨u',q'⟩:=a.all c u q;rw[e]at q';cases q'
 all:=λc u q=>by obtain⟨u',q'⟩:=a.all c u q;exact b.all c u' q'
 tup:=a.tup.trans b.tup
theorem Fr.same(k:aE H H'):Fr F H F H':=⟨λ_ _ _ q=>k _ _ q,λ_ f=>.inl f,λb u q=>⟨u,k _ _ q⟩,fJ.of k⟩
theorem Fr.refl:Fr F H F H:=Fr.same λ_ _ q=>q
theorem Fr.none(a:Fr F H F' H'){b:Addr}(h:H' b=none):H b=none:=by
 cases q:H b with
 | none=>rfl
 | some u=>obtain⟨u',q'⟩:=a.all b u q;rw[h]at q';cases q'
theorem Fr.set{b:Addr}{u o:HO}(f:F b)(hb:H b=some u)(n:∀ xs,u≠.tup xs)(g:∀ c,F' c→F c):Fr F H F' (upd H b o) where
 ext:=λc v nf q=>by rw[ag λe=>nf (by rw[e];exact f)];exact q
 grow:=λc f=>.inl (g c f)
 all:=λc v q=>by
  by_cases e:c=b
  ·exact⟨o,by rw[e];exact ah⟩
  ·exact⟨v,by rw[ag e];exact q⟩
 tup:=fJ.set hb n
theorem Fr.out(a:Fr F H F' H'){b:Addr}{u:HO}(n:¬F b)(q:H b=some u):H' b=some u∧¬F' b:=⟨a.ext b u n q,λf=>(a.grow b f).elim n λe=>by rw[e]at q;cases q⟩
theorem IH.Rr(J:IH D H x A s){xs:List V}{ws:List Wd}(r:Rel H xs ws):IH D (upd H A.hl (.lst xs)) x {A with hx:=xs} {s with aT:=ws}∧Fr (bR x A s) H (bR x {A with hx:=xs} {s with aT:=ws}) (upd H A.hl (.lst xs)):=by
 have tk:fJ H (upd H A.hl (.lst xs)):=fJ.set J.ahl (λ_ z=>nomatch z);refine⟨⟨(by rw[ag (ay J.ax J.ahl (by intro z;cases z))];exact J.ax),(by rw[ag (ay J.ahd J.ahl (by intro z;cases z))];exact J.ahd),ah,r.keep tk,(by rw[ag (ay J.ant J.ahl (by intro z;cases z))];exact J.ant),(by rw[ag (ai7 J.l1)];exact J.anl),(by rw[ag (ay J.awt J.ahl (by intro z;cases z))];exact J.awt),(by rw[ag (ay J.awb J.ahl (by intro z;cases z))];exact J.awb),(by rw[ag (ai7 J.l2)];exact J.awl),(by rw[ag (ay J.afh J.ahl (by intro z;cases z))];exact J.afh),(λt ws m=>⟨by rw[ag (J.l4 _ _ m).1];exact(J.afl _ _ m).1,(J.afl _ _ m).2.keep tk⟩),(by rw[ag (ay J.ayg J.ahl (by intro z;cases z))];exact J.ayg),(by rw[ag (ay J.adm J.ahl (by intro z;cases z))];exact J.adm),J.nhn,J.l1,J.l2,J.l3,J.l4,J.l5,J.d1,J.d2,J.d3,J.d4,J.d5,J.d6⟩,Fr.set .hl J.ahl (λ_ z=>nomatch z) (λc f=>?_)⟩;cases f with
 | x=>exact .x
 | hd=>exact .hd
 | hl=>exact .hl
 | nt=>exact .nt
 | nl=>exact .nl
 | wt=>exact .wt
 | wb=>exact .wb
 | wl=>exact .wl
 | fh=>exact .fh
 | yg=>exact .yg
 | dm=>exact .dm
 | fl m=>exact .fl m
theorem IH.aie(J:IH D H x A s){ns:List (Option Int)}:IH D (upd H A.nl (.lst (ns.map nmV))) x A {s with names:=ns}∧Fr (bR x A s) H (bR x A {s with names:=ns}) (upd H A.nl (.lst (ns.map nmV))):=by
 have tk:fJ H (upd H A.nl (.lst (ns.map nmV))):=fJ.set J.anl (λ_ z=>nomatch z);refine⟨⟨(by rw[ag (ay J.ax J.anl (by intro z;cases z))];exact J.ax),(by rw[ag (ay J.ahd J.anl (by intro z;cases z))];exact J.ahd),(by rw[ag J.l1];exact J.ahl),J.rhl.keep tk,(by rw[ag (ay J.ant J.anl (by intro z;cases z))];exact J.ant),ah,(by rw[ag (ay J.awt J.anl (by intro z;cases z))];exact J.awt),(by rw[ag (ay J.awb J.anl (by intro z;cases z))];exact J.awb),(by rw[ag (ai7 J.l3)];exact J.awl),(by rw[ag (ay J.afh J.anl (by intro z;cases z))];exact J.afh),(λt ws m=>⟨by rw[ag (J.l4 _ _ m).2.1];exact(J.afl _ _ m).1,(J.afl _ _ m).2.keep tk⟩),(by rw[ag (ay J.ayg J.anl (by intro z;cases z))];exact J.ayg),(by rw[ag (ay J.adm J.anl (by intro z;cases z))];exact J.adm),J.nhn,J.l1,J.l2,J.l3,J.l4,J.l5,J.d1,J.d2,J.d3,J.d4,J.d5,J.d6⟩,Fr.set .nl J.anl (λ_ z=>nomatch z) (λc f=>?_)⟩;cases f with
 | x=>exact .x
 | hd=>exact .hd
 | hl=>exact .hl
 | nt=>exact .nt
 | nl=>exact .nl
 | wt=>exact .wt
 | wb=>exact .wb
 | wl=>exact .wl
 | fh=>exact .fh
 | yg=>exact .yg
 | dm=>exact .dm
 | fl m=>exact .fl m
theorem IH.aeV(J:IH D H x A s){bs:List (Int×Int)}:IH D (upd H A.wb (.dK (bs.map bkv))) x A {s with bQ:=bs}∧Fr (bR x A s) H (bR x A {s with bQ:=bs}) (upd H A.wb (.dK (bs.map bkv))):=by
 have tk:fJ H (upd H A.wb (.dK (bs.map bkv))):=fJ.set J.awb (λ_ z=>nomatch z);refine⟨⟨(by rw[ag (ay J.ax J.awb (by intro z;cases z))];exact J.ax),(by rw[ag (ay J.ahd J.awb (by intro z;cases z))];exact J.ahd),(by rw[ag (ay J.ahl J.awb (by intro z;cases z))];exact J.ahl),J.rhl.keep tk,(by rw[ag (ay J.ant J.awb (by intro z;cases z))];exact J.ant),(by rw[ag (ay J.anl J.awb (by intro z;cases z))];exact J.anl),(by rw[ag (ay J.awt J.awb (by intro z;cases z))];exact J.awt),ah,(by rw[ag (ay J.awl J.awb (by intro z;cases z))];exact J.awl),(by rw[ag (ai7 J.d1)];exact J.afh),(λt ws m=>⟨by rw[ag (ay (J.afl _ _ m).1 J.awb (by intro z;cases z))];exact(J.afl _ _ m).1,(J.afl _ _ m).2.keep tk⟩),(by rw[ag (ai7 J.d2)];exact J.ayg),(by rw[ag (ai7 J.d3)];exact J.adm),J.nhn,J.l1,J.l2,J.l3,J.l4,J.l5,J.d1,J.d2,J.d3,J.d4,J.d5,J.d6⟩,Fr.set .wb J.awb (λ_ z=>nomatch z) (λc f=>?_)⟩;cases f with
 | x=>exact .x
 | hd=>exact .hd
 | hl=>exact .hl
 | nt=>exact .nt
 | nl=>exact .nl
 | wt=>exact .wt
 | wb=>exact .wb
 | wl=>exact .wl
 | fh=>exact .fh
 | yg=>exact .yg
 | dm=>exact .dm
 | fl m=>exact .fl m
theorem IH.aif(J:IH D H x A s){zs:List Int}:IH D (upd H A.wl (.lst (zs.map V.int))) x A {s with uc:=zs}∧Fr (bR x A s) H (bR x A {s with uc:=zs}) (upd H A.wl (.lst (zs.map V.int))):=by
 have tk:fJ H (upd H A.wl (.lst (zs.map V.int))):=fJ.set J.awl (λ_ z=>nomatch z);refine⟨⟨(by rw[ag (ay J.ax J.awl (by intro z;cases z))];exact J.ax),(by rw[ag (ay J.ahd J.awl (by intro z;cases z))];exact J.ahd),(by rw[ag J.l2];exact J.ahl),J.rhl.keep tk,(by rw[ag (ay J.ant J.awl (by intro z;cases z))];exact J.ant),(by rw[ag J.l3];exact J.anl),(by rw[ag (ay J.awt J.awl (by intro z;cases z))];exact J.awt),(by rw[ag (ay J.awb J.awl (by intro z;cases z))];exact J.awb),ah,(by rw[ag (ay J.afh J.awl (by intro z;cases z))];exact J.afh),(λt ws m=>⟨by rw[ag (J.l4 _ _ m).2.2];exact(J.afl _ _ m).1,(J.afl _ _ m).2.keep tk⟩),(by rw[ag (ay J.ayg J.awl (by intro z;cases z))];exact J.ayg),(by rw[ag (ay J.adm J.awl (by intro z;cases z))];exact J.adm),J.nhn,J.l1,J.l2,J.l3,J.l4,J.l5,J.d1,J.d2,J.d3,J.d4,J.d5,J.d6⟩,Fr.set .wl J.awl (λ_ z=>nomatch z) (λc f=>?_)⟩;cases f with
 | x=>exact .x
 | hd=>exact .hd
 | hl=>exact .hl
 | nt=>exact .nt
 | nl=>exact .nl
 | wt=>exact .wt
 | wb=>exact .wb
 | wl=>exact .wl
 | fh=>exact .fh
 | yg=>exact .yg
 | dm=>exact .dm
 | fl m=>exact .fl m
theorem IH.aih(J:IH D H x A s){ts:List Int}:IH D (upd H A.yg (.dK (ts.map tkv))) x A {s with yng:=ts}∧Fr (bR x A s) H (bR x A {s with yng:=ts}) (upd H A.yg (.dK (ts.map tkv))):=by
 have tk:fJ H (upd H A.yg (.dK (ts.map tkv))):=fJ.set J.ayg (λ_ z=>nomatch z);refine⟨⟨(by rw[ag (ay J.ax J.ayg (by intro z;cases z))];exact J.ax),(by rw[ag (ay J.ahd J.ayg (by intro z;cases z))];exact J.ahd),(by rw[ag (ay J.ahl J.ayg (by intro z;cases z))];exact J.ahl),J.rhl.keep tk,(by rw[ag (ay J.ant J.ayg (by intro z;cases z))];exact J.ant),(by rw[ag (ay J.anl J.ayg (by intro z;cases z))];exact J.anl),(by rw[ag (ay J.awt J.ayg (by intro z;cases z))];exact J.awt),(by rw[ag J.d2];exact J.awb),(by rw[ag (ay J.awl J.ayg (by intro z;cases z))];exact J.awl),(by rw[ag J.d4];exact J.afh),(λt ws m=>⟨by rw[ag (ay (J.afl _ _ m).1 J.ayg (by intro z;cases z))];exact(J.afl _ _ m).1,(J.afl _ _ m).2.keep tk⟩),ah,(by rw[ag (ai7 J.d6)];exact J.adm),J.nhn,J.l1,J.l2,J.l3,J.l4,J.l5,J.d1,J.d2,J.d3,J.d4,J.d5,J.d6⟩,Fr.set .yg J.ayg (λ_ z=>nomatch z) (λc f=>?_)⟩;cases f with
 | x=>exact .x
 | hd=>exact .hd
 | hl=>exact .hl
 | nt=>exact .nt
 | nl=>exact .nl
 | wt=>exact .wt
 | wb=>exact .wb
 | wl=>exact .wl
 | fh=>exact .fh
 | yg=>exact .yg
 | dm=>exact .dm
 | fl m=>exact .fl m
theorem IH.aeW(J:IH D H x A s){ts:List Int}:IH D (upd H A.dm (.dK (ts.map tkv))) x A {s with bF:=ts}∧Fr (bR x A s) H (bR x A {s with bF:=ts}) (upd H A.dm (.dK (ts.map tkv))):=by
 have tk:fJ H (upd H A.dm (.dK (ts.map tkv))):=fJ.set J.adm (λ_ z=>nomatch z);refine⟨⟨(by rw[ag (ay J.ax J.adm (by intro z;cases z))];exact J.ax),(by rw[ag (ay J.ahd J.adm (by intro z;cases z))];exact J.ahd),(by rw[ag (ay J.ahl J.adm (by intro z;cases z))];exact J.ahl),J.rhl.keep tk,(by rw[ag (ay J.ant J.adm (by intro z;cases z))];exact J.ant),(by rw[ag (ay J.anl J.adm (by intro z;cases z))];exact J.anl),(by rw[ag (ay J.awt J.adm (by intro z;cases z))];exact J.awt),(by rw[ag J.d3];exact J.awb),(by rw[ag (ay J.awl J.adm (by intro z;cases z))];exact J.awl),(by rw[ag J.d5];exact J.afh),(λt ws m=>⟨by rw[ag (ay (J.afl _ _ m).1 J.adm (by intro z;cases z))];exact(J.afl _ _ m).1,(J.afl _ _ m).2.keep tk⟩),(by rw[ag J.d6];exact J.ayg),ah,J.nhn,J.l1,J.l2,J.l3,J.l4,J.l5,J.d1,J.d2,J.d3,J.d4,J.d5,J.d6⟩,Fr.set .dm J.adm (λ_ z=>nomatch z) (λc f=>?_)⟩;cases f with
 | x=>exact .x
 | hd=>exact .hd
 | hl=>exact .hl
 | nt=>exact .nt
 | nl=>exact .nl
 | wt=>exact .wt
 | wb=>exact .wb
 | wl=>exact .wl
 | fh=>exact .fh
 | yg=>exact .yg
 | dm=>exact .dm
 | fl m=>exact .fl m
theorem IH.aii(J:IH D H x A s){n:Int}:IH D (upd H x (.ins D.aa A.dx (iI "next_thing" (.int n) (atts A s)))) x A {s with nxt:=n}∧Fr (bR x A s) H (bR x A {s with nxt:=n}) (upd H x (.ins D.aa A.dx (iI "next_thing" (.int n) (atts A s)))):=by
 have tk:fJ H (upd H x (.ins D.aa A.dx (iI "next_thing" (.int n) (atts A s)))):=fJ.set J.ax (λ_ z=>nomatch z);refine⟨⟨(by rw[ah,Zv]),(by rw[ag (ay J.ahd J.ax (mG (show(1:Nat)≠11 by decide)))];exact J.ahd),(by rw[ag (ay J.ahl J.ax (by intro z;cases z))];exact J.ahl),J.rhl.keep tk,(by rw[ag (ay J.ant J.ax (mG (show(1:Nat)≠11 by decide)))];exact J.ant),(by rw[ag (ay J.anl J.ax (by intro z;cases z))];exact J.anl),(by rw[ag (ay J.awt J.ax (mG (show(2:Nat)≠11 by decide)))];exact J.awt),(by rw[ag (ay J.awb J.ax (by intro z;cases z))];exact J.awb),(by rw[ag (ay J.awl J.ax (by intro z;cases z))];exact J.awl),(by rw[ag (ay J.afh J.ax (by intro z;cases z))];exact J.afh),(λt ws m=>⟨by rw[ag (ay (J.afl _ _ m).1 J.ax (by intro z;cases z))];exact(J.afl _ _ m).1,(J.afl _ _ m).2.keep tk⟩),(by rw[ag (ay J.ayg J.ax (by intro z;cases z))];exact J.ayg),(by rw[ag (ay J.adm J.ax (by intro z;cases z))];exact J.adm),J.nhn,J.l1,J.l2,J.l3,J.l4,J.l5,J.d1,J.d2,J.d3,J.d4,J.d5,J.d6⟩,Fr.set .x J.ax (λ_ z=>nomatch z) (λc f=>?_)⟩;cases f with
 | x=>exact .x
 | hd=>exact .hd
 | hl=>exact .hl
 | nt=>exact .nt
 | nl=>exact .nl
 | wt=>exact .wt
 | wb=>exact .wb
 | wl=>exact .wl
 | fh=>exact .fh
 | yg=>exact .yg
 | dm=>exact .dm
 | fl m=>exact .fl m
theorem IH.aeX(J:IH D H x A s){n:Bool}:IH D (upd H x (.ins D.aa A.dx (iI "in_round" (.bl n) (atts A s)))) x A {s with rnd:=n}∧Fr (bR x A s) H (bR x A {s with rnd:=n}) (upd H x (.ins D.aa A.dx (iI "in_round" (.bl n) (atts A s)))):=by
 have tk:fJ H (upd H x (.ins D.aa A.dx (iI "in_round" (.bl n) (atts A s)))):=fJ.set J.ax (λ_ z=>nomatch z);refine⟨⟨(by rw[ah,Zw]),(by rw[ag (ay J.ahd J.ax (mG (show(1:Nat)≠11 by decide)))];exact J.ahd),(by rw[ag (ay J.ahl J.ax (by intro z;cases z))];exact J.ahl),J.rhl.keep tk,(by rw[ag (ay J.ant J.ax (mG (show(1:Nat)≠11 by decide)))];exact J.ant),(by rw[ag (ay J.anl J.ax (by intro z;cases z))];exact J.anl),(by rw[ag (ay J.awt J.ax (mG (show(2:Nat)≠11 by decide)))];exact J.awt),(by rw[ag (ay J.awb J.ax (by intro z;cases z))];exact J.awb),(by rw[ag (ay J.awl J.ax (by intro z;cases z))];exact J.awl),(by rw[ag (ay J.afh J.ax (by intro z;cases z))];exact J.afh),(λt ws m=>⟨by rw[ag (ay (J.afl _ _ m).1 J.ax (by intro z;cases z))];exact(J.afl _ _ m).1,(J.afl _ _ m).2.keep tk⟩),(by rw[ag (ay J.ayg J.ax (by intro z;cases z))];exact J.ayg),(by rw[ag (ay J.adm J.ax (by intro z;cases z))];exact J.adm),J.nhn,J.l1,J.l2,J.l3,J.l4,J.l5,J.d1,J.d2,J.d3,J.d4,J.d5,J.d6⟩,Fr.set .x J.ax (λ_ z=>nomatch z) (λc f=>?_)⟩;cases f with
 | x=>exact .x
 | hd=>exact .hd
 | hl=>exact .hl
 | nt=>exact .nt
 | nl=>exact .nl
 | wt=>exact .wt
 | wb=>exact .wb
 | wl=>exact .wl
 | fh=>exact .fh
 | yg=>exact .yg
 | dm=>exact .dm
 | fl m=>exact .fl m
noncomputable def pZ(fs:List (Int×List Wd))(t:Int)(ws:List Wd):List (Int×List Wd):=fs.map λp=>if p.1=t then(t,ws) else p
theorem B8{fs:List (Int×List Wd)}{t t':Int}{ws ws':List Wd}(m:(t',ws')∈pZ fs t ws):∃ w0,(t',w0)∈fs∧t'=t':=by
 obtain⟨q,mq,e⟩:=aje.mp m;by_cases c:q.1=t
 ·rw[if_pos c]at e
  cases e;exact⟨q.2,by rw[←c];exact mq,rfl⟩
 ·rw[if_neg c]at e
  subst e;exact⟨_,mq,rfl⟩
theorem R0{A:HA}{fs:List (Int×List Wd)}{t:Int}{ws:List Wd}{xs:Int→List V}:(pZ fs t ws).map (fkv {A with fx:=xs})=fs.map (fkv A):=by
 unfold pZ;rw[aju];refine ajH λp hp=>?_;show fkv {A with fx:=xs} (if p.1=t then(t,ws) else p)=fkv A p;by_cases c:p.1=t
 ·rw[if_pos c];unfold fkv;rw[c]
 ·rw[if_neg c];rfl
theorem IH.aij(J:IH D H x A s){t:Int}{w0:List Wd}(m:(t,w0)∈s.aN){xs:List V}{ws:List Wd}(r:Rel H xs ws):IH D (upd H (A.fa t) (.lst xs)) x {A with fx:=λu=>if u=t then xs else A.fx u} {s with aN:=pZ s.aN t ws}∧Fr (bR x A s) H (bR x {A with fx:=λu=>if u=t then xs else A.fx u} {s with aN:=pZ s.aN t ws}) (upd H (A.fa t) (.lst xs)):=by
 have tk:fJ H (upd H (A.fa t) (.lst xs)):=fJ.set (J.afl _ _ m).1 (λ_ z=>nomatch z);refine⟨⟨(by rw[ag (ai7 (ay (J.afl _ _ m).1 J.ax (by intro z;cases z)))];exact J.ax),(by rw[ag (ai7 (ay (J.afl _ _ m).1 J.ahd (by intro z;cases z)))];exact J.ahd),(by rw[ag (ai7 (J.l4 _ _ m).1)];exact J.ahl),J.rhl.keep tk,(by rw[ag (ai7 (ay (J.afl _ _ m).1 J.ant (by intro z;cases z)))];exact J.ant),(by rw[ag (ai7 (J.l4 _ _ m).2.1)];exact J.anl),(by rw[ag (ai7 (ay (J.afl _ _ m).1 J.awt (by intro z;cases z)))];exact J.awt),(by rw[ag (ai7 (ay (J.afl _ _ m).1 J.awb (by intro z;cases z)))];exact J.awb),(by rw[ag (ai7 (J.l4 _ _ m).2.2)];exact J.awl),(by rw[ag (ai7 (ay (J.afl _ _ m).1 J.afh (by intro z;cases z))),R0];exact J.afh),(λt' ws' m'=>by
  obtain⟨q,mq,e⟩:=aje.mp m';by_cases c:q.1=t
  ·rw[if_pos c]at e
   cases e;dsimp only;rw[if_pos rfl];exact⟨ah,r.keep tk⟩
  ·rw[if_neg c]at e
   subst e;dsimp only;rw[if_neg c];exact⟨by rw[ag λz=>c (J.l5 _ _ _ _ mq m z)];exact(J.afl _ _ mq).1,(J.afl _ _ mq).2.keep tk⟩),(by rw[ag (ai7 (ay (J.afl _ _ m).1 J.ayg (by intro z;cases z)))];exact J.ayg),(by rw[ag (ai7 (ay (J.afl _ _ m).1 J.adm (by intro z;cases z)))];exact J.adm),J.nhn,J.l1,J.l2,J.l3,(λt' ws' m'=>by obtain⟨q,mq,e1⟩:=B8 m';rw[←e1];exact J.l4 _ _ mq),(λt1 w1 t2 w2 m1 m2 z=>by obtain⟨q1,mq1,e1⟩:=B8 m1;obtain⟨q2,mq2,e2⟩:=B8 m2;rw[←e1,←e2]at z ⊢;exact J.l5 _ _ _ _ mq1 mq2 z),J.d1,J.d2,J.d3,J.d4,J.d5,J.d6⟩,Fr.set (.fl m) (J.afl _ _ m).1 (λ_ z=>nomatch z) (λc f=>?_)⟩
 cases f with
 | x=>exact .x
 | hd=>exact .hd
 | hl=>exact .hl
 | nt=>exact .nt
 | nl=>exact .nl
 | wt=>exact .wt
 | wb=>exact .wb
 | wl=>exact .wl
 | fh=>exact .fh
 | yg=>exact .yg
 | dm=>exact .dm
 | fl m'=>obtain⟨w0,m0,_⟩:=B8 m';exact .fl m0
theorem IH.fresh(J:IH D H x A s){b:Addr}(h:H b=none):¬bR x A s b:=λf=>by
 obtain⟨u,q,_⟩:=J.is f;rw[h]at q;cases q
theorem IH.Zz(J:IH D H x A s){t:Int}{b:Addr}{xs:List V}{ws:List Wd}(hb:H b=none)(hn:∀ w,(t,w)∉s.aN)(r:Rel H xs ws) :
  IH D (upd (upd H b (.lst xs)) A.fh (.dK (s.aN.map (fkv A)++[(Sum.inl t,.ref b)]))) x {A with fa:=λu=>if u=t then b else A.fa u,fx:=λu=>if u=t then xs else A.fx u} {s with aN:=s.aN++[(t,ws)]} ∧
  Fr (bR x A s) H (bR x {A with fa:=λu=>if u=t then b else A.fa u,fx:=λu=>if u=t then xs else A.fx u} {s with aN:=s.aN++[(t,ws)]}) (upd (upd H b (.lst xs)) A.fh (.dK (s.aN.map (fkv A)++[(Sum.inl t,.ref b)]))):=by
 have s1:aE H (upd H b (.lst xs)):=aE.upd hb;have nb:∀ {c:Addr} {u:HO},H c=some u→c≠b:=λq=>au q hb;have J1:=J.same s1;have tk:fJ (upd H b (.lst xs)) (upd (upd H b (.lst xs)) A.fh (.dK (s.aN.map (fkv A)++[(Sum.inl t,.ref b)]))):=fJ.set J1.afh (λ_ z=>nomatch z);have tk0:fJ H (upd (upd H b (.lst xs)) A.fh (.dK (s.aN.map (fkv A)++[(Sum.inl t,.ref b)]))):=(fJ.of s1).trans tk;have kt:∀ {t':Int} {w:List Wd},(t',w)∈s.aN→t'≠t:=λm e=>hn _ (by rw[←e];exact m);have mm:∀ {t':Int} {w:List Wd},(t',w)∈s.aN++[(t,ws)]→(t',w)∈s.aN∨(t'=t∧w=ws):=λm=>by
  rcases aiS.mp m with m|m
  ·exact .inl m
  ·cases aiJ.mp m;exact .inr ⟨rfl,rfl⟩
 have bf:b≠A.fh:=ai7 (nb J.afh);have fk:(s.aN++[(t,ws)]).map (fkv {A with fa:=λu=>if u=t then b else A.fa u,fx:=λu=>if u=t then xs else A.fx u})=s.aN.map (fkv A)++[(Sum.inl t,.ref b)]:=by
  rw[ai3];congr 1
  ·refine ajH λp hp=>?_
   unfold fkv;simp only;rw[if_neg (kt (t':=p.1) (w:=p.2) hp)]
  ·simp only[aji,ako,fkv,if_true]
 refine⟨⟨(by rw[ag (ay J.ax J.afh (by intro z;cases z))];exact J1.ax),(by rw[ag (ay J.ahd J.afh (by intro z;cases z))];exact J1.ahd),(by rw[ag (ay J.ahl J.afh (by intro z;cases z))];exact J1.ahl),J.rhl.keep tk0,(by rw[ag (ay J.ant J.afh (by intro z;cases z))];exact J1.ant),(by rw[ag (ay J.anl J.afh (by intro z;cases z))];exact J1.anl),(by rw[ag (ay J.awt J.afh (by intro z;cases z))];exact J1.awt),(by rw[ag J.d1];exact J1.awb),(by rw[ag (ay J.awl J.afh (by intro z;cases z))];exact J1.awl),(by rw[fk];exact ah),(λt' w m=>by
  rcases mm m with m|⟨e1,e2⟩
  ·show _=_∧_
   simp only[if_neg (kt m)];exact⟨by rw[ag (ay (J.afl _ _ m).1 J.afh (by intro z;cases z))];exact s1 _ _ (J.afl _ _ m).1,(J.afl _ _ m).2.keep tk0⟩
  ·subst e1 e2
   simp only[if_true];exact⟨by rw[ag bf];exact ah,r.keep tk0⟩),(by rw[ag (ai7 J.d4)];exact J1.ayg),(by rw[ag (ai7 J.d5)];exact J1.adm),J.nhn,J.l1,J.l2,J.l3,(λt' w m=>by
  rcases mm m with m|⟨e1,e2⟩
  ·simp only[if_neg (kt m)]
   exact J.l4 _ _ m
  ·subst e1
   simp only[if_true];exact⟨ai7 (nb J.ahl),ai7 (nb J.anl),ai7 (nb J.awl)⟩),(λt1 w1 t2 w2 m1 m2 z=>by
  simp only at z;rcases mm m1 with m1|⟨e1,_⟩
  ·rw[if_neg (kt m1)]at z
   rcases mm m2 with m2|⟨e2,_⟩
   ·rw[if_neg (kt m2)]at z
    exact J.l5 _ _ _ _ m1 m2 z
   ·rw[if_pos e2]at z
    exact absurd z (nb (J.afl _ _ m1).1)
  ·rw[if_pos e1]at z
   rcases mm m2 with m2|⟨e2,_⟩
   ·rw[if_neg (kt m2)]at z
    exact absurd z.symm (nb (J.afl _ _ m2).1)
   ·rw[e1,e2]),J.d1,J.d2,J.d3,J.d4,J.d5,J.d6⟩,?_⟩
 refine⟨λc u nf q=>?_,λc f=>?_,λc u q=>?_,tk0⟩
 ·rw[ag λe=>nf (by rw[e];exact .fh)]
  exact s1 _ _ q
 ·cases f with
  | x=>exact .inl .x
  | hd=>exact .inl .hd
  | hl=>exact .inl .hl
  | nt=>exact .inl .nt
  | nl=>exact .inl .nl
  | wt=>exact .inl .wt
  | wb=>exact .inl .wb
  | wl=>exact .inl .wl
  | fh=>exact .inl .fh
  | yg=>exact .inl .yg
  | dm=>exact .inl .dm
  | @fl t' w m =>
   rcases mm m with m|⟨e,_⟩
   ·refine .inl ?_
    show bR x A s (if t'=t then b else A.fa t');rw[if_neg (kt m)];exact .fl m
   ·refine .inr ?_
    show H (if t'=t then b else A.fa t')=none;rw[if_pos e];exact hb
 ·by_cases e:c=A.fh
  ·exact⟨_,by rw[e];exact ah⟩
  ·exact⟨u,by rw[ag e];exact s1 _ _ q⟩
end
section
variable{P:Program}{w:World}{K:W.Frag}{mg:Str→Option Value}{base:Heap}{D:Ad}
theorem gE{t u:TS}{D:Ends}{σ:St}{H:Hp}(h:∀ N:St→Hp→Prop,(∀ σ' H',u D σ' H'→N σ' H')→t {D with nx:=N} σ H):Kz t u D σ H:=h (u D) (λ_ _ q=>q)
theorem Wz{t:TT}{b e:TS}{D:Ends}{σ:St}{H:Hp}(h:∀ B:St→Hp→Prop,(∀ σ' H',b D σ' H'→B σ' H')→t σ H λc H1=>if c=true then B σ H1 else e D σ H1):ZO t b e D σ H:=h (b D) (λ_ _ q=>q)
structure Ok0(P:Program)(w:World)(K:W.Frag)(mg:Str→Option Value)(base:Heap)(n:Nat)(f:Addr)(fd:FuncData)(ps:List Str)(sp:Sp):Prop where
 g:Nr P w K mg base (CXE P w) n f fd ps sp
 b:Binds K fd ps []
theorem WA{P:Program}{w:World}{X:Cx}:Passes (CXE P w) X (λ_ _ _=>False):=λ_ _ _ _ _ _ _ ⟨_,_,_,_,_,_,_,_,_,q⟩=>q.elim
theorem dj{H0 H:Hp}{K:W.Frag}{E E2:XK}{C:Addr}{y:Str}(ec:IS K C)(h0:∀ b,H b=none→H0 b=none)(k:∀ H',aE H H'→E (.ref C) none H')(ea:Addr)(hea:H ea=none) :
  Ei K [.ref ea,.str y] (upd H ea (exo true C ea none)) (λv H2=>v=.non∧(λ(v:V) (H1:Hp)=>∃ ea C od,v=.ref ea∧H1 ea=some (exo true C ea od)∧(∃ cd,iy K C cd)∧H0 ea=none∧E (.ref C) od (del H1 ea)) (.ref ea) H2) E2:=by
 refine⟨ea,C,none,.str y,rfl,ah,ec.cls,rfl,ea,C,none,rfl,ah,ec.cls,h0 _ hea,k _ λb o q=>?_⟩;have nb:b≠ea:=λe=>by rw[e,hea]at q;cases q
 rw[w8 nb,ag nb];exact q
noncomputable def Bad(C:Addr)(H:Hp)(E:XK):Prop:=∀ H',aE H H'→E (.ref C) none H'
theorem Bad.same{C:Addr}{H H1:Hp}{E:XK}(k:Bad C H E)(s:aE H H1):Bad C H1 E:=λH' s'=>k H' (s.trans s')
noncomputable def Sm(n:Int):Prop:=n.natAbs.log2<1920
theorem Sm.of{n:Int}(h0:-1000000≤n)(h1:n≤1000000):Sm n:=QC (Nat.lt_trans (show n.natAbs<2000000 by omega) (by decide))
noncomputable def wat(ws:List Wd)(h:Int):Option Wd:=if 0≤h∧h<8 then ws[h.toNat]? else none
theorem rO{ws:List Wd}{h:Int}{wd:Wd}(e:wat ws h=some wd):0≤h∧h<8∧ws[h.toNat]?=some wd:=by
 unfold wat at e;by_cases g:0≤h∧h<8
 ·rw[if_pos g]at e;exact⟨g.1,g.2,e⟩
 ·rw[if_neg g]at e;cases e
theorem R1{ws:List Wd}{h:Int}(l:ws.length=8)(e:wat ws h=none):¬(0≤h∧h<8):=λg=>by
 unfold wat at e;rw[if_pos g,aiK (by omega)]at e;cases e
theorem HK{xs:List V}{a:Int}{v:V}(h0:0≤a)(h:xs[a.toNat]?=some v):atI xs a=some v:=by
 have e:a=(a.toNat:Int):=by omega
 rw[e];exact pK h
theorem TJ{n:Nat}{a:Int}(h0:0≤a)(h1:a<n):ixN n a=some a.toNat:=by
 unfold ixN;rw[if_pos h0,if_pos h1]
structure Hn(D:Ad)(H:Hp)(hd hdx hl:Addr)(xs:List V)(ws:List Wd):Prop where
 i:H hd=some (.ins D.aW hdx [("words_held",.ref hl)])
 l:H hl=some (.lst xs)
 r:Rel H xs ws
 n:ws.length=8
theorem Hn.same{D:Ad}{H H':Hp}{hd hdx hl:Addr}{xs:List V}{ws:List Wd}(h:Hn D H hd hdx hl xs ws)(s:aE H H'):Hn D H' hd hdx hl xs ws:=⟨s _ _ h.i,s _ _ h.l,h.r.keep (fJ.of s),h.n⟩
theorem Hn.at_{D:Ad}{H:Hp}{hd hdx hl:Addr}{xs:List V}{ws:List Wd}(N:Hn D H hd hdx hl xs ws){h:Int}{wd:Wd}(e:wat ws h=some wd):∃ v,xs[h.toNat]?=some v∧WV H v wd:=by
 obtain⟨h0,h1,e⟩:=rO e;have hi:h.toNat<ws.length:=by rw[N.n];omega
 obtain⟨v,e1,e2⟩:=N.r.get hi;rw[aiK hi]at e;cases e;exact⟨v,e1,e2⟩
theorem Hn.ix{D:Ad}{H:Hp}{hd hdx hl:Addr}{xs:List V}{ws:List Wd}(N:Hn D H hd hdx hl xs ws){h:Int}(g:0≤h∧h<8):ixN xs.length h=some h.toNat:=TJ g.1 (by rw[N.r.1,N.n];exact g.2)
noncomputable abbrev uj:List Str:=["self", "text"]
theorem tf:aw uj ["self", "text"] (ar iY):=fsc
theorem tj(F:Fun K "__init__" "HeapError.__init__" iY D.ao D.aB)(T:Txt K mg D):Ok P w K mg base 1 D.ao D.aB ["self", "text"] (Ei K):=by
 refine F.oa tf F.b2 λcdv A' outer s' H vs Q E hr h=>?_;obtain⟨ea,C,od,x,rfl,h1,hc,k⟩:=h;refine⟨_,(ai (aG (Ze rfl T.nV (ae (pv 0) (ae (pv 1) aq))))),?_⟩;exact⟨_,rfl,_,rfl,ea,C,od,[x],rfl,(by show 1≤1000;decide),h1,hc,k⟩
noncomputable def bC(n:Str):Sp:=λvs H Q _=>∃ x,vs=[x]∧Q (.str n) H
theorem xJ(F:Fun K "called" "BadCount.called" pV D.b6 D.eT)(T:Txt K mg D):Ok0 P w K mg base 1 D.b6 D.eT ["self"] (bC "BadCount") :=
 ⟨F.ok0 (N:=["self"]) fsc (λvs H Q E h=>by obtain⟨x,rfl,_⟩:=h;rfl) (λcdv A outer s H vs Q E h=>by obtain⟨x,rfl,k⟩:=h;exact⟨_,ai (aM bh),k⟩),F.binds (ps:=["self"]) λ_ _ _ _ _ _ us hl=>match us,hl with|[_],_=>rfl⟩
theorem zQ(F:Fun K "called" "BadHand.called" qT D.cC D.fB)(T:Txt K mg D):Ok0 P w K mg base 1 D.cC D.fB ["self"] (bC "BadHand") :=
 ⟨F.ok0 (N:=["self"]) fsc (λvs H Q E h=>by obtain⟨x,rfl,_⟩:=h;rfl) (λcdv A outer s H vs Q E h=>by obtain⟨x,rfl,k⟩:=h;exact⟨_,ai (aM bh),k⟩),F.binds (ps:=["self"]) λ_ _ _ _ _ _ us hl=>match us,hl with|[_],_=>rfl⟩
theorem zR(F:Fun K "called" "BadName.called" qU D.cD D.fD)(T:Txt K mg D):Ok0 P w K mg base 1 D.cD D.fD ["self"] (bC "BadName") :=
 ⟨F.ok0 (N:=["self"]) fsc (λvs H Q E h=>by obtain⟨x,rfl,_⟩:=h;rfl) (λcdv A outer s H vs Q E h=>by obtain⟨x,rfl,k⟩:=h;exact⟨_,ai (aM bh),k⟩),F.binds (ps:=["self"]) λ_ _ _ _ _ _ us hl=>match us,hl with|[_],_=>rfl⟩
theorem xK(F:Fun K "called" "BadField.called" pU D.b5 D.eS)(T:Txt K mg D):Ok0 P w K mg base 1 D.b5 D.eS ["self"] (bC "BadField") :=
 ⟨F.ok0 (N:=["self"]) fsc (λvs H Q E h=>by obtain⟨x,rfl,_⟩:=h;rfl) (λcdv A outer s H vs Q E h=>by obtain⟨x,rfl,k⟩:=h;exact⟨_,ai (aM bh),k⟩),F.binds (ps:=["self"]) λ_ _ _ _ _ _ us hl=>match us,hl with|[_],_=>rfl⟩
theorem rA(F:Fun K "called" "TooManyWords.called" lC D.a5 D.cR)(T:Txt K mg D):Ok0 P w K mg base 1 D.a5 D.cR ["self"] (bC "TooManyWords") :=
 ⟨F.ok0 (N:=["self"]) fsc (λvs H Q E h=>by obtain⟨x,rfl,_⟩:=h;rfl) (λcdv A outer s H vs Q E h=>by obtain⟨x,rfl,k⟩:=h;exact⟨_,ai (aM bh),k⟩),F.binds (ps:=["self"]) λ_ _ _ _ _ _ us hl=>match us,hl with|[_],_=>rfl⟩
theorem zS(F:Fun K "called" "BadView.called" qX D.dt D.gU)(T:Txt K mg D):Ok0 P w K mg base 1 D.dt D.gU ["self"] (bC "BadView") :=
 ⟨F.ok0 (N:=["self"]) fsc (λvs H Q E h=>by obtain⟨x,rfl,_⟩:=h;rfl) (λcdv A outer s H vs Q E h=>by obtain⟨x,rfl,k⟩:=h;exact⟨_,ai (aM bh),k⟩),F.binds (ps:=["self"]) λ_ _ _ _ _ _ us hl=>match us,hl with|[_],_=>rfl⟩
theorem Cr(F:Fun K "called" "NoRoom.called" sM D.cY D.gi)(T:Txt K mg D):Ok0 P w K mg base 1 D.cY D.gi ["self"] (bC "NoRoom") :=
 ⟨F.ok0 (N:=["self"]) fsc (λvs H Q E h=>by obtain⟨x,rfl,_⟩:=h;rfl) (λcdv A outer s H vs Q E h=>by obtain⟨x,rfl,k⟩:=h;exact⟨_,ai (aM bh),k⟩),F.binds (ps:=["self"]) λ_ _ _ _ _ _ us hl=>match us,hl with|[_],_=>rfl⟩
theorem zU(F:Fun K "called" "RoundOn.called" qV D.cE D.fE)(T:Txt K mg D):Ok0 P w K mg base 1 D.cE D.fE ["self"] (bC "RoundOn") :=
 ⟨F.ok0 (N:=["self"]) fsc (λvs H Q E h=>by obtain⟨x,rfl,_⟩:=h;rfl) (λcdv A outer s H vs Q E h=>by obtain⟨x,rfl,k⟩:=h;exact⟨_,ai (aM bh),k⟩),F.binds (ps:=["self"]) λ_ _ _ _ _ _ us hl=>match us,hl with|[_],_=>rfl⟩
theorem zV(F:Fun K "called" "NoRound.called" qW D.cF D.fF)(T:Txt K mg D):Ok0 P w K mg base 1 D.cF D.fF ["self"] (bC "NoRound") :=
 ⟨F.ok0 (N:=["self"]) fsc (λvs H Q E h=>by obtain⟨x,rfl,_⟩:=h;rfl) (λcdv A outer s H vs Q E h=>by obtain⟨x,rfl,k⟩:=h;exact⟨_,ai (aM bh),k⟩),F.binds (ps:=["self"]) λ_ _ _ _ _ _ us hl=>match us,hl with|[_],_=>rfl⟩
noncomputable def OJ:Sp:=λvs H Q _=>∃ v wd,vs=[v]∧WV H v wd∧Q (.str wd.kind) H
noncomputable abbrev QN:List Str:=["value"]
theorem NN:aw QN ["value"] (ar D7):=fsc
theorem NO(F:Fun K "kind_of" "kind_of" D7 D.iX D.pE)(T:Txt K mg D):Ok P w K mg base 1 D.iX D.pE ["value"] (OJ):=by
 refine F.oa NN F.b1 λcdv A' outer s' H vs Q E hr h=>?_;obtain⟨v,wd,rfl,hv,k⟩:=h;refine⟨_,(ai (aM (BR (aJ Su (pv 0) kc (bN _)) bh (cg bY (pv 0) av (λ_ _=>rfl))))),?_⟩;cases wd with
 | no =>
  obtain rfl:v=.non:=hv;exact⟨_,rfl,rfl,_,rfl,aY (λ_=>k) (λh=>absurd (by simp) h)⟩
 | num n =>
  obtain⟨t,rfl,ht⟩:=hv;exact⟨_,rfl,rfl,_,rfl,aY (λh=>by simp at h) (λ_=>⟨_,rfl,t,_,0,_,rfl,rfl,SqT.of ht,rfl,k⟩)⟩
 | th n =>
  obtain⟨t,rfl,ht⟩:=hv;exact⟨_,rfl,rfl,_,rfl,aY (λh=>by simp at h) (λ_=>⟨_,rfl,t,_,0,_,rfl,rfl,SqT.of ht,rfl,k⟩)⟩
noncomputable def dW(D:Ad):Sp:=λvs H Q E=>∃ n:Int,vs=[.int n]∧Sm n∧(if 0≤n∧n<8 then Q .non H else Bad D.bj H E)
noncomputable abbrev FD:List Str:=["h"]
theorem EH:aw FD ["h"] (ar oK):=fsc
theorem EI(F:Fun K "look_at_hand" "look_at_hand" oK D.bg D.cx)(T:Txt K mg D)
  (aj:Ok P w K mg base 1 D.ao D.aB ["self", "text"] (Ei K)):Ok P w K mg base 3 D.bg D.cx ["h"] (dW D):=by
 refine F.oa EH F.b1 λcdv A' outer s' H vs Q E hr h=>?_;obtain⟨n,rfl,hb,k⟩:=h;refine⟨_,(ai (cj (pB (rN Ez Gw av (pv 0) (kh (v:=.int 8) rfl T.GO ⟨_,rfl⟩)))
   (ai (gh rfl lA (aj.e hr T.zq T.zp px (ae (jH (bu (mx (pv 0)) (bu iA jG))) aq))))
   aU)),?_⟩
 by_cases g:0≤n∧n<8
 ·rw[if_pos g]at k
  refine⟨_,rfl,0,n,rfl,rfl,_,rfl,aY (λ_=>⟨n,8,rfl,rfl,_,rfl,aY (λh2=>absurd h2 (by rw[decide_eq_true g.2];decide)) (λ_=>k)⟩) (λh1=>absurd (decide_eq_true g.1) h1)⟩
 ·rw[if_neg g]at k
  by_cases g0:0≤n
  ·have g1:¬n<8:=λz=>g ⟨g0,z⟩
   refine⟨_,rfl,0,n,rfl,rfl,_,rfl,aY (λ_=>⟨n,8,rfl,rfl,_,rfl,aY (λ_=>⟨_,rfl,n,rfl,hb,λy hy ea hea=>dj T.j9 (λ_ q=>q) k ea hea⟩) (λh2=>absurd (by rw[decide_eq_false g1];rfl) h2)⟩) (λh1=>absurd (decide_eq_true g0) h1)⟩
  ·refine⟨_,rfl,0,n,rfl,rfl,_,rfl,aY (λh1=>absurd (of_decide_eq_true h1) g0) (λ_=>⟨_,rfl,sL ⟨_,rfl,n,rfl,hb,λy hy ea hea=>dj T.j9 (λ_ q=>q) k ea hea⟩⟩)⟩
noncomputable def ny(D:Ad):Sp:=λvs H Q E=>∃ n:Int,vs=[.int n]∧Sm n∧(if 0≤n∧n<8 then Q .non H else Bad D.di H E)
noncomputable abbrev FE:List Str:=["w"]
theorem EJ:aw FE ["w"] (ar oO):=fsc
theorem EL(F:Fun K "look_at_name" "look_at_name" oO D.cU D.hZ)(T:Txt K mg D)
  (aj:Ok P w K mg base 1 D.ao D.aB ["self", "text"] (Ei K)):Ok P w K mg base 3 D.cU D.hZ ["w"] (ny D):=by
 refine F.oa EJ F.b1 λcdv A' outer s' H vs Q E hr h=>?_;obtain⟨n,rfl,hb,k⟩:=h;refine⟨_,(ai (cj (pB (rN Ez Gw av (pv 0) (kh (v:=.int 8) rfl T.nW ⟨_,rfl⟩)))
   (ai (gh rfl lA (aj.e hr T.Ny T.Nx px (ae (jH (bu (mx (pv 0)) (bu iA jG))) aq))))
   aU)),?_⟩
 by_cases g:0≤n∧n<8
 ·rw[if_pos g]at k
  refine⟨_,rfl,0,n,rfl,rfl,_,rfl,aY (λ_=>⟨n,8,rfl,rfl,_,rfl,aY (λh2=>absurd h2 (by rw[decide_eq_true g.2];decide)) (λ_=>k)⟩) (λh1=>absurd (decide_eq_true g.1) h1)⟩
 ·rw[if_neg g]at k
  by_cases g0:0≤n
  ·have g1:¬n<8:=λz=>g ⟨g0,z⟩
   refine⟨_,rfl,0,n,rfl,rfl,_,rfl,aY (λ_=>⟨n,8,rfl,rfl,_,rfl,aY (λ_=>⟨_,rfl,n,rfl,hb,λy hy ea hea=>dj T.zr (λ_ q=>q) k ea hea⟩) (λh2=>absurd (by rw[decide_eq_false g1];rfl) h2)⟩) (λh1=>absurd (decide_eq_true g0) h1)⟩
  ·refine⟨_,rfl,0,n,rfl,rfl,_,rfl,aY (λh1=>absurd (of_decide_eq_true h1) g0) (λ_=>⟨_,rfl,sL ⟨_,rfl,n,rfl,hb,λy hy ea hea=>dj T.zr (λ_ q=>q) k ea hea⟩⟩)⟩
noncomputable def vk(D:Ad):Sp:=λvs H Q E=>∃ n:Int,vs=[.int n]∧Sm n∧(if 0≤n∧n≤6 then Q (.int (n+1)) H else Bad D.bP H E)
noncomputable abbrev NP:List Str:=["fields"]
theorem Ly:aw NP ["fields"] (ar zm):=fsc
theorem Lz(F:Fun K "words_of" "words_of" zm D.gP D.mB)(T:Txt K mg D)
  (aj:Ok P w K mg base 1 D.ao D.aB ["self", "text"] (Ei K)):Ok P w K mg base 3 D.gP D.mB ["fields"] (vk D):=by
 refine F.oa Ly F.b1 λcdv A' outer s' H vs Q E hr h=>?_;obtain⟨n,rfl,hb,k⟩:=h;refine⟨_,(ak (cj (pB (rN Ez Ez av (pv 0) (kh (v:=.int 6) rfl T.qF ⟨_,rfl⟩)))
   (ai (gh rfl lA (aj.e hr T.mY T.mX px (ae (jH (bu (mx (pv 0)) (bu iA jG))) aq))))
   aU)
  (ai (aM (eE Fp (pv 0) av)))),?_⟩
 by_cases g:0≤n∧n≤6
 ·rw[if_pos g]at k
  refine⟨_,rfl,0,n,rfl,rfl,_,rfl,aY (λ_=>⟨n,6,rfl,rfl,_,rfl,aY (λh2=>absurd h2 (by rw[decide_eq_true g.2];decide)) (λ_=>⟨_,rfl,n,1,rfl,rfl,k⟩)⟩) (λh1=>absurd (decide_eq_true g.1) h1)⟩
 ·rw[if_neg g]at k
  by_cases g0:0≤n
  ·have g1:¬n≤6:=λz=>g ⟨g0,z⟩
   refine⟨_,rfl,0,n,rfl,rfl,_,rfl,aY (λ_=>⟨n,6,rfl,rfl,_,rfl,aY (λ_=>⟨_,rfl,n,rfl,hb,λy hy ea hea=>dj T.qt (λ_ q=>q) k ea hea⟩) (λh2=>absurd (by rw[decide_eq_false g1];rfl) h2)⟩) (λh1=>absurd (decide_eq_true g0) h1)⟩
  ·refine⟨_,rfl,0,n,rfl,rfl,_,rfl,aY (λh1=>absurd (of_decide_eq_true h1) g0) (λ_=>⟨_,rfl,sL ⟨_,rfl,n,rfl,hb,λy hy ea hea=>dj T.qt (λ_ q=>q) k ea hea⟩⟩)⟩
noncomputable def lU(D:Ad):Sp:=λvs H Q E=>∃ n m:Int,vs=[.int n,.int m]∧Sm n∧Sm m∧(if 0≤n∧n<m then Q .non H else Bad D.dE H E)
noncomputable abbrev EM:List Str:=["k", "fields"]
theorem Cs:aw EM ["k", "fields"] (ar nj):=fsc
theorem Ct(F:Fun K "look_at_field" "look_at_field" nj D.cy D.gj)(T:Txt K mg D)
  (aj:Ok P w K mg base 1 D.ao D.aB ["self", "text"] (Ei K)):Ok P w K mg base 3 D.cy D.gj ["k", "fields"] (lU D):=by
 refine F.oa Cs F.b2 λcdv A' outer s' H vs Q E hr h=>?_;obtain⟨n,m,rfl,hb,hm,k⟩:=h;refine⟨_,(ai (cj (pB (rN Ez Gw av (pv 0) (pv 1)))
   (ai (gh rfl lA (aj.e hr T.Lp T.Lo px (ae (jH (bu iA (bu (mx (pv 1)) (bu iA (bu (mx (pv 0)) jG))))) aq))))
   aU)),?_⟩
 by_cases g:0≤n∧n<m
 ·rw[if_pos g]at k
  refine⟨_,rfl,0,n,rfl,rfl,_,rfl,aY (λ_=>⟨_,rfl,n,m,rfl,rfl,_,rfl,aY (λh2=>absurd h2 (by rw[decide_eq_true g.2];decide)) (λ_=>k)⟩) (λh1=>absurd (decide_eq_true g.1) h1)⟩
 ·rw[if_neg g]at k
  by_cases g0:0≤n
  ·have g1:¬n<m:=λz=>g ⟨g0,z⟩
   refine⟨_,rfl,0,n,rfl,rfl,_,rfl,aY (λ_=>⟨_,rfl,n,m,rfl,rfl,_,rfl,aY (λ_=>⟨_,rfl,m,rfl,hm,_,rfl,n,rfl,hb,λy hy ea hea=>dj T.vg (λ_ q=>q) k ea hea⟩) (λh2=>absurd (by rw[decide_eq_false g1];rfl) h2)⟩) (λh1=>absurd (decide_eq_true g0) h1)⟩
  ·refine⟨_,rfl,0,n,rfl,rfl,_,rfl,aY (λh1=>absurd (of_decide_eq_true h1) g0) (λ_=>⟨_,rfl,sL ⟨_,rfl,m,rfl,hm,_,rfl,n,rfl,hb,λy hy ea hea=>dj T.vg (λ_ q=>q) k ea hea⟩⟩)⟩
noncomputable def Num(x:Int):Prop:=-(10 ^ 60)≤x∧x≤10 ^ 60
noncomputable instance {x:Int}:Decidable (Num x):=inferInstanceAs (Decidable (_∧_))
noncomputable def kJ(D:Ad):Sp:=λvs H Q E=>∃ x:Int,vs=[.int x]∧Sm x∧(if Num x then Q .non H else Bad D.bP H E)
noncomputable abbrev Cu:List Str:=["x"]
theorem zW:aw Cu ["x"] (ar lG):=fsc
theorem zX(F:Fun K "look_at_number" "look_at_number" lG D.bT D.fG)(T:Txt K mg D)
  (aj:Ok P w K mg base 1 D.ao D.aB ["self", "text"] (Ei K)):Ok P w K mg base 3 D.bT D.fG ["x"] (kJ D):=by
 refine F.oa zW F.b1 λcdv A' outer s' H vs Q E hr h=>?_;obtain⟨x,rfl,hb,k⟩:=h;refine⟨_,(ai (cj (aJ KP (eh RC rfl T.TB PyProof.Rows.Boot.«abs» (ae (pv 0) aq)) (eE V4 av av) (bN _))
   (ai (gh rfl lA (aj.e hr T.mY T.mX px (ae (jH (bu (mx (pv 0)) (bu iA jG))) aq))))
   aU)),?_⟩
 have e60:((10:Int) ^ (60:Int).toNat)=10 ^ 60:=rfl;by_cases g:Num x
 ·rw[if_pos g]at k
  refine⟨_,rfl,x,rfl,10,60,rfl,rfl,⟨by decide,by decide,by decide⟩,_,_,rfl,rfl,_,rfl,aY (λh=>absurd (of_decide_eq_true h) ?_) (λ_=>k)⟩
  have:=g.1
  have:=g.2
  rw[e60];split<;>omega
 ·rw[if_neg g]at k
  refine⟨_,rfl,x,rfl,10,60,rfl,rfl,⟨by decide,by decide,by decide⟩,_,_,rfl,rfl,_,rfl,aY (λ_=>⟨_,rfl,x,rfl,hb,λy hy ea hea=>dj T.qt (λ_ q=>q) k ea hea⟩) (λh=>absurd (decide_eq_true ?_) h)⟩;unfold Num at g;rw[e60];split<;>omega
noncomputable def sQ(D:Ad):Sp:=λvs H Q E=>∃ x:Int,vs=[.int x]∧Sm x∧(if Num x then ∀ t H',aE H H'→H' t=some (.tup [.str "number",.int x])→Q (.ref t) H' else Bad D.bP H E)
noncomputable abbrev FF:List Str:=["x"]
theorem EN:aw FF ["x"] (ar oJ):=fsc
theorem EO(F:Fun K "number_value" "number_value" oJ D.dP D.i9)(T:Txt K mg D)
  (fK:Ok P w K mg base 3 D.bT D.fG ["x"] (kJ D)):Ok P w K mg base 4 D.dP D.i9 ["x"] (sQ D):=by
 refine F.oa EN F.b1 λcdv A' outer s' H vs Q E hr h=>?_;obtain⟨x,rfl,hb,k⟩:=h;refine⟨_,(ak (aG (fK.c hr T.qY T.jf px (ae (pv 0) aq)))
  (ai (aM (iu (ae bh (ae (pv 0) aq)))))),?_⟩
 refine⟨_,rfl,x,rfl,hb,?_⟩;by_cases g:Num x
 ·rw[if_pos g]at k ⊢
  exact⟨_,rfl,by show 2≤sizeLine;decide,λt ht=>k t _ (aE.upd ht) ah⟩
 ·rw[if_neg g]at k ⊢
  exact k
noncomputable def kW:Sp:=λvs H Q E=>∃ x:Int,vs=[.int x]∧0≤x∧∀ t H',aE H H'→H' t=some (.tup [.str "thing",.int x])→Q (.ref t) H'
noncomputable abbrev HL:List Str:=["t"]
theorem FG:aw HL ["t"] (ar qy):=fsc
theorem FH(F:Fun K "thing_value" "thing_value" qy D.cV D.gL)(T:Txt K mg D)
  (aj:Ok P w K mg base 1 D.ao D.aB ["self", "text"] (Ei K)):Ok P w K mg base 3 D.cV D.gL ["t"] (kW):=by
 refine F.oa FG F.b1 λcdv A' outer s' H vs Q E hr h=>?_;obtain⟨x,rfl,h0,k⟩:=h;refine⟨_,(ak (cj (aJ Gw (pv 0) av (bN _))
   (ai (gh rfl lA (aj.e hr T.mY T.mX px (ae (jH (bu (mx (pv 0)) (bu iA jG))) aq))))
   aU)
  (ai (aM (iu (ae bh (ae (pv 0) aq)))))),?_⟩
 exact⟨_,rfl,x,0,rfl,rfl,_,rfl,aY (λh=>absurd (of_decide_eq_true h) (by omega)) (λ_=>⟨_,rfl,by show 2≤sizeLine;decide,λt ht=>k t _ (aE.upd ht) ah⟩)⟩
noncomputable def p9:Sp:=λvs H Q E=>∃ y l:Int,vs=[.int y,.int l]∧(y=0∨(7≤y∧y≤64))∧7≤l∧l≤400∧Q .non H
noncomputable abbrev Cw:List Str:=["young", "limit"]
theorem zY:aw Cw ["young", "limit"] (ar lH):=fsc
theorem zZ(F:Fun K "look_at_limits" "look_at_limits" lH D.cG D.gW)(T:Txt K mg D)
  (aj:Ok P w K mg base 1 D.ao D.aB ["self", "text"] (Ei K)):Ok P w K mg base 3 D.cG D.gW ["young", "limit"] (p9):=by
 refine F.oa zY F.b2 λcdv A' outer s' H vs Q E hr h=>?_;obtain⟨y,l,rfl,hy,l0,l1,k⟩:=h;refine⟨_,(ak (cj (PW.pt (pw_and (aJ Q7 (pv 0) av (bN _)) (pw_and1 (pB (rN Ez Ez (kh (v:=.int 7) rfl T.nX ⟨_,rfl⟩) (pv 0) (kh (v:=.int 64) rfl T.sr ⟨_,rfl⟩))))))
   (ai (gh rfl lA (aj.e hr T.mY T.mX px (ae (jH (bu (mx (pv 0)) (bu iA jG))) aq))))
   aU)
  (ai (cj (pB (rN Ez Ez (kh (v:=.int 7) rfl T.nX ⟨_,rfl⟩) (pv 1) (kh (v:=.int 400) rfl T.sA ⟨_,rfl⟩)))
   (ai (gh rfl lA (aj.e hr T.mY T.mX px (ae (jH (bu (mx (pv 1)) (bu iA jG))) aq))))
   aU))),?_⟩
 refine gE λN hN=>?_;have rest:N [some (.int y),some (.int l)] H:=by
  refine hN _ _ ?_;exact⟨_,rfl,7,l,rfl,rfl,_,rfl,aY (λ_=>⟨l,400,rfl,rfl,_,rfl,aY (λh2=>absurd h2 (by rw[decide_eq_true l1];decide)) (λ_=>k)⟩) (λh1=>absurd (decide_eq_true l0) h1)⟩
 rcases hy with rfl|⟨y0,y1⟩
 ·exact⟨_,rfl,rfl,_,rfl,aY (λh=>absurd h (by decide)) (λ_=>gS rest)⟩
 ·refine⟨_,rfl,rfl,_,rfl,aY (λ_=>?_) (λh=>absurd (show(!decide (V.int y=V.int 0))=true from ?_) h)⟩
  ·exact⟨_,rfl,7,y,rfl,rfl,_,rfl,aY (λ_=>⟨y,64,rfl,rfl,_,rfl,aY (λh2=>absurd h2 (by rw[decide_eq_true y1];decide)) (λ_=>rest)⟩) (λh1=>absurd (decide_eq_true y0) h1)⟩
  ·rw[decide_eq_false (by intro z;injection z with z;omega)];rfl
noncomputable def But(m:Addr)(H H':Hp):Prop:=∀ b u,b≠m→H b=some u→H' b=some u
theorem But.upd{m a:Addr}{H:Hp}{o:HO}(h:H a=none):But m H (L2.upd H a o):=λb u _ q=>by rw[ag (au q h)];exact q
theorem But.self{m:Addr}{H:Hp}{o:HO}:But m H (L2.upd H m o):=λb u n q=>by rw[ag n];exact q
theorem But.trans{m:Addr}{H H1 H2:Hp}(a:But m H H1)(b:But m H1 H2):But m H H2:=λc u n q=>b c u n (a c u n q)
theorem aE.none{H H':Hp}(s:aE H H'){b:Addr}(h:H' b=none):H b=none:=by
 cases q:H b with
 | none=>rfl
 | some u=>rw[s _ _ q]at h;cases h
theorem aeY:(List.replicate (8:Int).toNat [V.non]).flatten=List.replicate 8 .non:=rfl
theorem lookup_some{α:Type}{bs:List (Int×α)}{t:Int}{v:α}(h:bs.lookup t=some v):(t,v)∈bs:=by
 induction bs with
 | nil=>cases h
 | cons p r ih =>
  obtain⟨a,b⟩:=p;rw[ajn]at h;by_cases e:t == a
  ·rw[e]at h
   rw[beq_iff_eq]at e;subst e;cases h;exact ai1
  ·rw[Bool.not_eq_true]at e
   rw[e]at h;exact ai4 _ (ih h)
theorem lookup_none{α:Type}{bs:List (Int×α)}{t:Int}(h:bs.lookup t=none):∀ p∈bs,p.1≠t:=by
 induction bs with
 | nil=>intro p hp;cases hp
 | cons p r ih =>
  obtain⟨a,b⟩:=p;rw[ajn]at h;by_cases e:t == a
  ·rw[e]at h;cases h
  ·rw[Bool.not_eq_true]at e
   rw[e]at h;intro q hq;rcases aiY.mp hq with rfl|hq
   ·exact λz=>by rw[beq_eq_false_iff_ne]at e;exact e z.symm
   ·exact ih h q hq
theorem GP{α:Type}{f:Int×α→Key×V}{bs:List (Int×α)}{t:Int}(hf:∀ p,(f p).1=Sum.inl p.1):mj (bs.map f) (Sum.inl t)=(bs.lookup t).map λv=>(f (t,v)).2:=by
 induction bs with
 | nil=>rfl
 | cons p r ih =>
  obtain⟨a,b⟩:=p;rw[aji,ajn];by_cases e:t=a
  ·subst e
   rw[pQ (hf (t,b)),beq_self_eq_true];rfl
  ·rw[pR (by rw[hf (a,b)];exact λz=>e (Sum.inl.inj z).symm),beq_eq_false_iff_ne.mpr e,ih]
theorem VJ{bs:List (Int×Int)}{t:Int}:mj (bs.map bkv) (Sum.inl t)=(bs.lookup t).map V.int:=GP λ_=>rfl
noncomputable def IZ(bs:List (Int×Int))(t x:Int):List (Int×Int):=if(bs.lookup t).isSome=true then bs.map (λp=>if p.1=t then(t,x) else p) else bs++[(t,x)]
theorem MB{bs:List (Int×Int)}{t x:Int}:(IZ bs t x).map bkv=putK (bs.map bkv) (Sum.inl t) (.int x):=by
 unfold IZ putK;rw[BV,VJ,aj0];by_cases e:(bs.lookup t).isSome=true
 ·rw[if_pos e,if_pos e,aju,aju]
  refine ajH λp hp=>?_;show bkv (if p.1=t then(t,x) else p)=if(bkv p).1=Sum.inl t then((bkv p).1,V.int x) else bkv p;by_cases c:p.1=t
  ·rw[if_pos c,if_pos (by show Sum.inl p.1=Sum.inl t;rw[c])];unfold bkv;rw[c]
  ·rw[if_neg c,if_neg (show ¬(bkv p).1=Sum.inl t from λz=>c (Sum.inl.inj (show(Sum.inl p.1:Key)=Sum.inl t from z)))]
 ·rw[if_neg e,if_neg e,ai3]
  rfl
structure Nt(D:Ad)(H:Hp)(nt ntx nl:Addr)(xs:List V):Prop where
 i:H nt=some (.ins D.aD ntx [("things_named",.ref nl)])
 l:H nl=some (.lst xs)
 n:xs.length=8
structure Wt(D:Ad)(H:Hp)(wt wtx wb wl:Addr)(bs:List (Int×Int))(zs:List Int):Prop where
 i:H wt=some (.ins D.aF wtx [("words_borne",.ref wb),("words_said",.ref wl)])
 b:H wb=some (.dK (bs.map bkv))
 l:H wl=some (.lst (zs.map V.int))
noncomputable def xi(D:Ad):Sp:=λvs H Q _=>∃ m dx,vs=[.ref m]∧H m=some (.ins D.aW dx [])∧∀ c H',But m H H'→H c=none→H' c=some (.lst (List.replicate 8 .non))→H' m=some (.ins D.aW dx [("words_held",.ref c)])→Q .non H'
noncomputable abbrev Cy:List Str:=["self"]
theorem z6:aw Cy ["self"] (ar lI):=fsc
theorem z7(F:Fun K "__init__" "Hands.__init__" lI D.du D.gZ)(T:Txt K mg D):Ok P w K mg base 1 D.du D.gZ ["self"] (xi D):=by
 refine F.oa z6 F.b1 λcdv A' outer s' H vs Q E hr h=>?_;obtain⟨m,dx,rfl,hm,k⟩:=h;refine⟨_,(ai (ir (pv 0) (eE OD (ke (ae kc aq)) (kh (v:=.int 8) rfl T.GO ⟨_,rfl⟩)) rfl)),?_⟩;refine⟨by show 1≤sizeLine;decide,λp hp=>⟨p,8,_,rfl,rfl,ah,by decide,by decide,by show 1*8≤sizeLine;decide,λq hq=>?_⟩⟩;have np:m≠p:=au hm hp;have hm1:upd H p (.lst [.non]) m=some (.ins D.aW dx []):=by rw[ag np];exact hm
 have nq:m≠q:=au hm1 hq;have qp:q≠p:=λe=>by rw[e,ah]at hq;cases hq
 have hq0:H q=none:=by rw[ag qp]at hq;exact hq
 refine⟨_,rfl,m,D.aW,dx,[],rfl,(by rw[ag nq];exact hm1),T.aS,T.cw,by decide,?_⟩;refine k q _ (((But.upd hp).trans (But.upd hq)).trans But.self) hq0 ?_ ah;rw[ag (ai7 nq),ah,aeY]
noncomputable def qa(D:Ad):Sp:=λvs H Q _=>∃ m dx,vs=[.ref m]∧H m=some (.ins D.aD dx [])∧∀ c H',But m H H'→H c=none→H' c=some (.lst (List.replicate 8 .non))→H' m=some (.ins D.aD dx [("things_named",.ref c)])→Q .non H'
noncomputable abbrev uk:List Str:=["self"]
theorem tm:aw uk ["self"] (ar i3):=fsc
theorem tq(F:Fun K "__init__" "NameTable.__init__" i3 D.bK D.eG)(T:Txt K mg D):Ok P w K mg base 1 D.bK D.eG ["self"] (qa D):=by
 refine F.oa tm F.b1 λcdv A' outer s' H vs Q E hr h=>?_;obtain⟨m,dx,rfl,hm,k⟩:=h;refine⟨_,(ai (ir (pv 0) (eE OD (ke (ae kc aq)) (kh (v:=.int 8) rfl T.nW ⟨_,rfl⟩)) rfl)),?_⟩;refine⟨by show 1≤sizeLine;decide,λp hp=>⟨p,8,_,rfl,rfl,ah,by decide,by decide,by show 1*8≤sizeLine;decide,λq hq=>?_⟩⟩;have np:m≠p:=au hm hp;have hm1:upd H p (.lst [.non]) m=some (.ins D.aD dx []):=by rw[ag np];exact hm
 have nq:m≠q:=au hm1 hq;have qp:q≠p:=λe=>by rw[e,ah]at hq;cases hq
 have hq0:H q=none:=by rw[ag qp]at hq;exact hq
 refine⟨_,rfl,m,D.aD,dx,[],rfl,(by rw[ag nq];exact hm1),T.dN,T.bO,by decide,?_⟩;refine k q _ (((But.upd hp).trans (But.upd hq)).trans But.self) hq0 ?_ ah;rw[ag (ai7 nq),ah,aeY]
noncomputable def sR(D:Ad):Sp:=λvs H Q E=>∃ hd hdx hl xs ws,∃ h:Int,vs=[.ref hd,.int h]∧Hn D H hd hdx hl xs ws∧Sm h∧(match wat ws h with|some wd=>∀ v,xs[h.toNat]?=some v→WV H v wd→Q v H|none=>Bad D.bj H E)
noncomputable abbrev ER:List Str:=["self", "h"]
theorem Cz:aw ER ["self", "h"] (ar nk):=fsc
theorem CA(F:Fun K "word_in" "Hands.word_in" nk D.cz D.eX)(T:Txt K mg D)
  (aI:Ok P w K mg base 3 D.bg D.cx ["h"] (dW D)):Ok P w K mg base 4 D.cz D.eX ["self", "h"] (sR D):=by
 refine F.oa Cz F.b2 λcdv A' outer s' H vs Q E hr h=>?_;obtain⟨hd,hdx,hl,xs,ws,h,rfl,N,hb,k⟩:=h;refine⟨_,(ak (aG (aI.c hr T.f9 T.dR px (ae (pv 1) aq)))
  (ai (aM (cg iW (aH (pv 0) rfl) (pv 1) (λ_ _=>rfl))))),?_⟩
 refine⟨_,rfl,h,rfl,hb,?_⟩;cases e:wat ws h with
 | none =>
  rw[if_neg (R1 N.n e)];rw[e]at k;exact k
 | some wd =>
  obtain⟨h0,h1,_⟩:=rO e;obtain⟨v,hv,wv⟩:=N.at_ e;rw[if_pos ⟨h0,h1⟩];rw[e]at k;exact⟨_,rfl,hd,D.aW,hdx,_,.ref hl,rfl,N.i,T.aS,T.cw,rfl,_,rfl,hl,xs,h,v,rfl,rfl,SqL.of N.l,HK h0 hv,k v hv wv⟩
noncomputable def xj(D:Ad):Sp:=λvs H Q E=>∃ hd hdx hl xs ws v,∃ h:Int,vs=[.ref hd,.int h,v]∧Hn D H hd hdx hl xs ws∧Sm h∧(if 0≤h∧h<8 then Q .non (upd H hl (.lst (xs.set h.toNat v))) else Bad D.bj H E)
noncomputable abbrev LA:List Str:=["self", "h", "word"]
theorem Jy:aw LA ["self", "h", "word"] (ar uZ):=fsc
theorem Jz(F:Fun K "put" "Hands.put" uZ D.eP D.iB)(T:Txt K mg D)
  (aI:Ok P w K mg base 3 D.bg D.cx ["h"] (dW D)):Ok P w K mg base 4 D.eP D.iB ["self", "h", "word"] (xj D):=by
 refine F.oa Jy F.b3 λcdv A' outer s' H vs Q E hr h=>?_;obtain⟨hd,hdx,hl,xs,ws,v,h,rfl,N,hb,k⟩:=h;refine⟨_,(ak (aG (aI.c hr T.f9 T.dR px (ae (pv 1) aq)))
  (ai (HE (pv 2) (HD (aH (pv 0) rfl) (pv 1) set_list)))),?_⟩
 refine⟨_,rfl,h,rfl,hb,?_⟩;by_cases g:0≤h∧h<8
 ·rw[if_pos g]at k ⊢
  exact⟨_,rfl,_,rfl,hd,D.aW,hdx,_,.ref hl,rfl,N.i,T.aS,T.cw,rfl,_,rfl,hl,xs,h,h.toNat,rfl,rfl,N.l,N.ix g,k⟩
 ·rw[if_neg g]at k ⊢
  exact k
noncomputable def MC(D:Ad):Sp:=λvs H Q E=>∃ hd hdx hl xs ws,∃ h g:Int,vs=[.ref hd,.int h,.int g]∧Hn D H hd hdx hl xs ws∧Sm h∧Sm g∧(if 0≤h∧h<8 then(match wat ws g with|some wd=>∀ v,WV H v wd→Q .non (upd H hl (.lst (xs.set h.toNat v)))|none=>Bad D.bj H E) else Bad D.bj H E)
noncomputable abbrev JA:List Str:=["self", "h", "g"]
theorem HM:aw JA ["self", "h", "g"] (ar rR):=fsc
theorem HN(F:Fun K "copy" "Hands.copy" rR D.gD D.kY)(T:Txt K mg D)
  (aI:Ok P w K mg base 3 D.bg D.cx ["h"] (dW D))
  (cZ:Ok P w K mg base 4 D.cz D.eX ["self", "h"] (sR D)):Ok P w K mg base 5 D.gD D.kY ["self", "h", "g"] (MC D):=by
 refine F.oa HM F.b3 λcdv A' outer s' H vs Q E hr h=>?_;obtain⟨hd,hdx,hl,xs,ws,h,g,rfl,N,hb,hg,k⟩:=h;refine⟨_,(ak (aG (aI.c hr T.f9 T.dR px (ae (pv 1) aq)))
  (ai (HE (cZ.m hr (pv 0) T.aS T.lS px (ae (pv 2) aq)) (HD (aH (pv 0) rfl) (pv 1) set_list)))),?_⟩
 refine⟨_,rfl,h,rfl,hb,?_⟩;by_cases c:0≤h∧h<8
 ·rw[if_pos c]at k ⊢
  refine⟨_,rfl,hd,hdx,_,rfl,N.i,rfl,_,rfl,hd,hdx,hl,xs,ws,g,rfl,N,hg,?_⟩;cases e:wat ws g with
  | none =>
   rw[e]at k;exact k
  | some wd =>
   rw[e]at k;exact λv hv wv=>⟨_,rfl,hd,D.aW,hdx,_,.ref hl,rfl,N.i,T.aS,T.cw,rfl,_,rfl,hl,xs,h,h.toNat,rfl,rfl,N.l,N.ix c,k v wv⟩
 ·rw[if_neg c]at k ⊢
  exact k
noncomputable def GQ(D:Ad):Sp:=λvs H Q E=>∃ hd hdx hl xs ws,∃ h x:Int,vs=[.ref hd,.int h,.int x]∧Hn D H hd hdx hl xs ws∧Sm h∧Sm x∧(if 0≤h∧h<8 then(if Num x then ∀ t H',aE H H'→H' t=some (.tup [.str "number",.int x])→Q .non (upd H' hl (.lst (xs.set h.toNat (.ref t)))) else Bad D.bP H E) else Bad D.bj H E)
noncomputable abbrev FJ:List Str:=["self", "h", "x"]
theorem ES:aw FJ ["self", "h", "x"] (ar oQ):=fsc
theorem ET(F:Fun K "number" "Hands.number" oQ D.eO D.ja)(T:Txt K mg D)
  (aI:Ok P w K mg base 3 D.bg D.cx ["h"] (dW D))
  (pd:Ok P w K mg base 4 D.dP D.i9 ["x"] (sQ D)):Ok P w K mg base 5 D.eO D.ja ["self", "h", "x"] (GQ D):=by
 refine F.oa ES F.b3 λcdv A' outer s' H vs Q E hr h=>?_;obtain⟨hd,hdx,hl,xs,ws,h,x,rfl,N,hb,hx,k⟩:=h;refine⟨_,(ak (aG (aI.c hr T.f9 T.dR px (ae (pv 1) aq)))
  (ai (HE (pd.c hr T.FA T.oW px (ae (pv 2) aq)) (HD (aH (pv 0) rfl) (pv 1) set_list)))),?_⟩
 refine⟨_,rfl,h,rfl,hb,?_⟩;by_cases c:0≤h∧h<8
 ·rw[if_pos c]at k ⊢
  refine⟨_,rfl,x,rfl,hx,?_⟩;by_cases g:Num x
  ·rw[if_pos g]at k ⊢
   intro t H' sH ht;have N':=N.same sH;exact⟨_,rfl,hd,D.aW,hdx,_,.ref hl,rfl,N'.i,T.aS,T.cw,rfl,_,rfl,hl,xs,h,h.toNat,rfl,rfl,N'.l,N'.ix c,k t H' sH ht⟩
  ·rw[if_neg g]at k ⊢
   exact k
 ·rw[if_neg c]at k ⊢
  exact k
noncomputable def B9(D:Ad):Sp:=λvs H Q E=>∃ hd hdx hl xs ws,∃ h:Int,vs=[.ref hd,.int h]∧Hn D H hd hdx hl xs ws∧Sm h∧(match wat ws h with|some wd=>∀ H',aE H H'→Q (.str wd.kind) H'|none=>Bad D.bj H E)
noncomputable abbrev JB:List Str:=["self", "h", "kind"]
theorem xk:aw JB ["self", "h"] (ar rS):=fsc
theorem HP(F:Fun K "kind" "Hands.kind" rS D.eM D.iG)(T:Txt K mg D)
  (pF:Ok P w K mg base 1 D.iX D.pE ["value"] (OJ))
  (cZ:Ok P w K mg base 4 D.cz D.eX ["self", "h"] (sR D)):Ok P w K mg base 5 D.eM D.iG ["self", "h"] (B9 D):=by
 refine F.oa xk F.b2 λcdv A' outer s' H vs Q E hr h=>?_;obtain⟨hd,hdx,hl,xs,ws,h,rfl,N,hb,k⟩:=h;refine⟨_,(ak (bp (i:=2) xk.nd rfl (Or.inl rfl) (pF.c hr T.IY T.wX px (ae (cZ.m hr (pv 0) T.aS T.lS px (ae (pv 1) aq)) aq)))
  (ai (aM (BR (aJ mK (pv 2) (iu (ae bh (ae bh aq))) (by with_unfolding_all rfl)) (pv 2) bh)))),?_⟩
 refine⟨_,rfl,hd,hdx,_,rfl,N.i,rfl,_,rfl,hd,hdx,hl,xs,ws,h,rfl,N,hb,?_⟩;cases e:wat ws h with
 | none =>
  rw[e]at k;exact k
 | some wd =>
  rw[e]at k;intro v hv wv;refine⟨v,wd,rfl,wv,?_⟩;cases wd with
  | no=>exact⟨_,rfl,by show 2≤sizeLine;decide,λt ht=>⟨t,_,rfl,.inr (SqT.of ah),rfl,rfl,_,rfl,aY (λ_=>⟨_,rfl,k _ (aE.upd ht)⟩) (λh=>absurd (by kernel_rfl) h)⟩⟩
  | num n=>exact⟨_,rfl,by show 2≤sizeLine;decide,λt ht=>⟨t,_,rfl,.inr (SqT.of ah),rfl,rfl,_,rfl,aY (λ_=>⟨_,rfl,k _ (aE.upd ht)⟩) (λh=>absurd (by kernel_rfl) h)⟩⟩
  | th n=>exact⟨_,rfl,by show 2≤sizeLine;decide,λt ht=>⟨t,_,rfl,.inr (SqT.of ah),rfl,rfl,_,rfl,aY (λh=>absurd h (ajf.mp (by kernel_rfl))) (λ_=>k _ (aE.upd ht))⟩⟩
noncomputable def MD(D:Ad):Sp:=λvs H Q E=>∃ hd hdx hl xs ws,∃ h:Int,vs=[.ref hd,.int h]∧Hn D H hd hdx hl xs ws∧Sm h∧(match wat ws h with|some (.num x)=>∀ H',aE H H'→Q (.int x) H'|_=>Bad D.bj H E)
noncomputable abbrev HQ:List Str:=["self", "h"]
theorem FK:aw HQ ["self", "h"] (ar qz):=fsc
theorem FL(F:Fun K "value" "Hands.value" qz D.fH D.jI)(T:Txt K mg D)
  (aj:Ok P w K mg base 1 D.ao D.aB ["self", "text"] (Ei K))
  (fA:Ok P w K mg base 5 D.eM D.iG ["self", "h"] (B9 D)):Ok P w K mg base 6 D.fH D.jI ["self", "h"] (MD D):=by
 refine F.oa FK F.b2 λcdv A' outer s' H vs Q E hr h=>?_;obtain⟨hd,hdx,hl,xs,ws,h,rfl,N,hb,k⟩:=h;refine⟨_,(ak (cj (aJ Q7 (fA.m hr (pv 0) T.aS T.qD px (ae (pv 1) aq)) bh (bN _))
   (ai (gh rfl lA (aj.e hr T.zq T.zp px (ae (jH (bu iA (bu (mx (pv 1)) (bu iA jG)))) aq))))
   aU)
  (ai (aM (cg bY (cg iW (aH (pv 0) rfl) (pv 1) (λ_ _=>rfl)) av (λ_ _=>rfl))))),?_⟩
 refine⟨_,rfl,hd,hdx,_,rfl,N.i,rfl,_,rfl,hd,hdx,hl,xs,ws,h,rfl,N,hb,?_⟩;cases e:wat ws h with
 | none =>
  rw[e]at k;exact k
 | some wd =>
  rw[e]at k;cases wd with
  | no=>exact λH1 s1=>⟨rfl,_,rfl,aY (λ_=>⟨_,rfl,h,rfl,hb,λy hy ea hea=>dj T.j9 (λ_ q=>aE.none s1 q) (Bad.same k s1) ea hea⟩) (λh=>absurd (by kernel_rfl) h)⟩
  | num n =>
   intro H1 s1;have N1:=N.same s1;obtain⟨v,hv,wv⟩:=N1.at_ e;obtain⟨h0,h1,_⟩:=rO e;obtain⟨t,rfl,ht⟩:=wv;exact⟨rfl,_,rfl,aY (λh=>absurd h (ajf.mp (by kernel_rfl))) (λ_=>⟨_,rfl,hd,D.aW,hdx,_,.ref hl,rfl,N1.i,T.aS,T.cw,rfl,_,rfl,hl,xs,h,.ref t,rfl,rfl,SqL.of N1.l,HK h0 hv,t,_,1,.int n,rfl,rfl,SqT.of ht,rfl,k H1 s1⟩)⟩
  | th n =>
   exact λH1 s1=>⟨rfl,_,rfl,aY (λ_=>⟨_,rfl,h,rfl,hb,λy hy ea hea=>dj T.j9 (λ_ q=>aE.none s1 q) (Bad.same k s1) ea hea⟩) (λh=>absurd (by kernel_rfl) h)⟩
noncomputable def jt(D:Ad):Sp:=λvs H Q E=>∃ hd hdx hl xs ws,∃ h:Int,vs=[.ref hd,.int h]∧Hn D H hd hdx hl xs ws∧Sm h∧(match wat ws h with|some (.th x)=>∀ H',aE H H'→Q (.int x) H'|_=>Bad D.bj H E)
noncomputable abbrev z8:List Str:=["self", "h"]
theorem xM:aw z8 ["self", "h"] (ar kA):=fsc
theorem xN(F:Fun K "thing_due" "Hands.thing_due" kA D.aX D.b7)(T:Txt K mg D)
  (aj:Ok P w K mg base 1 D.ao D.aB ["self", "text"] (Ei K))
  (fA:Ok P w K mg base 5 D.eM D.iG ["self", "h"] (B9 D)):Ok P w K mg base 6 D.aX D.b7 ["self", "h"] (jt D):=by
 refine F.oa xM F.b2 λcdv A' outer s' H vs Q E hr h=>?_;obtain⟨hd,hdx,hl,xs,ws,h,rfl,N,hb,k⟩:=h;refine⟨_,(ak (cj (aJ Q7 (fA.m hr (pv 0) T.aS T.qD px (ae (pv 1) aq)) bh (bN _))
   (ai (gh rfl lA (aj.e hr T.zq T.zp px (ae (jH (bu iA (bu (mx (pv 1)) (bu iA jG)))) aq))))
   aU)
  (ai (aM (cg bY (cg iW (aH (pv 0) rfl) (pv 1) (λ_ _=>rfl)) av (λ_ _=>rfl))))),?_⟩
 refine⟨_,rfl,hd,hdx,_,rfl,N.i,rfl,_,rfl,hd,hdx,hl,xs,ws,h,rfl,N,hb,?_⟩;cases e:wat ws h with
 | none =>
  rw[e]at k;exact k
 | some wd =>
  rw[e]at k;cases wd with
  | no=>exact λH1 s1=>⟨rfl,_,rfl,aY (λ_=>⟨_,rfl,h,rfl,hb,λy hy ea hea=>dj T.j9 (λ_ q=>aE.none s1 q) (Bad.same k s1) ea hea⟩) (λh=>absurd (by kernel_rfl) h)⟩
  | num n =>
   exact λH1 s1=>⟨rfl,_,rfl,aY (λ_=>⟨_,rfl,h,rfl,hb,λy hy ea hea=>dj T.j9 (λ_ q=>aE.none s1 q) (Bad.same k s1) ea hea⟩) (λh=>absurd (by kernel_rfl) h)⟩
  | th n =>
   intro H1 s1;have N1:=N.same s1;obtain⟨v,hv,wv⟩:=N1.at_ e;obtain⟨h0,h1,_⟩:=rO e;obtain⟨t,rfl,ht⟩:=wv;exact⟨rfl,_,rfl,aY (λh=>absurd h (ajf.mp (by kernel_rfl))) (λ_=>⟨_,rfl,hd,D.aW,hdx,_,.ref hl,rfl,N1.i,T.aS,T.cw,rfl,_,rfl,hl,xs,h,.ref t,rfl,rfl,SqL.of N1.l,HK h0 hv,t,_,1,.int n,rfl,rfl,SqT.of ht,rfl,k H1 s1⟩)⟩
noncomputable def nZ(D:Ad):Sp:=λvs H Q E=>∃ hd hdx hl xs ws,vs=[.ref hd]∧Hn D H hd hdx hl xs ws∧∀ p H',aE H H'→H p=none→H' p=some (.lst xs)→Q (.ref p) H'
noncomputable abbrev z9:List Str:=["self"]
theorem xO:aw z9 ["self"] (ar kz):=fsc
theorem xP(F:Fun K "all_words" "Hands.all_words" kz D.bG D.dG)(T:Txt K mg D):Ok P w K mg base 1 D.bG D.dG ["self"] (nZ D):=by
 refine F.oa xO F.b1 λcdv A' outer s' H vs Q E hr h=>?_;obtain⟨hd,hdx,hl,xs,ws,rfl,N,k⟩:=h;refine⟨_,(ai (aM (km nN rfl T.ui PyProof.Rows.Boot.«list» (ae (aH (pv 0) rfl) aq)))),?_⟩;exact⟨_,rfl,hd,D.aW,hdx,_,.ref hl,rfl,N.i,T.aS,T.cw,rfl,hl,xs,rfl,.inl (SqL.of N.l),λp hp=>k p _ (aE.upd hp) hp ah⟩
noncomputable def ME(D:Ad):Sp:=λvs H Q E=>∃ nt ntx nl xs v,∃ w:Int,vs=[.ref nt,.int w,v]∧Nt D H nt ntx nl xs∧Sm w∧(if 0≤w∧w<8 then Q .non (upd H nl (.lst (xs.set w.toNat v))) else Bad D.di H E)
noncomputable abbrev CB:List Str:=["self", "w", "t"]
theorem Aa:aw CB ["self", "w", "t"] (ar lK):=fsc
theorem Ab(F:Fun K "name" "NameTable.name" lK D.dz D.g5)(T:Txt K mg D)
  (h9:Ok P w K mg base 3 D.cU D.hZ ["w"] (ny D)):Ok P w K mg base 4 D.dz D.g5 ["self", "w", "t"] (ME D):=by
 refine F.oa Aa F.b3 λcdv A' outer s' H vs Q E hr h=>?_;obtain⟨nt,ntx,nl,xs,v,w,rfl,N,hb,k⟩:=h;refine⟨_,(ak (aG (h9.c hr T.uX T.kT px (ae (pv 1) aq)))
  (ai (HE (pv 2) (HD (aH (pv 0) rfl) (pv 1) set_list)))),?_⟩
 refine⟨_,rfl,w,rfl,hb,?_⟩;by_cases g:0≤w∧w<8
 ·rw[if_pos g]at k ⊢
  exact⟨_,rfl,_,rfl,nt,D.aD,ntx,_,.ref nl,rfl,N.i,T.dN,T.bO,rfl,_,rfl,nl,xs,w,w.toNat,rfl,rfl,N.l,TJ g.1 (by rw[N.n];exact g.2),k⟩
 ·rw[if_neg g]at k ⊢
  exact k
noncomputable def MF(D:Ad):Sp:=λvs H Q E=>∃ nt ntx nl xs,∃ w:Int,vs=[.ref nt,.int w]∧Nt D H nt ntx nl xs∧Sm w∧(if 0≤w∧w<8 then ∀ v,xs[w.toNat]?=some v→Q v H else Bad D.di H E)
noncomputable abbrev Ac:List Str:=["self", "w"]
theorem xQ:aw Ac ["self", "w"] (ar kB):=fsc
theorem xR(F:Fun K "named" "NameTable.named" kB D.cM D.gw)(T:Txt K mg D)
  (h9:Ok P w K mg base 3 D.cU D.hZ ["w"] (ny D)):Ok P w K mg base 4 D.cM D.gw ["self", "w"] (MF D):=by
 refine F.oa xQ F.b2 λcdv A' outer s' H vs Q E hr h=>?_;obtain⟨nt,ntx,nl,xs,w,rfl,N,hb,k⟩:=h;refine⟨_,(ak (aG (h9.c hr T.uX T.kT px (ae (pv 1) aq)))
  (ai (aM (cg iW (aH (pv 0) rfl) (pv 1) (λ_ _=>rfl))))),?_⟩
 refine⟨_,rfl,w,rfl,hb,?_⟩;by_cases g:0≤w∧w<8
 ·rw[if_pos g]at k ⊢
  have hv:xs[w.toNat]?=some (xs[w.toNat]'(by rw[N.n];omega)):=aiK _;exact⟨_,rfl,nt,D.aD,ntx,_,.ref nl,rfl,N.i,T.dN,T.bO,rfl,_,rfl,nl,xs,w,_,rfl,rfl,SqL.of N.l,HK g.1 hv,k _ hv⟩
 ·rw[if_neg g]at k ⊢
  exact k
noncomputable def qb(D:Ad):Sp:=λvs H Q _=>∃ m dx,vs=[.ref m]∧H m=some (.ins D.aF dx [])∧∀ b c H',But m H H'→H b=none→H c=none→Wt D H' m dx b c [] []→Q .non H'
noncomputable abbrev um:List Str:=["self"]
theorem tu:aw um ["self"] (ar iZ):=fsc
theorem tw(F:Fun K "__init__" "WordTable.__init__" iZ D.bJ D.eF)(T:Txt K mg D):Ok P w K mg base 1 D.bJ D.eF ["self"] (qb D):=by
 refine F.oa tu F.b1 λcdv A' outer s' H vs Q E hr h=>?_;obtain⟨m,dx,rfl,hm,k⟩:=h;refine⟨_,(ak (ir (pv 0) nB rfl)
  (ai (ir (pv 0) (ke aq) rfl))),?_⟩
 intro p hp;have np:m≠p:=au hm hp;refine⟨_,rfl,m,D.aF,dx,[],rfl,(by rw[ag np];exact hm),T.bZ,T.ba,by decide,?_⟩;refine⟨by show 0≤sizeLine;decide,λq hq=>?_⟩;have nq:m≠q:=au ah hq;have qp:q≠p:=λe=>by rw[e,ag (ai7 np),ah]at hq;cases hq
 have hq0:H q=none:=by rw[ag (ai7 nq),ag qp]at hq;exact hq
 refine⟨_,rfl,m,D.aF,dx,_,rfl,(by rw[ag nq];exact ah),T.bZ,T.kq,by show 1<1000;decide,?_⟩;refine k p q _ ((((But.upd hp).trans But.self).trans (λb u n h=>by rw[ag λe=>by rw[e]at h;rw[h]at hq;cases hq];exact h)).trans But.self) hp hq0 ⟨ah,?_,?_⟩
 ·rw[ag (ai7 np),ag (ai7 qp),ag (ai7 np),ah]
  rfl
 ·rw[ag (ai7 nq),ah]
  rfl
noncomputable def Pa(D:Ad):Sp:=λvs H Q E=>∃ wt wtx wb wl bs zs,∃ t x:Int,vs=[.ref wt,.int t,.int x]∧Wt D H wt wtx wb wl bs zs∧bs.length≤12∧(if bs.lookup t=none∧12≤bs.length then Bad D.bc H E else Q .non (upd H wb (.dK ((IZ bs t x).map bkv))))
noncomputable abbrev CC:List Str:=["self", "t", "x"]
theorem Ae:aw CC ["self", "t", "x"] (ar lJ):=fsc
theorem Af(F:Fun K "bear" "WordTable.bear" lJ D.dw D.g4)(T:Txt K mg D)
  (aj:Ok P w K mg base 1 D.ao D.aB ["self", "text"] (Ei K)):Ok P w K mg base 3 D.dw D.g4 ["self", "t", "x"] (Pa D):=by
 refine F.oa Ae F.b3 λcdv A' outer s' H vs Q E hr h=>?_;obtain⟨wt,wtx,wb,wl,bs,zs,t,x,rfl,N,hn,k⟩:=h;have hu:=kQ hr;refine⟨_,(ak (cj (PW.pt (pw_and (rM (ko hu (pv 1) (aH (pv 0) rfl)) (by with_unfolding_all rfl)) (pw_and1 (aJ YZ (eh Qu rfl T.B7 PyProof.Rows.Boot.«len» (ae (aH (pv 0) rfl) aq)) (kh (v:=.int 12) rfl T.kU ⟨_,rfl⟩) (bN _)))))
   (ai (gh rfl lA (aj.e hr T.EE T.ED px (ae (jH (bu (mx (kh (v:=.int 12) rfl T.kU ⟨_,rfl⟩)) (bu iA jG))) aq))))
   aU)
  (ai (t9 hu (aH (pv 0) rfl) (pv 1) (pv 2) rfl))),?_⟩
 have hu:=kQ hr;refine⟨_,rfl,_,rfl,wt,D.aF,wtx,_,.ref wb,rfl,N.i,T.bZ,T.ba,rfl,wb,_,rfl,qQ.k (k:=Sum.inl t) N.b,_,rfl,?_⟩;rw[VJ,aj0];cases e:bs.lookup t with
 | some v =>
  rw[if_neg (λz=>by rw[e]at z;cases z.1)]at k;exact gS ⟨_,rfl,_,rfl,wt,D.aF,wtx,_,.ref wb,rfl,N.i,T.bZ,T.ba,rfl,_,rfl,wb,_,rfl,IP.k (k:=Sum.inl t) N.b (by rw[aiI];exact ajM hn (by decide)),by rw[MB]at k;exact k⟩
 | none =>
  refine sL ⟨_,rfl,wt,D.aF,wtx,_,.ref wb,rfl,N.i,T.bZ,T.ba,rfl,wb,_,rfl,N.b,_,_,rfl,rfl,_,rfl,aY (λh=>?_) (λh=>?_)⟩
  ·rw[aiI]at h
   have h:=of_decide_eq_true h;rw[if_pos ⟨e,by omega⟩]at k;exact⟨12,rfl,Sm.of (by decide) (by decide),λy hy ea hea=>dj T.sN (λ_ q=>q) k ea hea⟩
  ·rw[aiI]at h
   have h:¬((12:Int)≤(bs.length:Int)):=λz=>h (decide_eq_true z);rw[if_neg (λz=>h (by have:=z.2;omega))]at k;exact⟨_,rfl,_,rfl,wt,D.aF,wtx,_,.ref wb,rfl,N.i,T.bZ,T.ba,rfl,_,rfl,wb,_,rfl,IP.k (k:=Sum.inl t) N.b (by rw[aiI];exact ajM hn (by decide)),by rw[MB]at k;exact k⟩
noncomputable def fld(s:HS)(t:Int):List Wd:=(s.aN.lookup t).getD []
structure Good(s:HS):Prop where
 h8:s.aT.length=8
 n8:s.names.length=8
 asc:(s.aN.map (·.1)).Pairwise (·< ·)
 lt:∀ t ws,(t,ws)∈s.aN→0≤t∧t<s.nxt
 f6:∀ t ws,(t,ws)∈s.aN→ws.length≤6
 hh:∀ t,Wd.th t∈s.aT→∃ ws,(t,ws)∈s.aN
 ff:∀ u ws t,(u,ws)∈s.aN→Wd.th t∈ws→∃ ws',(t,ws')∈s.aN
 nn:∀ t,some t∈s.names→∃ ws,(t,ws)∈s.aN
 b12:s.bQ.length≤12
 bk:∀ t x,(t,x)∈s.bQ→∃ ws,(t,ws)∈s.aN
 bnd:(s.bQ.map (·.1)).Nodup
 n0:0≤s.nxt
 nx:s.nxt≤10000
 sd:(s.uc.length:Int)+s.aN.length≤s.nxt
 yk:∀ t∈s.yng,∃ ws,(t,ws)∈s.aN
 Fx:s.yng.Pairwise (·< ·)
 dk:∀ t∈s.bF,∃ ws,(t,ws)∈s.aN
 Fy:s.bF.Pairwise (·< ·)
theorem mem_lookup{α:Type}{fs:List (Int×α)}{t:Int}{w:α}(asc:(fs.map (·.1)).Nodup)(m:(t,w)∈fs):fs.lookup t=some w:=by
 induction fs with
 | nil=>cases m
 | cons p r ih =>
  obtain⟨a,b⟩:=p;rw[aji,ajZ]at asc;rw[ajn];rcases aiY.mp m with e|m
  ·cases e
   rw[beq_self_eq_true]
  ·have ne:t≠a:=λe=>asc.1 (by rw[←e];exact aje.mpr ⟨_,m,rfl⟩)
   rw[beq_eq_false_iff_ne.mpr ne];exact ih asc.2 m
theorem d8{l:List Int}(h:l.Pairwise (·< ·)):l.Nodup:=h.imp λh=>Int.ne_of_lt h
theorem Good.get{s:HS}(g:Good s){t:Int}{ws:List Wd}(m:(t,ws)∈s.aN):s.aN.lookup t=some ws:=mem_lookup (d8 g.asc) m
theorem Good.fld{s:HS}(g:Good s){t:Int}{ws:List Wd}(m:(t,ws)∈s.aN):fld s t=ws:=by unfold K13.fld;rw[g.get m];rfl
theorem Good.hand{s:HS}(g:Good s){h t:Int}(e:wat s.aT h=some (.th t)):(t,K13.fld s t)∈s.aN:=by
 obtain⟨_,_,e⟩:=rO e;obtain⟨ws,m⟩:=g.hh t (aiU e);rw[g.fld m];exact m
theorem Good.few{s:HS}(g:Good s):s.aN.length≤10000:=by
 have:=g.sd
 have:=g.nx
 omega
theorem uo{n:Nat}(h:n≤20000):n<sizeLine:=ajM h (by decide)
theorem kf{n:Nat}(h:n≤20000):n≤sizeLine:=akn (uo h)
inductive Er where
 | hand|name|field|count|room|words|on|no
noncomputable def Ad.er(D:Ad):Er→Addr
 | .hand=>D.bj
 | .name=>D.di
 | .field=>D.dE
 | .count=>D.bP
 | .room=>D.gO
 | .words=>D.bc
 | .on=>D.fi
 | .no=>D.fq
noncomputable abbrev Re:=Option Er×HS
noncomputable def Fin(D:Ad)(x:Addr)(A:HA)(s:HS)(H:Hp)(r:Re)(Q:VK)(E:XK):Prop:=∀ A' H',IH D H' x A' r.2→Fr (bR x A s) H (bR x A' r.2) H'→(match r.1 with|none=>Q .non H'|some e=>E (.ref (D.er e)) none H')
theorem Fin.bad{D:Ad}{x:Addr}{A:HA}{s:HS}{H:Hp}{e:Er}{Q:VK}{E:XK}(k:Fin D x A s H (some e,s) Q E)(J:IH D H x A s):Bad (D.er e) H E:=λH' s'=>k A H' (J.same s') (Fr.same s')
noncomputable abbrev ok8(h:Int):Prop:=0≤h∧h<8
noncomputable def rB(s:HS)(h:Int)(w:Wd):HS:={s with aT:=s.aT.set h.toNat w}
noncomputable def jO(s:HS)(h g k:Int):Re:=if ok8 h then(match wat s.aT g with|some (.th t)=>if 0≤k∧k<((fld s t).length:Int) then(none,rB s h ((fld s t).getD k.toNat .no)) else(some .field,s)|_=>(some .hand,s)) else(some .hand,s)
noncomputable def gk(s:HS)(g k h:Int):Re:=match wat s.aT g with|some (.th t)=>(match wat s.aT h with|some w=>if 0≤k∧k<((fld s t).length:Int) then(none,{s with aN:=pZ s.aN t ((fld s t).set k.toNat w)}) else(some .field,s)|none=>(some .hand,s))|_=>(some .hand,s)
noncomputable def oe(s:HS)(h g:Int):Re:=if ok8 h then(match wat s.aT g with|some w=>(none,rB s h w)|none=>(some .hand,s)) else(some .hand,s)
noncomputable def qv(s:HS)(h:Int):Re:=if ok8 h then(none,rB s h .no) else(some .hand,s)
noncomputable def gF(s:HS)(h x:Int):Re:=if ok8 h then(if Num x then(none,rB s h (.num x)) else(some .count,s)) else(some .hand,s)
noncomputable def kX(s:HS)(w h:Int):Re:=match wat s.aT h with|some (.th t)=>if ok8 w then(none,{s with names:=s.names.set w.toNat (some t)}) else(some .name,s)|_=>(some .hand,s)
noncomputable def nmW:Option Int→Wd
 | none=>.no
 | some t=>.th t
noncomputable def jP(s:HS)(h x:Int):Re:=match wat s.aT h with|some (.th t)=>(if Num x then(if s.bQ.lookup t=none∧12≤s.bQ.length then(some .words,s) else(none,{s with bQ:=IZ s.bQ t x})) else(some .count,s))|_=>(some .hand,s)
noncomputable def I0(s:HS)(h n:Int):HS:={s with nxt:=s.nxt+1,aN:=s.aN++[(s.nxt,List.replicate n.toNat .no)],yng:=if s.my=true then s.yng++[s.nxt] else s.yng,aT:=s.aT.set h.toNat (.th s.nxt)}
noncomputable def wsum(s:HS)(ts:List Int):Int:=(ts.map λt=>((fld s t).length:Int)+1).sum
section
variable{D:Ad}{H:Hp}{x:Addr}{A:HA}{s:HS}
theorem IH.hn(J:IH D H x A s)(g:Good s):Hn D H A.hd A.hdx A.hl A.hx s.aT:=⟨J.ahd,J.ahl,J.rhl,g.h8⟩
theorem IH.ntb(J:IH D H x A s)(g:Good s):Nt D H A.nt A.ntx A.nl (s.names.map nmV):=⟨J.ant,J.anl,by rw[aiI];exact g.n8⟩
theorem IH.wtb(J:IH D H x A s):Wt D H A.wt A.wtx A.wb A.wl s.bQ s.uc:=⟨J.awt,J.awb,J.awl⟩
theorem SV{A:HA}{fs:List (Int×List Wd)}{t:Int}:mj (fs.map (fkv A)) (Sum.inl t)=(fs.lookup t).map λ_=>V.ref (A.fa t):=GP λ_=>rfl
theorem IH.VL(J:IH D H x A s)(g:Good s){t:Int}{ws:List Wd}(m:(t,ws)∈s.aN):qQ H A.fh (.int t) (some (.ref (A.fa t))):=by
 have:=qQ.k (k:=Sum.inl t) J.afh
 rw[SV,g.get m]at this;exact this
end
noncomputable def Pb(D:Ad):Sp:=λvs H Q E=>∃ x A s,∃ h g:Int,vs=[.ref x,.int h,.int g]∧IH D H x A s∧Good s∧Sm h∧Sm g∧Fin D x A s H (oe s h g) Q E
noncomputable abbrev LB:List Str:=["self", "h", "g"]
theorem JC:aw LB ["self", "h", "g"] (ar u5):=fsc
theorem JD(F:Fun K "copy" "Heap.copy" u5 D.fR D.mO)(T:Txt K mg D)
  (sC:Ok P w K mg base 5 D.gD D.kY ["self", "h", "g"] (MC D)):Ok P w K mg base 6 D.fR D.mO ["self", "h", "g"] (Pb D):=by
 refine F.oa JC F.b3 λcdv A' outer s' H vs Q E hr h=>?_;obtain⟨x,A,s,h,g,rfl,J,G,hh,hg,k⟩:=h;refine⟨_,(ai (aG (sC.m hr (aH (pv 0) rfl) T.aS T.HJ px (ae (pv 1) (ae (pv 2) aq))))),?_⟩;refine⟨_,rfl,x,D.aa,_,_,.ref A.hd,rfl,J.ax,T.ab,T.az,nY,A.hd,A.hdx,_,rfl,J.ahd,rfl,_,rfl,_,rfl,A.hd,A.hdx,A.hl,A.hx,s.aT,h,g,rfl,J.hn G,hh,hg,?_⟩;by_cases c:ok8 h
 ·rw[if_pos c]
  cases e:wat s.aT g with
  | none =>
   rw[show oe s h g=(some .hand,s) by simp only[oe,if_pos c,e]]at k;exact k.bad J
  | some wd =>
   rw[show oe s h g=(none,rB s h wd) by simp only[oe,if_pos c,e]]at k;exact λv wv=>let w:=J.Rr (J.rhl.set (i:=h.toNat) wv);k _ _ w.1 w.2
 ·rw[if_neg c]
  rw[show oe s h g=(some .hand,s) by simp only[oe,if_neg c]]at k;exact k.bad J
noncomputable def Pc(D:Ad):Sp:=λvs H Q E=>∃ x A s,∃ h:Int,vs=[.ref x,.int h]∧IH D H x A s∧Good s∧Sm h∧Fin D x A s H (qv s h) Q E
noncomputable abbrev LC:List Str:=["self", "h"]
theorem JE:aw LC ["self", "h"] (ar u6):=fsc
theorem JF(F:Fun K "drop" "Heap.drop" u6 D.fS D.mP)(T:Txt K mg D)
  (d9:Ok P w K mg base 4 D.eP D.iB ["self", "h", "word"] (xj D)):Ok P w K mg base 5 D.fS D.mP ["self", "h"] (Pc D):=by
 refine F.oa JE F.b2 λcdv A' outer s' H vs Q E hr h=>?_;obtain⟨x,A,s,h,rfl,J,G,hh,k⟩:=h;refine⟨_,(ai (aG (d9.m hr (aH (pv 0) rfl) T.aS T.nS px (ae (pv 1) (ae kc aq))))),?_⟩;refine⟨_,rfl,x,D.aa,_,_,.ref A.hd,rfl,J.ax,T.ab,T.az,nY,A.hd,A.hdx,_,rfl,J.ahd,rfl,_,rfl,A.hd,A.hdx,A.hl,A.hx,s.aT,.non,h,rfl,J.hn G,hh,?_⟩;by_cases c:ok8 h
 ·rw[if_pos c]
  rw[show qv s h=(none,rB s h .no) by simp only[qv,if_pos c]]at k;exact let w:=J.Rr (J.rhl.set (i:=h.toNat) (show WV H .non .no from rfl));k _ _ w.1 w.2
 ·rw[if_neg c]
  rw[show qv s h=(some .hand,s) by simp only[qv,if_neg c]]at k;exact k.bad J
noncomputable def Jg(D:Ad):Sp:=λvs H Q E=>∃ x A s,∃ h z:Int,vs=[.ref x,.int h,.int z]∧IH D H x A s∧Good s∧Sm h∧Sm z∧Fin D x A s H (gF s h z) Q E
noncomputable abbrev HR:List Str:=["self", "h", "x"]
theorem FO:aw HR ["self", "h", "x"] (ar qA):=fsc
theorem FP(F:Fun K "number" "Heap.number" qA D.dM D.jJ)(T:Txt K mg D)
  (ph:Ok P w K mg base 5 D.eO D.ja ["self", "h", "x"] (GQ D)):Ok P w K mg base 6 D.dM D.jJ ["self", "h", "x"] (Jg D):=by
 refine F.oa FO F.b3 λcdv A' outer s' H vs Q E hr h=>?_;obtain⟨x,A,s,h,z,rfl,J,G,hh,hz,k⟩:=h;refine⟨_,(ai (aG (ph.m hr (aH (pv 0) rfl) T.aS T.EG px (ae (pv 1) (ae (pv 2) aq))))),?_⟩;refine⟨_,rfl,x,D.aa,_,_,.ref A.hd,rfl,J.ax,T.ab,T.az,nY,A.hd,A.hdx,_,rfl,J.ahd,rfl,_,rfl,_,rfl,A.hd,A.hdx,A.hl,A.hx,s.aT,h,z,rfl,J.hn G,hh,hz,?_⟩;by_cases c:ok8 h
 ·rw[if_pos c]
  by_cases g:Num z
  ·rw[if_pos g]
   rw[show gF s h z=(none,rB s h (.num z)) by simp only[gF,if_pos c,if_pos g]]at k;exact λt H1 s1 ht=>let J1:=J.same s1;let w:=J1.Rr (J1.rhl.set (i:=h.toNat) (show WV H1 (.ref t) (.num z) from⟨t,rfl,ht⟩));k _ _ w.1 ((Fr.same s1).trans w.2)
  ·rw[if_neg g]
   rw[show gF s h z=(some .count,s) by simp only[gF,if_pos c,if_neg g]]at k;exact k.bad J
 ·rw[if_neg c]
  rw[show gF s h z=(some .hand,s) by simp only[gF,if_neg c]]at k;exact k.bad J
noncomputable def Pd(D:Ad):Sp:=λvs H Q E=>∃ x A s,∃ w h:Int,vs=[.ref x,.int w,.int h]∧IH D H x A s∧Good s∧Sm w∧Sm h∧Fin D x A s H (kX s w h) Q E
noncomputable abbrev LD:List Str:=["self", "w", "h", "t"]
theorem BH:aw LD ["self", "w", "h"] (ar u7):=fsc
theorem JG(F:Fun K "name" "Heap.name" u7 D.fT D.mQ)(T:Txt K mg D)
  (aL:Ok P w K mg base 6 D.aX D.b7 ["self", "h"] (jt D))
  (lV:Ok P w K mg base 4 D.dz D.g5 ["self", "w", "t"] (ME D)):Ok P w K mg base 7 D.fT D.mQ ["self", "w", "h"] (Pd D):=by
 refine F.oa BH F.b3 λcdv A' outer s' H vs Q E hr h=>?_;obtain⟨x,A,s,w,h,rfl,J,G,hw,hh,k⟩:=h;refine⟨_,(ak (bp (i:=3) BH.nd rfl (Or.inl rfl) (aL.m hr (aH (pv 0) rfl) T.aS T.f7 px (ae (pv 2) aq)))
  (ai (aG (lV.m hr (aH (pv 0) rfl) T.dN T.zG px (ae (pv 1) (ae (pv 3) aq)))))),?_⟩
 refine⟨_,rfl,x,D.aa,_,_,.ref A.hd,rfl,J.ax,T.ab,T.az,nY,A.hd,A.hdx,_,rfl,J.ahd,rfl,_,rfl,A.hd,A.hdx,A.hl,A.hx,s.aT,h,rfl,J.hn G,hh,?_⟩;cases e:wat s.aT h with
 | none =>
  rw[show kX s w h=(some .hand,s) by simp only[kX,e]]at k;exact k.bad J
 | some wd =>
  cases wd with
  | no =>
   rw[show kX s w h=(some .hand,s) by simp only[kX,e]]at k;exact k.bad J
  | num n =>
   rw[show kX s w h=(some .hand,s) by simp only[kX,e]]at k;exact k.bad J
  | th t =>
   intro H1 s1;have J1:=J.same s1;refine⟨_,rfl,x,D.aa,_,_,.ref A.nt,rfl,J1.ax,T.ab,T.dF,Rh,A.nt,A.ntx,_,rfl,J1.ant,rfl,_,rfl,_,rfl,A.nt,A.ntx,A.nl,_,.int t,w,rfl,J1.ntb G,hw,?_⟩;by_cases c:ok8 w
   ·rw[if_pos c]
    rw[show kX s w h=(none,{s with names:=s.names.set w.toNat (some t)}) by simp only[kX,e,if_pos c]]at k;have w1:=J1.aie (ns:=s.names.set w.toNat (some t));rw[List.map_set]at w1;exact k _ _ w1.1 ((Fr.same s1).trans w1.2)
   ·rw[if_neg c]
    rw[show kX s w h=(some .name,s) by simp only[kX,e,if_neg c]]at k;exact Bad.same (k.bad J) s1
noncomputable def Pe(D:Ad):Sp:=λvs H Q E=>∃ x A s,∃ h z:Int,vs=[.ref x,.int h,.int z]∧IH D H x A s∧Good s∧Sm h∧Sm z∧Fin D x A s H (jP s h z) Q E
noncomputable abbrev LF:List Str:=["self", "h", "x", "t"]
theorem BI:aw LF ["self", "h", "x"] (ar u9):=fsc
theorem JH(F:Fun K "word" "Heap.word" u9 D.fU D.mT)(T:Txt K mg D)
  (aL:Ok P w K mg base 6 D.aX D.b7 ["self", "h"] (jt D))
  (fK:Ok P w K mg base 3 D.bT D.fG ["x"] (kJ D))
  (lW:Ok P w K mg base 3 D.dw D.g4 ["self", "t", "x"] (Pa D)):Ok P w K mg base 7 D.fU D.mT ["self", "h", "x"] (Pe D):=by
 refine F.oa BI F.b3 λcdv A' outer s' H vs Q E hr h=>?_;obtain⟨x,A,s,h,z,rfl,J,G,hh,hz,k⟩:=h;refine⟨_,(ak (bp (i:=3) BI.nd rfl (Or.inl rfl) (aL.m hr (aH (pv 0) rfl) T.aS T.f7 px (ae (pv 1) aq)))
  (ak (aG (fK.c hr T.qY T.jf px (ae (pv 2) aq)))
  (ai (aG (lW.m hr (aH (pv 0) rfl) T.bZ T.zF px (ae (pv 3) (ae (pv 2) aq))))))),?_⟩
 refine⟨_,rfl,x,D.aa,_,_,.ref A.hd,rfl,J.ax,T.ab,T.az,nY,A.hd,A.hdx,_,rfl,J.ahd,rfl,_,rfl,A.hd,A.hdx,A.hl,A.hx,s.aT,h,rfl,J.hn G,hh,?_⟩;cases e:wat s.aT h with
 | none =>
  rw[show jP s h z=(some .hand,s) by simp only[jP,e]]at k;exact k.bad J
 | some wd =>
  cases wd with
  | no =>
   rw[show jP s h z=(some .hand,s) by simp only[jP,e]]at k;exact k.bad J
  | num n =>
   rw[show jP s h z=(some .hand,s) by simp only[jP,e]]at k;exact k.bad J
  | th t =>
   intro H1 s1;have J1:=J.same s1;refine⟨_,rfl,z,rfl,hz,?_⟩;by_cases g:Num z
   ·rw[if_pos g]
    refine⟨_,rfl,x,D.aa,_,_,.ref A.wt,rfl,J1.ax,T.ab,T.ft,TC,A.wt,A.wtx,_,rfl,J1.awt,rfl,_,rfl,_,rfl,A.wt,A.wtx,A.wb,A.wl,s.bQ,s.uc,t,z,rfl,J1.wtb,G.b12,?_⟩;by_cases c:s.bQ.lookup t=none∧12≤s.bQ.length
    ·rw[if_pos c]
     rw[show jP s h z=(some .words,s) by simp only[jP,e,if_pos g,if_pos c]]at k;exact Bad.same (k.bad J) s1
    ·rw[if_neg c]
     rw[show jP s h z=(none,{s with bQ:=IZ s.bQ t z}) by simp only[jP,e,if_pos g,if_neg c]]at k;have w1:=J1.aeV (bs:=IZ s.bQ t z);exact k _ _ w1.1 ((Fr.same s1).trans w1.2)
   ·rw[if_neg g]
    rw[show jP s h z=(some .count,s) by simp only[jP,e,if_neg g]]at k;exact Bad.same (k.bad J) s1
noncomputable def Pf(D:Ad):Sp:=λvs H Q E=>∃ x A s,∃ h g kk:Int,vs=[.ref x,.int h,.int g,.int kk]∧IH D H x A s∧Good s∧Sm h∧Sm g∧Sm kk∧Fin D x A s H (jO s h g kk) Q E
noncomputable abbrev LG:List Str:=["self", "h", "g", "k", "fields"]
theorem BJ:aw LG ["self", "h", "g", "k"] (ar u4):=fsc
theorem JI(F:Fun K "load" "Heap.load" u4 D.fQ D.mN)(T:Txt K mg D)
  (aI:Ok P w K mg base 3 D.bg D.cx ["h"] (dW D))
  (aL:Ok P w K mg base 6 D.aX D.b7 ["self", "h"] (jt D))
  (gm:Ok P w K mg base 3 D.cy D.gj ["k", "fields"] (lU D))
  (d9:Ok P w K mg base 4 D.eP D.iB ["self", "h", "word"] (xj D)):Ok P w K mg base 7 D.fQ D.mN ["self", "h", "g", "k"] (Pf D):=by
 refine F.oa BJ F.b4 λcdv A' outer s' H vs Q E hr h=>?_;obtain⟨x,A,s,h,g,kk,rfl,J,G,hh,hg,hk,k⟩:=h;have hu:=kQ hr;refine⟨_,(ak (aG (aI.c hr T.f9 T.dR px (ae (pv 1) aq)))
  (ak (bp (i:=4) BJ.nd rfl (Or.inl rfl) (qR hu (aH (pv 0) rfl) (aL.m hr (aH (pv 0) rfl) T.aS T.f7 px (ae (pv 2) aq)) (λ_ _=>rfl)))
  (ak (aG (gm.c hr T.sP T.jN px (ae (pv 3) (ae (eh iF rfl T.B7 PyProof.Rows.Boot.«len» (ae (pv 4) aq)) aq))))
  (ai (aG (d9.m hr (aH (pv 0) rfl) T.aS T.nS px (ae (pv 1) (ae (cg iW (pv 4) (pv 3) (λ_ _=>rfl)) aq)))))))),?_⟩
 refine⟨_,rfl,h,rfl,hh,?_⟩;by_cases c:ok8 h
 ·rw[if_pos c]
  refine⟨_,rfl,x,D.aa,_,_,.ref A.fh,rfl,J.ax,T.ab,T.aA,rm,_,rfl,x,D.aa,_,_,.ref A.hd,rfl,J.ax,T.ab,T.az,nY,A.hd,A.hdx,_,rfl,J.ahd,rfl,_,rfl,A.hd,A.hdx,A.hl,A.hx,s.aT,g,rfl,J.hn G,hg,?_⟩;cases e:wat s.aT g with
  | none =>
   rw[show jO s h g kk=(some .hand,s) by simp only[jO,e,if_pos c]]at k;exact k.bad J
  | some wd =>
   cases wd with
   | no =>
    rw[show jO s h g kk=(some .hand,s) by simp only[jO,e,if_pos c]]at k;exact k.bad J
   | num n =>
    rw[show jO s h g kk=(some .hand,s) by simp only[jO,e,if_pos c]]at k;exact k.bad J
   | th t =>
    intro H1 s1;have J1:=J.same s1;have m:=G.hand e;obtain⟨hl,rl⟩:=J1.afl _ _ m;refine⟨A.fh,_,rfl,J1.VL G m,?_⟩;have f6:=G.f6 _ _ m;have ln:((A.fx t).length:Int)=(fld s t).length:=(by rw[rl.1]);refine⟨_,rfl,_,rfl,A.fa t,_,rfl,.inl (SqL.of hl),kk,_,rfl,hk,Sm.of (by omega) (by omega),?_⟩;rw[ln];by_cases c2:0≤kk∧kk<((fld s t).length:Int)
    ·rw[if_pos c2]
     rw[show jO s h g kk=(none,rB s h ((fld s t).getD kk.toNat .no)) by simp only[jO,if_pos c,e,if_pos c2]]at k;have hi:kk.toNat<(fld s t).length:=(by omega);obtain⟨v,hv,wv⟩:=rl.get hi;have gd:(fld s t).getD kk.toNat .no=(fld s t)[kk.toNat]:=(by simp[List.getD,hi]);rw[gd]at k;refine⟨_,rfl,x,D.aa,_,_,.ref A.hd,rfl,J1.ax,T.ab,T.az,nY,A.hd,A.hdx,_,rfl,J1.ahd,rfl,_,rfl,_,rfl,_,rfl,A.fa t,_,kk,v,rfl,rfl,SqL.of hl,HK c2.1 hv,A.hd,A.hdx,A.hl,A.hx,s.aT,v,h,rfl,J1.hn G,hh,?_⟩;rw[if_pos c];exact let w:=J1.Rr (J1.rhl.set (i:=h.toNat) wv);k _ _ w.1 ((Fr.same s1).trans w.2)
    ·rw[if_neg c2]
     rw[show jO s h g kk=(some .field,s) by simp only[jO,if_pos c,e,if_neg c2]]at k;exact Bad.same (k.bad J) s1
 ·rw[if_neg c]
  rw[show jO s h g kk=(some .hand,s) by simp only[jO,if_neg c]]at k;exact k.bad J
noncomputable def MG(D:Ad):Sp:=λvs H Q E=>∃ x A s,∃ g kk h:Int,vs=[.ref x,.int g,.int kk,.int h]∧IH D H x A s∧Good s∧Sm g∧Sm kk∧Sm h∧Fin D x A s H (gk s g kk h) Q E
noncomputable abbrev JJ:List Str:=["self", "g", "k", "h", "fields", "value"]
theorem qG:aw JJ ["self", "g", "k", "h"] (ar rV):=fsc
theorem HU(F:Fun K "store" "Heap.store" rV D.eN D.k6)(T:Txt K mg D)
  (aL:Ok P w K mg base 6 D.aX D.b7 ["self", "h"] (jt D))
  (cZ:Ok P w K mg base 4 D.cz D.eX ["self", "h"] (sR D))
  (gm:Ok P w K mg base 3 D.cy D.gj ["k", "fields"] (lU D)):Ok P w K mg base 7 D.eN D.k6 ["self", "g", "k", "h"] (MG D):=by
 refine F.oa qG F.b4 λcdv A' outer s' H vs Q E hr h=>?_;obtain⟨x,A,s,g,kk,h,rfl,J,G,hg,hk,hh,k⟩:=h;have hu:=kQ hr;refine⟨_,(ak (bp (i:=4) qG.nd rfl (Or.inl rfl) (qR hu (aH (pv 0) rfl) (aL.m hr (aH (pv 0) rfl) T.aS T.f7 px (ae (pv 1) aq)) (λ_ _=>rfl)))
  (ak (bp (i:=5) qG.nd rfl (Or.inl rfl) (cZ.m hr (aH (pv 0) rfl) T.aS T.lS px (ae (pv 3) aq)))
  (ak (aG (gm.c hr T.sP T.jN px (ae (pv 2) (ae (eh iF rfl T.B7 PyProof.Rows.Boot.«len» (ae (pv 4) aq)) aq))))
  (ai (HE (pv 5) (HD (pv 4) (pv 2) set_list)))))),?_⟩
 refine⟨_,rfl,x,D.aa,_,_,.ref A.fh,rfl,J.ax,T.ab,T.aA,rm,_,rfl,x,D.aa,_,_,.ref A.hd,rfl,J.ax,T.ab,T.az,nY,A.hd,A.hdx,_,rfl,J.ahd,rfl,_,rfl,A.hd,A.hdx,A.hl,A.hx,s.aT,g,rfl,J.hn G,hg,?_⟩;cases e:wat s.aT g with
 | none =>
  rw[show gk s g kk h=(some .hand,s) by simp only[gk,e]]at k;exact k.bad J
 | some wd =>
  cases wd with
  | no =>
   rw[show gk s g kk h=(some .hand,s) by simp only[gk,e]]at k;exact k.bad J
  | num n =>
   rw[show gk s g kk h=(some .hand,s) by simp only[gk,e]]at k;exact k.bad J
  | th t =>
   intro H1 s1;have J1:=J.same s1;have m:=G.hand e;obtain⟨hl,rl⟩:=J1.afl _ _ m;refine⟨A.fh,_,rfl,J1.VL G m,?_⟩;refine⟨_,rfl,x,D.aa,_,_,.ref A.hd,rfl,J1.ax,T.ab,T.az,nY,A.hd,A.hdx,_,rfl,J1.ahd,rfl,_,rfl,A.hd,A.hdx,A.hl,A.hx,s.aT,h,rfl,J1.hn G,hh,?_⟩;cases e2:wat s.aT h with
   | none =>
    rw[show gk s g kk h=(some .hand,s) by simp only[gk,e,e2]]at k;exact Bad.same (k.bad J) s1
   | some wd =>
    intro v hv wv;have f6:=G.f6 _ _ m;have ln:((A.fx t).length:Int)=(fld s t).length:=(by rw[rl.1]);refine⟨_,rfl,_,rfl,A.fa t,_,rfl,.inl (SqL.of hl),kk,_,rfl,hk,Sm.of (by omega) (by omega),?_⟩;rw[ln];by_cases c2:0≤kk∧kk<((fld s t).length:Int)
    ·rw[if_pos c2]
     rw[show gk s g kk h=(none,{s with aN:=pZ s.aN t ((fld s t).set kk.toNat wd)}) by simp only[gk,e,e2,if_pos c2]]at k;refine⟨_,rfl,_,rfl,_,rfl,A.fa t,_,kk,kk.toNat,rfl,rfl,hl,TJ c2.1 (by omega),?_⟩;exact let w:=J1.aij m (rl.set (i:=kk.toNat) wv);k _ _ w.1 ((Fr.same s1).trans w.2)
    ·rw[if_neg c2]
     rw[show gk s g kk h=(some .field,s) by simp only[gk,e,e2,if_neg c2]]at k;exact Bad.same (k.bad J) s1
theorem sS{b:Bool}{A B:Prop}(h:b=false)(k:B):if b=true then A else B:=by rw[h];exact k
theorem sT{b:Bool}{A B:Prop}(h:b=true)(k:A):if b=true then A else B:=by rw[h];exact k
theorem UG(k:Nat):(List.replicate k [V.non]).flatten=List.replicate k .non:=by
 induction k with
 | zero=>rfl
 | succ k ih=>rw[ajG,aj9,ih,ajG];rfl
noncomputable def keys(s:HS):List Int:=s.aN.map (·.1)
noncomputable def held(s:HS):Int:=wsum s (keys s)
structure Raw(D:Ad)(H:Hp)(x dx:Addr)(my:Bool)(hd hdx hl nt ntx nl wt wtx wb wl fh yg:Addr):Prop where
 ax:H x=some (.ins D.aa dx [("makes_young",.bl my),("in_hands",.ref hd),("weak_names",.ref nt),("last_words",.ref wt),("fields_held",.ref fh),("young_things",.ref yg),("next_thing",.int 0)])
 ahd:H hd=some (.ins D.aW hdx [("words_held",.ref hl)])
 ahl:H hl=some (.lst (List.replicate 8 .non))
 ant:H nt=some (.ins D.aD ntx [("things_named",.ref nl)])
 anl:H nl=some (.lst (List.replicate 8 .non))
 awt:Wt D H wt wtx wb wl [] []
 afh:H fh=some (.dK [])
 ayg:H yg=some (.dK [])
 n1:hd≠nt
 n2:hl≠nl
 n3:hl≠wl
 n4:nl≠wl
 n5:wb≠fh
 n6:wb≠yg
 n7:fh≠yg
noncomputable def s0(my:Bool)(room limit:Int):HS:=⟨my,List.replicate 8 .no,List.replicate 8 none,[],[],[],[],0,room,limit,[],false⟩
theorem good0{my:Bool}{room limit:Int}:Good (s0 my room limit) :=
 ⟨rfl,rfl,List.Pairwise.nil,(λ_ _ m=>by cases m),(λ_ _ m=>by cases m),(λt m=>by have:=ajC m;cases this),(λ_ _ _ m=>by cases m),(λt m=>by have:=ajC m;cases this),by show 0≤12;decide,(λ_ _ m=>by cases m),List.nodup_nil,by show(0:Int)≤0;decide,by show(0:Int)≤10000;decide,by show((0:Nat):Int)+((0:Nat):Int)≤0;decide,(λ_ m=>by cases m),List.Pairwise.nil,(λ_ m=>by cases m),List.Pairwise.nil⟩
noncomputable def BK(D:Ad):Sp:=λvs H Q E=>∃ x dx,∃ my:Bool,vs=[.ref x,.bl my]∧H x=some (.ins D.aa dx [])∧∀ hd hdx hl nt ntx nl wt wtx wb wl fh yg H',Raw D H' x dx my hd hdx hl nt ntx nl wt wtx wb wl fh yg→But x H H'→(∀ b,b=hd∨b=hl∨b=nt∨b=nl∨b=wt∨b=wb∨b=wl∨b=fh∨b=yg→H b=none)→Q .non H'
noncomputable abbrev EU:List Str:=["self", "makes_young"]
theorem CD:aw EU ["self", "makes_young"] (ar nu):=fsc
theorem CF(F:Fun K "__init__" "Heap.__init__" nu D.cA D.iK)(T:Txt K mg D)
  (jh:Ok P w K mg base 1 D.du D.gZ ["self"] (xi D))
  (gp:Ok P w K mg base 1 D.bK D.eG ["self"] (qa D))
  (gq:Ok P w K mg base 1 D.bJ D.eF ["self"] (qb D)):Ok P w K mg base 3 D.cA D.iK ["self", "makes_young"] (BK D):=by
 refine F.oa CD F.b2 λcdv A' outer s' H vs Q E hr h=>?_;obtain⟨x,dx,my,rfl,hx,k⟩:=h;refine⟨_,(ak (ir (pv 0) (pv 1) rfl)
  (ak (ir (pv 0) (Hi T.Ho jh.g (hr.mono (by decide)) rfl T.RZ jh.b .nil (Q9 λ_ _ _ q=>q)) rfl)
  (ak (ir (pv 0) (Hi T.sh gp.g (hr.mono (by decide)) rfl T.Js gp.b .nil (Q9 λ_ _ _ q=>q)) rfl)
  (ak (ir (pv 0) (Hi T.rZ gq.g (hr.mono (by decide)) rfl T.Jr gq.b .nil (Q9 λ_ _ _ q=>q)) rfl)
  (ak (ir (pv 0) nB rfl)
  (ak (ir (pv 0) nB rfl)
  (ai (ir (pv 0) av rfl)))))))),?_⟩
 have bk:∀ {H':Hp} {b:Addr} {u:HO},H' x=some u→But x H H'→H' b=none→H b=none:=λ{H' b u} hx' B h=>by
  cases q:H b with
  | none=>rfl
  | some v =>
   by_cases e:b=x
   ·rw[e,hx']at h;cases h
   ·rw[B b v e q]at h;cases h
 have mk:∀ {H1 H2:Hp} {m mdx C:Addr},H1 m=none→H1 mdx=none→But m (upd (upd H1 mdx (.own m)) m (.ins C mdx [])) H2→aE H1 H2:=λh1 h2 B b u q=>B b u (au q h1) (by rw[ag (au q h1),ag (au q h2)];exact q);have fr:∀ {H1:Hp} {m mdx C c:Addr},H1 m=none→H1 mdx=none→upd (upd H1 mdx (.own m)) m (.ins C mdx []) c=none→H1 c=none:=λ{H1 m mdx C c} h1 h2 h=>by
  cases q:H1 c with
  | none=>rfl
  | some v=>rw[ag (au q h1),ag (au q h2),q]at h;cases h
 refine⟨_,rfl,_,rfl,x,D.aa,dx,_,rfl,hx,T.ab,T.gR,by show 0<1000;decide,?_⟩;obtain⟨H1,e1⟩:∃ H1,upd H x (.ins D.aa dx (iI "makes_young" (.bl my) []))=H1:=⟨_,rfl⟩;have x1:H1 x=some (.ins D.aa dx [("makes_young",.bl my)]):=by rw[←e1];exact ah
 have B1:But x H H1:=by rw[←e1];exact But.self
 show Kz _ _ _ _ (upd H x (.ins D.aa dx (iI "makes_young" (.bl my) [])));rw[e1];clear e1;intro hd hdx hm1 hm2 hm3;refine⟨hd,hdx,rfl,ah,λhl G1 b1 hc hcl hci=>⟨rfl,?_⟩⟩;have S1:=mk hm1 hm2 b1;have hl1:=fr hm1 hm2 hc;refine⟨_,rfl,x,D.aa,dx,_,rfl,S1 _ _ x1,T.ab,T.az,by show 1<1000;decide,?_⟩;obtain⟨H2,e2⟩:∃ H2,upd G1 x (.ins D.aa dx (iI "in_hands" (.ref hd) [("makes_young",.bl my)]))=H2:=⟨_,rfl⟩;have x2:H2 x=some (.ins D.aa dx [("makes_young",.bl my),("in_hands",.ref hd)]):=by rw[←e2];exact ah
 have P2:But x G1 H2:=by rw[←e2];exact But.self
 have B2:But x H H2:=(B1.trans λb u _ q=>S1 b u q).trans P2;show Kz _ _ _ _ (upd G1 x (.ins D.aa dx (iI "in_hands" (.ref hd) [("makes_young",.bl my)])));rw[e2];clear e2;have nhd:hd≠x:=ai7 (au x1 hm1);have nhl:hl≠x:=ai7 (au x1 hl1);have a2:=P2 _ _ nhd hci;have l2:=P2 _ _ nhl hcl;intro nt ntx nm1 nm2 nm3;refine⟨nt,ntx,rfl,ah,λnl G2 b2 nc ncl nci=>⟨rfl,?_⟩⟩;have S2:=mk nm1 nm2 b2;have nl2:=fr nm1 nm2 nc;refine⟨_,rfl,x,D.aa,dx,_,rfl,S2 _ _ x2,T.ab,T.dF,by show 2<1000;decide,?_⟩;obtain⟨H3,e3⟩:∃ H3,upd G2 x (.ins D.aa dx (iI "weak_names" (.ref nt) [("makes_young",.bl my),("in_hands",.ref hd)]))=H3:=⟨_,rfl⟩;have x3:H3 x=some (.ins D.aa dx [("makes_young",.bl my),("in_hands",.ref hd),("weak_names",.ref nt)]):=by rw[←e3];exact ah
 have P3:But x G2 H3:=by rw[←e3];exact But.self
 have B3:But x H H3:=(B2.trans λb u _ q=>S2 b u q).trans P3;show Kz _ _ _ _ (upd G2 x (.ins D.aa dx (iI "weak_names" (.ref nt) [("makes_young",.bl my),("in_hands",.ref hd)])));rw[e3];clear e3;have nnt:nt≠x:=ai7 (au x2 nm1);have nnl:nl≠x:=ai7 (au x2 nl2);have a3:=P3 _ _ nhd (S2 _ _ a2);have l3:=P3 _ _ nhl (S2 _ _ l2);have t3:=P3 _ _ nnt nci;have m3:=P3 _ _ nnl ncl;intro wt wtx wm1 wm2 wm3;refine⟨wt,wtx,rfl,ah,λwb wl G3 b3 wc1 wc2 W=>⟨rfl,?_⟩⟩;have S3:=mk wm1 wm2 b3;have wb3:=fr wm1 wm2 wc1;have wl3:=fr wm1 wm2 wc2;refine⟨_,rfl,x,D.aa,dx,_,rfl,S3 _ _ x3,T.ab,T.ft,by show 3<1000;decide,?_⟩;obtain⟨H4,e4⟩:∃ H4,upd G3 x (.ins D.aa dx (iI "last_words" (.ref wt) [("makes_young",.bl my),("in_hands",.ref hd),("weak_names",.ref nt)]))=H4:=⟨_,rfl⟩;have x4:H4 x=some (.ins D.aa dx [("makes_young",.bl my),("in_hands",.ref hd),("weak_names",.ref nt),("last_words",.ref wt)]):=by rw[←e4];exact ah
 have P4:But x G3 H4:=by rw[←e4];exact But.self
 have B4:But x H H4:=(B3.trans λb u _ q=>S3 b u q).trans P4;show Kz _ _ _ _ (upd G3 x (.ins D.aa dx (iI "last_words" (.ref wt) [("makes_young",.bl my),("in_hands",.ref hd),("weak_names",.ref nt)])));rw[e4];clear e4;have nwt:wt≠x:=ai7 (au x3 wm1);have nwb:wb≠x:=ai7 (au x3 wb3);have nwl:wl≠x:=ai7 (au x3 wl3);have W4:Wt D H4 wt wtx wb wl [] []:=⟨P4 _ _ nwt W.i,P4 _ _ nwb W.b,P4 _ _ nwl W.l⟩;have a4:=P4 _ _ nhd (S3 _ _ a3);have l4:=P4 _ _ nhl (S3 _ _ l3);have t4:=P4 _ _ nnt (S3 _ _ t3);have m4:=P4 _ _ nnl (S3 _ _ m3);intro fh hfh;have nfh:fh≠x:=ai7 (au x4 hfh);refine⟨_,rfl,x,D.aa,dx,_,rfl,aE.upd hfh _ _ x4,T.ab,T.aA,by show 4<1000;decide,?_⟩;obtain⟨H5,e5⟩:∃ H5,upd (upd H4 fh (.dK [])) x (.ins D.aa dx (iI "fields_held" (.ref fh) [("makes_young",.bl my),("in_hands",.ref hd),("weak_names",.ref nt),("last_words",.ref wt)]))=H5:=⟨_,rfl⟩;have x5:H5 x=some (.ins D.aa dx [("makes_young",.bl my),("in_hands",.ref hd),("weak_names",.ref nt),("last_words",.ref wt),("fields_held",.ref fh)]):=by rw[←e5];exact ah
 have P5:But x H4 H5:=by rw[←e5];exact(But.upd hfh).trans But.self
 have f5:H5 fh=some (.dK []):=by rw[←e5,ag nfh];exact ah
 show Kz _ _ _ _ (upd (upd H4 fh (.dK [])) x (.ins D.aa dx (iI "fields_held" (.ref fh) [("makes_young",.bl my),("in_hands",.ref hd),("weak_names",.ref nt),("last_words",.ref wt)])));rw[e5];clear e5;intro yg hyg;have nyg:yg≠x:=ai7 (au x5 hyg);refine⟨_,rfl,x,D.aa,dx,_,rfl,aE.upd hyg _ _ x5,T.ab,T.aV,by show 5<1000;decide,?_⟩;obtain⟨H6,e6⟩:∃ H6,upd (upd H5 yg (.dK [])) x (.ins D.aa dx (iI "young_things" (.ref yg) [("makes_young",.bl my),("in_hands",.ref hd),("weak_names",.ref nt),("last_words",.ref wt),("fields_held",.ref fh)]))=H6:=⟨_,rfl⟩;have x6:H6 x=some (.ins D.aa dx [("makes_young",.bl my),("in_hands",.ref hd),("weak_names",.ref nt),("last_words",.ref wt),("fields_held",.ref fh),("young_things",.ref yg)]):=by rw[←e6];exact ah
 have P6:But x H5 H6:=by rw[←e6];exact(But.upd hyg).trans But.self
 have y6:H6 yg=some (.dK []):=by rw[←e6,ag nyg];exact ah
 skip
 rw[e6];clear e6;have B5:But x H H5:=B4.trans P5;have B6:But x H H6:=B5.trans P6;have P7:∀ {o:HO},But x H6 (upd H6 x o):=But.self;have P47:∀ {o:HO} {b:Addr} {u:HO},b≠x→H4 b=some u→upd H6 x o b=some u:=λn q=>P7 _ _ n (P6 _ _ n (P5 _ _ n q));refine⟨_,rfl,x,D.aa,dx,_,rfl,x6,T.ab,T.fu,by show 6<1000;decide,k hd hdx hl nt ntx nl wt wtx wb wl fh yg _ ⟨ah,P47 nhd a4,P47 nhl l4,P47 nnt t4,P47 nnl m4,⟨P47 nwt W4.i,P47 nwb W4.b,P47 nwl W4.l⟩,P7 _ _ nfh (P6 _ _ nfh f5),P7 _ _ nyg y6,au a2 nm1,au l2 nl2,au l3 wl3,au m3 wl3,au W4.b hfh,au (P5 _ _ nwb W4.b) hyg,au f5 hyg⟩ (B6.trans But.self) (λb hb=>?_)⟩;rcases hb with rfl|rfl|rfl|rfl|rfl|rfl|rfl|rfl|rfl
 ·exact bk x1 B1 hm1
 ·exact bk x1 B1 hl1
 ·exact bk x2 B2 nm1
 ·exact bk x2 B2 nl2
 ·exact bk x3 B3 wm1
 ·exact bk x3 B3 wb3
 ·exact bk x3 B3 wl3
 ·exact bk x4 B4 hfh
 ·exact bk x5 B5 hyg
noncomputable def xm(D:Ad):Sp:=λvs H Q E=>∃ x dx,∃ y l:Int,vs=[.ref x,.int y,.int l]∧H x=some (.ins D.aa dx [])∧(y=0∨(7≤y∧y≤64))∧7≤l∧l≤400∧∀ A H',IH D H' x A (s0 (decide (y>0)) y l)→But x H H'→(∀ b,bR x A (s0 (decide (y>0)) y l) b→b=x∨H b=none)→Q .non H'
noncomputable abbrev uq:List Str:=["self", "young", "limit"]
theorem tD:aw uq ["self", "young", "limit"] (ar i4):=fsc
theorem tE(F:Fun K "__init__" "IdealHeap.__init__" i4 D.bL D.eJ)(T:Txt K mg D)
  (lX:Ok P w K mg base 3 D.cG D.gW ["young", "limit"] (p9))
  (jQ:Ok P w K mg base 3 D.cA D.iK ["self", "makes_young"] (BK D)):Ok P w K mg base 4 D.bL D.eJ ["self", "young", "limit"] (xm D):=by
 refine F.oa tD F.b3 λcdv A' outer s' H vs Q E hr h=>?_;obtain⟨x,dx,y,l,rfl,hx,hy,l0,l1,k⟩:=h;refine⟨_,(ak (aG (lX.c hr T.Cq T.lT px (ae (pv 1) (ae (pv 2) aq))))
  (ak (aG (Wu rfl T.UD T.UE jQ.g (hr.mono (by decide)) jQ.b px (ae (pv 0) (ae (Gy KP (pv 1) av (bN _)) aq))))
  (ak (ir (pv 0) (pv 1) rfl)
  (ak (ir (pv 0) (pv 2) rfl)
  (ak (ir (pv 0) nB rfl)
  (ai (ir (pv 0) pJ rfl))))))),?_⟩
 refine⟨_,rfl,_,rfl,y,l,rfl,hy,l0,l1,?_⟩;refine⟨_,rfl,_,rfl,y,0,rfl,rfl,x,dx,_,rfl,hx,λhd hdx hl nt ntx nl wt wtx wb wl fh yg H1 R B1 fr=>?_⟩;obtain⟨my,emy⟩:∃ my:Bool,decide (y>0)=my:=⟨_,rfl⟩;rw[emy]at R k;have nx:∀ b,H b=none→b≠x:=λb h e=>by rw[e,hx]at h;cases h
 refine⟨_,rfl,_,rfl,x,D.aa,dx,_,rfl,R.ax,T.ab,T.kr,by show 7<1000;decide,?_⟩;refine⟨_,rfl,_,rfl,x,D.aa,dx,_,rfl,ah,T.ab,T.pX,by show 8<1000;decide,?_⟩;intro dm hdm;have ndm:dm≠x:=λe=>by rw[e,ah]at hdm;cases hdm
 have SW:H1 dm=none:=by rw[ag ndm,ag ndm]at hdm;exact hdm
 refine⟨_,rfl,x,D.aa,dx,_,rfl,(by rw[ag (ai7 ndm)];exact ah),T.ab,T.aQ,by show 9<1000;decide,?_⟩;refine⟨_,rfl,x,D.aa,dx,_,rfl,ah,T.ab,T.dr,by show 10<1000;decide,?_⟩;have aik:H dm=none:=by
  cases q:H dm with
  | none=>rfl
  | some u=>rw[B1 _ _ ndm q]at SW;cases SW
 have P:∀ {o1 o2 o3 o4:HO},But x H1 (upd (upd (upd (upd (upd H1 x o1) x o2) dm (.dK [])) x o3) x o4):=λ{o1 o2 o3 o4}=>(((But.self.trans But.self).trans (But.upd (by rw[ag ndm,ag ndm];exact SW))).trans But.self).trans But.self;have d2:∀ {o1 o2 o3 o4:HO},upd (upd (upd (upd (upd H1 x o1) x o2) dm (.dK [])) x o3) x o4 dm=some (.dK []):=λ{o1 o2 o3 o4}=>by rw[ag ndm,ag ndm];exact ah
 have f:=λ(b:Addr) (h:b=hd∨b=hl∨b=nt∨b=nl∨b=wt∨b=wb∨b=wl∨b=fh∨b=yg)=>nx b (fr b h);have n1:=f hd (.inl rfl);have n2:=f hl (.inr (.inl rfl));have n3:=f nt (.inr (.inr (.inl rfl)));have n4:=f nl (.inr (.inr (.inr (.inl rfl))));have n5:=f wt (.inr (.inr (.inr (.inr (.inl rfl)))));have n6:=f wb (.inr (.inr (.inr (.inr (.inr (.inl rfl))))));have n7:=f wl (.inr (.inr (.inr (.inr (.inr (.inr (.inl rfl)))))));have n8:=f fh (.inr (.inr (.inr (.inr (.inr (.inr (.inr (.inl rfl))))))));have n9:=f yg (.inr (.inr (.inr (.inr (.inr (.inr (.inr (.inr rfl))))))));refine k ⟨dx,hd,hdx,hl,List.replicate 8 .non,nt,ntx,nl,wt,wtx,wb,wl,fh,λ_=>0,λ_=>[],yg,dm⟩ _ ⟨ah,P _ _ n1 R.ahd,P _ _ n2 R.ahl,Rel.nil,P _ _ n3 R.ant,P _ _ n4 R.anl,P _ _ n5 R.awt.i,P _ _ n6 R.awt.b,P _ _ n7 R.awt.l,P _ _ n8 R.afh,(λ_ _ m=>by cases m),P _ _ n9 R.ayg,d2,R.n1,R.n2,R.n3,R.n4,(λ_ _ m=>by cases m),(λ_ _ _ _ m=>by cases m),R.n5,R.n6,au R.awt.b SW,R.n7,au R.afh SW,au R.ayg SW⟩ (B1.trans P) (λb hb=>?_);cases hb with
 | x=>exact .inl rfl
 | hd=>exact .inr (fr hd (.inl rfl))
 | hl=>exact .inr (fr hl (.inr (.inl rfl)))
 | nt=>exact .inr (fr nt (.inr (.inr (.inl rfl))))
 | nl=>exact .inr (fr nl (.inr (.inr (.inr (.inl rfl)))))
 | wt=>exact .inr (fr wt (.inr (.inr (.inr (.inr (.inl rfl))))))
 | wb=>exact .inr (fr wb (.inr (.inr (.inr (.inr (.inr (.inl rfl)))))))
 | wl=>exact .inr (fr wl (.inr (.inr (.inr (.inr (.inr (.inr (.inl rfl))))))))
 | fh=>exact .inr (fr fh (.inr (.inr (.inr (.inr (.inr (.inr (.inr (.inl rfl)))))))))
 | yg=>exact .inr (fr yg (.inr (.inr (.inr (.inr (.inr (.inr (.inr (.inr rfl)))))))))
 | dm=>exact .inr aik
 | fl m=>cases m
theorem SX{fs:List (Key×V)}{t:Int}{v:V}(h:mj fs (Sum.inl t)=none):putK fs (Sum.inl t) v=fs++[(Sum.inl t,v)]:=BW v h
theorem aeZ{ts:List Int}{t:Int}:(mj (ts.map tkv) (Sum.inl t)).isSome=decide (t∈ts):=by
 induction ts with
 | nil=>rfl
 | cons a r ih =>
  rw[aji];by_cases e:a=t
  ·subst e
   rw[pQ (p:=tkv a) (k:=Sum.inl a) rfl];simp
  ·rw[pR (p:=tkv a) (λz=>e (Sum.inl.inj z)),ih]
   have:(t∈a::r)↔t∈r:=by
    rw[aiY];exact⟨λh=>h.elim (λz=>absurd z.symm e) id,.inr⟩
   simp only[this]
theorem Good.TK{s:HS}(g:Good s):∀ w,(s.nxt,w)∉s.aN:=λw m=>by have:=(g.lt _ _ m).2;omega
noncomputable def SY(D:Ad):Sp:=λvs H Q E=>∃ x A s,∃ h n:Int,vs=[.ref x,.int h,.int n]∧IH D H x A s∧Good s∧ok8 h∧0≤n∧n≤6∧∀ A' H',IH D H' x A' (I0 s h n)→Fr (bR x A s) H (bR x A' (I0 s h n)) H'→Q .non H'
theorem OK:∀(n:Nat) (l:List Int) (a:Int),l.Pairwise (·< ·)→(∀ t∈l,a≤t∧t<a+n)→l.length≤n
 | _,[],_,_,_=>ajk _
 | 0,b::r,a,_,h=>by have:=h b ai1;omega
 | n+1,b::r,a,p,h=>by
  have hb:=h b ai1
  have:=OK n r (a+1) (aj7.mp p).2 λt m=>by
   have h1:=(aj7.mp p).1 t m;have h2:=h t (ai4 _ m);omega
  rw[ajt];omega
theorem HV{s:HS}(g:Good s):s.yng.length≤10000:=by
 refine OK 10000 s.yng 0 g.Fx λt m=>?_;obtain⟨ws,m⟩:=g.yk t m
 have:=g.lt _ _ m
 have:=g.nx
 omega
theorem GR{s:HS}(g:Good s):s.bF.length≤10000:=by
 refine OK 10000 s.bF 0 g.Fy λt m=>?_;obtain⟨ws,m⟩:=g.dk t m
 have:=g.lt _ _ m
 have:=g.nx
 omega
noncomputable abbrev CG:List Str:=["self", "h", "n", "t"]
theorem qc:aw CG ["self", "h", "n"] (ar lL):=fsc
theorem Ag(F:Fun K "add_thing" "Heap.add_thing" lL D.bV D.g9)(T:Txt K mg D)
  (eK:Ok P w K mg base 3 D.cV D.gL ["t"] (kW))
  (d9:Ok P w K mg base 4 D.eP D.iB ["self", "h", "word"] (xj D)):Ok P w K mg base 5 D.bV D.g9 ["self", "h", "n"] (SY D):=by
 refine F.oa qc F.b3 λcdv A' outer s' H vs Q E hr h=>?_;obtain⟨x,A,s,h,n,rfl,J,G,c,n0,n6,k⟩:=h;have hu:=kQ hr;refine⟨_,(ak (bp (i:=3) qc.nd rfl (Or.inl rfl) (aH (pv 0) rfl))
  (ak (ir (pv 0) (eE Fp (pv 3) av) rfl)
  (ak (t9 hu (aH (pv 0) rfl) (pv 3) (eE OD (ke (ae kc aq)) (pv 2)) rfl)
  (ak (cj (pA (aH (pv 0) rfl))
   (ai (t9 hu (aH (pv 0) rfl) (pv 3) pJ rfl))
   aU)
  (ai (aG (d9.m hr (aH (pv 0) rfl) T.aS T.nS px (ae (pv 1) (ae (eK.c hr T.qE T.jL px (ae (pv 3) aq)) aq))))))))),?_⟩
 refine⟨_,rfl,x,D.aa,_,_,.int s.nxt,rfl,J.ax,T.ab,T.fu,VI,?_⟩;refine⟨_,rfl,s.nxt,1,rfl,rfl,_,rfl,x,D.aa,A.dx,_,rfl,J.ax,T.ab,T.fu,by show 11<1000;decide,?_⟩;have w1:=J.aii (n:=s.nxt+1);obtain⟨H1,e1⟩:∃ H1,upd H x (.ins D.aa A.dx (iI "next_thing" (.int (s.nxt+1)) (atts A s)))=H1:=⟨_,rfl⟩;rw[e1]at w1;show Kz _ _ _ _ (upd H x (.ins D.aa A.dx (iI "next_thing" (.int (s.nxt+1)) (atts A s))));rw[e1];clear e1;obtain⟨J1,F1⟩:=w1;refine⟨by show 1≤sizeLine;decide,λp hp=>⟨_,rfl,p,n,_,rfl,rfl,ah,by omega,by omega,kf (by show 1*n.toNat≤20000;omega),λq hq=>?_⟩⟩;rw[UG];have s2:aE H1 (upd H1 p (.lst [.non])):=aE.upd hp;have J2:=J1.same s2;have w2:=J2.Zz (t:=s.nxt) (xs:=List.replicate n.toNat .non) (ws:=List.replicate n.toNat .no) hq G.TK Rel.nil;obtain⟨J3,F3⟩:=w2;have J2':=J2.same (aE.upd (o:=.lst (List.replicate n.toNat .non)) hq);have vn:mj (s.aN.map (fkv A)) (Sum.inl s.nxt)=none:=by
  rw[SV];cases e:s.aN.lookup s.nxt with
  | none=>rfl
  | some w=>exact absurd (lookup_some e) (G.TK w)
 have dp:=IP.k (k:=Sum.inl s.nxt) (v:=.ref q) J2'.afh (by rw[aiI];exact uo (ai5 G.few (by decide)));rw[show putK ((({s with nxt:=s.nxt+1}:HS).aN).map (fkv A)) (Sum.inl s.nxt) (.ref q)=s.aN.map (fkv A)++[(Sum.inl s.nxt,.ref q)] from SX vn]at dp;refine⟨_,rfl,x,D.aa,_,_,.ref A.fh,rfl,J2'.ax,T.ab,T.aA,rm,_,rfl,A.fh,_,rfl,dp,?_⟩;have F03:=(F1.trans (Fr.same s2)).trans F3;obtain⟨A3,eA⟩:∃ A3:HA,{A with fa:=λu=>if u=s.nxt then q else A.fa u,fx:=λu=>if u=s.nxt then List.replicate n.toNat V.non else A.fx u}=A3:=⟨_,rfl⟩;obtain⟨H3,e3⟩:∃ H3,upd (upd (upd H1 p (.lst [.non])) q (.lst (List.replicate n.toNat .non))) A.fh (.dK (s.aN.map (fkv A)++[(Sum.inl s.nxt,.ref q)]))=H3:=⟨_,rfl⟩;have J3:IH D H3 x A3 {s with nxt:=s.nxt+1,aN:=s.aN++[(s.nxt,List.replicate n.toNat .no)]}:=by rw[←e3,←eA];exact J3
 have F03:Fr (bR x A s) H (bR x A3 {s with nxt:=s.nxt+1,aN:=s.aN++[(s.nxt,List.replicate n.toNat .no)]}) H3:=by rw[←e3,←eA];exact F03
 show Kz _ _ _ _ (upd (upd (upd H1 p (.lst [.non])) q (.lst (List.replicate n.toNat .non))) A.fh (.dK (s.aN.map (fkv A)++[(Sum.inl s.nxt,.ref q)])));rw[e3];clear e3 eA dp J2';have fin:∀(A4:HA) (H4:Hp) (ys:List Int),IH D H4 x A4 {s with nxt:=s.nxt+1,aN:=s.aN++[(s.nxt,List.replicate n.toNat .no)],yng:=ys}→Fr (bR x A s) H (bR x A4 {s with nxt:=s.nxt+1,aN:=s.aN++[(s.nxt,List.replicate n.toNat .no)],yng:=ys}) H4→(if s.my=true then s.yng++[s.nxt] else s.yng)=ys→∀(t:Addr) (H5:Hp),aE H4 H5→H5 t=some (.tup [.str "thing",.int s.nxt])→xj D [.ref A4.hd,.int h,.ref t] H5 (λ_ H'=>Q .non H') E:=by
  intro A4 H4 ys J4 F4 ey t H5 s5 ht;have J5:=J4.same s5;refine⟨A4.hd,A4.hdx,A4.hl,A4.hx,s.aT,.ref t,h,rfl,⟨J5.ahd,J5.ahl,J5.rhl,G.h8⟩,Sm.of (by omega) (by omega),?_⟩;rw[if_pos c];have w:=J5.Rr (J5.rhl.set (i:=h.toNat) (show WV H5 (.ref t) (.th s.nxt) from⟨t,rfl,ht⟩));have e:I0 s h n={s with nxt:=s.nxt+1,aN:=s.aN++[(s.nxt,List.replicate n.toNat .no)],yng:=ys,aT:=s.aT.set h.toNat (.th s.nxt)}:=by unfold I0;rw[ey]
  rw[e]at k;exact k _ _ w.1 ((F4.trans (Fr.same s5)).trans w.2)
 refine⟨_,rfl,x,D.aa,_,_,_,rfl,J3.ax,T.ab,T.gR,VH,_,rfl,?_⟩;by_cases my:s.my=true
 ·refine sT my ⟨_,rfl,x,D.aa,_,_,_,rfl,J3.ax,T.ab,T.aV,KW,_,rfl,A3.yg,_,rfl,IP.k (k:=Sum.inl s.nxt) J3.ayg (by rw[aiI];exact uo (ai5 (show s.yng.length≤10000 from HV G) (by decide))),?_⟩
  have vy:mj (s.yng.map tkv) (Sum.inl s.nxt)=none:=by
   have:=aeZ (ts:=s.yng) (t:=s.nxt)
   rw[decide_eq_false (λm=>by obtain⟨ws,m⟩:=G.yk _ m;exact G.TK ws m)]at this;cases q:mj (s.yng.map tkv) (Sum.inl s.nxt) with
   | none=>rfl
   | some v=>rw[q]at this;cases this
  have w4:=J3.aih (ts:=s.yng++[s.nxt]);rw[ai3]at w4;rw[show putK ((({s with nxt:=s.nxt+1,aN:=s.aN++[(s.nxt,List.replicate n.toNat .no)]}:HS).yng).map tkv) (Sum.inl s.nxt) (.bl true)=s.yng.map tkv++[s.nxt].map tkv from SX vy];obtain⟨J4,F4⟩:=w4;refine⟨_,rfl,x,D.aa,_,_,_,rfl,J4.ax,T.ab,T.az,nY,A3.hd,A3.hdx,_,rfl,J4.ahd,rfl,_,rfl,_,rfl,s.nxt,rfl,G.n0,λt H5 s5 ht=>?_⟩;exact fin _ _ _ J4 (F03.trans F4) (by rw[if_pos my]) t H5 s5 ht
 ·refine sS (ajf.mpr my) ?_
  refine⟨_,rfl,x,D.aa,_,_,_,rfl,J3.ax,T.ab,T.az,nY,A3.hd,A3.hdx,_,rfl,J3.ahd,rfl,_,rfl,_,rfl,s.nxt,rfl,G.n0,λt H5 s5 ht=>?_⟩;exact fin _ _ _ J3 F03 (by rw[if_neg my]) t H5 s5 ht
noncomputable def MJ(D:Ad):Sp:=λvs H Q E=>∃ x A s,∃ h w:Int,vs=[.ref x,.int h,.int w]∧IH D H x A s∧Good s∧Sm h∧Sm w∧(if ok8 h then(if ok8 w then ∀ A' H',IH D H' x A' (rB s h (nmW (s.names.getD w.toNat none)))→Fr (bR x A s) H (bR x A' (rB s h (nmW (s.names.getD w.toNat none)))) H'→Q (nmV (s.names.getD w.toNat none)) H' else Bad D.di H E) else Bad D.bj H E)
noncomputable abbrev Ah:List Str:=["self", "h", "w", "t"]
theorem ou:aw Ah ["self", "h", "w"] (ar kC):=fsc
theorem xS(F:Fun K "read_thing" "Heap.read_thing" kC D.bH D.gx)(T:Txt K mg D)
  (aI:Ok P w K mg base 3 D.bg D.cx ["h"] (dW D))
  (kK:Ok P w K mg base 4 D.cM D.gw ["self", "w"] (MF D))
  (d9:Ok P w K mg base 4 D.eP D.iB ["self", "h", "word"] (xj D))
  (eK:Ok P w K mg base 3 D.cV D.gL ["t"] (kW)):Ok P w K mg base 5 D.bH D.gx ["self", "h", "w"] (MJ D):=by
 refine F.oa ou F.b3 λcdv A' outer s' H vs Q E hr h=>?_;obtain⟨x,A,s,h,w,rfl,J,G,hh,hw,k⟩:=h;refine⟨_,(ak (aG (aI.c hr T.f9 T.dR px (ae (pv 1) aq)))
  (ak (bp (i:=3) ou.nd rfl (Or.inl rfl) (kK.m hr (aH (pv 0) rfl) T.dN T.xD px (ae (pv 2) aq)))
  (ak (aG (d9.m hr (aH (pv 0) rfl) T.aS T.nS px (ae (pv 1) (ae (BR (aJ Su (pv 3) kc (bN _)) kc (eK.c hr T.qE T.jL px (ae (pv 3) aq))) aq))))
  (ai (aM (pv 3)))))),?_⟩
 refine⟨_,rfl,h,rfl,hh,?_⟩;by_cases c:ok8 h
 ·rw[if_pos c]at k ⊢
  refine⟨_,rfl,x,D.aa,_,_,.ref A.nt,rfl,J.ax,T.ab,T.dF,Rh,A.nt,A.ntx,_,rfl,J.ant,rfl,_,rfl,A.nt,A.ntx,A.nl,_,w,rfl,J.ntb G,hw,?_⟩;by_cases c2:ok8 w
  ·rw[if_pos c2]at k ⊢
   intro v hv;have hi:w.toNat<s.names.length:=(by rw[G.n8];omega);rw[aiW,aiK hi]at hv;obtain rfl:nmV s.names[w.toNat]=v:=aja hv;have gd:s.names.getD w.toNat none=s.names[w.toNat]:=(by simp[List.getD,hi]);rw[gd]at k;have mm:s.names[w.toNat]∈s.names:=ajR hi;obtain⟨z,ez⟩:∃ z,s.names[w.toNat]=z:=⟨_,rfl⟩;rw[ez]at k mm ⊢;refine⟨_,rfl,x,D.aa,_,_,.ref A.hd,rfl,J.ax,T.ab,T.az,nY,A.hd,A.hdx,_,rfl,J.ahd,rfl,_,rfl,?_⟩;cases z with
   | none =>
    refine⟨_,rfl,rfl,_,rfl,aY (λ_=>?_) (λh=>absurd (by simp[nmV]) h)⟩;refine⟨A.hd,A.hdx,A.hl,A.hx,s.aT,.non,h,rfl,J.hn G,hh,?_⟩;rw[if_pos c];exact⟨_,rfl,let w:=J.Rr (J.rhl.set (i:=h.toNat) (show WV H .non .no from rfl));k _ _ w.1 w.2⟩
   | some t =>
    obtain⟨ws,m⟩:=G.nn t mm;refine⟨_,rfl,rfl,_,rfl,aY (λh=>by simp[nmV]at h) (λ_=>?_)⟩;refine⟨_,rfl,t,rfl,(G.lt _ _ m).1,λp H1 s1 hp=>?_⟩;have J1:=J.same s1;refine⟨A.hd,A.hdx,A.hl,A.hx,s.aT,.ref p,h,rfl,J1.hn G,hh,?_⟩;rw[if_pos c];exact⟨_,rfl,let w:=J1.Rr (J1.rhl.set (i:=h.toNat) (show WV H1 (.ref p) (.th t) from⟨p,rfl,hp⟩));k _ _ w.1 ((Fr.same s1).trans w.2)⟩
  ·rw[if_neg c2]at k ⊢
   exact k
 ·rw[if_neg c]at k ⊢
  exact k
noncomputable def Hq(D:Ad):Sp:=λvs H Q E=>∃ x A s d kvs ts,vs=[.ref x,.ref d]∧IH D H x A s∧Good s∧H d=some (.dK kvs)∧kvs.map (·.1)=ts.map Sum.inl∧(∀ t∈ts,∃ ws,(t,ws)∈s.aN)∧ts.length≤10000∧∀ H',aE H H'→Q (.int (wsum s ts)) H'
noncomputable abbrev ow:List Str:=["self", "things"]
theorem vH:aw ow ["self", "things"] (ar ig):=fsc
theorem vI(F:Fun K "words_among" "Heap.words_among" ig D.aZ D.ej)(T:Txt K mg D)
  (mI:Ok P w K mg base 3 D.gP D.mB ["fields"] (vk D)):Ok P w K mg base 4 D.aZ D.ej ["self", "things"] (Hq D):=by
 refine F.oa vH F.b2 λcdv A' outer s' H vs Q E hr h=>?_;obtain⟨x,A,s,d,kvs,ts,rfl,J,G,hd,hk,ht,hz,k⟩:=h;have hu:=kQ hr;refine⟨_,(ai (aM (SQ (eh (QG rfl) rfl T.Tz PyProof.Rows.Boot.«sum» (ae (Cn (cl:=[("self",s'.heap.objs.size+1)]) (x := "t") (idx:=[0]) (NC:=["t", "self"]) ?co1 rfl (xb (Fs (pv 1))) (λC fp s₀ H₀=>(mI.c hr T.GN T.sO Nn (ae (eh (QJ rfl) rfl T.B7 PyProof.Rows.Boot.«len» (ae (qR hu (Uy rfl (pv 1) rfl) (pv 0) (λ_ _=>rfl)) aq)) aq)))) aq))))),?_⟩
 case co1 =>
  exact jc (sc:=ar ig) (N:=ow) (ns:=["self"]) rfl rfl rfl (by decide +kernel) rfl rfl (by
   intro q hq;rw[aiJ.mp hq];rfl)
 have lk:kvs.length=ts.length:=by have:=congrArg List.length hk;simpa using this
 refine⟨_,rfl,d,kvs,hd,λo=>?_⟩;refine⟨d,o,kvs,rfl,ah,λL hL=>?_⟩;obtain⟨Hf,ef⟩:∃ Hf,upd H d (.frz o (.dK kvs))=Hf:=⟨_,rfl⟩;rw[ef]at hL ⊢;have fd:Hf d=some (.frz o (.dK kvs)):=by rw[←ef];exact ah
 have fo:∀ b u,b≠d→H b=some u→Hf b=some u:=λb u n q=>by rw[←ef,ag n];exact q
 have xd:x≠d:=ay J.ax hd (by intro z;cases z);have dg:∀ {Hc:Hp},aE Hf Hc→∀ {t:Int} {ws:List Wd},(t,ws)∈s.aN→qQ Hc A.fh (.int t) (some (.ref (A.fa t))):=λ{Hc} sc {t ws} m=>by
  have e:mj (s.aN.map (fkv A)) (Sum.inl t)=some (.ref (A.fa t)):=by rw[SV,G.get m];rfl
  by_cases c:A.fh=d
  ·have ek:kvs=s.aN.map (fkv A):=by
    have:=J.afh
    rw[c,hd]at this;injection this with this;injection this
   exact .inl ⟨kvs,Sum.inl t,.inr ⟨o,by rw[c];exact sc _ _ fd⟩,rfl,by rw[ek,e]⟩
  ·exact .inl ⟨_,Sum.inl t,.inl (sc _ _ (fo _ _ c J.afh)),rfl,e.symm⟩
 refine QH (d:=d) (o:=o) (kvs:=kvs) (λi ys Hc=>ys=((ts.take i).map λt=>V.int (((fld s t).length:Int)+1))∧aE Hf Hc∧Hc L=some (.lst ys)) ⟨rfl,aE.upd hL,ah⟩ (λi ys Hc hi ⟨e,_,z⟩=>⟨z,by rw[e,aiI,aiV];omega⟩) (λi ys Hc _ ⟨_,sc,_⟩=>sc _ _ fd) (kf (by omega)) (λi p ys Hc hi ⟨e,sc,z⟩=>?_) (λys Hc ⟨e,sc,z⟩=>?_)
 ·have hik:i<kvs.length:=(aiM.mp hi).1
  have hit:i<ts.length:=by omega
  have ep:p.1=Sum.inl ts[i]:=by
   have h1:=congrArg (λl=>l[i]?) hk;simp only[aiW,hi,aiK hit,akv,Option.some.injEq]at h1;exact h1
  have hkv:kV p.1=.int ts[i]:=by rw[ep];rfl
  obtain⟨t,et⟩:∃ t,ts[i]=t:=⟨_,rfl⟩;obtain⟨ws,m⟩:=ht t (by rw[←et];exact ajR hit);have fm:=G.fld m;obtain⟨hl,rl⟩:=J.afl _ _ m;have f6:=G.f6 _ _ m;have ln:=rl.1;have nld:A.fa t≠d:=ay hl hd (by intro z;cases z);have hlc:=sc _ _ (fo _ _ nld hl);refine⟨_,rfl,x,D.aa,_,_,.ref A.fh,rfl,sc _ _ (fo _ _ xd J.ax),T.ab,T.aA,rm,_,rfl,A.fh,.ref (A.fa t),rfl,(by rw[hkv,et];exact dg sc m),A.fa t,_,rfl,.inl (SqL.of hlc),((A.fx t).length:Int),rfl,Sm.of (by omega) (by omega),?_⟩;rw[if_pos ⟨by omega,by omega⟩];refine⟨z,?_,λb u q=>by rw[ag (au q hL)];exact sc b u q,ah⟩;rw[e,ai8 hit,ai3,et];simp only[aji,ako];rw[fm,ln]
 ·rw[lk,ai2 (aiN _)]at e
  refine⟨L,ts.map λt=>((fld s t).length:Int)+1,rfl,SqL.of (by rw[z,e,aju];rfl),d,o,kvs,sc _ _ fd,(λo' u' z=>by have z:H d=some (.frz o' u'):=z;rw[hd]at z;cases z),?_⟩;refine k _ λb u q=>?_;by_cases c:b=d
  ·subst c
   rw[hd]at q;cases q;exact ah
  ·rw[ag c]
   exact sc _ _ (fo _ _ c q)
noncomputable def Pg(D:Ad):Sp:=λvs H Q E=>∃ x A s,vs=[.ref x]∧IH D H x A s∧Good s∧∀ H',aE H H'→Q (.int (held s)) H'
noncomputable abbrev CI:List Str:=["self"]
theorem Ai:aw CI ["self"] (ar lP):=fsc
theorem Aj(F:Fun K "held" "IdealHeap.held" lP D.dC D.hR)(T:Txt K mg D)
  (eB:Ok P w K mg base 4 D.aZ D.ej ["self", "things"] (Hq D)):Ok P w K mg base 5 D.dC D.hR ["self"] (Pg D):=by
 refine F.oa Ai F.b1 λcdv A' outer s' H vs Q E hr h=>?_;obtain⟨x,A,s,rfl,J,G,k⟩:=h;refine⟨_,(ai (aM (eB.m hr (pv 0) T.ab T.jF px (ae (aH (pv 0) rfl) aq)))),?_⟩;exact⟨_,rfl,x,_,_,rfl,J.ax,(by kernel_rfl),_,rfl,x,D.aa,_,_,.ref A.fh,rfl,J.ax,T.ab,T.aA,rm,x,A,s,A.fh,_,keys s,rfl,J,G,J.afh,by rw[aju];unfold keys;rw[aju];rfl,(λt m=>by obtain⟨p,hp,rfl⟩:=aje.mp m;exact⟨p.2,hp⟩),by unfold keys;rw[aiI];exact G.few,k⟩
noncomputable def R3(D:Ad):Sp:=λvs H Q E=>∃ x A s,∃ h:Int,vs=[.ref x,.int h]∧IH D H x A s∧Good s∧Sm h∧(match wat s.aT h with|some wd=>∀ H',aE H H'→Q (.str wd.kind) H'|none=>Bad D.bj H E)
noncomputable abbrev CJ:List Str:=["self", "h"]
theorem Ak:aw CJ ["self", "h"] (ar lO):=fsc
theorem Al(F:Fun K "kind" "IdealHeap.kind" lO D.eD D.je)(T:Txt K mg D)
  (fA:Ok P w K mg base 5 D.eM D.iG ["self", "h"] (B9 D)):Ok P w K mg base 6 D.eD D.je ["self", "h"] (R3 D):=by
 refine F.oa Ak F.b2 λcdv A' outer s' H vs Q E hr h=>?_;obtain⟨x,A,s,h,rfl,J,G,hh,k⟩:=h;have hu:=kQ hr;refine⟨_,(ai (aM (fA.m hr (aH (pv 0) rfl) T.aS T.qD px (ae (pv 1) aq)))),?_⟩;exact⟨_,rfl,x,D.aa,_,_,.ref A.hd,rfl,J.ax,T.ab,T.az,nY,A.hd,A.hdx,_,rfl,J.ahd,rfl,_,rfl,A.hd,A.hdx,A.hl,A.hx,s.aT,h,rfl,J.hn G,hh,k⟩
noncomputable def QO(D:Ad):Sp:=λvs H Q E=>∃ x A s,∃ h:Int,vs=[.ref x,.int h]∧IH D H x A s∧Good s∧Sm h∧(match wat s.aT h with|some (.num x)=>∀ H',aE H H'→Q (.int x) H'|_=>Bad D.bj H E)
noncomputable abbrev Am:List Str:=["self", "h"]
theorem xT:aw Am ["self", "h"] (ar kD):=fsc
theorem xU(F:Fun K "value" "IdealHeap.value" kD D.dH D.iV)(T:Txt K mg D)
  (qH:Ok P w K mg base 6 D.fH D.jI ["self", "h"] (MD D)):Ok P w K mg base 7 D.dH D.iV ["self", "h"] (QO D):=by
 refine F.oa xT F.b2 λcdv A' outer s' H vs Q E hr h=>?_;obtain⟨x,A,s,h,rfl,J,G,hh,k⟩:=h;have hu:=kQ hr;refine⟨_,(ai (aM (qH.m hr (aH (pv 0) rfl) T.aS T.Fz px (ae (pv 1) aq)))),?_⟩;exact⟨_,rfl,x,D.aa,_,_,.ref A.hd,rfl,J.ax,T.ab,T.az,nY,A.hd,A.hdx,_,rfl,J.ahd,rfl,_,rfl,A.hd,A.hdx,A.hl,A.hx,s.aT,h,rfl,J.hn G,hh,k⟩
noncomputable def NQ(D:Ad):Sp:=λvs H Q E=>∃ x A s,∃ h:Int,vs=[.ref x,.int h]∧IH D H x A s∧Good s∧Sm h∧(match wat s.aT h with|some (.th t)=>∀ H',aE H H'→Q (.int (fld s t).length) H'|_=>Bad D.bj H E)
noncomputable abbrev xV:List Str:=["self", "h"]
theorem vJ:aw xV ["self", "h"] (ar jS):=fsc
theorem vK(F:Fun K "fields" "IdealHeap.fields" jS D.da D.ip)(T:Txt K mg D)
  (aL:Ok P w K mg base 6 D.aX D.b7 ["self", "h"] (jt D)):Ok P w K mg base 7 D.da D.ip ["self", "h"] (NQ D):=by
 refine F.oa vJ F.b2 λcdv A' outer s' H vs Q E hr h=>?_;obtain⟨x,A,s,h,rfl,J,G,hh,k⟩:=h;have hu:=kQ hr;refine⟨_,(ai (aM (eh iF rfl T.B7 PyProof.Rows.Boot.«len» (ae (qR hu (aH (pv 0) rfl) (aL.m hr (aH (pv 0) rfl) T.aS T.f7 px (ae (pv 1) aq)) (λ_ _=>rfl)) aq)))),?_⟩;refine⟨_,rfl,x,D.aa,_,_,.ref A.fh,rfl,J.ax,T.ab,T.aA,rm,_,rfl,x,D.aa,_,_,.ref A.hd,rfl,J.ax,T.ab,T.az,nY,A.hd,A.hdx,_,rfl,J.ahd,rfl,_,rfl,A.hd,A.hdx,A.hl,A.hx,s.aT,h,rfl,J.hn G,hh,?_⟩;cases e:wat s.aT h with
 | none=>rw[e]at k;exact k
 | some wd =>
  rw[e]at k;cases wd with
  | no=>exact k
  | num n=>exact k
  | th t =>
   intro H1 s1;have J1:=J.same s1;have m:=G.hand e;obtain⟨hl,rl⟩:=J1.afl _ _ m;refine⟨A.fh,_,rfl,J1.VL G m,A.fa t,_,rfl,.inl (SqL.of hl),?_⟩;rw[rl.1];exact k H1 s1
theorem D8{F F':Addr→Prop}{H:Hp}{p b:Addr}{u o o':HO}(hp:H p=none)(f:F b)(hb:H b=some u)(n:∀ xs,u≠.tup xs)(g:∀ c,F' c→F c∨c=p):Fr F H F' (upd (upd H p o) b o') where
 ext:=λc v nf q=>by rw[ag λe=>nf (by rw[e];exact f),ag (au q hp)];exact q
 grow:=λc f'=>(g c f').imp id λe=>by rw[e];exact hp
 all:=λc v q=>by
  by_cases e:c=b
  ·exact⟨o',by rw[e];exact ah⟩
  ·exact⟨v,by rw[ag e,ag (au q hp)];exact q⟩
 tup:=(fJ.of (aE.upd hp)).trans (fJ.set (aE.upd hp _ _ hb) n)
section
variable{D:Ad}{H H':Hp}{x:Addr}{A A':HA}{s s':HS}
theorem IH.ail(J:IH D H x A s){p:Addr}(hp:H p=none):IH D (upd (upd H p (.dK [])) x (.ins D.aa A.dx (iI "young_things" (.ref p) (atts A s)))) x {A with yg:=p} {s with yng:=[]}∧Fr (bR x A s) H (bR x {A with yg:=p} {s with yng:=[]}) (upd (upd H p (.dK [])) x (.ins D.aa A.dx (iI "young_things" (.ref p) (atts A s)))):=by
 have s1:aE H (upd H p (.dK [])):=aE.upd hp;have nf:¬bR x A s p:=J.fresh hp;have pp:upd H p (.dK []) p=some (.dK []):=ah;refine⟨?_,D8 hp (.x) J.ax (λ_ z=>nomatch z) (λc f=>?_)⟩
 ·have J:=J.same s1
  have tk:fJ (upd H p (.dK [])) (upd (upd H p (.dK [])) x (.ins D.aa A.dx (iI "young_things" (.ref p) (atts A s)))):=fJ.set J.ax (λ_ z=>nomatch z);exact⟨(by rw[ah,Zx];rfl),(by rw[ag (ay J.ahd J.ax (mG (show(1:Nat)≠11 by decide)))];exact J.ahd),(by rw[ag (ay J.ahl J.ax (by intro z;cases z))];exact J.ahl),J.rhl.keep tk,(by rw[ag (ay J.ant J.ax (mG (show(1:Nat)≠11 by decide)))];exact J.ant),(by rw[ag (ay J.anl J.ax (by intro z;cases z))];exact J.anl),(by rw[ag (ay J.awt J.ax (mG (show(2:Nat)≠11 by decide)))];exact J.awt),(by rw[ag (ay J.awb J.ax (by intro z;cases z))];exact J.awb),(by rw[ag (ay J.awl J.ax (by intro z;cases z))];exact J.awl),(by rw[ag (ay J.afh J.ax (by intro z;cases z))];exact J.afh),(λt ws m=>⟨by rw[ag (ay (J.afl _ _ m).1 J.ax (by intro z;cases z))];exact(J.afl _ _ m).1,(J.afl _ _ m).2.keep tk⟩),(by show upd _ _ _ p=_;rw[ag λe=>nf (by rw[e];exact .x)];exact pp),(by rw[ag (ay J.adm J.ax (by intro z;cases z))];exact J.adm),J.nhn,J.l1,J.l2,J.l3,J.l4,J.l5,J.d1,(λ(e:A.wb=p)=>nf (by rw[←e];exact .wb)),J.d3,(λ(e:A.fh=p)=>nf (by rw[←e];exact .fh)),J.d5,(λ(e:p=A.dm)=>nf (by rw[e];exact .dm))⟩
 ·cases f with
  | x=>exact .inl .x
  | hd=>exact .inl .hd
  | hl=>exact .inl .hl
  | nt=>exact .inl .nt
  | nl=>exact .inl .nl
  | wt=>exact .inl .wt
  | wb=>exact .inl .wb
  | wl=>exact .inl .wl
  | fh=>exact .inl .fh
  | yg=>exact .inr rfl
  | dm=>exact .inl .dm
  | fl m=>exact .inl (.fl m)
theorem IH.aim(J:IH D H x A s){p:Addr}(hp:H p=none):IH D (upd (upd H p (.dK [])) x (.ins D.aa A.dx (iI "doomed_things" (.ref p) (atts A s)))) x {A with dm:=p} {s with bF:=[]}∧Fr (bR x A s) H (bR x {A with dm:=p} {s with bF:=[]}) (upd (upd H p (.dK [])) x (.ins D.aa A.dx (iI "doomed_things" (.ref p) (atts A s)))):=by
 have s1:aE H (upd H p (.dK [])):=aE.upd hp;have nf:¬bR x A s p:=J.fresh hp;have pp:upd H p (.dK []) p=some (.dK []):=ah;refine⟨?_,D8 hp (.x) J.ax (λ_ z=>nomatch z) (λc f=>?_)⟩
 ·have J:=J.same s1
  have tk:fJ (upd H p (.dK [])) (upd (upd H p (.dK [])) x (.ins D.aa A.dx (iI "doomed_things" (.ref p) (atts A s)))):=fJ.set J.ax (λ_ z=>nomatch z);exact⟨(by rw[ah,Zy];rfl),(by rw[ag (ay J.ahd J.ax (mG (show(1:Nat)≠11 by decide)))];exact J.ahd),(by rw[ag (ay J.ahl J.ax (by intro z;cases z))];exact J.ahl),J.rhl.keep tk,(by rw[ag (ay J.ant J.ax (mG (show(1:Nat)≠11 by decide)))];exact J.ant),(by rw[ag (ay J.anl J.ax (by intro z;cases z))];exact J.anl),(by rw[ag (ay J.awt J.ax (mG (show(2:Nat)≠11 by decide)))];exact J.awt),(by rw[ag (ay J.awb J.ax (by intro z;cases z))];exact J.awb),(by rw[ag (ay J.awl J.ax (by intro z;cases z))];exact J.awl),(by rw[ag (ay J.afh J.ax (by intro z;cases z))];exact J.afh),(λt ws m=>⟨by rw[ag (ay (J.afl _ _ m).1 J.ax (by intro z;cases z))];exact(J.afl _ _ m).1,(J.afl _ _ m).2.keep tk⟩),(by rw[ag (ay J.ayg J.ax (by intro z;cases z))];exact J.ayg),(by show upd _ _ _ p=_;rw[ag λe=>nf (by rw[e];exact .x)];exact pp),J.nhn,J.l1,J.l2,J.l3,J.l4,J.l5,J.d1,J.d2,(λ(e:A.wb=p)=>nf (by rw[←e];exact .wb)),J.d4,(λ(e:A.fh=p)=>nf (by rw[←e];exact .fh)),(λ(e:A.yg=p)=>nf (by rw[←e];exact .yg))⟩
 ·cases f with
  | x=>exact .inl .x
  | hd=>exact .inl .hd
  | hl=>exact .inl .hl
  | nt=>exact .inl .nt
  | nl=>exact .inl .nl
  | wt=>exact .inl .wt
  | wb=>exact .inl .wb
  | wl=>exact .inl .wl
  | fh=>exact .inl .fh
  | yg=>exact .inl .yg
  | dm=>exact .inr rfl
  | fl m=>exact .inl (.fl m)
theorem IH.ain(J:IH D H x A s){ns:List (Option Int)}{p:Addr}(hp:H p=none):IH D (upd (upd H p (.lst (ns.map nmV))) A.nt (.ins D.aD A.ntx [("things_named",.ref p)])) x {A with nl:=p} {s with names:=ns}∧Fr (bR x A s) H (bR x {A with nl:=p} {s with names:=ns}) (upd (upd H p (.lst (ns.map nmV))) A.nt (.ins D.aD A.ntx [("things_named",.ref p)])):=by
 have s1:aE H (upd H p (.lst (ns.map nmV))):=aE.upd hp;have nf:¬bR x A s p:=J.fresh hp;have pp:upd H p (.lst (ns.map nmV)) p=some (.lst (ns.map nmV)):=ah;refine⟨?_,D8 hp (.nt) J.ant (λ_ z=>nomatch z) (λc f=>?_)⟩
 ·have J:=J.same s1
  have tk:fJ (upd H p (.lst (ns.map nmV))) (upd (upd H p (.lst (ns.map nmV))) A.nt (.ins D.aD A.ntx [("things_named",.ref p)])):=fJ.set J.ant (λ_ z=>nomatch z);exact⟨(by rw[ag (ay J.ax J.ant (mG (show(11:Nat)≠1 by decide)))];exact J.ax),(by rw[ag J.nhn];exact J.ahd),(by rw[ag (ay J.ahl J.ant (by intro z;cases z))];exact J.ahl),J.rhl.keep tk,ah,(by show upd _ _ _ p=_;rw[ag λe=>nf (by rw[e];exact .nt)];exact pp),(by rw[ag (ay J.awt J.ant (mG (show(2:Nat)≠1 by decide)))];exact J.awt),(by rw[ag (ay J.awb J.ant (by intro z;cases z))];exact J.awb),(by rw[ag (ay J.awl J.ant (by intro z;cases z))];exact J.awl),(by rw[ag (ay J.afh J.ant (by intro z;cases z))];exact J.afh),(λt ws m=>⟨by rw[ag (ay (J.afl _ _ m).1 J.ant (by intro z;cases z))];exact(J.afl _ _ m).1,(J.afl _ _ m).2.keep tk⟩),(by rw[ag (ay J.ayg J.ant (by intro z;cases z))];exact J.ayg),(by rw[ag (ay J.adm J.ant (by intro z;cases z))];exact J.adm),J.nhn,(λ(e:A.hl=p)=>nf (by rw[←e];exact .hl)),J.l2,(λ(e:p=A.wl)=>nf (by rw[e];exact .wl)),(λt ws m=>⟨(J.l4 _ _ m).1,(λ(e:A.fa t=p)=>nf (by rw[←e];exact .fl m)),(J.l4 _ _ m).2.2⟩),J.l5,J.d1,J.d2,J.d3,J.d4,J.d5,J.d6⟩
 ·cases f with
  | x=>exact .inl .x
  | hd=>exact .inl .hd
  | hl=>exact .inl .hl
  | nt=>exact .inl .nt
  | nl=>exact .inr rfl
  | wt=>exact .inl .wt
  | wb=>exact .inl .wb
  | wl=>exact .inl .wl
  | fh=>exact .inl .fh
  | yg=>exact .inl .yg
  | dm=>exact .inl .dm
  | fl m=>exact .inl (.fl m)
noncomputable def zw(fs:List (Int×List Wd))(t:Int):List (Int×List Wd):=fs.filter λp=>decide (p.1≠t)
theorem rC{fs:List (Int×List Wd)}{t t':Int}{ws:List Wd}:(t',ws)∈zw fs t↔(t',ws)∈fs∧t'≠t:=by unfold zw;rw[ajs];simp
theorem UH{fs:List (Int×List Wd)}{A:HA}{t:Int}:ue (fs.map (fkv A)) (Sum.inl t)=(zw fs t).map (fkv A):=by
 unfold ue zw;rw[akJ];congr 1
 refine ajP λp _=>?_;show decide (Sum.inl p.1≠(Sum.inl t:Key))=decide (p.1≠t);simp
theorem IH.ZA(J:IH D H x A s){t:Int}:IH D (upd H A.fh (.dK ((zw s.aN t).map (fkv A)))) x A {s with aN:=zw s.aN t}∧Fr (bR x A s) H (bR x A {s with aN:=zw s.aN t}) (upd H A.fh (.dK ((zw s.aN t).map (fkv A)))):=by
 have tk:fJ H (upd H A.fh (.dK ((zw s.aN t).map (fkv A)))):=fJ.set J.afh (λ_ z=>nomatch z);refine⟨⟨(by rw[ag (ay J.ax J.afh (by intro z;cases z))];exact J.ax),(by rw[ag (ay J.ahd J.afh (by intro z;cases z))];exact J.ahd),(by rw[ag (ay J.ahl J.afh (by intro z;cases z))];exact J.ahl),J.rhl.keep tk,(by rw[ag (ay J.ant J.afh (by intro z;cases z))];exact J.ant),(by rw[ag (ay J.anl J.afh (by intro z;cases z))];exact J.anl),(by rw[ag (ay J.awt J.afh (by intro z;cases z))];exact J.awt),(by rw[ag J.d1];exact J.awb),(by rw[ag (ay J.awl J.afh (by intro z;cases z))];exact J.awl),ah,(λu ws m'=>by have m:=(rC.mp m').1;exact⟨by rw[ag (ay (J.afl _ _ m).1 J.afh (by intro z;cases z))];exact(J.afl _ _ m).1,(J.afl _ _ m).2.keep tk⟩),(by rw[ag (ai7 J.d4)];exact J.ayg),(by rw[ag (ai7 J.d5)];exact J.adm),J.nhn,J.l1,J.l2,J.l3,(λu ws m=>J.l4 _ _ (rC.mp m).1),(λu ws v w m m' e=>J.l5 _ _ _ _ (rC.mp m).1 (rC.mp m').1 e),J.d1,J.d2,J.d3,J.d4,J.d5,J.d6⟩,Fr.set .fh J.afh (λ_ z=>nomatch z) (λc f=>?_)⟩;cases f with
 | x=>exact .x
 | hd=>exact .hd
 | hl=>exact .hl
 | nt=>exact .nt
 | nl=>exact .nl
 | wt=>exact .wt
 | wb=>exact .wb
 | wl=>exact .wl
 | fh=>exact .fh
 | yg=>exact .yg
 | dm=>exact .dm
 | fl m=>exact .fl (rC.mp m).1
end
inductive Led(rs:List Wd)(F:Int→List Wd)(S:List Int):Int→Prop where
 | root {t:Int}:Wd.th t∈rs→t∈S→Led rs F S t
 | step {u t:Int}:Led rs F S u→Wd.th t∈F u→t∈S→Led rs F S t
theorem Led.mem{rs:List Wd}{F:Int→List Wd}{S:List Int}{t:Int}(h:Led rs F S t):t∈S:=by cases h<;>assumption
noncomputable def amg(S:List Int):Wd→Option Int
 | .th t=>if t∈S then some t else none
 | _=>none
theorem rP{S:List Int}{w:Wd}{t:Int}:amg S w=some t↔w=.th t∧t∈S:=by
 cases w with
 | no=>exact⟨(λh=>by cases h),(λh=>by cases h.1)⟩
 | num n=>exact⟨(λh=>by cases h),(λh=>by cases h.1)⟩
 | th u =>
  show(if u∈S then some u else none)=some t↔_;by_cases c:u∈S
  ·rw[if_pos c]
   exact⟨(λh=>by cases h;exact⟨rfl,c⟩),(λh=>by cases h.1;rfl)⟩
  ·rw[if_neg c]
   exact⟨(λh=>by cases h),(λh=>by cases h.1;exact absurd h.2 c)⟩
inductive Rc(rs:List (Option Int))(F:Int→List (Option Int)):Int→Prop where
 | root {t:Int}:some t∈rs→Rc rs F t
 | step {u t:Int}:Rc rs F u→some t∈F u→Rc rs F t
theorem WB{rs:List Wd}{F:Int→List Wd}{S:List Int}{t:Int}:Rc (rs.map (amg S)) (λu=>(F u).map (amg S)) t↔Led rs F S t:=by
 constructor
 ·intro h
  induction h with
  | root m =>
   obtain⟨w,mw,e⟩:=aje.mp m;obtain⟨rfl,c⟩:=rP.mp e;exact .root mw c
  | step _ m ih =>
   obtain⟨w,mw,e⟩:=aje.mp m;obtain⟨rfl,c⟩:=rP.mp e;exact .step ih mw c
 ·intro h
  induction h with
  | root m c=>exact .root (aje.mpr ⟨_,m,rP.mpr ⟨rfl,c⟩⟩)
  | step _ m c ih=>exact .step ih (aje.mpr ⟨_,m,rP.mpr ⟨rfl,c⟩⟩)
theorem j8:∀ {ms ks:List Int},ms.Nodup→(∀ m∈ms,m∈ks)→ms.length≤ks.length
 | [],_,_,_=>ajk _
 | a::r,ks,nd,h=>by
  rw[ajZ]at nd;have ha:=h a ai1
  have:=j8 (ms:=r) (ks:=ks.erase a) nd.2 λm hm=>(List.mem_erase_of_ne (λe=>nd.1 (by rw[←e];exact hm))).mpr (h m (ai4 _ hm))
  rw[List.length_erase_of_mem ha]at this
  have:0<ks.length:=List.length_pos_of_mem ha
  rw[ajt];omega
noncomputable def Kys(kvs:List (Key×V))(ms:List Int):Prop:=kvs.map (·.1)=ms.map Sum.inl
theorem Kys.len{kvs:List (Key×V)}{ms:List Int}(k:Kys kvs ms):kvs.length=ms.length:=by have:=congrArg List.length k;simpa using this
theorem Kys.isS{kvs:List (Key×V)}{ms:List Int}(k:Kys kvs ms){t:Int}:(mj kvs (Sum.inl t)).isSome=decide (t∈ms):=by
 induction kvs generalizing ms with
 | nil=>cases ms with
  | nil=>rfl
  | cons a r=>cases k
 | cons p r ih=>cases ms with
  | nil=>cases k
  | cons a ms =>
   unfold Kys at k;rw[aji,aji]at k;injection k with k1 k2;by_cases e:a=t
   ·subst e
    rw[pQ k1];simp
   ·rw[pR (λz=>e (Sum.inl.inj (k1.symm.trans z))),ih k2]
    have:(t∈a::ms)↔t∈ms:=by
     rw[aiY];exact⟨λh=>h.elim (λz=>absurd z.symm e) id,.inr⟩
    simp only[this]
theorem Kys.non{kvs:List (Key×V)}{ms:List Int}(k:Kys kvs ms){t:Int}(h:t∉ms):mj kvs (Sum.inl t)=none:=by
 have:=k.isS (t:=t)
 rw[decide_eq_false h]at this;cases q:mj kvs (Sum.inl t) with
 | none=>rfl
 | some v=>rw[q]at this;cases this
theorem Kys.snoc{kvs:List (Key×V)}{ms:List Int}(k:Kys kvs ms){t:Int}{v:V}(h:t∉ms):Kys (putK kvs (Sum.inl t) v) (ms++[t]):=by
 rw[BW v (k.non h)];unfold Kys at k ⊢;rw[ai3,ai3,k];rfl
theorem Kys.at_{kvs:List (Key×V)}{ms:List Int}(k:Kys kvs ms){i:Nat}{p:Key×V}(h:kvs[i]?=some p):∃ t,ms[i]?=some t∧kV p.1=.int t∧p.1=Sum.inl t:=by
 have h1:=congrArg (λl=>l[i]?) k;simp only[aiW,h,akv]at h1;obtain⟨t,e1,e2⟩:=aiZ.mp h1.symm;exact⟨t,e1,by rw[←e2];rfl,e2.symm⟩
theorem Ca(ts:List Int):Kys (ts.map tkv) ts:=by unfold Kys;rw[aju];rfl
theorem Ri(s:HS)(A:HA):Kys (s.aN.map (fkv A)) (keys s):=by unfold Kys keys;rw[aju,aju];rfl
noncomputable def drG(fs:List (Int×List Wd))(gs:List Int):List (Int×List Wd):=fs.filter λp=>decide (p.1∉gs)
noncomputable def nmG(gs:List Int)(n:Option Int):Option Int:=match n with|none=>none|some t=>if t∈gs then none else some t
noncomputable def brG(bs:List (Int×Int))(gs:List Int):List (Int×Int):=bs.filter λp=>decide (p.1∉gs)
noncomputable def sdG(bs:List (Int×Int))(gs:List Int):List Int:=gs.filterMap λt=>bs.lookup t
noncomputable def letGo(s:HS)(gs:List Int):HS:={s with aN:=drG s.aN gs,names:=s.names.map (nmG gs),bQ:=brG s.bQ gs,uc:=s.uc++sdG s.bQ gs}
theorem hW{fs:List (Int×List Wd)}{gs:List Int}{t:Int}{ws:List Wd}:(t,ws)∈drG fs gs↔(t,ws)∈fs∧t∉gs:=by unfold drG;rw[ajs];simp
theorem R4{fs:List (Int×List Wd)}{gs:List Int}{t:Int}:drG fs (gs++[t])=zw (drG fs gs) t:=by
 unfold drG zw;rw[List.filter_filter];refine ajP λp _=>?_;simp[aiS,not_or,Bool.and_comm]
theorem Ph{fs:List (Int×List Wd)}:drG fs []=fs:=by unfold drG;simp
theorem MK{bs:List (Int×Int)}{gs:List Int}{t:Int}:brG bs (gs++[t])=(brG bs gs).filter λp=>decide (p.1≠t):=by
 unfold brG;rw[List.filter_filter];refine ajP λp _=>?_;simp[aiS,not_or,Bool.and_comm]
theorem NR{bs:List (Int×Int)}{gs:List Int}{t:Int}(h:t∉gs):(brG bs gs).lookup t=bs.lookup t:=by
 unfold brG;induction bs with
 | nil=>rfl
 | cons p r ih =>
  obtain⟨a,b⟩:=p;rw[List.filter_cons];by_cases c:a∈gs
  ·rw[if_neg (by simpa using c),ih,ajn]
   rw[show(t == a)=false from beq_eq_false_iff_ne.mpr λe=>h (by rw[e];exact c)]
  ·rw[if_pos (by simpa using c),ajn,ajn,ih]
theorem UI{bs:List (Int×Int)}{t:Int}:ue (bs.map bkv) (Sum.inl t)=(bs.filter λp=>decide (p.1≠t)).map bkv:=by
 unfold ue;rw[akJ];congr 1
 refine ajP λp _=>?_;show decide (Sum.inl p.1≠(Sum.inl t:Key))=decide (p.1≠t);simp
theorem filter_none{bs:List (Int×Int)}{t:Int}(h:bs.lookup t=none):(bs.filter λp=>decide (p.1≠t))=bs:=List.filter_eq_self.mpr λp hp=>by simpa using lookup_none h p hp
theorem ML{bs:List (Int×Int)}{gs:List Int}{t:Int}:sdG bs (gs++[t])=sdG bs gs++(match bs.lookup t with|some v=>[v]|none=>[]):=by
 unfold sdG;rw[List.filterMap_append];congr 1
 cases e:bs.lookup t with
 | none=>simp[e]
 | some v=>simp[e]
structure Wk(H H4:Hp)(st mt:Addr)(rs:List (Option Int))(F:Int→List (Option Int))(S:List Int)(kvs:List (Key×V))(ms:List Int):Prop where
 sm:aE H H4
 hs:H4 st=some (.dK kvs)
 ky:Kys kvs ms
 nd:ms.Nodup
 sub:∀ m∈ms,m∈S
 snd:∀ m∈ms,Rc rs F m
 hm:H4 mt=some (.lst (ms.map V.int))
 rts:∀ t,some t∈rs→t∈ms
theorem Wk.same{H H4 H5:Hp}{st mt:Addr}{rs:List (Option Int)}{F:Int→List (Option Int)}{S:List Int}{kvs:List (Key×V)}{ms:List Int}(w:Wk H H4 st mt rs F S kvs ms)(k:aE H4 H5):Wk H H5 st mt rs F S kvs ms :=
 ⟨w.sm.trans k,k _ _ w.hs,w.ky,w.nd,w.sub,w.snd,k _ _ w.hm,w.rts⟩
theorem Wk.put{H H4:Hp}{st mt:Addr}{rs:List (Option Int)}{F:Int→List (Option Int)}{S:List Int}{kvs:List (Key×V)}{ms:List Int}(w:Wk H H4 st mt rs F S kvs ms)(h1:H st=none)(h2:H mt=none){n:Int}{v:V}(hn:n∉ms)(hS:n∈S)(hr:Rc rs F n) :
  Wk H (upd (upd H4 st (.dK (putK kvs (Sum.inl n) v))) mt (.lst (ms.map V.int++[.int n]))) st mt rs F S (putK kvs (Sum.inl n) v) (ms++[n]):=by
 have ne:st≠mt:=ay w.hs w.hm (by intro z;cases z);refine⟨λb u q=>?_,?_,w.ky.snoc hn,?_,λm h=>?_,λm h=>?_,?_,λt h=>ajb _ (w.rts t h)⟩
 ·rw[ag (au q h2),ag (au q h1)]
  exact w.sm b u q
 ·rw[ag ne]
  exact ah
 ·rw[ajQ]
  exact⟨w.nd,by simp,λa ha b hb=>by rw[aiJ.mp hb];exact λe=>hn (by rw[←e];exact ha)⟩
 ·rcases aiS.mp h with g|g
  ·exact w.sub m g
  ·rw[aiJ.mp g];exact hS
 ·rcases aiS.mp h with g|g
  ·exact w.snd m g
  ·rw[aiJ.mp g];exact hr
 ·rw[ai3]
  exact ah
theorem MM{ms:List Int}{n:Int}(nd:ms.Nodup)(hn:n∉ms):(ms++[n]).Nodup:=by
 rw[ajQ];exact⟨nd,by simp,λa ha b hb=>by rw[aiJ.mp hb];exact λe=>hn (by rw[←e];exact ha)⟩
theorem WC{rs:List (Option Int)}{F:Int→List (Option Int)}{ms:List Int}(h0:∀ t,some t∈rs→t∈ms)(h1:∀ u∈ms,∀ t,some t∈F u→t∈ms){t:Int}(h:Rc rs F t):t∈ms:=by
 induction h with
 | root m=>exact h0 _ m
 | step _ m ih=>exact h1 _ ih _ m
noncomputable def MN:Sp:=λvs H Q _=>∃(v r d:Addr) (rs:List (Option Int)) (S:List Int) (F:Int→List (Option Int)) (ad:Int→Addr),vs=[.ref v]∧H v=some (.tup [.ref r,.ref d])∧H r=some (.lst (rs.map nmV))∧H d=some (.dK (S.map λt=>(Sum.inl t,.ref (ad t))))∧(∀ t∈S,H (ad t)=some (.lst ((F t).map nmV)))∧(∀ t,some t∈rs→t∈S)∧(∀ u∈S,∀ t,some t∈F u→t∈S)∧S.length≤10000∧∀ st kvs ms H',aE H H'→H st=none→H' st=some (.dK kvs)→Kys kvs ms→ms.Nodup→(∀ t,t∈ms↔Rc rs F t)→Q (.ref st) H'
noncomputable abbrev JK:List Str:=["view", "steps", "place", "thing", "met", "done"]
theorem eL:aw JK ["view"] (ar rT):=fsc
theorem HW(F:Fun K "last_steps" "last_steps" rT D.fv D.kZ)(T:Txt K mg D):Ok P w K mg base 1 D.fv D.kZ ["view"] (MN):=by
 refine F.oa eL F.b1 λcdv A' outer s' H vs Q E hr h=>?_;obtain⟨v,r,d,rs,S,F,ad,rfl,ht,hrs,hd,Rt,hrt,hcl,Uc,k⟩:=h;have hu:=kQ hr;refine⟨_,(PSs.nox (ak (bp (i:=1) eL.nd rfl (Or.inl rfl) nB)
  (ak (nK ajo rfl (O6 rfl T.qu (ae (cg bY (pv 0) av (λ_ _=>rfl)) aq)) (Sq rfl (BS (gb (i:=2) eL.nd rfl (Or.inl rfl)) (BS (gb (i:=3) eL.nd rfl (Or.inl rfl)) OU)))
   (ai (cj (PW.pt (pw_and (aJ Gx (pv 3) kc (bN _)) (pw_and1 (rM (ko hu (pv 3) (pv 1)) (by with_unfolding_all rfl)))))
    (ai (t9 hu (pv 1) (pv 3) (iu (ae kc (ae (pv 2) aq))) rfl))
    aU)))
  (ak (bp (i:=4) eL.nd rfl (Or.inl rfl) (km (GG rfl) rfl T.ui PyProof.Rows.Boot.«list» (ae (pv 1) aq)))
  (ak (bp (i:=5) eL.nd rfl (Or.inl rfl) av)
  (ak (Mj ajo (aJ Gw (pv 5) (eh iF rfl T.B7 PyProof.Rows.Boot.«len» (ae (pv 4) aq)) (bN _))
   (ak (nK ajo rfl (O6 rfl T.qu (ae (qR hu (cg bY (pv 0) av (λ_ _=>rfl)) (cg iW (pv 4) (pv 5) (λ_ _=>rfl)) (λ_ _=>rfl)) aq)) (Sq rfl (BS (gb (i:=2) eL.nd rfl (Or.inl rfl)) (BS (gb (i:=3) eL.nd rfl (Or.inl rfl)) OU)))
    (ai (cj (PW.pt (pw_and (aJ Gx (pv 3) kc (bN _)) (pw_and1 (rM (ko hu (pv 3) (pv 1)) (by with_unfolding_all rfl)))))
     (ak (t9 hu (pv 1) (pv 3) (iu (ae (cg iW (pv 4) (pv 5) (λ_ _=>rfl)) (ae (pv 2) aq))) rfl)
     (ai (aG (KQ PySem.F.plainAttrs_list PySem.F.slot_list_append PySem.F.type_list_append rp (pv 4) (ae (pv 3) aq)))))
     aU)))
   (ai (V1 (i:=5) eL.nd rfl (Or.inl rfl) av V2))))
  (ai (aM (pv 1))))))))),?_⟩
 refine λst hst=>?_;have s0:aE H (upd H st (.dK [])):=aE.upd hst;have kyS:Kys (S.map λt=>((Sum.inl t:Key),V.ref (ad t))) S:=by unfold Kys;rw[aju];rfl
 have dgS:∀ {Hc:Hp},aE H Hc→∀ {t:Int},t∈S→qQ Hc d (.int t) (some (.ref (ad t))):=λ{Hc} sc {t} m=>by
  have e:mj (S.map λt=>((Sum.inl t:Key),V.ref (ad t))) (Sum.inl t)=some (.ref (ad t)):=by
   clear kyS Uc hcl hrt Rt hd;induction S with
   | nil=>cases m
   | cons a r ih =>
    rw[aji];by_cases c:a=t
    ·rw[pQ (by show Sum.inl a=Sum.inl t;rw[c]),c]
    ·rw[pR (λz=>c (Sum.inl.inj z))]
     exact ih ((aiY.mp m).resolve_left λz=>c z.symm)
  exact .inl ⟨_,Sum.inl t,.inl (sc _ _ hd),rfl,e.symm⟩
 have few:∀ {kvs:List (Key×V)} {ms:List Int},Kys kvs ms→ms.Nodup→(∀ m∈ms,m∈S)→kvs.length<sizeLine:=λk nd h=>by rw[k.len];exact uo (ai5 (j8 nd h) (by omega))
 refine⟨_,rfl,v,_,0,.ref r,rfl,rfl,SqT.of (s0 _ _ ht),rfl,r,rfl,⟨_,SqL.of (s0 _ _ hrs)⟩,Mt (K:=K) (a:=r) (xs:=rs.map nmV) (λi σ H2=>∃(v2 v3:Option V) (kvs:List (Key×V)) (ms:List Int),σ=[some (.ref v),some (.ref st),v2,v3,none,none]∧aE H H2∧H2 st=some (.dK kvs)∧Kys kvs ms∧ms.Nodup∧(∀ m∈ms,m∈S)∧(∀ m∈ms,Rc rs F m)∧∀(j:Nat) t,j<i→rs[j]?=some (some t)→t∈ms)
  ⟨none,none,[],[],rfl,s0,ah,rfl,List.nodup_nil,(λt h=>nomatch h),(λt h=>nomatch h),(λj t h=>absurd h (akI _))⟩ (λi σ H2 _ ⟨_,_,_,_,_,s2,_⟩=>SqL.of (s2 _ _ hrs)) ?_ ?_⟩
 ·rintro i x σ H2 t hx ⟨v2,v3,kvs,ms,rfl,s2,hs,ky,nd,sub,snd,Fw⟩ htt
  have hi:i<rs.length:=by have:=(aiM.mp hx).1;rwa[aiI]at this
  have ri:rs[i]?=some rs[i]:=aiK hi;have hxe:x=nmV rs[i]:=by
   rw[aiW,ri]at hx;exact(aja hx).symm
  subst hxe;have s3:aE H2 (upd H2 t (.tup [.int (i:Int),nmV rs[i]])):=aE.upd htt;refine⟨t,_,rfl,SqT.of ah,rfl,_,_,rfl,_,_,rfl,rfl,?_⟩;cases hc:rs[i] with
  | none =>
   rw[hc]at s3 ri;refine⟨_,rfl,rfl,_,rfl,gS (gS ⟨_,_,kvs,ms,rfl,s2.trans s3,s3 _ _ hs,ky,nd,sub,snd,λj t hj e=>?_⟩)⟩;rcases ajB j i with z|z
   ·exact Fw j t z e
   ·rw[show j=i by omega,ri]at e
    cases e
  | some n =>
   rw[hc]at s3 ri;have mr:=aiU ri;refine⟨_,rfl,rfl,_,rfl,sL ⟨_,rfl,_,rfl,st,_,rfl,qQ.k (k:=Sum.inl n) (s3 _ _ hs),_,rfl,?_⟩⟩;rw[ky.isS];by_cases hin:n∈ms
   ·rw[decide_eq_true hin]
    refine gS ⟨_,_,kvs,ms,rfl,s2.trans s3,s3 _ _ hs,ky,nd,sub,snd,λj t hj e=>?_⟩;rcases ajB j i with z|z
    ·exact Fw j t z e
    ·rw[show j=i by omega,ri]at e
     cases e;exact hin
   ·rw[decide_eq_false hin]
    refine sL ⟨_,rfl,by show 2≤sizeLine;decide,λu hu'=>?_⟩;have s4:=aE.upd (o:=.tup [V.non,V.int (i:Int)]) hu';refine⟨_,rfl,_,rfl,st,_,rfl,IP.k (k:=Sum.inl n) (s4 _ _ (s3 _ _ hs)) (few ky nd sub),_,_,putK kvs (Sum.inl n) (.ref u),ms++[n],rfl,λc u' g=>by rw[ag (au g hst)];exact s4 _ _ (s3 _ _ (s2 c u' g)),ah,ky.snoc hin,MM nd hin,λm h=>?_,λm h=>?_,λj t hj e=>?_⟩
    ·rcases aiS.mp h with g|g
     ·exact sub m g
     ·rw[aiJ.mp g];exact hrt n mr
    ·rcases aiS.mp h with g|g
     ·exact snd m g
     ·rw[aiJ.mp g];exact .root mr
    ·rcases ajB j i with z|z
     ·exact ajb _ (Fw j t z e)
     ·rw[show j=i by omega,ri]at e
      cases e;exact aiP _ ai1
 ·rintro σ H2 ⟨v2,v3,kvs,ms,rfl,s2,hs,ky,nd,sub,snd,Fw⟩
  refine⟨_,rfl,st,_,ms,rfl,.inl hs,ky,λmt hmt=>?_⟩;have s3:=aE.upd (o:=.lst (ms.map V.int)) hmt;have aio:H mt=none:=aE.none s2 hmt;refine⟨λm σ H4=>∃(dn:Nat) (v2 v3:Option V) (kvs:List (Key×V)) (ms:List Int),m=S.length+1-dn∧σ=[some (.ref v),some (.ref st),v2,v3,some (.ref mt),some (.int (dn:Int))]∧Wk H H4 st mt rs F S kvs ms∧(∀ u∈ms.take dn,∀ t,some t∈F u→t∈ms)∧dn≤ms.length,⟨_,0,v2,v3,kvs,ms,rfl,rfl,⟨s2.trans s3,s3 _ _ hs,ky,nd,sub,snd,ah,λt h=>?_⟩,(λu h=>nomatch h),ajk _⟩,?_⟩
  ·obtain⟨j,hj⟩:=List.mem_iff_getElem?.mp h
   exact Fw j t (by rw[aiI];exact(aiM.mp hj).1) hj
  clear hs ky nd sub snd Fw s3 s2;rintro m σ H4 ⟨dn,v2,v3,kvs,ms,rfl,rfl,W,don,hdl⟩;have ml:=j8 W.nd W.sub;refine⟨_,rfl,_,rfl,mt,_,rfl,.inl (SqL.of W.hm),_,_,rfl,rfl,_,rfl,aY (λh=>?_) (λh=>?_)⟩
  ·have hd1:dn<ms.length:=by
    have h1:(dn:Int)<((ms.map V.int).length:Int):=(by simpa using h);rw[aiI]at h1;omega
   refine⟨λσ' H'=>∃ m',m'<S.length+1-dn∧∃(dn:Nat) (v2 v3:Option V) (kvs:List (Key×V)) (ms:List Int),m'=S.length+1-dn∧σ'=[some (.ref v),some (.ref st),v2,v3,some (.ref mt),some (.int (dn:Int))]∧Wk H H' st mt rs F S kvs ms∧(∀ u∈ms.take dn,∀ t,some t∈F u→t∈ms)∧dn≤ms.length,λ_ _ h=>h,?_⟩;have tk:ms.take (dn+1)=ms.take dn++[ms[dn]]:=ai8 hd1;obtain⟨t,et⟩:∃ t,ms[dn]=t:=⟨_,rfl⟩;obtain⟨pre,UJ⟩:∃ pre,ms.take dn=pre:=⟨_,rfl⟩;rw[et,UJ]at tk;rw[UJ]at don;have aip:pre.length=dn:=(by rw[←UJ,aiV];omega);have htm:t∈ms:=(by rw[←et];exact ajR hd1);have hin:t∈S:=W.sub t htm;have at_:∀ {ns:List Int},ns.take (dn+1)=pre++[t]→ns[dn]?=some t:=λ{ns} e=>by
    have:(ns.take (dn+1))[dn]?=some t:=by rw[e,ajx (by omega),aip,Nat.sub_self];rfl
    rwa[aki (akG _)]at this
   have hat:∀ {ns:List Int},ns.take (dn+1)=pre++[t]→atI (ns.map V.int) (dn:Int)=some (.int t):=λe=>pK (by rw[aiW,at_ e];rfl);have rw_:=Rt t hin;refine⟨_,rfl,v,_,1,.ref d,rfl,rfl,SqT.of (W.sm _ _ ht),rfl,_,rfl,_,rfl,mt,_,_,.int t,rfl,rfl,SqL.of W.hm,hat tk,d,_,rfl,dgS W.sm hin,ad t,rfl,⟨_,SqL.of (W.sm _ _ rw_)⟩,
    Mt (K:=K) (a:=ad t) (xs:=(F t).map nmV) (λj σ H6=>∃(v2 v3:Option V) (kvs:List (Key×V)) (ms:List Int),σ=[some (.ref v),some (.ref st),v2,v3,some (.ref mt),some (.int (dn:Int))]∧Wk H H6 st mt rs F S kvs ms∧ms.take (dn+1)=pre++[t]∧dn<ms.length∧(∀ u∈pre,∀ t,some t∈F u→t∈ms)∧∀(q:Nat) n,q<j→(F t)[q]?=some (some n)→n∈ms)
    ⟨v2,v3,kvs,ms,rfl,W,tk,hd1,don,(λq n h=>absurd h (akI _))⟩ (λj σ H6 _ ⟨_,_,_,_,_,w6,_⟩=>SqL.of (w6.sm _ _ rw_)) ?_ ?_⟩
   ·clear W don hdl ml hd1 tk et UJ htm
    rintro j x σ H6 u hx ⟨v2,v3,kvs,ms,rfl,W,tk,hd1,don,Fw⟩ hut;have hlj:j<(F t).length:=(by have:=(aiM.mp hx).1;rwa[aiI]at this);have fj:(F t)[j]?=some (F t)[j]:=aiK hlj;have hxe:x=nmV (F t)[j]:=by
     rw[aiW,fj]at hx;exact(aja hx).symm
    subst hxe;have htm:t∈ms:=aiU (at_ tk);refine⟨u,_,rfl,SqT.of ah,rfl,_,_,rfl,_,_,rfl,rfl,?_⟩;cases hc:(F t)[j] with
    | none =>
     rw[hc]at fj;have s7:=aE.upd (o:=.tup [.int (j:Int),nmV none]) hut;refine⟨_,rfl,rfl,_,rfl,gS (gS ⟨_,_,kvs,ms,rfl,W.same s7,tk,hd1,don,λq n hq e=>?_⟩)⟩;rcases ajB q j with z|z
     ·exact Fw q n z e
     ·rw[show q=j by omega,fj]at e
      cases e
    | some n =>
     rw[hc]at fj;have mf:=aiU fj;have hk:n∈S:=hcl t hin n mf;have s7:=aE.upd (o:=.tup [.int (j:Int),nmV (some n)]) hut;have W7:=W.same s7;refine⟨_,rfl,rfl,_,rfl,sL ⟨_,rfl,_,rfl,st,_,rfl,qQ.k (k:=Sum.inl n) W7.hs,_,rfl,?_⟩⟩;rw[W7.ky.isS];by_cases hn6:n∈ms
     ·rw[decide_eq_true hn6]
      refine gS ⟨_,_,kvs,ms,rfl,W7,tk,hd1,don,λq n' hq e=>?_⟩;rcases ajB q j with z|z
      ·exact Fw q n' z e
      ·rw[show q=j by omega,fj]at e
       cases e;exact hn6
     ·rw[decide_eq_false hn6]
      refine sL ⟨_,rfl,_,rfl,mt,_,_,.int t,rfl,rfl,SqL.of W7.hm,hat tk,_,rfl,by show 2≤sizeLine;decide,λu2 hu2=>?_⟩;have s8:=aE.upd (o:=.tup [V.int t,V.int (j:Int)]) hu2;have W8:=W7.same s8;have W9:=W8.put (v:=.ref u2) hst aio hn6 hk (.step (W.snd t htm) mf);have nms:mt≠st:=ay W8.hm W8.hs (by intro z;cases z);have zm9:upd (upd (upd H6 u (.tup [.int (j:Int),nmV (some n)])) u2 (.tup [V.int t,V.int (j:Int)])) st (.dK (putK kvs (Sum.inl n) (.ref u2))) mt=some (.lst (ms.map V.int)):=(by rw[ag nms];exact W8.hm);refine⟨_,rfl,_,rfl,st,_,rfl,IP.k (k:=Sum.inl n) W8.hs (few W8.ky W8.nd W8.sub),?_⟩;refine⟨_,rfl,.inl ⟨rfl,_,SqL.of zm9⟩,_,rfl,mt,_,_,rfl,rfl,zm9,by rw[aiI];exact uo (ai5 (j8 W8.nd W8.sub) (by omega)),?_⟩;refine⟨_,_,_,ms++[n],rfl,W9,by rw[List.take_append_of_le_length (by omega)];exact tk,by rw[aiR];omega,λu h t' e=>ajb _ (don u h t' e),λq n' hq e=>?_⟩;rcases ajB q j with z|z
      ·exact ajb _ (Fw q n' z e)
      ·rw[show q=j by omega,fj]at e
       cases e;exact aiP _ ai1
   ·clear W don hdl ml hd1 tk et UJ htm
    rintro σ H6 ⟨v2,v3,kvs,ms,rfl,W,tk,hd1,don,Fw⟩;rw[aiI]at Fw;have ml:=j8 W.nd W.sub;refine⟨_,rfl,_,1,rfl,rfl,S.length+1-(dn+1),by omega,dn+1,v2,v3,kvs,ms,rfl,rfl,W,λu h t' e=>?_,hd1⟩;rw[tk]at h;rcases aiS.mp h with g|g
    ·exact don u g t' e
    ·rw[aiJ.mp g]at e
     obtain⟨q,hq⟩:=List.mem_iff_getElem?.mp e;exact Fw q t' (aiM.mp hq).1 hq
  ·have hge:ms.length≤dn:=by
    have h1:¬(dn:Int)<((ms.map V.int).length:Int):=(by simpa using h);rw[aiI]at h1;omega
   rw[ai2 hge]at don;exact⟨_,rfl,k st kvs ms H4 W.sm hst W.hs W.ky W.nd λt=>⟨W.snd t,WC W.rts don⟩⟩
end
end K13
end
section
namespace L2
open PySem PySem.Spec PyProof.Rows LX
section
variable{X:Cx}
noncomputable def aiq(H₀:Hp)(t:TS):TS:=λD σ H=>t {D with nx:=λσ1 H1=>∃ d o kvs,H1 d=some (.frz o (.dK kvs))∧(∀ o u,H₀ d≠some (.frz o u))∧D.nx σ1 (upd H1 d (.dK kvs))} σ H
theorem UK{st:Stmt}{t:TS}(h:PS X st t):PS X st (aiq X.H₀ t):=by
 intro pins s σ H D I q;refine thn (h pins s σ H _ I q) λf s1 z=>?_;cases f with
 | next =>
  obtain⟨σ1,H1,I1,d,o,kvs,hd,h0,q⟩:=z;exact⟨σ1,_,I1.YM hd h0 (by intro _ z;cases z) (by intro _ z;cases z) (by intro _ z;cases z),q⟩
 | ret v=>exact z
 | brk=>exact z
 | cont=>exact z
theorem VM{n:Option Int}{zs:List Int}{f:Option Int→V}(hf:f none=.non)(hs:∀ t,f (some t)=.int t):inV (f n) (zs.map V.int)=(match n with|none=>false|some t=>decide (t∈zs)):=by
 unfold inV;cases n with
 | none =>
  rw[hf];show _=false;rw[List.any_map];refine List.any_eq_false.mpr λz _=>?_;simp[eqV]
 | some t =>
  rw[hs,List.any_map];show _=decide (t∈zs);induction zs with
  | nil=>rfl
  | cons a r ih =>
   rw[akk,ih];by_cases e:a=t
   ·subst e
    simp[eqV]
   ·have:(t∈a::r)↔t∈r:=by
     rw[aiY];exact⟨λh=>h.elim (λz=>absurd z.symm e) id,.inr⟩
    simp[eqV,e,this]
end
end L2
end
section
namespace K13
open PySem L2 LX
section
variable{P:Program}{w:World}{K:W.Frag}{mg:Str→Option Value}{base:Heap}{D:Ad}
theorem KG{H:Hp}{xs:List V}{ws:List Wd}(r:Rel H xs ws){i:Nat}{x:V}(h:xs[i]?=some x):∃ w,ws[i]?=some w∧WV H x w:=by
 have hi:=(aiM.mp h).1;have hw:i<ws.length:=by rw[←r.1];exact hi
 obtain⟨v,hv,wv⟩:=r.get hw;rw[hv]at h;cases h;exact⟨_,aiK hw,wv⟩
noncomputable def VN:Sp:=λvs H Q _=>∃ v w d kvs S,vs=[v,.ref d]∧WV H v w∧Rd H d (.dK kvs)∧Kys kvs S∧Q (nmV (amg S w)) H
noncomputable abbrev HX:List Str:=["value", "things"]
theorem FQ:aw HX ["value", "things"] (ar qC):=fsc
theorem FR(F:Fun K "thing_among" "thing_among" qC D.eI D.jK)(T:Txt K mg D)
  (pF:Ok P w K mg base 1 D.iX D.pE ["value"] (OJ)):Ok P w K mg base 2 D.eI D.jK ["value", "things"] (VN):=by
 refine F.oa FQ F.b2 λcdv A' outer s' H vs Q E hr h=>?_;obtain⟨v,w,d,kvs,S,rfl,wv,hd,hk,k⟩:=h;have hu:=kQ hr;refine⟨_,(PSs.nox (ak (cj (PW.pt (pw_and (aJ nM (pF.c hr T.IY T.wX dS (ae (pv 0) aq)) bh (bN _)) (pw_and1 (rM (SA hu (cg bY (pv 0) av (λ_ _=>rfl)) (pv 1)) (by with_unfolding_all rfl)))))
   (ai (aM (cg bY (pv 0) av (λ_ _=>rfl))))
   aU)
  (ai (aM kc)))),?_⟩
 refine⟨_,rfl,v,w,rfl,wv,?_⟩;cases w with
 | no=>exact⟨rfl,_,rfl,aY (λh=>absurd h (ajf.mp (by kernel_rfl))) (λ_=>gS k)⟩
 | num n=>exact⟨rfl,_,rfl,aY (λh=>absurd h (ajf.mp (by kernel_rfl))) (λ_=>gS k)⟩
 | th t =>
  obtain⟨a,rfl,ht⟩:=wv;refine⟨rfl,_,rfl,aY (λ_=>?_) (λh=>absurd (by kernel_rfl) h)⟩;refine⟨_,rfl,a,_,1,.int t,rfl,rfl,SqT.of ht,rfl,_,rfl,d,_,rfl,.inl ⟨kvs,Sum.inl t,hd,rfl,rfl⟩,_,rfl,?_⟩;rw[hk.isS];by_cases c:t∈S
  ·rw[decide_eq_true c]
   rw[show amg S (.th t)=some t from if_pos c]at k;exact sL ⟨_,rfl,a,_,1,.int t,rfl,rfl,SqT.of ht,rfl,k⟩
  ·rw[decide_eq_false c]
   rw[show amg S (.th t)=none from if_neg c]at k;exact gS k
noncomputable def KZ(D:Ad):Sp:=λvs H Q _=>∃ x A s l xs ws d kvs S,vs=[.ref x,.ref l,.ref d]∧IH D H x A s∧Good s∧H l=some (.lst xs)∧Rel H xs ws∧ws.length≤100000∧H d=some (.dK kvs)∧Kys kvs S∧(∀ t∈S,∃ ws,(t,ws)∈s.aN)∧S.Nodup∧S.length≤10000∧∀ st kv ms H',aE H H'→H st=none→H' st=some (.dK kv)→Kys kv ms→ms.Nodup→(∀ t,t∈ms↔Led ws (fld s) S t)→Q (.ref st) H'
noncomputable abbrev lY:List Str:=["self", "leads", "things", "fields", "t"]
theorem kL:aw lY ["self", "leads", "things"] (ar gT):=fsc
theorem An(F:Fun K "led_among" "Heap.led_among" gT D.bq D.eC)(T:Txt K mg D)
  (mJ:Ok P w K mg base 2 D.eI D.jK ["value", "things"] (VN))
  (sD:Ok P w K mg base 1 D.fv D.kZ ["view"] (MN)):Ok P w K mg base 3 D.bq D.eC ["self", "leads", "things"] (KZ D):=by
 refine F.oa kL F.b3 λcdv A' outer s' H vs Q E hr h=>?_;obtain⟨x,A,s,l,xs,ws,d,kvs,S,rfl,J,G,hl,rx,hw,hd,hk,hin,hnd,Uc,k⟩:=h;have hu:=kQ hr;refine⟨_,(PSs.nox (ak (bp (i:=3) kL.nd rfl (Or.inl rfl) nB)
  (ak (nK ajo rfl (xb (Fs (pv 2))) (gb (i:=4) kL.nd rfl (Or.inl rfl))
   (ai (t9 hu (pv 3) (pv 4) (Cn (cl:=[("things",s'.heap.objs.size+1)]) (x := "value") (idx:=[2]) (NC:=["value", "things"]) ?co2 rfl (iw (qR hu (aH (pv 0) rfl) (pv 4) (λ_ _=>rfl))) (λC fp s₀ H₀=>(mJ.c hr T.xg T.mF Nn (ae (pv 0) (ae (pv 1) aq))))) rfl)))
  (ai (aM (SQ (sD.c hr T.Ju T.sj dS (ae (iu (ae (Cn (cl:=[("things",s'.heap.objs.size+1)]) (x := "value") (idx:=[2]) (NC:=["value", "things"]) ?co1 rfl (iw (pv 1)) (λC fp s₀ H₀=>(mJ.c hr T.xg T.mF Nn (ae (pv 0) (ae (pv 1) aq))))) (ae (pv 3) aq))) aq)))))))),?_⟩
 case co1 =>
  exact jc (sc:=ar gT) (N:=lY) (ns:=["things"]) rfl rfl rfl (by decide +kernel) rfl rfl (by
   intro q hq;rw[aiJ.mp hq];rfl)
 case co2 =>
  exact jc (sc:=ar gT) (N:=lY) (ns:=["things"]) rfl rfl rfl (by decide +kernel) rfl rfl (by
   intro q hq;rw[aiJ.mp hq];rfl)
 intro fa hfa;have s1:=aE.upd (o:=.dK []) hfa;refine⟨_,rfl,d,kvs,s1 _ _ hd,λo=>?_⟩;have nfd:fa≠d:=ai7 (au hd hfa);have xd:x≠d:=ay J.ax hd (by intro z;cases z);have ld:l≠d:=ay hl hd (by intro z;cases z);have okH:∀ Hc:Hp,((∀ b u,b≠d→H b=some u→Hc b=some u)∧Hc d=some (.frz o (.dK kvs)))→fJ H Hc:=λHc oc b us q=>oc.1 b _ (ay q hd (by intro z;cases z)) q;have dg:∀ {Hc:Hp},((∀ b u,b≠d→H b=some u→Hc b=some u)∧Hc d=some (.frz o (.dK kvs)))→∀ {t:Int} {ws:List Wd},(t,ws)∈s.aN→qQ Hc A.fh (.int t) (some (.ref (A.fa t))):=λ{Hc} oc {t ws} m=>by
  have e:mj (s.aN.map (fkv A)) (Sum.inl t)=some (.ref (A.fa t)):=by rw[SV,G.get m];rfl
  by_cases c:A.fh=d
  ·have ek:kvs=s.aN.map (fkv A):=by
    have:=J.afh
    rw[c,hd]at this;injection this with this;injection this
   exact .inl ⟨kvs,Sum.inl t,.inr ⟨o,by rw[c];exact oc.2⟩,rfl,by rw[ek,e]⟩
  ·exact .inl ⟨_,Sum.inl t,.inl (oc.1 _ _ c J.afh),rfl,e.symm⟩
 have lk:=hk.len;refine⟨d,o,kvs,rfl,ah,BY (d:=d) (o:=o) (kvs:=kvs) (λi σ Hc=>∃(v4:Option V) (ad:Int→Addr),σ=[some (.ref x),some (.ref l),some (.ref d),some (.ref fa),v4]∧((∀ b u,b≠d→H b=some u→Hc b=some u)∧Hc d=some (.frz o (.dK kvs)))∧Hc fa=some (.dK ((S.take i).map λt=>(Sum.inl t,.ref (ad t))))∧∀ t∈S.take i,Hc (ad t)=some (.lst (((fld s t).map (amg S)).map nmV)))
  ⟨none,λ_=>0,rfl,⟨λb u n q=>by rw[ag n];exact s1 b u q,ah⟩,by rw[ag nfd];exact ah,(λt h=>nomatch h)⟩ (λi σ Hc _ ⟨_,_,_,oc,_⟩=>oc.2) ?_ ?_⟩
 ·rintro i p σ Hc hi ⟨v4,ad,rfl,oc,hf,Rt⟩
  obtain⟨t,ht,ekv,ep⟩:=hk.at_ hi;have hlt:i<S.length:=(aiM.mp ht).1;have et:S[i]=t:=(aiM.mp ht).2;have mt:t∈S:=aiU ht;obtain⟨w0,m⟩:=hin t mt;obtain⟨hl0,rl⟩:=J.afl _ _ m;have tc:=okH Hc oc;have fm:=G.fld m;rw[←fm]at rl;have nl:A.fa t≠d:=ay hl0 hd (by intro z;cases z);have hlc:=oc.1 _ _ nl hl0;have f6:=G.f6 _ _ m;rw[←fm]at f6;have lz:(fld s t).length≤sizeLine:=kf (by omega);refine⟨_,rfl,x,D.aa,_,_,.ref A.fh,rfl,oc.1 _ _ xd J.ax,T.ab,T.aA,rm,_,rfl,A.fh,.ref (A.fa t),rfl,(by rw[ekv];exact dg oc m),A.fa t,rfl,⟨_,SqL.of hlc⟩,λL hL=>?_⟩;refine wV (K:=K) (a:=A.fa t) (xs:=A.fx t) (λi ys H2=>ys=((fld s t).take i).map (λw=>nmV (amg S w))∧aE Hc H2∧H2 L=some (.lst ys)) ⟨rfl,aE.upd hL,ah⟩ (λi ys H2 hi ⟨e,_,z⟩=>⟨z,by rw[e,aiI,aiV,←rl.1];omega⟩) (λi ys H2 hi ⟨_,s2,_⟩=>SqL.of (s2 _ _ hlc)) (by rw[rl.1];exact lz) (λi y ys H2 hi ⟨e,s2,z⟩=>?_) (λys H2 ⟨e,s2,z⟩=>?_)
  ·obtain⟨wd,hw,wv⟩:=KG rl hi
   refine⟨_,rfl,_,rfl,y,wd,d,kvs,S,rfl,wv.keep (tc.trans (fJ.of s2)),.inr ⟨o,s2 _ _ oc.2⟩,hk,z,?_,λb u q=>by rw[ag (au q hL)];exact s2 b u q,ah⟩;have hlt:i<(fld s t).length:=(aiM.mp hw).1;rw[ai8 hlt,ai3,e,(aiM.mp hw).2];rfl
  ·rw[rl.1,ai2 (aiN _)]at e
   have zf:H2 fa=some (.dK ((S.take i).map λt=>(Sum.inl t,.ref (ad t)))):=s2 _ _ hf;have kyf:Kys ((S.take i).map λt=>((Sum.inl t:Key),V.ref (ad t))) (S.take i):=(by unfold Kys;rw[aju];rfl);have ni:t∉S.take i:=λz=>by
    have:=ajQ.mp (show(S.take i++S.drop i).Nodup by rw[ajc];exact hnd)
    exact this.2.2 t z t (by rw[ajJ hlt,et];exact ai1) rfl
   have nLf:L≠fa:=ai7 (au hf hL);refine⟨_,rfl,_,rfl,fa,_,rfl,(by rw[ekv];exact IP.k (k:=Sum.inl t) zf (by rw[aiI,aiV];exact uo (by omega))),?_⟩;rw[BW _ (kyf.non ni)];refine⟨_,λu=>if u=t then L else ad u,rfl,⟨λb u n q=>?_,?_⟩,?_,λu hu'=>?_⟩
   ·rw[ag (au q hfa)]
    exact s2 _ _ (oc.1 b u n q)
   ·rw[ag (ai7 nfd)]
    exact s2 _ _ oc.2
   ·rw[ah,ai8 hlt,ai3,et]
    congr 3
    ·refine ajH λu hu'=>?_
     dsimp only;rw[if_neg λz=>ni (by rw[←z];exact hu')]
    ·simp only[aji,ako,if_true]
   ·rw[ai8 hlt,et]at hu'
    dsimp only;by_cases c:u=t
    ·subst c
     rw[if_pos rfl,ag nLf,z,e,aju];rfl
    ·rw[if_neg c]
     have mu:u∈S.take i:=(aiS.mp hu').resolve_right λz=>c (aiJ.mp z);have q:=Rt u mu;rw[ag (λz=>by rw[z,hf]at q;cases q)];exact s2 _ _ q
 ·rintro σ Hc ⟨v4,ad,rfl,oc,hf,Rt⟩
  rw[lk,ai2 (aiN _)]at hf Rt;have tc:=okH Hc oc;have hlc:=oc.1 _ _ ld hl;have lz:ws.length≤sizeLine:=ai5 hw (by decide);have rl:=rx;refine⟨_,rfl,l,rfl,⟨_,SqL.of hlc⟩,λL hL=>?_⟩;refine wV (K:=K) (a:=l) (xs:=xs) (λi ys H2=>ys=(ws.take i).map (λw=>nmV (amg S w))∧aE Hc H2∧H2 L=some (.lst ys)) ⟨rfl,aE.upd hL,ah⟩ (λi ys H2 hi ⟨e,_,z⟩=>⟨z,by rw[e,aiI,aiV,←rl.1];omega⟩) (λi ys H2 hi ⟨_,s2,_⟩=>SqL.of (s2 _ _ hlc)) (by rw[rl.1];exact lz) (λi y ys H2 hi ⟨e,s2,z⟩=>?_) (λys H2 ⟨e,s2,z⟩=>?_)
  ·obtain⟨wd,hw,wv⟩:=KG rl hi
   refine⟨_,rfl,_,rfl,y,wd,d,kvs,S,rfl,wv.keep (tc.trans (fJ.of s2)),.inr ⟨o,s2 _ _ oc.2⟩,hk,z,?_,λb u q=>by rw[ag (au q hL)];exact s2 b u q,ah⟩;have hlt:i<ws.length:=(aiM.mp hw).1;rw[ai8 hlt,ai3,e,(aiM.mp hw).2];rfl
  ·rw[rl.1,ai2 (aiN _)]at e
   refine⟨_,rfl,by show 2≤sizeLine;decide,λv hv=>?_⟩;have s3:=aE.upd (o:=.tup [V.ref L,V.ref fa]) hv;have s4:=s2.trans s3;have bk:∀ {b:Addr},upd H2 v (.tup [V.ref L,V.ref fa]) b=none→H b=none:=λ{b} q=>by
    cases z:H b with
    | none=>rfl
    | some u =>
     by_cases c:b=d
     ·rw[c,s4 _ _ oc.2]at q;cases q
     ·rw[s4 _ _ (oc.1 b u c z)]at q;cases q
   refine⟨v,L,fa,ws.map (amg S),S,λt=>(fld s t).map (amg S),ad,rfl,ah,by rw[s3 _ _ z,e,aju];rfl,s4 _ _ hf,λt m=>s4 _ _ (Rt t m),λt m=>?_,λu _ t m=>?_,Uc,λst kv ms H5 s5 hst h5 k5 n5 m5=>?_⟩
   ·obtain⟨w,_,ew⟩:=aje.mp m
    exact(rP.mp ew).2
   ·obtain⟨w,_,ew⟩:=aje.mp m
    exact(rP.mp ew).2
   ·have fd5:=s5 _ _ (s4 _ _ oc.2)
    refine⟨d,o,kvs,fd5,(λo' u' q=>by have q:H d=some (.frz o' u'):=q;rw[hd]at q;cases q),?_⟩;have nst:st≠d:=λq=>by rw[q,fd5]at h5;cases h5
    refine k st kv ms _ (λb u q=>?_) (bk hst) (by rw[ag nst];exact h5) k5 n5 λt=>(m5 t).trans WB;by_cases c:b=d
    ·subst c
     rw[hd]at q;cases q;exact ah
    ·rw[ag c]
     exact s5 _ _ (s4 _ _ (oc.1 b u c q))
theorem lookup_mem{α:Type}{fs:List (Int×α)}{t:Int}{w:α}(m:(t,w)∈fs):∃ v,fs.lookup t=some v:=by
 cases e:fs.lookup t with
 | some v=>exact⟨v,rfl⟩
 | none=>exact absurd rfl (lookup_none e _ m)
theorem gK(gs:List Int):(gs.map V.int).all m9=true:=List.all_eq_true.mpr λv hv=>by obtain⟨n,_,rfl⟩:=aje.mp hv;rfl
theorem UL(n:Option Int):m9 (nmV n)=true:=by cases n<;>rfl
theorem OL{gs:List Int}(h:gs.Pairwise (·< ·)){i:Nat}{t:Int}(e:gs[i]?=some t):t∉gs.take i:=λm=>by
 have hlt:=(aiM.mp e).1;have et:=(aiM.mp e).2
 have:=ajg.mp (show(gs.take i++gs.drop i).Pairwise (·< ·) by rw[ajc];exact h)
 have:=this.2.2 t m t (by rw[ajJ hlt,et];exact ai1)
 omega
theorem take_snoc{α:Type}{gs:List α}{i:Nat}{t:α}(e:gs[i]?=some t):gs.take (i+1)=gs.take i++[t]:=by rw[ai8 (aiM.mp e).1,(aiM.mp e).2]
theorem S7(bs:List (Int×Int))(gs:List Int):(sdG bs gs).length≤gs.length:=List.length_filterMap_le _ _
noncomputable def Pj(D:Ad):Sp:=λvs H Q _=>∃ x A s g gs,vs=[.ref A.nt,.ref g]∧IH D H x A s∧s.names.length=8∧H g=some (.lst (gs.map V.int))∧∀ A' H',IH D H' x A' {s with names:=s.names.map (nmG gs)}→Fr (bR x A s) H (bR x A' {s with names:=s.names.map (nmG gs)}) H'→Q .non H'
noncomputable abbrev oy:List Str:=["self", "things"]
theorem vL:aw oy ["self", "things"] (ar ic):=fsc
theorem vM(F:Fun K "settle" "NameTable.settle" ic D.cp D.fW)(T:Txt K mg D):Ok P w K mg base 1 D.cp D.fW ["self", "things"] (Pj D):=by
 refine F.oa vL F.b2 λcdv A' outer s' H vs Q E hr h=>?_;obtain⟨x,A,s,g,gs,rfl,J,h8,hg,k⟩:=h;refine⟨_,(PSs.nox (ai (ir (pv 0) (Cn (cl:=[("things",s'.heap.objs.size+1)]) (x := "t") (idx:=[1]) (NC:=["t", "things"]) ?co1 rfl (iw (aH (pv 0) rfl)) (λC fp s₀ H₀=>(BR (aJ (r:=rIn K false) mK (pv 0) (pv 1) (by with_unfolding_all rfl)) kc (pv 0)))) rfl))),?_⟩
 case co1 =>
  exact jc (sc:=ar ic) (N:=oy) (ns:=["things"]) rfl rfl rfl (by decide +kernel) rfl rfl (by
   intro q hq;rw[aiJ.mp hq];rfl)
 refine⟨_,rfl,A.nt,D.aD,A.ntx,_,.ref A.nl,rfl,J.ant,T.dN,T.bO,rfl,A.nl,rfl,⟨_,SqL.of J.anl⟩,λL hL=>?_⟩;refine wV (K:=K) (a:=A.nl) (xs:=s.names.map nmV) (λi zs H2=>zs=((s.names.take i).map (nmG gs)).map nmV∧aE H H2∧H2 L=some (.lst zs)) ⟨rfl,aE.upd hL,ah⟩ (λi zs H2 hi ⟨e,_,z⟩=>⟨z,by rw[aiI]at hi;rw[e,aiI,aiI,aiV];omega⟩) (λi zs H2 hi ⟨_,s2,_⟩=>SqL.of (s2 _ _ J.anl)) (by rw[aiI,h8];decide) (λi y zs H2 hi ⟨e,s2,z⟩=>?_) (λzs H2 ⟨e,s2,z⟩=>?_)
 ·rw[aiW]at hi
  obtain⟨n,hn,rfl⟩:=aiZ.mp hi;have tk:=take_snoc hn;refine⟨_,rfl,_,rfl,g,_,rfl,.inl (SqL.of (s2 _ _ hg)),UL n,gK gs,_,rfl,?_⟩;have sm:∀ {o:HO},aE H (upd H2 L o):=λb u q=>by rw[ag (au q hL)];exact s2 b u q
  show if inV (nmV n) (gs.map V.int)=true then _ else _;rw[VM (f:=nmV) rfl (λ_=>rfl),tk,e];cases n with
  | none =>
   refine gS ⟨_,rfl,z.trans (by rw[e]),?_,sm,ah⟩;rw[ai3,ai3];rfl
  | some t =>
   show if decide (t∈gs)=true then _ else _;by_cases c:t∈gs
   ·rw[decide_eq_true c]
    refine sL ⟨z.trans (by rw[e]),?_,sm,ah⟩;rw[ai3,ai3];simp[nmG,c,nmV]
   ·rw[decide_eq_false c]
    refine gS ⟨_,rfl,z.trans (by rw[e]),?_,sm,ah⟩;rw[ai3,ai3];simp[nmG,c,nmV]
 ·rw[aiI,ai2 (aiN _)]at e
  rw[e]at z;refine⟨_,rfl,A.nt,D.aD,A.ntx,_,rfl,s2 _ _ J.ant,T.dN,T.bO,by show 1<1000;decide,?_⟩;have w:=J.ain (ns:=s.names.map (nmG gs)) hL;have sm:aE (upd (upd H L (.lst ((s.names.map (nmG gs)).map nmV))) A.nt (.ins D.aD A.ntx [("things_named",.ref L)])) (upd H2 A.nt (.ins D.aD A.ntx [("things_named",.ref L)])):=λb u q=>by
   by_cases c:b=A.nt
   ·rw[c,ah]at q ⊢;exact q
   ·rw[ag c]at q ⊢
    by_cases c2:b=L
    ·rw[c2,ah]at q;rw[c2,z];exact q
    ·rw[ag c2]at q;exact s2 b u q
  exact k _ _ (w.1.same sm) (w.2.trans (Fr.same sm))
noncomputable def wsF(s:HS)(gs:List Int):HS:={s with bQ:=brG s.bQ gs,uc:=s.uc++sdG s.bQ gs}
theorem Pk{s:HS}:wsF s []=s:=by cases s;simp[wsF,brG,sdG]
noncomputable def Pl(D:Ad):Sp:=λvs H Q _=>∃ x A s g gs,vs=[.ref A.wt,.ref g]∧IH D H x A s∧H g=some (.lst (gs.map V.int))∧gs.Pairwise (·< ·)∧gs.length≤10000∧s.uc.length≤10000∧∀ A' H',IH D H' x A' (wsF s gs)→Fr (bR x A s) H (bR x A' (wsF s gs)) H'→Q .non H'
noncomputable abbrev xW:List Str:=["self", "things", "t"]
theorem nG:aw xW ["self", "things"] (ar jR):=fsc
theorem vN(F:Fun K "settle" "WordTable.settle" jR D.cn D.fV)(T:Txt K mg D):Ok P w K mg base 1 D.cn D.fV ["self", "things"] (Pl D):=by
 refine F.oa nG F.b2 λcdv A' outer s' H vs Q E hr h=>?_;obtain⟨x,A,s,g,gs,rfl,J,hg,asc,hn,hsd,k⟩:=h;have hu:=kQ hr;refine⟨_,(PSs.nox (ai (nK ajo rfl (iw (eh Lj rfl T.lE PyProof.Rows.Boot.«sorted» (ae (pv 1) aq))) (gb (i:=2) nG.nd rfl (Or.inl rfl))
   (ai (cj (rM (SA hu (pv 2) (aH (pv 0) rfl)) (by with_unfolding_all rfl))
    (ai (aG (KQ PySem.F.plainAttrs_list PySem.F.slot_list_append PySem.F.type_list_append rp (aH (pv 0) rfl) (ae (Hj (aH (pv 0) rfl) (pv 2) ⟨rfl,rfl,rfl,rfl⟩) aq))))
    aU))))),?_⟩
 refine⟨_,rfl,g,gs,rfl,SqL.of hg,by omega,asc.imp λh=>ajL h,λp hp=>?_⟩;have s1:=aE.upd (o:=.lst (gs.map V.int)) hp;have J1:=J.same s1;have nfp:¬bR x A s p:=J.fresh hp;refine⟨p,rfl,⟨_,SqL.of ah⟩,BU (K:=K) (a:=p) (xs:=gs.map V.int) (λi σ H2=>∃ v2,σ=[some (.ref A.wt),some (.ref g),v2]∧IH D H2 x A (wsF s (gs.take i))∧Fr (bR x A s) (upd H p (.lst (gs.map V.int))) (bR x A (wsF s (gs.take i))) H2)
  ⟨none,rfl,(by rw[aj4,Pk];exact J1),(by rw[aj4,Pk];exact Fr.refl)⟩ (λi σ H2 _ ⟨_,_,_,fr⟩=>SqL.of (fr.out nfp ah).1) ?_ ?_⟩
 ·rintro i y σ H2 hi ⟨v2,rfl,J2,fr⟩
  rw[aiW]at hi;obtain⟨t,ht,rfl⟩:=aiZ.mp hi;have ni:=OL asc ht;have tk:=take_snoc ht;have hi':=(aiM.mp ht).1;have lk:(brG s.bQ (gs.take i)).lookup t=s.bQ.lookup t:=NR ni;have vb:mj ((wsF s (gs.take i)).bQ.map bkv) (Sum.inl t)=(s.bQ.lookup t).map V.int:=by rw[VJ];show((brG s.bQ (gs.take i)).lookup t).map V.int=_;rw[lk]
  refine⟨_,rfl,_,rfl,A.wt,D.aF,A.wtx,_,.ref A.wb,rfl,J2.awt,T.bZ,T.ba,rfl,A.wb,_,rfl,qQ.k (k:=Sum.inl t) J2.awb,_,rfl,?_⟩;rw[vb,aj0];cases e:s.bQ.lookup t with
  | none =>
   have es:wsF s (gs.take (i+1))=wsF s (gs.take i):=by
    unfold wsF;rw[tk,MK,ML,e,filter_none (by rw[lk];exact e)];simp
   rw[es];exact gS ⟨_,rfl,J2,fr⟩
  | some v =>
   have es:wsF s (gs.take (i+1))={wsF s (gs.take i) with bQ:=(brG s.bQ (gs.take i)).filter λp=>decide (p.1≠t),uc:=(s.uc++sdG s.bQ (gs.take i))++[v]}:=by
    unfold wsF;rw[tk,MK,ML,e];simp
   rw[es];rw[e]at vb;refine sL ⟨_,rfl,A.wt,D.aF,A.wtx,_,.ref A.wl,rfl,J2.awt,T.bZ,T.kq,rfl,.inl ⟨rfl,_,SqL.of J2.awl⟩,?_⟩;refine⟨_,rfl,A.wt,D.aF,A.wtx,_,.ref A.wb,rfl,J2.awt,T.bZ,T.ba,rfl,A.wb,rfl,.inl ⟨_,.inl J2.awb⟩,_,rfl,_,Sum.inl t,.int v,J2.awb,rfl,vb,?_⟩;rw[show ue ((wsF s (gs.take i)).bQ.map bkv) (Sum.inl t)=((brG s.bQ (gs.take i)).filter λp=>decide (p.1≠t)).map bkv from UI];have w1:=J2.aeV (bs:=(brG s.bQ (gs.take i)).filter λp=>decide (p.1≠t));have w2:=w1.1.aif (zs:=(s.uc++sdG s.bQ (gs.take i))++[v]);refine⟨A.wl,_,.int v,rfl,rfl,w1.1.awl,uo ?_,?_⟩
   ·have:=S7 s.bQ (gs.take i)
    rw[aiV]at this;show((s.uc++sdG s.bQ (gs.take i)).map V.int).length≤20000;rw[aiI,aiR];omega
   ·rw[ai3]at w2
    exact⟨_,rfl,w2.1,(fr.trans w1.2).trans w2.2⟩
 ·rintro σ H2 ⟨v2,rfl,J2,fr⟩
  rw[aiI,ai2 (aiN _)]at J2 fr;exact k _ _ J2 ((Fr.same s1).trans fr)
noncomputable def Hr(D:Ad):Sp:=λvs H Q _=>∃ x A s g gs,vs=[.ref x,.ref g]∧IH D H x A s∧s.names.length=8∧¬bR x A s g∧H g=some (.lst (gs.map V.int))∧gs.Pairwise (·< ·)∧gs.length≤10000∧s.uc.length≤10000∧(∀ t∈gs,∃ ws,(t,ws)∈s.aN)∧∀ A' H',IH D H' x A' (letGo s gs)→Fr (bR x A s) H (bR x A' (letGo s gs)) H'→Q .non H'
noncomputable abbrev HY:List Str:=["self", "gone", "t"]
theorem uY:aw HY ["self", "gone"] (ar qB):=fsc
theorem FT(F:Fun K "let_go" "Heap.let_go" qB D.cW D.iR)(T:Txt K mg D)
  (jZ:Ok P w K mg base 1 D.cp D.fW ["self", "things"] (Pj D))
  (j1:Ok P w K mg base 1 D.cn D.fV ["self", "things"] (Pl D)):Ok P w K mg base 2 D.cW D.iR ["self", "gone"] (Hr D):=by
 refine F.oa uY F.b2 λcdv A' outer s' H vs Q E hr h=>?_;obtain⟨x,A,s,g,gs,rfl,J,h8,nfg,hg,asc,hn,hsd,hin,k⟩:=h;refine⟨_,(PSs.nox (ak (nK ajo rfl (iw (pv 1)) (gb (i:=2) uY.nd rfl (Or.inl rfl))
   (ai (aG (Hj (aH (pv 0) rfl) (pv 2) ⟨rfl,rfl,rfl,rfl⟩))))
  (ak (aG (jZ.m hr (aH (pv 0) rfl) T.dN T.vC dS (ae (pv 1) aq)))
  (ai (aG (j1.m hr (aH (pv 0) rfl) T.bZ T.vB dS (ae (pv 1) aq))))))),?_⟩
 refine⟨_,rfl,g,rfl,⟨_,SqL.of hg⟩,BU (K:=K) (a:=g) (xs:=gs.map V.int) (λi σ H2=>∃ v2,σ=[some (.ref x),some (.ref g),v2]∧IH D H2 x A {s with aN:=drG s.aN (gs.take i)}∧Fr (bR x A s) H (bR x A {s with aN:=drG s.aN (gs.take i)}) H2)
  ⟨none,rfl,(by rw[aj4,Ph];exact J),(by rw[aj4,Ph];exact Fr.refl)⟩ (λi σ H2 _ ⟨_,_,_,fr⟩=>SqL.of (fr.out nfg hg).1) ?_ ?_⟩
 ·rintro i y σ H2 hi ⟨v2,rfl,J2,fr⟩
  rw[aiW]at hi;obtain⟨t,ht,rfl⟩:=aiZ.mp hi;have ni:=OL asc ht;have tk:=take_snoc ht;obtain⟨ws,m⟩:=hin t (aiU ht);obtain⟨v,hv⟩:=lookup_mem (hW.mpr ⟨m,ni⟩);have vf:mj ((drG s.aN (gs.take i)).map (fkv A)) (Sum.inl t)=some (.ref (A.fa t)):=by rw[SV,hv];rfl
  refine⟨_,rfl,x,D.aa,_,_,.ref A.fh,rfl,J2.ax,T.ab,T.aA,rm,A.fh,rfl,.inl ⟨_,.inl J2.afh⟩,_,rfl,_,Sum.inl t,_,J2.afh,rfl,vf,?_⟩;have w:=J2.ZA (t:=t);rw[UH];rw[tk,R4];exact⟨_,rfl,w.1,fr.trans w.2⟩
 ·rintro σ H2 ⟨v2,rfl,J2,fr⟩
  rw[aiI,ai2 (aiN _)]at J2 fr;obtain⟨hg2,nf2⟩:=fr.out nfg hg;refine⟨_,rfl,x,D.aa,_,_,.ref A.nt,rfl,J2.ax,T.ab,T.dF,Rh,A.nt,A.ntx,_,rfl,J2.ant,rfl,_,rfl,x,A,_,g,gs,rfl,J2,h8,hg2,λA3 H3 J3 fr3=>?_⟩;obtain⟨hg3,nf3⟩:=fr3.out nf2 hg2;refine⟨_,rfl,x,D.aa,_,_,.ref A3.wt,rfl,J3.ax,T.ab,T.ft,TC,A3.wt,A3.wtx,_,rfl,J3.awt,rfl,_,rfl,x,A3,_,g,gs,rfl,J3,hg3,asc,hn,hsd,λA4 H4 J4 fr4=>?_⟩;exact k A4 H4 J4 ((fr.trans fr3).trans fr4)
noncomputable def MO(fs:List (Int×List Wd))(yn:List Int):List Wd:=fs.flatMap λq=>if q.1∈yn then[] else q.2
noncomputable def ID(s:HS):List Wd:=s.aT++MO s.aN s.yng
theorem Jh{fs:List (Int×List Wd)}{q:Int×List Wd}{yn:List Int}:MO (fs++[q]) yn=MO fs yn++(if q.1∈yn then[] else q.2):=by unfold MO;rw[List.flatMap_append];simp
theorem Pm{fs:List (Int×List Wd)}{yn:List Int}(h:∀ t ws,(t,ws)∈fs→ws.length≤6):(MO fs yn).length≤6*fs.length:=by
 induction fs with
 | nil=>exact aiN _
 | cons q r ih =>
  have i:=ih λt ws m=>h t ws (ai4 _ m)
  have:=h q.1 q.2 ai1
  show((if q.1∈yn then[] else q.2)++MO r yn).length≤6*(r.length+1);rw[aiR];by_cases c:q.1∈yn
  ·rw[if_pos c];simp;omega
  ·rw[if_neg c];omega
theorem R5{fs:List (Int×List Wd)}{yn:List Int}{w:Wd}:w∈MO fs yn↔∃ t ws,(t,ws)∈fs∧t∉yn∧w∈ws:=by
 unfold MO;rw[List.mem_flatMap];constructor
 ·rintro⟨q,mq,h⟩
  by_cases c:q.1∈yn
  ·rw[if_pos c]at h;cases h
  ·rw[if_neg c]at h;exact⟨q.1,q.2,mq,c,h⟩
 ·rintro⟨t,ws,m,c,h⟩
  exact⟨(t,ws),m,by rw[if_neg c];exact h⟩
open Classical in
noncomputable def i8(s:HS):List Int:=s.yng.filter λt=>decide (¬Led (ID s) (fld s) s.yng t)
noncomputable def kg(s:HS):HS:=letGo {s with yng:=[]} (i8 s)
open Classical in
noncomputable def IE(s:HS):List Int:=(keys s).filter λt=>decide (¬Led s.aT (fld s) (keys s) t)
noncomputable def Po(s:HS):HS:={s with rnd:=true,bF:=IE s}
noncomputable def xo(s:HS):Re:=if s.rnd=true then(some .on,s) else(none,Po (kg s))
noncomputable def Pp(s:HS):HS:=letGo {s with rnd:=false,bF:=[]} s.bF
noncomputable def Pq(s:HS):Re:=if s.rnd=true then(none,Pp s) else(some .no,s)
open Classical in
noncomputable def rQ(s:HS)(t:Int):HS:={s with bF:=s.bF.filter λu=>decide (¬Led [.th t] (fld s) s.bF u)}
noncomputable def rdR(s:HS)(n:Option Int):HS:=match n with|some t=>if t∈s.bF then rQ s t else s|none=>s
noncomputable def ju(s:HS)(h w:Int):Re:=if ok8 h then(if ok8 w then(none,rdR (rB s h (nmW (s.names.getD w.toNat none))) (s.names.getD w.toNat none)) else(some .name,s)) else(some .hand,s)
noncomputable def mkR(s:HS)(n:Int):HS:=if s.my=true∧wsum s s.yng+(n+1)>s.room then kg s else s
noncomputable def jM(s:HS)(h n:Int):Re:=if ok8 h then(if 0≤n∧n≤6 then(if held (mkR s n)+(n+1)>s.limit then(some .room,mkR s n) else(none,I0 (mkR s n) h n)) else(some .count,s)) else(some .hand,s)
theorem pj{l ms:List Int}{p:Int→Bool}(h:∀ t∈l,(p t=true↔t∉ms)):l.filter p=l.filter λt=>decide (t∉ms):=ajP λt m=>by
 have:=h t m
 by_cases c:t∈ms
 ·simp only[c,not_true,decide_false]
  cases e:p t with
  | false=>rfl
  | true=>exact absurd (this.mp e) (by simp[c])
 ·simp only[c,not_false_eq_true,decide_true]
  exact this.mpr c
open Classical in
theorem QP{s:HS}{ms:List Int}(h:∀ t,t∈ms↔Led (ID s) (fld s) s.yng t):(s.yng.filter λt=>decide (t∉ms))=i8 s:=by
 unfold i8;refine(pj λt _=>?_).symm;rw[decide_eq_true_iff,h]
open Classical in
theorem R6{s:HS}{ms:List Int}(h:∀ t,t∈ms↔Led s.aT (fld s) (keys s) t):((keys s).filter λt=>decide (t∉ms))=IE s:=by
 unfold IE;refine(pj λt _=>?_).symm;rw[decide_eq_true_iff,h]
open Classical in
theorem R7{s:HS}{t:Int}{ms:List Int}(h:∀ u,u∈ms↔Led [.th t] (fld s) s.bF u):{s with bF:=s.bF.filter λu=>decide (u∉ms)}=rQ s t:=by
 unfold rQ;congr 1
 refine(pj λu _=>?_).symm;rw[decide_eq_true_iff,h]
theorem UM{H:Hp}{xs ys:List V}{ws zs:List Wd}(a:Rel H xs ws)(b:Rel H ys zs):Rel H (xs++ys) (ws++zs):=by
 refine⟨by rw[aiR,aiR,a.1,b.1],λi v w h1 h2=>?_⟩;by_cases c:i<xs.length
 ·rw[ajU c]at h1
  rw[ajU (by rw[←a.1];exact c)]at h2;exact a.2 i v w h1 h2
 ·rw[ajx (by omega)]at h1
  rw[ajx (by rw[←a.1];omega),←a.1]at h2;exact b.2 _ v w h1 h2
structure Gd(s:HS):Prop where
 g:Good s
 dy:∀ t∈s.bF,t∉s.yng
 dh:∀ t,Wd.th t∈s.aT→t∉s.bF
 df:∀ u ws t,(u,ws)∈s.aN→u∉s.bF→Wd.th t∈ws→t∉s.bF
 rd:s.rnd=false→s.bF=[]
theorem mem_keys{s:HS}{t:Int}:t∈keys s↔∃ ws,(t,ws)∈s.aN:=by
 unfold keys;rw[aje];exact⟨λ⟨p,m,e⟩=>⟨p.2,by rw[←e];exact m⟩,λ⟨ws,m⟩=>⟨_,m,rfl⟩⟩
theorem UN{fs:List (Int×List Wd)}{gs:List Int}(nd:gs.Nodup)(h:∀ t∈gs,∃ ws,(t,ws)∈fs):(drG fs gs).length+gs.length≤fs.length:=by
 have e:fs.length=(fs.filter λp=>decide (p.1∉gs)).length+(fs.filter λp=>!decide (p.1∉gs)).length:=by
  clear h;induction fs with
  | nil=>rfl
  | cons p r ih =>
   rw[List.filter_cons,List.filter_cons];by_cases c:p.1∈gs
   ·simp[c]at ih ⊢;omega
   ·simp[c]at ih ⊢;omega
 have le:gs.length≤((fs.filter λp=>!decide (p.1∉gs)).map (·.1)).length:=j8 nd λt m=>by
  obtain⟨ws,mw⟩:=h t m;exact aje.mpr ⟨(t,ws),ajs.mpr ⟨mw,by simp[m]⟩,rfl⟩
 rw[aiI]at le;unfold drG;omega
theorem Good.letGo{s:HS}(g:Good s){gs:List Int}(asc:gs.Pairwise (·< ·))(hin:∀ t∈gs,∃ ws,(t,ws)∈s.aN)(hh:∀ t,Wd.th t∈s.aT→t∉gs)(hf:∀ u ws t,(u,ws)∈s.aN→u∉gs→Wd.th t∈ws→t∉gs)(hy:∀ t∈s.yng,t∉gs)(hd:∀ t∈s.bF,t∉gs):Good (letGo s gs) where
 h8:=g.h8
 n8:=by show(s.names.map (nmG gs)).length=8;rw[aiI];exact g.n8
 asc:=ajS (akH _ ajI) g.asc
 lt:=λt ws m=>g.lt t ws (hW.mp m).1
 f6:=λt ws m=>g.f6 t ws (hW.mp m).1
 hh:=λt m=>by obtain⟨ws,q⟩:=g.hh t m;exact⟨ws,hW.mpr ⟨q,hh t m⟩⟩
 ff:=λu ws t m h=>by obtain⟨w',q⟩:=g.ff u ws t (hW.mp m).1 h;exact⟨w',hW.mpr ⟨q,hf u ws t (hW.mp m).1 (hW.mp m).2 h⟩⟩
 nn:=λt m=>by
  obtain⟨n,mn,e⟩:=aje.mp (show some t∈s.names.map (nmG gs) from m);cases n with
  | none=>cases e
  | some u =>
   have e:(if u∈gs then none else some u)=some t:=e;by_cases c:u∈gs
   ·rw[if_pos c]at e;cases e
   ·rw[if_neg c]at e
    cases e;obtain⟨ws,q⟩:=g.nn t mn;exact⟨ws,hW.mpr ⟨q,c⟩⟩
 b12:=ai5 (ajA _ _) g.b12
 bk:=λt z m=>by
  have m:=ajs.mp (show(t,z)∈brG s.bQ gs from m);obtain⟨ws,q⟩:=g.bk t z m.1;exact⟨ws,hW.mpr ⟨q,by simpa using m.2⟩⟩
 bnd:=ajS (akH _ ajI) g.bnd
 n0:=g.n0
 nx:=g.nx
 sd:=by
  have h1:=g.sd;have h2:=UN (d8 asc) hin;have h3:=S7 s.bQ gs;show((s.uc++sdG s.bQ gs).length:Int)+(drG s.aN gs).length≤s.nxt;rw[aiR];omega
 yk:=λt m=>by obtain⟨ws,q⟩:=g.yk t m;exact⟨ws,hW.mpr ⟨q,hy t m⟩⟩
 Fx:=g.Fx
 dk:=λt m=>by obtain⟨ws,q⟩:=g.dk t m;exact⟨ws,hW.mpr ⟨q,hd t m⟩⟩
 Fy:=g.Fy
theorem Good.noY{s:HS}(g:Good s):Good {s with yng:=[]}:=⟨g.h8,g.n8,g.asc,g.lt,g.f6,g.hh,g.ff,g.nn,g.b12,g.bk,g.bnd,g.n0,g.nx,g.sd,(λt m=>nomatch m),List.Pairwise.nil,g.dk,g.Fy⟩
theorem Good.noD{s:HS}(g:Good s){b:Bool}:Good {s with rnd:=b,bF:=[]}:=⟨g.h8,g.n8,g.asc,g.lt,g.f6,g.hh,g.ff,g.nn,g.b12,g.bk,g.bnd,g.n0,g.nx,g.sd,g.yk,g.Fx,(λt m=>nomatch m),List.Pairwise.nil⟩
theorem Good.air{s:HS}(g:Good s){b:Bool}{ds:List Int}(h:∀ t∈ds,∃ ws,(t,ws)∈s.aN)(a:ds.Pairwise (·< ·)):Good {s with rnd:=b,bF:=ds}:=⟨g.h8,g.n8,g.asc,g.lt,g.f6,g.hh,g.ff,g.nn,g.b12,g.bk,g.bnd,g.n0,g.nx,g.sd,g.yk,g.Fx,h,a⟩
theorem gf{s:HS}{t:Int}:t∈i8 s↔t∈s.yng∧¬Led (ID s) (fld s) s.yng t:=by unfold i8;rw[ajs];simp
theorem GS{s:HS}(g:Good s):(i8 s).Pairwise (·< ·):=ajS ajI g.Fx
theorem Ji{s:HS}(g:Good s):∀ t∈i8 s,∃ ws,(t,ws)∈s.aN:=λt m=>g.yk t (gf.mp m).1
theorem UO{s:HS}{t:Int}(h:Wd.th t∈s.aT):t∉i8 s:=λm=>(gf.mp m).2 (.root (ajb _ h) (gf.mp m).1)
theorem WD{s:HS}(g:Good s){u t:Int}{ws:List Wd}(m:(u,ws)∈s.aN)(hu:u∉i8 s)(h:Wd.th t∈ws):t∉i8 s:=λmt=>by
 by_cases c:u∈s.yng
 ·have lu:Led (ID s) (fld s) s.yng u:=ajW λz=>hu (gf.mpr ⟨c,z⟩)
  exact(gf.mp mt).2 (.step lu (by rw[g.fld m];exact h) (gf.mp mt).1)
 ·exact(gf.mp mt).2 (.root (aiP _ (R5.mpr ⟨u,ws,m,c,h⟩)) (gf.mp mt).1)
theorem Gd.small{s:HS}(d:Gd s):Gd (kg s) where
 g:=d.g.noY.letGo (GS d.g) (Ji d.g) (λt h=>UO h) (λu ws t m hu h=>WD d.g m hu h) (λt m=>nomatch m) (λt m z=>d.dy t m (gf.mp z).1)
 dy:=λt _ m=>nomatch m
 dh:=d.dh
 df:=λu ws t m hu h=>d.df u ws t (hW.mp m).1 hu h
 rd:=d.rd
theorem pG{s:HS}{t:Int}:t∈IE s↔t∈keys s∧¬Led s.aT (fld s) (keys s) t:=by unfold IE;rw[ajs];simp
theorem Gd.beg{s:HS}(d:Gd s)(hy:s.yng=[]):Gd (Po s) where
 g:=d.g.air (λt m=>mem_keys.mp (pG.mp m).1) (ajS ajI d.g.asc)
 dy:=λt _ m=>by rw[show(Po s).yng=[] from hy]at m;cases m
 dh:=λt h m=>(pG.mp m).2 (.root h (pG.mp m).1)
 df:=λu ws t m hu h mt=>by
  have lu:Led s.aT (fld s) (keys s) u:=ajW λz=>hu (pG.mpr ⟨mem_keys.mpr ⟨ws,m⟩,z⟩);exact(pG.mp mt).2 (.step lu (by rw[d.g.fld m];exact h) (pG.mp mt).1)
 rd:=λh=>by cases h
theorem Gd.fin{s:HS}(d:Gd s):Gd (Pp s) where
 g:=d.g.noD.letGo d.g.Fy d.g.dk (λt h=>d.dh t h) (λu ws t m hu h=>d.df u ws t m hu h) (λt m z=>d.dy t z m) (λt m=>nomatch m)
 dy:=λt m=>nomatch m
 dh:=λt _ m=>nomatch m
 df:=λu ws t _ _ _ m=>nomatch m
 rd:=λ_=>rfl
theorem pH{s:HS}{t u:Int}:u∈(rQ s t).bF↔u∈s.bF∧¬Led [.th t] (fld s) s.bF u:=by unfold rQ;rw[ajs];simp
structure GdN(s:HS):Prop where
 g:Good s
 dy:∀ t∈s.bF,t∉s.yng
 df:∀ u ws t,(u,ws)∈s.aN→u∉s.bF→Wd.th t∈ws→t∉s.bF
 rd:s.rnd=false→s.bF=[]
theorem Good.ZC{s:HS}(g:Good s){ds:List Int}(h:ds.Sublist s.bF):Good {s with bF:=ds}:=⟨g.h8,g.n8,g.asc,g.lt,g.f6,g.hh,g.ff,g.nn,g.b12,g.bk,g.bnd,g.n0,g.nx,g.sd,g.yk,g.Fx,(λt m=>g.dk t (h.subset m)),g.Fy.sublist h⟩
theorem Gd.ZD{s:HS}(d:GdN s){t:Int}(ht:t∈s.bF)(hh:∀ u,Wd.th u∈s.aT→u=t∨u∉s.bF):Gd (rQ s t) where
 g:=d.g.ZC ajI
 dy:=λu m=>d.dy u (pH.mp m).1
 dh:=λu h m=>by
  rcases hh u h with e|e
  ·exact(pH.mp m).2 (by rw[e];exact .root ai1 ht)
  ·exact e (pH.mp m).1
 df:=λu ws v m hu h mv=>by
  obtain⟨v1,v2⟩:=pH.mp mv;by_cases c:u∈s.bF
  ·have lu:Led [.th t] (fld s) s.bF u:=ajW λz=>hu (pH.mpr ⟨c,z⟩)
   exact v2 (.step lu (by rw[d.g.fld m];exact h) v1)
  ·exact d.df u ws v m c h v1
 rd:=λh=>by
  have:=d.rd h
  show s.bF.filter _=[];rw[this];rfl
theorem Pr{s:HS}{n:Int}:(mkR s n).limit=s.limit:=by unfold mkR;split<;>rfl
theorem xq{s:HS}{n:Int}:(mkR s n).nxt=s.nxt:=by unfold mkR;split<;>rfl
theorem Gd.mkd{s:HS}(d:Gd s){n:Int}:Gd (mkR s n):=by
 unfold mkR;split
 ·exact d.small
 ·exact d
noncomputable def Jj(D:Ad):Sp:=λvs H Q _=>∃ x A s,vs=[.ref x]∧IH D H x A s∧Good s∧∀ v A' H',IH D H' x A' (kg s)→Fr (bR x A s) H (bR x A' (kg s)) H'→Q v H'
noncomputable abbrev oz:List Str:=["self", "leads", "t", "kept", "gone"]
theorem fe:aw oz ["self"] (ar ie):=fsc
theorem vO(F:Fun K "small_round" "Heap.small_round" ie D.bw D.fX)(T:Txt K mg D)
  (b9:Ok P w K mg base 1 D.bG D.dG ["self"] (nZ D))
  (cI:Ok P w K mg base 3 D.bq D.eC ["self", "leads", "things"] (KZ D))
  (iT:Ok P w K mg base 2 D.cW D.iR ["self", "gone"] (Hr D)):Ok P w K mg base 4 D.bw D.fX ["self"] (Jj D):=by
 refine F.oa fe F.b1 λcdv A' outer s' H vs Q E hr h=>?_;obtain⟨x,A,s,rfl,J,G,k⟩:=h;have hu:=kQ hr;refine⟨_,(PSs.nox (ak (bp (i:=1) fe.nd rfl (Or.inl rfl) (b9.m0 hr (aH (pv 0) rfl) T.aS T.jX dS))
  (ak (nK ajo rfl (xb (Fs (aH (pv 0) rfl))) (gb (i:=2) fe.nd rfl (Or.inl rfl))
   (ai (cj (rM (ko hu (pv 2) (aH (pv 0) rfl)) (by with_unfolding_all rfl))
    (ai (aG (KQ PySem.F.plainAttrs_list PySem.F.slot_list_extend PySem.F.type_list_extend IL (pv 1) (ae (qR hu (aH (pv 0) rfl) (pv 2) (λ_ _=>rfl)) aq))))
    aU)))
  (ak (SR (bp (i:=3) fe.nd rfl (Or.inr rfl) (cI.m hr (pv 0) T.ab T.ia dS (ae (pv 1) (ae (aH (pv 0) rfl) aq)))))
  (ak (Mu (cl:=[("kept",s'.heap.objs.size+1)]) (x := "t") (idx:=[3]) (NC:=["t", "kept"]) (i:=4) fe.nd rfl rfl ?co1 rfl (xb (Fs (aH (pv 0) rfl))) (λC fp s₀ H₀=>(rM (ko hu (pv 0) (pv 1)) (by with_unfolding_all rfl))) (λC fp s₀ H₀=>(pv 0)))
  (ak (SR (ir (pv 0) nB rfl))
  (ak (aG (iT.m hr (pv 0) T.ab T.nF dS (ae (pv 4) aq)))
  (ai (aM (pv 4)))))))))),?_⟩
 case co1 =>
  exact jc (sc:=ar ie) (N:=oz) (ns:=["kept"]) rfl rfl rfl (by decide +kernel) rfl rfl (by
   intro q hq;rw[aiJ.mp hq];rfl)
 refine⟨_,rfl,x,D.aa,_,_,.ref A.hd,rfl,J.ax,T.ab,T.az,nY,A.hd,A.hdx,_,rfl,J.ahd,rfl,A.hd,A.hdx,A.hl,A.hx,s.aT,rfl,J.hn G,λp H1 s1 hp z1=>?_⟩;have J1:=J.same s1;have nfp:¬bR x A s p:=J.fresh hp;refine⟨_,rfl,x,D.aa,_,_,.ref A.fh,rfl,J1.ax,T.ab,T.aA,rm,A.fh,_,J1.afh,λo=>?_⟩;have yf:A.yg≠A.fh:=ai7 J.d4;have pf:p≠A.fh:=λe=>nfp (by rw[e];exact .fh);have py:p≠A.yg:=λe=>nfp (by rw[e];exact .yg);have lk:(s.aN.map (fkv A)).length=s.aN.length:=aiI _;refine⟨A.fh,o,_,rfl,ah,BY (d:=A.fh) (o:=o) (kvs:=s.aN.map (fkv A)) (λi σ Hc=>∃ v2,σ=[some (.ref x),some (.ref p),v2,none,none]∧((∀ b u,b≠A.fh→b≠p→H1 b=some u→Hc b=some u)∧Hc A.fh=some (.frz o (.dK (s.aN.map (fkv A)))))∧∃ ys,Hc p=some (.lst ys)∧Rel Hc ys (s.aT++MO (s.aN.take i) s.yng))
  ⟨none,rfl,⟨λb u n _ q=>by rw[ag n];exact q,ah⟩,A.hx,by rw[ag pf];exact z1,by rw[aj4,show MO [] s.yng=[] from rfl,akj];exact J1.rhl.keep (fJ.set J1.afh (λ_ z=>nomatch z))⟩ (λi σ Hc _ ⟨_,_,oc,_⟩=>oc.2) ?_ ?_⟩
 ·rintro i q σ Hc hi ⟨v2,rfl,oc,ys,hy,ry⟩
  rw[aiW]at hi;obtain⟨⟨t,ws⟩,ht,rfl⟩:=aiZ.mp hi;have m:=aiU ht;have tk:=take_snoc ht;obtain⟨hl,rl⟩:=J1.afl _ _ m;have nlf:A.fa t≠A.fh:=ay hl J1.afh (by intro z;cases z);have nlp:A.fa t≠p:=λe=>nfp (by rw[←e];exact .fl m);have hlc:=oc.1 _ _ nlf nlp hl;have tc:fJ H1 Hc:=λb us q=>oc.1 b _ (ay q J1.afh (by intro z;cases z)) (ay q z1 (by intro z;cases z)) q;have xf:x≠A.fh:=ay J1.ax J1.afh (by intro z;cases z);have xp:x≠p:=λe=>nfp (by rw[←e];exact .x);have axc:=oc.1 _ _ xf xp J1.ax;have ygc:=oc.1 _ _ yf (ai7 py) J1.ayg;refine⟨_,rfl,_,rfl,x,D.aa,_,_,.ref A.yg,rfl,axc,T.ab,T.aV,KW,A.yg,_,rfl,qQ.k (k:=Sum.inl t) ygc,_,rfl,?_⟩;rw[(Ca s.yng).isS];by_cases c:t∈s.yng
  ·rw[decide_eq_true c]
   refine gS ⟨_,rfl,oc,ys,hy,?_⟩;rw[tk,Jh,if_pos c,akj];exact ry
  ·rw[decide_eq_false c]
   have fl:=Pm (fs:=s.aN.take i) (yn:=s.yng) λt ws m=>G.f6 t ws (ajX m);have f6:=G.f6 _ _ m;have fw:=G.few;have ly:ys.length≤60100:=(by rw[ry.1,aiR,G.h8];rw[aiV]at fl;omega);refine sL ⟨_,rfl,.inl ⟨rfl,_,SqL.of hy⟩,_,rfl,x,D.aa,_,_,.ref A.fh,rfl,axc,T.ab,T.aA,rm,_,rfl,A.fh,.ref (A.fa t),rfl,.inl ⟨_,Sum.inl t,.inr ⟨o,oc.2⟩,rfl,by rw[SV,G.get m];rfl⟩,p,A.fa t,ys,A.fx t,rfl,rfl,hy,hlc,?_,?_⟩
   ·have:=rl.1
    exact ai5 (show ys.length+(A.fx t).length≤70000 by omega) (by decide)
   ·refine⟨_,rfl,⟨λb u n1 n2 q=>by rw[ag n2];exact oc.1 b u n1 n2 q,by rw[ag (ai7 pf)];exact oc.2⟩,_,ah,?_⟩
    rw[tk,Jh,if_neg c,←ajd];exact((UM ry (rl.keep tc)).keep (fJ.set hy (λ_ z=>nomatch z)))
 ·rintro σ Hc ⟨v2,rfl,oc,ys,hy,ry⟩
  rw[lk,ai2 (aiN _)]at ry;refine⟨A.fh,o,_,oc.2,(λo' u' q=>by have q:H A.fh=some (.frz o' u'):=q;rw[J.afh]at q;cases q),?_⟩;have kp:∀ b u,b≠p→H1 b=some u→upd Hc A.fh (.dK (s.aN.map (fkv A))) b=some u:=λb u n q=>by
   by_cases c:b=A.fh
   ·subst c
    rw[J1.afh]at q;cases q;exact ah
   ·rw[ag c];exact oc.1 b u c n q
  have hy2:upd Hc A.fh (.dK (s.aN.map (fkv A))) p=some (.lst ys):=by rw[ag pf];exact hy
  have ry2:Rel (upd Hc A.fh (.dK (s.aN.map (fkv A)))) ys (ID s):=ry.keep (λb us q=>by rw[ag λe=>by rw[e,oc.2]at q;cases q];exact q);obtain⟨H2,e2⟩:∃ H2,upd Hc A.fh (.dK (s.aN.map (fkv A)))=H2:=⟨_,rfl⟩;rw[e2]at kp hy2 ry2 ⊢;clear e2 ry hy oc;have t2:fJ H1 H2:=λb us q=>kp b _ (ay q z1 (by intro z;cases z)) q;have J2:IH D H2 x A s:=J1.keep (λb u f q=>kp b u (λe=>nfp (by rw[←e];exact f)) q) t2;have fr2:Fr (bR x A s) H (bR x A s) H2:=⟨λb u n q=>kp b u (au q hp) (s1 _ _ q),λ_ f=>.inl f,λb u q=>⟨u,kp b u (au q hp) (s1 _ _ q)⟩,(fJ.of s1).trans t2⟩;have fl:=Pm (fs:=s.aN) (yn:=s.yng) G.f6;have fw:=G.few;refine⟨_,rfl,x,_,_,rfl,J2.ax,(by kernel_rfl),_,rfl,_,rfl,x,D.aa,_,_,.ref A.yg,rfl,J2.ax,T.ab,T.aV,KW,x,A,s,p,ys,ID s,A.yg,_,s.yng,rfl,J2,G,hy2,ry2,by unfold ID;rw[aiR,G.h8];omega,J2.ayg,Ca _,G.yk,d8 G.Fx,HV G,λst kv ms H3 s3 hst h3 k3 n3 m3=>?_⟩;have J3:=J2.same s3;refine⟨_,rfl,x,D.aa,_,_,.ref A.yg,rfl,J3.ax,T.ab,T.aV,KW,A.yg,_,J3.ayg,λo2=>?_⟩;refine⟨A.yg,o2,_,rfl,ah,λL hL=>?_⟩;have nsy:st≠A.yg:=λe=>by rw[e,J2.ayg]at hst;cases hst
  have st3:upd H3 A.yg (.frz o2 (.dK (s.yng.map tkv))) st=some (.dK kv):=by rw[ag nsy];exact h3
  refine Np (d:=A.yg) (o:=o2) (kvs:=s.yng.map tkv) (λi zs Hc=>zs=((s.yng.take i).filter λt=>decide (t∉ms)).map V.int∧aE (upd H3 A.yg (.frz o2 (.dK (s.yng.map tkv)))) Hc∧Hc L=some (.lst zs)) ⟨rfl,aE.upd hL,ah⟩ (λi zs Hc hi ⟨e,_,z⟩=>⟨z,by rw[e,aiI];exact ai5 (ajA _ _) (by rw[aiV];omega)⟩) (λi zs Hc _ ⟨_,sc,_⟩=>sc _ _ ah) (by rw[aiI];exact kf (ai5 (HV G) (by decide))) (λi q zs Hc hi ⟨e,sc,z⟩=>?_) (λzs Hc ⟨e,sc,z⟩=>?_)
  ·obtain⟨t,ht,ekv,ep⟩:=(Ca s.yng).at_ hi
   have tk:=take_snoc ht;rw[ekv];refine⟨_,rfl,_,rfl,st,_,rfl,qQ.k (k:=Sum.inl t) (sc _ _ st3),_,rfl,?_⟩;rw[k3.isS];by_cases c:t∈ms
   ·rw[decide_eq_true c]
    refine gS ⟨?_,sc,z⟩;rw[tk,ajT,e];simp[c]
   ·rw[decide_eq_false c]
    refine sL ⟨_,rfl,z,?_,λb u q=>by rw[ag (au q hL)];exact sc b u q,ah⟩;rw[tk,ajT,e];simp[c]
  ·rw[aiI,ai2 (aiN _)]at e
   have eg:(s.yng.filter λt=>decide (t∉ms))=i8 s:=QP m3;rw[eg]at e;subst e;refine⟨A.yg,o2,_,sc _ _ ah,(λo' u' q=>by have q:H A.yg=some (.frz o' u'):=q;rw[J.ayg]at q;cases q),?_⟩;have sm:aE H3 (upd Hc A.yg (.dK (s.yng.map tkv))):=λb u q=>by
    by_cases c:b=A.yg
    ·subst c
     rw[J3.ayg]at q;cases q;exact ah
    ·rw[ag c];exact sc b u (by rw[ag c];exact q)
   have nLy:L≠A.yg:=λe=>by rw[e,ah]at hL;cases hL
   have zL:upd Hc A.yg (.dK (s.yng.map tkv)) L=some (.lst ((i8 s).map V.int)):=(by rw[ag nLy];exact z);have hL3:H3 L=none:=(by rw[ag nLy]at hL;exact hL);have ais:=J3.fresh hL3;obtain⟨H4,e4⟩:∃ H4,upd Hc A.yg (.dK (s.yng.map tkv))=H4:=⟨_,rfl⟩;rw[e4]at sm zL ⊢;clear e4;have J4:=J3.same sm;intro p2 hp2;have w:=J4.ail hp2;have xp2:x≠p2:=au J4.ax hp2;refine⟨_,rfl,x,D.aa,A.dx,_,rfl,(by rw[ag xp2];exact J4.ax),T.ab,T.aV,by show 11<1000;decide,?_⟩;obtain⟨J5,fr5⟩:=w;have oL:=fr5.out ais zL;refine⟨_,rfl,x,_,_,rfl,J5.ax,(by kernel_rfl),_,rfl,x,_,_,L,i8 s,rfl,J5,G.n8,oL.2,oL.1,GS G,ai5 (ajA _ _) (HV G),(by have:=G.sd;have:=G.nx;show s.uc.length≤10000;omega),Ji G,λA6 H6 J6 fr6=>⟨_,rfl,k _ A6 H6 J6 ((((fr2.trans (Fr.same s3)).trans (Fr.same sm)).trans fr5).trans fr6)⟩⟩
noncomputable def Cb(D:Ad):Sp:=λvs H Q _=>∃ x A s,vs=[.ref x]∧IH D H x A s∧Good s∧∀ A' H',IH D H' x A' (kg s)→Fr (bR x A s) H (bR x A' (kg s)) H'→Q .non H'
noncomputable abbrev Ao:List Str:=["self"]
theorem xX:aw Ao ["self"] (ar kE):=fsc
theorem xY(F:Fun K "small" "IdealHeap.small" kE D.bI D.dI)(T:Txt K mg D)
  (j2:Ok P w K mg base 4 D.bw D.fX ["self"] (Jj D)):Ok P w K mg base 5 D.bI D.dI ["self"] (Cb D):=by
 refine F.oa xX F.b1 λcdv A' outer s' H vs Q E hr h=>?_;obtain⟨x,A,s,rfl,J,G,k⟩:=h;refine⟨_,(PSs.nox (ai (aG (j2.m0 hr (pv 0) T.ab T.qh dS)))),?_⟩;exact⟨_,rfl,x,_,_,rfl,J.ax,(by kernel_rfl),x,A,s,rfl,J,G,λv A' H' J' fr=>k A' H' J' fr⟩
noncomputable def S8(D:Ad):Sp:=λvs H Q E=>∃ x A s,vs=[.ref x]∧IH D H x A s∧Gd s∧Fin D x A s H (xo s) Q E
theorem IH.ait{D:Ad}{H:Hp}{x:Addr}{A:HA}{s:HS}(J:IH D H x A s){b:Addr}(f:bR x A s b)(o:Obj)(u:HO):H b≠some (.frz o u):=by
 intro q;cases f with
 | x=>rw[J.ax]at q;cases q
 | hd=>rw[J.ahd]at q;cases q
 | hl=>rw[J.ahl]at q;cases q
 | nt=>rw[J.ant]at q;cases q
 | nl=>rw[J.anl]at q;cases q
 | wt=>rw[J.awt]at q;cases q
 | wb=>rw[J.awb]at q;cases q
 | wl=>rw[J.awl]at q;cases q
 | fh=>rw[J.afh]at q;cases q
 | yg=>rw[J.ayg]at q;cases q
 | dm=>rw[J.adm]at q;cases q
 | fl m=>rw[(J.afl _ _ m).1]at q;cases q
noncomputable abbrev Ap:List Str:=["self", "kept", "t"]
theorem j3:aw Ap ["self"] (ar kF):=fsc
theorem xZ(F:Fun K "begin" "IdealHeap.begin" kF D.cN D.gy)(T:Txt K mg D)
  (aj:Ok P w K mg base 1 D.ao D.aB ["self", "text"] (Ei K))
  (cc:Ok P w K mg base 5 D.bI D.dI ["self"] (Cb D))
  (b9:Ok P w K mg base 1 D.bG D.dG ["self"] (nZ D))
  (cI:Ok P w K mg base 3 D.bq D.eC ["self", "leads", "things"] (KZ D)):Ok P w K mg base 6 D.cN D.gy ["self"] (S8 D):=by
 refine F.oa j3 F.b1 λcdv A' outer s' H vs Q E hr h=>?_;obtain⟨x,A,s,rfl,J,Gs,k⟩:=h;have hu:=kQ hr;refine⟨_,(ak (cj (pA (aH (pv 0) rfl))
   (ai (gh rfl lA (aj.e hr T.NI T.NH px (ae bh aq))))
   aU)
  (ak (aG (cc.m0 hr (pv 0) T.ab T.jY px))
  (ak (ir (pv 0) pJ rfl)
  (ak (bp (i:=1) j3.nd rfl (Or.inl rfl) (cI.m hr (pv 0) T.ab T.ia px (ae (b9.m0 hr (aH (pv 0) rfl) T.aS T.jX px) (ae (aH (pv 0) rfl) aq))))
  (ai (PS.nox (UK (nK ajo rfl (xb (Fs (aH (pv 0) rfl))) (gb (i:=2) j3.nd rfl (Or.inl rfl))
   (ai (cj (rM (ko hu (pv 2) (pv 1)) (by with_unfolding_all rfl))
    (ai (t9 hu (aH (pv 0) rfl) (pv 2) pJ rfl))
    aU)))))))))),?_⟩
 refine⟨_,rfl,x,D.aa,_,_,.bl s.rnd,rfl,J.ax,T.ab,T.dr,TH,_,rfl,?_⟩;by_cases c:s.rnd=true
 ·rw[show xo s=(some .on,s) from if_pos c]at k
  exact sT c (λea hea=>dj T.GK (λ_ q=>q) (k.bad J) ea hea)
 ·rw[show xo s=(none,Po (kg s)) from if_neg c]at k
  refine sS (ajf.mpr c) ?_;refine⟨_,rfl,x,_,_,rfl,J.ax,(by kernel_rfl),x,A,s,rfl,J,Gs.g,λA1 H1 J1 fr1=>?_⟩;have G1:=Gs.small;have d0:(kg s).bF=[]:=Gs.rd (ajf.mpr c);obtain⟨s1,es⟩:∃ s1,kg s=s1:=⟨_,rfl⟩;rw[es]at J1 fr1 G1 k d0;refine⟨_,rfl,x,D.aa,A1.dx,_,rfl,J1.ax,T.ab,T.dr,by show 11<1000;decide,?_⟩;have w2:=J1.aeX (n:=true);obtain⟨H2,e2⟩:∃ H2,upd H1 x (.ins D.aa A1.dx (iI "in_round" (.bl true) (atts A1 s1)))=H2:=⟨_,rfl⟩;rw[e2]at w2;show Kz _ _ _ _ (upd H1 x (.ins D.aa A1.dx (iI "in_round" (.bl true) (atts A1 s1))));rw[e2];clear e2;obtain⟨J2,fr2⟩:=w2;have G2:Good {s1 with rnd:=true}:=⟨G1.g.h8,G1.g.n8,G1.g.asc,G1.g.lt,G1.g.f6,G1.g.hh,G1.g.ff,G1.g.nn,G1.g.b12,G1.g.bk,G1.g.bnd,G1.g.n0,G1.g.nx,G1.g.sd,G1.g.yk,G1.g.Fx,G1.g.dk,G1.g.Fy⟩;refine⟨_,rfl,x,_,_,rfl,J2.ax,(by kernel_rfl),_,rfl,x,D.aa,_,_,.ref A1.hd,rfl,J2.ax,T.ab,T.az,nY,A1.hd,A1.hdx,_,rfl,J2.ahd,rfl,A1.hd,A1.hdx,A1.hl,A1.hx,s1.aT,rfl,J2.hn G2,λp H3 s3 hp z3=>?_⟩;have J3:=J2.same s3;refine⟨_,rfl,x,D.aa,_,_,.ref A1.fh,rfl,J3.ax,T.ab,T.aA,rm,x,A1,_,p,A1.hx,s1.aT,A1.fh,_,keys s1,rfl,J3,G2,z3,J3.rhl,by rw[G1.g.h8];decide,J3.afh,Ri s1 A1,(λt m=>mem_keys.mp m),d8 G1.g.asc,by unfold keys;rw[aiI];exact G1.g.few,λst kv ms H4 s4 hst h4 k4 n4 m4=>?_⟩;have J4:=J3.same s4;have fr4:=((fr1.trans fr2).trans (Fr.same s3)).trans (Fr.same s4);refine⟨_,rfl,x,D.aa,_,_,.ref A1.fh,rfl,J4.ax,T.ab,T.aA,rm,A1.fh,_,J4.afh,λo=>?_⟩;have df:A1.dm≠A1.fh:=ai7 J4.d5;have sf:st≠A1.fh:=au J3.afh hst |>.symm;have sd:st≠A1.dm:=au J3.adm hst |>.symm;have xf:x≠A1.fh:=ay J4.ax J4.afh (by intro z;cases z);have xd:x≠A1.dm:=ay J4.ax J4.adm (by intro z;cases z);have aiu:H4 A1.dm=some (.dK []):=by have:=J4.adm;rw[show({s1 with rnd:=true}:HS).bF=[] from d0]at this;exact this
  refine⟨A1.fh,o,_,rfl,ah,BY (d:=A1.fh) (o:=o) (kvs:=s1.aN.map (fkv A1)) (λi σ Hc=>∃ v2,σ=[some (.ref x),some (.ref st),v2]∧((∀ b u,b≠A1.fh→b≠A1.dm→H4 b=some u→Hc b=some u)∧Hc A1.fh=some (.frz o (.dK (s1.aN.map (fkv A1)))))∧Hc A1.dm=some (.dK ((((keys s1).take i).filter λt=>decide (t∉ms)).map tkv)))
   ⟨none,rfl,⟨λb u n _ q=>by rw[ag n];exact q,ah⟩,by rw[ag df];exact aiu⟩ (λi σ Hc _ ⟨_,_,oc,_⟩=>oc.2) ?_ ?_⟩
  ·rintro i q σ Hc hi ⟨v2,rfl,oc,hdm⟩
   obtain⟨t,ht,ekv,ep⟩:=(Ri s1 A1).at_ hi;have tk:=take_snoc ht;rw[ekv];refine⟨_,rfl,_,rfl,st,_,rfl,qQ.k (k:=Sum.inl t) (oc.1 _ _ sf sd h4),_,rfl,?_⟩;rw[k4.isS];by_cases c2:t∈ms
   ·rw[decide_eq_true c2]
    refine gS ⟨_,rfl,oc,?_⟩;rw[tk,ajT,hdm];simp[c2]
   ·rw[decide_eq_false c2]
    have ni:t∉((keys s1).take i).filter λt=>decide (t∉ms):=λz=>OL (show(keys s1).Pairwise (·< ·) from G1.g.asc) ht (ajs.mp z).1;have lz:((((keys s1).take i).filter λt=>decide (t∉ms)).map tkv).length<sizeLine:=by
     rw[aiI];refine uo (ai5 (ajA _ _) ?_)
     have:=G1.g.few
     rw[aiV];unfold keys;rw[aiI];omega
    refine sL ⟨_,rfl,x,D.aa,_,_,.ref A1.dm,rfl,oc.1 _ _ xf xd J4.ax,T.ab,T.aQ,KY,_,rfl,A1.dm,_,rfl,IP.k (k:=Sum.inl t) hdm lz,?_⟩;refine⟨_,rfl,⟨λb u n1 n2 q=>by rw[ag n2];exact oc.1 b u n1 n2 q,by rw[ag (ai7 df)];exact oc.2⟩,?_⟩;rw[ah,BW _ ((Ca _).non ni),tk,ajT,ai3];simp[c2,tkv]
  ·rintro σ Hc ⟨v2,rfl,oc,hdm⟩
   rw[aiI,ai2 (by unfold keys;rw[aiI];exact aiN _),R6 (show ∀ t,t∈ms↔Led s1.aT (fld s1) (keys s1) t from m4)]at hdm;refine⟨A1.fh,o,_,oc.2,(λo' u' q=>?_),?_⟩
   ·have q:H A1.fh=some (.frz o' u'):=q
    rcases(fr1.grow A1.fh .fh) with f|f
    ·obtain⟨u,hu1,_⟩:=J.is f
     rw[q]at hu1;cases hu1;obtain⟨u2,hu2,_⟩:=J.is f;exact absurd q (J.ait f o' u')
    ·rw[f]at q;cases q
   ·have w5:=J4.aeW (ts:=IE s1)
    have sm:aE (upd H4 A1.dm (.dK ((IE s1).map tkv))) (upd Hc A1.fh (.dK (s1.aN.map (fkv A1)))):=λb u q=>by
     by_cases c3:b=A1.fh
     ·rw[c3,ag (ai7 df)]at q
      rw[c3,ah];exact J4.afh.symm.trans q
     ·rw[ag c3]
      by_cases c4:b=A1.dm
      ·rw[c4,ah]at q
       rw[c4,hdm];exact q
      ·rw[ag c4]at q
       exact oc.1 b u c3 c4 q
    exact k A1 _ (w5.1.same sm) ((fr4.trans w5.2).trans (Fr.same sm))
noncomputable def S9(D:Ad):Sp:=λvs H Q E=>∃ x A s,vs=[.ref x]∧IH D H x A s∧Gd s∧Fin D x A s H (Pq s) Q E
noncomputable abbrev EV:List Str:=["self", "gone"]
theorem rf:aw EV ["self"] (ar nv):=fsc
theorem CK(F:Fun K "end" "IdealHeap.end" nv D.dU D.iL)(T:Txt K mg D)
  (aj:Ok P w K mg base 1 D.ao D.aB ["self", "text"] (Ei K))
  (iT:Ok P w K mg base 2 D.cW D.iR ["self", "gone"] (Hr D)):Ok P w K mg base 4 D.dU D.iL ["self"] (S9 D):=by
 refine F.oa rf F.b1 λcdv A' outer s' H vs Q E hr h=>?_;obtain⟨x,A,s,rfl,J,Gs,k⟩:=h;refine⟨_,(ak (cj (pB (pA (aH (pv 0) rfl)))
   (ai (gh rfl lA (aj.e hr T.NL T.NK px (ae bh aq))))
   aU)
  (ak (ir (pv 0) pJ rfl)
  (ak (bp (i:=1) rf.nd rfl (Or.inl rfl) (km (GG rfl) rfl T.ui PyProof.Rows.Boot.«list» (ae (aH (pv 0) rfl) aq)))
  (ak (ir (pv 0) nB rfl)
  (ai (aG (iT.m hr (pv 0) T.ab T.nF px (ae (pv 1) aq)))))))),?_⟩
 refine⟨_,rfl,x,D.aa,_,_,.bl s.rnd,rfl,J.ax,T.ab,T.dr,TH,_,rfl,?_⟩;by_cases c:s.rnd=true
 ·rw[show Pq s=(none,Pp s) from if_pos c]at k
  refine sS (by rw[c];rfl) ?_;refine⟨_,rfl,x,D.aa,A.dx,_,rfl,J.ax,T.ab,T.dr,by show 11<1000;decide,?_⟩;have w2:=J.aeX (n:=false);obtain⟨H2,e2⟩:∃ H2,upd H x (.ins D.aa A.dx (iI "in_round" (.bl false) (atts A s)))=H2:=⟨_,rfl⟩;rw[e2]at w2;show Kz _ _ _ _ (upd H x (.ins D.aa A.dx (iI "in_round" (.bl false) (atts A s))));rw[e2];clear e2;obtain⟨J2,fr2⟩:=w2;refine⟨_,rfl,x,D.aa,_,_,.ref A.dm,rfl,J2.ax,T.ab,T.aQ,KY,A.dm,_,s.bF,rfl,.inl J2.adm,Ca _,λL hL=>?_⟩;have s3:=aE.upd (o:=.lst (s.bF.map V.int)) hL;have J3:=J2.same s3;have nfL:=J2.fresh hL;intro p2 hp2;have w:=J3.aim hp2;have xp2:x≠p2:=au J3.ax hp2;refine⟨_,rfl,x,D.aa,A.dx,_,rfl,(by rw[ag xp2];exact J3.ax),T.ab,T.aQ,by show 11<1000;decide,?_⟩;obtain⟨J5,fr5⟩:=w;have oL:=fr5.out nfL ah;refine⟨_,rfl,x,_,_,rfl,J5.ax,(by kernel_rfl),_,rfl,x,_,_,L,s.bF,rfl,J5,Gs.g.n8,oL.2,oL.1,Gs.g.Fy,GR Gs.g,(by have:=Gs.g.sd;have:=Gs.g.nx;show s.uc.length≤10000;omega),Gs.g.dk,λA6 H6 J6 fr6=>k A6 H6 J6 (((fr2.trans (Fr.same s3)).trans fr5).trans fr6)⟩
 ·rw[show Pq s=(some .no,s) from if_neg c]at k
  refine sT (by rw[ajf.mpr c];rfl) ?_;exact λea hea=>dj T.GL (λ_ q=>q) (k.bad J) ea hea
noncomputable def OM(D:Ad):Sp:=λvs H Q _=>∃ x A s,vs=[.ref x]∧IH D H x A s∧Q (.bl s.rnd) H
noncomputable abbrev ur:List Str:=["self"]
theorem tF:aw ur ["self"] (ar i6):=fsc
theorem tG(F:Fun K "round_on" "IdealHeap.round_on" i6 D.br D.dq)(T:Txt K mg D):Ok P w K mg base 1 D.br D.dq ["self"] (OM D):=by
 refine F.oa tF F.b1 λcdv A' outer s' H vs Q E hr h=>?_;obtain⟨x,A,s,rfl,J,k⟩:=h;refine⟨_,(PSs.nox (ai (aM (aH (pv 0) rfl)))),?_⟩;exact⟨_,rfl,x,D.aa,_,_,.bl s.rnd,rfl,J.ax,T.ab,T.dr,TH,k⟩
theorem ZE{ts:List Int}{n:Option Int}:inO (ts.map tkv) (n.map Sum.inl)=(match n with|some t=>decide (t∈ts)|none=>false):=by
 cases n with
 | none=>rfl
 | some t=>exact aeZ
theorem WE(z:Option Int):nmV z=YN (z.map Sum.inl):=by cases z<;>rfl
noncomputable def MP(D:Ad):Sp:=λvs H Q _=>∃ x A s,∃ t:Int,vs=[.ref x,.int t]∧IH D H x A s∧Good s∧0≤t∧∀ A' H',IH D H' x A' (rQ s t)→Fr (bR x A s) H (bR x A' (rQ s t)) H'→Q .non H'
theorem R8{ts:List Int}{t:Int}{v:V}(h:mj (ts.map tkv) (Sum.inl t)=some v):v=.bl true:=by
 unfold mj at h;obtain⟨p,hp,e⟩:=aiZ.mp h;obtain⟨u,_,rfl⟩:=aje.mp (List.mem_of_find?_eq_some hp);exact e.symm
theorem UP{ts:List Int}{t:Int}:ue (ts.map tkv) (Sum.inl t)=(ts.filter λp=>decide (p≠t)).map tkv:=by
 unfold ue;rw[akJ];congr 1
 refine ajP λp _=>?_;show decide (Sum.inl p≠(Sum.inl t:Key))=decide (p≠t);simp
noncomputable abbrev Aq:List Str:=["self", "t", "spared", "other"]
theorem j4:aw Aq ["self", "t"] (ar kI):=fsc
theorem x8(F:Fun K "spare" "IdealHeap.spare" kI D.cP D.gA)(T:Txt K mg D)
  (eK:Ok P w K mg base 3 D.cV D.gL ["t"] (kW))
  (cI:Ok P w K mg base 3 D.bq D.eC ["self", "leads", "things"] (KZ D)):Ok P w K mg base 4 D.cP D.gA ["self", "t"] (MP D):=by
 refine F.oa j4 F.b2 λcdv A' outer s' H vs Q E hr h=>?_;obtain⟨x,A,s,t,rfl,J,G,t0,k⟩:=h;refine⟨_,(PSs.nox (ak (bp (i:=2) j4.nd rfl (Or.inl rfl) (cI.m hr (pv 0) T.ab T.ia dS (ae (ke (ae (eK.c hr T.qE T.jL dS (ae (pv 1) aq)) aq)) (ae (aH (pv 0) rfl) aq))))
  (ai (nK ajo rfl (xb (Fs (pv 2))) (gb (i:=3) j4.nd rfl (Or.inl rfl))
   (ai (aG (Hj (aH (pv 0) rfl) (pv 3) ⟨rfl,rfl,rfl,rfl⟩))))))),?_⟩
 refine⟨_,rfl,x,_,_,rfl,J.ax,(by kernel_rfl),_,rfl,t,rfl,t0,λtp H1 s1 hp=>⟨by show 1≤sizeLine;decide,λl hl=>?_⟩⟩;have s2:=aE.upd (o:=.lst [V.ref tp]) hl;have J2:=(J.same s1).same s2;have rl:Rel (upd H1 l (.lst [V.ref tp])) [.ref tp] [.th t]:=⟨rfl,λi v w h1 h2=>by
  cases i with
  | zero=>cases h1;cases h2;exact⟨tp,rfl,s2 _ _ hp⟩
  | succ i=>cases h1⟩
 refine⟨_,rfl,x,D.aa,_,_,.ref A.dm,rfl,J2.ax,T.ab,T.aQ,KY,x,A,s,l,_,[.th t],A.dm,_,s.bF,rfl,J2,G,ah,rl,by show 1≤100000;decide,J2.adm,Ca _,G.dk,d8 G.Fy,GR G,λst kv ms H3 s3 hst h3 k3 n3 m3=>?_⟩;have J3:=J2.same s3;have fr3:=((Fr.same (F:=bR x A s) s1).trans (Fr.same s2)).trans (Fr.same s3);have nfs:=J2.fresh hst;refine⟨_,rfl,st,kv,h3,λo=>?_⟩;have sub:∀ u∈ms,u∈s.bF:=λu m=>((m3 u).mp m).mem;have H4s:∀ b u,b≠st→H3 b=some u→upd H3 st (.frz o (.dK kv)) b=some u:=λb u n q=>by rw[ag n];exact q
 have t4:fJ H3 (upd H3 st (.frz o (.dK kv))):=fJ.set h3 (λ_ z=>nomatch z);have J4:IH D (upd H3 st (.frz o (.dK kv))) x A s:=J3.keep (λb u f q=>H4s b u (λe=>nfs (by rw[←e];exact f)) q) t4;have bk:H st=none:=aE.none s1 (aE.none s2 hst);have fr4:Fr (bR x A s) H (bR x A s) (upd H3 st (.frz o (.dK kv))):=⟨λb u n q=>H4s b u (au q bk) (fr3.ext b u n q),λ_ f=>.inl f,λb u q=>by obtain⟨u',q'⟩:=fr3.all b u q;exact⟨u',H4s b u' (au q bk) q'⟩,fr3.tup.trans t4⟩;refine⟨st,o,kv,rfl,ah,BY (d:=st) (o:=o) (kvs:=kv) (λi σ Hc=>∃ v3,σ=[some (.ref x),some (.int t),some (.ref st),v3]∧IH D Hc x A {s with bF:=s.bF.filter λu=>decide (u∉ms.take i)}∧Fr (bR x A s) H (bR x A {s with bF:=s.bF.filter λu=>decide (u∉ms.take i)}) Hc∧Hc st=some (.frz o (.dK kv)))
  ⟨none,rfl,(by rw[aj4,show(s.bF.filter λu=>decide (u∉([]:List Int)))=s.bF by simp];exact J4),(by rw[aj4,show(s.bF.filter λu=>decide (u∉([]:List Int)))=s.bF by simp];exact fr4),ah⟩ (λi σ Hc _ ⟨_,_,_,_,z⟩=>z) ?_ ?_⟩
 ·rintro i q σ Hc hi ⟨v3,rfl,Jc,frc,z⟩
  obtain⟨u,hu',ekv,ep⟩:=k3.at_ hi;have tk:=take_snoc hu';have ni:u∉ms.take i:=λm=>by
   have:=ajQ.mp (show(ms.take i++ms.drop i).Nodup by rw[ajc];exact n3)
   have hlt:=(aiM.mp hu').1;exact this.2.2 u m u (by rw[ajJ hlt,(aiM.mp hu').2];exact ai1) rfl
  have mu:u∈s.bF.filter λu=>decide (u∉ms.take i):=ajs.mpr ⟨sub u (aiU hu'),by simpa using ni⟩;have vd:mj ((s.bF.filter λu=>decide (u∉ms.take i)).map tkv) (Sum.inl u)=some (.bl true):=by
   have h1:=(Ca (s.bF.filter λu=>decide (u∉ms.take i))).isS (t:=u);rw[decide_eq_true mu]at h1;obtain⟨v,hv⟩:=Option.isSome_iff_exists.mp h1;rw[hv,R8 hv]
  rw[ekv];refine⟨_,rfl,x,D.aa,_,_,.ref A.dm,rfl,Jc.ax,T.ab,T.aQ,KY,A.dm,rfl,.inl ⟨_,.inl Jc.adm⟩,_,rfl,_,Sum.inl u,_,Jc.adm,rfl,vd,?_⟩;have w:=Jc.aeW (ts:=(s.bF.filter λu=>decide (u∉ms.take i)).filter λv=>decide (v≠u));rw[show ue (({s with bF:=s.bF.filter λu=>decide (u∉ms.take i)}:HS).bF.map tkv) (Sum.inl u)=((s.bF.filter λu=>decide (u∉ms.take i)).filter λv=>decide (v≠u)).map tkv from UP];have ef:((s.bF.filter λu=>decide (u∉ms.take i)).filter λv=>decide (v≠u))=s.bF.filter λv=>decide (v∉ms.take (i+1)):=by
   rw[List.filter_filter,tk];refine ajP λv _=>?_;simp[aiS,not_or,Bool.and_comm]
  rw[ef]at w ⊢;have nsd:st≠A.dm:=λe=>by rw[e,Jc.adm]at z;cases z
  exact⟨_,rfl,w.1,frc.trans w.2,by rw[ag nsd];exact z⟩
 ·rintro σ Hc ⟨v3,rfl,Jc,frc,z⟩
  rw[k3.len,ai2 (aiN _),R7 m3]at Jc frc;exact k _ _ Jc frc
noncomputable def MQ(D:Ad):Sp:=λvs H Q E=>∃ x A s,∃ h n:Int,vs=[.ref x,.int h,.int n]∧IH D H x A s∧Gd s∧s.nxt<10000∧Sm h∧Sm n∧Fin D x A s H (jM s h n) Q E
noncomputable abbrev CL:List Str:=["self", "h", "n", "size"]
theorem qd:aw CL ["self", "h", "n"] (ar lM):=fsc
theorem Ar(F:Fun K "make" "IdealHeap.make" lM D.dA D.hG)(T:Txt K mg D)
  (aj:Ok P w K mg base 1 D.ao D.aB ["self", "text"] (Ei K))
  (aI:Ok P w K mg base 3 D.bg D.cx ["h"] (dW D))
  (mI:Ok P w K mg base 3 D.gP D.mB ["fields"] (vk D))
  (eB:Ok P w K mg base 4 D.aZ D.ej ["self", "things"] (Hq D))
  (cc:Ok P w K mg base 5 D.bI D.dI ["self"] (Cb D))
  (lZ:Ok P w K mg base 5 D.dC D.hR ["self"] (Pg D))
  (l7:Ok P w K mg base 5 D.bV D.g9 ["self", "h", "n"] (SY D)):Ok P w K mg base 8 D.dA D.hG ["self", "h", "n"] (MQ D):=by
 refine F.oa qd F.b3 λcdv A' outer s' H vs Q E hr h=>?_;obtain⟨x,A,s,h,n,rfl,J,Gs,hnx,hh,hn,k⟩:=h;refine⟨_,(ak (aG (aI.c hr T.f9 T.dR px (ae (pv 1) aq)))
  (ak (bp (i:=3) qd.nd rfl (Or.inl rfl) (mI.c hr T.GN T.sO px (ae (pv 2) aq)))
  (ak (cj (PW.pt (pw_and (pA (aH (pv 0) rfl)) (pw_and1 (aJ KP (eE Fp (eB.m hr (pv 0) T.ab T.jF px (ae (aH (pv 0) rfl) aq)) (pv 3)) (aH (pv 0) rfl) (bN _)))))
   (ai (aG (cc.m0 hr (pv 0) T.ab T.jY px)))
   aU)
  (ak (cj (aJ KP (eE Fp (lZ.m0 hr (pv 0) T.ab T.zP px) (pv 3)) (aH (pv 0) rfl) (bN _))
   (ai (gh rfl lA (aj.e hr T.QL T.QK px (ae (jH (bu (mx (pv 3)) (bu iA jG))) aq))))
   aU)
  (ai (aG (l7.m hr (pv 0) T.ab T.rz px (ae (pv 1) (ae (pv 2) aq))))))))),?_⟩
 refine⟨_,rfl,h,rfl,hh,?_⟩;by_cases c:ok8 h
 ·rw[if_pos c]
  refine⟨_,rfl,n,rfl,hn,?_⟩;by_cases c2:0≤n∧n≤6
  ·rw[if_pos c2]
   have G:=Gs.g;have kk:Fin D x A s H (if held (mkR s n)+(n+1)>s.limit then(some .room,mkR s n) else(none,I0 (mkR s n) h n)) Q E:=by
    rw[show jM s h n=_ from by unfold jM;rw[if_pos c,if_pos c2]]at k;exact k
   have G2:Gd (mkR s n):=Gs.mkd;simp only[qo];refine gE λN hN=>?_;have fin:∀(A2:HA) (H2:Hp),IH D H2 x A2 (mkR s n)→Fr (bR x A s) H (bR x A2 (mkR s n)) H2→N [some (.ref x),some (.int h),some (.int n),some (.int (n+1))] H2:=by
    intro A2 H2 J2 fr2;refine hN _ _ ?_;refine⟨_,rfl,x,_,_,rfl,J2.ax,(by kernel_rfl),x,A2,_,rfl,J2,G2.g,λH3 s3=>?_⟩;have J3:=J2.same s3;have fr3:=fr2.trans (Fr.same s3);refine⟨_,rfl,held (mkR s n),n+1,rfl,rfl,_,rfl,x,D.aa,_,_,.int (mkR s n).limit,rfl,J3.ax,T.ab,T.pX,Zu,_,_,rfl,rfl,_,rfl,aY (λg=>?_) (λg=>?_)⟩
    ·have g:=of_decide_eq_true g
     rw[Pr]at g;rw[if_pos g]at kk;exact⟨_,rfl,n+1,rfl,Sm.of (by omega) (by omega),λy hy ea hea=>dj T.IX (λb q=>fr3.none q) (λH' s'=>kk A2 H' (J3.same s') (fr3.trans (Fr.same s'))) ea hea⟩
    ·have g:¬(held (mkR s n)+(n+1)>s.limit):=λz=>g (decide_eq_true (by rw[Pr];exact z))
     rw[if_neg g]at kk;exact⟨_,rfl,x,_,_,rfl,J3.ax,(by kernel_rfl),_,rfl,_,rfl,x,A2,_,h,n,rfl,J3,G2.g,c,c2.1,c2.2,λA' H' J' fr=>kk A' H' J' (fr3.trans fr)⟩
   refine⟨_,rfl,x,D.aa,_,_,.bl s.my,rfl,J.ax,T.ab,T.gR,VH,_,rfl,?_⟩;by_cases my:s.my=true
   ·refine sT my ⟨_,rfl,x,_,_,rfl,J.ax,(by kernel_rfl),_,rfl,x,D.aa,_,_,.ref A.yg,rfl,J.ax,T.ab,T.aV,KW,x,A,s,A.yg,_,s.yng,rfl,J,G,J.ayg,Ca _,G.yk,HV G,λH1 s1=>?_⟩
    have J1:=J.same s1;refine⟨_,rfl,wsum s s.yng,n+1,rfl,rfl,_,rfl,x,D.aa,_,_,.int s.room,rfl,J1.ax,T.ab,T.kr,Zt,_,_,rfl,rfl,_,rfl,aY (λg=>?_) (λg=>?_)⟩
    ·have g:=of_decide_eq_true g
     have em:mkR s n=kg s:=if_pos ⟨my,g⟩;rw[em]at fin;exact⟨_,rfl,x,_,_,rfl,J1.ax,(by kernel_rfl),x,A,s,rfl,J1,G,λA2 H2 J2 fr2=>fin A2 H2 J2 ((Fr.same s1).trans fr2)⟩
    ·have em:mkR s n=s:=if_neg λz=>g (decide_eq_true z.2)
     rw[em]at fin;exact fin A H1 J1 (Fr.same s1)
   ·have em:mkR s n=s:=if_neg λz=>my z.1
    rw[em]at fin;exact sS (ajf.mpr my) (gS (fin A H J Fr.refl))
  ·rw[if_neg c2]
   rw[show jM s h n=(some .count,s) by simp only[jM,if_pos c,if_neg c2]]at k;exact k.bad J
 ·rw[if_neg c]
  rw[show jM s h n=(some .hand,s) by simp only[jM,if_neg c]]at k;exact k.bad J
noncomputable def MR(D:Ad):Sp:=λvs H Q E=>∃ x A s,∃ h w:Int,vs=[.ref x,.int h,.int w]∧IH D H x A s∧Good s∧Sm h∧Sm w∧Fin D x A s H (ju s h w) Q E
theorem pT{α:Type}{l:List α}{i:Nat}{a b:α}(h:b∈l.set i a):b∈l∨b=a:=by
 rw[List.mem_iff_getElem]at h;obtain⟨j,hj,e⟩:=h;rw[List.getElem_set]at e;split at e
 ·exact .inr e.symm
 ·exact .inl (by rw[←e];exact ajR _)
theorem Good.put{s:HS}(g:Good s){h:Int}{w:Wd}(c:∀ t,w=.th t→∃ ws,(t,ws)∈s.aN):Good (rB s h w) :=
 ⟨by show(s.aT.set _ _).length=8;rw[ajK];exact g.h8,g.n8,g.asc,g.lt,g.f6,(λt m=>(pT m).elim (λq=>g.hh t q) λe=>c t e.symm),g.ff,g.nn,g.b12,g.bk,g.bnd,g.n0,g.nx,g.sd,g.yk,g.Fx,g.dk,g.Fy⟩
noncomputable abbrev CM:List Str:=["self", "h", "w", "t"]
theorem qe:aw CM ["self", "h", "w"] (ar lN):=fsc
theorem As(F:Fun K "read" "IdealHeap.read" lN D.dB D.hJ)(T:Txt K mg D)
  (kM:Ok P w K mg base 5 D.bH D.gx ["self", "h", "w"] (MJ D))
  (kN:Ok P w K mg base 4 D.cP D.gA ["self", "t"] (MP D)):Ok P w K mg base 7 D.dB D.hJ ["self", "h", "w"] (MR D):=by
 refine F.oa qe F.b3 λcdv A' outer s' H vs Q E hr h=>?_;obtain⟨x,A,s,h,w,rfl,J,G,hh,hw,k⟩:=h;refine⟨_,(ak (bp (i:=3) qe.nd rfl (Or.inl rfl) (kM.m hr (pv 0) T.ab T.qJ px (ae (pv 1) (ae (pv 2) aq))))
  (ai (cj (rM (Ux (pv 3) (aH (pv 0) rfl)) (by with_unfolding_all rfl))
   (ai (aG (kN.m hr (pv 0) T.ab T.xI px (ae (pv 3) aq))))
   aU))),?_⟩
 refine⟨_,rfl,x,_,_,rfl,J.ax,(by kernel_rfl),_,rfl,_,rfl,x,A,s,h,w,rfl,J,G,hh,hw,?_⟩;by_cases c:ok8 h
 ·rw[if_pos c]
  by_cases c2:ok8 w
  ·rw[if_pos c2]
   rw[show ju s h w=(none,rdR (rB s h (nmW (s.names.getD w.toNat none))) (s.names.getD w.toNat none)) by simp only[ju,if_pos c,if_pos c2]]at k;have hi:w.toNat<s.names.length:=(by rw[G.n8];omega);have gd:s.names.getD w.toNat none=s.names[w.toNat]:=(by simp[List.getD,hi]);have mm:s.names[w.toNat]∈s.names:=ajR hi;obtain⟨z,ez⟩:∃ z,s.names.getD w.toNat none=z:=⟨_,rfl⟩;rw[ez]at k ⊢;rw[←gd,ez]at mm;intro A1 H1 J1 fr;refine⟨_,rfl,_,rfl,x,D.aa,_,_,_,rfl,J1.ax,T.ab,T.aQ,KY,A1.dm,_,z.map Sum.inl,rfl,WE z,.inl J1.adm,_,rfl,?_⟩;rw[ZE];cases z with
   | none=>exact gS (k A1 H1 J1 fr)
   | some t =>
    show if decide (t∈s.bF)=true then _ else _;obtain⟨ws,m⟩:=G.nn t mm;by_cases c3:t∈s.bF
    ·rw[decide_eq_true c3]
     rw[show rdR (rB s h (nmW (some t))) (some t)=rQ (rB s h (nmW (some t))) t from if_pos c3]at k;have G2:Good (rB s h (nmW (some t))):=G.put λu e=>by cases e;exact⟨ws,m⟩
     exact sL ⟨_,rfl,x,_,_,rfl,J1.ax,(by kernel_rfl),_,rfl,x,A1,_,t,rfl,J1,G2,(G.lt _ _ m).1,λA2 H2 J2 fr2=>k A2 H2 J2 (fr.trans fr2)⟩
    ·rw[decide_eq_false c3]
     rw[show rdR (rB s h (nmW (some t))) (some t)=rB s h (nmW (some t)) from if_neg c3]at k;exact gS (k A1 H1 J1 fr)
  ·rw[if_neg c2]
   rw[show ju s h w=(some .name,s) by simp only[ju,if_pos c,if_neg c2]]at k;exact k.bad J
 ·rw[if_neg c]
  rw[show ju s h w=(some .hand,s) by simp only[ju,if_neg c]]at k;exact k.bad J
inductive Dd where
 | make (h n:Int)|store (g k h:Int)|load (h g k:Int)|copy (h g:Int)|drop (h:Int)|number (h x:Int)|name (w h:Int)|read (h w:Int)|word (h x:Int)|small|turn
noncomputable def Dd.its:Dd→List V
 | .make h n=>[.str "make",.int h,.int n]
 | .store g k h=>[.str "store",.int g,.int k,.int h]
 | .load h g k=>[.str "load",.int h,.int g,.int k]
 | .copy h g=>[.str "copy",.int h,.int g]
 | .drop h=>[.str "drop",.int h]
 | .number h x=>[.str "number",.int h,.int x]
 | .name w h=>[.str "name",.int w,.int h]
 | .read h w=>[.str "read",.int h,.int w]
 | .word h x=>[.str "word",.int h,.int x]
 | .small=>[.str "small"]
 | .turn=>[.str "turn"]
noncomputable abbrev In8(h:Int):Prop:=0≤h∧h<8
noncomputable def Dd.ok:Dd→Prop
 | .make h n=>In8 h∧0≤n∧n≤6
 | .store g k h=>In8 g∧0≤k∧k≤6∧In8 h
 | .load h g k=>In8 h∧In8 g∧0≤k∧k≤6
 | .copy h g=>In8 h∧In8 g
 | .drop h=>In8 h
 | .number h x=>In8 h∧-100000≤x∧x≤100000
 | .name w h=>In8 w∧In8 h
 | .read h w=>In8 h∧In8 w
 | .word h x=>In8 h∧-100000≤x∧x≤100000
 | .small=>True
 | .turn=>True
theorem m8(n d:Int):0≤n/d%8∧n/d%8<8:=⟨ajE _ (by decide),ajF _ (by decide)⟩
noncomputable def GU(K:W.Frag):Sp:=λvs H Q _=>∃(a:Addr) (ns:List Int) (m:Int),vs=[.ref a,.int m]∧SqL K H a (ns.map V.int)∧ns.length≤63∧∀ p (zs:List Int) H',aE H H'→H p=none→H' p=some (.lst (zs.map V.int))→zs.length≤200∧(0≤m→zs.length≤m.toNat)→(∀ z∈zs,0≤z∧z<65536)→Q (.ref p) H'
theorem R9(ns:List Int)(lo hi:Option Int):∃ cs:List Int,Sv (ns.map V.int) lo hi=cs.map V.int∧cs.length≤ns.length∧(∀ c∈cs,c∈ns)∧∀ m,hi=some m→0≤m→cs.length≤m.toNat:=by
 refine⟨(ns.drop (HT.sIx ns.length 0 lo)).take (HT.sIx ns.length ns.length hi-HT.sIx ns.length 0 lo),?_,?_,λc hc=>ajY (ajX hc),λm e m0=>?_⟩
 ·unfold Sv
  rw[aiI,List.map_take,List.map_drop]
 ·rw[aiV,ajr]
  omega
 ·subst e
  rw[aiV]
  have:HT.sIx ns.length ns.length (some m)≤m.toNat:=by
   show(if m<0 then(m+(ns.length:Int)).toNat else min m.toNat ns.length)≤_;rw[if_neg (by omega)];omega
  omega
noncomputable abbrev FU:List Str:=["script", "most", "found", "k", "near", "turn"]
theorem dX:aw FU ["script", "most"] (ar oV):=fsc
theorem EW(F:Fun K "_law_numbers" "_law_numbers" oV D.dQ D.jb)(T:Txt K mg D):Ok P w K mg base 2 D.dQ D.jb ["script", "most"] (GU K):=by
 refine F.oa dX F.b2 λcdv A' outer s' H vs Q E hr h=>?_;obtain⟨a,ns,m,rfl,hS,hlen,k⟩:=h;refine⟨_,(PSs.nox (ak (bp (i:=2) dX.nd rfl (Or.inl rfl) (ke aq))
  (ak (nK ajo rfl (D4 rfl T.xh (ae (eh iF rfl T.B7 PyProof.Rows.Boot.«len» (ae (pv 0) aq)) aq)) (gb (i:=3) dX.nd rfl (Or.inl rfl))
   (ak (bp (i:=4) dX.nd rfl (Or.inl rfl) (eE mh (cg iW (pv 0) (pv 3) (λ_ _=>rfl)) av))
   (ak (cj (aJ nM (eE mh (cg iW (pv 0) av (λ_ _=>rfl)) av) av (bN _))
    (ak (bp (i:=4) dX.nd rfl (Or.inl rfl) (eE mh (eE KO (eE Fp (eE Fp (pv 4) (eE KO av (pv 3))) av) av) av))
    (ai (bp (i:=4) dX.nd rfl (Or.inl rfl) (eE mh (eE KO (pv 4) (pv 4)) av))))
    aU)
   (ai (nK ajo rfl (D4 rfl T.xh (ae av aq)) (gb (i:=5) dX.nd rfl (Or.inl rfl))
    (ak (cj (PW.pt (pw_or (aJ nM (pv 5) av (bN _)) (pw_or1 (aJ KP (pv 4) av (bN _)))))
     (ai (aG (KQ PySem.F.plainAttrs_list PySem.F.slot_list_append PySem.F.type_list_append rp (pv 2) (ae (eE mh (pv 4) av) aq))))
     aU)
    (ai (bp (i:=4) dX.nd rfl (Or.inl rfl) (eE wY (pv 4) av)))))))))
  (ai (aM (RF Ub (pv 2) T8 (T9 (pv 1)))))))),?_⟩
 refine⟨by show 0≤sizeLine;decide,λp hp=>?_⟩;have s1:=aE.upd (o:=.lst []) hp;have z1:upd H p (.lst []) p=some (.lst (([]:List Int).map V.int)):=ah;obtain⟨H1,e1⟩:∃ H1,upd H p (.lst [])=H1:=⟨_,rfl⟩;show qo 2 (V.ref p) _ (upd H p (.lst [])) _;rw[e1]at s1 z1 ⊢;clear e1;have hpa:∀ {Hx:Hp},aE H Hx→SqL K Hx a (ns.map V.int):=λs=>s.seq hS;refine⟨_,rfl,a,_,rfl,.inl (hpa s1),(ns.map V.int).length,rfl,by omega,by rw[aiI];omega,D5 (lo:=0) (n:=(ns.map V.int).length) (λi σ Hx=>∃(v3 v4 v5:Option V) (zs:List Int),σ=[some (.ref a),some (.int m),some (.ref p),v3,v4,v5]∧aE H Hx∧Hx p=some (.lst (zs.map V.int))∧zs.length≤3*i∧∀ z∈zs,0≤z∧z<65536) ⟨none,none,none,[],rfl,s1,z1,aiN _,λz hz=>by cases hz⟩ ?_ ?_⟩
 ·rintro i σ Hx hi ⟨v3,v4,v5,zs,rfl,sx,zx,lx,bx⟩
  rw[aiI]at hi;have hk:atI (ns.map V.int) (0+(i:Int))=some (.int ns[i]):=by rw[Int.zero_add];exact pK (by rw[aiW,aiK hi];rfl)
  have h0:atI (ns.map V.int) 0=some (.int (ns[0]'(by omega))):=pK (j:=0) (by rw[aiW,aiK (by omega)];rfl);have b0:=ajE ns[i] (show(281474976710656:Int)≠0 by decide);have b1:=ajF ns[i] (show(0:Int)<281474976710656 by decide);refine⟨_,rfl,_,rfl,a,_,_,_,rfl,rfl,hpa sx,hk,_,281474976710656,rfl,rfl,(by show(0:Int)<281474976710656;decide),?_⟩;obtain⟨ne,ene⟩:∃ ne:Int,ns[i]%281474976710656=ne:=⟨_,rfl⟩;rw[ene]at b0 b1;simp only[ene,qo];refine gE λN hN=>?_;have rest:∀ near:Int,0≤near→N [some (.ref a),some (.int m),some (.ref p),some (.int (0+(i:Int))),some (.int near),v5] Hx:=by
   intro near n0;refine hN _ _ ?_;refine⟨3,rfl,by decide,by decide,D5 (lo:=0) (n:=3) (λj σ Hy=>∃(near:Int) (v5:Option V) (zs:List Int),σ=[some (.ref a),some (.int m),some (.ref p),some (.int (0+(i:Int))),some (.int near),v5]∧0≤near∧aE H Hy∧Hy p=some (.lst (zs.map V.int))∧zs.length≤3*i+j∧∀ z∈zs,0≤z∧z<65536) ⟨near,v5,zs,rfl,n0,sx,zx,by omega,bx⟩ ?_ ?_⟩
   ·rintro j σ Hy hj ⟨near,v5,zs,rfl,n0,sy,zy,ly,by_⟩
    refine gE λM hM=>?_;have tail:∀(zs:List Int) (Hy:Hp),aE H Hy→Hy p=some (.lst (zs.map V.int))→zs.length≤3*i+(j+1)→(∀ z∈zs,0≤z∧z<65536)→M [some (.ref a),some (.int m),some (.ref p),some (.int (0+(i:Int))),some (.int near),some (.int (0+(j:Int)))] Hy:=by
     intro zs Hy sy zy ly by_;exact hM _ _ ⟨_,rfl,near,65536,rfl,rfl,⟨by decide,by decide⟩,near/65536,_,zs,rfl,Int.ediv_nonneg n0 (by decide),sy,zy,ly,by_⟩
    have app:M=M:=rfl;refine Wz λB hB=>?_;have grow:B [some (.ref a),some (.int m),some (.ref p),some (.int (0+(i:Int))),some (.int near),some (.int (0+(j:Int)))] Hy:=by
     refine hB _ _ ?_;refine⟨_,rfl,.inl ⟨rfl,_,SqL.of zy⟩,_,rfl,near,65536,rfl,rfl,(by show(0:Int)<65536;decide),p,_,_,rfl,rfl,zy,ajM (show(zs.map V.int).length≤1000 by rw[aiI];omega) (by decide),?_⟩;refine tail (zs++[near%65536]) _ (λb u g=>by rw[ag (au g hp)];exact sy b u g) (by rw[ah,ai3];rfl) (by rw[aiR,ajl];omega) (λz hz=>?_);rcases aiS.mp hz with g|g
     ·exact by_ z g
     ·rw[aiJ.mp g]
      exact⟨ajE _ (by decide),ajF _ (by decide)⟩
    refine⟨_,rfl,rfl,_,rfl,aY (λ_=>sL grow) (λ_=>⟨_,rfl,near,0,rfl,rfl,_,rfl,aY (λ_=>grow) (λ_=>tail zs Hy sy zy (by omega) by_)⟩)⟩
   ·rintro σ Hy ⟨near,v5,zs,rfl,n0,sy,zy,ly,by_⟩
    exact⟨_,_,_,zs,rfl,sy,zy,by omega,by_⟩
  refine⟨_,rfl,a,_,0,_,rfl,rfl,hpa sx,h0,_,2,rfl,rfl,(by show(0:Int)<2;decide),rfl,_,rfl,aY (λ_=>?_) (λ_=>rest ne b0)⟩;have q0:=ajE ((ne+7919*(0+(i:Int))+1)*48271) (show(2147483647:Int)≠0 by decide);have q1:=ajF ((ne+7919*(0+(i:Int))+1)*48271) (show(0:Int)<2147483647 by decide);refine⟨_,rfl,_,rfl,7919,0+(i:Int),rfl,rfl,.inl ⟨by decide,by decide⟩,ne,_,rfl,rfl,_,1,rfl,rfl,_,48271,rfl,rfl,.inr ⟨by decide,by decide⟩,_,2147483647,rfl,rfl,(by show(0:Int)<2147483647;decide),?_⟩;obtain⟨n2,en2⟩:∃ n2:Int,(ne+7919*(0+(i:Int))+1)*48271%2147483647=n2:=⟨_,rfl⟩;rw[en2]at q0 q1;simp only[en2,qo];refine⟨_,rfl,_,rfl,n2,n2,rfl,rfl,.inl ⟨by omega,by omega⟩,_,281474976710597,rfl,rfl,(by show(0:Int)<281474976710597;decide),?_⟩;exact rest _ (ajE _ (by decide))
 ·rintro σ Hx ⟨v3,v4,v5,zs,rfl,sx,zx,lx,bx⟩
  rw[aiI]at lx;obtain⟨cs,ec,cl,cm,cb⟩:=R9 zs none (some m);refine⟨_,rfl,_,rfl,_,rfl,p,_,rfl,SqL.of zx,λq hq=>?_⟩;rw[ec];have hq0:H q=none:=aE.none sx hq;exact k q cs _ (sx.trans (aE.upd hq)) hq0 ah ⟨by omega,λm0=>cb m rfl m0⟩ (λz hz=>bx z (cm z hz))
noncomputable def Pt:Sp:=λvs H Q _=>∃ n:Int,vs=[.int n]∧0≤n∧n<65536∧∀ q dd H',aE H H'→H q=none→H' q=some (.tup (Dd.its dd))→dd.ok→Q (.ref q) H'
noncomputable abbrev LH:List Str:=["number", "a", "b", "c", "kind", "some"]
theorem jv:aw LH ["number"] (ar va):=fsc
theorem JL(F:Fun K "_law_deed" "_law_deed" va D.gG D.mU)(T:Txt K mg D):Ok P w K mg base 1 D.gG D.mU ["number"] (Pt):=by
 refine F.oa jv F.b1 λcdv A' outer s' H vs Q E hr h=>?_;obtain⟨n,rfl,n0,n1,k⟩:=h;refine⟨_,(PSs.nox (ak (bp (i:=1) jv.nd rfl (Or.inl rfl) (eE mh (eE wY (pv 0) av) av))
  (ak (bp (i:=2) jv.nd rfl (Or.inl rfl) (eE mh (eE wY (pv 0) av) av))
  (ak (bp (i:=3) jv.nd rfl (Or.inl rfl) (eE mh (eE wY (pv 0) av) av))
  (ak (bp (i:=4) jv.nd rfl (Or.inl rfl) (eE mh (pv 0) av))
  (ak (cj (aJ Gw (pv 4) av (bN _))
   (ai (aM (iu (ae bh (ae (pv 1) (ae (cg iW (ke (ae av (ae av (ae av (ae av (ae av (ae av (ae av (ae av aq))))))))) (pv 3) (λ_ _=>rfl)) aq))))))
   aU)
  (ak (cj (aJ Gw (pv 4) av (bN _))
   (ai (aM (iu (ae bh (ae (pv 1) (ae (eE mh (pv 3) av) (ae (pv 2) aq)))))))
   aU)
  (ak (cj (aJ Gw (pv 4) av (bN _))
   (ai (aM (iu (ae bh (ae (pv 1) (ae (pv 2) (ae (eE mh (pv 3) av) aq)))))))
   aU)
  (ak (bp (i:=5) jv.nd rfl (Or.inl rfl) (ke (iQ (iu (ae bh (ae (pv 1) (ae (pv 2) aq)))) (iQ (iu (ae bh (ae (pv 1) aq))) (iQ (iu (ae bh (ae (pv 1) (ae (eE OB (eE KO (pv 2) av) (pv 3)) aq)))) (iQ (iu (ae bh (ae (pv 2) (ae (pv 1) aq)))) aq))))))
  (ai (aM (cg iW (eE Cm (pv 5) (ke (iQ (iu (ae bh (ae (pv 1) (ae (pv 2) aq)))) (iQ (iu (ae bh (ae (pv 1) (ae (eE OB (pv 0) av) aq)))) (iQ (iu (ae bh aq)) (iQ (iu (ae bh aq)) aq)))))) (eE OB (pv 4) av) (λ_ _=>rfl))))))))))))),?_⟩
 obtain⟨a,ea⟩:∃ a:Int,n/16%8=a:=⟨_,rfl⟩;obtain⟨b,eb⟩:∃ b:Int,n/128%8=b:=⟨_,rfl⟩;obtain⟨c,ec⟩:∃ c:Int,n/1024%8=c:=⟨_,rfl⟩;obtain⟨kd,ek⟩:∃ kd:Int,n%16=kd:=⟨_,rfl⟩;have ha:In8 a:=by rw[←ea];exact m8 n 16
 have hb:In8 b:=by rw[←eb];exact m8 n 128
 have hc:In8 c:=by rw[←ec];exact m8 n 1024
 have k0:0≤kd:=by rw[←ek];exact ajE _ (by decide)
 have k1:kd<16:=by rw[←ek];exact ajF _ (by decide)
 refine⟨_,rfl,n,16,rfl,rfl,⟨by decide,by decide⟩,_,8,rfl,rfl,(by show(0:Int)<8;decide),?_⟩;simp only[ea,qo];refine⟨_,rfl,n,128,rfl,rfl,⟨by decide,by decide⟩,_,8,rfl,rfl,(by show(0:Int)<8;decide),?_⟩;simp only[eb,qo];refine⟨_,rfl,n,1024,rfl,rfl,⟨by decide,by decide⟩,_,8,rfl,rfl,(by show(0:Int)<8;decide),?_⟩;simp only[ec,qo];refine⟨_,rfl,n,16,rfl,rfl,(by show(0:Int)<16;decide),?_⟩;simp only[ek,qo];have c30:=ajE c (show(3:Int)≠0 by decide);have c31:=ajF c (show(0:Int)<3 by decide);refine⟨_,rfl,kd,3,rfl,rfl,_,rfl,aY (λ_=>?_) (λg3=>?_)⟩
 ·obtain⟨m,hm,m0,m6⟩:∃ m:Int,atI [V.int 2,V.int 3,V.int 1,V.int 4,V.int 2,V.int 0,V.int 6,V.int 3] c=some (.int m)∧0≤m∧m≤6:=by
   obtain⟨c0,c8⟩:=hc;rcases(show c=0∨c=1∨c=2∨c=3∨c=4∨c=5∨c=6∨c=7 by omega) with rfl|rfl|rfl|rfl|rfl|rfl|rfl|rfl<;>exact⟨_,rfl,by decide,by decide⟩
  refine⟨_,rfl,by show 8≤sizeLine;decide,λl hl=>⟨_,rfl,l,_,c,_,rfl,rfl,SqL.of ah,hm,by show 3≤sizeLine;decide,λq hq=>?_⟩⟩;exact k q (.make a m) _ ((aE.upd hl).trans (aE.upd hq)) (aE.none (aE.upd hl) hq) ah ⟨ha,m0,m6⟩
 ·have g3:¬kd<3:=λz=>g3 (decide_eq_true z)
  refine⟨_,rfl,kd,6,rfl,rfl,_,rfl,aY (λ_=>?_) (λg6=>?_)⟩
  ·refine⟨_,rfl,_,rfl,c,3,rfl,rfl,(by show(0:Int)<3;decide),_,rfl,by show 4≤sizeLine;decide,λq hq=>?_⟩
   exact k q (.store a (c%3) b) _ (aE.upd hq) hq ah ⟨ha,c30,by omega,hb⟩
  ·have g6:¬kd<6:=λz=>g6 (decide_eq_true z)
   refine⟨_,rfl,kd,8,rfl,rfl,_,rfl,aY (λ_=>?_) (λg8=>?_)⟩
   ·refine⟨_,rfl,_,rfl,_,rfl,c,3,rfl,rfl,(by show(0:Int)<3;decide),by show 4≤sizeLine;decide,λq hq=>?_⟩
    exact k q (.load a b (c%3)) _ (aE.upd hq) hq ah ⟨ha,hb,c30,by omega⟩
   ·have g8:¬kd<8:=λz=>g8 (decide_eq_true z)
    refine⟨_,rfl,_,rfl,by show 3≤sizeLine;decide,λt1 h1=>⟨_,rfl,by show 2≤sizeLine;decide,λt2 h2=>⟨_,rfl,_,rfl,b,1000,rfl,rfl,.inr ⟨by decide,by decide⟩,_,rfl,_,c,rfl,rfl,by show 3≤sizeLine;decide,λt3 h3=>⟨_,rfl,_,rfl,by show 3≤sizeLine;decide,λt4 h4=>⟨by show 4≤sizeLine;decide,λl1 hl1=>?_⟩⟩⟩⟩⟩;have r1:=aE.upd (o:=.tup (Dd.its (.copy a b))) h1;have r2:=aE.upd (o:=.tup (Dd.its (.drop a))) h2;have r3:=aE.upd (o:=.tup (Dd.its (.number a (b*1000-c)))) h3;have r4:=aE.upd (o:=.tup (Dd.its (.name b a))) h4;have r5:=aE.upd (o:=.lst [V.ref t1,V.ref t2,V.ref t3,V.ref t4]) hl1;refine⟨_,rfl,_,rfl,_,rfl,by show 3≤sizeLine;decide,λt5 h5=>⟨_,rfl,_,rfl,n,30000,rfl,rfl,by show 3≤sizeLine;decide,λt6 h6=>⟨by show 1≤sizeLine;decide,λt7 h7=>⟨by show 1≤sizeLine;decide,λt8 h8=>⟨by show 4≤sizeLine;decide,λl2 hl2=>?_⟩⟩⟩⟩⟩;have r6:=aE.upd (o:=.tup (Dd.its (.read a b))) h5;have r7:=aE.upd (o:=.tup (Dd.its (.word a (n-30000)))) h6;have r8:=aE.upd (o:=.tup (Dd.its .small)) h7;have r9:=aE.upd (o:=.tup (Dd.its .turn)) h8;have r10:=aE.upd (o:=.lst [V.ref t5,V.ref t6,V.ref t7,V.ref t8]) hl2;refine⟨l1,l2,_,_,rfl,rfl,SqL.of ((r6.trans (r7.trans (r8.trans (r9.trans r10)))) _ _ ah),SqL.of ah,by show 8≤sizeLine;decide,λl3 hl3=>?_⟩;have r11:=aE.upd (o:=.lst ([V.ref t1,V.ref t2,V.ref t3,V.ref t4]++[V.ref t5,V.ref t6,V.ref t7,V.ref t8])) hl3;have q10:=r10.trans r11;have q9:=r9.trans q10;have q8:=r8.trans q9;have q7:=r7.trans q8;have q6:=r6.trans q7;have q5:=r5.trans q6;have q4:=r4.trans q5;have q3:=r3.trans q4;have q2:=r2.trans q3;have q1:=r1.trans q2;have p4:=((r1.trans r2).trans r3).trans r4;have p5:=p4.trans r5;have p6:=p5.trans r6;have p7:=p6.trans r7;have p8:=p7.trans r8;refine⟨_,rfl,kd,8,rfl,rfl,?_⟩;have cs:kd=8∨kd=9∨kd=10∨kd=11∨kd=12∨kd=13∨kd=14∨kd=15:=(by omega);have bb:-100000≤b*1000-c∧b*1000-c≤100000:=(by obtain⟨_,_⟩:=hb;obtain⟨_,_⟩:=hc;omega);rcases cs with rfl|rfl|rfl|rfl|rfl|rfl|rfl|rfl
    ·exact⟨l3,_,_,.ref t1,rfl,rfl,SqL.of ah,rfl,k t1 (.copy a b) _ q1 h1 (q2 _ _ ah) ⟨ha,hb⟩⟩
    ·exact⟨l3,_,_,.ref t2,rfl,rfl,SqL.of ah,rfl,k t2 (.drop a) _ q1 (aE.none r1 h2) (q3 _ _ ah) ha⟩
    ·exact⟨l3,_,_,.ref t3,rfl,rfl,SqL.of ah,rfl,k t3 (.number a (b*1000-c)) _ q1 (aE.none (r1.trans r2) h3) (q4 _ _ ah) ⟨ha,bb.1,bb.2⟩⟩
    ·exact⟨l3,_,_,.ref t4,rfl,rfl,SqL.of ah,rfl,k t4 (.name b a) _ q1 (aE.none ((r1.trans r2).trans r3) h4) (q5 _ _ ah) ⟨hb,ha⟩⟩
    ·exact⟨l3,_,_,.ref t5,rfl,rfl,SqL.of ah,rfl,k t5 (.read a b) _ q1 (aE.none p5 h5) (q7 _ _ ah) ⟨ha,hb⟩⟩
    ·exact⟨l3,_,_,.ref t6,rfl,rfl,SqL.of ah,rfl,k t6 (.word a (n-30000)) _ q1 (aE.none p6 h6) (q8 _ _ ah) ⟨ha,by omega,by omega⟩⟩
    ·exact⟨l3,_,_,.ref t7,rfl,rfl,SqL.of ah,rfl,k t7 .small _ q1 (aE.none p7 h7) (q9 _ _ ah) True.intro⟩
    ·exact⟨l3,_,_,.ref t8,rfl,rfl,SqL.of ah,rfl,k t8 .turn _ q1 (aE.none p8 h8) (q10 _ _ ah) True.intro⟩
noncomputable def sU(s:HS):Re:=if s.rnd=true then Pq s else xo s
noncomputable def dDo(s:HS):Dd→Re
 | .make h n=>jM s h n
 | .store g k h=>gk s g k h
 | .load h g k=>jO s h g k
 | .copy h g=>oe s h g
 | .drop h=>qv s h
 | .number h x=>gF s h x
 | .name w h=>kX s w h
 | .read h w=>ju s h w
 | .word h x=>jP s h x
 | .small=>(none,kg s)
 | .turn=>sU s
noncomputable def ON:Er→Str
 | .hand => "BadHand"
 | .name => "BadName"
 | .field => "BadField"
 | .count => "BadCount"
 | .room => "NoRoom"
 | .words => "TooManyWords"
 | .on => "RoundOn"
 | .no => "NoRound"
noncomputable def wdV:Option Er→V
 | none=>.non
 | some e=>.str (ON e)
noncomputable def MS(D:Ad):Sp:=λvs H Q E=>∃ x A s q dd,vs=[.ref x,.ref q]∧IH D H x A s∧Gd s∧s.nxt<10000∧H q=some (.tup (Dd.its dd))∧dd.ok∧Fin D x A s H (dDo s dd) Q E
noncomputable abbrev JM:List Str:=["hall", "deed"]
theorem HZ:aw JM ["hall", "deed"] (ar rW):=fsc
theorem Ia(F:Fun K "_law_plain" "_law_plain" rW D.fz D.k7)(T:Txt K mg D)
  (l9:Ok P w K mg base 8 D.dA D.hG ["self", "h", "n"] (MQ D))
  (sE:Ok P w K mg base 7 D.eN D.k6 ["self", "g", "k", "h"] (MG D))
  (vm:Ok P w K mg base 7 D.fQ D.mN ["self", "h", "g", "k"] (Pf D))
  (vo:Ok P w K mg base 6 D.fR D.mO ["self", "h", "g"] (Pb D))
  (vp:Ok P w K mg base 5 D.fS D.mP ["self", "h"] (Pc D))
  (qI:Ok P w K mg base 6 D.dM D.jJ ["self", "h", "x"] (Jg D))
  (vq:Ok P w K mg base 7 D.fT D.mQ ["self", "w", "h"] (Pd D))
  (me:Ok P w K mg base 7 D.dB D.hJ ["self", "h", "w"] (MR D))
  (vt:Ok P w K mg base 7 D.fU D.mT ["self", "h", "x"] (Pe D))
  (cc:Ok P w K mg base 5 D.bI D.dI ["self"] (Cb D))
  (ck:Ok P w K mg base 1 D.br D.dq ["self"] (OM D))
  (nz:Ok P w K mg base 4 D.dU D.iL ["self"] (S9 D))
  (kO:Ok P w K mg base 6 D.cN D.gy ["self"] (S8 D)):Ok P w K mg base 9 D.fz D.k7 ["hall", "deed"] (MS D):=by
 refine F.oa HZ F.b2 λcdv A' outer s' H vs Q E hr h=>?_;obtain⟨x,A,s,q,dd,rfl,J,Gs,hnx,hq,hok,k⟩:=h;refine⟨_,(ai (cj (aJ nM (cg bY (pv 1) av (λ_ _=>rfl)) bh (bN _))
   (ai (aG (l9.m hr (pv 0) T.ab T.zN px (ae (cg bY (pv 1) av (λ_ _=>rfl)) (ae (cg bY (pv 1) av (λ_ _=>rfl)) aq)))))
   (ai (cj (aJ nM (cg bY (pv 1) av (λ_ _=>rfl)) bh (bN _))
    (ai (aG (sE.m hr (pv 0) T.ab T.xE px (ae (cg bY (pv 1) av (λ_ _=>rfl)) (ae (cg bY (pv 1) av (λ_ _=>rfl)) (ae (cg bY (pv 1) av (λ_ _=>rfl)) aq))))))
    (ai (cj (aJ nM (cg bY (pv 1) av (λ_ _=>rfl)) bh (bN _))
     (ai (aG (vm.m hr (pv 0) T.ab T.zH px (ae (cg bY (pv 1) av (λ_ _=>rfl)) (ae (cg bY (pv 1) av (λ_ _=>rfl)) (ae (cg bY (pv 1) av (λ_ _=>rfl)) aq))))))
     (ai (cj (aJ nM (cg bY (pv 1) av (λ_ _=>rfl)) bh (bN _))
      (ai (aG (vo.m hr (pv 0) T.ab T.zI px (ae (cg bY (pv 1) av (λ_ _=>rfl)) (ae (cg bY (pv 1) av (λ_ _=>rfl)) aq)))))
      (ai (cj (aJ nM (cg bY (pv 1) av (λ_ _=>rfl)) bh (bN _))
       (ai (aG (vp.m hr (pv 0) T.ab T.zJ px (ae (cg bY (pv 1) av (λ_ _=>rfl)) aq))))
       (ai (cj (aJ nM (cg bY (pv 1) av (λ_ _=>rfl)) bh (bN _))
        (ai (aG (qI.m hr (pv 0) T.ab T.vD px (ae (cg bY (pv 1) av (λ_ _=>rfl)) (ae (cg bY (pv 1) av (λ_ _=>rfl)) aq)))))
        (ai (cj (aJ nM (cg bY (pv 1) av (λ_ _=>rfl)) bh (bN _))
         (ai (aG (vq.m hr (pv 0) T.ab T.zK px (ae (cg bY (pv 1) av (λ_ _=>rfl)) (ae (cg bY (pv 1) av (λ_ _=>rfl)) aq)))))
         (ai (cj (aJ nM (cg bY (pv 1) av (λ_ _=>rfl)) bh (bN _))
          (ai (aG (me.m hr (pv 0) T.ab T.zO px (ae (cg bY (pv 1) av (λ_ _=>rfl)) (ae (cg bY (pv 1) av (λ_ _=>rfl)) aq)))))
          (ai (cj (aJ nM (cg bY (pv 1) av (λ_ _=>rfl)) bh (bN _))
           (ai (aG (vt.m hr (pv 0) T.ab T.zM px (ae (cg bY (pv 1) av (λ_ _=>rfl)) (ae (cg bY (pv 1) av (λ_ _=>rfl)) aq)))))
           (ai (cj (aJ nM (cg bY (pv 1) av (λ_ _=>rfl)) bh (bN _))
            (ai (aG (cc.m0 hr (pv 0) T.ab T.jY px)))
            (ai (cj (pA (ck.m0 hr (pv 0) T.ab T.iO px))
             (ai (aG (nz.m0 hr (pv 0) T.ab T.Cp px)))
             (ai (aG (kO.m0 hr (pv 0) T.ab T.xF px))))))))))))))))))))))))),?_⟩
 have G:=Gs.g;cases dd with
 | make h n =>
  replace hq:H q=some (.tup [.str "make",.int h,.int n]):=hq;obtain⟨⟨h0,h1⟩,n0,n1⟩:=hok;refine⟨_,rfl,q,_,0,.str "make",rfl,rfl,SqT.of hq,rfl,rfl,_,rfl,aY (λ_=>?_) (λz=>absurd (by decide +kernel) z)⟩;exact⟨_,rfl,x,_,_,rfl,J.ax,(by kernel_rfl),_,rfl,q,_,1,.int h,rfl,rfl,SqT.of hq,rfl,_,rfl,q,_,2,.int n,rfl,rfl,SqT.of hq,rfl,x,A,s,h,n,rfl,J,Gs,hnx,Sm.of (by omega) (by omega),Sm.of (by omega) (by omega),k⟩
 | store g kk h =>
  replace hq:H q=some (.tup [.str "store",.int g,.int kk,.int h]):=hq;obtain⟨⟨g0,g1⟩,k0,k1,h0,h1⟩:=hok;refine⟨_,rfl,q,_,0,.str "store",rfl,rfl,SqT.of hq,rfl,rfl,_,rfl,aY (λz=>absurd z (by decide +kernel)) (λ_=>?_)⟩;refine⟨_,rfl,q,_,0,.str "store",rfl,rfl,SqT.of hq,rfl,rfl,_,rfl,aY (λ_=>?_) (λz=>absurd (by decide +kernel) z)⟩;exact⟨_,rfl,x,_,_,rfl,J.ax,(by kernel_rfl),_,rfl,q,_,1,.int g,rfl,rfl,SqT.of hq,rfl,_,rfl,q,_,2,.int kk,rfl,rfl,SqT.of hq,rfl,_,rfl,q,_,3,.int h,rfl,rfl,SqT.of hq,rfl,x,A,s,g,kk,h,rfl,J,G,Sm.of (by omega) (by omega),Sm.of (by omega) (by omega),Sm.of (by omega) (by omega),k⟩
 | load h g kk =>
  replace hq:H q=some (.tup [.str "load",.int h,.int g,.int kk]):=hq;obtain⟨⟨h0,h1⟩,⟨g0,g1⟩,k0,k1⟩:=hok;refine⟨_,rfl,q,_,0,.str "load",rfl,rfl,SqT.of hq,rfl,rfl,_,rfl,aY (λz=>absurd z (by decide +kernel)) (λ_=>?_)⟩;refine⟨_,rfl,q,_,0,.str "load",rfl,rfl,SqT.of hq,rfl,rfl,_,rfl,aY (λz=>absurd z (by decide +kernel)) (λ_=>?_)⟩;refine⟨_,rfl,q,_,0,.str "load",rfl,rfl,SqT.of hq,rfl,rfl,_,rfl,aY (λ_=>?_) (λz=>absurd (by decide +kernel) z)⟩;exact⟨_,rfl,x,_,_,rfl,J.ax,(by kernel_rfl),_,rfl,q,_,1,.int h,rfl,rfl,SqT.of hq,rfl,_,rfl,q,_,2,.int g,rfl,rfl,SqT.of hq,rfl,_,rfl,q,_,3,.int kk,rfl,rfl,SqT.of hq,rfl,x,A,s,h,g,kk,rfl,J,G,Sm.of (by omega) (by omega),Sm.of (by omega) (by omega),Sm.of (by omega) (by omega),k⟩
 | copy h g =>
  replace hq:H q=some (.tup [.str "copy",.int h,.int g]):=hq;obtain⟨⟨h0,h1⟩,g0,g1⟩:=hok;refine⟨_,rfl,q,_,0,.str "copy",rfl,rfl,SqT.of hq,rfl,rfl,_,rfl,aY (λz=>absurd z (by decide +kernel)) (λ_=>?_)⟩;refine⟨_,rfl,q,_,0,.str "copy",rfl,rfl,SqT.of hq,rfl,rfl,_,rfl,aY (λz=>absurd z (by decide +kernel)) (λ_=>?_)⟩;refine⟨_,rfl,q,_,0,.str "copy",rfl,rfl,SqT.of hq,rfl,rfl,_,rfl,aY (λz=>absurd z (by decide +kernel)) (λ_=>?_)⟩;refine⟨_,rfl,q,_,0,.str "copy",rfl,rfl,SqT.of hq,rfl,rfl,_,rfl,aY (λ_=>?_) (λz=>absurd (by decide +kernel) z)⟩;exact⟨_,rfl,x,_,_,rfl,J.ax,(by kernel_rfl),_,rfl,q,_,1,.int h,rfl,rfl,SqT.of hq,rfl,_,rfl,q,_,2,.int g,rfl,rfl,SqT.of hq,rfl,x,A,s,h,g,rfl,J,G,Sm.of (by omega) (by omega),Sm.of (by omega) (by omega),k⟩
 | drop h =>
  replace hq:H q=some (.tup [.str "drop",.int h]):=hq;obtain⟨h0,h1⟩:=hok;refine⟨_,rfl,q,_,0,.str "drop",rfl,rfl,SqT.of hq,rfl,rfl,_,rfl,aY (λz=>absurd z (by decide +kernel)) (λ_=>?_)⟩;refine⟨_,rfl,q,_,0,.str "drop",rfl,rfl,SqT.of hq,rfl,rfl,_,rfl,aY (λz=>absurd z (by decide +kernel)) (λ_=>?_)⟩;refine⟨_,rfl,q,_,0,.str "drop",rfl,rfl,SqT.of hq,rfl,rfl,_,rfl,aY (λz=>absurd z (by decide +kernel)) (λ_=>?_)⟩;refine⟨_,rfl,q,_,0,.str "drop",rfl,rfl,SqT.of hq,rfl,rfl,_,rfl,aY (λz=>absurd z (by decide +kernel)) (λ_=>?_)⟩;refine⟨_,rfl,q,_,0,.str "drop",rfl,rfl,SqT.of hq,rfl,rfl,_,rfl,aY (λ_=>?_) (λz=>absurd (by decide +kernel) z)⟩;exact⟨_,rfl,x,_,_,rfl,J.ax,(by kernel_rfl),_,rfl,q,_,1,.int h,rfl,rfl,SqT.of hq,rfl,x,A,s,h,rfl,J,G,Sm.of (by omega) (by omega),k⟩
 | number h z =>
  replace hq:H q=some (.tup [.str "number",.int h,.int z]):=hq;obtain⟨⟨h0,h1⟩,z0,z1⟩:=hok;refine⟨_,rfl,q,_,0,.str "number",rfl,rfl,SqT.of hq,rfl,rfl,_,rfl,aY (λz=>absurd z (by decide +kernel)) (λ_=>?_)⟩;refine⟨_,rfl,q,_,0,.str "number",rfl,rfl,SqT.of hq,rfl,rfl,_,rfl,aY (λz=>absurd z (by decide +kernel)) (λ_=>?_)⟩;refine⟨_,rfl,q,_,0,.str "number",rfl,rfl,SqT.of hq,rfl,rfl,_,rfl,aY (λz=>absurd z (by decide +kernel)) (λ_=>?_)⟩;refine⟨_,rfl,q,_,0,.str "number",rfl,rfl,SqT.of hq,rfl,rfl,_,rfl,aY (λz=>absurd z (by decide +kernel)) (λ_=>?_)⟩;refine⟨_,rfl,q,_,0,.str "number",rfl,rfl,SqT.of hq,rfl,rfl,_,rfl,aY (λz=>absurd z (by decide +kernel)) (λ_=>?_)⟩;refine⟨_,rfl,q,_,0,.str "number",rfl,rfl,SqT.of hq,rfl,rfl,_,rfl,aY (λ_=>?_) (λz=>absurd (by decide +kernel) z)⟩;exact⟨_,rfl,x,_,_,rfl,J.ax,(by kernel_rfl),_,rfl,q,_,1,.int h,rfl,rfl,SqT.of hq,rfl,_,rfl,q,_,2,.int z,rfl,rfl,SqT.of hq,rfl,x,A,s,h,z,rfl,J,G,Sm.of (by omega) (by omega),Sm.of (by omega) (by omega),k⟩
 | name w h =>
  replace hq:H q=some (.tup [.str "name",.int w,.int h]):=hq;obtain⟨⟨w0,w1⟩,h0,h1⟩:=hok;refine⟨_,rfl,q,_,0,.str "name",rfl,rfl,SqT.of hq,rfl,rfl,_,rfl,aY (λz=>absurd z (by decide +kernel)) (λ_=>?_)⟩;refine⟨_,rfl,q,_,0,.str "name",rfl,rfl,SqT.of hq,rfl,rfl,_,rfl,aY (λz=>absurd z (by decide +kernel)) (λ_=>?_)⟩;refine⟨_,rfl,q,_,0,.str "name",rfl,rfl,SqT.of hq,rfl,rfl,_,rfl,aY (λz=>absurd z (by decide +kernel)) (λ_=>?_)⟩;refine⟨_,rfl,q,_,0,.str "name",rfl,rfl,SqT.of hq,rfl,rfl,_,rfl,aY (λz=>absurd z (by decide +kernel)) (λ_=>?_)⟩;refine⟨_,rfl,q,_,0,.str "name",rfl,rfl,SqT.of hq,rfl,rfl,_,rfl,aY (λz=>absurd z (by decide +kernel)) (λ_=>?_)⟩;refine⟨_,rfl,q,_,0,.str "name",rfl,rfl,SqT.of hq,rfl,rfl,_,rfl,aY (λz=>absurd z (by decide +kernel)) (λ_=>?_)⟩;refine⟨_,rfl,q,_,0,.str "name",rfl,rfl,SqT.of hq,rfl,rfl,_,rfl,aY (λ_=>?_) (λz=>absurd (by decide +kernel) z)⟩;exact⟨_,rfl,x,_,_,rfl,J.ax,(by kernel_rfl),_,rfl,q,_,1,.int w,rfl,rfl,SqT.of hq,rfl,_,rfl,q,_,2,.int h,rfl,rfl,SqT.of hq,rfl,x,A,s,w,h,rfl,J,G,Sm.of (by omega) (by omega),Sm.of (by omega) (by omega),k⟩
 | read h w =>
  replace hq:H q=some (.tup [.str "read",.int h,.int w]):=hq;obtain⟨⟨h0,h1⟩,w0,w1⟩:=hok;refine⟨_,rfl,q,_,0,.str "read",rfl,rfl,SqT.of hq,rfl,rfl,_,rfl,aY (λz=>absurd z (by decide +kernel)) (λ_=>?_)⟩;refine⟨_,rfl,q,_,0,.str "read",rfl,rfl,SqT.of hq,rfl,rfl,_,rfl,aY (λz=>absurd z (by decide +kernel)) (λ_=>?_)⟩;refine⟨_,rfl,q,_,0,.str "read",rfl,rfl,SqT.of hq,rfl,rfl,_,rfl,aY (λz=>absurd z (by decide +kernel)) (λ_=>?_)⟩;refine⟨_,rfl,q,_,0,.str "read",rfl,rfl,SqT.of hq,rfl,rfl,_,rfl,aY (λz=>absurd z (by decide +kernel)) (λ_=>?_)⟩;refine⟨_,rfl,q,_,0,.str "read",rfl,rfl,SqT.of hq,rfl,rfl,_,rfl,aY (λz=>absurd z (by decide +kernel)) (λ_=>?_)⟩;refine⟨_,rfl,q,_,0,.str "read",rfl,rfl,SqT.of hq,rfl,rfl,_,rfl,aY (λz=>absurd z (by decide +kernel)) (λ_=>?_)⟩;refine⟨_,rfl,q,_,0,.str "read",rfl,rfl,SqT.of hq,rfl,rfl,_,rfl,aY (λz=>absurd z (by decide +kernel)) (λ_=>?_)⟩;refine⟨_,rfl,q,_,0,.str "read",rfl,rfl,SqT.of hq,rfl,rfl,_,rfl,aY (λ_=>?_) (λz=>absurd (by decide +kernel) z)⟩;exact⟨_,rfl,x,_,_,rfl,J.ax,(by kernel_rfl),_,rfl,q,_,1,.int h,rfl,rfl,SqT.of hq,rfl,_,rfl,q,_,2,.int w,rfl,rfl,SqT.of hq,rfl,x,A,s,h,w,rfl,J,G,Sm.of (by omega) (by omega),Sm.of (by omega) (by omega),k⟩
 | word h z =>
  replace hq:H q=some (.tup [.str "word",.int h,.int z]):=hq;obtain⟨⟨h0,h1⟩,z0,z1⟩:=hok;refine⟨_,rfl,q,_,0,.str "word",rfl,rfl,SqT.of hq,rfl,rfl,_,rfl,aY (λz=>absurd z (by decide +kernel)) (λ_=>?_)⟩;refine⟨_,rfl,q,_,0,.str "word",rfl,rfl,SqT.of hq,rfl,rfl,_,rfl,aY (λz=>absurd z (by decide +kernel)) (λ_=>?_)⟩;refine⟨_,rfl,q,_,0,.str "word",rfl,rfl,SqT.of hq,rfl,rfl,_,rfl,aY (λz=>absurd z (by decide +kernel)) (λ_=>?_)⟩;refine⟨_,rfl,q,_,0,.str "word",rfl,rfl,SqT.of hq,rfl,rfl,_,rfl,aY (λz=>absurd z (by decide +kernel)) (λ_=>?_)⟩;refine⟨_,rfl,q,_,0,.str "word",rfl,rfl,SqT.of hq,rfl,rfl,_,rfl,aY (λz=>absurd z (by decide +kernel)) (λ_=>?_)⟩;refine⟨_,rfl,q,_,0,.str "word",rfl,rfl,SqT.of hq,rfl,rfl,_,rfl,aY (λz=>absurd z (by decide +kernel)) (λ_=>?_)⟩;refine⟨_,rfl,q,_,0,.str "word",rfl,rfl,SqT.of hq,rfl,rfl,_,rfl,aY (λz=>absurd z (by decide +kernel)) (λ_=>?_)⟩;refine⟨_,rfl,q,_,0,.str "word",rfl,rfl,SqT.of hq,rfl,rfl,_,rfl,aY (λz=>absurd z (by decide +kernel)) (λ_=>?_)⟩;refine⟨_,rfl,q,_,0,.str "word",rfl,rfl,SqT.of hq,rfl,rfl,_,rfl,aY (λ_=>?_) (λz=>absurd (by decide +kernel) z)⟩;exact⟨_,rfl,x,_,_,rfl,J.ax,(by kernel_rfl),_,rfl,q,_,1,.int h,rfl,rfl,SqT.of hq,rfl,_,rfl,q,_,2,.int z,rfl,rfl,SqT.of hq,rfl,x,A,s,h,z,rfl,J,G,Sm.of (by omega) (by omega),Sm.of (by omega) (by omega),k⟩
 | small =>
  replace hq:H q=some (.tup [.str "small"]):=hq;refine⟨_,rfl,q,_,0,.str "small",rfl,rfl,SqT.of hq,rfl,rfl,_,rfl,aY (λz=>absurd z (by decide +kernel)) (λ_=>?_)⟩;refine⟨_,rfl,q,_,0,.str "small",rfl,rfl,SqT.of hq,rfl,rfl,_,rfl,aY (λz=>absurd z (by decide +kernel)) (λ_=>?_)⟩;refine⟨_,rfl,q,_,0,.str "small",rfl,rfl,SqT.of hq,rfl,rfl,_,rfl,aY (λz=>absurd z (by decide +kernel)) (λ_=>?_)⟩;refine⟨_,rfl,q,_,0,.str "small",rfl,rfl,SqT.of hq,rfl,rfl,_,rfl,aY (λz=>absurd z (by decide +kernel)) (λ_=>?_)⟩;refine⟨_,rfl,q,_,0,.str "small",rfl,rfl,SqT.of hq,rfl,rfl,_,rfl,aY (λz=>absurd z (by decide +kernel)) (λ_=>?_)⟩;refine⟨_,rfl,q,_,0,.str "small",rfl,rfl,SqT.of hq,rfl,rfl,_,rfl,aY (λz=>absurd z (by decide +kernel)) (λ_=>?_)⟩;refine⟨_,rfl,q,_,0,.str "small",rfl,rfl,SqT.of hq,rfl,rfl,_,rfl,aY (λz=>absurd z (by decide +kernel)) (λ_=>?_)⟩;refine⟨_,rfl,q,_,0,.str "small",rfl,rfl,SqT.of hq,rfl,rfl,_,rfl,aY (λz=>absurd z (by decide +kernel)) (λ_=>?_)⟩;refine⟨_,rfl,q,_,0,.str "small",rfl,rfl,SqT.of hq,rfl,rfl,_,rfl,aY (λz=>absurd z (by decide +kernel)) (λ_=>?_)⟩;refine⟨_,rfl,q,_,0,.str "small",rfl,rfl,SqT.of hq,rfl,rfl,_,rfl,aY (λ_=>?_) (λz=>absurd (by decide +kernel) z)⟩;exact⟨_,rfl,x,_,_,rfl,J.ax,(by kernel_rfl),x,A,s,rfl,J,G,λA' H' J' fr=>k A' H' J' fr⟩
 | turn =>
  replace hq:H q=some (.tup [.str "turn"]):=hq;refine⟨_,rfl,q,_,0,.str "turn",rfl,rfl,SqT.of hq,rfl,rfl,_,rfl,aY (λz=>absurd z (by decide +kernel)) (λ_=>?_)⟩;refine⟨_,rfl,q,_,0,.str "turn",rfl,rfl,SqT.of hq,rfl,rfl,_,rfl,aY (λz=>absurd z (by decide +kernel)) (λ_=>?_)⟩;refine⟨_,rfl,q,_,0,.str "turn",rfl,rfl,SqT.of hq,rfl,rfl,_,rfl,aY (λz=>absurd z (by decide +kernel)) (λ_=>?_)⟩;refine⟨_,rfl,q,_,0,.str "turn",rfl,rfl,SqT.of hq,rfl,rfl,_,rfl,aY (λz=>absurd z (by decide +kernel)) (λ_=>?_)⟩;refine⟨_,rfl,q,_,0,.str "turn",rfl,rfl,SqT.of hq,rfl,rfl,_,rfl,aY (λz=>absurd z (by decide +kernel)) (λ_=>?_)⟩;refine⟨_,rfl,q,_,0,.str "turn",rfl,rfl,SqT.of hq,rfl,rfl,_,rfl,aY (λz=>absurd z (by decide +kernel)) (λ_=>?_)⟩;refine⟨_,rfl,q,_,0,.str "turn",rfl,rfl,SqT.of hq,rfl,rfl,_,rfl,aY (λz=>absurd z (by decide +kernel)) (λ_=>?_)⟩;refine⟨_,rfl,q,_,0,.str "turn",rfl,rfl,SqT.of hq,rfl,rfl,_,rfl,aY (λz=>absurd z (by decide +kernel)) (λ_=>?_)⟩;refine⟨_,rfl,q,_,0,.str "turn",rfl,rfl,SqT.of hq,rfl,rfl,_,rfl,aY (λz=>absurd z (by decide +kernel)) (λ_=>?_)⟩;refine⟨_,rfl,q,_,0,.str "turn",rfl,rfl,SqT.of hq,rfl,rfl,_,rfl,aY (λz=>absurd z (by decide +kernel)) (λ_=>?_)⟩;replace k:Fin D x A s H (sU s) Q E:=k;refine⟨_,rfl,x,_,_,rfl,J.ax,(by kernel_rfl),x,A,s,rfl,J,_,rfl,?_⟩;by_cases c:s.rnd=true
  ·rw[show sU s=Pq s from if_pos c]at k
   exact sT c ⟨_,rfl,x,_,_,rfl,J.ax,(by kernel_rfl),x,A,s,rfl,J,Gs,k⟩
  ·rw[show sU s=xo s from if_neg c]at k
   exact sS (ajf.mpr c) ⟨_,rfl,x,_,_,rfl,J.ax,(by kernel_rfl),x,A,s,rfl,J,Gs,k⟩
theorem UQ(T:Txt K mg D)(fM:Ok0 P w K mg base 1 D.cC D.fB ["self"] (bC "BadHand"))(fN:Ok0 P w K mg base 1 D.cD D.fD ["self"] (bC "BadName"))(eV:Ok0 P w K mg base 1 D.b5 D.eS ["self"] (bC "BadField"))(eW:Ok0 P w K mg base 1 D.b6 D.eT ["self"] (bC "BadCount"))(gr:Ok0 P w K mg base 1 D.cY D.gi ["self"] (bC "NoRoom"))(cT:Ok0 P w K mg base 1 D.a5 D.cR ["self"] (bC "TooManyWords"))(fO:Ok0 P w K mg base 1 D.cE D.fE ["self"] (bC "RoundOn"))(fP:Ok0 P w K mg base 1 D.cF D.fF ["self"] (bC "NoRound"))(e:Er):(∃ cd,iy K (D.er e) cd∧cd.mro.contains (.ref D.aK)=true)∧Rq K (D.er e)∧SS P w K mg base (CXE P w) 1 "called" (D.er e) (bC (ON e)):=by
 cases e with
 | hand=>exact⟨T.Lm,T.j9.get,⟨_,_,_,T.Nw,fM.g,fM.b⟩⟩
 | name=>exact⟨T.Ln,T.zr.get,⟨_,_,_,T.Nz,fN.g,fN.b⟩⟩
 | field=>exact⟨T.Jq,T.vg.get,⟨_,_,_,T.Lq,eV.g,eV.b⟩⟩
 | count=>exact⟨T.Jp,T.qt.get,⟨_,_,_,T.Ll,eW.g,eW.b⟩⟩
 | room=>exact⟨T.NG,T.IX.get,⟨_,_,_,T.QM,gr.g,gr.b⟩⟩
 | words=>exact⟨T.Co,T.sN.get,⟨_,_,_,T.EF,cT.g,cT.b⟩⟩
 | on=>exact⟨T.Ls,T.GK.get,⟨_,_,_,T.NJ,fO.g,fO.b⟩⟩
 | no=>exact⟨T.Lu,T.GL.get,⟨_,_,_,T.NM,fP.g,fP.b⟩⟩
noncomputable def Pu(D:Ad):Sp:=λvs H Q E=>∃ x A s q dd,vs=[.ref x,.ref q]∧IH D H x A s∧Gd s∧s.nxt<10000∧H q=some (.tup (Dd.its dd))∧dd.ok∧∀ A' H',IH D H' x A' (dDo s dd).2→Fr (bR x A s) H (bR x A' (dDo s dd).2) H'→Q (wdV (dDo s dd).1) H'
noncomputable abbrev LI:List Str:=["hall", "deed", "word", "e"]
theorem og:aw LI ["hall", "deed"] (ar vc):=fsc
theorem JN(F:Fun K "_law_done" "_law_done" vc D.gH D.mV)(T:Txt K mg D)
  (oh:Ok P w K mg base 9 D.fz D.k7 ["hall", "deed"] (MS D))
  (fM:Ok0 P w K mg base 1 D.cC D.fB ["self"] (bC "BadHand"))
  (fN:Ok0 P w K mg base 1 D.cD D.fD ["self"] (bC "BadName"))
  (eV:Ok0 P w K mg base 1 D.b5 D.eS ["self"] (bC "BadField"))
  (eW:Ok0 P w K mg base 1 D.b6 D.eT ["self"] (bC "BadCount"))
  (gr:Ok0 P w K mg base 1 D.cY D.gi ["self"] (bC "NoRoom"))
  (cT:Ok0 P w K mg base 1 D.a5 D.cR ["self"] (bC "TooManyWords"))
  (fO:Ok0 P w K mg base 1 D.cE D.fE ["self"] (bC "RoundOn"))
  (fP:Ok0 P w K mg base 1 D.cF D.fF ["self"] (bC "NoRound")):Ok P w K mg base 10 D.gH D.mV ["hall", "deed"] (Pu D):=by
 refine F.oa og F.b2 λcdv A' outer s' H vs Q E hr h=>?_;obtain⟨x,A,s,q,dd,rfl,J,Gs,hnx,hq,hok,k⟩:=h;obtain⟨cdH,xH⟩:=T.h;refine⟨_,(ak (bp (i:=2) og.nd rfl (Or.inl rfl) kc)
  (ak (SH (i:=3) rfl rfl rfl rfl T.mH xH og.nd rfl rfl (λpins E' EK hp=>ai (aG (O2 oh.g (hr.mono (by decide)) rfl T.Jv T.sk oh.b .nil hp (ae (pv 0) (ae (pv 1) aq))))) (λea=>ai (bp (i:=2) og.nd rfl (Or.inl rfl) (show PE _ _ (KD P w K mg base (CXE P w) 1 "called" (λ_ _ _ _=>False) (T1 3)) from IV (k:=1) (CX:=CXE P w) (pv 3) ⟨(hr.r0 (show 1≤9 by decide)).dp,(hr.r0 (show 1≤9 by decide)).un⟩ Nn))))
  (ai (aM (pv 2))))),?_⟩
 refine⟨_,rfl,_,rfl,x,A,s,q,dd,rfl,J,Gs,hnx,hq,hok,λA1 H1 J1 fr=>?_⟩;cases e:(dDo s dd).1 with
 | none =>
  rw[e]at k;exact⟨_,rfl,k A1 H1 J1 fr⟩
 | some er =>
  rw[e]at k;obtain⟨⟨cd,xc,hm⟩,gt,md⟩:=UQ (P:=P) (w:=w) (base:=base) T fM fN eV eW gr cT fO fP er;refine⟨D.er er,cd,rfl,xc,hm,λea hea=>⟨.ref ea,rfl,false,ea,D.er er,bC (ON er),rfl,ah,gt,md,_,rfl,?_⟩⟩;have s1:=aE.upd (o:=exo false (D.er er) ea none) hea;exact⟨_,rfl,k A1 _ (J1.same s1) (fr.trans (Fr.same s1))⟩
end
end K13
end
section
namespace L2
open PySem PySem.Spec PyProof.Rows LX
theorem WG{X:Cx}{i:Nat}{x:Str}{st:Stmt}{t0 t1 t2:TE}(hh:∃ es p q1 q2,st=.Assign [.Name x q1] (.List es p) q2∧∃ e0 e1 e2,es=[e0,e1,e2]∧(PE X e0 t0∧nsE e0=true)∧(PE X e1 t1∧nsE e1=true)∧(PE X e2 t2∧nsE e2=true))(hN:X.N.Nodup)(hi:X.N[i]?=some x)(hx:Loc X.env.scope x)(hf:X.fn x=true∨X.env.scope.names.lookup x=some .local) :
  PS X st (Sr (ZX (qr t0 (qr t1 (qr t2 Ni)))) (qo i)):=by
 obtain⟨es,p,q1,q2,rfl,e0,e1,e2,rfl,⟨h0,n0⟩,⟨h1,n1⟩,⟨h2,n2⟩⟩:=hh;exact UB hN hi hx (ke (iQ h0 (iQ h1 (iQ h2 aq n2) n1) n0)) hf
theorem hX{H:Hp}{l:Addr}{o:HO}(_:aE H (upd H l o)):upd H l o l=some o:=ah
end L2
end
section
namespace K13
open PySem L2 LX
section
variable{P:Program}{w:World}{K:W.Frag}{mg:Str→Option Value}{base:Heap}{D:Ad}
noncomputable def rmA(hd:Int):Int:=([14,0,7,9,30,64]:List Int).getD (hd%6).toNat 0
noncomputable def lmA(hd:Int):Int:=([400,60,120]:List Int).getD (hd/6%3).toNat 0
noncomputable def rl(o:Option Int):Int×Int:=match o with
 | none=>(rmA 0,lmA 0)
 | some z=>(rmA (z/2%1000003),lmA (z/2%1000003))
theorem WH{hd:Int}(h:0≤hd):atI [V.int 14,V.int 0,V.int 7,V.int 9,V.int 30,V.int 64] (hd%6)=some (.int (rmA hd))∧(rmA hd=0∨(7≤rmA hd∧rmA hd≤64)):=by
 unfold rmA;have h1:=ajE hd (show(6:Int)≠0 by decide);have h2:=ajF hd (show(0:Int)<6 by decide);generalize hd%6=c at h1 h2;rcases(show c=0∨c=1∨c=2∨c=3∨c=4∨c=5 by omega) with rfl|rfl|rfl|rfl|rfl|rfl<;>exact⟨rfl,by decide⟩
theorem WI{hd:Int}(h:0≤hd):atI [V.int 400,V.int 60,V.int 120] (hd/6%3)=some (.int (lmA hd))∧7≤lmA hd∧lmA hd≤400:=by
 unfold lmA;have h1:=ajE (hd/6) (show(3:Int)≠0 by decide);have h2:=ajF (hd/6) (show(0:Int)<3 by decide);generalize hd/6%3=c at h1 h2;rcases(show c=0∨c=1∨c=2 by omega) with rfl|rfl|rfl<;>exact⟨rfl,by decide,by decide⟩
noncomputable def Pw(D:Ad)(K:W.Frag):Sp:=λvs H Q _=>∃(a:Addr) (ns:List Int),vs=[.ref a]∧SqL K H a (ns.map V.int)∧∀ x A room limit H',aE H H'→(∀ b,bR x A (s0 (decide (room>0)) room limit) b→H b=none)→IH D H' x A (s0 (decide (room>0)) room limit)→((room,limit)=rl (ns.head?))→Q (.ref x) H'
noncomputable abbrev LJ:List Str:=["script", "head"]
theorem sG:aw LJ ["script"] (ar ve):=fsc
theorem JO(F:Fun K "_law_heap" "_law_heap" ve D.gI D.mW)(T:Txt K mg D)
  (gu:Ok P w K mg base 4 D.bL D.eJ ["self", "young", "limit"] (xm D)):Ok P w K mg base 6 D.gI D.mW ["script"] (Pw D K):=by
 refine F.oa sG F.b1 λcdv A' outer s' H vs Q E hr h=>?_;obtain⟨a,ns,rfl,hS,k⟩:=h;refine⟨_,(PSs.nox (ak (bp (i:=1) sG.nd rfl (Or.inl rfl) av)
  (ak (cj (aJ KP (eh iF rfl T.B7 PyProof.Rows.Boot.«len» (ae (pv 0) aq)) av (bN _))
   (ai (bp (i:=1) sG.nd rfl (Or.inl rfl) (eE mh (eE wY (cg iW (pv 0) av (λ_ _=>rfl)) av) av)))
   aU)
  (ai (aM (T5 T.si gu.g (hr.mono (by decide)) rfl T.Jt gu.b .nil WA (ae (cg iW (ke (ae av (ae av (ae av (ae av (ae av (ae av aq))))))) (eE mh (pv 1) av) (λ_ _=>rfl)) (ae (cg iW (ke (ae av (ae av (ae av aq)))) (eE mh (eE wY (pv 1) av) av) (λ_ _=>rfl)) aq)))))))),?_⟩
 refine gE λN0 hN0=>?_;refine hN0 _ _ ?_;refine gE λN hN=>?_;have fin:∀ hd:Int,0≤hd→rl ns.head?=(rmA hd,lmA hd)→N [some (.ref a),some (.int hd)] H:=by
  intro hd h0 er;refine hN _ _ ?_;obtain⟨hv1,y1⟩:=WH h0;obtain⟨hv2,y2,y3⟩:=WI h0;refine⟨by show 6≤sizeLine;decide,λp hp=>⟨_,rfl,hd,6,rfl,rfl,(by show(0:Int)<6;decide),p,_,_,_,rfl,rfl,SqL.of ah,hv1,by show 3≤sizeLine;decide,λq hq=>⟨_,rfl,hd,6,rfl,rfl,⟨by decide,by decide⟩,_,3,rfl,rfl,(by show(0:Int)<3;decide),q,_,_,_,rfl,rfl,SqL.of ah,hv2,?_⟩⟩⟩;have a1:=(aE.upd (o:=.lst [V.int 14,V.int 0,V.int 7,V.int 9,V.int 30,V.int 64]) hp).trans (aE.upd (o:=.lst [V.int 400,V.int 60,V.int 120]) hq);intro x dx hx hdx nd;refine⟨x,dx,_,_,rfl,ah,y1,y2,y3,λA H1 J0 B0 F0=>⟨rfl,?_⟩⟩;refine k x A _ _ H1 (λb u q=>?_) (λb fb=>?_) J0 er.symm
  ·have q1:=a1 _ _ q
   exact B0 b u (au q1 hx) (by rw[ag (au q1 hx),ag (au q1 hdx)];exact q1)
  ·rcases F0 b fb with e|e
   ·rw[e];exact aE.none a1 hx
   ·refine aE.none a1 ?_
    by_cases c:b=x
    ·rw[c];exact hx
    ·by_cases c2:b=dx
     ·rw[c2];exact hdx
     ·rw[ag c,ag c2]at e;exact e
 refine⟨_,rfl,a,_,rfl,.inl hS,_,0,rfl,rfl,_,rfl,aY (λh=>?_) (λh=>?_)⟩
 ·have hl:0<ns.length:=by
   have:=of_decide_eq_true h
   rw[aiI]at this;omega
  have h0:atI (ns.map V.int) 0=some (.int (ns[0]'hl)):=pK (j:=0) (by rw[aiW,aiK hl];rfl);refine⟨_,rfl,a,_,0,_,rfl,rfl,hS,h0,_,2,rfl,rfl,⟨by decide,by decide⟩,_,1000003,rfl,rfl,(by show(0:Int)<1000003;decide),?_⟩;refine fin _ (ajE _ (by decide)) ?_;rw[show ns.head?=some ns[0] by rw[List.head?_eq_getElem?,aiK hl]];rfl
 ·have hl:ns=[]:=by
   cases ns with
   | nil=>rfl
   | cons z r=>exact absurd (decide_eq_true (by rw[aiI,ajt];omega)) h
  exact fin 0 (ajj _) (by rw[hl];rfl)
noncomputable def MT(K:W.Frag):Sp:=λvs H Q _=>∃(a:Addr) (ns:List Int) (m:Int),vs=[.ref a,.int m]∧SqL K H a (ns.map V.int)∧ns.length≤63∧∀ p dv H',aE H H'→H p=none→H' p=some (.lst dv)→dv.length≤203∧(0≤m→dv.length≤3+m.toNat)→(∀ v∈dv,∃ q dd,v=.ref q∧H' q=some (.tup (Dd.its dd))∧dd.ok)→Q (.ref p) H'
noncomputable abbrev jw:List Str:=["script", "most", "deeds"]
theorem xr:aw jw ["script", "most"] (ar bE):=fsc
theorem Ib(F:Fun K "_law_deeds" "_law_deeds" bE D.cJ D.k8)(T:Txt K mg D)
  (vv:Ok P w K mg base 1 D.gG D.mU ["number"] (Pt))
  (pk:Ok P w K mg base 2 D.dQ D.jb ["script", "most"] (GU K)):Ok P w K mg base 3 D.cJ D.k8 ["script", "most"] (MT K):=by
 refine F.oa xr F.b2 λcdv A' outer s' H vs Q E hr h=>?_;obtain⟨a,ns,m,rfl,hS,hlen,k⟩:=h;have hh0:∃ es p q1 q2,(bo bE).getD 0 (.Pass ⟨0,0,0,0⟩)=.Assign [.Name "deeds" q1] (.List es p) q2∧∃ e0 e1 e2,es=[e0,e1,e2]∧(PE (cxE P w K mg base jw "_law_deeds" (ar bE) D.cJ cdv A' outer s' H E).nox e0 (Vn (qr (tC (.str "make")) (qr (tC (.int 0)) (qr (tC (.int 3)) Ni))))∧nsE e0=true)∧(PE (cxE P w K mg base jw "_law_deeds" (ar bE) D.cJ cdv A' outer s' H E).nox e1 (Vn (qr (tC (.str "make")) (qr (tC (.int 1)) (qr (tC (.int 2)) Ni))))∧nsE e1=true)∧(PE (cxE P w K mg base jw "_law_deeds" (ar bE) D.cJ cdv A' outer s' H E).nox e2 (Vn (qr (tC (.str "make")) (qr (tC (.int 2)) (qr (tC (.int 2)) Ni))))∧nsE e2=true):=⟨_,_,_,_,rfl,_,_,_,rfl,⟨iu (iQ bh (iQ av (iQ av aq))),rfl⟩,⟨iu (iQ bh (iQ av (iQ av aq))),rfl⟩,⟨iu (iQ bh (iQ av (iQ av aq))),rfl⟩⟩;have S1:PS (cxE P w K mg base jw "_law_deeds" (ar bE) D.cJ cdv A' outer s' H E).nox ((bo bE).getD 1 (.Pass ⟨0,0,0,0⟩)) _:=(aM (eE Cm (pv 2) (Cn (cl:=[]) (x := "number") (idx:=[]) (NC:=["number"]) (by exact jc (sc:=ar bE) (N:=jw) (ns:=[]) rfl rfl rfl (by decide +kernel) rfl rfl (by intro q hq;cases hq)) rfl (iw (pk.c hr T.FC T.oZ dS (ae (pv 0) (ae (pv 1) aq)))) (λC fp s₀ H₀=>(vv.c hr T.Lv T.vh Nn (ae (pv 0) aq))))));have hb:bo bE=[(bo bE).getD 0 (.Pass ⟨0,0,0,0⟩),(bo bE).getD 1 (.Pass ⟨0,0,0,0⟩)]:=rfl;generalize (bo bE).getD 0 (.Pass ⟨0,0,0,0⟩)=st0 at hh0 hb;have S0:=WG (i:=2) hh0 xr.nd rfl (Or.inl rfl) (.inl rfl);generalize (bo bE).getD 1 (.Pass ⟨0,0,0,0⟩)=st1 at S1 hb;generalize bo bE=bd at hb ⊢;subst hb;refine⟨_,(PSs.nox (ak S0 (ai S1))),?_⟩;refine⟨by show 3≤sizeLine;decide,λt1 h1=>⟨by show 3≤sizeLine;decide,λt2 h2=>⟨by show 3≤sizeLine;decide,λt3 h3=>⟨by show 3≤sizeLine;decide,λl0 hl0=>?_⟩⟩⟩⟩;have a7:=aE.upd (o:=.tup (Dd.its (.make 0 3))) h1;have a8:=aE.upd (o:=.tup (Dd.its (.make 1 2))) h2;have a9:=aE.upd (o:=.tup (Dd.its (.make 2 2))) h3;have a10:=aE.upd (o:=.lst [V.ref t1,V.ref t2,V.ref t3]) hl0;have c9:=a9.trans a10;have c8:=a8.trans c9;have c7:=a7.trans c8;have zl0:=hX a10;have zt1:=c8 _ _ (ah (o:=.tup (Dd.its (.make 0 3))));have zt2:=c9 _ _ (ah (o:=.tup (Dd.its (.make 1 2))));have zt3:=a10 _ _ (ah (o:=.tup (Dd.its (.make 2 2))));refine⟨_,rfl,_,rfl,_,rfl,a,ns,m,rfl,c7.seq hS,hlen,λpz zs Hn sn hz0 hz lz bz=>⟨pz,rfl,⟨_,SqL.of hz⟩,λDl hDl=>?_⟩⟩;refine wV (K:=K) (a:=pz) (xs:=zs.map V.int) (λi ys Hc=>ys.length=i∧aE Hn Hc∧Hc Dl=some (.lst ys)∧∀ v∈ys,∃ q dd,v=.ref q∧Hc q=some (.tup (Dd.its dd))∧dd.ok) ⟨rfl,aE.upd hDl,ah,λv hv=>by cases hv⟩ (λi ys Hc _ ⟨e,_,z,_⟩=>⟨z,e⟩) (λi ys Hc _ ⟨_,sc,_⟩=>SqL.of (sc _ _ hz)) (kf (by rw[aiI];have:=lz.1;omega)) (λi v ys Hc hi ⟨e,sc,z,hv⟩=>?_) (λys Hc ⟨e,sc,z,hv⟩=>?_)
 ·obtain⟨y,my,rfl⟩:=aje.mp (aiU hi)
  obtain⟨y0,y1⟩:=bz y my;refine⟨_,rfl,y,rfl,y0,y1,λq dd H4 s4 hq0 hq ok=>⟨s4 _ _ z,by rw[aiR,e];rfl,λb u g=>by rw[ag (au g hDl)];exact s4 _ _ (sc b u g),ah,λv m=>?_⟩⟩;have tk:fJ H4 (upd H4 Dl (.lst (ys++[V.ref q]))):=fJ.set (s4 _ _ z) (λ_ w=>nomatch w);rcases aiS.mp m with m|m
  ·obtain⟨q',dd',e',hq',ok'⟩:=hv v m
   exact⟨q',dd',e',tk _ _ (s4 _ _ hq'),ok'⟩
  ·rw[aiJ.mp m]
   exact⟨q,dd,rfl,tk _ _ hq,ok⟩
 ·have snc:=sn.trans sc
  have ly:ys.length≤200:=by rw[e,aiI];exact lz.1
  refine⟨l0,Dl,_,_,rfl,rfl,SqL.of (snc _ _ zl0),SqL.of z,kf (by show 3+ys.length≤20000;omega),λld hld=>?_⟩;have b1:=aE.upd (o:=.lst ([V.ref t1,V.ref t2,V.ref t3]++ys)) hld;have sf:=snc.trans b1;refine k ld _ _ (c7.trans sf) (aE.none (c7.trans snc) hld) ah ⟨by rw[aiR];show 3+ys.length≤203;omega,λm0=>by rw[aiR];show 3+ys.length≤_;have:=lz.2 m0;rw[e,aiI];omega⟩ λv m=>?_;rcases aiS.mp m with m|m
  ·simp only[aiY,aj3,or_false]at m
   rcases m with rfl|rfl|rfl
   ·exact⟨t1,_,rfl,sf _ _ zt1,⟨by decide,by decide⟩,by decide,by decide⟩
   ·exact⟨t2,_,rfl,sf _ _ zt2,⟨by decide,by decide⟩,by decide,by decide⟩
   ·exact⟨t3,_,rfl,sf _ _ zt3,⟨by decide,by decide⟩,by decide,by decide⟩
  ·obtain⟨q',dd',e',hq',ok'⟩:=hv v m
   exact⟨q',dd',e',b1 _ _ hq',ok'⟩
theorem Good.names{s:HS}(g:Good s){w:Nat}{t:Int}{ws:List Wd}(m:(t,ws)∈s.aN):Good {s with names:=s.names.set w (some t)} :=
 ⟨g.h8,by show(s.names.set _ _).length=8;rw[ajK];exact g.n8,g.asc,g.lt,g.f6,g.hh,g.ff,λu m'=>(pT m').elim (g.nn u) (λe=>by injection e with e;rw[e];exact⟨ws,m⟩),g.b12,g.bk,g.bnd,g.n0,g.nx,g.sd,g.yk,g.Fx,g.dk,g.Fy⟩
theorem QQ{bs:List (Int×Int)}{t x:Int}:(IZ bs t x).map (·.1)=if(bs.lookup t).isSome=true then bs.map (·.1) else bs.map (·.1)++[t]:=by
 unfold IZ;by_cases c:(bs.lookup t).isSome=true
 ·rw[if_pos c,if_pos c,aju]
  refine ajH λp hp=>?_;show(if p.1=t then(t,x) else p).1=p.1;by_cases e:p.1=t
  ·rw[if_pos e];exact e.symm
  ·rw[if_neg e]
 ·rw[if_neg c,if_neg c,ai3]
  rfl
theorem Good.bQ{s:HS}(g:Good s){t x:Int}{ws:List Wd}(m:(t,ws)∈s.aN)(c:¬(s.bQ.lookup t=none∧12≤s.bQ.length)):Good {s with bQ:=IZ s.bQ t x}:=by
 have kl:=QQ (bs:=s.bQ) (t:=t) (x:=x);have ln:=congrArg List.length kl;have mm:∀ u,u∈(IZ s.bQ t x).map (·.1)→u∈s.bQ.map (·.1)∨u=t:=λu h=>by
  rw[kl]at h;split at h
  ·exact .inl h
  ·rcases aiS.mp h with h|h
   ·exact .inl h
   ·exact .inr (aiJ.mp h)
 refine⟨g.h8,g.n8,g.asc,g.lt,g.f6,g.hh,g.ff,g.nn,?_,λu y h=>?_,?_,g.n0,g.nx,g.sd,g.yk,g.Fx,g.dk,g.Fy⟩
 ·show(IZ s.bQ t x).length≤12
  rw[aiI]at ln;rw[ln];by_cases q:(s.bQ.lookup t).isSome=true
  ·rw[if_pos q,aiI];exact g.b12
  ·rw[if_neg q,aiR,aiI,ajl]
   have:s.bQ.lookup t=none:=by
    cases e:s.bQ.lookup t with
    | none=>rfl
    | some v=>rw[e]at q;exact absurd rfl q
   have:¬12≤s.bQ.length:=λz=>c ⟨this,z⟩
   omega
 ·rcases mm u (aje.mpr ⟨_,h,rfl⟩) with h|rfl
  ·obtain⟨p,hp,rfl⟩:=aje.mp h
   exact g.bk p.1 p.2 hp
  ·exact⟨ws,m⟩
 ·show((IZ s.bQ t x).map (·.1)).Nodup
  rw[kl];by_cases q:(s.bQ.lookup t).isSome=true
  ·rw[if_pos q];exact g.bnd
  ·rw[if_neg q,ajQ]
   refine⟨g.bnd,akl _ _,λa ma b mb e=>?_⟩;rw[aiJ.mp mb]at e;subst e;obtain⟨p,hp,rfl⟩:=aje.mp ma;refine q ?_;rw[mem_lookup (w:=p.2) g.bnd hp];rfl
theorem Jk{fs:List (Int×List Wd)}{t:Int}{ws:List Wd}:(pZ fs t ws).map (·.1)=fs.map (·.1):=by
 unfold pZ;rw[aju];refine ajH λp hp=>?_;show(if p.1=t then(t,ws) else p).1=p.1;by_cases e:p.1=t
 ·rw[if_pos e];exact e.symm
 ·rw[if_neg e]
theorem Sf{fs:List (Int×List Wd)}{t u:Int}{ws w:List Wd}(m:(u,w)∈fs):∃ w',(u,w')∈pZ fs t ws:=by
 have:u∈(pZ fs t ws).map (·.1):=by rw[Jk];exact aje.mpr ⟨_,m,rfl⟩
 obtain⟨p,hp,rfl⟩:=aje.mp this;exact⟨p.2,hp⟩
theorem Cc{fs:List (Int×List Wd)}{t u:Int}{ws w:List Wd}(m:(u,w)∈pZ fs t ws):(u,w)∈fs∨(w=ws∧∃ w0,(u,w0)∈fs):=by
 obtain⟨p,hp,e⟩:=aje.mp m;by_cases c:p.1=t
 ·rw[if_pos c]at e
  cases e;exact .inr ⟨rfl,p.2,by rw[←c];exact hp⟩
 ·rw[if_neg c]at e
  subst e;exact .inl hp
theorem Good.pZ{s:HS}(g:Good s){t:Int}{ws:List Wd}(l6:ws.length≤6)(c:∀ u,Wd.th u∈ws→∃ w,(u,w)∈s.aN):Good {s with aN:=pZ s.aN t ws}:=by
 have hs:∀ u,(∃ w,(u,w)∈s.aN)→∃ w,(u,w)∈K13.pZ s.aN t ws:=λu ⟨w,m⟩=>Sf m;refine⟨g.h8,g.n8,by show((K13.pZ s.aN t ws).map (·.1)).Pairwise _;rw[Jk];exact g.asc,λu w m=>?_,λu w m=>?_,λu m=>hs u (g.hh u m),λu w v m mv=>?_,λu m=>hs u (g.nn u m),g.b12,λu y m=>hs u (g.bk u y m),g.bnd,g.n0,g.nx,?_,λu m=>hs u (g.yk u m),g.Fx,λu m=>hs u (g.dk u m),g.Fy⟩
 ·rcases Cc m with m|⟨_,w0,m⟩
  ·exact g.lt u w m
  ·exact g.lt u w0 m
 ·rcases Cc m with m|⟨rfl,w0,m⟩
  ·exact g.f6 u w m
  ·exact l6
 ·rcases Cc m with m|⟨rfl,w0,m⟩
  ·exact hs v (g.ff u w v m mv)
  ·exact hs v (c v mv)
 ·show(s.uc.length:Int)+((K13.pZ s.aN t ws).length:Int)≤s.nxt
  unfold K13.pZ;rw[aiI];exact g.sd
theorem Good.aiv{s:HS}(g:Good s){h n:Int}(n6:n≤6)(few:s.nxt<10000):Good (I0 s h n):=by
 have hs:∀ u,(∃ w,(u,w)∈s.aN)→∃ w,(u,w)∈s.aN++[(s.nxt,List.replicate n.toNat Wd.no)]:=λu ⟨w,m⟩=>⟨w,ajb _ m⟩;have mm:∀ {u:Int} {w:List Wd},(u,w)∈s.aN++[(s.nxt,List.replicate n.toNat Wd.no)]→(u,w)∈s.aN∨(u=s.nxt∧w=List.replicate n.toNat Wd.no):=λm=>by
  rcases aiS.mp m with m|m
  ·exact .inl m
  ·cases aiJ.mp m;exact .inr ⟨rfl,rfl⟩
 have my:∀ u∈(I0 s h n).yng,u∈s.yng∨u=s.nxt:=λu m=>by
  have m:u∈(if s.my=true then s.yng++[s.nxt] else s.yng):=m;split at m
  ·exact(aiS.mp m).imp id λz=>aiJ.mp z
  ·exact .inl m
 refine⟨by show(s.aT.set _ _).length=8;rw[ajK];exact g.h8,g.n8,?_,λu w m=>?_,λu w m=>?_,λu m=>?_,λu w v m mv=>?_,λu m=>hs u (g.nn u m),g.b12,λu y m=>hs u (g.bk u y m),g.bnd,by show 0≤s.nxt+1;have:=g.n0;omega,by show s.nxt+1≤10000;omega,?_,λu m=>?_,?_,λu m=>hs u (g.dk u m),g.Fy⟩
 ·show((s.aN++[(s.nxt,List.replicate n.toNat Wd.no)]).map (·.1)).Pairwise _
  rw[ai3,ajg];refine⟨g.asc,akl _ _,λa ma b mb=>?_⟩;obtain⟨p,hp,rfl⟩:=aje.mp ma;obtain rfl:b=s.nxt:=by simpa using mb
  exact(g.lt p.1 p.2 hp).2
 ·show 0≤u∧u<s.nxt+1
  have:=g.n0
  rcases mm m with m|⟨e,_⟩
  ·have:=g.lt u w m;omega
  ·omega
 ·rcases mm m with m|⟨_,e⟩
  ·exact g.f6 u w m
  ·rw[e,List.length_replicate];omega
 ·rcases pT m with m|e
  ·exact hs u (g.hh u m)
  ·injection e with e
   exact⟨_,aiP _ (aiJ.mpr (by rw[e]))⟩
 ·rcases mm m with m|⟨_,e⟩
  ·exact hs v (g.ff u w v m mv)
  ·rw[e]at mv
   cases ajC mv
 ·show(s.uc.length:Int)+((s.aN++[(s.nxt,List.replicate n.toNat Wd.no)]).length:Int)≤s.nxt+1
  rw[aiR,ajl]
  have:=g.sd
  omega
 ·rcases my u m with m|e
  ·exact hs u (g.yk u m)
  ·exact⟨_,aiP _ (aiJ.mpr (by rw[e]))⟩
 ·show(if s.my=true then s.yng++[s.nxt] else s.yng).Pairwise _
  split
  ·rw[ajg]
   refine⟨g.Fx,akl _ _,λa ma b mb=>?_⟩;obtain rfl:b=s.nxt:=(by simpa using mb);obtain⟨ws,m⟩:=g.yk a ma;exact(g.lt a ws m).2
  ·exact g.Fx
theorem Gd.put{s:HS}(d:Gd s){h:Int}{w:Wd}(c:∀ t,w=.th t→(∃ ws,(t,ws)∈s.aN)∧t∉s.bF):Gd (rB s h w) :=
 ⟨d.g.put λt e=>(c t e).1,d.dy,λt m=>(pT m).elim (d.dh t) (λe=>(c t e.symm).2),d.df,d.rd⟩
theorem Gd.add{s:HS}(d:Gd s){h n:Int}(n6:n≤6)(few:s.nxt<10000):Gd (I0 s h n) where
 g:=d.g.aiv n6 few
 dy:=λt m=>by
  obtain⟨ws,mt⟩:=d.g.dk t m;have lt:=(d.g.lt t ws mt).2;show t∉(if s.my=true then s.yng++[s.nxt] else s.yng);split
  ·intro z
   rcases aiS.mp z with z|z
   ·exact d.dy t m z
   ·have:=aiJ.mp z;omega
  ·exact d.dy t m
 dh:=λt m=>(pT m).elim (d.dh t) λe=>by
  injection e with e;intro z;obtain⟨ws,mt⟩:=d.g.dk t z
  have:=(d.g.lt t ws mt).2
  omega
 df:=λu ws t m hu h=>by
  rcases aiS.mp m with m|m
  ·exact d.df u ws t m hu h
  ·cases aiJ.mp m
   cases ajC h
 rd:=d.rd
theorem Gd.pZ{s:HS}(d:Gd s){t:Int}{ws:List Wd}(l6:ws.length≤6)(c:∀ u,Wd.th u∈ws→(∃ w,(u,w)∈s.aN)∧u∉s.bF):Gd {s with aN:=pZ s.aN t ws} where
 g:=d.g.pZ l6 λu m=>(c u m).1
 dy:=d.dy
 dh:=d.dh
 df:=λu w v m hu h=>by
  rcases Cc m with m|⟨e,_⟩
  ·exact d.df u w v m hu h
  ·rw[e]at h;exact(c v h).2
 rd:=d.rd
theorem Gd.hnd{s:HS}(d:Gd s){h:Int}{w:Wd}(e:wat s.aT h=some w):∀ t,w=.th t→(∃ ws,(t,ws)∈s.aN)∧t∉s.bF:=λt z=>by
 have m:=aiU (rO e).2.2;rw[z]at m;exact⟨d.g.hh t m,d.dh t m⟩
theorem Px{s:HS}{n:Option Int}:(rdR s n).nxt=s.nxt:=by
 unfold rdR;split
 ·split<;>rfl
 ·rfl
theorem ZF{s:HS}(d:Gd s)(few:s.nxt<10000){dd:Dd}(ok:dd.ok):Gd (dDo s dd).2∧s.nxt≤(dDo s dd).2.nxt∧(dDo s dd).2.nxt≤s.nxt+1:=by
 have same:Gd s∧s.nxt≤s.nxt∧s.nxt≤s.nxt+1:=⟨d,ajj _,by omega⟩;cases dd with
 | make h n =>
  show Gd (jM s h n).2∧s.nxt≤(jM s h n).2.nxt∧(jM s h n).2.nxt≤s.nxt+1;unfold jM;split
  ·split
   ·split
    ·exact⟨d.mkd,by rw[xq];exact ajj _,by rw[xq];omega⟩
    ·exact⟨d.mkd.add ok.2.2 (by rw[xq];exact few),by show s.nxt≤(mkR s n).nxt+1;rw[xq];omega,by show(mkR s n).nxt+1≤s.nxt+1;rw[xq];exact ajj _⟩
   ·exact same
  ·exact same
 | store g k h =>
  show Gd (gk s g k h).2∧s.nxt≤(gk s g k h).2.nxt∧(gk s g k h).2.nxt≤s.nxt+1;unfold gk;split
  ·rename_i t e
   split
   ·rename_i w e2
    split
    ·rename_i c
     have m:=d.g.hand e;refine⟨d.pZ (by rw[ajK];exact d.g.f6 _ _ m) (λu hu=>?_),ajj _,by show s.nxt≤s.nxt+1;omega⟩;rcases pT hu with hu|hu
     ·exact⟨d.g.ff _ _ _ m hu,d.df _ _ _ m ((d.hnd e t rfl).2) hu⟩
     ·exact d.hnd e2 u hu.symm
    ·exact same
   ·exact same
  ·exact same
 | load h g k =>
  show Gd (jO s h g k).2∧s.nxt≤(jO s h g k).2.nxt∧(jO s h g k).2.nxt≤s.nxt+1;unfold jO;split
  ·split
   ·rename_i t e
    split
    ·rename_i c
     have m:=d.g.hand e;refine⟨d.put λu hu=>?_,ajj _,by show s.nxt≤s.nxt+1;omega⟩;have hi:k.toNat<(fld s t).length:=(by omega);have hm:Wd.th u∈fld s t:=(by rw[←hu,List.getD_eq_getElem?_getD,aiK hi];exact ajR hi);exact⟨d.g.ff _ _ _ m hm,d.df _ _ _ m ((d.hnd e t rfl).2) hm⟩
    ·exact same
   ·exact same
  ·exact same
 | copy h g =>
  show Gd (oe s h g).2∧s.nxt≤(oe s h g).2.nxt∧(oe s h g).2.nxt≤s.nxt+1;unfold oe;split
  ·split
   ·rename_i w e
    exact⟨d.put (d.hnd e),ajj _,by show s.nxt≤s.nxt+1;omega⟩
   ·exact same
  ·exact same
 | drop h =>
  show Gd (qv s h).2∧s.nxt≤(qv s h).2.nxt∧(qv s h).2.nxt≤s.nxt+1;unfold qv;split
  ·exact⟨d.put (λt e=>by cases e),ajj _,by show s.nxt≤s.nxt+1;omega⟩
  ·exact same
 | number h x =>
  show Gd (gF s h x).2∧s.nxt≤(gF s h x).2.nxt∧(gF s h x).2.nxt≤s.nxt+1;unfold gF;split
  ·split
   ·exact⟨d.put (λt e=>by cases e),ajj _,by show s.nxt≤s.nxt+1;omega⟩
   ·exact same
  ·exact same
 | name w h =>
  show Gd (kX s w h).2∧s.nxt≤(kX s w h).2.nxt∧(kX s w h).2.nxt≤s.nxt+1;unfold kX;split
  ·rename_i t e
   split
   ·exact⟨⟨d.g.names (d.g.hand e),d.dy,d.dh,d.df,d.rd⟩,ajj _,by show s.nxt≤s.nxt+1;omega⟩
   ·exact same
  ·exact same
 | read h w =>
  show Gd (ju s h w).2∧s.nxt≤(ju s h w).2.nxt∧(ju s h w).2.nxt≤s.nxt+1;unfold ju;split
  ·split
   ·rename_i c2
    refine⟨?_,by rw[Px];exact ajj _,by rw[Px];show s.nxt≤s.nxt+1;omega⟩;have hi:w.toNat<s.names.length:=(by rw[d.g.n8];omega);have gd:s.names.getD w.toNat none=s.names[w.toNat]:=(by simp[List.getD,hi]);have mm:s.names[w.toNat]∈s.names:=ajR hi;rw[←gd]at mm;cases e:s.names.getD w.toNat none with
    | none=>exact d.put (λt e=>by cases e)
    | some t =>
     rw[e]at mm;obtain⟨ws,m⟩:=d.g.nn t mm;show Gd (if t∈(rB s h (.th t)).bF then rQ (rB s h (.th t)) t else rB s h (.th t));have g2:Good (rB s h (.th t)):=d.g.put λu z=>by cases z;exact⟨ws,m⟩
     by_cases c:t∈s.bF
     ·rw[if_pos (show t∈(rB s h (.th t)).bF from c)]
      refine Gd.ZD ⟨g2,d.dy,d.df,d.rd⟩ c λu hu=>?_;rcases pT hu with hu|hu
      ·exact .inr (d.dh u hu)
      ·injection hu with hu;exact .inl hu
     ·rw[if_neg (show ¬t∈(rB s h (.th t)).bF from c)]
      exact d.put λu z=>by cases z;exact⟨⟨ws,m⟩,c⟩
   ·exact same
  ·exact same
 | word h x =>
  show Gd (jP s h x).2∧s.nxt≤(jP s h x).2.nxt∧(jP s h x).2.nxt≤s.nxt+1;unfold jP;split
  ·rename_i t e
   split
   ·split
    ·exact same
    ·rename_i c
     exact⟨⟨d.g.bQ (d.g.hand e) c,d.dy,d.dh,d.df,d.rd⟩,ajj _,by show s.nxt≤s.nxt+1;omega⟩
   ·exact same
  ·exact same
 | small=>exact⟨d.small,ajj _,by show s.nxt≤s.nxt+1;omega⟩
 | turn =>
  show Gd (sU s).2∧s.nxt≤(sU s).2.nxt∧(sU s).2.nxt≤s.nxt+1;unfold sU;split
  ·rename_i c
   rw[show Pq s=(none,Pp s) from if_pos c];exact⟨d.fin,ajj _,by show s.nxt≤s.nxt+1;omega⟩
  ·rename_i c
   rw[show xo s=(none,Po (kg s)) from if_neg c];exact⟨d.small.beg rfl,ajj _,by show s.nxt≤s.nxt+1;omega⟩
theorem gd0{my:Bool}{room limit:Int}:Gd (s0 my room limit):=⟨good0,(λt m=>nomatch m),(λt _ m=>nomatch m),(λu ws t m=>nomatch m),λ_=>rfl⟩
noncomputable def Rj(K:W.Frag):Sp:=λvs H Q _=>∃(a:Addr) (ns:List Int),vs=[.ref a]∧SqL K H a (ns.map V.int)∧ns.length≤63∧∀ H',Q (.bl true) H'
open Classical in
theorem aiw{H:Hp}{n:Nat}{p:Addr}{us:List V}{xs:List Vl}(h:H p=some (.lst us))(l:us.length=xs.length)(k:∀(i:Nat) (u:V) (x:Vl),us[i]?=some u→xs[i]?=some x→Rp H n u x):Rp H (n+1) (.ref p) (.l xs):=⟨p,us,rfl,h,l,k⟩
theorem WJ{α:Type}{H:Hp}{n:Nat}{p:Addr}{l:List α}{f:α→V}(g:α→Vl)(h:H p=some (.lst (l.map f)))(k:∀ z∈l,Rp H n (f z) (g z)):Rp H (n+1) (.ref p) (.l (l.map g)):=aiw h (by rw[aiI,aiI]) λi u x h1 h2=>by
 rw[aiW]at h1 h2;obtain⟨z,hz,rfl⟩:=aiZ.mp h1;rw[hz]at h2;cases h2;exact k z (aiU hz)
theorem fli{H:Hp}{n:Nat}{t:Int}:Rp H n (.int t) (.a (.int t)):=Rp.flat rfl
noncomputable def D9(D:Ad):Sp:=λvs H Q _=>∃ x A s,vs=[.ref x]∧IH D H x A s∧Good s∧(∀ p H',aE H H'→H p=none→H' p=some (.lst A.hx)→Q (.ref p) H')
noncomputable abbrev Au:List Str:=["self"]
theorem x9:aw Au ["self"] (ar kG):=fsc
theorem ya(F:Fun K "hands" "IdealHeap.hands" kG D.b8 D.eU)(T:Txt K mg D)
  (b9:Ok P w K mg base 1 D.bG D.dG ["self"] (nZ D)):Ok P w K mg base 2 D.b8 D.eU ["self"] (D9 D):=by
 refine F.oa x9 F.b1 λcdv A' outer s' H vs Q E hr h=>?_;obtain⟨x,A,s,rfl,J,G,k⟩:=h;refine⟨_,(PSs.nox (ai (aM (b9.m0 hr (aH (pv 0) rfl) T.aS T.jX dS)))),?_⟩;exact⟨_,rfl,x,D.aa,_,_,.ref A.hd,rfl,J.ax,T.ab,T.az,nY,A.hd,A.hdx,_,rfl,J.ahd,rfl,A.hd,A.hdx,A.hl,A.hx,s.aT,rfl,J.hn G,k⟩
noncomputable def Py(D:Ad):Sp:=λvs H Q _=>∃ nt ntx nl xs,vs=[.ref nt]∧Nt D H nt ntx nl xs∧∀ p H',aE H H'→H p=none→H' p=some (.lst xs)→Q (.ref p) H'
noncomputable abbrev tH:List Str:=["self"]
theorem rD:aw tH ["self"] (ar iM):=fsc
theorem rE(F:Fun K "all_named" "NameTable.all_named" iM D.bA D.dZ)(T:Txt K mg D):Ok P w K mg base 1 D.bA D.dZ ["self"] (Py D):=by
 refine F.oa rD F.b1 λcdv A' outer s' H vs Q E hr h=>?_;obtain⟨nt,ntx,nl,xs,rfl,N,k⟩:=h;refine⟨_,(PSs.nox (ai (aM (km nN rfl T.ui PyProof.Rows.Boot.«list» (ae (aH (pv 0) rfl) aq))))),?_⟩;exact⟨_,rfl,nt,D.aD,ntx,_,.ref nl,rfl,N.i,T.dN,T.bO,rfl,nl,xs,rfl,.inl (SqL.of N.l),λp hp=>k p _ (aE.upd hp) hp ah⟩
noncomputable def Jl(D:Ad):Sp:=λvs H Q _=>∃ x A s,vs=[.ref x]∧IH D H x A s∧Good s∧(∀ p H',aE H H'→H p=none→H' p=some (.lst (s.names.map nmV))→Q (.ref p) H')
noncomputable abbrev Av:List Str:=["self"]
theorem yc:aw Av ["self"] (ar kH):=fsc
theorem yd(F:Fun K "names" "IdealHeap.names" kH D.cO D.gz)(T:Txt K mg D)
  (iP:Ok P w K mg base 1 D.bA D.dZ ["self"] (Py D)):Ok P w K mg base 2 D.cO D.gz ["self"] (Jl D):=by
 refine F.oa yc F.b1 λcdv A' outer s' H vs Q E hr h=>?_;obtain⟨x,A,s,rfl,J,G,k⟩:=h;refine⟨_,(PSs.nox (ai (aM (iP.m0 hr (aH (pv 0) rfl) T.dN T.rq dS)))),?_⟩;exact⟨_,rfl,x,D.aa,_,_,.ref A.nt,rfl,J.ax,T.ab,T.dF,Rh,A.nt,A.ntx,_,rfl,J.ant,rfl,A.nt,A.ntx,A.nl,_,rfl,J.ntb G,k⟩
noncomputable def zA(D:Ad):Sp:=λvs H Q _=>∃ x A s,vs=[.ref x]∧IH D H x A s∧Good s∧(∀ p H',aE H H'→H p=none→H' p=some (.lst ((keys s).map V.int))→Q (.ref p) H')
noncomputable abbrev ye:List Str:=["self"]
theorem vP:aw ye ["self"] (ar jT):=fsc
theorem vQ(F:Fun K "things" "IdealHeap.things" jT D.bM D.en)(T:Txt K mg D):Ok P w K mg base 1 D.bM D.en ["self"] (zA D):=by
 refine F.oa vP F.b1 λcdv A' outer s' H vs Q E hr h=>?_;obtain⟨x,A,s,rfl,J,G,k⟩:=h;refine⟨_,(PSs.nox (ai (aM (eh (BG rfl) rfl T.lE PyProof.Rows.Boot.«sorted» (ae (aH (pv 0) rfl) aq))))),?_⟩;exact⟨_,rfl,x,D.aa,_,_,.ref A.fh,rfl,J.ax,T.ab,T.aA,rm,A.fh,_,keys s,rfl,.inl J.afh,Ri s A,(by unfold keys;rw[aiI];exact ai5 G.few (by decide)),G.asc.imp (λh=>ajL h),λp hp=>k p _ (aE.upd hp) hp ah⟩
noncomputable def GV(D:Ad):Sp:=λvs H Q _=>∃ x A s,vs=[.ref x]∧IH D H x A s∧Good s∧(∀ p H',aE H H'→H p=none→H' p=some (.lst (s.bF.map V.int))→Q (.ref p) H')
noncomputable abbrev yh:List Str:=["self"]
theorem vR:aw yh ["self"] (ar jV):=fsc
theorem vS(F:Fun K "doomed" "IdealHeap.doomed" jV D.cv D.fZ)(T:Txt K mg D):Ok P w K mg base 1 D.cv D.fZ ["self"] (GV D):=by
 refine F.oa vR F.b1 λcdv A' outer s' H vs Q E hr h=>?_;obtain⟨x,A,s,rfl,J,G,k⟩:=h;refine⟨_,(PSs.nox (ai (aM (eh (BG rfl) rfl T.lE PyProof.Rows.Boot.«sorted» (ae (aH (pv 0) rfl) aq))))),?_⟩;exact⟨_,rfl,x,D.aa,_,_,.ref A.dm,rfl,J.ax,T.ab,T.aQ,KY,A.dm,_,s.bF,rfl,.inl J.adm,Ca s.bF,ai5 (GR G) (by decide),G.Fy.imp (λh=>ajL h),λp hp=>k p _ (aE.upd hp) hp ah⟩
noncomputable def MU(D:Ad):Sp:=λvs H Q _=>∃ x A s,vs=[.ref x]∧IH D H x A s∧Good s∧(Q (.int s.nxt) H)
noncomputable abbrev CN:List Str:=["self"]
theorem Aw:aw CN ["self"] (ar lQ):=fsc
theorem Ax(F:Fun K "made" "IdealHeap.made" lQ D.dD D.hU)(T:Txt K mg D):Ok P w K mg base 1 D.dD D.hU ["self"] (MU D):=by
 refine F.oa Aw F.b1 λcdv A' outer s' H vs Q E hr h=>?_;obtain⟨x,A,s,rfl,J,G,k⟩:=h;refine⟨_,(PSs.nox (ai (aM (aH (pv 0) rfl)))),?_⟩;exact⟨_,rfl,x,D.aa,_,_,.int s.nxt,rfl,J.ax,T.ab,T.fu,VI,k⟩
noncomputable def Pz(D:Ad):Sp:=λvs H Q _=>∃ wt wtx wb wl bs zs,∃ t:Int,vs=[.ref wt,.int t]∧Wt D H wt wtx wb wl bs zs∧Q (nmV (bs.lookup t)) H
noncomputable abbrev vT:List Str:=["self", "t"]
theorem uu:aw vT ["self", "t"] (ar jx):=fsc
theorem uv(F:Fun K "word_of" "WordTable.word_of" jx D.bU D.eY)(T:Txt K mg D):Ok P w K mg base 1 D.bU D.eY ["self", "t"] (Pz D):=by
 refine F.oa uu F.b2 λcdv A' outer s' H vs Q E hr h=>?_;obtain⟨wt,wtx,wb,wl,bs,zs,t,rfl,N,k⟩:=h;have hu:=kQ hr;refine⟨_,(PSs.nox (ai (aM (RJ hu (aH (pv 0) rfl) (pv 1) ⟨rfl,rfl,rfl,rfl⟩)))),?_⟩;refine⟨_,rfl,wt,D.aF,wtx,_,.ref wb,rfl,N.i,T.bZ,T.ba,rfl,wb,rfl,.inl ⟨_,.inl N.b⟩,_,rfl,_,qQ.k (k:=Sum.inl t) N.b,?_⟩;rw[VJ];cases e:bs.lookup t with
 | none=>rw[e]at k;exact k
 | some v=>rw[e]at k;exact k
noncomputable def K0(D:Ad):Sp:=λvs H Q E=>∃ x A s,∃ t:Int,vs=[.ref x,.int t]∧IH D H x A s∧Good s∧Sm t∧(t∈keys s→Q .non H)∧(t∉keys s→Bad D.aC H E)
noncomputable abbrev vU:List Str:=["self", "t"]
theorem uw:aw vU ["self", "t"] (ar jy):=fsc
theorem ux(F:Fun K "look_at_held" "Heap.look_at_held" jy D.aO D.cK)(T:Txt K mg D)
  (aj:Ok P w K mg base 1 D.ao D.aB ["self", "text"] (Ei K)):Ok P w K mg base 3 D.aO D.cK ["self", "t"] (K0 D):=by
 refine F.oa uw F.b2 λcdv A' outer s' H vs Q E hr h=>?_;obtain⟨x,A,s,t,rfl,J,G,ht,k,kb⟩:=h;have hu:=kQ hr;refine⟨_,(ai (cj (rM (ko hu (pv 1) (aH (pv 0) rfl)) (by with_unfolding_all rfl))
   (ai (gh rfl lA (aj.e hr T.NA T.GJ px (ae (jH (bu (mx (pv 1)) (bu iA jG))) aq))))
   aU)),?_⟩
 refine⟨_,rfl,_,rfl,x,D.aa,_,_,.ref A.fh,rfl,J.ax,T.ab,T.aA,rm,A.fh,_,rfl,qQ.k (k:=Sum.inl t) J.afh,_,rfl,?_⟩;rw[(Ri s A).isS];by_cases c:t∈keys s
 ·rw[decide_eq_true c]
  exact gS (k c)
 ·rw[decide_eq_false c]
  exact sL ⟨_,rfl,t,rfl,ht,λy hy ea hea=>dj T.zt (λ_ q=>q) (kb c) ea hea⟩
noncomputable def GW(D:Ad):Sp:=λvs H Q E=>∃ x A s,∃ t:Int,vs=[.ref x,.int t]∧IH D H x A s∧Good s∧Sm t∧(t∈keys s→∀ p H',aE H H'→H p=none→H' p=some (.lst (A.fx t))→Q (.ref p) H')∧(t∉keys s→Bad D.aC H E)
noncomputable abbrev tI:List Str:=["self", "t"]
theorem rF:aw tI ["self", "t"] (ar iN):=fsc
theorem rG(F:Fun K "fields_of" "IdealHeap.fields_of" iN D.aP D.bX)(T:Txt K mg D)
  (bD:Ok P w K mg base 3 D.aO D.cK ["self", "t"] (K0 D)):Ok P w K mg base 4 D.aP D.bX ["self", "t"] (GW D):=by
 refine F.oa rF F.b2 λcdv A' outer s' H vs Q E hr h=>?_;obtain⟨x,A,s,t,rfl,J,G,ht,k,kb⟩:=h;have hu:=kQ hr;refine⟨_,(ak (aG (bD.m hr (pv 0) T.ab T.gc px (ae (pv 1) aq)))
  (ai (aM (km nN rfl T.ui PyProof.Rows.Boot.«list» (ae (qR hu (aH (pv 0) rfl) (pv 1) (λ_ _=>rfl)) aq))))),?_⟩
 refine⟨_,rfl,x,_,_,rfl,J.ax,(by kernel_rfl),_,rfl,x,A,s,t,rfl,J,G,ht,λm=>?_,kb⟩;obtain⟨ws,mw⟩:=mem_keys.mp m;exact⟨_,rfl,x,D.aa,_,_,.ref A.fh,rfl,J.ax,T.ab,T.aA,rm,_,rfl,A.fh,_,rfl,J.VL G mw,A.fa t,_,rfl,.inl (SqL.of (J.afl _ _ mw).1),λp hp=>k m p _ (aE.upd hp) hp ah⟩
noncomputable def PB(D:Ad):Sp:=λvs H Q E=>∃ x A s,∃ t:Int,vs=[.ref x,.int t]∧IH D H x A s∧Good s∧Sm t∧(t∈keys s→Q (.bl (decide (t∉s.yng))) H)∧(t∉keys s→Bad D.aC H E)
noncomputable abbrev yi:List Str:=["self", "t"]
theorem vV:aw yi ["self", "t"] (ar jU):=fsc
theorem vW(F:Fun K "is_old" "IdealHeap.is_old" jU D.cu D.fY)(T:Txt K mg D)
  (bD:Ok P w K mg base 3 D.aO D.cK ["self", "t"] (K0 D)):Ok P w K mg base 4 D.cu D.fY ["self", "t"] (PB D):=by
 refine F.oa vV F.b2 λcdv A' outer s' H vs Q E hr h=>?_;obtain⟨x,A,s,t,rfl,J,G,ht,k,kb⟩:=h;have hu:=kQ hr;refine⟨_,(ak (aG (bD.m hr (pv 0) T.ab T.gc px (ae (pv 1) aq)))
  (ai (aM (V0 (ko hu (pv 1) (aH (pv 0) rfl)) (by with_unfolding_all rfl))))),?_⟩
 refine⟨_,rfl,x,_,_,rfl,J.ax,(by kernel_rfl),_,rfl,x,A,s,t,rfl,J,G,ht,λm=>?_,kb⟩;refine⟨_,rfl,_,rfl,x,D.aa,_,_,.ref A.yg,rfl,J.ax,T.ab,T.aV,KW,A.yg,_,rfl,qQ.k (k:=Sum.inl t) J.ayg,?_⟩;rw[(Ca s.yng).isS,show(!decide (t∈s.yng))=decide (t∉s.yng) by simp];exact k m
noncomputable def PD(D:Ad):Sp:=λvs H Q E=>∃ x A s,∃ t:Int,vs=[.ref x,.int t]∧IH D H x A s∧Good s∧Sm t∧(t∈keys s→Q (nmV (s.bQ.lookup t)) H)∧(t∉keys s→Bad D.aC H E)
noncomputable abbrev vZ:List Str:=["self", "t"]
theorem uy:aw vZ ["self", "t"] (ar jz):=fsc
theorem uA(F:Fun K "word_of" "IdealHeap.word_of" jz D.bW D.eZ)(T:Txt K mg D)
  (bD:Ok P w K mg base 3 D.aO D.cK ["self", "t"] (K0 D))
  (jC:Ok P w K mg base 1 D.bU D.eY ["self", "t"] (Pz D)):Ok P w K mg base 4 D.bW D.eZ ["self", "t"] (PD D):=by
 refine F.oa uy F.b2 λcdv A' outer s' H vs Q E hr h=>?_;obtain⟨x,A,s,t,rfl,J,G,ht,k,kb⟩:=h;have hu:=kQ hr;refine⟨_,(ak (aG (bD.m hr (pv 0) T.ab T.gc px (ae (pv 1) aq)))
  (ai (aM (jC.m hr (aH (pv 0) rfl) T.bZ T.ug px (ae (pv 1) aq))))),?_⟩
 refine⟨_,rfl,x,_,_,rfl,J.ax,(by kernel_rfl),_,rfl,x,A,s,t,rfl,J,G,ht,λm=>?_,kb⟩;exact⟨_,rfl,x,D.aa,_,_,.ref A.wt,rfl,J.ax,T.ab,T.ft,TC,A.wt,A.wtx,_,rfl,J.awt,rfl,_,rfl,A.wt,A.wtx,A.wb,A.wl,s.bQ,s.uc,t,rfl,J.wtb,k m⟩
theorem KH:∀ {a b:List Int},a.Pairwise (·< ·)→b.Pairwise (·< ·)→(∀ t,t∈a↔t∈b)→a=b
 | [],[],_,_,_=>rfl
 | [],y::b,_,_,h=>absurd ((h y).mpr ai1) (by simp)
 | x::a,[],_,_,h=>absurd ((h x).mp ai1) (by simp)
 | x::a,y::b,pa,pb,h=>by
  rw[aj7]at pa pb;have e:x=y:=by
   rcases aiY.mp ((h x).mp ai1) with e|e
   ·exact e
   ·rcases aiY.mp ((h y).mpr ai1) with f|f
    ·exact f.symm
    ·have:=pb.1 x e
     have:=pa.1 y f
     omega
  subst e;rw[KH pa.2 pb.2 λt=>⟨λm=>?_,λm=>?_⟩]
  ·rcases aiY.mp ((h t).mp (ai4 _ m)) with e|e
   ·have:=pa.1 t m;omega
   ·exact e
  ·rcases aiY.mp ((h t).mpr (ai4 _ m)) with e|e
   ·have:=pb.1 t m;omega
   ·exact e
theorem xt{H:Hp}{p:Addr}{zs:List Int}(h:H p=some (.lst (zs.map V.int))):Rp H 1 (.ref p) (.l (zs.map λt=>.a (.int t))):=WJ (n:=0) (λt=>.a (.int t)) h λz _=>fli
theorem UR{H:Hp}{p:Addr}{zs:List Int}(h:H p=some (.lst (zs.map V.int))):eqD 1 (.l (zs.map λt=>.a (.int t))) (.l (zs.map λt=>.a (.int t)))=true:=BZ (xt h) (xt h)
noncomputable def MV(D:Ad):Sp:=λvs H Q _=>∃(x:Addr) (A:HA) (s:HS) (t:Int),vs=[.ref x,.int t]∧IH D H x A s∧Good s∧Sm t∧t∉keys s∧∀ H',aE H H'→Q (.bl true) H'
noncomputable abbrev CO:List Str:=["heap", "t", "way", "kept", "e"]
theorem gB:aw CO ["heap", "t"] (ar lR):=fsc
theorem Ay(F:Fun K "_law_none_told" "_law_none_told" lR D.cH D.hV)(T:Txt K mg D)
  (a6:Ok P w K mg base 4 D.aP D.bX ["self", "t"] (GW D))
  (j5:Ok P w K mg base 4 D.cu D.fY ["self", "t"] (PB D))
  (jD:Ok P w K mg base 4 D.bW D.eZ ["self", "t"] (PD D))
  (ji:Ok0 P w K mg base 1 D.dt D.gU ["self"] (bC "BadView")):Ok P w K mg base 5 D.cH D.hV ["heap", "t"] (MV D):=by
 refine F.oa gB F.b2 λcdv A' outer s' H vs Q E hr h=>?_;obtain⟨x,A,s,t,rfl,J,G,ht,hn,k⟩:=h;obtain⟨cdH,xH⟩:=T.h;refine⟨_,(PSs.nox (ak (nK ajo rfl (D4 rfl T.xh (ae av aq)) (gb (i:=2) gB.nd rfl (Or.inl rfl))
   (ak (bp (i:=3) gB.nd rfl (Or.inl rfl) kc)
   (ak (SH (i:=4) rfl rfl rfl rfl T.mH xH gB.nd rfl rfl (λpins E' EK hp=>ai (cj (aJ nM (pv 2) av (bN _)) (ai (aG (a6.m hr (pv 0) T.ab T.ib hp (ae (pv 1) aq)))) (ai (cj (aJ nM (pv 2) av (bN _)) (ai (aG (j5.m hr (pv 0) T.ab T.vE hp (ae (pv 1) aq)))) (ai (aG (jD.m hr (pv 0) T.ab T.uh hp (ae (pv 1) aq)))))))) (λea=>ai (bp (i:=3) gB.nd rfl (Or.inl rfl) (pv 4))))
   (ai (cj (PW.pt (pw_or (pB (pA (eh (r:=aeU K) RQ rfl T.nU PyProof.Rows.Boot.«isinstance» (ae (pv 3) (ae (kh (v:=.ref D.aC) rfl T.GJ rfl) aq))))) (pw_or (pB (pA (eh (r:=Tu K) QA rfl T.nU PyProof.Rows.Boot.«isinstance» (ae (pv 3) (ae (Zi rfl T.nV PyProof.Rows.Boot.«ValueError») aq))))) (pw_or1 (aJ Q7 (show PE _ _ (KD P w K mg base (CXE P w) 1 "called" (λ_ _ _ _=>False) (T1 3)) from IV (k:=1) (CX:=CXE P w) (pv 3) (hr.r0 (by decide)) dS) bh (bN _))))))
    (ai (aM pJ))
    aU)))))
  (ai (aM pJ)))),?_⟩
 refine⟨3,rfl,by decide,by decide,D5 (lo:=0) (n:=3) (λi σ Hx=>∃ v2 v3,σ=[some (.ref x),some (.int t),v2,v3,none]∧aE H Hx) ⟨none,none,rfl,aE.refl _⟩ ?_ ?_⟩
 ·rintro i σ Hx hi ⟨v2,v3,rfl,sx⟩
  have Jx:=J.same sx;simp only[qo];refine gE λN hN=>?_;refine hN _ _ ?_;refine gE λN2 hN2=>?_;have land:∀ H1,aE Hx H1→∀ ea,H1 ea=none→N2 [some (.ref x),some (.int t),some (.int (0+(i:Int))),some (.ref ea),none] (upd H1 ea (exo false D.aC ea none)):=by
   intro H1 s1 ea hea;refine hN2 _ _ ?_;have se:=aE.upd (o:=exo false D.aC ea none) hea;have he:upd H1 ea (exo false D.aC ea none) ea=some (exo false D.aC ea none):=ah;generalize upd H1 ea (exo false D.aC ea none)=H2 at *;have ty:TyX K H2 (.ref ea) (.ref D.aC):=T.zt.ty he;refine⟨_,rfl,.ref ea,.ref D.aC,.ref D.aC,true,rfl,ty,⟨_,rfl⟩,T.jW,true,rfl,gS ?_⟩;refine QB (x:=.ref ea) (t:=.ref D.aC) (b:=true) rfl ty T.NB ⟨true,rfl,gS ?_⟩;refine⟨.ref ea,rfl,false,ea,D.aC,bC "BadView",rfl,he,T.zt.get,⟨_,_,_,T.ND,ji.g,ji.b⟩,_,rfl,rfl,_,rfl,sS (by kernel_rfl) ?_⟩;exact⟨_,_,rfl,(sx.trans s1).trans se⟩
  obtain⟨cd,xc,hm⟩:=T.Lr
  match i,hi with
  | 0,_=>exact⟨_,rfl,rfl,_,rfl,sT (by rfl) ⟨_,rfl,x,_,_,rfl,Jx.ax,(by kernel_rfl),_,rfl,x,A,s,t,rfl,Jx,G,ht,(λm=>absurd m hn),λ_ H1 s1=>⟨D.aC,cd,rfl,xc,hm,λea hea=>⟨_,rfl,land H1 s1 ea hea⟩⟩⟩⟩
  | 1,_=>exact⟨_,rfl,rfl,_,rfl,sS (by rfl) ⟨_,rfl,rfl,_,rfl,sT (by rfl) ⟨_,rfl,x,_,_,rfl,Jx.ax,(by kernel_rfl),_,rfl,x,A,s,t,rfl,Jx,G,ht,(λm=>absurd m hn),λ_ H1 s1=>⟨D.aC,cd,rfl,xc,hm,λea hea=>⟨_,rfl,land H1 s1 ea hea⟩⟩⟩⟩⟩
  | 2,_=>exact⟨_,rfl,rfl,_,rfl,sS (by rfl) ⟨_,rfl,rfl,_,rfl,sS (by rfl) ⟨_,rfl,x,_,_,rfl,Jx.ax,(by kernel_rfl),_,rfl,x,A,s,t,rfl,Jx,G,ht,(λm=>absurd m hn),λ_ H1 s1=>⟨D.aC,cd,rfl,xc,hm,λea hea=>⟨_,rfl,land H1 s1 ea hea⟩⟩⟩⟩⟩
 ·rintro σ Hx ⟨v2,v3,rfl,sx⟩
  exact k Hx sx
end
end K13
end
section
namespace L2
open PySem PySem.Spec PyProof.Rows LX
structure SB(a₀:Array Keyed)(st:SortSt):Prop where
 perm:(arrOf st).Perm a₀
 kind:kindOf st=oneType'
 ok:failedOf st=none
theorem SB.size{a₀:Array Keyed}{st:SortSt}(h:SB a₀ st):(arrOf st).size=a₀.size:=h.perm.size_eq
theorem SB.key{a₀:Array Keyed}{st:SortSt}(h:SB a₀ st)(ik:IntKeys a₀){i:Nat}(hi:i<a₀.size):∃ t q,(arrOf st)[i]?=some (.int (K (arrOf st) i) t,q) :=
 SBase.at (st:=SortSt.mk' (kindOf st) (arrOf st) #[] (gallopOf st) (failedOf st)) ⟨h.perm,h.kind,h.ok,rfl⟩ ik hi
noncomputable def nL(xs:Array Keyed)(lo hi:Nat):Prop:=∀ i j,lo≤i→i≤j→j<hi→K xs i≤K xs j
noncomputable def Oth(xs ys:Array Keyed)(lo hi:Nat):Prop:=∀ k,k<lo∨hi≤k→ys[k]?=xs[k]?
theorem Oth.trans{xs ys zs:Array Keyed}{lo hi:Nat}(a:Oth xs ys lo hi)(b:Oth ys zs lo hi):Oth xs zs lo hi:=λk h=>(b k h).trans (a k h)
theorem Oth.refl{xs:Array Keyed}{lo hi:Nat}:Oth xs xs lo hi:=λ_ _=>rfl
structure Aft(a₀:Array Keyed)(st st':SortSt)(lo hi:Nat):Prop where
 b:SB a₀ st'
 p:pendingOf st'=pendingOf st
 o:Oth (arrOf st) (arrOf st') lo hi
theorem Aft.trans{a₀:Array Keyed}{st st1 st2:SortSt}{lo hi:Nat}(x:Aft a₀ st st1 lo hi)(y:Aft a₀ st1 st2 lo hi):Aft a₀ st st2 lo hi:=⟨y.b,y.p.trans x.p,x.o.trans y.o⟩
noncomputable def Unl(xs:Array Keyed):Prop:=(xs.toList.map λp=>numOf p.1).Nodup
theorem Ta{a₀:Array Keyed}{st:SortSt}(h:SB a₀ st)(u:Unl a₀){i j:Nat}(hi:i<a₀.size)(hj:j<a₀.size)(e:K (arrOf st) i=K (arrOf st) j):i=j:=by
 have u':Unl (arrOf st):=((aka.mp h.perm).map _).nodup_iff.mpr u;have li:i<(arrOf st).size:=by rw[h.size];exact hi
 have lj:j<(arrOf st).size:=by rw[h.size];exact hj
 rw[K_eq li,K_eq lj]at e;exact(List.getElem_inj (i:=i) (j:=j) (h₀:=by simpa using li) (h₁:=by simpa using lj) u').mp (by simpa using e)
section
variable{prog:Program}{w:World}{A:Around}{E:Value→Shared→Prop}{s:Shared}{a₀:Array Keyed}
theorem xu{st:SortSt}{i j:Nat}{Q:Option Bool→SortSt→Prop}(B:SB a₀ st)(ik:IntKeys a₀)(hi:i<a₀.size)(hj:j<a₀.size)(q:Q (some (decide (K (arrOf st) i<K (arrOf st) j))) st):wpS (model prog w) A E s (ltAt' i j) Q st:=by
 obtain⟨t,p,e⟩:=B.key ik hi;obtain⟨u,r,e'⟩:=B.key ik hj;exact wpS_ltAt B.kind e e' q
theorem US{st:SortSt}{lo n ok:Nat}{Q:Bool→SortSt→Prop}(ik:IntKeys a₀)(hn:lo+n≤a₀.size)(h1:1≤ok)(hok:ok≤n)(B:SB a₀ st)(up:nL (arrOf st) lo (lo+ok))(q:∀ st',Aft a₀ st st' lo (lo+n)→nL (arrOf st') lo (lo+n)→Q true st'):wpS (model prog w) A E s (binarySort' lo n ok) Q st:=by
 rw[binarySort'_eq];have em:max ok 1=ok:=by omega
 rw[em];refine wpS_bind (wpS_mono (wpS_forRange (I:=λk c st'=>c=(none,())∧Aft a₀ st st' lo (lo+n)∧nL (arrOf st') lo (lo+k)) (Q:=λc st'=>c=(none,())∧Aft a₀ st st' lo (lo+n)∧nL (arrOf st') lo (lo+n)) ?one ?all ⟨rfl,⟨B,rfl,.refl⟩,up⟩) ?rest)
 case rest =>
  rintro c st' ⟨rfl,af,rs⟩;exact wpS_pure (q st' af rs)
 case all =>
  rintro c st' ⟨hc,af,rs⟩;exact⟨hc,af,by rwa[show max ok n=n by omega]at rs⟩
 case one =>
  rintro k c st1 hk1 hk2 ⟨rfl,af,rs⟩;have kb:lo+k<a₀.size:=by omega
  refine wpS_bind (wpS_mono (wpS_forRange (I:=λx c st2=>st2=st1∧∃ l r,c=(none,l,r)∧l≤r∧r≤k∧r-l≤k-x∧(∀ i,i<l→K (arrOf st1) (lo+i)≤K (arrOf st1) (lo+k))∧∀ i,r≤i→i<k→K (arrOf st1) (lo+k)<K (arrOf st1) (lo+i))
   (Q:=λc st2=>st2=st1∧∃ l r,c=(none,l,r)∧l≤k∧(∀ i,i<l→K (arrOf st1) (lo+i)≤K (arrOf st1) (lo+k))∧∀ i,l≤i→i<k→K (arrOf st1) (lo+k)<K (arrOf st1) (lo+i)) ?two ?aix ⟨rfl,0,k,rfl,by omega,by omega,by omega,(λi hi=>by omega),(λi z1 z2=>by omega)⟩) ?put)
  case aix =>
   rintro c st2 ⟨rfl,l,r,rfl,c1,c2,c3,c4,c5⟩;obtain rfl:l=r:=(by omega);exact⟨rfl,l,l,rfl,c2,c4,c5⟩
  case two =>
   rintro x c st2 _ hx ⟨rfl,l,r,rfl,c1,c2,c3,c4,c5⟩;dsimp only;by_cases g:l≥r
   ·rw[if_pos g]
    obtain rfl:l=r:=(by omega);exact wpS_pure ⟨rfl,l,l,rfl,c2,c4,c5⟩
   ·rw[if_neg g]
    refine wpS_bind (xu af.b ik kb (by omega) ?_);by_cases d:K (arrOf st2) (lo+k)<K (arrOf st2) (lo+(l+r)/2)
    ·simp only[d,decide_true,if_true]
     exact wpS_pure ⟨rfl,l,(l+r)/2,rfl,by omega,by omega,by omega,c4,λi z1 z2=>Int.lt_of_lt_of_le d (rs _ _ (by omega) (by omega) (by omega))⟩
    ·simp only[d,decide_false,ai9,if_false]
     exact wpS_pure ⟨rfl,(l+r)/2+1,r,rfl,by omega,by omega,by omega,(λi z1=>akp (rs (lo+i) (lo+(l+r)/2) (by omega) (by omega) (by omega)) (akK.mp d)),c5⟩
  case put =>
   rintro c st2 ⟨rfl,l,r,rfl,c2,c4,c5⟩;show wpS _ _ _ _ (do moveDown' (lo+k) (lo+l);pure (ForInStep.yield (none,()))) _ _
   rw[moveDown'_eq];have ks:lo+k<(arrOf st2).size:=(by rw[af.b.size];exact kb);refine wpS_bind (wpS_modify (wpS_pure ⟨rfl,af.trans ⟨⟨(bubble_perm _ _ _).trans af.b.perm,af.b.kind,af.b.ok⟩,rfl,λx hx=>?_⟩,λi j z0 z1 z2=>?_⟩))
   ·show(bubble (arrOf st2) (lo+k) (lo+k-(lo+l)))[x]?=_
    rw[getElem?_bubble ks _ (by omega),if_neg (by omega),if_neg (by omega)]
   ·show K (bubble (arrOf st2) (lo+k) (lo+k-(lo+l))) i≤K (bubble (arrOf st2) (lo+k) (lo+k-(lo+l))) j
    rw[K_bubble ks (by omega),K_bubble ks (by omega),show lo+k-(lo+k-(lo+l))=lo+l by omega];have up1:∀ i,lo≤i→i<lo+l→K (arrOf st2) i≤K (arrOf st2) (lo+k):=λi y1 y2=>by
     have:=c4 (i-lo) (by omega)
     rwa[show lo+(i-lo)=i by omega]at this
    have up2:∀ i,lo+l≤i→i<lo+k→K (arrOf st2) (lo+k)<K (arrOf st2) i:=λi y1 y2=>by
     have:=c5 (i-lo) (by omega) (by omega)
     rwa[show lo+(i-lo)=i by omega]at this
    repeat' split
    all_goals first
     | (exfalso;omega)
     | exact ajj _
     | exact up1 _ (by omega) (by omega)
     | exact ajL (up2 _ (by omega) (by omega))
     | exact rs _ _ (by omega) (by omega) (by omega)
theorem UT{st:SortSt}{lo m:Nat}{Q:Option Nat→SortSt→Prop}(ik:IntKeys a₀)(u:Unl a₀)(hm:lo+m≤a₀.size)(h1:1≤m)(B:SB a₀ st)(q:∀ n st',1≤n→n≤m→Aft a₀ st st' lo (lo+n)→nL (arrOf st') lo (lo+n)→Q (some n) st'):wpS (model prog w) A E s (countRun' lo m) Q st:=by
 rw[countRun'_eq];have aiy:∀ st:SortSt,nL (arrOf st) lo (lo+1):=λst i j z0 z1 z2=>by
  have:i=j:=by omega
  rw[this];exact ajj _
 have snoc:∀ {st:SortSt} {n:Nat},1≤n→nL (arrOf st) lo (lo+n)→¬K (arrOf st) (lo+n)<K (arrOf st) (lo+n-1)→nL (arrOf st) lo (lo+(n+1)):=λ{st n} hn rs d i j z0 z1 z2=>by
  by_cases c:j<lo+n
  ·exact rs i j z0 z1 c
  ·obtain rfl:j=lo+n:=by omega
   by_cases e:i=lo+n
   ·rw[e];exact ajj _
   ·exact akp (rs i (lo+n-1) z0 (by omega) (by omega)) (akK.mp d)
 refine wpS_bind (wpS_mono (wpS_forRange (I:=λx c st'=>st'=st∧c=(none,x)∧nL (arrOf st) lo (lo+x)) (Q:=λc st'=>st'=st∧∃ n,c=(none,n)∧1≤n∧n≤m∧nL (arrOf st) lo (lo+n)∧(n=m∨K (arrOf st) (lo+n)<K (arrOf st) (lo+n-1))) ?one ?all ⟨rfl,rfl,aiy st⟩) ?rest)
 case all =>
  rintro c st' ⟨rfl,rfl,rs⟩;rw[show max 1 m=m by omega]at rs ⊢;exact⟨rfl,m,rfl,h1,aiN _,rs,.inl rfl⟩
 case one =>
  rintro x c st' x1 x2 ⟨rfl,rfl,rs⟩;dsimp only;refine wpS_bind (xu B ik (by omega) (by omega) ?_);by_cases d:K (arrOf st') (lo+x)<K (arrOf st') (lo+x-1)
  ·simp only[d,decide_true,if_true]
   exact wpS_pure ⟨rfl,x,rfl,x1,by omega,rs,.inr d⟩
  ·simp only[d,decide_false,ai9,if_false]
   exact wpS_pure ⟨rfl,rfl,snoc x1 rs d⟩
 case rest =>
  rintro c st' ⟨rfl,n,rfl,n1,n2,rs,o⟩;dsimp only;by_cases e:n=m
  ·rw[if_pos (by simp[e])]
   exact wpS_pure (q n st' n1 n2 ⟨B,rfl,.refl⟩ rs)
  ·rw[if_neg (by simp[e])]
   replace o:=o.resolve_left e;by_cases g:n>1
   ·rw[if_pos g]
    refine wpS_bind (xu B ik (by omega) (by omega) ?_);have d:K (arrOf st') lo<K (arrOf st') (lo+n-1):=by
     have a:=rs lo (lo+n-1) (by omega) (by omega) (by omega);have b:K (arrOf st') lo≠K (arrOf st') (lo+n-1):=λz=>by
      have:=Ta B u (by omega) (by omega) z
      omega
     omega
    simp only[d,decide_true,if_true];exact wpS_pure (q n st' n1 n2 ⟨B,rfl,.refl⟩ rs)
   ·rw[if_neg g]
    obtain rfl:n=1:=(by omega);refine wpS_bind (wpS_lift (wpAny_rule ⟨rfl,?_⟩));refine wpS_bind (wpS_mono (wpS_forRange (I:=λx c st2=>st2=st'∧c=(none,x,0)∧∀ i j,lo≤i→i≤j→j<lo+x→K (arrOf st') j≤K (arrOf st') i) (Q:=λc st2=>st2=st'∧∃ n,c=(none,n,0)∧2≤n∧n≤m∧∀ i j,lo≤i→i≤j→j<lo+n→K (arrOf st') j≤K (arrOf st') i) ?aiz ?all2 ⟨rfl,rfl,?ini⟩) ?ZG)
    case ini =>
     intro i j z0 z1 z2;by_cases c:i=j
     ·rw[c];exact ajj _
     ·obtain rfl:i=lo:=by omega
      obtain rfl:j=i+1:=(by omega);exact ajL o
    case all2 =>
     rintro c st2 ⟨rfl,rfl,fa⟩;rw[show max (1+1) m=m by omega]at fa ⊢;exact⟨rfl,m,rfl,by omega,aiN _,fa⟩
    case aiz =>
     rintro x c st2 x1 x2 ⟨rfl,rfl,fa⟩;dsimp only;refine wpS_bind (xu B ik (by omega) (by omega) ?_);by_cases d:K (arrOf st2) (lo+x)<K (arrOf st2) (lo+x-1)
     ·simp only[d,decide_true,if_true]
      rw[if_neg (by omega)];refine wpS_pure ⟨rfl,rfl,λi j z0 z1 z2=>?_⟩;by_cases c:j<lo+x
      ·exact fa i j z0 z1 c
      ·obtain rfl:j=lo+x:=by omega
       by_cases e:i=lo+x
       ·rw[e];exact ajj _
       ·exact akp (ajL d) (fa i (lo+x-1) z0 (by omega) (by omega))
     ·simp only[d,decide_false,ai9,if_false]
      refine wpS_bind (xu B ik (by omega) (by omega) ?_);have d2:K (arrOf st2) (lo+x-1)<K (arrOf st2) (lo+x):=by
       have b:K (arrOf st2) (lo+x-1)≠K (arrOf st2) (lo+x):=λz=>by
        have:=Ta B u (by omega) (by omega) z
        omega
       omega
      simp only[d2,decide_true,if_true];exact wpS_pure ⟨rfl,x,rfl,by omega,by omega,fa⟩
    case ZG =>
     rintro c st2 ⟨rfl,n,rfl,m1,m2,fa⟩;dsimp only;rw[if_neg (by omega)];have sz:lo+n≤(arrOf st2).size:=(by rw[B.size];omega);refine wpS_bind (wpS_reverse ?_);obtain⟨st3,e3⟩:∃ st3,setArr st2 (mirror (arrOf st2) lo (lo+n) ((lo+n-lo)/2))=st3:=⟨_,rfl⟩;rw[e3];have a3:arrOf st3=mirror (arrOf st2) lo (lo+n) ((lo+n-lo)/2):=(by rw[←e3]);have B3:SB a₀ st3:=(by rw[←e3];exact⟨(mirror_perm _ _ _ _).trans B.perm,B.kind,B.ok⟩);have p3:pendingOf st3=pendingOf st2:=(by rw[←e3]);have rs3:nL (arrOf st3) lo (lo+n):=λi j z0 z1 z2=>by
      rw[a3,K_mirror sz,K_mirror sz,if_pos (by omega),if_pos (by omega)];exact fa _ _ (by omega) (by omega) (by omega)
     have o3:Oth (arrOf st2) (arrOf st3) lo (lo+n):=λk hk=>by
      rw[a3,getElem?_mirror_all sz,if_neg (by omega)]
     refine wpS_bind (wpS_mono (wpS_forRange (I:=λx c st4=>st4=st3∧c=(none,x)∧nL (arrOf st3) lo (lo+x)) (Q:=λc st4=>st4=st3∧∃ n',c=(none,n')∧n≤n'∧n'≤m∧nL (arrOf st3) lo (lo+n')) ?aiA ?aiB ⟨rfl,rfl,rs3⟩) ?ZH)
     case aiB =>
      rintro c st4 ⟨rfl,rfl,rs⟩;rw[show max n m=m by omega]at rs ⊢;exact⟨rfl,m,rfl,m2,aiN _,rs⟩
     case aiA =>
      rintro x c st4 x1 x2 ⟨rfl,rfl,rs⟩;dsimp only;refine wpS_bind (xu B3 ik (by omega) (by omega) ?_);by_cases d:K (arrOf st4) (lo+x)<K (arrOf st4) (lo+x-1)
      ·simp only[d,decide_true,if_true]
       exact wpS_pure ⟨rfl,x,rfl,x1,by omega,rs⟩
      ·simp only[d,decide_false,ai9,if_false]
       exact wpS_pure ⟨rfl,rfl,snoc (by omega) rs d⟩
     case ZH =>
      rintro c st4 ⟨rfl,n',rfl,w1,w2,rs⟩;exact wpS_pure (q n' st4 (by omega) w2 ⟨B3,p3,λk hk=>o3 k (by omega)⟩ rs)
end
noncomputable def gal:Bool→Keyed→Array Keyed→Nat→Nat→Nat→StateT SortSt Sem (Option Nat):=sortPriv% PySem.Builtin.gallop
noncomputable def bey(left:Bool)(key:Keyed)(xs:Array Keyed)(b i:Nat):StateT SortSt Sem (Option Bool):=do
 let x ←elem' xs (b+i)
 if left then lt' x key else return (←lt' key x).map (!·)
theorem WK(left:Bool)(key:Keyed)(xs:Array Keyed)(b n k:Nat):gal left key xs b n k=(do
 let mut p:=0
 let mut o:=1
 let mut l:=0
 let mut r:=0
 let some g ←bey left key xs b k|return none
 if g then
  let z:=n-k
  for _ in [0:n] do
   if o≥z then break
   let some t ←bey left key xs b (k+o)|return none
   if !t then break
   p:=o
   o:=2*o+1
  l:=k+p+1
  r:=k+min o z
 else
  let z:=k+1
  for _ in [0:n] do
   if o≥z then break
   let some t ←bey left key xs b (k-o)|return none
   if t then break
   p:=o
   o:=2*o+1
  l:=k+1-min o z
  r:=k-p
 for _ in [0:n] do
  if l≥r then break
  let c:=l+(r-l)/2
  let some t ←bey left key xs b c|return none
  if t then l:=c+1 else r:=c
 return some r):=rfl
section
variable{prog:Program}{w:World}{A:Around}{E:Value→Shared→Prop}{s:Shared}{a₀:Array Keyed}
theorem Cd{st:SortSt}{a c:Int}{t u:Tok}{p q:Value}{Q:Option Bool→SortSt→Prop}(hk:kindOf st=oneType')(h:Q (some (decide (a<c))) st):wpS (model prog w) A E s (lt' (.int a t,p) (.int c u,q)) Q st:=by
 rw[lt'_eq];refine wpS_bind (wpS_get ?_);rw[hk,keyLt'_oneType];exact wpS_bind (wpS_lift (wpAny_attempt (oneLt_int ⟨rfl,wpS_pure h⟩)))
noncomputable def gJ(left:Bool)(c x:Int):Bool:=if left then decide (x<c) else !decide (c<x)
theorem UU{st:SortSt}{left:Bool}{xs:Array Keyed}{b i:Nat}{c x:Int}{t u:Tok}{p q:Value}{Q:Option Bool→SortSt→Prop}(hk:kindOf st=oneType')(hx:xs[b+i]?=some (.int x t,p))(h:Q (some (gJ left c x)) st):wpS (model prog w) A E s (bey left (.int c u,q) xs b i) Q st:=by
 unfold bey;rw[elem'_eq,hx];refine wpS_bind (wpS_pure ?_);cases left with
 | true=>exact Cd hk h
 | false=>exact wpS_bind (Cd hk (wpS_pure h))
theorem GX{st:SortSt}{left:Bool}{xs:Array Keyed}{b n k:Nat}{c:Int}{u:Tok}{q:Value}{Q:Option Nat→SortSt→Prop}(hk:kindOf st=oneType')(v:Nat→Int)(hx:∀ i,i<n→∃ t p,xs[b+i]?=some (.int (v i) t,p))(up:∀ i j,i≤j→j<n→v i≤v j)(kn:k<n)
  (h:∀ r,r≤n→(∀ i,i<r→gJ left c (v i)=true)→(∀ i,r≤i→i<n→gJ left c (v i)=false)→Q (some r) st):wpS (model prog w) A E s (gal left (.int c u,q) xs b n k) Q st:=by
 have mono:∀ i j,i≤j→j<n→gJ left c (v j)=true→gJ left c (v i)=true:=λi j ij jn z=>by
  have:=up i j ij jn
  cases left with
  | true =>
   have z:decide (v j<c)=true:=z;show decide (v i<c)=true;rw[decide_eq_true_eq]at z ⊢;omega
  | false =>
   have z:(!decide (c<v j))=true:=z;show(!decide (c<v i))=true;simp only[Bool.not_eq_true',decide_eq_false_iff_not]at z ⊢;omega
 have YO:∀ i j,i≤j→j<n→gJ left c (v i)=false→gJ left c (v j)=false:=λi j ij jn z=>by
  cases e:gJ left c (v j) with
  | false=>rfl
  | true=>rw[mono i j ij jn e]at z;cases z
 have ask:∀ {i:Nat} {Q:Option Bool→SortSt→Prop},i<n→Q (some (gJ left c (v i))) st→wpS (model prog w) A E s (bey left (.int c u,q) xs b i) Q st:=λ{i Q} hi hq=>by
  obtain⟨t,p,e⟩:=hx i hi;exact UU hk e hq
 have fin:∀(l r:Nat) (f:Nat→Option (Option Nat)×Nat×Nat→StateT SortSt Sem (ForInStep (Option (Option Nat)×Nat×Nat))) (g:Option (Option Nat)×Nat×Nat→StateT SortSt Sem (Option Nat)),l≤r→r≤n→(∀ i,i<l→gJ left c (v i)=true)→(∀ i,r≤i→i<n→gJ left c (v i)=false) →
   (∀ x l r,f x (none,l,r)=(if l≥r then pure (ForInStep.done (none,l,r)) else bey left (.int c u,q) xs b (l+(r-l)/2) >>= λt=>match t with|some t=>if t=true then pure (ForInStep.yield (none,l+(r-l)/2+1,r)) else pure (ForInStep.yield (none,l,l+(r-l)/2))|none=>pure (ForInStep.done (some none,l,r))))→(∀ l r,g (none,l,r)=pure (some r)) →
   wpS (model prog w) A E s (forIn [0:n] (none,l,r) f >>= g) Q st:=by
  intro l r f g lr rn nr fr hf hg;refine wpS_bind (wpS_mono (wpS_forRange (I:=λx d st'=>st'=st∧∃ l r,d=(none,l,r)∧l≤r∧r≤n∧r-l≤n-x∧(∀ i,i<l→gJ left c (v i)=true)∧∀ i,r≤i→i<n→gJ left c (v i)=false) (Q:=λd st'=>st'=st∧∃ l r,d=(none,l,r)∧l=r∧r≤n∧(∀ i,i<l→gJ left c (v i)=true)∧∀ i,r≤i→i<n→gJ left c (v i)=false) ?one ?all ⟨rfl,l,r,rfl,lr,rn,by omega,nr,fr⟩) ?rest)
  case all =>
   rintro d st' ⟨rfl,l,r,rfl,c1,c2,c3,c4,c5⟩;exact⟨rfl,l,r,rfl,by omega,c2,c4,c5⟩
  case one =>
   rintro x d st' _ xn ⟨rfl,l,r,rfl,c1,c2,c3,c4,c5⟩;rw[hf];by_cases g:l≥r
   ·rw[if_pos g]
    exact wpS_pure ⟨rfl,l,r,rfl,by omega,c2,c4,c5⟩
   ·rw[if_neg g]
    refine wpS_bind (ask (by omega) ?_);cases e:gJ left c (v (l+(r-l)/2)) with
    | true =>
     dsimp only;rw[if_pos rfl];exact wpS_pure ⟨rfl,_,r,rfl,by omega,c2,by omega,(λi hi=>mono i _ (by omega) (by omega) e),c5⟩
    | false =>
     dsimp only;rw[if_neg (by decide)];exact wpS_pure ⟨rfl,l,_,rfl,by omega,by omega,by omega,c4,λi z1 z2=>YO _ i z1 z2 e⟩
  case rest =>
   rintro d st' ⟨rfl,l,r,rfl,rfl,c2,c4,c5⟩;rw[hg];exact wpS_pure (h l c2 c4 c5)
 rw[WK];refine wpS_bind (ask kn ?_);cases e0:gJ left c (v k) with
 | true =>
  dsimp only;rw[if_pos rfl];refine wpS_bind (wpS_mono (wpS_forRange (I:=λx d st'=>st'=st∧∃ p o,d=(none,p,o)∧p<o∧x+1≤o∧k+p<n∧gJ left c (v (k+p))=true) (Q:=λd st'=>st'=st∧∃ p o,d=(none,p,o)∧p<o∧k+p<n∧gJ left c (v (k+p))=true∧(n-k≤o∨(k+o<n∧gJ left c (v (k+o))=false))) ?one ?all ⟨rfl,0,1,rfl,by omega,by omega,by omega,e0⟩) ?rest)
  case all =>
   rintro d st' ⟨rfl,p,o,rfl,c1,c2,c3,c4⟩;exact⟨rfl,p,o,rfl,c1,c3,c4,.inl (by omega)⟩
  case one =>
   rintro x d st' _ xn ⟨rfl,p,o,rfl,c1,c2,c3,c4⟩;dsimp only;by_cases g:o≥n-k
   ·rw[if_pos g]
    exact wpS_pure ⟨rfl,p,o,rfl,c1,c3,c4,.inl g⟩
   ·rw[if_neg g]
    refine wpS_bind (ask (by omega) ?_);cases e:gJ left c (v (k+o)) with
    | false =>
     dsimp only;rw[if_pos (by decide)];exact wpS_pure ⟨rfl,p,o,rfl,c1,c3,c4,.inr ⟨by omega,e⟩⟩
    | true =>
     dsimp only;rw[if_neg (by decide)];exact wpS_pure ⟨rfl,o,2*o+1,rfl,by omega,by omega,by omega,e⟩
  case rest =>
   rintro d st' ⟨rfl,p,o,rfl,c1,c3,c4,oo⟩;dsimp only;refine fin _ _ _ _ ?_ ?_ (λi hi=>mono i (k+p) (by omega) c3 c4) (λi z1 z2=>?_) (λx l r=>?_) (λl r=>rfl)
   ·rcases oo with z|⟨z,_⟩<;>omega
   ·omega
   ·rcases oo with z|⟨z,e⟩
    ·omega
    ·exact YO (k+o) i (by omega) z2 e
   ·dsimp only
    split
    ·rfl
    ·congr 1
     funext t
     cases t with
     | none=>rfl
     | some t=>cases t<;>rfl
 | false =>
  dsimp only;rw[if_neg (by decide)];refine wpS_bind (wpS_mono (wpS_forRange (I:=λx d st'=>st'=st∧∃ p o,d=(none,p,o)∧p<o∧x+1≤o∧p≤k∧gJ left c (v (k-p))=false) (Q:=λd st'=>st'=st∧∃ p o,d=(none,p,o)∧p<o∧p≤k∧gJ left c (v (k-p))=false∧(k+1≤o∨(o≤k∧gJ left c (v (k-o))=true))) ?one ?all ⟨rfl,0,1,rfl,by omega,by omega,by omega,e0⟩) ?rest)
  case all =>
   rintro d st' ⟨rfl,p,o,rfl,c1,c2,c3,c4⟩;exact⟨rfl,p,o,rfl,c1,c3,c4,.inl (by omega)⟩
  case one =>
   rintro x d st' _ xn ⟨rfl,p,o,rfl,c1,c2,c3,c4⟩;dsimp only;by_cases g:o≥k+1
   ·rw[if_pos g]
    exact wpS_pure ⟨rfl,p,o,rfl,c1,c3,c4,.inl g⟩
   ·rw[if_neg g]
    refine wpS_bind (ask (by omega) ?_);cases e:gJ left c (v (k-o)) with
    | true =>
     dsimp only;rw[if_pos rfl];exact wpS_pure ⟨rfl,p,o,rfl,c1,c3,c4,.inr ⟨by omega,e⟩⟩
    | false =>
     dsimp only;rw[if_neg (by decide)];exact wpS_pure ⟨rfl,o,2*o+1,rfl,by omega,by omega,by omega,e⟩
  case rest =>
   rintro d st' ⟨rfl,p,o,rfl,c1,c3,c4,oo⟩;dsimp only;refine fin _ _ _ _ ?_ (by omega) (λi hi=>?_) (λi z1 z2=>YO (k-p) i z1 z2 c4) (λx l r=>?_) (λl r=>rfl)
   ·rcases oo with z|⟨z,_⟩<;>omega
   ·rcases oo with z|⟨z,e⟩
    ·omega
    ·exact mono i (k-o) (by omega) (by omega) e
   ·dsimp only
    split
    ·rfl
    ·congr 1
     funext t
     cases t with
     | none=>rfl
     | some t=>cases t<;>rfl
end
noncomputable def kn(p:Keyed):Int:=numOf p.1
noncomputable abbrev Up(l:List Keyed):Prop:=l.Pairwise λx y=>kn x≤kn y
structure MI(a b o:List Keyed)(i j:Nat):Prop where
 pm:o.Perm (a.take i++b.take j)
 up:Up o
 la:∀ x∈o,∀ y∈a.drop i,kn x≤kn y
 lb:∀ x∈o,∀ y∈b.drop j,kn x≤kn y
section
variable{a b o:List Keyed}{i j k:Nat}
theorem UW{l:List Keyed}{i k:Nat}(h:Up l):∀ x∈(l.drop i).take k,∀ y∈l.drop (i+k),kn x≤kn y:=by
 have h2:Up ((l.drop i).take k++(l.drop i).drop k):=by rw[ajc];exact h.sublist (aj1 _ _)
 intro x hx y hy;rw[←List.drop_drop]at hy;exact(ajg.mp h2).2.2 x hx y hy
theorem MI.ca(m:MI a b o i j)(ua:Up a)(h:∀ x∈(a.drop i).take k,∀ y∈b.drop j,kn x≤kn y):MI a b (o++(a.drop i).take k) (i+k) j where
 pm:=by
  rw[show a.take (i+k)=a.take i++(a.drop i).take k from List.take_add];refine(m.pm.append_right _).trans ?_;rw[ajd,ajd];exact List.Perm.append_left _ ajw
 up:=ajg.mpr ⟨m.up,(ua.sublist (aj1 _ _)).sublist (ajO _ _),λx hx y hy=>m.la x hx y (ajX hy)⟩
 la:=λx hx y hy=>(aiS.mp hx).elim (λz=>m.la x z y (by rw[←List.drop_drop]at hy;exact ajY hy)) λz=>UW ua x z y hy
 lb:=λx hx y hy=>(aiS.mp hx).elim (λz=>m.lb x z y hy) λz=>h x z y hy
theorem MI.sw(m:MI a b o i j):MI b a o j i:=⟨m.pm.trans ajw,m.up,m.lb,m.la⟩
theorem MI.cb(m:MI a b o i j)(ub:Up b)(h:∀ x∈(b.drop j).take k,∀ y∈a.drop i,kn x≤kn y):MI a b (o++(b.drop j).take k) i (j+k):=(m.sw.ca ub h).sw
theorem MI.UX(m:MI a b o i j)(ua:Up a)(ub:Up b)(h:∀ x∈b.drop j,∀ y∈a.drop i,kn x≤kn y):(o++b.drop j++a.drop i).Perm (a++b)∧Up (o++b.drop j++a.drop i):=by
 constructor
 ·refine((m.pm.append_right _).append_right _).trans ?_
  have e1:a=a.take i++a.drop i:=(ajc _ _).symm;have e2:b=b.take j++b.drop j:=(ajc _ _).symm;rw[ajd,ajd];refine List.Perm.trans (l₂:=a.take i++(b++a.drop i)) ?_ ?_
  ·refine List.Perm.append_left _ ?_
   rw[←ajd,ajc]
  ·refine List.Perm.trans (List.Perm.append_left _ ajw) ?_
   rw[←ajd,ajc]
 ·refine ajg.mpr ⟨ajg.mpr ⟨m.up,ub.sublist (aj1 _ _),m.lb⟩,ua.sublist (aj1 _ _),λx hx y hy=>?_⟩
  exact(aiS.mp hx).elim (λz=>m.la x z y hy) λz=>h x z y hy
theorem MI.YQ(m:MI a b o i j)(ua:Up a)(ub:Up b)(h:∀ x∈a.drop i,∀ y∈b.drop j,kn x≤kn y):(o++a.drop i++b.drop j).Perm (a++b)∧Up (o++a.drop i++b.drop j) :=
 let ⟨x,y⟩:=m.sw.UX ub ua h;⟨x.trans ajw,y⟩
theorem drop_one{l:List Keyed}{i:Nat}(h:i<l.length):(l.drop i).take 1=[l[i]]:=by
 rw[ajJ h];rfl
theorem Hs{l:List Keyed}{i:Nat}(u:Up l)(h:i<l.length):∀ y∈l.drop i,kn l[i]≤kn y:=λy hy=>by
 have u2:Up (l.drop i):=u.sublist (aj1 _ _);rw[ajJ h]at hy u2;rcases aiY.mp hy with e|e
 ·rw[e];exact ajj _
 ·exact(aj7.mp u2).1 y e
end
noncomputable def mlo:Array Keyed→Array Keyed→StateT SortSt Sem (Array Keyed):=sortPriv% PySem.Builtin.mergeLo
noncomputable def smg:Nat→StateT SortSt Sem Unit:=sortPriv% PySem.Builtin.setMinGallop
theorem K1(g:Nat):smg g=modify λs=>SortSt.mk' (kindOf s) (arrOf s) (pendingOf s) g (failedOf s):=rfl
noncomputable def fiA(a b o:Array Keyed)(i j:Nat):Array Keyed:=o++a.extract i a.size++b.extract j b.size
noncomputable def laA(a b o:Array Keyed)(i j:Nat):Array Keyed:=o++b.extract j b.size++a.extract i a.size
theorem WL(a b:Array Keyed):mlo a b=(do
 rule "list.sort.merge-lo"
 let mut o:Array Keyed:=#[←elem' b 0]
 let mut i:=0
 let mut j:=1
 if j == b.size then return fiA a b o i j
 if i+1 == a.size then return laA a b o i j
 let mut g:=gallopOf (←get)
 for _ in [0:a.size+b.size] do
  let mut x:=0
  let mut y:=0
  for _ in [0:a.size+b.size] do
   let some t ←lt' (←elem' b j) (←elem' a i)|return fiA a b o i j
   if t then
    o:=o.push (←elem' b j);j:=j+1;y:=y+1;x:=0
    if j == b.size then return fiA a b o i j
    if y≥g then break
   else
    o:=o.push (←elem' a i);i:=i+1;x:=x+1;y:=0
    if i+1 == a.size then return laA a b o i j
    if x≥g then break
  rule "list.sort.gallop"
  g:=g+1
  for _ in [0:a.size+b.size] do
   if g>1 then g:=g-1
   smg g
   let some k ←gal false (←elem' b j) a i (a.size-i) 0|return fiA a b o i j
   x:=k
   if k>0 then
    o:=o++a.extract i (i+k);i:=i+k
    if i+1 == a.size then return laA a b o i j
    if i == a.size then return fiA a b o i j
   o:=o.push (←elem' b j);j:=j+1
   if j == b.size then return fiA a b o i j
   let some k ←gal true (←elem' a i) b j (b.size-j) 0|return fiA a b o i j
   y:=k
   if k>0 then
    o:=o++b.extract j (j+k);j:=j+k
    if j == b.size then return fiA a b o i j
   o:=o.push (←elem' a i);i:=i+1
   if i+1 == a.size then return laA a b o i j
   if x<7&&y<7 then break
  g:=g+1
  smg g
 unsupported "internal:list.sort.merge-bound"):=rfl
section
variable{prog:Program}{w:World}{A:Around}{E:Value→Shared→Prop}{s:Shared}
structure Rn1(a:Array Keyed):Prop where
 n:∀ p∈a.toList,∃ z t,p.1=.int z t
 up:Up a.toList
structure Gs(st st':SortSt):Prop where
 k:kindOf st'=kindOf st
 a:arrOf st'=arrOf st
 p:pendingOf st'=pendingOf st
 f:failedOf st'=failedOf st
noncomputable abbrev T7:=Option (Array Keyed)×Array Keyed×Nat×Nat×Nat×Nat×Nat
noncomputable def jp2(a b:Array Keyed)(i g x y:Nat)(o:Array Keyed)(j:Nat):StateT SortSt Sem (ForInStep T7):=do
 let e ←elem' a i
 if(i+1+1 == a.size)=true then pure (.done (some (laA a b (o.push e) (i+1) j),o.push e,i+1,j,g,x,y))
 else if(decide (x<7)&&decide (y<7))=true then pure (.done (none,o.push e,i+1,j,g,x,y)) else pure (.yield (none,o.push e,i+1,j,g,x,y))
noncomputable def jp1(a b:Array Keyed)(j g x y:Nat)(o:Array Keyed)(i:Nat):StateT SortSt Sem (ForInStep T7):=do
 let e ←elem' b j
 if(j+1 == b.size)=true then pure (.done (some (fiA a b (o.push e) i (j+1)),o.push e,i,j+1,g,x,y))
 else do
  let f ←elem' a i
  let z ←gal true f b (j+1) (b.size-(j+1)) 0
  match z with
  | some k=>if k>0 then(if(j+1+k == b.size)=true then pure (.done (some (fiA a b (o.push e++b.extract (j+1) (j+1+k)) i (j+1+k)),o.push e++b.extract (j+1) (j+1+k),i,j+1+k,g,x,k)) else jp2 a b i g x k (o.push e++b.extract (j+1) (j+1+k)) (j+1+k)) else jp2 a b i g x k (o.push e) (j+1)
  | _=>pure (.done (some (fiA a b (o.push e) i (j+1)),o.push e,i,j+1,g,x,y))
theorem EX{a:Array Keyed}(r:Rn1 a){i:Nat}(h:i<a.size):∃ t,a[i]=(.int (kn a[i]) t,a[i].2):=by
 obtain⟨z,t,e⟩:=r.n a[i] (by simp);refine⟨t,Prod.ext ?_ rfl⟩;show a[i].1=.int (numOf a[i].1) t;rw[e];rfl
theorem GY(a:Array Keyed)(i:Nat):(a.extract i a.size).toList=a.toList.drop i:=by
 rw[akb];show(a.toList.drop i).take (a.size-i)=_;rw[ai2 (by rw[ajr,aiX];exact aiN _)]
theorem PH(a:Array Keyed)(i k:Nat):(a.extract i (i+k)).toList=(a.toList.drop i).take k:=by
 rw[akb];show(a.toList.drop i).take (i+k-i)=_;rw[Nat.add_sub_cancel_left]
structure Wm(a b o:Array Keyed)(i j:Nat):Prop where
 m:MI a.toList b.toList o.toList i j
 i:i+1<a.size
 j:j<b.size
noncomputable def Rs(a b m:Array Keyed):Prop:=m.toList.Perm (a.toList++b.toList)∧Up m.toList
section
variable{a b o:Array Keyed}{i j k:Nat}
theorem NS(m:MI a.toList b.toList o.toList i j)(ra:Rn1 a)(rb:Rn1 b)(h:j=b.size∨i=a.size):Rs a b (fiA a b o i j):=by
 have e:(fiA a b o i j).toList=o.toList++a.toList.drop i++b.toList.drop j:=by unfold fiA;rw[ajp,ajp,GY,GY]
 have z:=m.YQ ra.up rb.up λx hx y hy=>by
  rcases h with h|h
  ·rw[aj6 (by rw[h];simp)]at hy;cases hy
  ·rw[aj6 (by rw[h];simp)]at hx;cases hx
 unfold Rs;rw[e];exact z
theorem Rk(m:MI a.toList b.toList o.toList i j)(ra:Rn1 a)(rb:Rn1 b)(h:i+1=a.size)(h2:∀ x∈b.toList,kn x≤kn (a[a.size-1]'(by omega))):Rs a b (laA a b o i j):=by
 have e:(laA a b o i j).toList=o.toList++b.toList.drop j++a.toList.drop i:=by unfold laA;rw[ajp,ajp,GY,GY]
 have z:=m.UX ra.up rb.up λx hx y hy=>by
  have hl:i<a.toList.length:=by simp;omega
  have:a.toList.drop i=[a.toList[i]]:=by rw[←drop_one hl,ai2 (by rw[ajr,aiX];omega)]
  rw[this]at hy;rw[aiJ.mp hy];have e2:a.toList[i]=a[a.size-1]'(by omega):=by simp;congr 1;omega
  rw[e2];exact h2 x (ajY hx)
 unfold Rs;rw[e];exact z
theorem OP(m:MI a.toList b.toList o.toList i j)(ra:Rn1 a)(rb:Rn1 b)(hi:i<a.size)(h:∀ h:j<b.size,kn a[i]≤kn b[j]):MI a.toList b.toList (o.push a[i]).toList (i+1) j:=by
 have hl:i<a.toList.length:=by simpa using hi
 have:=m.ca (k:=1) ra.up λx hx y hy=>by
  rw[drop_one hl]at hx;rw[aiJ.mp hx];have jl:j<b.toList.length:=by
   rcases ajB j b.toList.length with z|z
   ·exact z
   ·rw[aj6 z]at hy;cases hy
  have:=Hs rb.up jl y hy
  exact akp (by simpa using h (by simpa using jl)) this
 rw[drop_one hl]at this;rw[akE];simpa using this
theorem OQ(m:MI a.toList b.toList o.toList i j)(ra:Rn1 a)(rb:Rn1 b)(hj:j<b.size)(h:∀ h:i<a.size,kn b[j]≤kn a[i]):MI a.toList b.toList (o.push b[j]).toList i (j+1):=(OP m.sw rb ra hj h).sw
end
end
theorem Gs.trans{st st1 st2:SortSt}(x:Gs st st1)(y:Gs st1 st2):Gs st st2:=⟨y.k.trans x.k,y.a.trans x.a,y.p.trans x.p,y.f.trans x.f⟩
theorem Gs.refl{st:SortSt}:Gs st st:=⟨rfl,rfl,rfl,rfl⟩
noncomputable def P3(a b:Array Keyed)(n:Nat)(st:SortSt)(r:ForInStep T7)(st':SortSt):Prop:=Gs st st'∧match r with
 | .done c=>(∃ m,c.1=some m∧Rs a b m)∨∃ o i j g x y,c=(none,o,i,j,g,x,y)∧Wm a b o i j∧n≤i+j
 | .yield c=>∃ o i j g x y,c=(none,o,i,j,g,x,y)∧Wm a b o i j∧n≤i+j
section
variable{prog:Program}{w:World}{A:Around}{E:Value→Shared→Prop}{s:Shared}{a b o:Array Keyed}{i j n g x y:Nat}{st st':SortSt}
theorem iU{a:Array Keyed}{i:Nat}{Q:Keyed→SortSt→Prop}(h:i<a.size)(q:Q a[i] st):wpS (model prog w) A E s (elem' a i) Q st:=by
 rw[elem'_eq,ajq h];exact wpS_pure q
theorem PJ(ra:Rn1 a)(rb:Rn1 b)(h2:∀ h:0<a.size,∀ x∈b.toList,kn x≤kn (a[a.size-1]'(by omega)))(m:MI a.toList b.toList o.toList i j)(hi:i+1<a.size)(hj:j<b.size)(c:kn (a[i]'(by omega))≤kn b[j])(hn:n≤i+j+1)(gs:Gs st st'):wpS (model prog w) A E s (jp2 a b i g x y o j) (P3 a b n st) st':=by
 unfold jp2;refine wpS_bind (iU (by omega) ?_);have m':=OP m ra rb (by omega) λ_=>c;by_cases e:i+1+1=a.size
 ·rw[if_pos (by simp[e])]
  exact wpS_pure ⟨gs,.inl ⟨_,rfl,Rk m' ra rb e (h2 (by omega))⟩⟩
 ·rw[if_neg (by simp[e])]
  have w:Wm a b (o.push (a[i]'(by omega))) (i+1) j:=⟨m',by omega,hj⟩;split
  ·exact wpS_pure ⟨gs,.inr ⟨_,_,_,_,_,_,rfl,w,by omega⟩⟩
  ·exact wpS_pure ⟨gs,_,_,_,_,_,_,rfl,w,by omega⟩
theorem Tb{a:Array Keyed}(r:Rn1 a){b i:Nat}(h:i<a.size-b):∃ t p,a[b+i]?=some (.int (kn (a[b+i]'(by omega))) t,p):=by
 obtain⟨t,e⟩:=EX r (i:=b+i) (by omega);exact⟨t,_,by rw[ajq (by omega),←e]⟩
theorem VO{a:Array Keyed}(r:Rn1 a){i j:Nat}(ij:i≤j)(h:j<a.size):kn (a[i]'(by omega))≤kn a[j]:=by
 rcases ajB i j with c|c
 ·have:=ajV.mp r.up i j (by simp;omega) (by simpa using h) c
  simpa using this
 ·have:i=j:=by omega
  subst this;exact ajj _
noncomputable def vAt(a:Array Keyed)(b i:Nat):Int:=match a[b+i]? with
 | some p=>kn p
 | none=>0
theorem BP{a:Array Keyed}{b i:Nat}(h:b+i<a.size):vAt a b i=kn a[b+i]:=by unfold vAt;rw[ajq h]
theorem MW{a:Array Keyed}{left:Bool}{bs:Nat}{key:Keyed}{Q:Option Nat→SortSt→Prop}(hk:kindOf st=oneType')(ra:Rn1 a)(hb:bs<a.size)(kk:∃ t,key=(.int (kn key) t,key.2))
  (q:∀ r,bs+r≤a.size→(∀ i (h:bs+i<a.size),i<r→gJ left (kn key) (kn a[bs+i])=true)→(∀ i (h:bs+i<a.size),r≤i→gJ left (kn key) (kn a[bs+i])=false)→Q (some r) st):wpS (model prog w) A E s (gal left key a bs (a.size-bs) 0) Q st:=by
 obtain⟨t,e⟩:=kk;rw[e];refine GX hk (vAt a bs) (λi hi=>?_) (λi j ij jn=>?_) (by omega) λr rn h1 h3=>q r (by omega) (λi h hi=>?_) (λi h hi=>?_)
 ·obtain⟨t,p,z⟩:=Tb ra hi
  exact⟨t,p,by rw[BP (by omega)];exact z⟩
 ·rw[BP (by omega),BP (by omega)]
  exact VO ra (by omega) (by omega)
 ·rw[←BP h];exact h1 i hi
 ·rw[←BP h];exact h3 i hi (by omega)
theorem K2{c v:Int}(h:gJ false c v=true):v≤c:=by
 have h:(!decide (c<v))=true:=h;simp at h;exact h
theorem GZ{c v:Int}(h:gJ false c v=false):c<v:=by
 have h:(!decide (c<v))=false:=h;simpa using h
theorem K3{c v:Int}(h:gJ true c v=true):v<c:=of_decide_eq_true h
theorem G0{c v:Int}(h:gJ true c v=false):c≤v:=akK.mp (of_decide_eq_false h)
theorem PL(hk:kindOf st'=oneType')(ra:Rn1 a)(rb:Rn1 b)(h2:∀ h:0<a.size,∀ x∈b.toList,kn x≤kn (a[a.size-1]'(by omega)))(m:MI a.toList b.toList o.toList i j)(hi:i+1<a.size)(hj:j<b.size)(c:kn b[j]≤kn (a[i]'(by omega)))(hn:n≤i+j+1)(gs:Gs st st'):wpS (model prog w) A E s (jp1 a b j g x y o i) (P3 a b n st) st':=by
 unfold jp1;refine wpS_bind (iU hj ?_);have m1:=OQ m ra rb hj λ_=>c;by_cases e:j+1=b.size
 ·rw[if_pos (by simp[e])]
  exact wpS_pure ⟨gs,.inl ⟨_,rfl,NS m1 ra rb (.inl e)⟩⟩
 ·rw[if_neg (by simp[e])]
  refine wpS_bind (iU (by omega) ?_);refine wpS_bind (MW hk rb (by omega) (EX ra (by omega)) λk hk1 hk2 hk3=>?_);dsimp only;by_cases k0:k>0
  ·rw[if_pos k0]
   have m2:MI a.toList b.toList (o.push b[j]++b.extract (j+1) (j+1+k)).toList i (j+1+k):=by
    rw[ajp,PH];refine m1.cb rb.up λz hz y hy=>?_;obtain⟨q,hq,rfl⟩:=akx hz;have hq':q<k∧j+1+q<b.size:=by
     rw[aiV,ajr,aiX]at hq;omega
    have ez:((b.toList.drop (j+1)).take k)[q]=b[j+1+q]'hq'.2:=(by simp);rw[ez];have z1:=K3 (hk2 q hq'.2 hq'.1);have z2:=Hs ra.up (i:=i) (by simp;omega) y hy;have z3:kn (a.toList[i]'(by simp;omega))=kn (a[i]'(by omega)):=(by simp);omega
   by_cases e2:j+1+k=b.size
   ·rw[if_pos (by simp[e2])]
    exact wpS_pure ⟨gs,.inl ⟨_,rfl,NS m2 ra rb (.inl e2)⟩⟩
   ·rw[if_neg (by simp[e2])]
    exact PJ ra rb h2 m2 hi (by omega) (G0 (hk3 k (by omega) (aiN _))) (by omega) gs
  ·rw[if_neg k0]
   obtain rfl:k=0:=(by omega);exact PJ ra rb h2 m1 hi (by omega) (G0 (hk3 0 (by omega) (aiN _))) (by omega) gs
theorem UY{w_:World}{Q:Array Keyed→SortSt→Prop}(hk:kindOf st=oneType')(ra:Rn1 a)(rb:Rn1 b)(na:0<a.size)(nb:0<b.size)(h1:kn b[0]≤kn a[0])(h2:∀ x∈b.toList,kn x≤kn (a[a.size-1]'(by omega)))
  (q:∀ m st',Gs st st'→Rs a b m→Q m st'):wpS (model prog w_) A E s (mlo a b) Q st:=by
 rw[WL];refine wpS_bind (wpS_lift (wpAny_rule ⟨rfl,?_⟩));refine wpS_bind (iU nb ?_);have m0:MI a.toList b.toList (#[]:Array Keyed).toList 0 0:=⟨by simp,List.Pairwise.nil,(λx h=>nomatch h),(λx h=>nomatch h)⟩;have m1:MI a.toList b.toList (#[b[0]]:Array Keyed).toList 0 1:=OQ m0 ra rb nb λ_=>h1;dsimp only;by_cases e:1=b.size
 ·rw[if_pos (by simp[e])]
  exact wpS_pure (q _ _ .refl (NS m1 ra rb (.inl e)))
 rw[if_neg (by simp[e])];by_cases e2:0+1=a.size
 ·rw[if_pos (by simp[e2])]
  exact wpS_pure (q _ _ .refl (Rk m1 ra rb e2 h2))
 rw[if_neg (by simp;omega)];refine wpS_bind (wpS_get ?_);refine wpS_bind (wpS_mono (wpS_forRange (I:=λn c st'=>Gs st st'∧∃ o i j g,c=(none,o,i,j,g)∧Wm a b o i j∧n≤i+j) (Q:=λc st'=>Gs st st'∧∃ m,c.1=some m∧Rs a b m) ?one ?all ⟨.refl,_,_,_,_,rfl,⟨m1,by omega,by omega⟩,by omega⟩) ?rest)
 case rest =>
  rintro c st' ⟨gs,m,em,rs⟩;rw[em];exact wpS_pure (q m st' gs rs)
 case all =>
  rintro c st' ⟨gs,o,i,j,g,rfl,w,hn⟩
  have:=w.i
  have:=w.j
  omega
 case one =>
  rintro n c st1 _ hn ⟨gs,o,i,j,g,rfl,w,hij⟩;dsimp only;refine wpS_bind (wpS_mono (wpS_forRange (I:=λ_ c st'=>st'=st1∧∃ o i j x y,c=(none,o,i,j,x,y)∧Wm a b o i j∧n≤i+j) (Q:=λc st'=>st'=st1∧((∃ m,c.1=some m∧Rs a b m)∨∃ o i j x y,c=(none,o,i,j,x,y)∧Wm a b o i j∧n≤i+j)) ?in1 ?inE ⟨rfl,_,_,_,_,_,rfl,w,hij⟩) ?mid)
  case inE =>
   rintro c st' ⟨rfl,z⟩;exact⟨rfl,.inr z⟩
  case in1 =>
   rintro t c st' _ _ ⟨rfl,o,i,j,x,y,rfl,w,hij⟩;have wi:=w.i;have wj:=w.j;dsimp only;refine wpS_bind (iU wj (wpS_bind (iU (by omega) ?_)));obtain⟨ta,ea⟩:=EX ra (i:=i) (by omega);obtain⟨tb,eb⟩:=EX rb wj;rw[ea,eb];refine wpS_bind (Cd (by rw[gs.k];exact hk) ?_);by_cases d:kn b[j]<kn (a[i]'(by omega))
   ·rw[decide_eq_true d]
    dsimp only;rw[if_pos rfl];refine wpS_bind (iU wj ?_);have m2:=OQ w.m ra rb wj λ_=>ajL d;by_cases f:j+1=b.size
    ·rw[if_pos (by simp[f])]
     exact wpS_pure ⟨rfl,.inl ⟨_,rfl,NS m2 ra rb (.inl f)⟩⟩
    ·rw[if_neg (by simp[f])]
     have w2:Wm a b (o.push b[j]) i (j+1):=⟨m2,wi,by omega⟩;split
     ·exact wpS_pure ⟨rfl,.inr ⟨_,_,_,_,_,rfl,w2,by omega⟩⟩
     ·exact wpS_pure ⟨rfl,_,_,_,_,_,rfl,w2,by omega⟩
   ·rw[decide_eq_false d]
    dsimp only;rw[if_neg (by decide)];refine wpS_bind (iU (by omega) ?_);have m2:=OP w.m ra rb (by omega) λ_=>akK.mp d;by_cases f:i+1+1=a.size
    ·rw[if_pos (by simp[f])]
     exact wpS_pure ⟨rfl,.inl ⟨_,rfl,Rk m2 ra rb f h2⟩⟩
    ·rw[if_neg (by simp[f])]
     have w2:Wm a b (o.push (a[i]'(by omega))) (i+1) j:=⟨m2,by omega,wj⟩;split
     ·exact wpS_pure ⟨rfl,.inr ⟨_,_,_,_,_,rfl,w2,by omega⟩⟩
     ·exact wpS_pure ⟨rfl,_,_,_,_,_,rfl,w2,by omega⟩
  case mid =>
   rintro⟨r,o,i,j,x,y⟩ st' ⟨rfl,z⟩;rcases z with⟨m,em,rs⟩|⟨o,i,j,x,y,ec,w,hij⟩
   ·cases em
    dsimp only;exact wpS_pure ⟨gs,m,rfl,rs⟩
   ·cases ec
    dsimp only;refine wpS_bind (wpS_lift (wpAny_rule ⟨rfl,?_⟩));refine wpS_bind (wpS_mono (wpS_forRange (I:=λt c st2=>Gs st st2∧∃ o i j g x y,c=(none,o,i,j,g,x,y)∧Wm a b o i j∧n+t≤i+j) (Q:=λc st2=>Gs st st2∧((∃ m,c.1=some m∧Rs a b m)∨∃ o i j g x y,c=(none,o,i,j,g,x,y)∧Wm a b o i j∧n+1≤i+j)) ?th1 ?thE ⟨gs,_,_,_,_,_,_,rfl,w,by omega⟩) ?fin)
    case thE =>
     rintro c st2 ⟨gs2,o,i,j,g,x,y,rfl,w,hij⟩;exact⟨gs2,.inr ⟨_,_,_,_,_,_,rfl,w,by omega⟩⟩
    case fin =>
     rintro⟨r,o,i,j,g,x,y⟩ st2 ⟨gs2,z⟩;rcases z with⟨m,em,rs⟩|⟨o,i,j,g,x,y,ec,w,hij⟩
     ·cases em
      dsimp only;exact wpS_pure ⟨gs2,m,rfl,rs⟩
     ·cases ec
      dsimp only;rw[K1];exact wpS_bind (wpS_modify (wpS_pure ⟨gs2.trans ⟨rfl,rfl,rfl,rfl⟩,_,_,_,_,rfl,w,by omega⟩))
    case th1 =>
     rintro t c st2 _ _ ⟨gs2,o,i,j,g,x,y,rfl,w,hij⟩;have wi:=w.i;have wj:=w.j;have body:∀ g,wpS (model prog w_) A E s (do
       smg g
       let e ←elem' b j
       let z ←gal false e a i (a.size-i) 0
       match z with
       | some k=>if k>0 then(if(i+k+1 == a.size)=true then pure (.done (some (laA a b (o++a.extract i (i+k)) (i+k) j),o++a.extract i (i+k),i+k,j,g,k,y)) else if(i+k == a.size)=true then pure (.done (some (fiA a b (o++a.extract i (i+k)) (i+k) j),o++a.extract i (i+k),i+k,j,g,k,y)) else jp1 a b j g k y (o++a.extract i (i+k)) (i+k)) else jp1 a b j g k y o i
       | _=>pure (.done (some (fiA a b o i j),o,i,j,g,x,y))) (P3 a b (n+t+1) st) st2:=by
      intro g;rw[K1];refine wpS_bind (wpS_modify ?_);obtain⟨st3,e3⟩:∃ st3,SortSt.mk' (kindOf st2) (arrOf st2) (pendingOf st2) g (failedOf st2)=st3:=⟨_,rfl⟩;rw[e3];have gs3:Gs st st3:=gs2.trans (by rw[←e3];exact⟨rfl,rfl,rfl,rfl⟩);have hk3:kindOf st3=oneType':=(by rw[gs3.k];exact hk);refine wpS_bind (iU wj ?_);refine wpS_bind (MW hk3 ra (by omega) (EX rb wj) λk k1 k2 k3=>?_);dsimp only;by_cases k0:k>0
      ·rw[if_pos k0]
       have m2:MI a.toList b.toList (o++a.extract i (i+k)).toList (i+k) j:=by
        rw[ajp,PH];refine w.m.ca ra.up λz hz y hy=>?_;obtain⟨q,hq,rfl⟩:=akx hz;have hq':q<k∧i+q<a.size:=by
         rw[aiV,ajr,aiX]at hq;omega
        have ez:((a.toList.drop i).take k)[q]=a[i+q]'hq'.2:=(by simp);rw[ez];have z1:=K2 (k2 q hq'.2 hq'.1);have z2:=Hs rb.up (i:=j) (by simpa using wj) y hy;have z3:kn (b.toList[j]'(by simpa using wj))=kn b[j]:=(by simp);omega
       by_cases f1:i+k+1=a.size
       ·rw[if_pos (by simp[f1])]
        exact wpS_pure ⟨gs3,.inl ⟨_,rfl,Rk m2 ra rb f1 h2⟩⟩
       ·rw[if_neg (by simp[f1])]
        by_cases f2:i+k=a.size
        ·rw[if_pos (by simp[f2])]
         exact wpS_pure ⟨gs3,.inl ⟨_,rfl,NS m2 ra rb (.inr f2)⟩⟩
        ·rw[if_neg (by simp[f2])]
         exact PL hk3 ra rb (λ_=>h2) m2 (by omega) wj (ajL (GZ (k3 k (by omega) (aiN _)))) (by omega) gs3
      ·rw[if_neg k0]
       obtain rfl:k=0:=(by omega);exact PL hk3 ra rb (λ_=>h2) w.m wi wj (ajL (GZ (k3 0 (by omega) (aiN _)))) (by omega) gs3
     have conv:∀(r:ForInStep T7) st3,P3 a b (n+t+1) st r st3→(match r with|.done c'=>Gs st st3∧((∃ m,c'.1=some m∧Rs a b m)∨∃ o i j g x y,c'=(none,o,i,j,g,x,y)∧Wm a b o i j∧n+1≤i+j)|.yield c'=>Gs st st3∧∃ o i j g x y,c'=(none,o,i,j,g,x,y)∧Wm a b o i j∧n+(t+1)≤i+j):=by
      rintro r st3 ⟨g3,z⟩;cases r with
      | done c'=>exact⟨g3,z.imp id λ⟨o,i,j,g,x,y,e,w,l⟩=>⟨o,i,j,g,x,y,e,w,by omega⟩⟩
      | yield c'=>obtain⟨o,i,j,g,x,y,e,w,l⟩:=z;exact⟨g3,o,i,j,g,x,y,e,w,by omega⟩
     by_cases gg:g>1
     ·refine wpS_mono (Q:=P3 a b (n+t+1) st) ?_ λr st3 hz=>by(have zz:=conv r st3 hz;cases r<;>exact zz)
      have z:=body (g-1);show wpS (model prog w_) A E s (if g>1 then _ else _) _ _;rw[if_pos gg];exact z
     ·refine wpS_mono (Q:=P3 a b (n+t+1) st) ?_ λr st3 hz=>by(have zz:=conv r st3 hz;cases r<;>exact zz)
      have z:=body g;show wpS (model prog w_) A E s (if g>1 then _ else _) _ _;rw[if_neg gg];exact z
end
structure MH(a b o:List Keyed)(i j:Nat):Prop where
 pm:o.Perm (a.drop i++b.drop j)
 up:Up o
 la:∀ y∈a.take i,∀ x∈o,kn y≤kn x
 lb:∀ y∈b.take j,∀ x∈o,kn y≤kn x
section
variable{a b o:List Keyed}{i j k:Nat}
theorem MH.sw(m:MH a b o i j):MH b a o j i:=⟨m.pm.trans ajw,m.up,m.lb,m.la⟩
theorem mM{l:List Keyed}(ki:k≤i):l.take i=l.take k++(l.take i).drop k:=by
 have:(l.take i).take k=l.take k:=by rw[List.take_take,Nat.min_eq_left ki]
 rw[←this,ajc]
theorem MH.ca(m:MH a b o i j)(ua:Up a)(ki:k≤i)(h:∀ x∈(a.take i).drop k,∀ y∈b.take j,kn y≤kn x):MH a b ((a.take i).drop k++o) k j where
 pm:=by
  have e:a.drop k=(a.take i).drop k++a.drop i:=by
   have h1:a.take k++a.drop k=a.take k++((a.take i).drop k++a.drop i):=(by rw[ajc,←ajd,←mM ki,ajc]);exact List.append_cancel_left h1
  rw[e,ajd];exact List.Perm.append_left _ m.pm
 up:=ajg.mpr ⟨(ua.sublist (ajO _ _)).sublist (aj1 _ _),m.up,λx hx y hy=>m.la x (ajY hx) y hy⟩
 la:=λy hy x hx=>by
  have u2:Up (a.take k++(a.take i).drop k):=by rw[←mM ki];exact ua.sublist (ajO _ _)
  rcases aiS.mp hx with z|z
  ·exact(ajg.mp u2).2.2 y hy x z
  ·exact m.la y (by rw[mM ki];exact ajb _ hy) x z
 lb:=λy hy x hx=>(aiS.mp hx).elim (λz=>h x z y hy) λz=>m.lb y hy x z
theorem MH.cb(m:MH a b o i j)(ub:Up b)(kj:k≤j)(h:∀ x∈(b.take j).drop k,∀ y∈a.take i,kn y≤kn x):MH a b ((b.take j).drop k++o) i k:=(m.sw.ca ub kj h).sw
theorem MH.UX(m:MH a b o i j)(ua:Up a)(ub:Up b)(h:∀ y∈b.take j,∀ x∈a.take i,kn y≤kn x):(b.take j++a.take i++o).Perm (a++b)∧Up (b.take j++a.take i++o):=by
 constructor
 ·refine(List.Perm.append_left _ m.pm).trans ?_
  rw[ajd,←ajd (a.take i),ajc];refine ajw.trans ?_;rw[ajd];refine List.Perm.append_left _ ?_;refine ajw.trans ?_;rw[ajc]
 ·refine ajg.mpr ⟨ajg.mpr ⟨ub.sublist (ajO _ _),ua.sublist (ajO _ _),h⟩,m.up,λx hx y hy=>?_⟩
  exact(aiS.mp hx).elim (λz=>m.lb x z y hy) λz=>m.la x z y hy
theorem MH.YQ(m:MH a b o i j)(ua:Up a)(ub:Up b)(h:∀ y∈a.take i,∀ x∈b.take j,kn y≤kn x):(a.take i++b.take j++o).Perm (a++b)∧Up (a.take i++b.take j++o) :=
 let ⟨x,y⟩:=m.sw.UX ub ua h;⟨x.trans ajw,y⟩
theorem UZ{l:List Keyed}(h:i<l.length):(l.take (i+1)).drop i=[l[i]]:=by
 rw[ai8 h,List.drop_append_of_le_length (by rw[aiV];omega),aj6 (by rw[aiV];omega)];rfl
theorem KI{l:List Keyed}(u:Up l)(h:i<l.length):∀ y∈l.take (i+1),kn y≤kn l[i]:=λy hy=>by
 have u2:Up (l.take (i+1)):=u.sublist (ajO _ _);rw[ai8 h]at hy u2;rcases aiS.mp hy with z|z
 ·exact(ajg.mp u2).2.2 y z _ (aiJ.mpr rfl)
 ·rw[aiJ.mp z];exact ajj _
end
noncomputable def mhi:Array Keyed→Array Keyed→StateT SortSt Sem (Array Keyed):=sortPriv% PySem.Builtin.mergeHi
noncomputable def doA(a b o:Array Keyed)(i j:Nat):Array Keyed:=a.extract 0 i++b.extract 0 j++o.reverse
noncomputable def fbA(a b o:Array Keyed)(i j:Nat):Array Keyed:=b.extract 0 j++a.extract 0 i++o.reverse
theorem WM(a b:Array Keyed):mhi a b=(do
 rule "list.sort.merge-hi"
 let mut i:=a.size-1
 let mut j:=b.size
 let mut o:Array Keyed:=#[←elem' a i]
 if i == 0 then return doA a b o i j
 if j == 1 then return fbA a b o i j
 let mut g:=gallopOf (←get)
 for _ in [0:a.size+b.size] do
  let mut x:=0
  let mut y:=0
  for _ in [0:a.size+b.size] do
   let some t ←lt' (←elem' b (j-1)) (←elem' a (i-1))|return doA a b o i j
   if t then
    i:=i-1;o:=o.push (←elem' a i);x:=x+1;y:=0
    if i == 0 then return doA a b o i j
    if x≥g then break
   else
    j:=j-1;o:=o.push (←elem' b j);y:=y+1;x:=0
    if j == 1 then return fbA a b o i j
    if y≥g then break
  rule "list.sort.gallop"
  g:=g+1
  for _ in [0:a.size+b.size] do
   if g>1 then g:=g-1
   smg g
   let some r ←gal false (←elem' b (j-1)) a 0 i (i-1)|return doA a b o i j
   let k:=i-r
   x:=k
   if k>0 then
    o:=o++(a.extract r i).reverse;i:=r
    if i == 0 then return doA a b o i j
   j:=j-1;o:=o.push (←elem' b j)
   if j == 1 then return fbA a b o i j
   let some r ←gal true (←elem' a (i-1)) b 0 j (j-1)|return doA a b o i j
   let k:=j-r
   y:=k
   if k>0 then
    o:=o++(b.extract r j).reverse;j:=r
    if j == 1 then return fbA a b o i j
    if j == 0 then return doA a b o i j
   i:=i-1;o:=o.push (←elem' a i)
   if i == 0 then return doA a b o i j
   if x<7&&y<7 then break
  g:=g+1
  smg g
 unsupported "internal:list.sort.merge-bound"):=rfl
structure Wh(a b o:Array Keyed)(i j:Nat):Prop where
 m:MH a.toList b.toList o.toList.reverse i j
 i0:0<i
 il:i<a.size
 j0:1<j
 jl:j≤b.size
section
variable{a b o:Array Keyed}{i j k:Nat}
theorem VP(a:Array Keyed)(i:Nat):(a.extract 0 i).toList=a.toList.take i:=by
 rw[akb];show(a.toList.drop 0).take (i-0)=_;rw[List.drop_zero,Nat.sub_zero]
theorem xv(a:Array Keyed)(r i:Nat):(a.extract r i).toList=(a.toList.take i).drop r:=by
 rw[akb,List.drop_take]
theorem NT(m:MH a.toList b.toList o.toList.reverse i j)(ra:Rn1 a)(rb:Rn1 b)(h:i=0∨j=0):Rs a b (doA a b o i j):=by
 have e:(doA a b o i j).toList=a.toList.take i++b.toList.take j++o.toList.reverse:=by unfold doA;rw[ajp,ajp,VP,VP,aks]
 have z:=m.YQ ra.up rb.up λy hy x hx=>by
  rcases h with h|h
  ·rw[h]at hy;cases hy
  ·rw[h]at hx;cases hx
 unfold Rs;rw[e];exact z
theorem Rl(m:MH a.toList b.toList o.toList.reverse i j)(ra:Rn1 a)(rb:Rn1 b)(nb:0<b.size)(h:j=1)(h1:∀ x∈a.toList,kn b[0]≤kn x):Rs a b (fbA a b o i j):=by
 have e:(fbA a b o i j).toList=b.toList.take j++a.toList.take i++o.toList.reverse:=by unfold fbA;rw[ajp,ajp,VP,VP,aks]
 have z:=m.UX ra.up rb.up λy hy x hx=>by
  rw[h,ai8 (by simpa using nb)]at hy
  have:y=b[0]:=by simpa using hy
  rw[this];exact h1 x (ajX hx)
 unfold Rs;rw[e];exact z
theorem G4(m:MH a.toList b.toList o.toList.reverse i j)(ra:Rn1 a)(rb:Rn1 b)(hi:0<i)(il:i≤a.size)(jl:j≤b.size)(h:∀ h:0<j,kn (b[j-1]'(by omega))≤kn (a[i-1]'(by omega))):MH a.toList b.toList (o.push (a[i-1]'(by omega))).toList.reverse (i-1) j:=by
 have hl:i-1<a.toList.length:=by simp;omega
 have sg:(a.toList.take i).drop (i-1)=[a.toList[i-1]]:=by
  have:=UZ hl
  rwa[show i-1+1=i by omega]at this
 have:=m.ca (k:=i-1) ra.up (by omega) λx hx y hy=>by
  rw[sg]at hx;rw[aiJ.mp hx];have j0:0<j:=by
   rcases Nat.eq_zero_or_pos j with z|z
   ·rw[z]at hy;cases hy
   ·exact z
  have jl':j-1<b.toList.length:=by simp;omega
  have z:=KI rb.up jl' y (by rw[show j-1+1=j by omega];exact hy);have z2:=h j0;have e1:kn (b.toList[j-1]'jl')=kn (b[j-1]'(by omega)):=by simp
  have e2:kn (a.toList[i-1]'hl)=kn (a[i-1]'(by omega)):=by simp
  omega
 rw[sg]at this;rw[akE,List.reverse_append];simpa using this
theorem PM(m:MH a.toList b.toList o.toList.reverse i j)(ra:Rn1 a)(rb:Rn1 b)(hj:0<j)(jl:j≤b.size)(il:i≤a.size)(h:∀ h:0<i,kn (a[i-1]'(by omega))≤kn (b[j-1]'(by omega))):MH a.toList b.toList (o.push (b[j-1]'(by omega))).toList.reverse i (j-1):=(G4 m.sw rb ra hj jl il h).sw
end
noncomputable abbrev T7h:=Option (Array Keyed)×Nat×Nat×Array Keyed×Nat×Nat×Nat
noncomputable def P4(a b:Array Keyed)(n:Nat)(st:SortSt)(r:ForInStep T7h)(st':SortSt):Prop:=Gs st st'∧match r with
 | .done c=>(∃ m,c.1=some m∧Rs a b m)∨∃ i j o g x y,c=(none,i,j,o,g,x,y)∧Wh a b o i j∧i+j+n≤a.size+b.size
 | .yield c=>∃ i j o g x y,c=(none,i,j,o,g,x,y)∧Wh a b o i j∧i+j+n≤a.size+b.size
noncomputable def jq2(a b:Array Keyed)(i g x y:Nat)(o:Array Keyed)(j:Nat):StateT SortSt Sem (ForInStep T7h):=do
 let e ←elem' a (i-1)
 if(i-1 == 0)=true then pure (.done (some (doA a b (o.push e) (i-1) j),i-1,j,o.push e,g,x,y))
 else if(decide (x<7)&&decide (y<7))=true then pure (.done (none,i-1,j,o.push e,g,x,y)) else pure (.yield (none,i-1,j,o.push e,g,x,y))
section
variable{prog:Program}{w:World}{A:Around}{E:Value→Shared→Prop}{s:Shared}{a b o:Array Keyed}{i j n g x y:Nat}{st st':SortSt}
theorem PN(ra:Rn1 a)(rb:Rn1 b)(m:MH a.toList b.toList o.toList.reverse i j)(hi:0<i)(il:i<a.size)(hj:1<j)(jl:j≤b.size)(c:kn (b[j-1]'(by omega))≤kn (a[i-1]'(by omega)))(hn:i+j+n≤a.size+b.size+1)(gs:Gs st st'):wpS (model prog w) A E s (jq2 a b i g x y o j) (P4 a b n st) st':=by
 unfold jq2;refine wpS_bind (iU (by omega) ?_);have m':=G4 m ra rb hi (by omega) jl λ_=>c;by_cases e:i-1=0
 ·rw[if_pos (by simp[e])]
  exact wpS_pure ⟨gs,.inl ⟨_,rfl,NT m' ra rb (.inl e)⟩⟩
 ·rw[if_neg (by simp[e])]
  have w:Wh a b (o.push (a[i-1]'(by omega))) (i-1) j:=⟨m',by omega,by omega,hj,jl⟩;split
  ·exact wpS_pure ⟨gs,.inr ⟨_,_,_,_,_,_,rfl,w,by omega⟩⟩
  ·exact wpS_pure ⟨gs,_,_,_,_,_,_,rfl,w,by omega⟩
theorem MX{a:Array Keyed}{left:Bool}{n k:Nat}{key:Keyed}{Q:Option Nat→SortSt→Prop}(hk:kindOf st=oneType')(ra:Rn1 a)(hn:n≤a.size)(kn':k<n)(kk:∃ t,key=(.int (kn key) t,key.2))
  (q:∀ r,r≤n→(∀ i (h:i<n),i<r→gJ left (kn key) (kn (a[i]'(by omega)))=true)→(∀ i (h:i<n),r≤i→gJ left (kn key) (kn (a[i]'(by omega)))=false)→Q (some r) st):wpS (model prog w) A E s (gal left key a 0 n k) Q st:=by
 obtain⟨t,e⟩:=kk;rw[e];have ev:∀ {i:Nat} (h:i<n),vAt a 0 i=kn (a[i]'(by omega)):=λ{i} h=>by rw[BP (by omega)];congr 2;omega
 refine GX hk (vAt a 0) (λi hi=>?_) (λi j ij jn=>?_) kn' λr rn h1 h3=>q r rn (λi h hi=>?_) (λi h hi=>?_)
 ·obtain⟨t,p,z⟩:=Tb ra (b:=0) (i:=i) (by omega)
  exact⟨t,p,by rw[BP (by omega)];exact z⟩
 ·rw[ev (by omega),ev jn]
  exact VO ra ij (by omega)
 ·rw[←ev h];exact h1 i hi
 ·rw[←ev h];exact h3 i hi h
end
noncomputable def jq1(a b:Array Keyed)(j g x y:Nat)(o:Array Keyed)(i:Nat):StateT SortSt Sem (ForInStep T7h):=do
 let e ←elem' b (j-1)
 if(j-1 == 1)=true then pure (.done (some (fbA a b (o.push e) i (j-1)),i,j-1,o.push e,g,x,y))
 else do
  let f ←elem' a (i-1)
  let z ←gal true f b 0 (j-1) (j-1-1)
  match z with
  | some r=>if j-1-r>0 then(if(r == 1)=true then pure (.done (some (fbA a b (o.push e++(b.extract r (j-1)).reverse) i r),i,r,o.push e++(b.extract r (j-1)).reverse,g,x,j-1-r)) else if(r == 0)=true then pure (.done (some (doA a b (o.push e++(b.extract r (j-1)).reverse) i r),i,r,o.push e++(b.extract r (j-1)).reverse,g,x,j-1-r)) else jq2 a b i g x (j-1-r) (o.push e++(b.extract r (j-1)).reverse) r) else jq2 a b i g x (j-1-r) (o.push e) (j-1)
  | _=>pure (.done (some (doA a b (o.push e) i (j-1)),i,j-1,o.push e,g,x,y))
section
variable{prog:Program}{w:World}{A:Around}{E:Value→Shared→Prop}{s:Shared}{a b o:Array Keyed}{i j n g x y:Nat}{st st':SortSt}
theorem PQ(o:Array Keyed)(l:Array Keyed):(o++l.reverse).toList.reverse=l.toList++o.toList.reverse:=by
 rw[ajp,List.reverse_append,aks,List.reverse_reverse]
theorem KJ{a:Array Keyed}{r i:Nat}{p:Keyed}(il:i≤a.size)(h:p∈(a.toList.take i).drop r):∃ q,r≤q∧∃ h:q<i,p=a[q]'(by omega):=by
 obtain⟨k,hk,rfl⟩:=akx h;have hk':k<i-r:=by
  rw[ajr,aiV,aiX]at hk;omega
 exact⟨r+k,by omega,by omega,by simp⟩
theorem PR(hk:kindOf st'=oneType')(ra:Rn1 a)(rb:Rn1 b)(h1:∀ h:0<b.size,∀ x∈a.toList,kn b[0]≤kn x)(m:MH a.toList b.toList o.toList.reverse i j)(hi:0<i)(il:i<a.size)(hj:1<j)(jl:j≤b.size)(c:kn (a[i-1]'(by omega))≤kn (b[j-1]'(by omega)))(hn:i+j+n≤a.size+b.size+1)(gs:Gs st st'):wpS (model prog w) A E s (jq1 a b j g x y o i) (P4 a b n st) st':=by
 unfold jq1;refine wpS_bind (iU (by omega) ?_);have m1:=PM m ra rb (by omega) jl (by omega) λ_=>c;by_cases e:j-1=1
 ·rw[if_pos (by simp[e])]
  exact wpS_pure ⟨gs,.inl ⟨_,rfl,Rl m1 ra rb (by omega) e (h1 (by omega))⟩⟩
 ·rw[if_neg (by simp[e])]
  refine wpS_bind (iU (by omega) ?_);refine wpS_bind (MX hk rb (by omega) (by omega) (EX ra (by omega)) λr rn k2 k3=>?_);dsimp only;by_cases k0:j-1-r>0
  ·rw[if_pos k0]
   have m2:MH a.toList b.toList (o.push (b[j-1]'(by omega))++(b.extract r (j-1)).reverse).toList.reverse i r:=by
    rw[PQ,xv];refine m1.cb rb.up (by omega) λp hp y hy=>?_;obtain⟨q,q1,q2,rfl⟩:=KJ (by omega) hp;have z1:=G0 (k3 q q2 q1);have hl:i-1<a.toList.length:=(by simp;omega);have z2:=KI ra.up hl y (by rw[show i-1+1=i by omega];exact hy);have z3:kn (a.toList[i-1]'hl)=kn (a[i-1]'(by omega)):=(by simp);omega
   by_cases f1:r=1
   ·rw[if_pos (by simp[f1])]
    exact wpS_pure ⟨gs,.inl ⟨_,rfl,Rl m2 ra rb (by omega) f1 (h1 (by omega))⟩⟩
   ·rw[if_neg (by simp[f1])]
    by_cases f2:r=0
    ·rw[if_pos (by simp[f2])]
     exact wpS_pure ⟨gs,.inl ⟨_,rfl,NT m2 ra rb (.inr f2)⟩⟩
    ·rw[if_neg (by simp[f2])]
     exact PN ra rb m2 hi il (by omega) (by omega) (ajL (K3 (k2 (r-1) (by omega) (by omega)))) (by omega) gs
  ·rw[if_neg k0]
   exact PN ra rb m1 hi il (by omega) (by omega) (ajL (K3 (k2 (j-1-1) (by omega) (by omega)))) (by omega) gs
theorem U0{w_:World}{Q:Array Keyed→SortSt→Prop}(hk:kindOf st=oneType')(ra:Rn1 a)(rb:Rn1 b)(na:0<a.size)(nb:0<b.size)(h1:∀ x∈a.toList,kn b[0]≤kn x)(h2:kn (b[b.size-1]'(by omega))≤kn (a[a.size-1]'(by omega)))
  (q:∀ m st',Gs st st'→Rs a b m→Q m st'):wpS (model prog w_) A E s (mhi a b) Q st:=by
 rw[WM];refine wpS_bind (wpS_lift (wpAny_rule ⟨rfl,?_⟩));refine wpS_bind (iU (by omega) ?_);have m0:MH a.toList b.toList (#[]:Array Keyed).toList.reverse a.size b.size:=⟨by simp,List.Pairwise.nil,(λy _ x h=>nomatch h),(λy _ x h=>nomatch h)⟩;have m1:MH a.toList b.toList (#[a[a.size-1]'(by omega)]:Array Keyed).toList.reverse (a.size-1) b.size:=G4 m0 ra rb na (aiN _) (aiN _) λ_=>h2;dsimp only;by_cases e:a.size-1=0
 ·rw[if_pos (by simp[e])]
  exact wpS_pure (q _ _ .refl (NT m1 ra rb (.inl e)))
 rw[if_neg (by simp[e])];by_cases e2:b.size=1
 ·rw[if_pos (by simp[e2])]
  exact wpS_pure (q _ _ .refl (Rl m1 ra rb nb e2 h1))
 rw[if_neg (by simp[e2])];refine wpS_bind (wpS_get ?_);refine wpS_bind (wpS_mono (wpS_forRange (I:=λn c st'=>Gs st st'∧∃ i j o g,c=(none,i,j,o,g)∧Wh a b o i j∧i+j+n≤a.size+b.size) (Q:=λc st'=>Gs st st'∧∃ m,c.1=some m∧Rs a b m) ?one ?all ⟨.refl,_,_,_,_,rfl,⟨m1,by omega,by omega,by omega,aiN _⟩,by omega⟩) ?rest)
 case rest =>
  rintro c st' ⟨gs,m,em,rs⟩;rw[em];exact wpS_pure (q m st' gs rs)
 case all =>
  rintro c st' ⟨gs,i,j,o,g,rfl,w,hn⟩
  have:=w.i0
  have:=w.j0
  omega
 case one =>
  rintro n c st1 _ hn ⟨gs,i,j,o,g,rfl,w,hij⟩;dsimp only;refine wpS_bind (wpS_mono (wpS_forRange (I:=λ_ c st'=>st'=st1∧∃ i j o x y,c=(none,i,j,o,x,y)∧Wh a b o i j∧i+j+n≤a.size+b.size) (Q:=λc st'=>st'=st1∧((∃ m,c.1=some m∧Rs a b m)∨∃ i j o x y,c=(none,i,j,o,x,y)∧Wh a b o i j∧i+j+n≤a.size+b.size)) ?in1 ?inE ⟨rfl,_,_,_,_,_,rfl,w,hij⟩) ?mid)
  case inE =>
   rintro c st' ⟨rfl,z⟩;exact⟨rfl,.inr z⟩
  case in1 =>
   rintro t c st' _ _ ⟨rfl,i,j,o,x,y,rfl,w,hij⟩;obtain⟨wm,wi,wil,wj,wjl⟩:=w;dsimp only;refine wpS_bind (iU (by omega) (wpS_bind (iU (by omega) ?_)));obtain⟨ta,ea⟩:=EX ra (i:=i-1) (by omega);obtain⟨tb,eb⟩:=EX rb (i:=j-1) (by omega);rw[ea,eb];refine wpS_bind (Cd (by rw[gs.k];exact hk) ?_);by_cases d:kn (b[j-1]'(by omega))<kn (a[i-1]'(by omega))
   ·rw[decide_eq_true d]
    dsimp only;rw[if_pos rfl];refine wpS_bind (iU (by omega) ?_);have m2:=G4 wm ra rb wi (by omega) wjl λ_=>ajL d;by_cases f:i-1=0
    ·rw[if_pos (by simp[f])]
     exact wpS_pure ⟨rfl,.inl ⟨_,rfl,NT m2 ra rb (.inl f)⟩⟩
    ·rw[if_neg (by simp[f])]
     have w2:Wh a b (o.push (a[i-1]'(by omega))) (i-1) j:=⟨m2,by omega,by omega,wj,wjl⟩;split
     ·exact wpS_pure ⟨rfl,.inr ⟨_,_,_,_,_,rfl,w2,by omega⟩⟩
     ·exact wpS_pure ⟨rfl,_,_,_,_,_,rfl,w2,by omega⟩
   ·rw[decide_eq_false d]
    dsimp only;rw[if_neg (by decide)];refine wpS_bind (iU (by omega) ?_);have m2:=PM wm ra rb (by omega) wjl (by omega) λ_=>akK.mp d;by_cases f:j-1=1
    ·rw[if_pos (by simp[f])]
     exact wpS_pure ⟨rfl,.inl ⟨_,rfl,Rl m2 ra rb nb f h1⟩⟩
    ·rw[if_neg (by simp[f])]
     have w2:Wh a b (o.push (b[j-1]'(by omega))) i (j-1):=⟨m2,wi,wil,by omega,by omega⟩;split
     ·exact wpS_pure ⟨rfl,.inr ⟨_,_,_,_,_,rfl,w2,by omega⟩⟩
     ·exact wpS_pure ⟨rfl,_,_,_,_,_,rfl,w2,by omega⟩
  case mid =>
   rintro⟨r,i,j,o,x,y⟩ st' ⟨rfl,z⟩;rcases z with⟨m,em,rs⟩|⟨i,j,o,x,y,ec,w,hij⟩
   ·cases em
    dsimp only;exact wpS_pure ⟨gs,m,rfl,rs⟩
   ·cases ec
    dsimp only;refine wpS_bind (wpS_lift (wpAny_rule ⟨rfl,?_⟩));refine wpS_bind (wpS_mono (wpS_forRange (I:=λt c st2=>Gs st st2∧∃ i j o g x y,c=(none,i,j,o,g,x,y)∧Wh a b o i j∧i+j+(n+t)≤a.size+b.size) (Q:=λc st2=>Gs st st2∧((∃ m,c.1=some m∧Rs a b m)∨∃ i j o g x y,c=(none,i,j,o,g,x,y)∧Wh a b o i j∧i+j+(n+1)≤a.size+b.size)) ?th1 ?thE ⟨gs,_,_,_,_,_,_,rfl,w,by omega⟩) ?fin)
    case thE =>
     rintro c st2 ⟨gs2,i,j,o,g,x,y,rfl,w,hij⟩;exact⟨gs2,.inr ⟨_,_,_,_,_,_,rfl,w,by omega⟩⟩
    case fin =>
     rintro⟨r,i,j,o,g,x,y⟩ st2 ⟨gs2,z⟩;rcases z with⟨m,em,rs⟩|⟨i,j,o,g,x,y,ec,w,hij⟩
     ·cases em
      dsimp only;exact wpS_pure ⟨gs2,m,rfl,rs⟩
     ·cases ec
      dsimp only;rw[K1];exact wpS_bind (wpS_modify (wpS_pure ⟨gs2.trans ⟨rfl,rfl,rfl,rfl⟩,_,_,_,_,rfl,w,by omega⟩))
    case th1 =>
     rintro t c st2 _ _ ⟨gs2,i,j,o,g,x,y,rfl,w,hij⟩;obtain⟨wm,wi,wil,wj,wjl⟩:=w;have body:∀ g,wpS (model prog w_) A E s (do
       smg g
       let e ←elem' b (j-1)
       let z ←gal false e a 0 i (i-1)
       match z with
       | some r=>if i-r>0 then(if(r == 0)=true then pure (.done (some (doA a b (o++(a.extract r i).reverse) r j),r,j,o++(a.extract r i).reverse,g,i-r,y)) else jq1 a b j g (i-r) y (o++(a.extract r i).reverse) r) else jq1 a b j g (i-r) y o i
       | _=>pure (.done (some (doA a b o i j),i,j,o,g,x,y))) (P4 a b (n+t+1) st) st2:=by
      intro g;rw[K1];refine wpS_bind (wpS_modify ?_);obtain⟨st3,e3⟩:∃ st3,SortSt.mk' (kindOf st2) (arrOf st2) (pendingOf st2) g (failedOf st2)=st3:=⟨_,rfl⟩;rw[e3];have gs3:Gs st st3:=gs2.trans (by rw[←e3];exact⟨rfl,rfl,rfl,rfl⟩);have hk3:kindOf st3=oneType':=(by rw[gs3.k];exact hk);refine wpS_bind (iU (by omega) ?_);refine wpS_bind (MX hk3 ra (by omega) (by omega) (EX rb (by omega)) λr rn k2 k3=>?_);dsimp only;by_cases k0:i-r>0
      ·rw[if_pos k0]
       have m2:MH a.toList b.toList (o++(a.extract r i).reverse).toList.reverse r j:=by
        rw[PQ,xv];refine wm.ca ra.up rn λp hp y hy=>?_;obtain⟨q,q1,q2,rfl⟩:=KJ (by omega) hp;have z1:=GZ (k3 q q2 q1);have hl:j-1<b.toList.length:=(by simp;omega);have z2:=KI rb.up hl y (by rw[show j-1+1=j by omega];exact hy);have z3:kn (b.toList[j-1]'hl)=kn (b[j-1]'(by omega)):=(by simp);omega
       by_cases f1:r=0
       ·rw[if_pos (by simp[f1])]
        exact wpS_pure ⟨gs3,.inl ⟨_,rfl,NT m2 ra rb (.inl f1)⟩⟩
       ·rw[if_neg (by simp[f1])]
        exact PR hk3 ra rb (λ_=>h1) m2 (by omega) (by omega) wj wjl (K2 (k2 (r-1) (by omega) (by omega))) (by omega) gs3
      ·rw[if_neg k0]
       exact PR hk3 ra rb (λ_=>h1) wm wi wil wj wjl (K2 (k2 (i-1) (by omega) (by omega))) (by omega) gs3
     have conv:∀(r:ForInStep T7h) st3,P4 a b (n+t+1) st r st3→(match r with|.done c'=>Gs st st3∧((∃ m,c'.1=some m∧Rs a b m)∨∃ i j o g x y,c'=(none,i,j,o,g,x,y)∧Wh a b o i j∧i+j+(n+1)≤a.size+b.size)|.yield c'=>Gs st st3∧∃ i j o g x y,c'=(none,i,j,o,g,x,y)∧Wh a b o i j∧i+j+(n+(t+1))≤a.size+b.size):=by
      rintro r st3 ⟨g3,z⟩;cases r with
      | done c'=>exact⟨g3,z.imp id λ⟨i,j,o,g,x,y,e,w,l⟩=>⟨i,j,o,g,x,y,e,w,by omega⟩⟩
      | yield c'=>obtain⟨i,j,o,g,x,y,e,w,l⟩:=z;exact⟨g3,i,j,o,g,x,y,e,w,by omega⟩
     by_cases gg:g>1
     ·refine wpS_mono (Q:=P4 a b (n+t+1) st) ?_ λr st3 hz=>by(have zz:=conv r st3 hz;cases r<;>exact zz)
      have z:=body (g-1);show wpS (model prog w_) A E s (if g>1 then _ else _) _ _;rw[if_pos gg];exact z
     ·refine wpS_mono (Q:=P4 a b (n+t+1) st) ?_ λr st3 hz=>by(have zz:=conv r st3 hz;cases r<;>exact zz)
      have z:=body g;show wpS (model prog w_) A E s (if g>1 then _ else _) _ _;rw[if_neg gg];exact z
end
noncomputable def putAll(xs:Array Keyed)(d:Nat)(l:List Keyed)(k:Nat):Array Keyed:=(l.zipIdx k).foldl (λc q=>c.setIfInBounds (d+q.2) q.1) xs
theorem WN(i:Nat):mergeAt' i=(do
 let s ←get
 let (some (d,n,pw),some (e,m,_)):=((pendingOf s)[i]?,(pendingOf s)[i+1]?)|unsupported "internal:list.sort.pending"
 set (setPending s (((pendingOf s).setIfInBounds i (d,n+m,pw)).eraseIdxIfInBounds (i+1)))
 let some k ←gal false (←elem' (arrOf s) e) (arrOf s) d n 0|return false
 let (d,n):=(d+k,n-k)
 if n == 0 then return true
 let some m ←gal true (←elem' (arrOf s) (d+n-1)) (arrOf s) e m (m-1)|return false
 if m == 0 then return true
 let x:=(arrOf s).extract d e
 let y:=(arrOf s).extract e (e+m)
 let z ←if n≤m then mlo x y else mhi x y
 modify λs=>setArr s (putAll (arrOf s) d z.toList 0)
 return (failedOf (←get)).isNone):=rfl
theorem MY:∀(l z p t:List Keyed) (d k:Nat) (xs:Array Keyed),xs.toList=p++z++t→z.length=l.length→p.length=d+k→(putAll xs d l k).toList=p++l++t
 | [],z,p,t,d,k,xs,h,hz,hp=>by
  cases z with
  | nil=>exact h
  | cons=>cases hz
 | x::l,[],p,t,d,k,xs,h,hz,hp=>by cases hz
 | x::l,y::z,p,t,d,k,xs,h,hz,hp=>by
  show(putAll (xs.setIfInBounds (d+k) x) d l (k+1)).toList=_;rw[MY l z (p++[x]) t d (k+1) _ ?_ (by simpa using hz) (by rw[aiR,hp];rfl)]
  ·simp
  ·rw[akz,h,←hp]
   simp
noncomputable abbrev sg(xs:Array Keyed)(lo hi:Nat):List Keyed:=(xs.toList.take hi).drop lo
theorem U1{xs:Array Keyed}{i:Nat}(h:i<xs.size):K xs i=kn xs[i]:=K_eq h
theorem uB{xs:Array Keyed}{lo hi:Nat}{p:Keyed}(hh:hi≤xs.size)(h:p∈sg xs lo hi):∃ q,lo≤q∧q<hi∧kn p=K xs q:=by
 obtain⟨q,q1,q2,rfl⟩:=KJ hh h;exact⟨q,q1,q2,(U1 (by omega)).symm⟩
theorem TL{xs:Array Keyed}{lo hi:Nat}(hh:hi≤xs.size)(r:nL xs lo hi):Up (sg xs lo hi):=by
 refine ajV.mpr λi j hi' hj' ij=>?_;have hl:(sg xs lo hi).length=hi-lo:=by rw[ajr,aiV,aiX];omega
 have e:∀(k:Nat) (h:k<(sg xs lo hi).length),kn (sg xs lo hi)[k]=K xs (lo+k):=λk h=>by
  rw[U1 (by omega)];simp
 rw[e i hi',e j hj'];exact r _ _ (by omega) (by omega) (by omega)
theorem U2{xs:Array Keyed}{lo hi:Nat}(hh:hi≤xs.size)(u:Up (sg xs lo hi)):nL xs lo hi:=λi j z0 z1 z2=>by
 rcases ajB i j with c|c
 ·have hl:(sg xs lo hi).length=hi-lo:=by rw[ajr,aiV,aiX];omega
  have e:∀(k:Nat) (h:k<(sg xs lo hi).length),kn (sg xs lo hi)[k]=K xs (lo+k):=λk h=>by
   rw[U1 (by omega)];simp
  have:=ajV.mp u (i-lo) (j-lo) (by omega) (by omega) (by omega)
  rw[e,e,show lo+(i-lo)=i by omega,show lo+(j-lo)=j by omega]at this;exact this
 ·have:i=j:=by omega
  rw[this];exact ajj _
section
variable{prog:Program}{w:World}{A:Around}{E:Value→Shared→Prop}{s:Shared}{a₀:Array Keyed}{st:SortSt}
theorem U3{st1:SortSt}{Q:PUnit→SortSt→Prop}(h:Q ⟨⟩ st1):wpS (model prog w) A E s (set st1:StateT SortSt Sem PUnit) Q st:=wpS_modify (f:=λ_=>st1) h
theorem back{xs:Array Keyed}{z:List Keyed}{d e f n m:Nat}(h1:d≤e)(h2:e≤f)(h3:f≤xs.size)(pz:z.Perm (sg xs d e++sg xs e f)):(putAll xs d z 0).toList=xs.toList.take d++z++xs.toList.drop f:=by
 have l1:(sg xs d e).length=e-d:=by rw[ajr,aiV,aiX];omega
 have l2:(sg xs e f).length=f-e:=by rw[ajr,aiV,aiX];omega
 refine MY z (sg xs d e++sg xs e f) _ _ d 0 xs ?_ (by rw[pz.length_eq]) (by rw[aiV,aiX];omega);have e1:xs.toList.take e=xs.toList.take d++sg xs d e:=mM h1;have e2:xs.toList.take f=xs.toList.take e++sg xs e f:=mM h2;rw[←ajd,←e1,←e2,ajc]
theorem VQ{xs:Array Keyed}{lo hi:Nat}(hh:hi≤xs.size)(ik:IntKeys xs)(r:nL xs lo hi):Rn1 (xs.extract lo hi):=by
 refine⟨λp hp=>?_,?_⟩
 ·rw[xv]at hp
  exact ik p (ajX (ajY hp))
 ·rw[xv]
  exact TL hh r
theorem U4{i d n m pw pw2:Nat}{Q:Bool→SortSt→Prop}(ik:IntKeys a₀)(B:SB a₀ st)(p1:(pendingOf st)[i]?=some (d,n,pw))(p2:(pendingOf st)[i+1]?=some (d+n,m,pw2))(hn:0<n)(hm:0<m)(sz:d+n+m≤a₀.size)(r1:nL (arrOf st) d (d+n))(r2:nL (arrOf st) (d+n) (d+n+m))
  (q:∀ st',SB a₀ st'→pendingOf st'=((pendingOf st).setIfInBounds i (d,n+m,pw)).eraseIdxIfInBounds (i+1)→Oth (arrOf st) (arrOf st') d (d+n+m)→nL (arrOf st') d (d+n+m)→Q true st'):wpS (model prog w) A E s (mergeAt' i) Q st:=by
 rw[WN];refine wpS_bind (wpS_get ?_);rw[p1,p2];dsimp only;refine wpS_bind (U3 ?_);obtain⟨st1,e1⟩:∃ st1,setPending st (((pendingOf st).setIfInBounds i (d,n+m,pw)).eraseIdxIfInBounds (i+1))=st1:=⟨_,rfl⟩;rw[e1];have a1:arrOf st1=arrOf st:=by rw[←e1]
 have b1:SB a₀ st1:=by rw[←e1];exact⟨B.perm,B.kind,B.ok⟩
 have pe1:pendingOf st1=((pendingOf st).setIfInBounds i (d,n+m,pw)).eraseIdxIfInBounds (i+1):=by rw[←e1]
 obtain⟨xs,ex⟩:∃ xs,arrOf st=xs:=⟨_,rfl⟩;have key:∀ i,i<a₀.size→∃ t p,xs[i]?=some (.int (K xs i) t,p):=λi hi=>by rw[←ex];exact B.key ik hi
 have xz:xs.size=a₀.size:=by rw[←ex];exact B.size
 rw[ex]at r1 r2 q a1 ⊢;have fin:nL xs d (d+n+m)→Q true st1:=λr=>q st1 b1 pe1 (by rw[a1];exact .refl) (by rw[a1];exact r);refine wpS_bind (iU (by omega) ?_);obtain⟨t,p,ek⟩:=key (d+n) (by omega);rw[ajq (by omega)]at ek;rw[aja ek];refine wpS_bind (GX b1.kind (λi=>K xs (d+i)) (λi hi=>key (d+i) (by omega)) (λi j ij jn=>r1 _ _ (by omega) (by omega) (by omega)) hn λk kn1 k2 k3=>?_);dsimp only;have lo1:∀ i,i<k→K xs (d+i)≤K xs (d+n):=λi hi=>K2 (k2 i hi);have hi1:∀ i,k≤i→i<n→K xs (d+n)<K xs (d+i):=λi z1 z2=>GZ (k3 i z1 z2);by_cases f1:n-k=0
 ·rw[if_pos (by simp[f1])]
  refine wpS_pure (fin λi j z0 z1 z2=>?_);rcases ajB j (d+n) with c|c
  ·exact r1 i j z0 z1 c
  ·rcases ajB i (d+n) with c2|c2
   ·have:=lo1 (i-d) (by omega)
    rw[show d+(i-d)=i by omega]at this;exact akp this (r2 _ _ (aiN _) c (by omega))
   ·exact r2 i j c2 z1 (by omega)
 rw[if_neg (by simp[f1])];refine wpS_bind (iU (by omega) ?_);obtain⟨t',p',ek'⟩:=key (d+k+(n-k)-1) (by omega);rw[ajq (by omega)]at ek';rw[aja ek'];refine wpS_bind (GX b1.kind (λi=>K xs (d+n+i)) (λi hi=>key (d+n+i) (by omega)) (λi j ij jn=>r2 _ _ (by omega) (by omega) (by omega)) (by omega) λm' mn1 m2 m3=>?_);dsimp only;rw[show d+k+(n-k)-1=d+n-1 by omega]at m2 m3;have lo2:∀ i,i<m'→K xs (d+n+i)<K xs (d+n-1):=λi hi=>K3 (m2 i hi);have hi2:∀ i,m'≤i→i<m→K xs (d+n-1)≤K xs (d+n+i):=λi z1 z2=>G0 (m3 i z1 z2);by_cases f2:m'=0
 ·rw[if_pos (by simp[f2])]
  refine wpS_pure (fin λi j z0 z1 z2=>?_);rcases ajB j (d+n) with c|c
  ·exact r1 i j z0 z1 c
  ·rcases ajB i (d+n) with c2|c2
   ·have:=hi2 (j-(d+n)) (by omega) (by omega)
    rw[show d+n+(j-(d+n))=j by omega]at this;exact akp (r1 _ _ z0 (by omega) (by omega)) this
   ·exact r2 i j c2 z1 (by omega)
 rw[if_neg (by simp[f2])];have kx:IntKeys xs:=λp hp=>ik p ((aka.mp (by rw[←ex];exact B.perm:xs.Perm a₀)).mem_iff.mp hp);have rX:nL xs (d+k) (d+n):=λi j z0 z1 z2=>r1 i j (by omega) z1 z2;have rY:nL xs (d+n) (d+n+m'):=λi j z0 z1 z2=>r2 i j z0 z1 (by omega);have RX:=VQ (by omega) kx rX;have RY:=VQ (by omega) kx rY;have sX:(xs.extract (d+k) (d+n)).size=n-k:=by rw[Array.size_extract];omega
 have sY:(xs.extract (d+n) (d+n+m')).size=m':=by rw[Array.size_extract];omega
 have gX:∀(q:Nat) (h:q<(xs.extract (d+k) (d+n)).size),kn (xs.extract (d+k) (d+n))[q]=K xs (d+k+q):=λq h=>by rw[U1 (by omega),Array.getElem_extract]
 have gY:∀(q:Nat) (h:q<(xs.extract (d+n) (d+n+m')).size),kn (xs.extract (d+n) (d+n+m'))[q]=K xs (d+n+q):=λq h=>by rw[U1 (by omega),Array.getElem_extract]
 have vX:∀ p∈(xs.extract (d+k) (d+n)).toList,∃ q,d+k≤q∧q<d+n∧kn p=K xs q:=λp hp=>by rw[xv]at hp;exact uB (by omega) hp
 have vY:∀ p∈(xs.extract (d+n) (d+n+m')).toList,∃ q,d+n≤q∧q<d+n+m'∧kn p=K xs q:=λp hp=>by rw[xv]at hp;exact uB (by omega) hp
 have c1:∀ q,d+k≤q→q<d+n→K xs (d+n)<K xs q:=λq z1 z2=>by
  have:=hi1 (q-d) (by omega) (by omega)
  rwa[show d+(q-d)=q by omega]at this
 have c2:∀ q,d+n≤q→q<d+n+m'→K xs q<K xs (d+n-1):=λq z1 z2=>by
  have:=lo2 (q-(d+n)) (by omega)
  rwa[show d+n+(q-(d+n))=q by omega]at this
 have merged:∀ z st2,Gs st1 st2→Rs (xs.extract (d+k) (d+n)) (xs.extract (d+n) (d+n+m')) z→wpS (model prog w) A E s (do modify λs=>setArr s (putAll (arrOf s) (d+k) z.toList 0);return (failedOf (←get)).isNone) Q st2:=by
  rintro z st2 gs ⟨pz,uz⟩;rw[xv,xv]at pz;refine wpS_bind (wpS_modify (wpS_bind (wpS_get (wpS_pure ?_))));have a2:arrOf st2=xs:=by rw[gs.a,a1]
  obtain⟨st3,e3⟩:∃ st3,setArr st2 (putAll (arrOf st2) (d+k) z.toList 0)=st3:=⟨_,rfl⟩;rw[e3];have a3:arrOf st3=putAll xs (d+k) z.toList 0:=by rw[←e3,←a2]
  have f3:failedOf st3=none:=by rw[←e3];exact gs.f.trans b1.ok
  have k3':kindOf st3=oneType':=by rw[←e3];exact gs.k.trans b1.kind
  have p3:pendingOf st3=pendingOf st1:=by rw[←e3];exact gs.p
  have bk:=back (n:=n) (m:=m) (d:=d+k) (e:=d+n) (f:=d+n+m') (by omega) (by omega) (by omega) pz;rw[←a3]at bk;have e1':xs.toList.take (d+n)=xs.toList.take (d+k)++sg xs (d+k) (d+n):=mM (by omega);have e2':xs.toList.take (d+n+m')=xs.toList.take (d+n)++sg xs (d+n) (d+n+m'):=mM (by omega);have zl:z.toList.length=n-k+m':=by
   rw[pz.length_eq,aiR,ajr,aiV,ajr,aiV,aiX];omega
  have pm:(arrOf st3).Perm xs:=by
   refine aka.mpr ?_;rw[bk];refine((List.Perm.append_left _ pz).append_right _).trans ?_;rw[←ajd,←e1',←e2',ajc]
  have sz3:(arrOf st3).size=xs.size:=pm.size_eq;rw[f3];refine q st3 ⟨pm.trans (by rw[←ex];exact B.perm),k3',f3⟩ (p3.trans pe1) (λx hx=>?_) ?_
  ·rw[←ajz,←ajz,bk]
   rcases hx with hx|hx
   ·rw[ajd,ajU (by rw[aiV,aiX];omega),aki (by omega)]
   ·rw[ajx (by rw[aiR,aiV,aiX,zl];omega),List.getElem?_drop,aiR,aiV,aiX,zl]
    congr 1
    omega
  ·refine U2 (by omega) ?_
   have es:sg (arrOf st3) d (d+n+m)=sg xs d (d+k)++z.toList++sg xs (d+n+m') (d+n+m):=by
    have lp:(xs.toList.take (d+k)).length=d+k:=(by rw[aiV,aiX];omega);have lpz:(xs.toList.take (d+k)++z.toList).length=d+n+m':=(by rw[aiR,lp,zl];omega);show((arrOf st3).toList.take (d+n+m)).drop d=_;rw[bk,List.take_append,ai2 (by omega),lpz,ajd,List.drop_append,lp,show d-(d+k)=0 by omega,List.drop_zero];show _=(xs.toList.take (d+k)).drop d++z.toList++(xs.toList.take (d+n+m)).drop (d+n+m');rw[show((xs.toList.take (d+n+m)).drop (d+n+m'))=(xs.toList.drop (d+n+m')).take (d+n+m-(d+n+m')) from List.drop_take,ajd]
   rw[es];refine ajg.mpr ⟨ajg.mpr ⟨TL (by omega) (λi j z0 z1 z2=>r1 i j z0 z1 (by omega)),uz,λx hx y hy=>?_⟩,TL (by omega) (λi j z0 z1 z2=>r2 i j (by omega) z1 z2),λx hx y hy=>?_⟩
   ·obtain⟨q1,y1,y2,y3⟩:=uB (by omega) hx
    have hy':=pz.mem_iff.mp hy;have t1:=lo1 (q1-d) (by omega);rw[show d+(q1-d)=q1 by omega]at t1;rcases aiS.mp hy' with hy'|hy'
    ·obtain⟨q2,w1,w2,w3⟩:=uB (by omega) hy'
     have:=c1 q2 w1 w2
     omega
    ·obtain⟨q2,w1,w2,w3⟩:=uB (by omega) hy'
     have:=r2 (d+n) q2 (aiN _) w1 (by omega)
     omega
   ·obtain⟨q2,w1,w2,w3⟩:=uB (by omega) hy
    have t2:=hi2 (q2-(d+n)) (by omega) (by omega);rw[show d+n+(q2-(d+n))=q2 by omega]at t2;have t3:∀ q1,d≤q1→q1<d+n→K xs q1≤K xs (d+n-1):=λq1 y1 y2=>r1 _ _ y1 (by omega) (by omega);rcases aiS.mp hx with hx|hx
    ·obtain⟨q1,y1,y2,y3⟩:=uB (by omega) hx
     have:=t3 q1 y1 (by omega)
     omega
    ·rcases aiS.mp (pz.mem_iff.mp hx) with hx|hx
     ·obtain⟨q1,y1,y2,y3⟩:=uB (by omega) hx
      have:=t3 q1 (by omega) y2
      omega
     ·obtain⟨q1,y1,y2,y3⟩:=uB (by omega) hx
      have:=r2 q1 q2 y1 (by omega) (by omega)
      omega
 by_cases f3:n-k≤m'
 ·rw[if_pos f3]
  refine wpS_bind (UY b1.kind RX RY (by omega) (by omega) ?_ (λp hp=>?_) λz st2 gs rs=>merged z st2 gs rs)
  ·rw[gX,gY]
   have:=c1 (d+k) (by omega) (by omega)
   simp only[Nat.add_zero];omega
  ·obtain⟨q2,w1,w2,w3⟩:=vY p hp
   have:=c2 q2 w1 w2
   rw[gX,w3,show d+k+((xs.extract (d+k) (d+n)).size-1)=d+n-1 by omega];omega
 ·rw[if_neg f3]
  refine wpS_bind (U0 b1.kind RX RY (by omega) (by omega) (λp hp=>?_) ?_ λz st2 gs rs=>merged z st2 gs rs)
  ·obtain⟨q2,w1,w2,w3⟩:=vX p hp
   have:=c1 q2 w1 w2
   rw[gY,w3];simp only[Nat.add_zero];omega
  ·rw[gX,gY,show d+k+((xs.extract (d+k) (d+n)).size-1)=d+n-1 by omega,show d+n+((xs.extract (d+n) (d+n+m')).size-1)=d+n+m' - 1 by omega]
   have:=c2 (d+n+m' - 1) (by omega) (by omega)
   omega
end
noncomputable abbrev Ru3:=Nat×Nat×Nat
noncomputable def Cov:List Ru3→Nat→Nat→Prop
 | [],a,b=>a=b
 | r::l,a,b=>r.1=a∧0<r.2.1∧Cov l (a+r.2.1) b
theorem Cov.le:∀ {l:List Ru3} {a b:Nat},Cov l a b→a+l.length≤b
 | [],a,b,h=>by rw[show a=b from h];exact aiN _
 | r::l,a,b,⟨h1,h2,h3⟩=>by have:=h3.le;rw[ajt];omega
theorem Cov.mem:∀ {l:List Ru3} {a b:Nat},Cov l a b→∀ r∈l,a≤r.1∧r.1+r.2.1≤b
 | [],a,b,h,r,m=>nomatch m
 | q::l,a,b,⟨h1,h2,h3⟩,r,m=>by
  have:=h3.le
  rcases aiY.mp m with e|m
  ·rw[e];omega
  ·have:=h3.mem r m;omega
theorem Cov.snoc:∀ {l:List Ru3} {a b n p:Nat},Cov l a b→0<n→Cov (l++[(b,n,p)]) a (b+n)
 | [],a,b,n,p,h,hn=>⟨(show a=b from h).symm,hn,by show a+n=b+n;rw[show a=b from h]⟩
 | r::l,a,b,n,p,⟨h1,h2,h3⟩,hn=>⟨h1,h2,h3.snoc hn⟩
theorem Cov.merge:∀ {l:List Ru3} {a b i s n p s' n' p':Nat},Cov l a b→l[i]?=some (s,n,p)→l[i+1]?=some (s',n',p')→s'=s+n∧0<n∧0<n'∧s+n+n'≤b∧Cov ((l.set i (s,n+n',p)).eraseIdx (i+1)) a b∧∀ r∈(l.set i (s,n+n',p)).eraseIdx (i+1),r=(s,n+n',p)∨(r∈l∧(r.1+r.2.1≤s∨s+n+n'≤r.1))
 | [],a,b,i,s,n,p,s',n',p',h,e,_=>by cases e
 | [q],a,b,i,s,n,p,s',n',p',h,e,e'=>by cases i<;>cases e'
 | q::q'::l,a,b,0,s,n,p,s',n',p',⟨h1,h2,h3,h4,h5⟩,e,e'=>by
  cases e;cases e';replace h1:s=a:=h1;replace h3:s'=a+n:=h3;replace h2:0<n:=h2;replace h4:0<n':=h4;replace h5:Cov l (a+n+n') b:=h5
  have:=h5.le
  refine⟨by omega,h2,h4,by show s+n+n'≤b;omega,⟨h1,by show 0<n+n';omega,by show Cov l (a+(n+n')) b;rw[←Nat.add_assoc];exact h5⟩,λr m=>?_⟩;rcases aiY.mp (show r∈(s,n+n',p)::l from m) with z|z
  ·exact .inl z
  ·exact .inr ⟨ai4 _ (ai4 _ z),.inr (by have:=(h5.mem r z).1;omega)⟩
 | q::q'::l,a,b,i+1,s,n,p,s',n',p',⟨h1,h2,h3⟩,e,e'=>by
  obtain⟨c1,c2,c3,c4,c5,c6⟩:=Cov.merge (i:=i) h3 e e';have sm:=h3.mem (s,n,p) (aiU e);refine⟨c1,c2,c3,c4,⟨h1,h2,c5⟩,λr m=>?_⟩;rcases aiY.mp (show r∈q::(((q'::l).set i (s,n+n',p)).eraseIdx (i+1)) from m) with z|z
  ·exact .inr ⟨by rw[z];exact ai1,.inl (by rw[z];have:=sm.1;show q.1+q.2.1≤s;replace h1:q.1=a:=h1;omega)⟩
  ·exact(c6 r z).imp id λ⟨y1,y2⟩=>⟨ai4 _ y1,y2⟩
noncomputable def aiC(xs:Array Keyed)(l:List Ru3):Prop:=∀ r∈l,nL xs r.1 (r.1+r.2.1)
theorem nL.oth{xs ys:Array Keyed}{lo hi d e:Nat}(r:nL xs lo hi)(o:Oth xs ys d e)(h:hi≤d∨e≤lo):nL ys lo hi:=λi j z0 z1 z2=>by
 rw[K_congr (o i (by omega)),K_congr (o j (by omega))];exact r i j z0 z1 z2
section
variable{prog:Program}{w:World}{A:Around}{E:Value→Shared→Prop}{s:Shared}{a₀:Array Keyed}{st:SortSt}
structure Pn(a₀:Array Keyed)(st:SortSt)(b:Nat):Prop where
 sb:SB a₀ st
 c:Cov (pendingOf st).toList 0 b
 r:aiC (arrOf st) (pendingOf st).toList
theorem PU{i b:Nat}{Q:Bool→SortSt→Prop}(ik:IntKeys a₀)(P:Pn a₀ st b)(hb:b≤a₀.size)(hi:i+1<(pendingOf st).size)
  (q:∀ st',Pn a₀ st' b→(pendingOf st').size+1=(pendingOf st).size→Oth (arrOf st) (arrOf st') 0 b→Q true st'):wpS (model prog w) A E s (mergeAt' i) Q st:=by
 obtain⟨⟨d,n,p⟩,e⟩:∃ r,(pendingOf st)[i]?=some r:=⟨_,ajq (by omega)⟩;obtain⟨⟨d',n',p'⟩,e'⟩:∃ r,(pendingOf st)[i+1]?=some r:=⟨_,ajq hi⟩;have l1:(pendingOf st).toList[i]?=some (d,n,p):=by rw[ajz];exact e
 have l2:(pendingOf st).toList[i+1]?=some (d',n',p'):=by rw[ajz];exact e'
 obtain⟨rfl,c2,c3,c4,c5,c6⟩:=P.c.merge l1 l2;refine U4 ik P.sb e e' c2 c3 (by omega) (P.r _ (aiU l1)) (P.r _ (aiU l2)) λst' B' pe o rs=>?_;have pl:(pendingOf st').toList=((pendingOf st).toList.set i (d,n+n',p)).eraseIdx (i+1):=by
  rw[pe,Array.toList_eraseIdxIfInBounds,akz]
 refine q st' ⟨B',by rw[pl];exact c5,λr m=>?_⟩ ?_ λk hk=>o k (by omega)
 ·rw[pl]at m
  rcases c6 r m with z|⟨z1,z2⟩
  ·rw[z];show nL _ d (d+(n+n'));rw[←Nat.add_assoc];exact rs
  ·exact(P.r r z1).oth o (by omega)
 ·rw[←aiX,pl,List.length_eraseIdx,if_pos (by rw[ajK,aiX];exact hi),ajK,aiX]
  omega
end
theorem Cov.pw:∀ {l:List Ru3} {a b i:Nat} {f:Ru3→Ru3},(∀ r,(f r).1=r.1∧(f r).2.1=r.2.1)→Cov l a b→Cov (l.modify i f) a b
 | [],a,b,i,f,hf,h=>by cases i<;>exact h
 | r::l,a,b,0,f,hf,⟨h1,h2,h3⟩=>⟨(hf r).1.trans h1,by rw[(hf r).2];exact h2,by rw[(hf r).2];exact h3⟩
 | r::l,a,b,i+1,f,hf,⟨h1,h2,h3⟩=>⟨h1,h2,h3.pw hf⟩
theorem Tc:∀ {l:List Ru3} {i:Nat} {f:Ru3→Ru3},(∀ r,(f r).1=r.1∧(f r).2.1=r.2.1)→∀ r∈l.modify i f,∃ r'∈l,r.1=r'.1∧r.2.1=r'.2.1
 | [],i,f,hf,r,m=>by cases i<;>cases m
 | q::l,0,f,hf,r,m=>by
  rcases aiY.mp (show r∈f q::l from m) with z|z
  ·exact⟨q,ai1,by rw[z];exact(hf q).1,by rw[z];exact(hf q).2⟩
  ·exact⟨r,ai4 _ z,rfl,rfl⟩
 | q::l,i+1,f,hf,r,m=>by
  rcases aiY.mp (show r∈q::l.modify i f from m) with z|z
  ·exact⟨q,ai1,by rw[z],by rw[z]⟩
  ·obtain⟨r',m',e⟩:=Tc hf r z
   exact⟨r',ai4 _ m',e⟩
section
variable{prog:Program}{w:World}{A:Around}{E:Value→Shared→Prop}{s:Shared}{a₀:Array Keyed}{st:SortSt}
theorem Pn.pw{b i:Nat}{f:Ru3→Ru3}(P:Pn a₀ st b)(hf:∀ r,(f r).1=r.1∧(f r).2.1=r.2.1):Pn a₀ (setPending st ((pendingOf st).modify i f)) b:=by
 have e:((pendingOf st).modify i f).toList=(pendingOf st).toList.modify i f:=Array.toList_modify;refine⟨⟨P.sb.perm,P.sb.kind,P.sb.ok⟩,?_,λr m=>?_⟩
 ·show Cov ((pendingOf st).modify i f).toList 0 b
  rw[e];exact P.c.pw hf
 ·obtain⟨r',m',e1,e2⟩:=Tc hf r (by rw[←e];exact m)
  rw[e1,e2];exact P.r r' m'
theorem Pn.push{b n:Nat}(P:Pn a₀ st b)(hn:0<n)(rs:nL (arrOf st) b (b+n)):Pn a₀ (setPending st ((pendingOf st).push (b,n,0))) (b+n):=by
 have e:((pendingOf st).push (b,n,0)).toList=(pendingOf st).toList++[(b,n,0)]:=akE;refine⟨⟨P.sb.perm,P.sb.kind,P.sb.ok⟩,?_,λr m=>?_⟩
 ·show Cov ((pendingOf st).push (b,n,0)).toList 0 (b+n)
  rw[e];exact P.c.snoc hn
 ·have m:r∈(pendingOf st).toList++[(b,n,0)]:=by rw[←e];exact m
  rcases aiS.mp m with z|z
  ·exact P.r r z
  ·rw[aiJ.mp z];exact rs
theorem U5{Q:Unit→SortSt→Prop}(ik:IntKeys a₀)(u:Unl a₀)(B:SBase a₀ st)(n2:2≤a₀.size)
  (q:∀ st',(arrOf st').Perm a₀→failedOf st'=none→SortedTo (arrOf st') a₀.size→Q () st'):wpS (model prog w) A E s sortRuns' Q st:=by
 rw[sortRuns'_eq];refine wpS_bind (wpS_get ?_);dsimp only;simp only[B.size];generalize minRun' a₀.size a₀.size 0=mr;have P0:Pn a₀ st 0:=⟨⟨B.perm,B.kind,B.failed⟩,by rw[B.pend];rfl,by rw[B.pend];exact λr m=>nomatch m⟩;refine wpS_bind (wpS_mono (wpS_forRange (I:=λx c st'=>∃ lo,c=(none,lo)∧Pn a₀ st' lo∧lo≤a₀.size∧(x≤lo∨lo=a₀.size)) (Q:=λc st'=>c=(none,a₀.size)∧Pn a₀ st' a₀.size) ?one ?all ⟨0,rfl,P0,by omega,.inl (aiN _)⟩) ?rest)
 case all =>
  rintro c st' ⟨lo,rfl,P,l1,l2⟩
  have:lo=a₀.size:=by omega
  subst this;exact⟨rfl,P⟩
 case rest =>
  rintro c st' ⟨rfl,P⟩;dsimp only;refine wpS_bind (wpS_mono (wpS_forRange (I:=λx c st2=>c=(none,())∧Pn a₀ st2 a₀.size∧(pendingOf st2).size≤max 1 (a₀.size-x)) (Q:=λc st2=>c=(none,())∧Pn a₀ st2 a₀.size∧(pendingOf st2).size≤1) ?m1 ?mE ⟨rfl,P,?m0⟩) ?mR)
  case m0=>have:=P.c.le;rw[aiX]at this;omega
  case mE =>
   rintro c st2 ⟨hc,P2,z⟩;exact⟨hc,P2,by omega⟩
  case mR =>
   rintro c st2 ⟨rfl,P2,z⟩;refine wpS_pure (q st2 P2.sb.perm P2.sb.ok λi j ij hj=>?_);have hc:=P2.c;have hr:=P2.r;have hl:(pendingOf st2).toList.length≤1:=by rw[aiX];exact z
   match (pendingOf st2).toList,hl,hc,hr with
   | [],_,hc,_=>have:0=a₀.size:=hc;omega
   | [r],_,⟨c1,c2,c3⟩,hr =>
    have c3:0+r.2.1=a₀.size:=c3
    have:=hr r (aiJ.mpr rfl)
    rw[c1]at this;exact this i j (by omega) ij (by omega)
   | _::_::_,h,_,_=>simp at h
  case m1 =>
   rintro x c st2 _ hx ⟨rfl,P2,z⟩;refine wpS_bind (wpS_get ?_);by_cases g:(pendingOf st2).size≤1
   ·rw[if_pos g]
    exact wpS_pure ⟨rfl,P2,g⟩
   ·rw[if_neg g]
    have fin:∀ k,k+1<(pendingOf st2).size→wpS (model prog w) A E s (mergeAt' k) (λb st3=>b=true∧Pn a₀ st3 a₀.size∧(pendingOf st3).size≤max 1 (a₀.size-(x+1))) st2:=λk hk=>PU ik P2 (aiN _) hk λst3 P3 e _=>⟨rfl,P3,by omega⟩;refine wpS_bind (wpS_mono (fin _ ?_) λb st3 hb=>?_)
    ·repeat' split
     all_goals omega
    ·obtain⟨rfl,P3,z3⟩:=hb
     simp only[Bool.not_true,ai9,if_false];exact wpS_pure ⟨rfl,P3,z3⟩
 case one =>
  rintro x c st' _ hx ⟨lo,rfl,P,l1,l2⟩;dsimp only;by_cases g:lo≥a₀.size
  ·rw[if_pos g]
   have:lo=a₀.size:=by omega
   subst this;exact wpS_pure ⟨rfl,P⟩
  ·rw[if_neg g]
   refine wpS_bind (UT ik u (by omega) (by omega) P.sb λn st1 n1 n2' af rs=>?_);dsimp only;have hle:lo+n≤a₀.size:=(by omega);have P1:Pn a₀ st1 lo:=⟨af.b,by rw[af.p];exact P.c,λr m=>by rw[af.p]at m;exact(P.r r m).oth af.o (.inl (P.c.mem r m).2)⟩;by_cases lt:n<mr
   case' pos =>
    rw[if_pos lt];refine wpS_bind (wpS_lift (wpAny_rule ⟨rfl,?_⟩));refine wpS_bind (US ik (by omega) n1 (by omega) af.b rs λst2 af2 rs2=>?_);simp only[Bool.not_true,ai9,if_false];have P2:Pn a₀ st2 lo:=⟨af2.b,by rw[af2.p];exact P1.c,λr m=>by rw[af2.p]at m;exact(P1.r r m).oth af2.o (.inl (P1.c.mem r m).2)⟩;generalize hm:min (a₀.size-lo) mr=m at *;have m1:0<m:=(by omega);have m2:lo+m≤a₀.size:=(by omega);clear hm af2 P1 hle rs af;clear st1;clear lt n2' n1;clear n;revert m2;revert m1;revert rs2;revert P2;revert st2;revert m
   case' neg =>
    rw[if_neg lt];clear lt af n2';revert hle;revert n1;revert rs;revert P1;revert st1;revert n
   all_goals
    intro n st1 P1 rs n1 hle;refine wpS_bind (wpS_get ?_);have done:∀ st2,Pn a₀ st2 lo→nL (arrOf st2) lo (lo+n)→∃ lo',((none:Option Unit),lo+n)=(none,lo')∧Pn a₀ (setPending st2 ((pendingOf st2).push (lo,n,0))) lo'∧lo'≤a₀.size∧(x+1≤lo'∨lo'=a₀.size):=λst2 P2 rs2=>⟨lo+n,rfl,P2.push n1 rs2,hle,by omega⟩;cases hb:(pendingOf st1).back? with
    | none=>exact wpS_bind (wpS_modify (wpS_pure (done st1 P1 rs)))
    | some r =>
     obtain⟨s1,n',q'⟩:=r;dsimp only;refine wpS_bind (wpS_mono (wpS_forRange (I:=λ_ c st2=>c=(none,())∧Pn a₀ st2 lo∧nL (arrOf st2) lo (lo+n)) (Q:=λc st2=>c=(none,())∧Pn a₀ st2 lo∧nL (arrOf st2) lo (lo+n)) ?k1 (λc st2 h=>h) ⟨rfl,P1,rs⟩) ?k2)
     case k2 =>
      rintro c st2 ⟨rfl,P2,rs2⟩;refine wpS_bind (wpS_modify ?_);exact wpS_bind (wpS_modify (wpS_pure (done _ (P2.pw (λr=>⟨rfl,rfl⟩)) rs2)))
     case k1 =>
      rintro y c st2 _ _ ⟨rfl,P2,rs2⟩;refine wpS_bind (wpS_get ?_);by_cases g2:(pendingOf st2).size>1
      ·rw[if_pos g2,ajq (by omega)]
       dsimp only;split
       ·exact wpS_pure ⟨rfl,P2,rs2⟩
       ·refine wpS_bind (PU ik P2 l1 (by omega) λst3 P3 _ o=>?_)
        simp only[Bool.not_true,ai9,if_false];exact wpS_pure ⟨rfl,P3,rs2.oth o (.inr (aiN _))⟩
      ·rw[if_neg g2]
       exact wpS_pure ⟨rfl,P2,rs2⟩
end
theorem QR{vs:List Value}{ns:List Int}(hI:IntsAre vs ns)(un:ns.Nodup):Unl (pairsOf vs):=by
 unfold Unl;rw[pairsOf_toList];have e:(vs.zip vs).map (λp=>numOf p.1)=ns:=by
  rw[←hI.nums]
  have:((vs.zip vs).map λp=>numOf p.1)=((vs.zip vs).map Prod.fst).map numOf:=by rw[aju];rfl
  rw[this,List.map_fst_zip (aiN _)]
 rw[e];exact un
section
variable{prog:Program}{w:World}{A:Around}{E:Value→Shared→Prop}{s:Shared}{a₀:Array Keyed}
theorem JP{a:Addr}{vs:List Value}{ns:List Int}{n:Nat}{P:Fin→Shared→Prop}(ho:s.heap.get? a=some (seqObj "list" vs.toArray n))(hI:IntsAre vs ns)(few:vs.length≤20000)(un:ns.Nodup)
  (h:∀(out:Array Value) (ns':List Int),IntsAre out.toList ns'→ns'.Perm ns→ns'.Pairwise (·≤·)→P (.done (.ret .none)) {s with heap:=sortedHeap s.heap a vs out}):wpAny (model prog w) A (Builtin.«list.sort» ⟨[.ref a],[]⟩) P E s:=by
 have hz:vs.length≤sizeLine:=akn (ajM few (by decide));rw[list_sort_plain];have la:a<s.heap.objs.size:=aiT ho;refine wpAny_bind (listItems_at ho rfl (wpAny_bind (listUpdate_at ho rfl ?_ (by rw[aiQ];exact hz) (ajk _))));obtain⟨e1,g1⟩:∃ e1,(s.heap.update a (Obj.mapSeq λ_=>#[])).get? a=some (seqObj "list" #[] e1):=⟨_,get?_update_seq ho (λ_=>#[])⟩;refine wpAny_bind (seqEpoch_at g1 rfl (wpAny_bind (wpAny_newTuple (wpAny_bind (wpAny_newList (wpAny_holding ?_) (ajk _))) (by show vs.length≤_;exact hz))));have g6:(((s.heap.update a (Obj.mapSeq λ_=>#[])).push (seqObj "tuple" vs.toArray 0)).push (seqObj "list" #[] 0)).get? a=some (seqObj "list" #[] e1):=aiL _ (aiL _ g1);show wpAny (model prog w) A _ P E {s with heap:=((s.heap.update a (Obj.mapSeq λ_=>#[])).push (seqObj "tuple" vs.toArray 0)).push (seqObj "list" #[] 0)};dsimp only;have zs:(pairsOf vs).size=vs.length:=pairsOf_size vs;have fin:∀ st':SortSt,(arrOf st').Perm (pairsOf vs)→SortedTo (arrOf st') (pairsOf vs).size→P (.done (.ret .none)) {s with heap:=sortedHeap s.heap a vs ((arrOf st').map (·.2))}:=λst' hp hs=>by
  obtain⟨ns',q1,q2,q3⟩:=sorted_out hI hp hs;exact h _ ns' q1 q2 q3
 by_cases c:vs.toArray.size<2
 ·rw[if_pos c,if_pos c]
  refine wpAny_bind (wpAny_pure ?_);rw[StateT.run_pure];refine wpAny_bind (wpAny_pure ?_);dsimp only;refine wpAny_bind (seqEpoch_at g6 rfl (wpAny_bind (listUpdate_at g6 rfl ?_ (hsz2:=by rw[akC];show(pairsOf vs).size≤_;rw[zs];omega))));simp only[bne_self_eq_false,ai9,if_false];exact wpAny_pure (fin (SortSt.mk' general' (vs.toArray.zip vs.toArray) #[] 7 none) (akw _) (λi j ij hj=>by have:i=j:=by {have hh:=hj;rw[zs]at hh;simp at c;omega};subst this;exact ajj _))
 ·rw[if_neg c,if_neg c]
  obtain⟨v1,v2,r,rfl⟩:∃ v1 v2 r,vs=v1::v2::r:=by
   match vs,c with
   | [],c=>simp at c
   | [_],c=>simp at c
   | v1::v2::r,_=>exact⟨v1,v2,r,rfl⟩
  rw[keyKind_ints hI];refine wpAny_bind (wpAny_pure (wpAny_bind (wpAny_mono (U5 (a₀:=pairsOf (v1::v2::r)) (st:=SortSt.mk' oneType' ((v1::v2::r).toArray.zip (v1::v2::r).toArray) #[] 7 none)
   (Q:=λ_ st'=>(arrOf st').Perm (pairsOf (v1::v2::r))∧failedOf st'=none∧SortedTo (arrOf st') (pairsOf (v1::v2::r)).size) hI.intKeys (QR hI un) ⟨akw _,rfl,rfl,rfl⟩ (by rw[zs];simp) λst' a1 a2 a3=>⟨a1,a2,a3⟩) ?_ λ_ _ e=>e)))
  rintro⟨⟨⟩,st'⟩ s' ⟨rfl,hp,hf,hs⟩;dsimp only;refine wpAny_bind (seqEpoch_at g6 rfl (wpAny_bind (listUpdate_at g6 rfl ?_ (hsz2:=ai5 (Nat.le_of_eq ((akC ..).trans (hp.size_eq.trans zs))) (Nat.le_succ_of_le hz)))));rw[hf];simp only[bne_self_eq_false,ai9,if_false];exact wpAny_pure (fin st' hp hs)
end
section
variable{X:Cx}
noncomputable def WO(K:W.Frag):List V→Hp→VK→Prop:=λvs H Q=>∃(p:Addr) (ns:List Int),vs=[.ref p]∧SqL K H p (ns.map V.int)∧ns.length≤20000∧ns.Nodup∧∀(l:Addr) (us:List Int),H l=none→us.Perm ns→us.Pairwise (·≤·)→Q (.ref l) (upd H l (.lst (us.map V.int)))
theorem sV:qq X (.builtin "sorted") (WO X.K):=by
 rintro pins s σ H xs us Q I r ⟨p,ns,rfl,hq,few,un,q⟩;obtain⟨u,rfl,ru⟩:=r.one;cases (show u=Value.ref p from ru);obtain⟨its,rv,pl,hz⟩:=I.list hq;have hI:=intsAre_of rv;have hlen:=rv.length;rw[aiI]at hlen hz;refine ake kind_sorted plain_sorted entry_sorted (args_sorted1 _) ?_;unfold Builtin.«sorted»;refine wpAny_bind (m:=checkCount "sorted" 1 1 _) (wpAny_pure ?_);have iz:its.length≤sizeLine:=by omega
 refine wpAny_bind (collect_list pl.isList ?_ iz);refine wpAny_bind (wpAny_newList ?_ iz);have sz:((s.heap.push (seqObj "list" #[] 0)).update s.heap.objs.size (Obj.mapSeq (·++its.toArray))).objs.size=s.heap.objs.size+1:=by rw[Heap.size_update,size_push']
 have hoL:(((s.heap.push (seqObj "list" #[] 0)).update s.heap.objs.size (Obj.mapSeq (·++its.toArray))).push (seqObj "list" its.toArray 0)).get? (s.heap.objs.size+1)=some (seqObj "list" its.toArray 0):=by rw[←sz];exact ajh _ rfl
 show wpAny _ _ _ _ _ {s with heap:=((s.heap.push (seqObj "list" #[] 0)).update s.heap.objs.size (Obj.mapSeq (·++its.toArray))).push (seqObj "list" its.toArray 0)};rw[sz];refine wpAny_bind (wpAny_holding (wpAny_call_entry slot_list_sort ⟨_,hoL,rfl⟩ entry_list_sort (JP hoL hI (by omega) un λout ns' a1 a2 a3=>⟨_,rfl,?_⟩) (args_list_sort _)));refine wpAny_pure ⟨_,rfl,?_⟩;obtain⟨e,he⟩:=sortedAll_at s.heap its out;refine⟨.ref (s.heap.objs.size+1),_,I.laid (a:=s.heap.objs.size+1) (o:=.lst (ns'.map V.int)) (t':=s.toks) (λ_ _=>sortedAll_old) (akg _) ?_,rfl,q _ ns' (I.hok.fresh (akg _)) a2 a3⟩;refine⟨by rw[aiI,a2.length_eq];exact hz,out.toList,e,mL a1,?_⟩;show(sortedAll s.heap its out).get? _=_;rw[he]
end
end L2
end
section
namespace K13
open PySem L2 LX
section
variable{P:Program}{w:World}{K:W.Frag}{mg:Str→Option Value}{base:Heap}{D:Ad}
noncomputable def thW(ws:List Wd):List Int:=ws.filterMap λw=>match w with|.th t=>some t|_=>none
theorem xw{ws:List Wd}{t:Int}:t∈thW ws↔Wd.th t∈ws:=by
 unfold thW;rw[ajD];constructor
 ·rintro⟨w,m,e⟩
  cases w with
  | no=>cases e
  | num n=>cases e
  | th u=>cases e;exact m
 ·intro m
  exact⟨_,m,rfl⟩
theorem Ft(ws:List Wd):(thW ws).length≤ws.length:=List.length_filterMap_le _ _
theorem zC{t:Int}{zs:List Int}:inV (.int t) (zs.map V.int)=decide (t∈zs):=VM (n:=some t) (f:=nmV) rfl (λ_=>rfl)
theorem OR{rs:List Wd}{F:Int→List Wd}{S:List Int}{t:Int}:Led ((thW rs).map Wd.th) F S t↔Led rs F S t:=by
 constructor
 ·intro h
  induction h with
  | root m c=>obtain⟨u,mu,e⟩:=aje.mp m;cases e;exact .root (xw.mp mu) c
  | step _ m c ih=>exact .step ih m c
 ·intro h
  induction h with
  | root m c=>exact .root (aje.mpr ⟨_,xw.mpr m,rfl⟩) c
  | step _ m c ih=>exact .step ih m c
structure Lk(H H4:Hp)(fo lf:Addr)(ts:List Int)(F:Int→List Wd)(S ms ls:List Int):Prop where
 sm:∀ b u,b≠fo→b≠lf→H b=some u→H4 b=some u
 zf:H4 fo=some (.lst (ms.map V.int))
 zl:H4 lf=some (.lst (ls.map V.int))
 nd:ms.Nodup
 snd:∀ m∈ms,Led (ts.map Wd.th) F S m
 lft:∀ u∈ls,u∈S→Led (ts.map Wd.th) F S u
 rts:∀ t∈ts,t∈S→t∈ms∨t∈ls
 cls:∀ m∈ms,∀ t,Wd.th t∈F m→t∈S→t∈ms∨t∈ls
theorem Lk.all{H H4:Hp}{fo lf:Addr}{ts:List Int}{F:Int→List Wd}{S ms:List Int}(l:Lk H H4 fo lf ts F S ms []){t:Int}(h:Led (ts.map Wd.th) F S t):t∈ms:=by
 induction h with
 | root m c =>
  obtain⟨u,mu,e⟩:=aje.mp m;cases e;exact(l.rts _ mu c).resolve_right (λz=>nomatch z)
 | step _ m c ih=>exact(l.cls _ ih _ m c).resolve_right (λz=>nomatch z)
theorem mZ:∀ {l:List Int},l.Pairwise (·≤·)→l.Nodup→l.Pairwise (·< ·)
 | [],_,_=>.nil
 | a::r,h,n=>by
  rw[aj7]at h ⊢;rw[ajZ]at n;exact⟨λb m=>by have h1:=h.1 b m;have h2:a≠b:=λe=>n.1 (by rw[e];exact m);omega,mZ h.2 n.2⟩
noncomputable def sW:Sp:=λvs H Q _=>∃ l xs ws,vs=[.ref l]∧H l=some (.lst xs)∧Rel H xs ws∧ws.length≤100000∧∀ p H',aE H H'→H p=none→H' p=some (.lst ((thW ws).map V.int))→Q (.ref p) H'
noncomputable abbrev xx:List Str:=["values"]
theorem FV:aw xx ["values"] (ar mz):=fsc
theorem FW(F:Fun K "_law_things" "_law_things" mz D.cX D.gM)(T:Txt K mg D):Ok P w K mg base 1 D.cX D.gM ["values"] (sW):=by
 refine F.oa FV F.b1 λcdv A' outer s' H vs Q E hr h=>?_;obtain⟨l,xs,ws,rfl,hl,rx,hw,k⟩:=h;refine⟨_,(PSs.nox (ai (aM (pS (cl:=[]) (x := "value") (idx:=[]) (NC:=["value"]) ?co1 rfl (iw (pv 0)) (λC fp s₀ H₀=>(PW.pt (pw_and (aJ Gx (pv 0) kc (bN _)) (pw_and1 (aJ nM (cg (r:=W6 K) bY (pv 0) av (λ_ _=>rfl)) bh (bN _)))))) (λC fp s₀ H₀=>(cg (r:=W6 K) bY (pv 0) av (λ_ _=>rfl))))))),?_⟩
 case co1 =>
  exact jc (sc:=ar mz) (N:=xx) (ns:=[]) rfl rfl rfl (by decide +kernel) rfl rfl (by
   intro q hq;cases hq)
 refine⟨_,rfl,l,rfl,⟨_,SqL.of hl⟩,λL hL=>?_⟩;refine jd (K:=K) (a:=l) (xs:=xs) (λi ys Hc=>ys=(thW (ws.take i)).map V.int∧aE H Hc∧Hc L=some (.lst ys)) ⟨rfl,aE.upd hL,ah⟩ (λi ys Hc hi ⟨e,_,z⟩=>⟨z,by rw[e,aiI];exact ai5 (Ft _) (by rw[aiV];omega)⟩) (λi ys Hc _ ⟨_,sc,_⟩=>SqL.of (sc _ _ hl)) (by rw[rx.1];exact ai5 hw (by decide)) (λi v ys Hc hi ⟨e,sc,z⟩=>?_) (λys Hc ⟨e,sc,z⟩=>?_)
 ·obtain⟨w,hwi,wv⟩:=KG rx hi
  have tk:=take_snoc hwi;replace wv:=wv.keep (fJ.of sc);have ap:thW (ws.take (i+1))=thW (ws.take i)++thW [w]:=by rw[tk];unfold thW;rw[List.filterMap_append]
  cases w with
  | no =>
   cases wv;exact⟨_,rfl,rfl,_,rfl,gS (gS ⟨by rw[ap,e];simp[thW],sc,z⟩)⟩
  | num n =>
   obtain⟨a,rfl,ha⟩:=wv;refine⟨_,rfl,rfl,_,rfl,sL ⟨_,rfl,a,_,0,.str "number",rfl,rfl,SqT.of ha,rfl,rfl,_,rfl,aY (λy=>absurd y (by decide +kernel)) (λ_=>⟨by rw[ap,e];simp[thW],sc,z⟩)⟩⟩
  | th t =>
   obtain⟨a,rfl,ha⟩:=wv;refine⟨_,rfl,rfl,_,rfl,sL ⟨_,rfl,a,_,0,.str "thing",rfl,rfl,SqT.of ha,rfl,rfl,_,rfl,aY (λ_=>?_) (λy=>absurd (by decide +kernel) y)⟩⟩;refine⟨_,rfl,a,_,1,.int t,rfl,rfl,SqT.of ha,rfl,z,?_,λb u q=>by rw[ag (au q hL)];exact sc b u q,ah⟩;rw[ap,e,ai3];rfl
 ·rw[rx.1,ai2 (aiN _)]at e
  exact k L Hc sc hL (by rw[z,e])
noncomputable def KL(D:Ad):Sp:=λvs H Q _=>∃(x:Addr) (A:HA) (s:HS) (st:Addr) (ts:List Int) (sm:Addr) (S:List Int),vs=[.ref x,.ref st,.ref sm]∧IH D H x A s∧Good s∧H st=some (.lst (ts.map V.int))∧H sm=some (.lst (S.map V.int))∧(∀ t∈S,t∈keys s)∧S.Nodup∧ts.length≤100000∧∀(p:Addr) (ms:List Int) (H':Hp),aE H H'→H p=none→H' p=some (.lst (ms.map V.int))→ms.Pairwise (·< ·)→(∀ t,t∈ms↔Led (ts.map Wd.th) (fld s) S t)→Q (.ref p) H'
noncomputable abbrev NU:List Str:=["heap", "starts", "some", "found", "left", "thing"]
theorem qw:aw NU ["heap", "starts", "some"] (ar zo):=fsc
theorem LL(F:Fun K "_law_led" "_law_led" zo D.gQ D.mC)(T:Txt K mg D)
  (a6:Ok P w K mg base 4 D.aP D.bX ["self", "t"] (GW D))
  (cB:Ok P w K mg base 1 D.cX D.gM ["values"] (sW)):Ok P w K mg base 6 D.gQ D.mC ["heap", "starts", "some"] (KL D):=by
 refine F.oa qw F.b3 λcdv A' outer s' H vs Q E hr h=>?_;obtain⟨x,A,s,st,ts,sm,S,rfl,J,G,hst,hsm,hin,hnd,hts,k⟩:=h;refine⟨_,(PSs.nox (ak (bp (i:=3) qw.nd rfl (Or.inl rfl) (ke aq))
  (ak (bp (i:=4) qw.nd rfl (Or.inl rfl) (km nN rfl T.ui PyProof.Rows.Boot.«list» (ae (pv 1) aq)))
  (ak (Mj ajo (nA (pv 4) (by intro _;rfl))
   (ak (bp (i:=5) qw.nd rfl (Or.inl rfl) (Wa PySem.F.plainAttrs_list PySem.F.slot_list_pop PySem.F.type_list_pop Wc (pv 4)))
   (ai (cj (PW.pt (pw_and (aJ mK (pv 5) (pv 2) (by with_unfolding_all rfl)) (pw_and1 (aJ iE (pv 5) (pv 3) (by with_unfolding_all rfl)))))
    (ak (aG (KQ PySem.F.plainAttrs_list PySem.F.slot_list_append PySem.F.type_list_append rp (pv 3) (ae (pv 5) aq)))
    (ai (aG (KQ PySem.F.plainAttrs_list PySem.F.slot_list_extend PySem.F.type_list_extend IL (pv 4) (ae (cB.c hr T.iS T.fI dS (ae (a6.m hr (pv 0) T.ab T.ib dS (ae (pv 5) aq)) aq)) aq)))))
    aU))))
  (ai (aM (eh sV rfl T.lE PyProof.Rows.Boot.«sorted» (ae (pv 3) aq)))))))),?_⟩
 refine⟨by show 0≤sizeLine;decide,λfo hfo=>?_⟩;have s1:=aE.upd (o:=.lst ([]:List V)) hfo;refine⟨_,rfl,st,_,rfl,.inl (SqL.of (s1 _ _ hst)),λlf hlf=>?_⟩;have s2:=aE.upd (o:=.lst (ts.map V.int)) hlf;have ae0:H lf=none:=aE.none s1 hlf;have nfl:fo≠lf:=au (hX s1) hlf;have kS:S.length≤10000:=ai5 (j8 hnd hin) (by unfold keys;rw[aiI];exact G.few);refine⟨λm σ H4=>∃(v5:Option V) (ms ls:List Int),m=7*(S.length-ms.length)+ls.length∧σ=[some (.ref x),some (.ref st),some (.ref sm),some (.ref fo),some (.ref lf),v5]∧Lk H H4 fo lf ts (fld s) S ms ls∧ls.length≤100000+6*ms.length,⟨_,none,[],ts,rfl,rfl,⟨λb u _ _ q=>s2 _ _ (s1 _ _ q),s2 _ _ (hX s1),hX s2,List.nodup_nil,(λm h=>nomatch h),(λu mu c=>.root (aje.mpr ⟨u,mu,rfl⟩) c),(λt mt _=>.inr mt),(λm h=>nomatch h)⟩,by simpa using hts⟩,?_⟩;clear s1 s2;rintro m σ H4 ⟨v5,ms,ls,rfl,rfl,W,hll⟩;have msS:∀ u∈ms,u∈S:=λu mu=>(W.snd u mu).mem;have msl:=j8 W.nd msS;refine⟨_,rfl,_,.inl ⟨_,SqL.of W.zl,rfl⟩,?_⟩;cases hls:ls with
 | nil =>
  subst hls;refine gS ?_;refine⟨_,rfl,fo,ms,rfl,SqL.of W.zf,(by omega),W.nd,λl ns hl pm srt=>?_⟩;have nl:∀ {b:Addr} {u:HO},H b=some u→b≠fo∧b≠lf:=λq=>⟨au q hfo,au q ae0⟩;have sH:aE H H4:=λb u q=>W.sm b u (nl q).1 (nl q).2 q;exact k l ns _ (sH.trans (aE.upd hl)) (aE.none sH hl) ah (mZ srt (pm.nodup_iff.mpr W.nd)) λt=>(pm.mem_iff).trans ⟨W.snd t,W.all⟩
 | cons z0 r0 =>
  have hne:ls≠[]:=by rw[hls];intro z;cases z
  have e9:(!(List.map V.int (z0::r0)).isEmpty)=true:=rfl;refine sT e9 ?_;rw[←hls];clear e9;refine⟨λσ' H'=>∃ m',m'<7*(S.length-ms.length)+ls.length∧∃(v5:Option V) (ms ls:List Int),m'=7*(S.length-ms.length)+ls.length∧σ'=[some (.ref x),some (.ref st),some (.ref sm),some (.ref fo),some (.ref lf),v5]∧Lk H H' fo lf ts (fld s) S ms ls∧ls.length≤100000+6*ms.length,λ_ _ h=>h,?_⟩;obtain⟨r,y,ely⟩:∃ r y,ls=r++[y]:=⟨ls.dropLast,ls.getLast hne,(List.dropLast_concat_getLast hne).symm⟩;clear hls;subst ely;have hy:((r++[y]).map V.int)[((r++[y]).map V.int).length-1]?=some (.int y):=by
   rw[aiI,aiR,ajl,Nat.add_sub_cancel,aiW,ajx (aiN _),Nat.sub_self];rfl
  refine⟨_,rfl,.inl ⟨rfl,_,SqL.of W.zl⟩,lf,_,.int y,rfl,rfl,W.zl,hy,?_⟩;have edl:((r++[y]).map V.int).dropLast=r.map V.int:=by rw[ai3];exact List.dropLast_concat
  rw[edl];have nl:∀ {b:Addr} {u:HO},H b=some u→b≠fo∧b≠lf:=λq=>⟨au q hfo,au q ae0⟩;obtain⟨H5,e5⟩:∃ H5,upd H4 lf (.lst (r.map V.int))=H5:=⟨_,rfl⟩;have zl5:H5 lf=some (.lst (r.map V.int)):=by rw[←e5];exact ah
  have zf5:H5 fo=some (.lst (ms.map V.int)):=by rw[←e5,ag nfl];exact W.zf
  have sm5:∀ b u,b≠fo→b≠lf→H b=some u→H5 b=some u:=λb u n1 n2 q=>by rw[←e5,ag n2];exact W.sm b u n1 n2 q
  rw[e5];clear e5;have sH:aE H H5:=λb u q=>sm5 b u (nl q).1 (nl q).2 q;have ll:r.length+1≤100000+6*ms.length:=by rw[aiR,ajl]at hll;exact hll
  have skip:(y∉S∨y∈ms)→∃ m',m'<7*(S.length-ms.length)+(r++[y]).length∧∃(v5:Option V) (ms ls:List Int),m'=7*(S.length-ms.length)+ls.length∧([some (.ref x),some (.ref st),some (.ref sm),some (.ref fo),some (.ref lf),some (.int y)]:St)=[some (.ref x),some (.ref st),some (.ref sm),some (.ref fo),some (.ref lf),v5]∧Lk H H5 fo lf ts (fld s) S ms ls∧ls.length≤100000+6*ms.length:=λc=>by
   have back:∀ t,t∈S→t∈ms∨t∈r++[y]→t∈ms∨t∈r:=λt tS h=>by
    rcases h with h|h
    ·exact .inl h
    ·rcases aiS.mp h with h|h
     ·exact .inr h
     ·rw[aiJ.mp h]at tS ⊢
      rcases c with c|c
      ·exact absurd tS c
      ·exact .inl c
   refine⟨_,?_,_,ms,r,rfl,rfl,⟨sm5,zf5,zl5,W.nd,W.snd,λu mu=>W.lft u (ajb _ mu),λt mt tS=>back t tS (W.rts t mt tS),λm mm t h tS=>back t tS (W.cls m mm t h tS)⟩,by omega⟩;rw[aiR,ajl];omega
  refine⟨_,rfl,_,rfl,sm,_,rfl,.inl (SqL.of (sH _ _ hsm)),rfl,gK S,_,rfl,?_⟩;show if inV (.int y) (S.map V.int)=true then _ else _;rw[zC];by_cases cS:y∈S
  ·rw[decide_eq_true cS]
   refine sL ⟨_,rfl,_,rfl,fo,_,rfl,.inl (SqL.of zf5),rfl,gK ms,_,rfl,?_⟩;show if(!inV (.int y) (ms.map V.int))=true then _ else _;rw[zC];by_cases cm:y∈ms
   ·rw[decide_eq_true cm]
    exact gS (skip (.inr cm))
   ·rw[decide_eq_false cm]
    have ly:Led (ts.map Wd.th) (fld s) S y:=W.lft y (aiP _ (aiJ.mpr rfl)) cS;obtain⟨wy,mw⟩:=mem_keys.mp (hin y cS);have lt:=G.lt _ _ mw;have nx:=G.nx;have fm:=G.fld mw;refine sL ⟨_,rfl,.inl ⟨rfl,_,SqL.of zf5⟩,_,rfl,fo,_,_,rfl,rfl,zf5,by rw[aiI];exact uo (by omega),?_⟩;obtain⟨H6,e6⟩:∃ H6,upd H5 fo (.lst (ms.map V.int++[.int y]))=H6:=⟨_,rfl⟩;have zf6:H6 fo=some (.lst ((ms++[y]).map V.int)):=(by rw[←e6,ai3];exact ah);have zl6:H6 lf=some (.lst (r.map V.int)):=(by rw[←e6,ag (ai7 nfl)];exact zl5);have sm6:∀ b u,b≠fo→b≠lf→H b=some u→H6 b=some u:=λb u n1 n2 q=>by rw[←e6,ag n1];exact sm5 b u n1 n2 q
    rw[e6];clear e6;have sH6:aE H H6:=λb u q=>sm6 b u (nl q).1 (nl q).2 q;have J6:=J.same sH6;obtain⟨hl0,rl⟩:=J6.afl _ _ mw;rw[←fm]at rl;have f6:=G.f6 _ _ mw;rw[←fm]at f6;refine⟨_,rfl,.inl ⟨rfl,_,SqL.of zl6⟩,_,rfl,x,_,_,rfl,J6.ax,(by kernel_rfl),_,rfl,x,A,s,y,rfl,J6,G,Sm.of (by omega) (by omega),λ_ p2 H7 s7 hp2 z2=>⟨p2,_,fld s y,rfl,z2,rl.keep (fJ.of s7),by omega,λp3 H8 s8 hp3 z3=>?_⟩,λh=>absurd (hin y cS) h⟩;have t8:=s7.trans s8;have tl:=Ft (fld s y);have zl8:=t8 _ _ zl6;refine⟨lf,p3,_,_,rfl,rfl,zl8,z3,?_,?_⟩
    ·rw[aiI,aiI]
     exact ai5 (show r.length+(thW (fld s y)).length≤200000 by omega) (by decide)
    ·have nd2:=MM W.nd cm
     have mS:ms.length+1≤S.length:=by
      have:=j8 nd2 (ks:=S) λu mu=>by
       rcases aiS.mp mu with q|q
       ·exact msS u q
       ·rw[aiJ.mp q];exact cS
      rw[aiR,ajl]at this;exact this
     have lft:∀ u∈r++thW (fld s y),u∈S→Led (ts.map Wd.th) (fld s) S u:=λu mu c=>by
      rcases aiS.mp mu with q|q
      ·exact W.lft u (ajb _ q) c
      ·exact .step ly (xw.mp q) c
     have grow:∀ t,t∈ms∨t∈r++[y]→t∈ms++[y]∨t∈r++thW (fld s y):=λt h=>by
      rcases h with h|h
      ·exact .inl (ajb _ h)
      ·rcases aiS.mp h with h|h
       ·exact .inr (ajb _ h)
       ·exact .inl (aiP _ h)
     refine⟨7*(S.length-(ms++[y]).length)+(r++thW (fld s y)).length,?_,_,ms++[y],r++thW (fld s y),rfl,rfl,⟨λb u n1 n2 q=>by rw[ag n2];exact t8 _ _ (sm6 b u n1 n2 q),by rw[ag nfl];exact t8 _ _ zf6,by rw[ah,ai3],nd2,λm mm=>?_,lft,λt mt tS=>grow t (W.rts t mt tS),λm mm t h tS=>?_⟩,?_⟩
     ·simp only[aiR,ajl]
      omega
     ·rcases aiS.mp mm with q|q
      ·exact W.snd m q
      ·rw[aiJ.mp q];exact ly
     ·rcases aiS.mp mm with q|q
      ·exact grow t (W.cls m q t h tS)
      ·rw[aiJ.mp q]at h
       exact .inr (aiP _ (xw.mpr h))
     ·rw[aiR,aiR,ajl]
      omega
  ·rw[decide_eq_false cS]
   exact gS (gS (skip (.inl cS)))
end
end K13
end
section
namespace L2
open PySem PySem.Spec PyProof.Rows LX
noncomputable def ZI:List V→Hp→VK→Prop:=λvs H Q=>∃ n:Int,vs=[.int n]∧∀ r,H r=none→Q (.ref r) (upd H r (.rng 0 n))
noncomputable def zup(n:Int):List Int:=(List.range n.toNat).map λ(i:Nat)=>(i:Int)
theorem PV{n t:Int}:t∈zup n↔0≤t∧t<n:=by
 unfold zup;rw[aje];constructor
 ·rintro⟨i,m,rfl⟩
  have:=akB.mp m
  omega
 ·rintro⟨a,b⟩
  exact⟨t.toNat,akB.mpr (by omega),by omega⟩
theorem U6{n:Int}:(zup n).Pairwise (·< ·):=by
 unfold zup;rw[List.pairwise_map];exact List.pairwise_lt_range.imp λh=>by omega
theorem PX:∀ {vs:List Value} {ns:List Int},vs.length=ns.length→(∀(j:Nat) (v:Value) (n:Int),vs[j]?=some v→ns[j]?=some n→∃ t,v=.int n t)→IntsAre vs ns
 | [],[],_,_=>.nil
 | v::vs,n::ns,e,h=>by
  obtain⟨t,rfl⟩:=h 0 v n rfl rfl;exact .cons n t (PX (by simpa using e) λj v n h1 h2=>h (j+1) v n (by simpa using h1) (by simpa using h2))
section
variable{X:Cx}
theorem QS:qq X (.type "range") ZI:=by
 rintro pins s σ H xs us Q I r ⟨n,rfl,q⟩;obtain⟨u,rfl,t,rfl⟩:=r.one;refine call_range_1 ⟨.ref s.heap.objs.size,_,I.laid (a:=s.heap.objs.size) (o:=.rng 0 n) (t':=s.toks+1+1) (λb o e=>aiL _ e) (aiN _) ⟨_,_,_,ajh _ rfl⟩,rfl,q _ (I.hok.fresh (aiN _))⟩
noncomputable def Sg:List V→Hp→VK→Prop:=λvs H Q=>∃(p:Addr) (n:Int),vs=[.ref p]∧H p=some (.rng 0 n)∧0≤n∧n≤20000∧∀ l:Addr,H l=none→Q (.ref l) (upd H l (.lst ((zup n).map V.int)))
theorem JQ(hc:X.calm=true):qq X (.type "list") Sg:=by
 rintro pins s σ H xs us Q I r ⟨p,n,rfl,hp,n0,n1,q⟩;obtain⟨u,rfl,ru⟩:=r.one;cases (show u=Value.ref p from ru);obtain⟨m,rfl⟩:∃ m:Nat,n=(m:Int):=⟨n.toNat,by omega⟩;obtain⟨t,u,v,e⟩:=(I.hok p _ hp:fg X.prog X.w H s.heap p (.rng 0 (m:Int)));have hz:Builtin.Range.rangeSize 0 (m:Int) 1=m:=by
  unfold Builtin.Range.rangeSize;simp only[show((1:Int)>0)=True from eq_true (by decide),if_true];by_cases h0:(0:Int)<m
  ·rw[if_pos h0];simp only[Int.ediv_one];omega
  ·rw[if_neg h0];omega
 have hsm:Builtin.Range.small 0 (m:Int) 1=true:=by
  unfold Builtin.Range.small;rw[hz];have fl:∀ i:Int,0≤i→i≤20000→Builtin.Range.rangeFitsLong i=true:=λi h1 h2=>by
   unfold Builtin.Range.rangeFitsLong;simp;omega
  rw[fl 0 (by decide) (by decide),fl m n0 n1,fl 1 (by decide) (by decide),if_pos (by decide),fl (m+(1-1)) (by omega) (by omega)];simp
 refine call_list_range (I.ok.hd hc) e hsm hz (by omega) λh' tk acc c hk hS hacc=>?_;have hl:acc.size=m:=hacc.1;have lu:(zup (m:Int)).length=m:=by unfold zup;simp
 have hI:IntsAre acc.toList (zup (m:Int)):=PX (by rw[aiX,hl,lu]) λj v n h1 h2=>by
  rw[ajz]at h1;obtain⟨t,e⟩:=hacc.2 j v h1;unfold zup at h2;rw[aiW]at h2;obtain⟨i,hi,rfl⟩:=aiZ.mp h2;have hj:i=j:=by
   have hlt:j<(List.range (m:Int).toNat).length:=(aiM.mp hi).1;rw[aiK hlt,List.getElem_range]at hi;exact(aja hi).symm
  exact⟨t,by rw[e,hj];simp⟩
 refine⟨.ref s.heap.objs.size,_,I.laid (a:=s.heap.objs.size) (o:=.lst ((zup (m:Int)).map V.int)) (t':=tk) hk (aiN _) ?_,rfl,q _ (I.hok.fresh (aiN _))⟩;refine⟨by rw[aiI,lu];exact ai5 (show m≤20000 by omega) (by decide),acc.toList,c,mL hI,?_⟩;rw[hS]
end
end L2
end
section
namespace K13
open PySem L2 LX
section
variable{P:Program}{w:World}{K:W.Frag}{mg:Str→Option Value}{base:Heap}{D:Ad}
structure Kd(s s':HS):Prop where
 nx:s.nxt≤s'.nxt
 nw:∀ t,t∈keys s'→t∈keys s∨s.nxt≤t
 ol:∀ t,s.nxt≤t→t<s'.nxt→t∈keys s'
theorem Kd.less{s s':HS}(n:s'.nxt=s.nxt)(h:∀ t,t∈keys s'→t∈keys s):Kd s s':=⟨by omega,λt m=>.inl (h t m),λt a b=>by omega⟩
theorem QT{s:HS}{t:Int}{ws:List Wd}:keys {s with aN:=pZ s.aN t ws}=keys s:=by
 show(pZ s.aN t ws).map (·.1)=s.aN.map (·.1);unfold pZ;rw[aju];refine ajH λp hp=>?_;show(if p.1=t then(t,ws) else p).1=p.1;by_cases c:p.1=t
 ·rw[if_pos c];exact c.symm
 ·rw[if_neg c]
theorem G5{s s':HS}{gs:List Int}(e:s'.aN=drG s.aN gs){t:Int}(m:t∈keys s'):t∈keys s∧t∉gs:=by
 obtain⟨ws,mw⟩:=mem_keys.mp m;rw[e]at mw
 have:=hW.mp mw
 exact⟨mem_keys.mpr ⟨ws,this.1⟩,this.2⟩
noncomputable def quiet:Dd→Bool
 | .make ..=>false
 | .small=>false
 | .turn=>false
 | _=>true
theorem Td{s:HS}{dd:Dd}(q:quiet dd=true):keys (dDo s dd).2=keys s∧(dDo s dd).2.nxt=s.nxt:=by
 cases dd with
 | make h n=>cases q
 | small=>cases q
 | turn=>cases q
 | store g k h =>
  show keys (gk s g k h).2=_∧(gk s g k h).2.nxt=_;unfold gk;split
  ·split
   ·split
    ·exact⟨QT,rfl⟩
    ·exact⟨rfl,rfl⟩
   ·exact⟨rfl,rfl⟩
  ·exact⟨rfl,rfl⟩
 | load h g k=>show keys (jO s h g k).2=_∧(jO s h g k).2.nxt=_;unfold jO;split<;>(try split)<;>(try split)<;>exact⟨rfl,rfl⟩
 | copy h g=>show keys (oe s h g).2=_∧(oe s h g).2.nxt=_;unfold oe;split<;>(try split)<;>exact⟨rfl,rfl⟩
 | drop h=>show keys (qv s h).2=_∧(qv s h).2.nxt=_;unfold qv;split<;>exact⟨rfl,rfl⟩
 | number h x=>show keys (gF s h x).2=_∧(gF s h x).2.nxt=_;unfold gF;split<;>(try split)<;>exact⟨rfl,rfl⟩
 | name w h=>show keys (kX s w h).2=_∧(kX s w h).2.nxt=_;unfold kX;split<;>(try split)<;>exact⟨rfl,rfl⟩
 | read h w =>
  show keys (ju s h w).2=_∧(ju s h w).2.nxt=_;unfold ju;split
  ·split
   ·unfold rdR
    split
    ·split<;>exact⟨rfl,rfl⟩
    ·exact⟨rfl,rfl⟩
   ·exact⟨rfl,rfl⟩
  ·exact⟨rfl,rfl⟩
 | word h x=>show keys (jP s h x).2=_∧(jP s h x).2.nxt=_;unfold jP;split<;>(try split)<;>(try split)<;>exact⟨rfl,rfl⟩
theorem PY{s:HS}{n t:Int}(m:t∈keys (mkR s n)):t∈keys s:=by
 unfold mkR at m;split at m
 ·exact(G5 (s:=s) (gs:=i8 s) rfl m).1
 ·exact m
theorem ZJ{s:HS}{dd:Dd}:Kd s (dDo s dd).2:=by
 cases hq:quiet dd with
 | true =>
  obtain⟨h1,h2⟩:=Td (s:=s) hq;exact .less h2 λt m=>by rw[←h1];exact m
 | false =>
  cases dd with
  | make h n =>
   show Kd s (jM s h n).2;have nm:=xq (s:=s) (n:=n);unfold jM;split
   ·split
    ·split
     ·exact .less nm λt m=>PY m
     ·have e:keys (I0 (mkR s n) h n)=keys (mkR s n)++[(mkR s n).nxt]:=by
       show((mkR s n).aN++[((mkR s n).nxt,List.replicate n.toNat Wd.no)]).map (·.1)=_;rw[ai3];rfl
      refine⟨by show s.nxt≤(mkR s n).nxt+1;omega,λt m=>?_,λt a b=>?_⟩
      ·have m:t∈keys (I0 (mkR s n) h n):=m
       rw[e]at m;rcases aiS.mp m with m|m
       ·exact .inl (PY m)
       ·rw[aiJ.mp m];exact .inr (by omega)
      ·have b:t<(mkR s n).nxt+1:=b
       show t∈keys (I0 (mkR s n) h n);rw[e];exact aiP _ (aiJ.mpr (by omega))
    ·exact .less rfl λ_ m=>m
   ·exact .less rfl λ_ m=>m
  | small=>exact .less rfl λt m=>(G5 (s:=s) (gs:=i8 s) rfl m).1
  | turn =>
   show Kd s (sU s).2;unfold sU;split
   ·rename_i c
    rw[show Pq s=(none,Pp s) from if_pos c];exact .less rfl λt m=>(G5 (s:=s) (gs:=s.bF) rfl m).1
   ·rename_i c
    rw[show xo s=(none,Po (kg s)) from if_neg c];exact .less rfl λt m=>(G5 (s:=s) (gs:=i8 s) rfl m).1
  | _=>cases hq
structure Gn(s:HS)(gs:List Int):Prop where
 asc:gs.Pairwise (·< ·)
 mem:∀ t,t∈gs↔0≤t∧t<s.nxt∧t∉keys s
theorem K4{s:HS}(g:Good s){t:Int}(m:t∈keys s):0≤t∧t<s.nxt:=by
 obtain⟨ws,mw⟩:=mem_keys.mp m;exact g.lt _ _ mw
theorem Ht{s:HS}(g:Good s):(keys s).length≤10000:=by unfold keys;rw[aiI];exact g.few
theorem WQ{gs:List Int}{n:Int}(asc:gs.Pairwise (·< ·))(h:∀ t∈gs,0≤t∧t<n):gs.length≤n.toNat:=by
 have:=j8 (d8 asc) (ks:=zup n) λt m=>PV.mpr (h t m)
 have e:(zup n).length=n.toNat:=by unfold zup;simp
 omega
theorem Gn.len{s:HS}{gs:List Int}(g:Good s)(n:Gn s gs):gs.length≤10000:=by
 have:=WQ n.asc (n:=s.nxt) λt m=>⟨((n.mem t).mp m).1,((n.mem t).mp m).2.1⟩
 have:=g.nx
 omega
theorem PZ{s s':HS}{gs:List Int}(g:Good s)(n:Gn s gs):(gs++(keys s).filter λt=>decide (t∉keys s')).Nodup:=by
 rw[ajQ];refine⟨d8 n.asc,(d8 g.asc).sublist ajI,λa ma b mb e=>?_⟩;subst e;exact((n.mem a).mp ma).2.2 (ajs.mp mb).1
theorem Gn.step{s s':HS}{gs us:List Int}(g:Good s)(g':Good s')(kd:Kd s s')(n:Gn s gs)(pm:us.Perm (gs++(keys s).filter λt=>decide (t∉keys s')))(srt:us.Pairwise (·≤·)):Gn s' us where
 asc:=mZ srt (pm.nodup_iff.mpr (PZ g n))
 mem:=λt=>by
  rw[pm.mem_iff,aiS,n.mem t,ajs,decide_eq_true_iff];have k1:=kd.nx;constructor
  ·rintro(⟨a,b,c⟩|⟨a,b⟩)
   ·exact⟨a,by omega,λm=>(kd.nw t m).elim c λz=>by omega⟩
   ·have:=K4 g a
    exact⟨this.1,by omega,b⟩
  ·rintro⟨a,b,c⟩
   by_cases m:t∈keys s
   ·exact .inr ⟨m,c⟩
   ·exact .inl ⟨a,Int.not_le.mp λz=>c (kd.ol t z b),m⟩
theorem Hu{s:HS}(d:Gd s){S:List Int}{t:Int}(l:Led s.aT (fld s) S t)(hS:∀ t∈S,t∈keys s):t∉s.bF:=by
 induction l with
 | root m _=>exact d.dh _ m
 | step a b c ih =>
  obtain⟨ws,mw⟩:=mem_keys.mp (hS _ a.mem);rw[d.g.fld mw]at b;exact d.df _ _ _ mw ih b
theorem K5{s:HS}(g:Good s){t:Int}(h0:-1≤t)(h1:t≤s.nxt):Sm t:=Sm.of (by omega) (by have:=g.nx;omega)
theorem NV{s:HS}{gs:List Int}(g:Good s)(n:Gn s gs):∃ t,((gs.map V.int)++[V.int (-1)])[0]?=some (.int t)∧t∉keys s∧Sm t:=by
 cases gs with
 | nil=>exact⟨-1,rfl,(λm=>by have:=K4 g m;omega),K5 g (by omega) (by have:=g.n0;omega)⟩
 | cons a r =>
  have:=(n.mem a).mp ai1
  exact⟨a,rfl,this.2.2,K5 g (by omega) (by omega)⟩
noncomputable def Tf(D:Ad):Sp:=λvs H Q _=>∃(x:Addr) (A:HA) (s:HS) (g:Addr) (gs:List Int),vs=[.ref x,.ref g]∧IH D H x A s∧Gd s∧H g=some (.lst (gs.map V.int))∧Gn s gs∧∀ H',aE H H'→Q (.bl true) H'
noncomputable abbrev dO:List Str:=["heap", "gone", "things", "come_to", "t"]
theorem gv:aw dO ["heap", "gone"] (ar bS):=fsc
theorem uC(F:Fun K "_law_inside_right" "_law_inside_right" bS D.bB D.e7)(T:Txt K mg D)
  (jj:Ok P w K mg base 5 D.cH D.hV ["heap", "t"] (MV D))
  (jk:Ok P w K mg base 1 D.dD D.hU ["self"] (MU D))
  (de:Ok P w K mg base 1 D.bM D.en ["self"] (zA D))
  (ka:Ok P w K mg base 6 D.gQ D.mC ["heap", "starts", "some"] (KL D))
  (cB:Ok P w K mg base 1 D.cX D.gM ["values"] (sW))
  (cQ:Ok P w K mg base 2 D.b8 D.eU ["self"] (D9 D))
  (a6:Ok P w K mg base 4 D.aP D.bX ["self", "t"] (GW D))
  (kP:Ok P w K mg base 2 D.cO D.gz ["self"] (Jl D))
  (j6:Ok P w K mg base 1 D.cv D.fZ ["self"] (GV D)):Ok P w K mg base 7 D.bB D.e7 ["heap", "gone"] (Tf D):=by
 refine F.oa gv F.b2 λcdv A' outer s' H vs Q E hr h=>?_;obtain⟨x,A,s,g,gs,rfl,J,Gs,hg,gn,k⟩:=h;refine⟨_,(PSs.nox (ak (cj (PW.pt (pw_or (pB (pA (jj.c hr T.qZ T.jg dS (ae (pv 0) (ae (cg iW (eE Cm (pv 1) (ke (ae (YY V5 av) aq))) av (λ_ _=>rfl)) aq))))) (pw_or1 (pB (pA (jj.c hr T.qZ T.jg dS (ae (pv 0) (ae (jk.m0 hr (pv 0) T.ab T.pY dS) aq))))))))
   (ai (aM pJ))
   aU)
  (ak (bp (i:=2) gv.nd rfl (Or.inr rfl) (de.m0 hr (pv 0) T.ab T.jA dS))
  (ak (bp (i:=3) gv.nd rfl (Or.inr rfl) (ka.c hr T.zu T.pL dS (ae (pv 0) (ae (cB.c hr T.iS T.fI dS (ae (cQ.m0 hr (pv 0) T.ab T.iq dS) aq)) (ae (pv 2) aq)))))
  (ak (cj (nA (pS (cl:=[("things",s'.heap.objs.size+1)]) (x := "t") (idx:=[2]) (NC:=["t", "things"]) ?co5 rfl (iw (cB.c hr T.iS T.fI dS (ae (cQ.m0 hr (pv 0) T.ab T.iq dS) aq))) (λC fp s₀ H₀=>(aJ (r:=rIn K true) iE (pv 0) (pv 1) (by with_unfolding_all rfl))) (λC fp s₀ H₀=>(pv 0))) (by intro _;rfl))
   (ai (aM pJ))
   aU)
  (ak (nK ajo rfl (iw (pv 2)) (gb (i:=4) gv.nd rfl (Or.inl rfl))
   (ai (cj (nA (pS (cl:=[("things",s'.heap.objs.size+1)]) (x := "other") (idx:=[2]) (NC:=["other", "things"]) ?co4 rfl (iw (cB.c hr T.iS T.fI dS (ae (a6.m hr (pv 0) T.ab T.ib dS (ae (pv 4) aq)) aq))) (λC fp s₀ H₀=>(aJ (r:=rIn K true) iE (pv 0) (pv 1) (by with_unfolding_all rfl))) (λC fp s₀ H₀=>(pv 0))) (by intro _;rfl))
    (ai (aM pJ))
    aU)))
  (ak (cj (nA (pS (cl:=[("things",s'.heap.objs.size+1)]) (x := "t") (idx:=[2]) (NC:=["t", "things"]) ?co3 rfl (iw (kP.m0 hr (pv 0) T.ab T.xG dS)) (λC fp s₀ H₀=>(PW.pt (pw_and (aJ Gx (pv 0) kc (bN _)) (pw_and1 (aJ (r:=rIn K true) iE (pv 0) (pv 1) (by with_unfolding_all rfl)))))) (λC fp s₀ H₀=>(pv 0))) (by intro _;rfl))
   (ai (aM pJ))
   aU)
  (ak (cj (nA (pS (cl:=[("things",s'.heap.objs.size+1)]) (x := "t") (idx:=[2]) (NC:=["t", "things"]) ?co2 rfl (iw (pv 1)) (λC fp s₀ H₀=>(aJ (r:=rIn K false) mK (pv 0) (pv 1) (by with_unfolding_all rfl))) (λC fp s₀ H₀=>(pv 0))) (by intro _;rfl))
   (ai (aM pJ))
   aU)
  (ak (cj (nA (pS (cl:=[("things",s'.heap.objs.size+1),("come_to",s'.heap.objs.size+2)]) (x := "t") (idx:=[3,2]) (NC:=["t", "come_to", "things"]) ?co1 rfl (iw (j6.m0 hr (pv 0) T.ab T.vF dS)) (λC fp s₀ H₀=>(PW.pt (pw_or (aJ (r:=rIn K true) iE (pv 0) (pv 2) (by with_unfolding_all rfl)) (pw_or1 (aJ (r:=rIn K false) mK (pv 0) (pv 1) (by with_unfolding_all rfl)))))) (λC fp s₀ H₀=>(pv 0))) (by intro _;rfl))
   (ai (aM pJ))
   aU)
  (ai (aM (So (Gy (SO (n:=1) (kQ hr)) (pv 2) (eh sV rfl T.lE PyProof.Rows.Boot.«sorted» (ae (pv 2) aq)) (bN _)) (Sn (Gy (SO (n:=1) (kQ hr)) (eh sV rfl T.lE PyProof.Rows.Boot.«sorted» (ae (eE Cm (pv 2) (pv 1)) aq)) (km (JQ rfl) rfl T.ui PyProof.Rows.Boot.«list» (ae (km QS rfl T.xh PyProof.Rows.Boot.«range» (ae (jk.m0 hr (pv 0) T.ab T.pY dS) aq)) aq)) (bN _))))))))))))))),?_⟩
 case co1 =>
  exact jc (sc:=ar bS) (N:=dO) (ns:=["things", "come_to"]) rfl rfl rfl (by decide +kernel) rfl rfl (by
   intro q hq;rcases aiY.mp hq with rfl|hq
   ·rfl
   rw[aiJ.mp hq];rfl)
 case co2 =>
  exact jc (sc:=ar bS) (N:=dO) (ns:=["things"]) rfl rfl rfl (by decide +kernel) rfl rfl (by
   intro q hq;rw[aiJ.mp hq];rfl)
 case co3 =>
  exact jc (sc:=ar bS) (N:=dO) (ns:=["things"]) rfl rfl rfl (by decide +kernel) rfl rfl (by
   intro q hq;rw[aiJ.mp hq];rfl)
 case co4 =>
  exact jc (sc:=ar bS) (N:=dO) (ns:=["things"]) rfl rfl rfl (by decide +kernel) rfl rfl (by
   intro q hq;rw[aiJ.mp hq];rfl)
 case co5 =>
  exact jc (sc:=ar bS) (N:=dO) (ns:=["things"]) rfl rfl rfl (by decide +kernel) rfl rfl (by
   intro q hq;rw[aiJ.mp hq];rfl)
 have G:=Gs.g;have lz:=Ht G;have lg:=gn.len G;obtain⟨t0,e0,n0,sm0⟩:=NV G gn;refine⟨_,rfl,_,rfl,1,rfl,by show 1≤sizeLine;decide,λl0 hl0=>?_⟩;have u1:=aE.upd (o:=.lst [V.int (-1)]) hl0;refine⟨g,l0,_,_,rfl,rfl,SqL.of (u1 _ _ hg),SqL.of (hX u1),kf (by rw[aiI,ajl];omega),λl1 hl1=>?_⟩;have u2:=aE.upd (o:=.lst (gs.map V.int++[V.int (-1)])) hl1;refine⟨l1,_,0,.int t0,rfl,rfl,SqL.of (hX u2),pK (j:=0) e0,?_⟩;have J0:=(J.same u1).same u2;refine⟨x,A,s,t0,rfl,J0,G,sm0,n0,λH1 s1=>⟨true,rfl,gS ?_⟩⟩;have J1:=J0.same s1;refine⟨_,rfl,_,rfl,x,_,_,rfl,J1.ax,(by kernel_rfl),x,A,s,rfl,J1,G,x,A,s,s.nxt,rfl,J1,G,K5 G (by have:=G.n0;omega) (ajj _),(λm=>by have:=K4 G m;omega),λH2 s2=>⟨true,rfl,gS ?_⟩⟩;have J2:=J1.same s2;have hg2:=s2 _ _ (s1 _ _ (u2 _ _ (u1 _ _ hg)));have S2:=((u1.trans u2).trans s1).trans s2;clear u1 u2 s1 s2 J0 J1 e0;refine⟨_,rfl,x,_,_,rfl,J2.ax,(by kernel_rfl),x,A,s,rfl,J2,G,λp1 H3 s3 hp1 z1=>?_⟩;have J3:=J2.same s3;refine⟨_,rfl,_,rfl,x,_,_,rfl,J3.ax,(by kernel_rfl),x,A,s,rfl,J3,G,λq2 H4 s4 _ y2=>⟨q2,A.hx,s.aT,rfl,y2,(J3.same s4).rhl,by rw[G.h8];decide,λq3 H5 s5 _ y3=>?_⟩⟩;have J5:=(J3.same s4).same s5;have hts:(thW s.aT).length≤8:=by have:=Ft s.aT;rw[G.h8]at this;exact this
 refine⟨_,rfl,x,A,s,q3,thW s.aT,p1,keys s,rfl,J5,G,y3,s5 _ _ (s4 _ _ z1),(λt m=>m),d8 G.asc,by omega,λp2 ms H6 s6 _ z2 asc2 m2=>?_⟩;have J6:=J5.same s6;have z16:=s6 _ _ (s5 _ _ (s4 _ _ z1));have hg6:=s6 _ _ (s5 _ _ (s4 _ _ (s3 _ _ hg2)));have S6:=(((S2.trans s3).trans s4).trans s5).trans s6;clear s3 s4 s5 s6 y2 y3 J2 J3 J5 S2 hg2;refine⟨_,rfl,x,_,_,rfl,J6.ax,(by kernel_rfl),x,A,s,rfl,J6,G,λq4 H7 s7 _ y4=>⟨q4,A.hx,s.aT,rfl,y4,(J6.same s7).rhl,by rw[G.h8];decide,λq5 H8 s8 _ y5=>?_⟩⟩;have z14:=s8 _ _ (s7 _ _ z16);refine⟨q5,rfl,⟨_,SqL.of y5⟩,λL hL=>?_⟩;refine jd (K:=K) (a:=q5) (xs:=(thW s.aT).map V.int) (λi ys Hc=>ys=[]∧aE H8 Hc∧Hc L=some (.lst ys)) ⟨rfl,aE.upd hL,ah⟩ (λi ys Hc _ ⟨e,_,z⟩=>⟨z,by rw[e];exact ajk _⟩) (λi ys Hc _ ⟨_,sc,_⟩=>SqL.of (sc _ _ y5)) (by rw[aiI];exact kf (by omega)) (λi v ys Hc hi ⟨e,sc,z⟩=>?_) (λys Hc ⟨e,sc,z⟩=>?_)
 ·rw[aiW]at hi
  obtain⟨t,ht,rfl⟩:=aiZ.mp hi;have mt:=aiU ht;clear hi ht;refine⟨_,rfl,_,rfl,p1,_,rfl,.inl (SqL.of (sc _ _ z14)),rfl,gK (keys s),_,rfl,?_⟩;show if(!inV (.int t) ((keys s).map V.int))=true then _ else _;rw[zC,decide_eq_true (mem_keys.mpr (G.hh t (xw.mp mt)))];exact gS ⟨e,sc,z⟩
 subst e;refine⟨_,.inl ⟨_,SqL.of z,rfl⟩,gS ?_⟩;have Ja:=((J6.same s7).same s8).same sc;have za:=sc _ _ z14;have z2a:=sc _ _ (s8 _ _ (s7 _ _ z2));have hga:=sc _ _ (s8 _ _ (s7 _ _ hg6));have Sa:=((S6.trans s7).trans s8).trans sc;clear s7 s8 sc y4 y5 z z14 z16 z2 hg6 S6 J6 hL;refine⟨_,rfl,p1,rfl,⟨_,SqL.of za⟩,BU (K:=K) (a:=p1) (xs:=(keys s).map V.int) (λi σ Hx=>∃ v4,σ=[some (.ref x),some (.ref g),some (.ref p1),some (.ref p2),v4]∧aE Hc Hx) ⟨none,rfl,aE.refl _⟩ (λi σ Hx _ ⟨_,_,sx⟩=>SqL.of (sx _ _ za)) ?_ ?_⟩
 ·rintro i v σ Hx hi ⟨v4,rfl,sx⟩
  rw[aiW]at hi;obtain⟨u,hu,rfl⟩:=aiZ.mp hi;have mu:=aiU hu;obtain⟨ws,mw⟩:=mem_keys.mp mu;have Jx:=Ja.same sx;have f6:=G.f6 _ _ mw;have fm:=G.fld mw;have lt:=G.lt _ _ mw;refine⟨_,rfl,x,_,_,rfl,Jx.ax,(by kernel_rfl),_,rfl,x,A,s,u,rfl,Jx,G,K5 G (by omega) (by omega),λ_ q4 H7 s7 _ y4=>⟨q4,A.fx u,ws,rfl,y4,((Jx.same s7).afl _ _ mw).2,by omega,λq5 H8 s8 _ y5=>?_⟩,λh=>absurd mu h⟩;have z14:=s8 _ _ (s7 _ _ (sx _ _ za));have lw:=Ft ws;refine⟨q5,rfl,⟨_,SqL.of y5⟩,λL hL=>?_⟩;refine jd (K:=K) (a:=q5) (xs:=(thW ws).map V.int) (λi ys Hc=>ys=[]∧aE H8 Hc∧Hc L=some (.lst ys)) ⟨rfl,aE.upd hL,ah⟩ (λi ys Hc _ ⟨e,_,z⟩=>⟨z,by rw[e];exact ajk _⟩) (λi ys Hc _ ⟨_,sc,_⟩=>SqL.of (sc _ _ y5)) (by rw[aiI];exact kf (by omega)) (λi v ys Hc hi ⟨e,sc,z⟩=>?_) (λys Hc ⟨e,sc,z⟩=>?_)
  ·rw[aiW]at hi
   obtain⟨t,ht,rfl⟩:=aiZ.mp hi;have mt:=aiU ht;clear hi ht;refine⟨_,rfl,_,rfl,p1,_,rfl,.inl (SqL.of (sc _ _ z14)),rfl,gK (keys s),_,rfl,?_⟩;show if(!inV (.int t) ((keys s).map V.int))=true then _ else _;rw[zC,decide_eq_true (mem_keys.mpr (G.ff _ _ t mw (xw.mp mt)))];exact gS ⟨e,sc,z⟩
  subst e;refine⟨_,.inl ⟨_,SqL.of z,rfl⟩,gS ?_⟩;exact⟨_,rfl,((sx.trans s7).trans s8).trans sc⟩
 ·rintro σ Hx ⟨v4,rfl,sx⟩
  have Jb:=Ja.same sx;refine⟨_,rfl,x,_,_,rfl,Jb.ax,(by kernel_rfl),x,A,s,rfl,Jb,G,λq4 H7 s7 _ y4=>?_⟩;have z14:=s7 _ _ (sx _ _ za);refine⟨q4,rfl,⟨_,SqL.of y4⟩,λL hL=>?_⟩;refine jd (K:=K) (a:=q4) (xs:=s.names.map nmV) (λi ys Hc=>ys=[]∧aE H7 Hc∧Hc L=some (.lst ys)) ⟨rfl,aE.upd hL,ah⟩ (λi ys Hc _ ⟨e,_,z⟩=>⟨z,by rw[e];exact ajk _⟩) (λi ys Hc _ ⟨_,sc,_⟩=>SqL.of (sc _ _ y4)) (by rw[aiI];exact kf (by rw[G.n8];omega)) (λi v ys Hc hi ⟨e,sc,z⟩=>?_) (λys Hc ⟨e,sc,z⟩=>?_)
  ·rw[aiW]at hi
   obtain⟨t,ht,rfl⟩:=aiZ.mp hi;have mt:=aiU ht;clear hi ht;cases t with
   | none=>exact⟨_,rfl,rfl,_,rfl,gS (gS ⟨e,sc,z⟩)⟩
   | some t =>
    refine⟨_,rfl,rfl,_,rfl,sL ⟨_,rfl,_,rfl,p1,_,rfl,.inl (SqL.of (sc _ _ z14)),rfl,gK (keys s),_,rfl,?_⟩⟩;show if(!inV (.int t) ((keys s).map V.int))=true then _ else _;rw[zC,decide_eq_true (mem_keys.mpr (G.nn t mt))];exact gS ⟨e,sc,z⟩
  subst e;refine⟨_,.inl ⟨_,SqL.of z,rfl⟩,gS ?_⟩;have zb:=sc _ _ z14;have z2b:=sc _ _ (s7 _ _ (sx _ _ z2a));have hgb:=sc _ _ (s7 _ _ (sx _ _ hga));have Jc:=(Jb.same s7).same sc;have Sb:=((Sa.trans sx).trans s7).trans sc;obtain⟨Hb,eb⟩:∃ Hb,Hc=Hb:=⟨_,rfl⟩;clear s7 y4 z14 hL;refine⟨_,rfl,g,rfl,⟨_,SqL.of hgb⟩,λL2 hL2=>?_⟩;refine jd (K:=K) (a:=g) (xs:=gs.map V.int) (λi ys Hc=>ys=[]∧aE _ Hc∧Hc L2=some (.lst ys)) ⟨rfl,aE.upd hL2,ah⟩ (λi ys Hc _ ⟨e,_,z⟩=>⟨z,by rw[e];exact ajk _⟩) (λi ys Hc _ ⟨_,sc,_⟩=>SqL.of (sc _ _ hgb)) (by rw[aiI];exact kf (by omega)) (λi v ys Hd hi ⟨e,sc,z⟩=>?_) (λys Hd ⟨e,sc,z⟩=>?_)
  ·rw[aiW]at hi
   obtain⟨t,ht,rfl⟩:=aiZ.mp hi;have mt:=aiU ht;clear hi ht;refine⟨_,rfl,_,rfl,p1,_,rfl,.inl (SqL.of (sc _ _ zb)),rfl,gK (keys s),_,rfl,?_⟩;show if(inV (.int t) ((keys s).map V.int))=true then _ else _;rw[zC,decide_eq_false ((gn.mem t).mp mt).2.2];exact gS ⟨e,sc,z⟩
  subst e;refine⟨_,.inl ⟨_,SqL.of z,rfl⟩,gS ?_⟩;have Jd:=Jc.same sc;have zd:=sc _ _ zb;have z2d:=sc _ _ z2b;have hgd:=sc _ _ hgb;have Sd:=Sb.trans sc;refine⟨_,rfl,x,_,_,rfl,Jd.ax,(by kernel_rfl),x,A,s,rfl,Jd,G,λq6 H9 s9 _ y6=>?_⟩;have z19:=s9 _ _ zd;have z29:=s9 _ _ z2d;refine⟨q6,rfl,⟨_,SqL.of y6⟩,λL3 hL3=>?_⟩;refine jd (K:=K) (a:=q6) (xs:=s.bF.map V.int) (λi ys Hc=>ys=[]∧aE H9 Hc∧Hc L3=some (.lst ys)) ⟨rfl,aE.upd hL3,ah⟩ (λi ys Hc _ ⟨e,_,z⟩=>⟨z,by rw[e];exact ajk _⟩) (λi ys Hc _ ⟨_,sc,_⟩=>SqL.of (sc _ _ y6)) (by rw[aiI];exact kf (by have:=GR G;omega)) (λi v ys He hi ⟨e,sc,z⟩=>?_) (λys He ⟨e,sc,z⟩=>?_)
  ·rw[aiW]at hi
   obtain⟨t,ht,rfl⟩:=aiZ.mp hi;have mt:=aiU ht;clear hi ht;obtain⟨ws,mw⟩:=G.dk t mt;refine⟨_,rfl,_,rfl,p1,_,rfl,.inl (SqL.of (sc _ _ z19)),rfl,gK (keys s),_,rfl,?_⟩;show if(!inV (.int t) ((keys s).map V.int))=true then _ else _;rw[zC,decide_eq_true (mem_keys.mpr ⟨ws,mw⟩)];refine gS ⟨_,rfl,_,rfl,p2,_,rfl,.inl (SqL.of (sc _ _ z29)),rfl,gK ms,_,rfl,?_⟩;show if(inV (.int t) (ms.map V.int))=true then _ else _;rw[zC,decide_eq_false (λm=>Hu Gs (OR.mp ((m2 t).mp m)) (λ_ h=>h) mt)];exact gS ⟨e,sc,z⟩
  subst e;refine⟨_,.inl ⟨_,SqL.of z,rfl⟩,gS ?_⟩;have Je:=(Jd.same s9).same sc;have ze:=sc _ _ z19;have hge:=sc _ _ (s9 _ _ hgd);have Se:=(Sd.trans s9).trans sc;have kl:(keys s).length≤20000:=by omega
  refine⟨_,rfl,_,rfl,p1,keys s,rfl,SqL.of ze,kl,d8 G.asc,λl us hl pm srt=>?_⟩;have eu:us=keys s:=KH (mZ srt (pm.nodup_iff.mpr (d8 G.asc))) G.asc λt=>pm.mem_iff;subst eu;have v1:=aE.upd (o:=.lst ((keys s).map V.int)) hl;refine⟨_,_,xt (v1 _ _ ze),xt (hX v1),_,rfl,sT (UR (hX v1)) ?_⟩;refine⟨_,rfl,_,rfl,p1,g,_,_,rfl,rfl,SqL.of (v1 _ _ ze),SqL.of (v1 _ _ hge),kf (by rw[aiI,aiI];omega),λl5 hl5=>?_⟩;have ap:(keys s).map V.int++gs.map V.int=(keys s++gs).map V.int:=by rw[ai3]
  rw[ap];have v2:=aE.upd (o:=.lst ((keys s++gs).map V.int)) hl5;have nd:(keys s++gs).Nodup:=ajQ.mpr ⟨d8 G.asc,d8 gn.asc,λa ma b mb e=>((gn.mem b).mp mb).2.2 (by rw[←e];exact ma)⟩;refine⟨l5,keys s++gs,rfl,SqL.of (hX v2),by rw[aiR];omega,nd,λl6 us hl6 pm6 srt6=>?_⟩;have v3:=aE.upd (o:=.lst (us.map V.int)) hl6;have eu:us=zup s.nxt:=by
   refine KH (mZ srt6 (pm6.nodup_iff.mpr nd)) U6 λt=>?_;rw[pm6.mem_iff,aiS,gn.mem t,PV];constructor
   ·rintro(m|⟨a,b,_⟩)
    ·exact K4 G m
    ·exact⟨a,b⟩
   ·rintro⟨a,b⟩
    by_cases m:t∈keys s
    ·exact .inl m
    ·exact .inr ⟨a,b,m⟩
  subst eu;have Jf:=((Je.same v1).same v2).same v3;have nx:=G.nx;refine⟨_,rfl,x,_,_,rfl,Jf.ax,(by kernel_rfl),x,A,s,rfl,Jf,G,s.nxt,rfl,λr hr7=>?_⟩;have v4:=aE.upd (o:=.rng 0 s.nxt) hr7;refine⟨r,s.nxt,rfl,hX v4,G.n0,by omega,λl8 hl8=>?_⟩;have v5:=aE.upd (o:=.lst ((zup s.nxt).map V.int)) hl8;have ra:=xt (v5 _ _ (v4 _ _ (hX v3)));have rb:=xt (hX v5);refine⟨_,_,ra,rb,?_⟩;rw[BZ ra ra];exact k _ (((((Se.trans v1).trans v2).trans v3).trans v4).trans v5)
theorem P8{s s':HS}{gs:List Int}(g:Good s)(e:s'.aN=drG s.aN gs){t:Int}(m:t∉gs)(k:t∈keys s):fld s' t=fld s t:=by
 obtain⟨ws,mw⟩:=mem_keys.mp k;have e2:s'.aN.lookup t=some ws:=by rw[e];exact mem_lookup (d8 (ajS (akH _ ajI) g.asc)) (hW.mpr ⟨mw,m⟩)
 rw[g.fld mw];unfold fld;rw[e2];rfl
theorem NW{α:Type}{fs:List (Int×α)}{t u:Int}{w:α}(h:u≠t):(fs++[(t,w)]).lookup u=fs.lookup u:=by
 induction fs with
 | nil=>show List.lookup u [(t,w)]=none;rw[ajn,beq_eq_false_iff_ne.mpr h];rfl
 | cons p r ih =>
  obtain⟨a,b⟩:=p;rw[List.cons_append,ajn,ajn,ih]
theorem LM{fs:List (Int×List Wd)}{t u:Int}{ws:List Wd}(h:u≠t):(pZ fs t ws).lookup u=fs.lookup u:=by
 induction fs with
 | nil=>rfl
 | cons p r ih =>
  obtain⟨a,b⟩:=p;show List.lookup u ((if a=t then(t,ws) else(a,b))::pZ r t ws)=_;by_cases c:a=t
  ·rw[if_pos c,ajn,ajn,ih,c,beq_eq_false_iff_ne.mpr h]
  ·rw[if_neg c,ajn,ajn,ih]
noncomputable def KN:Dd→Bool
 | .turn=>true
 | _=>false
theorem P9{s:HS}{n:Int}:(mkR s n).bF=s.bF:=by unfold mkR;split<;>rfl
theorem Tg{s:HS}(d:Gd s){n t:Int}(m:t∈s.bF):fld (mkR s n) t=fld s t∧t∈keys (mkR s n):=by
 obtain⟨ws,mw⟩:=d.g.dk t m;unfold mkR;split
 ·have ng:t∉i8 s:=λz=>d.dy t m (gf.mp z).1
  exact⟨P8 (gs:=i8 s) d.g rfl ng (mem_keys.mpr ⟨ws,mw⟩),mem_keys.mpr ⟨ws,hW.mpr ⟨mw,ng⟩⟩⟩
 ·exact⟨rfl,mem_keys.mpr ⟨ws,mw⟩⟩
theorem QU{s:HS}(d:Gd s){dd:Dd}(nt:KN dd=false){t:Int}(m:t∈(dDo s dd).2.bF):t∈s.bF∧fld (dDo s dd).2 t=fld s t:=by
 cases dd with
 | make h n =>
  revert m;show t∈(jM s h n).2.bF→_∧fld (jM s h n).2 t=_;unfold jM;split
  ·split
   ·split
    ·intro m
     have m:t∈(mkR s n).bF:=m;rw[P9]at m;exact⟨m,(Tg d m).1⟩
    ·intro m
     have m:t∈(mkR s n).bF:=m;rw[P9]at m;obtain⟨f1,f2⟩:=Tg (n:=n) d m;refine⟨m,Eq.trans ?_ f1⟩;obtain⟨ws,mw⟩:=mem_keys.mp f2;have lt:=(d.mkd.g.lt _ _ mw).2;show(((mkR s n).aN++[((mkR s n).nxt,List.replicate n.toNat Wd.no)]).lookup t).getD []=_;rw[NW (by omega)];rfl
   ·exact λm=>⟨m,rfl⟩
  ·exact λm=>⟨m,rfl⟩
 | store g k h =>
  revert m;show t∈(gk s g k h).2.bF→_∧fld (gk s g k h).2 t=_;unfold gk;split
  ·rename_i u e
   split
   ·split
    ·intro m
     have m:t∈s.bF:=m;have ne:t≠u:=λz=>(d.hnd e u rfl).2 (by rw[←z];exact m);refine⟨m,?_⟩;show((pZ s.aN u _).lookup t).getD []=_;rw[LM ne];rfl
    ·exact λm=>⟨m,rfl⟩
   ·exact λm=>⟨m,rfl⟩
  ·exact λm=>⟨m,rfl⟩
 | load h g k =>
  revert m;show t∈(jO s h g k).2.bF→_∧fld (jO s h g k).2 t=_;unfold jO;split
  ·split
   ·split<;>exact λm=>⟨m,rfl⟩
   ·exact λm=>⟨m,rfl⟩
  ·exact λm=>⟨m,rfl⟩
 | copy h g =>
  revert m;show t∈(oe s h g).2.bF→_∧fld (oe s h g).2 t=_;unfold oe;split
  ·split<;>exact λm=>⟨m,rfl⟩
  ·exact λm=>⟨m,rfl⟩
 | drop h =>
  revert m;show t∈(qv s h).2.bF→_∧fld (qv s h).2 t=_;unfold qv;split<;>exact λm=>⟨m,rfl⟩
 | number h x =>
  revert m;show t∈(gF s h x).2.bF→_∧fld (gF s h x).2 t=_;unfold gF;split
  ·split<;>exact λm=>⟨m,rfl⟩
  ·exact λm=>⟨m,rfl⟩
 | name w h =>
  revert m;show t∈(kX s w h).2.bF→_∧fld (kX s w h).2 t=_;unfold kX;split
  ·split<;>exact λm=>⟨m,rfl⟩
  ·exact λm=>⟨m,rfl⟩
 | read h w =>
  revert m;show t∈(ju s h w).2.bF→_∧fld (ju s h w).2 t=_;unfold ju;split
  ·split
   ·unfold rdR
    split
    ·split
     ·intro m
      exact⟨(pH.mp m).1,rfl⟩
     ·exact λm=>⟨m,rfl⟩
    ·exact λm=>⟨m,rfl⟩
   ·exact λm=>⟨m,rfl⟩
  ·exact λm=>⟨m,rfl⟩
 | word h x =>
  revert m;show t∈(jP s h x).2.bF→_∧fld (jP s h x).2 t=_;unfold jP;split
  ·split
   ·split<;>exact λm=>⟨m,rfl⟩
   ·exact λm=>⟨m,rfl⟩
  ·exact λm=>⟨m,rfl⟩
 | small =>
  have m:t∈s.bF:=m;obtain⟨ws,mw⟩:=d.g.dk t m;exact⟨m,P8 (gs:=i8 s) d.g rfl (λz=>d.dy t m (gf.mp z).1) (mem_keys.mpr ⟨ws,mw⟩)⟩
 | turn=>cases nt
noncomputable def nmD:Dd→Str
 | .make .. => "make"
 | .store .. => "store"
 | .load .. => "load"
 | .copy .. => "copy"
 | .drop .. => "drop"
 | .number .. => "number"
 | .name .. => "name"
 | .read .. => "read"
 | .word .. => "word"
 | .small => "small"
 | .turn => "turn"
theorem WR(dd:Dd):∃ r,Dd.its dd=.str (nmD dd)::r:=by cases dd<;>exact⟨_,rfl⟩
theorem Qa(dd:Dd):decide (V.str (nmD dd)=V.str "turn")=KN dd:=by
 cases dd<;>kernel_rfl
theorem Sh(dd:Dd):(!inV (V.str (nmD dd)) [.str "turn",.str "small",.str "make"])=quiet dd:=by
 cases dd<;>kernel_rfl
theorem Qb{dd:Dd}(h:KN dd=true):dd=.turn:=by cases dd<;>first|rfl|cases h
structure Kl(D:Ad)(H:Hp)(x:Addr)(A:HA)(s:HS)(gl:Addr)(gs:List Int)(al:Addr)(as:List Int)(ld:Addr)(dv:List V)(i:Nat):Prop where
 j:IH D H x A s
 g:Gd s
 n:s.nxt≤i
 gn:Gn s gs
 hg:H gl=some (.lst (gs.map V.int))
 ng:¬bR x A s gl
 ha:H al=some (.lst (as.map V.int))
 na:¬bR x A s al
 hb:∀ t∈as,t∉s.bF
 d:H ld=some (.lst dv)
 dx:¬bR x A s ld
 ds:∀ v∈dv,∃ q dd,v=.ref q∧H q=some (.tup (Dd.its dd))∧dd.ok
theorem Kl.same{D:Ad}{H H':Hp}{x:Addr}{A:HA}{s:HS}{gl al ld:Addr}{gs as:List Int}{dv:List V}{i:Nat}(t:Kl D H x A s gl gs al as ld dv i)(k:aE H H'):Kl D H' x A s gl gs al as ld dv i :=
 ⟨t.j.same k,t.g,t.n,t.gn,k _ _ t.hg,t.ng,k _ _ t.ha,t.na,t.hb,k _ _ t.d,t.dx,λv m=>by obtain⟨q,dd,e,h,ok⟩:=t.ds v m;exact⟨q,dd,e,k _ _ h,ok⟩⟩
theorem U7{s s':HS}:((keys s).filter λt=>decide (t∉keys s')).length≤(keys s).length:=ajA _ _
theorem WS{s s':HS}(h:keys s'=keys s):((keys s).filter λt=>decide (t∉keys s'))=[]:=by
 rw[h,List.filter_eq_nil_iff];intro t m;simp[m]
theorem Si{s:HS}{t:Int}(m:t∈(keys s).filter λt=>decide (t∉keys (Pp s))):t∈s.bF:=by
 obtain⟨a,b⟩:=ajs.mp m;have b:=of_decide_eq_true b;obtain⟨ws,mw⟩:=mem_keys.mp a;exact ajW λz=>b (mem_keys.mpr ⟨ws,hW.mpr ⟨mw,z⟩⟩)
theorem Th{s:HS}(h:s.rnd=true):(dDo s .turn).2=Pp s:=by
 show(sU s).2=_;unfold sU;rw[if_pos h,show Pq s=(none,Pp s) from if_pos h]
theorem WT{s:HS}(h:s.rnd=false):(dDo s .turn).2=Po (kg s):=by
 have h:¬s.rnd=true:=by rw[h];decide
 show(sU s).2=_;unfold sU;rw[if_neg h,show xo s=(none,Po (kg s)) from if_neg h]
noncomputable abbrev G6:List Str:=["script", "heap", "gone", "atbegin", "deed", "things", "come_to", "ending", "held", "lost"]
theorem pI:aw G6 ["script"] (ar i7):=fsc
theorem WU(F:Fun K "law" "law" i7 D.wW D.Nv)(T:Txt K mg D)
  (vw:Ok P w K mg base 6 D.gI D.mW ["script"] (Pw D K))
  (sI:Ok P w K mg base 3 D.cJ D.k8 ["script", "most"] (MT K))
  (de:Ok P w K mg base 1 D.bM D.en ["self"] (zA D))
  (ka:Ok P w K mg base 6 D.gQ D.mC ["heap", "starts", "some"] (KL D))
  (cB:Ok P w K mg base 1 D.cX D.gM ["values"] (sW))
  (cQ:Ok P w K mg base 2 D.b8 D.eU ["self"] (D9 D))
  (ck:Ok P w K mg base 1 D.br D.dq ["self"] (OM D))
  (vx:Ok P w K mg base 10 D.gH D.mV ["hall", "deed"] (Pu D))
  (jE:Ok P w K mg base 7 D.bB D.e7 ["heap", "gone"] (Tf D)):Ok P w K mg base 12 D.wW D.Nv ["script"] (Rj K):=by
 refine F.oa pI F.b1 λcdv A' outer s' H vs Q E hr h=>?_;obtain⟨a,ns,rfl,hS,hlen,k⟩:=h;have S0:PS (cxE P w K mg base G6 "law" (ar i7) D.wW cdv A' outer s' H E).nox ((bo i7).getD 0 (.Pass ⟨0,0,0,0⟩)) _:=(bp (i:=1) pI.nd rfl (Or.inl rfl) (vw.c hr T.Lx T.vj dS (ae (pv 0) aq)));have S1:PS (cxE P w K mg base G6 "law" (ar i7) D.wW cdv A' outer s' H E).nox ((bo i7).getD 1 (.Pass ⟨0,0,0,0⟩)) _:=(bp (i:=2) pI.nd rfl (Or.inl rfl) (ke aq));have S2:PS (cxE P w K mg base G6 "law" (ar i7) D.wW cdv A' outer s' H E).nox ((bo i7).getD 2 (.Pass ⟨0,0,0,0⟩)) _:=(bp (i:=3) pI.nd rfl (Or.inr rfl) (ke aq));have S3:PS (cxE P w K mg base G6 "law" (ar i7) D.wW cdv A' outer s' H E).nox ((bo i7).getD 3 (.Pass ⟨0,0,0,0⟩)) _:=(nK ajo rfl (iw (sI.c hr T.Jw T.so dS (ae (pv 0) (ae av aq)))) (gb (i:=4) pI.nd rfl (Or.inl rfl))
   (ak (bp (i:=5) pI.nd rfl (Or.inl rfl) (de.m0 hr (pv 1) T.ab T.jA dS))
   (ak (bp (i:=6) pI.nd rfl (Or.inr rfl) (ka.c hr T.zu T.pL dS (ae (pv 1) (ae (cB.c hr T.iS T.fI dS (ae (cQ.m0 hr (pv 1) T.ab T.iq dS) aq)) (ae (pv 5) aq)))))
   (ak (bp (i:=7) pI.nd rfl (Or.inl rfl) (So (Gy nM (cg bY (pv 4) av (λ_ _=>rfl)) bh (bN _)) (Sn (ck.m0 hr (pv 1) T.ab T.iO dS))))
   (ak (aG (vx.c hr T.Lw T.vi dS (ae (pv 1) (ae (pv 4) aq))))
   (ak (bp (i:=8) pI.nd rfl (Or.inr rfl) (de.m0 hr (pv 1) T.ab T.jA dS))
   (ak (Mu (cl:=[("held",s'.heap.objs.size+3)]) (x := "t") (idx:=[8]) (NC:=["t", "held"]) (i:=9) pI.nd rfl rfl (by exact jc (sc:=ar i7) (N:=G6) (ns:=["held"]) rfl rfl rfl (by decide +kernel) rfl rfl (by intro q hq;rw[aiJ.mp hq];rfl)) rfl (iw (pv 5)) (λC fp s₀ H₀=>(aJ (r:=rIn K true) iE (pv 0) (pv 1) (by with_unfolding_all rfl))) (λC fp s₀ H₀=>(pv 0)))
   (ak (cj (PW.pt (pw_and (aJ nM (cg bY (pv 4) av (λ_ _=>rfl)) bh (bN _)) (pw_and1 (pA (ck.m0 hr (pv 1) T.ab T.iO dS)))))
    (ai (bp (i:=3) pI.nd rfl (Or.inr rfl) (ka.c hr T.zu T.pL dS (ae (pv 1) (ae (cB.c hr T.iS T.fI dS (ae (cQ.m0 hr (pv 1) T.ab T.iq dS) aq)) (ae (pv 8) aq))))))
    aU)
   (ak (cj (PW.pt (pw_and (pA (pv 7)) (pw_and1 (nA (pS (cl:=[("come_to",s'.heap.objs.size+2),("atbegin",s'.heap.objs.size+1)]) (x := "t") (idx:=[3,6]) (NC:=["t", "atbegin", "come_to"]) (by exact jc (sc:=ar i7) (N:=G6) (ns:=["come_to", "atbegin"]) rfl rfl rfl (by decide +kernel) rfl rfl (by intro q hq;rcases aiY.mp hq with rfl|hq;(·rfl);rw[aiJ.mp hq];rfl)) rfl (iw (pv 9)) (λC fp s₀ H₀=>(PW.pt (pw_or (aJ (r:=rIn K false) mK (pv 0) (pv 2) (by with_unfolding_all rfl)) (pw_or1 (aJ (r:=rIn K false) mK (pv 0) (pv 1) (by with_unfolding_all rfl)))))) (λC fp s₀ H₀=>(pv 0))) (by intro _;rfl)))))
    (ai (aM pJ))
    aU)
   (ak (cj (PW.pt (pw_and (aJ iE (cg bY (pv 4) av (λ_ _=>rfl)) (iu (ae bh (ae bh (ae bh aq)))) (by with_unfolding_all rfl)) (pw_and1 (nA (pv 9) (by intro _;rfl)))))
    (ai (aM pJ))
    aU)
   (ak (bp (i:=2) pI.nd rfl (Or.inl rfl) (eh sV rfl T.lE PyProof.Rows.Boot.«sorted» (ae (eE Cm (pv 2) (pv 9)) aq)))
   (ai (cj (pB (pA (jE.c hr T.vG T.jB dS (ae (pv 1) (ae (pv 2) aq)))))
    (ai (aM pJ))
    aU)))))))))))))
 have S4:PS (cxE P w K mg base G6 "law" (ar i7) D.wW cdv A' outer s' H E).nox ((bo i7).getD 4 (.Pass ⟨0,0,0,0⟩)) _:=(aM pJ);have hb:bo i7=[(bo i7).getD 0 (.Pass ⟨0,0,0,0⟩),(bo i7).getD 1 (.Pass ⟨0,0,0,0⟩),(bo i7).getD 2 (.Pass ⟨0,0,0,0⟩),(bo i7).getD 3 (.Pass ⟨0,0,0,0⟩),(bo i7).getD 4 (.Pass ⟨0,0,0,0⟩)]:=rfl;generalize (bo i7).getD 0 (.Pass ⟨0,0,0,0⟩)=st0 at S0 hb;generalize (bo i7).getD 1 (.Pass ⟨0,0,0,0⟩)=st1 at S1 hb;generalize (bo i7).getD 2 (.Pass ⟨0,0,0,0⟩)=st2 at S2 hb;generalize (bo i7).getD 3 (.Pass ⟨0,0,0,0⟩)=st3 at S3 hb;generalize (bo i7).getD 4 (.Pass ⟨0,0,0,0⟩)=st4 at S4 hb;generalize bo i7=bd at hb ⊢;subst hb;refine⟨_,(PSs.nox (ak S0 (ak S1 (ak S2 (ak S3 (ai S4)))))),?_⟩;refine⟨_,rfl,a,ns,rfl,hS,λx A room limit H1 s1 F0 J0 _=>?_⟩;refine⟨by show 0≤sizeLine;decide,λgl hgl=>?_⟩;have s2:=aE.upd (o:=.lst ([]:List V)) hgl;refine⟨by show 0≤sizeLine;decide,λal hal=>?_⟩;have s3:=aE.upd (o:=.lst ([]:List V)) hal;refine⟨_,rfl,a,ns,120,rfl,((s1.trans s2).trans s3).seq hS,hlen,λld dv HF sF hld zld ldv zds=>?_⟩;have Z0:Kl D HF x A (s0 (decide (room>0)) room limit) gl [] al [] ld dv 0 :=
  ⟨((J0.same s2).same s3).same sF,gd0,(by show(0:Int)≤((0:Nat):Int);decide),⟨.nil,λt=>⟨(λm=>nomatch m),(λ⟨h1,h2,_⟩=>by have h2:t<0:=h2;omega)⟩⟩,sF _ _ (s3 _ _ (hX s2)),J0.fresh hgl,sF _ _ (hX s3),(J0.same s2).fresh hal,(λt m=>nomatch m),zld,((J0.same s2).same s3).fresh hld,zds⟩
 refine⟨ld,rfl,⟨_,SqL.of zld⟩,BU (K:=K) (a:=ld) (xs:=dv) (λi σ Hx=>∃ A s gl gs al as v4 v5 v6 v7 v8 v9,σ=[some (.ref a),some (.ref x),some (.ref gl),some (.ref al),v4,v5,v6,v7,v8,v9]∧Kl D Hx x A s gl gs al as ld dv i)
  ⟨A,_,gl,[],al,[],none,none,none,none,none,none,rfl,Z0⟩ (λi σ Hx _ ⟨_,_,_,_,_,_,_,_,_,_,_,_,_,Z⟩=>SqL.of Z.d) ?_ ?_⟩
 ·rintro i v σ Hx hi ⟨A,s,gl,gs,al,as,v4,v5,v6,v7,v8,v9,rfl,Z⟩
  have hil:i<dv.length:=(aiM.mp hi).1;have aiH:dv.length≤123:=ldv.2 (by decide);obtain⟨q,dd,rfl,hq,ok⟩:=Z.ds v (aiU hi);have Zn:=Z.n;have G:=Z.g.g;have few:s.nxt<10000:=by omega
  have lz:=Ht G;obtain⟨rr,er⟩:=WR dd;obtain⟨g3,n3,n4⟩:=ZF Z.g few ok;have kd:=ZJ (s:=s) (dd:=dd);clear hi;simp only[qo];refine gE λN1 hN1=>⟨_,rfl,x,_,_,rfl,Z.j.ax,(by kernel_rfl),x,A,s,rfl,Z.j,G,λp1 H1 s1 hp1 z1=>hN1 _ _ ?_⟩;have Z1:=Z.same s1;have f1:¬bR x A s p1:=Z.j.fresh hp1;refine gE λN2 hN2=>⟨_,rfl,_,rfl,x,_,_,rfl,Z1.j.ax,(by kernel_rfl),x,A,s,rfl,Z1.j,G,λq2 H2 s2 _ y2=>⟨q2,A.hx,s.aT,rfl,y2,(Z1.j.same s2).rhl,by rw[G.h8];decide,λq3 H3 s3 _ y3=>?_⟩⟩;have J3:=(Z1.j.same s2).same s3;have hts:(thW s.aT).length≤8:=by have:=Ft s.aT;rw[G.h8]at this;exact this
  refine⟨_,rfl,x,A,s,q3,thW s.aT,p1,keys s,rfl,J3,G,y3,s3 _ _ (s2 _ _ z1),(λt m=>m),d8 G.asc,by omega,λp2 ms H4 s4 hp2 z2 _ m2=>hN2 _ _ ?_⟩;have Z4:=((Z1.same s2).same s3).same s4;have f2:¬bR x A s p2:=J3.fresh hp2;have z14:=s4 _ _ (s3 _ _ (s2 _ _ z1));have hq4:H4 q=some (.tup (.str (nmD dd)::rr)):=by rw[←er];exact s4 _ _ (s3 _ _ (s2 _ _ (s1 _ _ hq)))
  clear y2 y3 s1 s2 s3 s4 z1 Z1 J3 hp1 hp2 hq hts;refine gE λN3 hN3=>?_;have go3:N3 [some (.ref a),some (.ref x),some (.ref gl),some (.ref al),some (.ref q),some (.ref p1),some (.ref p2),some (.bl (KN dd&&s.rnd)),v8,v9] H4:=by
   refine hN3 _ _ ?_;refine gE λN4 hN4=>⟨_,rfl,_,rfl,x,A,s,q,dd,rfl,Z4.j,Z4.g,few,by rw[er];exact hq4,ok,λA' H5 J5 fr=>hN4 _ _ ?_⟩;obtain⟨s',es⟩:∃ s',(dDo s dd).2=s':=⟨_,rfl⟩;rw[es]at g3 n3 n4 kd J5 fr;have e1:=fr.out f1 z14;have e2:=fr.out f2 z2;have eg:=fr.out Z4.ng Z4.hg;have ea:=fr.out Z4.na Z4.ha;have ed:=fr.out Z4.dx Z4.d;have hq5:=fr.tup _ _ hq4;have ds5:∀ v∈dv,∃ q dd,v=.ref q∧H5 q=some (.tup (Dd.its dd))∧dd.ok:=λv m=>by obtain⟨q,dd,e,h,ok⟩:=Z4.ds v m;exact⟨q,dd,e,fr.tup _ _ h,ok⟩
   have gn:=Z4.gn;have hb:=Z4.hb;have Gs:=Z.g;clear fr Z4 Z z14 z2 hq4 f1 f2;have G3:=g3.g;refine gE λN5 hN5=>⟨_,rfl,x,_,_,rfl,J5.ax,(by kernel_rfl),x,A',s',rfl,J5,G3,λp3 H6 s6 hp3 z3=>hN5 _ _ ?_⟩;have J6:=J5.same s6;have z16:=s6 _ _ e1.1;have f3:¬bR x A' s' p3:=J5.fresh hp3;have lz3:=Ht G3;refine gE λN6 hN6=>⟨_,rfl,p1,rfl,⟨_,SqL.of z16⟩,λL hL=>?_⟩;have fL:¬bR x A' s' L:=J6.fresh hL;refine jd (K:=K) (a:=p1) (xs:=(keys s).map V.int) (λi ys Hc=>ys=(((keys s).take i).filter λt=>decide (t∉keys s')).map V.int∧aE H6 Hc∧Hc L=some (.lst ys)) ⟨rfl,aE.upd hL,ah⟩ (λi ys Hc _ ⟨e,_,z⟩=>⟨z,by rw[e,aiI];exact ai5 (ajA _ _) (by rw[aiV];omega)⟩) (λi ys Hc _ ⟨_,sc,_⟩=>SqL.of (sc _ _ z16)) (by rw[aiI];exact kf (by omega)) (λi v ys Hc hi ⟨e,sc,z⟩=>?_) (λys Hc ⟨e,sc,z⟩=>hN6 _ _ ?_)
   ·rw[aiW]at hi
    obtain⟨t,ht,rfl⟩:=aiZ.mp hi;have tk:=take_snoc ht;refine⟨_,rfl,_,rfl,p3,_,rfl,.inl (SqL.of (sc _ _ z3)),rfl,gK (keys s'),_,rfl,?_⟩;show if(!inV (.int t) ((keys s').map V.int))=true then _ else _;rw[zC];by_cases c:t∈keys s'
    ·rw[decide_eq_true c]
     exact gS ⟨by rw[tk,ajT,e];simp[c],sc,z⟩
    ·rw[decide_eq_false c]
     exact sL ⟨_,rfl,z,by rw[tk,ajT,e];simp[c],λb u q=>by rw[ag (au q hL)];exact sc b u q,ah⟩
   ·rw[aiI,ai2 (aiN _)]at e
    obtain⟨lo,elo⟩:∃ lo,((keys s).filter λt=>decide (t∉keys s'))=lo:=⟨_,rfl⟩;rw[elo]at e;subst e;have S5:=s6.trans sc;have J7:=J6.same sc;have z17:=sc _ _ z16;have z37:=sc _ _ z3;have z27:=S5 _ _ e2.1;have g7:=S5 _ _ eg.1;have a7:=S5 _ _ ea.1;have d7:=S5 _ _ ed.1;have hq7:=S5 _ _ hq5;have ds7:∀ v∈dv,∃ q dd,v=.ref q∧Hc q=some (.tup (Dd.its dd))∧dd.ok:=λv m=>by obtain⟨q,dd,e,h,ok⟩:=ds5 v m;exact⟨q,dd,e,S5 _ _ h,ok⟩
    have llo:lo.length≤10000:=(by rw[←elo];exact ai5 U7 lz);clear s6 sc S5 J5 J6 z16 z3 hq5 ds5 hL hp3;refine gE λN7 hN7=>?_;have go7:∀(al':Addr) (as':List Int) (Hy:Hp),aE Hc Hy→Hy al'=some (.lst (as'.map V.int))→¬bR x A' s' al'→(∀ t∈as',t∉s'.bF)→(KN dd=true→s.rnd=true→∀ t∈as',t∉s.bF)→N7 [some (.ref a),some (.ref x),some (.ref gl),some (.ref al'),some (.ref q),some (.ref p1),some (.ref p2),some (.bl (KN dd&&s.rnd)),some (.ref p3),some (.ref L)] Hy:=by
     intro al' as' Hy sy hal nal hb1 hb2;refine hN7 _ _ ?_;refine gE λN8 hN8=>?_;have go8:∀ Hz,aE Hy Hz→N8 [some (.ref a),some (.ref x),some (.ref gl),some (.ref al'),some (.ref q),some (.ref p1),some (.ref p2),some (.bl (KN dd&&s.rnd)),some (.ref p3),some (.ref L)] Hz:=by
      intro Hz sz;refine hN8 _ _ ?_;refine gE λN9 hN9=>?_;have sw:=sy.trans sz;have go9:∀ Hw,aE Hz Hw→N9 [some (.ref a),some (.ref x),some (.ref gl),some (.ref al'),some (.ref q),some (.ref p1),some (.ref p2),some (.bl (KN dd&&s.rnd)),some (.ref p3),some (.ref L)] Hw:=by
       intro Hw sq;refine hN9 _ _ ?_;have sv:=sw.trans sq;have lgs:=gn.len G;refine gE λN10 hN10=>⟨_,rfl,_,rfl,gl,L,_,_,rfl,rfl,SqL.of (sv _ _ g7),SqL.of (sv _ _ z),kf (by rw[aiI,aiI];omega),λl1 hl1=>?_⟩;rw[←ai3];have u1:=aE.upd (o:=.lst ((gs++lo).map V.int)) hl1;have nd:(gs++lo).Nodup:=(by rw[←elo];exact PZ G gn);refine⟨l1,gs++lo,rfl,SqL.of (hX u1),by rw[aiR];omega,nd,λl2 us hl2 pm srt=>hN10 _ _ ?_⟩;have u2:=aE.upd (o:=.lst (us.map V.int)) hl2;have st:=(sv.trans u1).trans u2;have J9:=J7.same st;have gn':Gn s' us:=Gn.step G G3 kd gn (by rw[elo];exact pm) srt;have n2:¬bR x A' s' l2:=(J7.same (sv.trans u1)).fresh hl2;refine⟨_,rfl,_,rfl,x,A',s',l2,us,rfl,J9,g3,hX u2,gn',λHv sx=>⟨true,rfl,gS ?_⟩⟩;have s9:=st.trans sx;exact⟨A',s',l2,us,al',as',_,_,_,_,_,_,rfl,J9.same sx,g3,by omega,gn',sx _ _ (hX u2),n2,sx _ _ (u2 _ _ (u1 _ _ (sq _ _ (sz _ _ hal)))),nal,hb1,s9 _ _ d7,ed.2,λv m=>by obtain⟨q,dd,e,h,ok⟩:=ds7 v m;exact⟨q,dd,e,s9 _ _ h,ok⟩⟩
      have hqz:=sw _ _ hq7;refine⟨_,rfl,q,_,0,.str (nmD dd),rfl,rfl,SqT.of hqz,pK (j:=0) rfl,by show 3≤sizeLine;decide,λt1 ht1=>⟨t1,_,rfl,.inr (SqT.of ah),rfl,rfl,_,rfl,?_⟩⟩;have u1:=aE.upd (o:=.tup [V.str "turn",.str "small",.str "make"]) ht1;show if(!inV (V.str (nmD dd)) [.str "turn",.str "small",.str "make"])=true then _ else _;rw[Sh];by_cases cq:quiet dd=true
      ·have el:lo=[]:=by rw[←elo,←es];exact WS (Td cq).1
       refine sT cq ⟨_,rfl,_,.inl ⟨_,SqL.of (u1 _ _ (sw _ _ z)),rfl⟩,?_⟩;rw[el];exact gS (go9 _ u1)
      ·exact sS (ajf.mpr cq) (gS (go9 _ u1))
     refine⟨_,rfl,_,rfl,?_⟩;by_cases ce:(KN dd&&s.rnd)=true
     ·rw[akf]at ce
      refine sT (by rw[ce.1,ce.2];rfl) ?_;have zy:=sy _ _ z;have z2y:=sy _ _ z27;have lD:∀ t∈lo,t∈s.bF:=by
       have et:=Qb ce.1;rw[et,Th ce.2]at es;rw[←elo,←es];exact λt m=>Si m
      refine⟨_,rfl,L,rfl,⟨_,SqL.of zy⟩,λL2 hL2=>?_⟩;refine jd (K:=K) (a:=L) (xs:=lo.map V.int) (λi ys Hd=>ys=[]∧aE Hy Hd∧Hd L2=some (.lst ys)) ⟨rfl,aE.upd hL2,ah⟩ (λi ys Hd _ ⟨e,_,z⟩=>⟨z,by rw[e];exact ajk _⟩) (λi ys Hd _ ⟨_,sc,_⟩=>SqL.of (sc _ _ zy)) (by rw[aiI];exact kf (by omega)) (λi v ys Hd hi ⟨e,sc,z⟩=>?_) (λys Hd ⟨e,sc,z⟩=>?_)
      ·rw[aiW]at hi
       obtain⟨t,ht,rfl⟩:=aiZ.mp hi;have mt:=lD t (aiU ht);refine⟨_,rfl,_,rfl,p2,_,rfl,.inl (SqL.of (sc _ _ z2y)),rfl,gK ms,_,rfl,?_⟩;show if(inV (.int t) (ms.map V.int))=true then _ else _;rw[zC,decide_eq_false (λm=>Hu Gs (OR.mp ((m2 t).mp m)) (λ_ h=>h) mt)];refine gS ⟨_,rfl,_,rfl,al',_,rfl,.inl (SqL.of (sc _ _ hal)),rfl,gK as',_,rfl,?_⟩;show if(inV (.int t) (as'.map V.int))=true then _ else _;rw[zC,decide_eq_false (λm=>hb2 ce.1 ce.2 t m mt)];exact gS ⟨e,sc,z⟩
      ·subst e
       exact⟨_,.inl ⟨_,SqL.of z,rfl⟩,gS (go8 _ sc)⟩
     ·exact sS (ajf.mpr ce) (gS (go8 _ (aE.refl _)))
    refine⟨_,rfl,q,_,0,.str (nmD dd),rfl,rfl,SqT.of hq7,pK (j:=0) rfl,rfl,_,rfl,?_⟩;show if decide (V.str (nmD dd)=V.str "turn")=true then _ else _;rw[Qa];by_cases ct:KN dd=true
    ·refine sT ct ⟨_,rfl,x,_,_,rfl,J7.ax,(by kernel_rfl),x,A',s',rfl,J7,_,rfl,?_⟩
     have et:=Qb ct;by_cases cr:s.rnd=true
     ·rw[et,Th cr]at es
      refine sS (by rw[←es];rfl) (go7 al as Hc (aE.refl _) a7 ea.2 (λt m=>by rw[←es];exact λz=>nomatch z) λ_ _=>hb)
     ·have cr:=ajf.mpr cr
      rw[et,WT cr]at es;refine sT (by rw[←es];rfl) ⟨_,rfl,_,rfl,x,_,_,rfl,J7.ax,(by kernel_rfl),x,A',s',rfl,J7,G3,λq2 H8 s8 _ y2=>⟨q2,A'.hx,s'.aT,rfl,y2,(J7.same s8).rhl,by rw[G3.h8];decide,λq3 H9 s9 _ y3=>?_⟩⟩;have hts:(thW s'.aT).length≤8:=(by have:=Ft s'.aT;rw[G3.h8]at this;exact this);have J9:=(J7.same s8).same s9;refine⟨_,rfl,x,A',s',q3,thW s'.aT,p3,keys s',rfl,J9,G3,y3,s9 _ _ (s8 _ _ z37),(λt m=>m),d8 G3.asc,by omega,λp4 ms' H10 s10 hp4 z4 _ m4=>?_⟩;exact go7 p4 ms' H10 ((s8.trans s9).trans s10) z4 (J9.fresh hp4) (λt m=>Hu g3 (OR.mp ((m4 t).mp m)) (λ_ h=>h)) λ_ h=>by rw[cr]at h;cases h
    ·have ct:=ajf.mpr ct
     have kp:∀ t∈s'.bF,t∈s.bF:=λt m=>by rw[←es]at m;exact(QU Gs ct m).1
     exact sS ct (gS (go7 al as Hc (aE.refl _) a7 ea.2 (λt m z=>hb t m (kp t z)) λh=>by rw[ct]at h;cases h))
  refine⟨_,rfl,q,_,0,.str (nmD dd),rfl,rfl,SqT.of hq4,pK (j:=0) rfl,rfl,_,rfl,?_⟩;show if decide (V.str (nmD dd)=V.str "turn")=true then _ else _;rw[Qa];by_cases ct:KN dd=true
  ·rw[ct]at go3
   exact sT ct ⟨_,rfl,x,_,_,rfl,Z4.j.ax,(by kernel_rfl),x,A,s,rfl,Z4.j,go3⟩
  ·have ct:=ajf.mpr ct
   rw[ct]at go3;exact sS ct go3
 ·rintro σ Hx ⟨A,s,gl,gs,al,as,v4,v5,v6,v7,v8,v9,rfl,Z⟩
  exact k Hx
end
open PySem.W
section
variable{K:Frag}
noncomputable def LK(K:Frag)(n q:Str)(s:Stmt)(f:Addr):Prop:=(∃ d,Fun K n q s f d)∧keepIn K (.ref f)=true∧isFn K (.ref f)=true
theorem LK.mk{n q:Str}{s:Stmt}{f:Addr}{od an:Option Addr}{sl:Array (Option Value)}{oc kV dc pm cd ct:Value}(h1:K.lookup f=some ⟨oc,od,.func (fnOf n q (lF s) (bo s) (ar s) .none kV dc pm an cd ct),sl⟩)(h2:codeIn K cd q=true)(h3:keepIn K (.ref f)=true)(h4:isFn K (.ref f)=true):LK K n q s f:=⟨⟨_,We (st:=s) h1 h2 h3⟩,h3,h4⟩
noncomputable def FI(K:Frag)(c:Addr)(n:Str)(f:Addr):Prop:=findIn K (.ref c) n=some (some (.ref f))
noncomputable def NF(K:Frag)(c:Addr)(n:Str):Prop:=findIn K (.ref c) n=some none
structure PK(K:Frag)(c:Addr):Prop where
 g:plainGet K c Str.empty=true
 d:hasDictIn K c=true
 o:plainOver K c=true
 s:findIn K (.ref c) "__setattr__" = some (some (.builtin "object.__setattr__"))
 k:keepIn K (.ref c)=true
structure EK(K:Frag)(b e i:Addr):Prop where
 x:KR K e=true
 a:findIn K (.ref e) "__getattribute__" = some (some (.builtin "BaseException.__getattribute__"))
 t:findIn K (.ref e) "__getattr__" = some none
 c:findIn K (.ref e) "__class__" = some (some (.builtin "object.__class__"))
 i:findIn K (.ref e) "__init__" = some (some (.ref i))
 k:keepIn K (.ref e)=true
 v:kitOne K (.ref e) (.type "ValueError")=some true
 s:mroIn K e (.ref b)=some true
end
theorem all_mk{l:OpenLaw}{w:World}{K:Frag}{h:Heap}{mg:Str→Option Value}{fa aK bP bj di dE bc aC gO fi fq aW aF aD aR aa ao cC cD b5 b6 cY a5 cE cF dt dP cV iX gP bT bg cU cy cG du cz bG eP gD eO eM fH aX bJ dw bU cn fv bK dz cM bA cp cA bV fQ eN fR fS dM fT bH fU bw cW aO aZ bq eI bL dA dB eD dH da dC bI cN dU br b8 cO bM aP cu bW cv dD cP dQ gG fz gH cX gQ gI cJ cH bB wW:Addr}{GI nO mD nP nQ nR kR:Tok}(X:K.In h)(G:h.Ns mainGlobals mg)(hfa:mg "law" = some (.ref fa))
  (nH:nsIn K mainGlobals "HeapError" = some (some (.ref aK)))
  (xH:KR K aK=true)
  (FX:nsIn K mainGlobals "number_value" = some (some (.ref dP)))
  (Ic:nsIn K mainGlobals "thing_value" = some (some (.ref cV)))
  (QV:nsIn K mainGlobals "kind_of" = some (some (.ref iX)))
  (NX:nsIn K mainGlobals "words_of" = some (some (.ref gP)))
  (CP:nsIn K mainGlobals "look_at_number" = some (some (.ref bT)))
  (FY:nsIn K mainGlobals "look_at_hand" = some (some (.ref bg)))
  (FZ:nsIn K mainGlobals "look_at_name" = some (some (.ref cU)))
  (EY:nsIn K mainGlobals "look_at_field" = some (some (.ref cy)))
  (CQ:nsIn K mainGlobals "look_at_limits" = some (some (.ref cG)))
  (JR:nsIn K mainGlobals "last_steps" = some (some (.ref fv)))
  (Ie:nsIn K mainGlobals "thing_among" = some (some (.ref eI)))
  (F5:nsIn K mainGlobals "_law_numbers" = some (some (.ref dQ)))
  (LN:nsIn K mainGlobals "_law_deed" = some (some (.ref gG)))
  (JS:nsIn K mainGlobals "_law_plain" = some (some (.ref fz)))
  (LO:nsIn K mainGlobals "_law_done" = some (some (.ref gH)))
  (Ig:nsIn K mainGlobals "_law_things" = some (some (.ref cX)))
  (NY:nsIn K mainGlobals "_law_led" = some (some (.ref gQ)))
  (LP:nsIn K mainGlobals "_law_heap" = some (some (.ref gI)))
  (JT:nsIn K mainGlobals "_law_deeds" = some (some (.ref cJ)))
  (CS:nsIn K mainGlobals "_law_none_told" = some (some (.ref cH)))
  (wa:nsIn K mainGlobals "_law_inside_right" = some (some (.ref bB)))
  (VR:nsIn K mainGlobals "law" = some (some (.ref wW)))
  (Sj:nsIn K mainGlobals "Hands" = some (some (.ref aW)))
  (wc:PK K aW)
  (Sk:FI K aW "__init__" du)
  (Ho:makesIn K aW=true)
  (we:NF K aW "words_held")
  (CT:FI K aW "word_in" cz)
  (yj:FI K aW "all_words" bG)
  (JU:FI K aW "put" eP)
  (Ih:FI K aW "copy" gD)
  (EZ:FI K aW "number" eO)
  (Ii:FI K aW "kind" eM)
  (F6:FI K aW "value" fH)
  (yl:FI K aW "thing_due" aX)
  (JV:nsIn K mainGlobals "WordTable" = some (some (.ref aF)))
  (k9:PK K aF)
  (JW:FI K aF "__init__" bJ)
  (rZ:makesIn K aF=true)
  (qi:NF K aF "words_borne")
  (qK:NF K aF "words_said")
  (Az:FI K aF "bear" dw)
  (uD:FI K aF "word_of" bU)
  (wg:FI K aF "settle" cn)
  (JX:nsIn K mainGlobals "NameTable" = some (some (.ref aD)))
  (lh:PK K aD)
  (JY:FI K aD "__init__" bK)
  (sh:makesIn K aD=true)
  (pM:NF K aD "things_named")
  (AA:FI K aD "name" dz)
  (ym:FI K aD "named" cM)
  (rH:FI K aD "all_named" bA)
  (wk:FI K aD "settle" cp)
  (U8:nsIn K mainGlobals "Heap" = some (some (.ref aR)))
  (CU:PK K aR)
  (U9:FI K aR "__init__" cA)
  (O9:makesIn K aR=true)
  (wo:NF K aR "makes_young")
  (CV:NF K aR "in_hands")
  (yo:NF K aR "weak_names")
  (yp:NF K aR "last_words")
  (wq:NF K aR "fields_held")
  (uE:NF K aR "young_things")
  (yq:NF K aR "next_thing")
  (AB:FI K aR "add_thing" bV)
  (JZ:FI K aR "load" fQ)
  (Ij:FI K aR "store" eN)
  (J8:FI K aR "copy" fR)
  (Ka:FI K aR "drop" fS)
  (F7:FI K aR "number" dM)
  (Kb:FI K aR "name" fT)
  (yr:FI K aR "read_thing" bH)
  (Kc:FI K aR "word" fU)
  (wu:FI K aR "small_round" bw)
  (F8:FI K aR "let_go" cW)
  (uF:FI K aR "look_at_held" aO)
  (wx:FI K aR "words_among" aZ)
  (AD:FI K aR "led_among" bq)
  (Va:readsIn K aR (.type "type")=true)
  (Vb:findCls K (.ref aR) (.type "type") "__init__" = some (.val (.ref cA)))
  (Vc:specialIn K (.ref aR) "__getattribute__" = some (some (.builtin "type.__getattribute__")))
  (Ke:nsIn K mainGlobals "IdealHeap" = some (some (.ref aa)))
  (lq:PK K aa)
  (Kf:FI K aa "__init__" bL)
  (si:makesIn K aa=true)
  (qj:NF K aa "makes_young")
  (tJ:NF K aa "in_hands")
  (qL:NF K aa "weak_names")
  (qM:NF K aa "last_words")
  (qk:NF K aa "fields_held")
  (pN:NF K aa "young_things")
  (qN:NF K aa "next_thing")
  (qO:NF K aa "young_room")
  (yt:NF K aa "limit")
  (oi:NF K aa "doomed_things")
  (tK:NF K aa "in_round")
  (rJ:FI K aa "add_thing" bV)
  (AE:FI K aa "load" fQ)
  (yu:FI K aa "store" eN)
  (AF:FI K aa "copy" fR)
  (AG:FI K aa "drop" fS)
  (wz:FI K aa "number" dM)
  (AH:FI K aa "name" fT)
  (qP:FI K aa "read_thing" bH)
  (AI:FI K aa "word" fU)
  (ql:FI K aa "small_round" bw)
  (wA:FI K aa "let_go" cW)
  (pO:FI K aa "look_at_held" aO)
  (qm:FI K aa "words_among" aZ)
  (rK:FI K aa "led_among" bq)
  (AJ:FI K aa "make" dA)
  (AK:FI K aa "read" dB)
  (AL:FI K aa "kind" eD)
  (yv:FI K aa "value" dH)
  (wB:FI K aa "fields" da)
  (AM:FI K aa "held" dC)
  (yw:FI K aa "small" bI)
  (yx:FI K aa "begin" cN)
  (CW:FI K aa "end" dU)
  (tL:FI K aa "round_on" br)
  (yy:FI K aa "hands" b8)
  (yz:FI K aa "names" cO)
  (wC:FI K aa "things" bM)
  (rL:FI K aa "fields_of" aP)
  (wD:FI K aa "is_old" cu)
  (uG:FI K aa "word_of" bW)
  (wF:FI K aa "doomed" cv)
  (AN:FI K aa "made" dD)
  (yA:FI K aa "spare" cP)
  (NZ:nsIn K mainGlobals "BadCount" = some (some (.ref bP)))
  (fi0:FI K bP "__init__" ao)
  (iC:EK K aK bP ao)
  (LQ:FI K bP "called" b6)
  (QW:nsIn K mainGlobals "BadHand" = some (some (.ref bj)))
  (jm:EK K aK bj ao)
  (Oa:FI K bj "called" cC)
  (QX:nsIn K mainGlobals "BadName" = some (some (.ref di)))
  (jo:EK K aK di ao)
  (Ob:FI K di "called" cD)
  (Oc:nsIn K mainGlobals "BadField" = some (some (.ref dE)))
  (iD:EK K aK dE ao)
  (LR:FI K dE "called" b5)
  (F9:nsIn K mainGlobals "TooManyWords" = some (some (.ref bc)))
  (dY:EK K aK bc ao)
  (E0:FI K bc "called" a5)
  (QY:nsIn K mainGlobals "BadView" = some (some (.ref aC)))
  (jq:EK K aK aC ao)
  (Od:FI K aC "called" dt)
  (Sl:nsIn K mainGlobals "NoRoom" = some (some (.ref gO)))
  (ku:EK K aK gO ao)
  (QZ:FI K gO "called" cY)
  (Q0:nsIn K mainGlobals "RoundOn" = some (some (.ref fi)))
  (jr:EK K aK fi ao)
  (Oe:FI K fi "called" cE)
  (Q1:nsIn K mainGlobals "NoRound" = some (some (.ref fq)))
  (js:EK K aK fq ao)
  (Of:FI K fq "called" cF)
  (nD:kitOne K (.ref bP) (.ref aC)=some false)
  (oj:kitOne K (.ref bj) (.ref aC)=some false)
  (om:kitOne K (.ref di) (.ref aC)=some false)
  (nE:kitOne K (.ref dE) (.ref aC)=some false)
  (j7:kitOne K (.ref bc) (.ref aC)=some false)
  (jW:kitOne K (.ref aC) (.ref aC)=some true)
  (pW:kitOne K (.ref gO) (.ref aC)=some false)
  (oq:kitOne K (.ref fi) (.ref aC)=some false)
  (ot:kitOne K (.ref fq) (.ref aC)=some false)
  (uH:LK K "__init__" "HeapError.__init__" iY ao)
  (CY:LK K "called" "BadHand.called" qT cC)
  (CZ:LK K "called" "BadName.called" qU cD)
  (AO:LK K "called" "BadField.called" pU b5)
  (AQ:LK K "called" "BadCount.called" pV b6)
  (E1:LK K "called" "NoRoom.called" sM cY)
  (tM:LK K "called" "TooManyWords.called" lC a5)
  (C0:LK K "called" "RoundOn.called" qV cE)
  (C1:LK K "called" "NoRound.called" qW cF)
  (C2:LK K "called" "BadView.called" qX dt)
  (Ga:LK K "number_value" "number_value" oJ dP)
  (Ik:LK K "thing_value" "thing_value" qy cV)
  (Q2:LK K "kind_of" "kind_of" D7 iX)
  (Og:LK K "words_of" "words_of" zm gP)
  (C3:LK K "look_at_number" "look_at_number" lG bT)
  (Gb:LK K "look_at_hand" "look_at_hand" oK bg)
  (Ge:LK K "look_at_name" "look_at_name" oO cU)
  (E3:LK K "look_at_field" "look_at_field" nj cy)
  (C4:LK K "look_at_limits" "look_at_limits" lH cG)
  (C5:LK K "__init__" "Hands.__init__" lI du)
  (E4:LK K "word_in" "Hands.word_in" nk cz)
  (AR:LK K "all_words" "Hands.all_words" kz bG)
  (LS:LK K "put" "Hands.put" uZ eP)
  (Kg:LK K "copy" "Hands.copy" rR gD)
  (Gf:LK K "number" "Hands.number" oQ eO)
  (Kh:LK K "kind" "Hands.kind" rS eM)
  (Il:LK K "value" "Hands.value" qz fH)
  (AS:LK K "thing_due" "Hands.thing_due" kA aX)
  (uI:LK K "__init__" "WordTable.__init__" iZ bJ)
  (C6:LK K "bear" "WordTable.bear" lJ dw)
  (wG:LK K "word_of" "WordTable.word_of" jx bU)
  (yB:LK K "settle" "WordTable.settle" jR cn)
  (Ki:LK K "last_steps" "last_steps" rT fv)
  (uJ:LK K "__init__" "NameTable.__init__" i3 bK)
  (C7:LK K "name" "NameTable.name" lK dz)
  (AU:LK K "named" "NameTable.named" kB cM)
  (tN:LK K "all_named" "NameTable.all_named" iM bA)
  (yC:LK K "settle" "NameTable.settle" ic cp)
  (E5:LK K "__init__" "Heap.__init__" nu cA)
  (C8:LK K "add_thing" "Heap.add_thing" lL bV)
  (LU:LK K "load" "Heap.load" u4 fQ)
  (Kj:LK K "store" "Heap.store" rV eN)
  (LV:LK K "copy" "Heap.copy" u5 fR)
  (LW:LK K "drop" "Heap.drop" u6 fS)
  (Im:LK K "number" "Heap.number" qA dM)
  (LY:LK K "name" "Heap.name" u7 fT)
  (AV:LK K "read_thing" "Heap.read_thing" kC bH)
  (LZ:LK K "word" "Heap.word" u9 fU)
  (yD:LK K "small_round" "Heap.small_round" ie bw)
  (Io:LK K "let_go" "Heap.let_go" qB cW)
  (wH:LK K "look_at_held" "Heap.look_at_held" jy aO)
  (yE:LK K "words_among" "Heap.words_among" ig aZ)
  (C9:LK K "led_among" "Heap.led_among" gT bq)
  (Ip:LK K "thing_among" "thing_among" qC eI)
  (uK:LK K "__init__" "IdealHeap.__init__" i4 bL)
  (De:LK K "make" "IdealHeap.make" lM dA)
  (Df:LK K "read" "IdealHeap.read" lN dB)
  (Dg:LK K "kind" "IdealHeap.kind" lO eD)
  (AW:LK K "value" "IdealHeap.value" kD dH)
  (yF:LK K "fields" "IdealHeap.fields" jS da)
  (Dh:LK K "held" "IdealHeap.held" lP dC)
  (AX:LK K "small" "IdealHeap.small" kE bI)
  (AY:LK K "begin" "IdealHeap.begin" kF cN)
  (E6:LK K "end" "IdealHeap.end" nv dU)
  (uL:LK K "round_on" "IdealHeap.round_on" i6 br)
  (AZ:LK K "hands" "IdealHeap.hands" kG b8)
  (A0:LK K "names" "IdealHeap.names" kH cO)
  (yG:LK K "things" "IdealHeap.things" jT bM)
  (tO:LK K "fields_of" "IdealHeap.fields_of" iN aP)
  (yI:LK K "is_old" "IdealHeap.is_old" jU cu)
  (wI:LK K "word_of" "IdealHeap.word_of" jz bW)
  (yJ:LK K "doomed" "IdealHeap.doomed" jV cv)
  (Di:LK K "made" "IdealHeap.made" lQ dD)
  (A5:LK K "spare" "IdealHeap.spare" kI cP)
  (Gg:LK K "_law_numbers" "_law_numbers" oV dQ)
  (L0:LK K "_law_deed" "_law_deed" va gG)
  (Kk:LK K "_law_plain" "_law_plain" rW fz)
  (L1:LK K "_law_done" "_law_done" vc gH)
  (Iq:LK K "_law_things" "_law_things" mz cX)
  (Oh:LK K "_law_led" "_law_led" zo gQ)
  (L4:LK K "_law_heap" "_law_heap" ve gI)
  (Km:LK K "_law_deeds" "_law_deeds" bE cJ)
  (Dj:LK K "_law_none_told" "_law_none_told" lR cH)
  (wJ:LK K "_law_inside_right" "_law_inside_right" bS bB)
  (ZK:LK K "law" "law" i7 wW)
  (B7:nsIn K mainGlobals "len" = some none)
  (xh:nsIn K mainGlobals "range" = some none)
  (ui:nsIn K mainGlobals "list" = some none)
  (lE:nsIn K mainGlobals "sorted" = some none)
  (Tz:nsIn K mainGlobals "sum" = some none)
  (TB:nsIn K mainGlobals "abs" = some none)
  (nU:nsIn K mainGlobals "isinstance" = some none)
  (qu:nsIn K mainGlobals "enumerate" = some none)
  (nV:nsIn K mainGlobals "ValueError" = some none)
  (GO:nsIn K mainGlobals "HANDS" = some (some (.int 8 GI)))
  (nW:nsIn K mainGlobals "WEAK_NAMES" = some (some (.int 8 nO)))
  (qF:nsIn K mainGlobals "MOST_FIELDS" = some (some (.int 6 mD)))
  (nX:nsIn K mainGlobals "LEAST_ROOM" = some (some (.int 7 nP)))
  (sr:nsIn K mainGlobals "MOST_YOUNG" = some (some (.int 64 nQ)))
  (sA:nsIn K mainGlobals "MOST_LIMIT" = some (some (.int 400 nR)))
  (kU:nsIn K mainGlobals "MOST_BEARERS" = some (some (.int 12 kR))) :
  ∃ fd:FuncData,(∀(s:Shared) (v:Value),BindsTo s fd ⟨[v],[]⟩ [("script",v)])∧∀ base:Heap,K.In base→base.Ns mainGlobals mg→Cg l.prog w K mg base (CXE l.prog w) 12 fa fd ["script"] (Rj K):=by
 have e:=(mg_of X G VR).symm.trans hfa;cases e;obtain⟨cdH,_,yH⟩:=nC xH;obtain⟨Ek,L5,zD⟩:=nC iC.x;obtain⟨G7,Oi,Ea⟩:=nC jm.x;obtain⟨G8,Oj,Eb⟩:=nC jo.x;obtain⟨El,L6,zE⟩:=nC iD.x;obtain⟨sZ,E7,pq⟩:=nC dY.x;obtain⟨G9,Ol,Ec⟩:=nC jq.x;obtain⟨Jm,Q3,HB⟩:=nC ku.x;obtain⟨Ha,Om,Ed⟩:=nC jr.x;obtain⟨Hg,Oo,Ee⟩:=nC js.x;have su:∀ {D:Addr} {cd:ClassData},clsIn K D=some cd→iy K D cd→mroIn K D (.ref aK)=some true→∃ cd,iy K D cd∧cd.mro.contains (.ref aK)=true:=λ{D cd} hc y sb=>⟨cd,y,by
  unfold mroIn at sb;rw[hc,aj2,if_neg (by rw[y.BX];decide)]at sb;exact aja sb⟩
 have m:=λ{n:Str} {v:Value} (q:nsIn K mainGlobals n=some (some v))=>mg_of X G q;obtain⟨⟨aB,uM⟩,K6,bt⟩:=uH;obtain⟨⟨fB,Dk⟩,Dm,Dn⟩:=CY;obtain⟨⟨fD,Dp⟩,Dq,Dr⟩:=CZ;obtain⟨⟨eS,A7⟩,A8,A9⟩:=AO;obtain⟨⟨eT,Ba⟩,Bb,Bc⟩:=AQ;obtain⟨⟨gi,E8⟩,E9,Fb⟩:=E1;obtain⟨⟨cR,tP⟩,tQ,tR⟩:=tM;obtain⟨⟨fE,Ds⟩,Dt,Du⟩:=C0;obtain⟨⟨fF,Dv⟩,Dw,Dx⟩:=C1;obtain⟨⟨gU,Dy⟩,Dz,DA⟩:=C2;obtain⟨⟨i9,Gh⟩,oW,Rw⟩:=Ga;obtain⟨⟨gL,Ir⟩,jL,Ti⟩:=Ik;obtain⟨⟨pE,Q4⟩,wX,WX⟩:=Q2;obtain⟨⟨mB,Oq⟩,sO,VS⟩:=Og;obtain⟨⟨fG,DB⟩,jf,Qc⟩:=C3;obtain⟨⟨cx,Gi⟩,dR,Rx⟩:=Gb;obtain⟨⟨hZ,Gj⟩,kT,Ry⟩:=Ge;obtain⟨⟨gj,Fc⟩,jN,Rm⟩:=E3;obtain⟨⟨gW,DC⟩,lT,Qd⟩:=C4;obtain⟨⟨gZ,DD⟩,Qe,DE⟩:=C5;obtain⟨⟨eX,Fd⟩,Fe,Ff⟩:=E4;obtain⟨⟨dG,Bd⟩,Be,Bf⟩:=AR;obtain⟨⟨iB,L7⟩,L8,L9⟩:=LS;obtain⟨⟨kY,Kn⟩,Ko,Kp⟩:=Kg;obtain⟨⟨ja,Gk⟩,Gm,Gp⟩:=Gf;obtain⟨⟨iG,Kq⟩,Kr,Ks⟩:=Kh;obtain⟨⟨jI,Iu⟩,Iv,Iw⟩:=Il;obtain⟨⟨b7,Bg⟩,Bh,Bi⟩:=AS;obtain⟨⟨eF,uN⟩,K7,uO⟩:=uI;obtain⟨⟨g4,DF⟩,DG,DH⟩:=C6;obtain⟨⟨eY,wK⟩,wL,wM⟩:=wG;obtain⟨⟨fV,yK⟩,yL,yM⟩:=yB;obtain⟨⟨kZ,Kt⟩,sj,TV⟩:=Ki;obtain⟨⟨eG,uP⟩,K8,uQ⟩:=uJ;obtain⟨⟨g5,DI⟩,DJ,DK⟩:=C7;obtain⟨⟨gw,Bj⟩,Bk,Bl⟩:=AU;obtain⟨⟨dZ,tT⟩,tU,tV⟩:=tN;obtain⟨⟨fW,yN⟩,yO,yP⟩:=yC;obtain⟨⟨iK,Fg⟩,Fh,Fi⟩:=E5;obtain⟨⟨g9,DL⟩,rg,rh⟩:=C8;obtain⟨⟨mN,Ma⟩,Em,En⟩:=LU;obtain⟨⟨k6,Ku⟩,BL,BM⟩:=Kj;obtain⟨⟨mO,Mb⟩,Eo,Ep⟩:=LV;obtain⟨⟨mP,Mc⟩,Es,Et⟩:=LW;obtain⟨⟨jJ,Iy⟩,xy,xA⟩:=Im;obtain⟨⟨mQ,Md⟩,Eu,Ew⟩:=LY;obtain⟨⟨gx,Bm⟩,qf,qg⟩:=AV;obtain⟨⟨mT,Me⟩,Ex,Ey⟩:=LZ;obtain⟨⟨fX,yQ⟩,oA,oB⟩:=yD;obtain⟨⟨iR,Iz⟩,xB,xC⟩:=Io;obtain⟨⟨cK,wN⟩,nI,nJ⟩:=wH;obtain⟨⟨ej,yR⟩,oE,oH⟩:=yE;obtain⟨⟨eC,DM⟩,rj,rk⟩:=C9;obtain⟨⟨jK,IA⟩,mF,Tj⟩:=Ip;obtain⟨⟨eJ,uR⟩,K9,uS⟩:=uK;obtain⟨⟨hG,DN⟩,DO,DP⟩:=De;obtain⟨⟨hJ,DQ⟩,DR,DS⟩:=Df;obtain⟨⟨je,DT⟩,DU,DV⟩:=Dg;obtain⟨⟨iV,Bn⟩,Bo,Bp⟩:=AW;obtain⟨⟨ip,yS⟩,yT,yU⟩:=yF;obtain⟨⟨hR,DW⟩,DX,DY⟩:=Dh;obtain⟨⟨dI,Bq⟩,Br,Bs⟩:=AX;obtain⟨⟨gy,Bt⟩,Bu,Bv⟩:=AY;obtain⟨⟨iL,Fj⟩,Fl,Fm⟩:=E6;obtain⟨⟨dq,uT⟩,uU,uV⟩:=uL;obtain⟨⟨eU,Bw⟩,Bx,By⟩:=AZ;obtain⟨⟨gz,Bz⟩,BA,BB⟩:=A0;obtain⟨⟨en,yV⟩,yW,yX⟩:=yG;obtain⟨⟨bX,tW⟩,tX,tY⟩:=tO;obtain⟨⟨fY,yY⟩,yZ,y8⟩:=yI;obtain⟨⟨eZ,wO⟩,wQ,wR⟩:=wI;obtain⟨⟨fZ,y9⟩,zc,zg⟩:=yJ;obtain⟨⟨hU,DZ⟩,D1,D2⟩:=Di;obtain⟨⟨gA,BC⟩,BD,BE⟩:=A5;obtain⟨⟨jb,Gq⟩,oZ,Rz⟩:=Gg;obtain⟨⟨mU,Mf⟩,vh,Vf⟩:=L0;obtain⟨⟨k7,Kv⟩,sk,TX⟩:=Kk;obtain⟨⟨mV,Mg⟩,vi,Vg⟩:=L1;obtain⟨⟨gM,IB⟩,fI,Tn⟩:=Iq;obtain⟨⟨mC,Ot⟩,pL,VT⟩:=Oh;obtain⟨⟨mW,Mh⟩,vj,Vh⟩:=L4;obtain⟨⟨k8,Kw⟩,so,TY⟩:=Km;obtain⟨⟨hV,D3⟩,jg,Qf⟩:=Dj;obtain⟨⟨e7,wU⟩,jB,MZ⟩:=wJ;obtain⟨⟨Nv,VU⟩,VG,aiF⟩:=ZK
 let D:Ad:=⟨aK,bP,bj,di,dE,bc,aC,gO,fi,fq,aW,aF,aD,aR,aa,ao,aB,cC,fB,cD,fD,b5,eS,b6,eT,cY,gi,a5,cR,cE,fE,cF,fF,dt,gU,dP,i9,cV,gL,iX,pE,gP,mB,bT,fG,bg,cx,cU,hZ,cy,gj,cG,gW,du,gZ,cz,eX,bG,dG,eP,iB,gD,kY,eO,ja,eM,iG,fH,jI,aX,b7,bJ,eF,dw,g4,bU,eY,cn,fV,fv,kZ,bK,eG,dz,g5,cM,gw,bA,dZ,cp,fW,cA,iK,bV,g9,fQ,mN,eN,k6,fR,mO,fS,mP,dM,jJ,fT,mQ,bH,gx,fU,mT,bw,fX,cW,iR,aO,cK,aZ,ej,bq,eC,eI,jK,bL,eJ,dA,hG,dB,hJ,eD,je,dH,iV,da,ip,dC,hR,bI,dI,cN,gy,dU,iL,br,dq,b8,eU,cO,gz,bM,en,aP,bX,cu,fY,bW,eZ,cv,fZ,dD,hU,cP,gA,dQ,jb,gG,mU,fz,k7,gH,mV,cX,gM,gQ,mC,gI,mW,cJ,k8,cH,hV,bB,e7,fa,Nv,GI,nO,mD,nP,nQ,nR,kR⟩
 have T:Txt K mg D:=⟨⟨cdH,yH⟩,m nH,m NZ,⟨⟨Ek,zD⟩,⟨iC.a,iC.t⟩,iC.c⟩,⟨⟨Ek,zD⟩,iC.i,bt,iC.k⟩,iC.v,su L5 zD iC.s,⟨LQ,Bc,Bb⟩,m QW,⟨⟨G7,Ea⟩,⟨jm.a,jm.t⟩,jm.c⟩,⟨⟨G7,Ea⟩,jm.i,bt,jm.k⟩,jm.v,su Oi Ea jm.s,⟨Oa,Dn,Dm⟩,m QX,⟨⟨G8,Eb⟩,⟨jo.a,jo.t⟩,jo.c⟩,⟨⟨G8,Eb⟩,jo.i,bt,jo.k⟩,jo.v,su Oj Eb jo.s,⟨Ob,Dr,Dq⟩,m Oc,⟨⟨El,zE⟩,⟨iD.a,iD.t⟩,iD.c⟩,⟨⟨El,zE⟩,iD.i,bt,iD.k⟩,iD.v,su L6 zE iD.s,⟨LR,A9,A8⟩,m F9,⟨⟨sZ,pq⟩,⟨dY.a,dY.t⟩,dY.c⟩,⟨⟨sZ,pq⟩,dY.i,bt,dY.k⟩,dY.v,su E7 pq dY.s,⟨E0,tR,tQ⟩,m QY,⟨⟨G9,Ec⟩,⟨jq.a,jq.t⟩,jq.c⟩,⟨⟨G9,Ec⟩,jq.i,bt,jq.k⟩,jq.v,su Ol Ec jq.s,⟨Od,DA,Dz⟩,m Sl,⟨⟨Jm,HB⟩,⟨ku.a,ku.t⟩,ku.c⟩,⟨⟨Jm,HB⟩,ku.i,bt,ku.k⟩,ku.v,su Q3 HB ku.s,⟨QZ,Fb,E9⟩,m Q0,⟨⟨Ha,Ed⟩,⟨jr.a,jr.t⟩,jr.c⟩,⟨⟨Ha,Ed⟩,jr.i,bt,jr.k⟩,jr.v,su Om Ed jr.s,⟨Oe,Du,Dt⟩,m Q1,⟨⟨Hg,Ee⟩,⟨js.a,js.t⟩,js.c⟩,⟨⟨Hg,Ee⟩,js.i,bt,js.k⟩,js.v,su Oo Ee js.s,⟨Of,Dx,Dw⟩,nD,oj,om,nE,j7,jW,pW,oq,ot,m Sj,⟨wc.g,wc.d,wc.o,wc.s⟩,⟨Ho,Sk,DE,wc.k⟩,we,⟨CT,Ff,Fe⟩,⟨yj,Bf,Be⟩,⟨JU,L9,L8⟩,⟨Ih,Kp,Ko⟩,⟨EZ,Gp,Gm⟩,⟨Ii,Ks,Kr⟩,⟨F6,Iw,Iv⟩,⟨yl,Bi,Bh⟩,m JV,⟨k9.g,k9.d,k9.o,k9.s⟩,⟨rZ,JW,uO,k9.k⟩,qi,qK,⟨Az,DH,DG⟩,⟨uD,wM,wL⟩,⟨wg,yM,yL⟩,m JX,⟨lh.g,lh.d,lh.o,lh.s⟩,⟨sh,JY,uQ,lh.k⟩,pM,⟨AA,DK,DJ⟩,⟨ym,Bl,Bk⟩,⟨rH,tV,tU⟩,⟨wk,yP,yO⟩,m U8,⟨CU.g,CU.d,CU.o,CU.s⟩,⟨O9,U9,Fi,CU.k⟩,wo,CV,yo,yp,wq,uE,yq,⟨AB,rh,rg⟩,⟨JZ,En,Em⟩,⟨Ij,BM,BL⟩,⟨J8,Ep,Eo⟩,⟨Ka,Et,Es⟩,⟨F7,xA,xy⟩,⟨Kb,Ew,Eu⟩,⟨yr,qg,qf⟩,⟨Kc,Ey,Ex⟩,⟨wu,oB,oA⟩,⟨F8,xC,xB⟩,⟨uF,nJ,nI⟩,⟨wx,oH,oE⟩,⟨AD,rk,rj⟩,⟨Va,Vb,Vc,Fh⟩,m Ke,⟨lq.g,lq.d,lq.o,lq.s⟩,⟨si,Kf,uS,lq.k⟩,qj,tJ,qL,qM,qk,pN,qN,qO,yt,oi,tK,⟨rJ,rh,rg⟩,⟨AE,En,Em⟩,⟨yu,BM,BL⟩,⟨AF,Ep,Eo⟩,⟨AG,Et,Es⟩,⟨wz,xA,xy⟩,⟨AH,Ew,Eu⟩,⟨qP,qg,qf⟩,⟨AI,Ey,Ex⟩,⟨ql,oB,oA⟩,⟨wA,xC,xB⟩,⟨pO,nJ,nI⟩,⟨qm,oH,oE⟩,⟨rK,rk,rj⟩,⟨AJ,DP,DO⟩,⟨AK,DS,DR⟩,⟨AL,DV,DU⟩,⟨yv,Bp,Bo⟩,⟨wB,yU,yT⟩,⟨AM,DY,DX⟩,⟨yw,Bs,Br⟩,⟨yx,Bv,Bu⟩,⟨CW,Fm,Fl⟩,⟨tL,uV,uU⟩,⟨yy,By,Bx⟩,⟨yz,BB,BA⟩,⟨wC,yX,yW⟩,⟨rL,tY,tX⟩,⟨wD,y8,yZ⟩,⟨uG,wR,wQ⟩,⟨wF,zg,zc⟩,⟨AN,D2,D1⟩,⟨yA,BE,BD⟩,m FX,oW,m Ic,jL,m QV,wX,m NX,sO,m CP,jf,m FY,dR,m FZ,kT,m EY,jN,m CQ,lT,m JR,sj,m Ie,mF,m F5,oZ,m LN,vh,m JS,sk,m LO,vi,m Ig,fI,m NY,pL,m LP,vj,m JT,so,m CS,jg,m wa,jB,m VR,VG,mg_none_of X G B7,mg_none_of X G xh,mg_none_of X G ui,mg_none_of X G lE,mg_none_of X G Tz,mg_none_of X G TB,mg_none_of X G nU,mg_none_of X G qu,mg_none_of X G nV,m GO,m nW,m qF,m nX,m sr,m sA,m kU⟩;refine⟨Nv,λs v=>?_,λbase _ _=>?_⟩
 ·obtain⟨_,_,_,_,_,_,_,_,_,e,_⟩:=VU.ex
  rw[e];exact .of_eq rfl
 have aj:=@tj l.prog w K mg base D uM T;have eW:=@xJ l.prog w K mg base D Ba T;have fM:=@zQ l.prog w K mg base D Dk T;have fN:=@zR l.prog w K mg base D Dp T;have eV:=@xK l.prog w K mg base D A7 T;have cT:=@rA l.prog w K mg base D tP T;have ji:=@zS l.prog w K mg base D Dy T;have gr:=@Cr l.prog w K mg base D E8 T;have fO:=@zU l.prog w K mg base D Ds T;have fP:=@zV l.prog w K mg base D Dv T;have pF:=@NO l.prog w K mg base D Q4 T;have aI:=@EI l.prog w K mg base D Gi T aj;have h9:=@EL l.prog w K mg base D Gj T aj;have mI:=@Lz l.prog w K mg base D Oq T aj;have gm:=@Ct l.prog w K mg base D Fc T aj;have fK:=@zX l.prog w K mg base D DB T aj;have pd:=@EO l.prog w K mg base D Gh T fK;have eK:=@FH l.prog w K mg base D Ir T aj;have lX:=@zZ l.prog w K mg base D DC T aj;have jh:=@z7 l.prog w K mg base D DD T;have gp:=@tq l.prog w K mg base D uP T;have cZ:=@CA l.prog w K mg base D Fd T aI;have d9:=@Jz l.prog w K mg base D L7 T aI;have sC:=@HN l.prog w K mg base D Kn T aI cZ;have ph:=@ET l.prog w K mg base D Gk T aI pd;have fA:=@HP l.prog w K mg base D Kq T pF cZ;have qH:=@FL l.prog w K mg base D Iu T aj fA;have aL:=@xN l.prog w K mg base D Bg T aj fA;have b9:=@xP l.prog w K mg base D Bd T;have lV:=@Ab l.prog w K mg base D DI T h9;have kK:=@xR l.prog w K mg base D Bj T h9;have gq:=@tw l.prog w K mg base D uN T;have lW:=@Af l.prog w K mg base D DF T aj;have vo:=@JD l.prog w K mg base D Mb T sC;have vp:=@JF l.prog w K mg base D Mc T d9;have qI:=@FP l.prog w K mg base D Iy T ph;have vq:=@JG l.prog w K mg base D Md T aL lV;have vt:=@JH l.prog w K mg base D Me T aL fK lW;have vm:=@JI l.prog w K mg base D Ma T aI aL gm d9;have sE:=@HU l.prog w K mg base D Ku T aL cZ gm;have jQ:=@CF l.prog w K mg base D Fg T jh gp gq;have gu:=@tE l.prog w K mg base D uR T lX jQ;have l7:=@Ag l.prog w K mg base D DL T eK d9;have kM:=@xS l.prog w K mg base D Bm T aI kK d9 eK;have eB:=@vI l.prog w K mg base D yR T mI;have lZ:=@Aj l.prog w K mg base D DW T eB;have Qg:=@Al l.prog w K mg base D DT T fA;have OA:=@xU l.prog w K mg base D Bn T qH;have M6:=@vK l.prog w K mg base D yS T aL;have sD:=@HW l.prog w K mg base D Kt T;have mJ:=@FR l.prog w K mg base D IA T pF;have cI:=@An l.prog w K mg base D DM T mJ sD;have jZ:=@vM l.prog w K mg base D yN T;have j1:=@vN l.prog w K mg base D yK T;have iT:=@FT l.prog w K mg base D Iz T jZ j1;have j2:=@vO l.prog w K mg base D yQ T b9 cI iT;have cc:=@xY l.prog w K mg base D Bq T j2;have kO:=@xZ l.prog w K mg base D Bt T aj cc b9 cI;have nz:=@CK l.prog w K mg base D Fj T aj iT;have ck:=@tG l.prog w K mg base D uT T;have kN:=@x8 l.prog w K mg base D BC T eK cI;have l9:=@Ar l.prog w K mg base D DN T aj aI mI eB cc lZ l7;have me:=@As l.prog w K mg base D DQ T kM kN;have pk:=@EW l.prog w K mg base D Gq T;have vv:=@JL l.prog w K mg base D Mf T;have oh:=@Ia l.prog w K mg base D Kv T l9 sE vm vo vp qI vq me vt cc ck nz kO;have vx:=@JN l.prog w K mg base D Mg T oh fM fN eV eW gr cT fO fP;have vw:=@JO l.prog w K mg base D Mh T gu;have sI:=@Ib l.prog w K mg base D Kw T vv pk;have cQ:=@ya l.prog w K mg base D Bw T b9;have iP:=@rE l.prog w K mg base D tT T;have kP:=@yd l.prog w K mg base D Bz T iP;have de:=@vQ l.prog w K mg base D yV T;have j6:=@vS l.prog w K mg base D y9 T;have jk:=@Ax l.prog w K mg base D DZ T;have jC:=@uv l.prog w K mg base D wK T;have bD:=@ux l.prog w K mg base D wN T aj;have a6:=@rG l.prog w K mg base D tW T bD;have j5:=@vW l.prog w K mg base D yY T bD;have jD:=@uA l.prog w K mg base D wO T bD jC;have cB:=@FW l.prog w K mg base D IB T;have ka:=@LL l.prog w K mg base D Ot T a6 cB;have jj:=@Ay l.prog w K mg base D D3 T a6 j5 jD ji;have jE:=@uC l.prog w K mg base D wU T jj jk de ka cB cQ a6 kP j6;exact(WU (P:=l.prog) (w:=w) (mg:=mg) (base:=base) VU T vw sI de ka cB cQ ck vx jE).g
theorem walk{l:OpenLaw}{q:Program}{loose:List Str}{XP:(Str→Option Value)→Heap→Prop}{YP:World→Heap→Prop}{d:DefRec}{K:Params→Frag}(hn:l.most=some 63)(hdf:d.params.defaults=[])
  (hY:∀(w:World) (h:Heap),YP w h→(K w.params).In h)
  (F:∀(w:World) (mg:Str→Option Value) (fa:Addr) (h:Heap),(K w.params).In h→h.Ns mainGlobals mg→mg d.name=some (.ref fa) →
   ∃ fd:FuncData,(∀(s:Shared) (u:Value),BindsTo s fd ⟨[u],[]⟩ [("script",u)])∧∀ base:Heap,(K w.params).In base→base.Ns mainGlobals mg→Cg l.prog w (K w.params) mg base (CXE l.prog w) 12 fa fd ["script"] (Rj (K w.params))) :
  WalkO q loose XP YP l.row.toRowW d [] (λf vs=>PySem.call f vs) :=
 L2.Ui (n:=63) (k:=12) (x := "script") (CX:=λw=>CXE l.prog w) (sp:=λw=>Rj (K w.params)) hn (by decide) hdf ⟨rfl,by decide,by decide⟩ hY F (λ_ _ a ns hl _ hS=>⟨a,ns,rfl,hS,hl,λ_=>rfl⟩) λ_ _ _ _ _ z=>Zj z
end K13
end
section
open PySem PySem.W PyProof.Rows
set_option maxRecDepth 100000 in
set_option maxHeartbeats 0 in
theorem PySem.Challenge.cw_stillheap_k13_whole_never_lost_holds : PySem.Challenge.rw_stillheap_k13_whole_never_lost.Holds := by
 w_on;refine holds_law K13.wsd λuc=>?_
 refine holds_open (q:=K13.hQ) (loose:=K13.hLo) (Xt:=λs=>xlAt K13.hQ [] s&&recOk (RowW.records (OpenRow.toRowW (OpenLaw.row PySem.Challenge.rw_stillheap_k13_whole_never_lost))) s)
  (XP:=XL K13.hQ []) (Yf:=Hook.obs (kHook K13.hK K13.hAs K13.qx)) (Ya:=Hook.val (kHook K13.hK K13.hAs K13.qx)) (YP:=Hook.says (kHook K13.hK K13.hAs K13.qx)) (N:=12594)
  ?hl (Hook.of (kHook K13.hK K13.hAs K13.qx)) (Hook.keeps (kHook K13.hK K13.hAs K13.qx))
  (λs e=>xl_of s (Bool.and_eq_true_iff.mp e).1) XL.keeps (by rfl) (by rfl) (by rfl)
  (λs e=>recFacts_of (Bool.and_eq_true_iff.mp e).2) (by rfl) (by first|assumption|decide +kernel)
  (by decide +kernel) ⟨rfl,rfl,rfl,rfl,rfl,by decide +kernel⟩ ?hw ?hc
 (case hl=>exact K13.Y7)
 (case hw=>w_witness2)
 k_fill
 refine K13.walk (l:=PySem.Challenge.rw_stillheap_k13_whole_never_lost) rfl rfl (λw h Y=>PySem.W.kIn_of Y) ?F
 case F =>
  intro w mg fa h KX G hmg;refine' K13.all_mk KX G hmg ?_ ?_ ?_ ?_ ?_ ?_ ?_ ?_ ?_ ?_ ?_ ?_ ?_ ?_ ?_ ?_ ?_ ?_ ?_ ?_ ?_ ?_ ?_ ?_ ?_ ?_ ?_ ?_ ?_ ?_ ?_ ?_ ?_ ?_ ?_ ?_ ?_ ?_ ?_ ?_ ?_ ?_ ?_ ?_ ?_ ?_ ?_ ?_ ?_ ?_ ?_ ?_ ?_ ?_ ?_ ?_ ?_ ?_ ?_ ?_ ?_ ?_ ?_ ?_ ?_ ?_ ?_ ?_ ?_ ?_ ?_ ?_ ?_ ?_ ?_ ?_ ?_ ?_ ?_ ?_ ?_ ?_ ?_ ?_ ?_ ?_ ?_ ?_ ?_ ?_ ?_ ?_ ?_ ?_ ?_ ?_ ?_ ?_ ?_ ?_ ?_ ?_ ?_ ?_ ?_ ?_ ?_ ?_ ?_ ?_ ?_ ?_ ?_ ?_ ?_ ?_ ?_ ?_ ?_ ?_ ?_ ?_ ?_ ?_ ?_ ?_ ?_ ?_ ?_ ?_ ?_ ?_ ?_ ?_ ?_ ?_ ?_ ?_ ?_ ?_ ?_ ?_ ?_ ?_ ?_ ?_ ?_ ?_ ?_ ?_ ?_ ?_ ?_ ?_ ?_ ?_ ?_ ?_ ?_ ?_ ?_ ?_ ?_ ?_ ?_ ?_ ?_ ?_ ?_ ?_ ?_ ?_ ?_ ?_ ?_ ?_ ?_ ?_ ?_ ?_ ?_ ?_ ?_ ?_ ?_ ?_ ?_ ?_ ?_ ?_ ?_ ?_ ?_ ?_ ?_ ?_ ?_ ?_ ?_ ?_ ?_ ?_ ?_ ?_ ?_ ?_ ?_ ?_ ?_ ?_ ?_ ?_ ?_ ?_ ?_ ?_ ?_ ?_ ?_ ?_ ?_ ?_ ?_ ?_ ?_ ?_ ?_ ?_ ?_ ?_ ?_ ?_ ?_ ?_ ?_ ?_ ?_ ?_ ?_ ?_ ?_ ?_ ?_ ?_ ?_ ?_ ?_ ?_ ?_ ?_ ?_ ?_ ?_ ?_ ?_ ?_ ?_ ?_ ?_ ?_ ?_ ?_ ?_ ?_ ?_ ?_ ?_ ?_ ?_
  all_goals first
   | k_is
   | (unfold K13.FI;k_is)
   | (unfold K13.NF;k_is)
   | (refine' K13.LK.mk ?la ?lb ?lc ?ld;(case la=>k_is);(case lb=>k_is);(case lc=>k_is);(case ld=>k_is))
   | kernel_rfl
   | (refine' K13.PK.mk ?_ ?_ ?_ ?_ ?_<;>k_is)
   | (refine' K13.EK.mk ?_ ?_ ?_ ?_ ?_ ?_ ?_ ?_<;>first|k_is|kernel_rfl)
   | skip
end
