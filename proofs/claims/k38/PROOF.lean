import PyProof.Rows.All
import Wide.All
import OpenK.AllK
import Wide.FinOn
import PyProof.EqAt
import PyProof.EqKinds
import PyProof.TupleCall
import OpenK.KCls
import PyProof.ExcClass2
import PyProof.ExcBaseAll.ValueError
import PyProof.ExcArgs
import PyProof.Rows.Exc
import KE.KIsAll
import PyProof.StationsW
import PyProof.EnumFor
import PyProof.EnumStmt
import PyProof.EnumMake
import PyProof.NeKinds
import PyProof.Rows.SumAny
import KE.KDictSum
import PyProof.Rows.SortWalk
import PyProof.Rows.Range3
import PyProof.Rows.SetFrom
import KE.KEqDict
import PyProof.Rows.DictUnroll
import KE.KRevSl
import PyProof.AutoListH
import PyProof.AttrMiss
import KE.KRevIter
import PyProof.SeqI3
import Wide.Seal
import PySem.Challenge.RW_stillheap_k38_whole_what_hands_tell
set_option Elab.async false
set_option linter.all false
set_option maxRecDepth 100000
set_option maxHeartbeats 4000000
set_option exponentiation.threshold 4000
set_option hygiene false
local macro_rules|`(9e9)=>`(PySem.Challenge.pw_stillheap_k38_whole_what_hands_tell)
local macro_rules|`(9e8)=>`(⟨[],[],[],0,[],[],false,(List.toArray []),[],0,false,false,false,0,[2000,10,10],false,0,true,[],[],0,false⟩)
local macro_rules|`(1e0)=>`(by intro z;cases z)
local macro_rules|`(1e1)=>`(by omega)
local macro_rules|`(1e2)=>`((cxC X scope cl NC h3.objs.size fp {s2 with heap:=h3,toks:=s2.toks} (upd H2 D (.lst []))))
local macro_rules|`(1e3)=>`(by kernel_rfl)
local macro_rules|`(1e4)=>`(Or.inl rfl)
local macro_rules|`(1e5)=>`(aH (pv 0) rfl)
local macro_rules|`(1e6)=>`(model X.prog X.w)
local macro_rules|`(1e7)=>`(λ_ _=>rfl)
local macro_rules|`(1e8)=>`(model prog w)
local macro_rules|`(1e9)=>`(aa (pv 1) aj)
local macro_rules|`(2e0)=>`(λ_ z=>nomatch z)
local macro_rules|`(2e1)=>`(by decide)
local macro_rules|`(9e7 $a $b $c $d $e)=>`(Ok P w K mg base $a $b $c $d $e)
set_option hygiene true
section
open PySem PySem.W PySem.Spec PyProof.Rows
noncomputable def an4:=@List.getElem?_eq_getElem
noncomputable def an5:=@List.getElem?_eq_some_iff
noncomputable def an6:=@List.length_map
noncomputable def an7:=@List.mem_singleton
noncomputable def an8:=@Heap.get?_push_of_some
noncomputable def an9:=@List.mem_of_getElem?
noncomputable def aoa:=@Nat.le_refl
noncomputable def aob:=@Bool.false_ne_true
noncomputable def aoc:=@List.size_toArray
noncomputable def aod:=@List.mem_append_right
noncomputable def aoe:=@Heap.lt_size
noncomputable def aof:=@List.length_append
noncomputable def aog:=@List.getElem?_map
noncomputable def aoh:=@List.take_of_length_le
noncomputable def aoi:=@Nat.lt_of_lt_of_le
noncomputable def aoj:=@List.length_take
noncomputable def aok:=@Nat.ne_of_lt
noncomputable def aol:=@Ne.symm
noncomputable def aom:=@PassesOwn.never
noncomputable def aon:=@List.map_append
noncomputable def aoo:=@Option.map_eq_some_iff
noncomputable def aop:=@List.mem_cons
noncomputable def aoq:=@Array.getElem?_eq_some_iff
noncomputable def aor:=@Int.emod_lt_of_pos
noncomputable def aos:=@Option.some.inj
noncomputable def aot:=@List.mem_append
noncomputable def aou:=@Nat.le_trans
noncomputable def aov:=@List.map_cons
noncomputable def aow:=@List.mem_cons_self
noncomputable def aox:=@List.mem_cons_of_mem
noncomputable def aoy:=@List.mem_map
noncomputable def aoz:=@List.take_succ_eq_append_getElem
noncomputable def aoA:=@Int.emod_nonneg
noncomputable def aoB:=@Heap.get?_push_size
noncomputable def aoC:=@List.mem_append_left
noncomputable def aoD:=@List.length_set
noncomputable def aoE:=@Heap.get?_update_other
noncomputable def aoF:=@List.length_cons
noncomputable def aoG:=@Bool.false_eq_true
noncomputable def aoH:=@List.length_singleton
noncomputable def aoI:=@List.getElem?_append_right
noncomputable def aoJ:=@List.replicate_succ
noncomputable def aoK:=@Bool.eq_false_iff
noncomputable def aoL:=@Nat.zero_le
noncomputable def aoM:=@List.map_map
noncomputable def aoN:=@List.mem_filter
noncomputable def aoO:=@List.getElem?_append_left
noncomputable def aoP:=@PySem.mem_of_lookup
noncomputable def aoQ:=@Int.le_refl
noncomputable def aoR:=@List.length_replicate
noncomputable def aoS:=@List.eq_of_mem_replicate
noncomputable def aoT:=@List.append_nil
noncomputable def aoU:=@List.range_succ
noncomputable def aoV:=@List.getElem_mem
noncomputable def aoW:=@List.getElem?_set_self
noncomputable def aoX:=@List.mem_filterMap
noncomputable def aoY:=@Nat.lt_of_le_of_lt
noncomputable def aoZ:=@Nat.lt_or_ge
noncomputable def ao0:=@List.nodup_append
noncomputable def ao1:=@List.filter_congr
noncomputable def ao2:=@Option.map_some
noncomputable def ao3:=@List.map_congr_left
noncomputable def ao4:=@List.getD_eq_getElem?_getD
noncomputable def ao5:=@List.lookup_cons
noncomputable def ao6:=@List.length_filter_le
noncomputable def ao7:=@List.pairwise_iff_getElem
noncomputable def ao8:=@List.getElem?_set_ne
noncomputable def ao9:=@List.mem_of_mem_take
noncomputable def apa:=@List.flatten_cons
noncomputable def apb:=@Option.isSome_map
noncomputable def apc:=@List.length_range
noncomputable def apd:=@Nat.ne_of_gt
noncomputable def ape:=@Nat.lt_irrefl
noncomputable def apf:=@List.getElem?_replicate
noncomputable def apg:=@List.filter_sublist
noncomputable def aph:=@List.length_drop
noncomputable def api:=@List.all_eq_true
noncomputable def apj:=@List.mem_range
noncomputable def apk:=@List.take_zero
noncomputable def apl:=@List.nodup_cons
noncomputable def apm:=@List.find?_cons
noncomputable def apn:=@List.mem_iff_getElem?
noncomputable def apo:=@List.Pairwise.sublist
noncomputable def apq:=@List.append_assoc
noncomputable def apr:=@List.mem_iff_getElem
noncomputable def aps:=@Heap.size_push
noncomputable def apt:=@List.drop_eq_getElem_cons
noncomputable def apu:=@Classical.byContradiction
noncomputable def apv:=@List.not_mem_nil
noncomputable def apw:=@Option.isSome_iff_exists
noncomputable def apx:=@Bool.eq_iff_iff
noncomputable def apy:=@Calls.spliced_cons
noncomputable def apz:=@List.any_cons
noncomputable def apA:=@Nat.not_lt_zero
noncomputable def apB:=@List.filter_append
noncomputable def apC:=@List.pairwise_singleton
noncomputable def apD:=@Calls.callWith_builtin
noncomputable def apE:=@Nat.le_succ
noncomputable def apF:=@Nat.lt_succ_of_lt
noncomputable def apG:=@List.map_nil
noncomputable def apH:=@List.take_append_drop
noncomputable def apI:=@Nat.lt_succ_self
noncomputable def apJ:=@Bool.and_eq_true
noncomputable def apK:=@Calls.evalArgs_plain
noncomputable def apL:=@List.pairwise_append
noncomputable def apM:=@Array.length_toList
noncomputable def apN:=@Calls.Name_function_global
noncomputable def apO:=@Nat.le_of_lt
noncomputable def apP:=@Nat.sub_self
noncomputable def apQ:=@List.getElem?_drop
noncomputable def apR:=@Bool.and_false
noncomputable def apS:=@Calls.spliced_nil
noncomputable def apT:=@List.getElem?_set
noncomputable def apU:=@List.getElem_take
noncomputable def apV:=@Paired.length
noncomputable def apW:=@List.of_mem_zip
noncomputable def apX:=@List.forIn_cons
noncomputable def apY:=@List.filter_map
end
section
namespace L2
open PySem PySem.Spec PyProof.Rows
noncomputable abbrev Key:=Sum Int Str
noncomputable def u6:Key->Value->Bool
  | .inl k,v=>Value.isInt k v
  | .inr x,v=>Value.isStrOf x v
noncomputable def acO(w:World):Key->Int
  | .inl k=>hashInt k
  | .inr x=>hashStr w x
theorem cx:∀ {k:Key} {v:Value},u6 k v=true->(∃ i t,k=Sum.inl i/\v=Value.int i t)\/(∃ x t,k=Sum.inr x/\v=Value.str x t)
  | .inl i,v,h=>by
    obtain⟨t,e⟩:=Value.isInt_shape (k:=i) (v:=v) h;exact .inl ⟨i,t,rfl,e⟩
  | .inr x,v,h=>by
    obtain⟨t,e⟩:=Value.isStrOf_shape (x:=x) (v:=v) h;exact .inr ⟨x,t,rfl,e⟩
theorem TQ(i:Int)(t:Tok):u6 (.inl i) (.int i t)=true:=by simp[u6,Value.isInt]
theorem TR(x:Str)(t:Tok):u6 (.inr x) (.str x t)=true:=by simp[u6,Value.isStrOf]
theorem Zi(a b:Int):decide ((Sum.inl a:Key)=Sum.inl b)=(a == b):=by
  by_cases e:a=b
  · subst e;simp
  · have h:¬(Sum.inl a:Key)=Sum.inl b:=λq=>e (Sum.inl.inj q)
    rw[decide_eq_false h];exact(beq_eq_false_iff_ne.mpr e).symm
theorem Zj(a b:Str):decide ((Sum.inr a:Key)=Sum.inr b)=decide (a=b):=by
  by_cases e:a=b
  · subst e;simp
  · have h:¬(Sum.inr a:Key)=Sum.inr b:=λq=>e (Sum.inr.inj q)
    rw[decide_eq_false h,decide_eq_false e]
theorem Zk(a:Int)(b:Str):decide ((Sum.inl a:Key)=Sum.inr b)=false:=decide_eq_false (λq=>nomatch q)
theorem Zl(a:Str)(b:Int):decide ((Sum.inr a:Key)=Sum.inl b)=false:=decide_eq_false (λq=>nomatch q)
noncomputable def cA(prog:Program)(w:World):PySem.KeyKind prog w Key where
  is:=u6
  hash:=acO w
  inj:=λv a b ha hb=>by
    rcases cx ha with⟨i,t,rfl,rfl⟩|⟨x,t,rfl,rfl⟩
    · rcases cx hb with⟨j,u,rfl,e⟩|⟨y,u,rfl,e⟩
      · injection e with e1 _;rw[e1]
      · exact nomatch e
    · rcases cx hb with⟨j,u,rfl,e⟩|⟨y,u,rfl,e⟩
      · exact nomatch e
      · injection e with e1 _;rw[e1]
  byValue:=λk v h=>by
    rcases cx h with⟨i,t,rfl,rfl⟩|⟨x,t,rfl,rfl⟩<;>rfl
  pyHash:=λhv h=>by
    rcases cx hv with⟨i,t,rfl,rfl⟩|⟨x,t,rfl,rfl⟩
    · exact wpAny_pyHash_int h
    · exact wpAny_pyHash_str h
  eqBool:=λhu hv h=>by
    rcases cx hu with⟨i,t,rfl,rfl⟩|⟨x,t,rfl,rfl⟩
    · rcases cx hv with⟨j,u,rfl,rfl⟩|⟨y,u,rfl,rfl⟩
      · rw[Zi]at h;exact wpAny_eqBool_int h
      · rw[Zk]at h;exact SeqAt.EqAt.int_str i t y u _ _ _ _ h
    · rcases cx hv with⟨j,u,rfl,rfl⟩|⟨y,u,rfl,rfl⟩
      · rw[Zl]at h;exact SeqAt.EqAt.str_int x t j u _ _ _ _ h
      · rw[Zj]at h;exact wpAny_eqBool_str h
  «strs» := λk x t v h=>by
    rcases cx h with⟨i,u,rfl,e⟩|⟨y,u,rfl,e⟩
    · exact nomatch e
    · injection e with e1 _
      subst e1;cases v<;>rfl
theorem Oa(prog:Program)(w:World)(i:Int)(t:Tok):(cA prog w).is (.inl i) (.int i t)=true:=TQ i t
theorem Ob(prog:Program)(w:World)(x:Str)(t:Tok):(cA prog w).is (.inr x) (.str x t)=true:=TR x t
end L2
namespace L2
open PySem PySem.Spec PyProof.Rows
inductive V where
  | non|bl (b:Bool)|int (i:Int)|str (x:Str)|byt (b:Array UInt8)|flt (b:UInt64)|ref (a:Addr)|ty (n:String)
  deriving DecidableEq
noncomputable def RelV:V->Value->Prop
  | .non,u=>u=Value.none
  | .bl b,u=>u=Value.bool b
  | .int i,u=>∃ t,u=Value.int i t
  | .str x,u=>∃ t,u=Value.str x t
  | .byt b,u=>∃ t,u=Value.bytes b t
  | .flt b,u=>∃ t,u=Value.float b t
  | .ref a,u=>u=Value.ref a
  | .ty n,u=>u=Value.type n
noncomputable abbrev Vals:List V->List Value->Prop:=Paired RelV
theorem Vals.length{xs:List V}{us:List Value}(r:Vals xs us):xs.length=us.length:=apV r
theorem Vals.get:∀ {xs:List V} {us:List Value} {i:Nat} {x:V},Vals xs us->xs[i]?=some x->∃ u,us[i]?=some u/\RelV x u
  | _,_,_,_,.nil,e=>by simp at e
  | _,_,0,_,.cons r _,e=>by simp at e;subst e;exact⟨_,rfl,r⟩
  | _,_,i+1,x,.cons _ t,e=>by
    obtain⟨u,h1,h2⟩:=Vals.get (i:=i) (x:=x) t (by simpa using e);exact⟨u,by simpa using h1,h2⟩
theorem Vals.set{x:V}{u:Value}(r:RelV x u):∀ {xs:List V} {us:List Value} (i:Nat),Vals xs us->Vals (xs.set i x) (us.set i u)
  | _,_,_,.nil=>.nil
  | _,_,0,.cons _ t=>.cons r t
  | _,_,i+1,.cons q t=>.cons q (Vals.set r i t)
theorem Vals.append:∀ {xs ys:List V} {us ws:List Value},Vals xs us->Vals ys ws->Vals (xs++ys) (us++ws)
  | _,_,_,_,.nil,s=>s
  | _,_,_,_,.cons r t,s=>.cons r (Vals.append t s)
theorem Vals.take:∀ {xs:List V} {us:List Value} (n:Nat),Vals xs us->Vals (xs.take n) (us.take n)
  | _,_,0,_=>.nil
  | _,_,_+1,.nil=>.nil
  | _,_,n+1,.cons r t=>.cons r (Vals.take n t)
theorem Vals.drop:∀ {xs:List V} {us:List Value} (n:Nat),Vals xs us->Vals (xs.drop n) (us.drop n)
  | _,_,0,r=>r
  | _,_,_+1,.nil=>.nil
  | _,_,n+1,.cons _ t=>Vals.drop n t
noncomputable def AO:Option V->Option Value->Prop
  | some v,some u=>RelV v u
  | none,none=>True
  | _,_=>False
noncomputable def KV{κ:Type}:List (κ×V)->List (κ×Value)->Prop:=Paired λ(p:κ×V) (q:κ×Value)=>p.1=q.1/\RelV p.2 q.2
noncomputable def kV:Key->V
  | .inl i=>.int i
  | .inr x=>.str x
inductive HO where
  | lst (xs:List V)
  | tup (xs:List V)
  | dK (kvs:List (Key×V))|dT (kvs:List (List Key×V))
  | set (S:Int->Bool) (n:Nat)
  | ins (C dx:Addr) (fs:List (Str×V))
  | own (x:Addr)
  | xd (fs:List (Str×V))
  | met (f x:Addr)
  | rng (lo hi:Int)
  | frz (o:Obj) (u:HO)
  | tbl (ps:Array Value)
  | ext (φ:Heap->Prop)
noncomputable abbrev Hp:=Addr->Option HO
noncomputable def upd(H:Hp)(a:Addr)(o:HO):Hp:=λb=>if b=a then some o else H b
theorem ag{H:Hp}{a:Addr}{o:HO}:upd H a o a=some o:=by unfold upd;rw[if_pos rfl]
theorem af{H:Hp}{a b:Addr}{o:HO}(h:b≠a):upd H a o b=H b:=by unfold upd;rw[if_neg h]
theorem az{H:Hp}{a b:Addr}{o u:HO}(h:H a=some o)(h':H b=some u)(d:o≠u):a≠b:=by
  intro e;subst e;rw[h]at h';exact d (aos h')
theorem aq{H:Hp}{a b:Addr}{o:HO}(h:H a=some o)(h':H b=none):a≠b:=by
  intro e;subst e;rw[h]at h';cases h'
section
variable(P:Program)(w:World)
noncomputable def i7(H:Hp)(h:Heap)(a:Addr):HO->Prop
  | .lst xs=>xs.length<=sizeLine/\∃(its:List Value) (n:Nat),Vals xs its/\h.get? a=some {cls:=.type "list",data:=.seq its.toArray n}
  | .tup xs=>xs.length<=sizeLine/\∃ its:List Value,Vals xs its/\IsTup h a its.toArray
  | .dK kvs=>kvs.length<=sizeLine/\(a == sysModules)=false/\∃ vs,KV kvs vs/\h.DictOf (cA P w) a vs
  | .dT kvs=>kvs.length<=sizeLine/\(a == sysModules)=false/\∃ xs:List (List Key×Addr×Value),
      Paired (λ(p:List Key×V) (q:List Key×Addr×Value)=>p.1=q.1/\H q.2.1=some (.tup (p.1.map kV))/\RelV p.2 q.2.2) kvs xs /\
      ∃ o es ep,h.get? a=some o/\o.ExactDict/\o.data=.dict es ep/\es.toList=xs.map (entryOfKey (tupleKind (cA P w)))/\(xs.map (·.1)).Nodup
  | .set S n=>h.SetOf (intKind P w) a S n
  | .ins C dx fs=>H dx=some (.own a)/\fs.length<=1000/\dx≠a/\h.get? a=some (PySem.W.instObj C dx) /\
      ∃ mA,h.Ns1 dx mA/\(∀ f,AO (fs.lookup f) (mA f))/\PySem.Within mA (fs.map (·.1))
  | .own _=>∃ o,h.get? a=some o
  | .xd fs=>∃ mA,h.Ns1 a mA/\∀ f,AO (fs.lookup f) (mA f)
  | .rng lo hi=>∃ t u v,h.get? a=some {cls:=.type "range",data:=.fields #[.int lo t,.int hi u,.int 1 v]}
  | .frz o u=>h.get? a=some o/\i7 H h a u
  | .tbl ps=>h.get? a=some {cls:=.none,data:=.fields ps}
  | .met f x=>h.get? a=some (PySem.W.methodObj (.ref f) (.ref x))
  | .ext φ=>φ h/\(∃ o,h.get? a=some o)/\∀ h1 h2:Heap,φ h1->(∀ o,h1.get? a=some o->h2.get? a=some o)->φ h2
noncomputable def HOk(H:Hp)(h:Heap):Prop:=∀ a o,H a=some o->i7 P w H h a o
end
section
variable{P:Program}{w:World}{H H':Hp}{h h':Heap}{a:Addr}{o:HO}
theorem i7.lt(x:i7 P w H h a o):a<h.objs.size:=by
  cases o with
  | lst xs=>obtain⟨_,_,_,_,e⟩:=x;exact aoe e
  | tup xs=>obtain⟨_,_,_,p⟩:=x;exact p.lt
  | dK kvs=>obtain⟨_,_,_,_,o,_,_,e,_⟩:=x;exact aoe e
  | dT kvs=>obtain⟨_,_,_,_,o,_,_,e,_⟩:=x;exact aoe e
  | set S n=>obtain⟨o,_,_,_,e,_⟩:=x;exact aoe e
  | ins C dx fs=>obtain⟨_,_,_,e,_⟩:=x;exact aoe e
  | own y=>obtain⟨_,e⟩:=x;exact aoe e
  | xd fs=>obtain⟨_,⟨_,_,_,e,_⟩,_⟩:=x;exact aoe e
  | rng lo hi=>obtain⟨_,_,_,e⟩:=x;exact aoe e
  | frz ob u=>obtain⟨e,_⟩:=x;exact aoe e
  | tbl ps=>exact aoe (show h.get? a=some _ from x)
  | met f y=>exact aoe (show h.get? a=some _ from x)
  | ext φ=>obtain⟨_,⟨_,e⟩,_⟩:=x;exact aoe e
theorem Paired.Z6{α β:Type}{F G:α->β->Prop}:∀ {l₁:List α} {l₂:List β},Paired F l₁ l₂->(∀ a b,F a b->G a b)->Paired G l₁ l₂
  | _,_,.nil,_=>.nil
  | _,_,.cons r t,f=>.cons (f _ _ r) (Paired.Z6 t f)
theorem i7.Le(x:i7 P w H h a o)(k:∀ b u,(b=a\/H b=some (.own a))->h.get? b=some u->h'.get? b=some u)
    (ho:∀ b,H b=some (.own a)->H' b=some (.own a)) (ht:∀ b xs,H b=some (.tup xs)->H' b=some (.tup xs)):i7 P w H' h' a o:=by
  induction o with
  | lst xs=>obtain⟨z,its,n,r,e⟩:=x;exact⟨z,its,n,r,k _ _ (.inl rfl) e⟩
  | tup xs=>obtain⟨z,its,r,ob,e,c⟩:=x;exact⟨z,its,r,ob,k _ _ (.inl rfl) e,c⟩
  | dK kvs=>obtain⟨z,y,vs,r,ob,es,ep,e,c⟩:=x;exact⟨z,y,vs,r,ob,es,ep,k _ _ (.inl rfl) e,c⟩
  | dT kvs =>
    obtain⟨z,y,xs,r,ob,es,ep,e,c⟩:=x;exact⟨z,y,xs,Paired.Z6 r λp q z=>⟨z.1,ht _ _ z.2.1,z.2.2⟩,ob,es,ep,k _ _ (.inl rfl) e,c⟩
  | set S n=>obtain⟨ob,es,ep,t,e,c⟩:=x;exact⟨ob,es,ep,t,k _ _ (.inl rfl) e,c⟩
  | ins C dx fs =>
    obtain⟨d,z,ne,e,mA,⟨od,es,ep,e2,c⟩,r⟩:=x;exact⟨ho _ d,z,ne,k _ _ (.inl rfl) e,mA,⟨od,es,ep,k _ _ (.inr d) e2,c⟩,r⟩
  | own y=>obtain⟨ob,e⟩:=x;exact⟨ob,k _ _ (.inl rfl) e⟩
  | xd fs=>obtain⟨mA,⟨od,es,ep,e,c⟩,r⟩:=x;exact⟨mA,⟨od,es,ep,k _ _ (.inl rfl) e,c⟩,r⟩
  | rng lo hi=>obtain⟨t,u,v,e⟩:=x;exact⟨t,u,v,k _ _ (.inl rfl) e⟩
  | frz ob u ih=>obtain⟨e,q⟩:=x;exact⟨k _ _ (.inl rfl) e,ih q⟩
  | tbl ps =>
    have e:h.get? a=some {cls:=.none,data:=.fields ps}:=x;show h'.get? a=some {cls:=.none,data:=.fields ps};exact k a _ (.inl rfl) e
  | met f y =>
    have e:h.get? a=some (PySem.W.methodObj (.ref f) (.ref y)):=x;show h'.get? a=some (PySem.W.methodObj (.ref f) (.ref y));exact k a _ (.inl rfl) e
  | ext φ=>obtain⟨p,⟨o,e⟩,st⟩:=x;exact⟨st _ _ p λo q=>k _ _ (.inl rfl) q,⟨o,k _ _ (.inl rfl) e⟩,st⟩
theorem HOk.lt(x:HOk P w H h)(e:H a=some o):a<h.objs.size:=(x a o e).lt
theorem HOk.fresh(x:HOk P w H h)(e:h.objs.size<=a):H a=none:=by
  cases q:H a with
  | none=>rfl
  | some u=>exact absurd (aoi (x.lt q) e) (ape _)
theorem HOk.kept(x:HOk P w H h)(k:∀ b u,h.get? b=some u->h'.get? b=some u):HOk P w H h':=λa o e =>
  (x a o e).Le (λb u _ q=>k b u q) (λ_ q=>q) λ_ _ q=>q
theorem HOk.laid(x:HOk P w H h)(k:∀ b u,h.get? b=some u->h'.get? b=some u)(hp:h.objs.size<=a)(new:i7 P w (upd H a o) h' a o):HOk P w (upd H a o) h':=λb u e=>by
  have hn:=x.fresh hp;by_cases hb:b=a
  · subst hb;rw[ag]at e;cases e;exact new
  · rw[af hb]at e
    exact(x b u e).Le (λc v _ q=>k c v q) (λc q=>by rw[af (aq q hn)];exact q) λc xs q=>by rw[af (aq q hn)];exact q
end
noncomputable def Rd(H:Hp)(a:Addr)(u:HO):Prop:=H a=some u\/∃ o,H a=some (.frz o u)
theorem Rd.ok{P:Program}{w:World}{H:Hp}{h:Heap}{a:Addr}{u:HO}(r:Rd H a u)(x:HOk P w H h):i7 P w H h a u:=by
  rcases r with r|⟨o,r⟩
  · exact x a u r
  · obtain⟨_,q⟩:=x a _ r
    exact q
noncomputable def Mut:Option HO->Prop
  | some (.lst _)=>True
  | some (.dK _)=>True
  | some (.dT _)=>True
  | some (.set _ _)=>True
  | some (.ins _ _ _)=>True
  | some (.ext _)=>True
  | _=>False
section
variable{P:Program}{w:World}{H:Hp}{h h':Heap}{x e:Addr}{o':HO}
theorem HOk.write(ok:HOk P w H h)(mu:Mut (H x))(he:e=x\/H e=some (.own x))(k:∀ b u,b≠e->h.get? b=some u->h'.get? b=some u)(heo:∃ u,h'.get? e=some u)
    (new:i7 P w (upd H x o') h' x o'):HOk P w (upd H x o') h':=λb u q=>by
  have acP:∀ c y,H c=some (.own y)->c≠x:=λc y r z=>by subst z;rw[r]at mu;exact mu
  have ajv:∀ c xs,H c=some (.tup xs)->c≠x:=λc xs r z=>by subst z;rw[r]at mu;exact mu
  by_cases hb:b=x
  · subst hb;rw[ag]at q;cases q;exact new
  · rw[af hb]at q
    by_cases hbe:b=e
    · have q':H b=some (.own x):=by
        rcases he with z|z
        · exact absurd (hbe.trans z) hb
        · rw[hbe];exact z
      rw[q]at q';cases q';obtain⟨v,hv⟩:=heo;exact⟨v,by rw[hbe];exact hv⟩
    · refine(ok b u q).Le (λc v hc r=>k c v ?_ r) (λc r=>by rw[af (acP c b r)];exact r) λc xs r=>by rw[af (ajv c xs r)];exact r
      rcases hc with rfl|hc
      · exact hbe
      · rintro rfl
        rcases he with z|z
        · exact acP c b hc z
        · rw[hc]at z;cases z;exact hb rfl
end
structure Un(fs ex:List Addr)(H H':Hp)(h h':Heap):Prop where
  keep:∀ b o,h.get? b=some o->H b=none->b∉fs->b∉ex->h'.get? b=some o
  slot:∀ b o,h.get? b=some o->H b=none->b∈fs->b∉ex->∃ sl,h'.get? b=some {o with slots:=sl}
  free:∀ b o,h.get? b=some o->H b=none->b∉ex->H' b=none
  there:∀ b o,h.get? b=some o->b∉ex->∃ o',h'.get? b=some o'
  Lf:∀ b xs,H b=some (.tup xs)->H' b=some (.tup xs)
  Jv:∀ b o u,H b=some (.frz o u)->H' b=some (.frz o u)
  Lg:∀ b ps,H b=some (.tbl ps)->∃ more,H' b=some (.tbl (ps++more))
section
variable{fs fs' ex ex':List Addr}{H H1 H2:Hp}{h h1 h2 h':Heap}{a x e:Addr}{o:HO}
theorem Un.any(u:Un fs ex H H1 h h1){b:Addr}{ob:Obj}(q:h.get? b=some ob)(n:H b=none)(hx:b∉ex):∃ sl,h1.get? b=some {ob with slots:=sl}:=by
  by_cases hb:b∈fs
  · exact u.slot b ob q n hb hx
  · exact⟨ob.slots,u.keep b ob q n hb hx⟩
theorem Un.kept(k:∀ b u,h.get? b=some u->h'.get? b=some u):Un fs ex H H h h' :=
  ⟨λb ob q _ _ _=>k b ob q,λb ob q _ _ _=>⟨ob.slots,k b ob q⟩,λ_ _ _ n _=>n,λb ob q _=>⟨ob,k b ob q⟩,λ_ _ q=>q,λ_ _ _ q=>q,λ_ ps q=>⟨#[],by rw[q];simp⟩⟩
theorem Un.refl:Un fs ex H H h h:=Un.kept λ_ _ q=>q
theorem Un.laid(k:∀ b u,h.get? b=some u->h'.get? b=some u)(hp:h.objs.size<=a)(hn:H a=none):Un fs ex H (upd H a o) h h' where
  keep:=λb u q _ _ _=>k b u q
  slot:=λb u q _ _ _=>⟨u.slots,k b u q⟩
  free:=λb u q n _=>by rw[af (aok (aoi (aoe q) hp))];exact n
  there:=λb u q _=>⟨u,k b u q⟩
  Lf:=λb xs q=>by rw[af (aq q hn)];exact q
  Jv:=λb u xs q=>by rw[af (aq q hn)];exact q
  Lg:=λb ps q=>⟨#[],by rw[af (aq q hn),q];simp⟩
theorem Un.write(mu:Mut (H x))(he:e=x\/H e=some (.own x))(k:∀ b u,b≠e->h.get? b=some u->h'.get? b=some u)(heo:∃ u,h'.get? e=some u):Un fs ex H (upd H x o) h h':=by
  have hx:∀ b,H b=none->b≠x:=λb n z=>by subst z;rw[n]at mu;exact mu
  have hb:∀ b,H b=none->b≠e:=λb n z=>by
    subst z;rcases he with r|r
    · exact hx b n r
    · rw[n]at r;cases r
  have hm:∀ b u,H b=some u->¬Mut (some u)->b≠x:=λb u q nm z=>by subst z;rw[q]at mu;exact nm mu
  refine⟨λb u q n _ _=>k b u (hb b n) q,λb u q n _ _=>⟨u.slots,k b u (hb b n) q⟩,λb u q n _=>by rw[af (hx b n)];exact n,λb u q _=>?_,
    λb xs q=>by rw[af (hm b _ q λz=>z)];exact q,λb u xs q=>by rw[af (hm b _ q λz=>z)];exact q,λb ps q=>⟨#[],by rw[af (hm b _ q λz=>z),q];simp⟩⟩
  by_cases hbe:b=e
  · subst hbe;exact heo
  · exact⟨u,k b u hbe q⟩
end
noncomputable def trk(h:Heap)(H:Hp):List Addr:=(List.range h.objs.size).filter λa=>(H a).isSome
noncomputable def Q1(h:Heap)(H:Hp):Heap:=PySem.W.hideAll h (trk h H)
theorem TU(h:Heap)(H:Hp):(Q1 h H).objs.size=h.objs.size:=PySem.W.hideAll_size _ _
theorem U8{h:Heap}{H:Hp}{b:Addr}{o:Obj}(e:h.get? b=some o)(n:H b=none):(Q1 h H).get? b=some o :=
  PySem.W.hideAll_get _ e λhm=>by
    have q:(H b).isSome=true:=(aoN.mp hm).2;rw[n]at q;simp at q
theorem Xu{h:Heap}{H:Hp}{b:Addr}{o:Obj}(e:(Q1 h H).get? b=some o):h.get? b=some o/\H b=none:=by
  have e':h.get? b=some o:=PySem.W.of_hideAll (trk h H) e;refine⟨e',?_⟩;cases q:H b with
  | none=>rfl
  | some x =>
    have hm:b∈trk h H:=aoN.mpr ⟨apj.mpr (aoe e'),by simp[q]⟩;have z:(Q1 h H).get? b=none:=PySem.W.hideAll_none (trk h H) hm;rw[z]at e;cases e
end L2
namespace L2
open PySem PySem.Spec PyProof.Rows
structure Mod(K:W.Frag)(mg:Str->Option Value)(base:Heap):Prop where
  kin:K.In base
  glob:base.Ns mainGlobals mg
  blt:∃ mb,base.Ns builtinsNs mb/\∀ x:Str,x ≠ "__name__" -> mb x=bootBuiltins x
  nolimit:base.NoLimit
structure Cx where
  prog:Program
  w:World
  K:W.Frag
  mg:Str->Option Value
  base:Heap
  A:Around
  N:List Str
  s₀:Shared
  H₀:Hp
  env:Env
  outer:List Env
  stack:List Env
  ex:List Addr
  fn:Str->Bool
  calm:Bool
  pn:List (Addr×Obj)
  xe:Value->Shared->Prop
noncomputable def frs(l:List Env):List Addr:=l.filterMap (·.frame)
noncomputable abbrev Cx.fs(X:Cx):List Addr:=frs X.outer
noncomputable def Vis(sc:Scope)(x:Str):Prop:=sc.names.lookup x=some .local\/sc.names.lookup x=some .cell\/sc.names.lookup x=some .free
noncomputable def Loc(sc:Scope)(x:Str):Prop:=sc.names.lookup x=some .local\/sc.names.lookup x=some .cell
noncomputable def Look(env:Env)(h:Heap)(m:Str->Option Value)(x:Str)(u:Value):Prop :=
  (env.kindOf x=some .local/\m x=some u)\/((env.kindOf x=some .cell\/env.kindOf x=some .free)/\∃ c,env.cells.lookup x=some c/\h.IsCell c (some u))
structure Cx.Ok(X:Cx):Prop where
  mod:Mod X.K X.mg X.base
  kind:X.env.scope.kind=.function
  glob:X.env.globals=mainGlobals
  blt:X.env.builtins=builtinsNs
  above:X.s₀.heap.objs.size<=X.env.locals
  inj:∀ x y c,X.env.cells.lookup x=some c->X.env.cells.lookup y=some c->x=y
  has:∀ x,(X.env.kindOf x=some .cell\/X.env.kindOf x=some .free)->∃ c,X.env.cells.lookup x=some c
  cab:∀ x c,X.fn x=true->X.env.cells.lookup x=some c->X.s₀.heap.objs.size<=c
  hd:X.calm=true->X.A.handled=none
  frames:X.A.frames=some X.stack
  stk:X.stack=X.outer\/(X.stack=X.env::X.outer/\X.env.frame=some X.env.locals)
  exf:∀ b∈X.ex,b≠X.env.locals/\∀ x c,X.env.cells.lookup x=some c->c≠b
  bs:∀ b o,X.base.get? b=some o->X.s₀.heap.get? b=some o/\X.H₀ b=none
  bsz:X.base.objs.size<=X.s₀.heap.objs.size
  SE:∀ b o,X.base.get? b=some o->b∉X.ex
  US:∀ b∈X.ex,b∉X.fs
  G5:X.s₀.heap.FunFrames X.base X.outer
  frf:∀ b∈X.fs,X.H₀ b=none
structure Inv(X:Cx)(pins:List (Addr×Obj))(σ:List (Option V))(H:Hp)(s:Shared):Prop where
  ok:X.Ok
  os:s.os=X.s₀.os
  bare:AllBare s.gens
  base:Un X.fs X.ex X.H₀ H X.s₀.heap s.heap
  loc:∃ m,s.heap.Ns X.env.locals m/\∀(i:Nat) (x:Str) (v:V),X.N[i]?=some x->σ[i]?=some (some v)->Vis X.env.scope x->∃ u,RelV v u/\Look X.env s.heap m x u
  cell:∀ x c,X.env.cells.lookup x=some c->∃ v,s.heap.IsCell c v
  free:H X.env.locals=none
  sj:∀ x c,X.env.cells.lookup x=some c->H c=none
  pin:∀ p∈X.pn++pins,s.heap.get? p.1=some p.2/\H p.1=none/\p.1≠X.env.locals/\p.1∉X.fs/\∀ v,p.2.data≠.cell v
  hok:HOk X.prog X.w H s.heap
  len:σ.length=X.N.length
section
variable{X:Cx}{pins:List (Addr×Obj)}{σ:List (Option V)}{H H':Hp}{s:Shared}{h':Heap}
theorem Cx.Ok.ajw(ok:X.Ok){b:Addr}{o:Obj}(e:X.base.get? b=some o):b∉X.fs:=λhb=>by
  have:=(ok.G5.mem hb).1
  rw[e]at this;cases this
theorem Inv.bs(I:Inv X pins σ H s):∀ b o,X.base.get? b=some o->s.heap.get? b=some o/\H b=none:=λb o e =>
  ⟨I.base.keep b o (I.ok.bs b o e).1 (I.ok.bs b o e).2 (I.ok.ajw e) (I.ok.SE b o e),I.base.free b o (I.ok.bs b o e).1 (I.ok.bs b o e).2 (I.ok.SE b o e)⟩
theorem Inv.bk(I:Inv X pins σ H s):∀ b o,X.base.get? b=some o->s.heap.get? b=some o:=λb o e=>(I.bs b o e).1
theorem Inv.mod(I:Inv X pins σ H s):Mod X.K X.mg X.base:=I.ok.mod
theorem Inv.kIn(I:Inv X pins σ H s):X.K.In s.heap:=I.ok.mod.kin.keeps I.bk
theorem Inv.lt(I:Inv X pins σ H s):X.env.locals<s.heap.objs.size:=let ⟨_,hn,_⟩:=I.loc;hn.lt
theorem Inv.sz(I:Inv X pins σ H s):X.s₀.heap.objs.size<=s.heap.objs.size:=aou I.ok.above (apO I.lt)
theorem Inv.ajx(I:Inv X pins σ H s){a:Addr}(h:s.heap.objs.size<=a):a∉X.fs:=λhb=>by
  obtain⟨_,o,ho,_⟩:=I.ok.G5.mem hb;exact absurd (aoi (aoe ho) (aou I.sz h)) (ape _)
theorem Inv.cne(I:Inv X pins σ H s):∀ x c,X.env.cells.lookup x=some c->c≠X.env.locals:=λx c e z=>by
  obtain⟨v,o,ho,hd⟩:=I.cell x c e;obtain⟨m,⟨o',es,ep,ho',hd',_⟩,_⟩:=I.loc;rw[z,ho']at ho;cases ho;rw[hd']at hd;cases hd
theorem Inv.G5(I:Inv X pins σ H s):s.heap.FunFrames X.base X.outer:=by
  have all:∀(l:List Env),(∀ b∈frs l,b∈X.fs)->X.s₀.heap.FunFrames X.base l->s.heap.FunFrames X.base l:=by
    intro l;induction l with
    | nil=>intro _ _;trivial
    | cons env r ih =>
      intro hs hl;obtain⟨hk,⟨L,o,hf,hn,ho,hd⟩,hr⟩:=hl;have hL:L∈X.fs:=hs L (by unfold frs;rw[List.filterMap_cons,hf];exact aow);obtain⟨sl,e⟩:=I.base.slot L o ho (I.ok.frf L hL) hL λz=>I.ok.US L z hL;exact⟨hk,⟨L,_,hf,hn,e,hd⟩,ih (λb hb=>hs b (by unfold frs;rw[List.filterMap_cons,hf];exact aox _ hb)) hr⟩
  exact all X.outer (λ_ hb=>hb) I.ok.G5
theorem Inv.stack(I:Inv X pins σ H s):s.heap.FunFrames X.base X.stack:=by
  rcases I.ok.stk with e|⟨e,hf⟩
  · rw[e];exact I.G5
  · rw[e]
    obtain⟨m,hn,_⟩:=I.loc;refine .cons (by rw[I.ok.kind];decide) hf hn ?_ I.G5;exact Heap.get?_none_of_le (aou I.ok.bsz I.ok.above)
theorem Inv.Dp(I:Inv X pins σ H s):∀ b∈frs X.stack,b∈X.env.locals::X.fs:=λb hb=>by
  rcases I.ok.stk with e|⟨e,hf⟩
  · rw[e]at hb;exact aox _ hb
  · rw[e]at hb
    unfold frs at hb;rw[List.filterMap_cons,hf]at hb;exact hb
theorem Inv.DA(I:Inv X pins σ H s):∀ b∈frs X.stack,H b=none:=λb hb=>by
  rcases aop.mp (I.Dp b hb) with e|hb
  · rw[e];exact I.free
  · obtain⟨_,o,ho,_⟩:=I.ok.G5.mem hb
    exact I.base.free b o ho (I.ok.frf b hb) λz=>I.ok.US b z hb
theorem Inv.step{g':Array GenState}{t':Nat}{d':Drawn}{ch:List Addr}(I:Inv X pins σ H s)
    (hch:∀ b∈ch,(b∈X.ex\/X.s₀.heap.objs.size<=b)/\b≠X.env.locals/\(∀ x c,X.env.cells.lookup x=some c->c≠b)/\∀ p∈X.pn++pins,p.1≠b)
    (keep:∀ b o,b≠X.env.locals->b∉X.fs->b∉ch->s.heap.get? b=some o->H b=none->h'.get? b=some o)
    (slot:∀ b o,b≠X.env.locals->b∈X.fs->b∉ch->s.heap.get? b=some o->H b=none->∃ sl,h'.get? b=some {o with slots:=sl}) (free:∀ b o,b∉ch->s.heap.get? b=some o->H b=none->H' b=none)
    (there:∀ b o,b∉ch->s.heap.get? b=some o->∃ o',h'.get? b=some o')
    (Lf:∀ b xs,H b=some (.tup xs)->H' b=some (.tup xs)) (Jv:∀ b o u,H b=some (.frz o u)->H' b=some (.frz o u)) (Lg:∀ b ps,H b=some (.tbl ps)->∃ more,H' b=some (.tbl (ps++more)))
    (ns:∀ m,s.heap.Ns X.env.locals m->h'.Ns X.env.locals m) (hok:HOk X.prog X.w H' h') (hg:AllBare g') :
    Inv X pins σ H' {s with heap:=h',gens:=g',drawn:=d',toks:=t'}:=by
  have neL:∀ b o,X.s₀.heap.get? b=some o->b≠X.env.locals:=λb o e=>aok (aoi (aoe e) I.ok.above);have neC:∀ b o,X.s₀.heap.get? b=some o->b∉X.ex->b∉ch:=λb o e hx hb=>by
    rcases(hch b hb).1 with z|z
    · exact hx z
    · exact absurd (aoi (aoe e) z) (ape _)
  have cellK:∀ x c,X.env.cells.lookup x=some c->∀ v,s.heap.IsCell c v->h'.IsCell c v:=λx c e v ⟨o,ho,hd⟩=>by
    have nch:c∉ch:=λz=>(hch c z).2.2.1 x c e rfl;by_cases hc:c∈X.fs
    · obtain⟨sl,q⟩:=slot c o (I.cne x c e) hc nch ho (I.sj x c e)
      exact⟨_,q,hd⟩
    · exact⟨o,keep c o (I.cne x c e) hc nch ho (I.sj x c e),hd⟩
  refine⟨I.ok,I.os,hg,⟨λb o e n hb hx=>?_,λb o e n hb hx=>?_,λb o e n hx=>?_,λb o e hx=>?_,λb xs e=>Lf b xs (I.base.Lf b xs e),λb o xs e=>Jv b o xs (I.base.Jv b o xs e),λb ps e=>?_⟩,?_,λx c e=>?_,?_,λx c e=>?_,λp hp=>?_,hok,I.len⟩
  · exact keep b o (neL b o e) hb (neC b o e hx) (I.base.keep b o e n hb hx) (I.base.free b o e n hx)
  · obtain⟨sl,e1⟩:=I.base.slot b o e n hb hx
    obtain⟨sl',e2⟩:=slot b _ (neL b o e) hb (neC b o e hx) e1 (I.base.free b o e n hx);exact⟨sl',e2⟩
  · obtain⟨o',e1⟩:=I.base.there b o e hx
    exact free b o' (neC b o e hx) e1 (I.base.free b o e n hx)
  · obtain⟨o',e1⟩:=I.base.there b o e hx
    exact there b o' (neC b o e hx) e1
  · obtain⟨m1,e1⟩:=I.base.Lg b ps e
    obtain⟨m2,e2⟩:=Lg b _ e1;exact⟨m1++m2,by rw[e2,Array.append_assoc]⟩
  · obtain⟨m,hn,hl⟩:=I.loc
    refine⟨m,ns m hn,λi x v e1 e2 e3=>?_⟩;obtain⟨u,r,l⟩:=hl i x v e1 e2 e3;refine⟨u,r,?_⟩;rcases l with l|⟨k,c,e,z⟩
    · exact .inl l
    · exact .inr ⟨k,c,e,cellK x c e _ z⟩
  · obtain⟨v,z⟩:=I.cell x c e
    exact⟨v,cellK x c e v z⟩
  · obtain⟨m,⟨o,_,_,ho,_⟩,_⟩:=I.loc
    exact free _ o (λz=>(hch _ z).2.1 rfl) ho I.free
  · obtain⟨v,o,ho,hd⟩:=I.cell x c e
    exact free c o (λz=>(hch c z).2.2.1 x c e rfl) ho (I.sj x c e)
  · obtain⟨e,n,ne,nf,d⟩:=I.pin p hp
    have nch:p.1∉ch:=λz=>(hch p.1 z).2.2.2 p hp rfl;exact⟨keep p.1 p.2 ne nf nch e n,free p.1 p.2 nch e n,ne,nf,d⟩
theorem Inv.un{t':Nat}(I:Inv X pins σ H s)(u:Un X.fs [] H H' s.heap h')(hok:HOk X.prog X.w H' h'):Inv X pins σ H' {s with heap:=h',toks:=t'}:=by
  obtain⟨m,⟨o,es,ep,ho,r⟩,_⟩:=id I.loc;obtain⟨sl,hL⟩:=u.any ho I.free (by simp);exact I.step (g':=s.gens) (d':=s.drawn) (ch:=[]) 2e0 (λb o _ hb _ e n=>u.keep b o e n hb (by simp)) (λb o _ hb _ e n=>u.slot b o e n hb (by simp)) (λb o _ e n=>u.free b o e n (by simp)) (λb o _ e=>u.there b o e (by simp)) u.Lf u.Jv u.Lg (λm' hm=>by
    obtain⟨o',es',ep',ho',r'⟩:=hm;rw[ho]at ho';cases ho';exact⟨_,es',ep',hL,r'⟩) hok I.bare
theorem Inv.call{g':Array GenState}{t':Nat}{d':Drawn}{ch:List Addr}(I:Inv X pins σ H s)(u:Un (frs X.stack) ch H H' s.heap h')(hok:HOk X.prog X.w H' h')(hg:AllBare g')
    (hch:∀ b∈ch,(b∈X.ex\/X.s₀.heap.objs.size<=b)/\b≠X.env.locals/\(∀ x c,X.env.cells.lookup x=some c->c≠b)/\∀ p∈X.pn++pins,p.1≠b) :
    Inv X pins σ H' {s with heap:=h',gens:=g',drawn:=d',toks:=t'}:=by
  obtain⟨m,⟨o,es,ep,ho,r⟩,_⟩:=id I.loc;obtain⟨sl,hL⟩:=u.any ho I.free λz=>(hch _ z).2.1 rfl;exact I.step (ch:=ch) hch (λb o hL hb hc e n=>u.keep b o e n (λz=>(aop.mp (I.Dp b z)).elim hL hb) hc) (λb o _ _ hc e n=>u.any e n hc) (λb o hc e n=>u.free b o e n hc) (λb o hc e=>u.there b o e hc) u.Lf u.Jv u.Lg (λm' hm=>by
    obtain⟨o',es',ep',ho',r'⟩:=hm;rw[ho]at ho';cases ho';exact⟨_,es',ep',hL,r'⟩) hok hg
theorem Inv.turned{t':Nat}{it:Addr}(I:Inv X pins σ H s)(k:∀ b o,b≠it->s.heap.get? b=some o->h'.get? b=some o)(hn:H it=none)(hL:it≠X.env.locals)
    (h1:it∈X.ex\/X.s₀.heap.objs.size<=it) (h2:∀ x c,X.env.cells.lookup x=some c->c≠it) (h3:∀ p∈X.pn++pins,p.1≠it):Inv X pins σ H {s with heap:=h',toks:=t'}:=by
  have nit:∀ b u,H b=some u->b≠it:=λb u e z=>by rw[z,hn]at e;cases e
  refine I.step (g':=s.gens) (d':=s.drawn) (ch:=[it]) (λb hb=>?_) (λb o _ _ hc e _=>k b o (λz=>hc (by simp[z])) e) (λb o _ _ hc e _=>⟨o.slots,k b o (λz=>hc (by simp[z])) e⟩) (λ_ _ _ _ n=>n)
    (λb o hc e=>⟨o,k b o (λz=>hc (by simp[z])) e⟩) (λ_ _ e=>e) (λ_ _ _ e=>e) (λb ps e=>⟨#[],by rw[e];simp⟩) (λm hm=>?_) (λb u e=>?_) I.bare
  · have e:b=it:=by simpa using hb
    subst e;exact⟨h1,hL,h2,h3⟩
  · obtain⟨o,es,ep,ho,r⟩:=hm
    exact⟨o,es,ep,k _ o (aol hL) ho,r⟩
  · refine(I.hok b u e).Le (λc v hc q=>k c v ?_ q) (λ_ q=>q) λ_ _ q=>q
    rcases hc with z|z
    · rw[z];exact nit b u e
    · exact nit c _ z
theorem Inv.tok(I:Inv X pins σ H s)(t:Nat):Inv X pins σ H {s with toks:=t}:=I.un (h':=s.heap) (t':=t) Un.refl I.hok
theorem Inv.kept{t':Nat}(I:Inv X pins σ H s)(k:∀ b u,s.heap.get? b=some u->h'.get? b=some u):Inv X pins σ H {s with heap:=h',toks:=t'}:=I.un (Un.kept k) (I.hok.kept k)
theorem Inv.laid{a:Addr}{o:HO}{t':Nat}(I:Inv X pins σ H s)(k:∀ b u,s.heap.get? b=some u->h'.get? b=some u)(hp:s.heap.objs.size<=a)(new:i7 X.prog X.w (upd H a o) h' a o) :
    Inv X pins σ (upd H a o) {s with heap:=h',toks:=t'}:=I.un (Un.laid k hp (I.hok.fresh hp)) (I.hok.laid k hp new)
theorem Inv.write{x e:Addr}{o:HO}{t':Nat}(I:Inv X pins σ H s)(mu:Mut (H x))(he:e=x\/H e=some (.own x))(k:∀ b u,b≠e->s.heap.get? b=some u->h'.get? b=some u)(heo:∃ u,h'.get? e=some u)
    (new:i7 X.prog X.w (upd H x o) h' x o):Inv X pins σ (upd H x o) {s with heap:=h',toks:=t'}:=I.un (Un.write mu he k heo) (I.hok.write mu he k heo new)
theorem Inv.SF{NT:List (Addr×Obj)}(I:Inv X pins σ H s)(h:∀ p∈NT,s.heap.get? p.1=some p.2/\H p.1=none/\p.1≠X.env.locals/\p.1∉X.fs/\∀ v,p.2.data≠.cell v):Inv X NT σ H s :=
  ⟨I.ok,I.os,I.bare,I.base,I.loc,I.cell,I.free,I.sj,λp hp=>(aot.mp hp).elim (λz=>I.pin p (aoC _ z)) (h p),I.hok,I.len⟩
theorem P1{N:List Str}(hN:N.Nodup){i j:Nat}{x:Str}(a:N[i]?=some x)(b:N[j]?=some x):i=j:=by
  obtain⟨h1,e1⟩:=an5.mp a;obtain⟨h2,e2⟩:=an5.mp b;exact(List.getElem_inj hN).mp (e1.trans e2.symm)
theorem TV{M:Model}{A:Around}{E:Value->Shared->Prop}{i:Nat}{x:Str}{v:V}{u:Value}{Q:Unit->Shared->Prop}(I:Inv X pins σ H s)(hN:X.N.Nodup)(hi:X.N[i]?=some x)(hx:Loc X.env.scope x)(r:RelV v u)
    (h:∀ s',Inv X pins (σ.set i (some v)) H s'->(∃ a,Heap.SameBut a s.heap s'.heap/\(a=X.env.locals\/X.env.cells.lookup x=some a))->Q () s') (hf:X.fn x=true\/X.env.scope.names.lookup x=some .local:=by first|exact .inl rfl|exact .inr rfl|assumption):wpAny M A (storeName X.env x u) Q E s:=by
  obtain⟨m,hn,hl⟩:=id I.loc;have ajy:(X.env.scope.kind == .class||(X.env.scope.kind == .module&&X.env.locals != X.env.globals))=false:=by rw[I.ok.kind];rfl
  have hiσ:i<σ.length:=by rw[I.len];exact(an5.mp hi).1
  have cne:=I.cne;have tracked:∀ {a:Addr} {h':Heap},(∃ o,s.heap.get? a=some o/\H a=none)->Heap.SameBut a s.heap h'->HOk X.prog X.w H h':=λ{a h'} ha hs b ob e=>by
    obtain⟨_,_,YF⟩:=ha;refine(I.hok b ob e).Le (λc w' hc q=>(hs.2 c ?_).trans q) (λ_ q=>q) λ_ _ q=>q;rintro rfl;rcases hc with rfl|hc
    · rw[YF]at e;cases e
    · rw[YF]at hc;cases hc
  rcases hx with hk|hk
  · refine wpAny_storeName_local hk hn (λh' hn' hs=>?_) ajy
    obtain⟨oL,_,_,hoL,_⟩:=id hn;refine h _ ⟨I.ok,I.os,I.bare,⟨λb o e n hb hx=>?_,λb o e n hb hx=>?_,I.base.free,λb o e hx=>?_,I.base.Lf,I.base.Jv,I.base.Lg⟩,⟨_,hn',λj y v' e1 e2 e3=>?_⟩,λy c e=>?_,I.free,I.sj,λp hp=>?_,tracked ⟨oL,hoL,I.free⟩ hs,by simpa using I.len⟩ ⟨_,hs,.inl rfl⟩
    · exact(hs.2 b (aok (aoi (aoe e) I.ok.above))).trans (I.base.keep b o e n hb hx)
    · obtain⟨sl,e1⟩:=I.base.slot b o e n hb hx
      exact⟨sl,(hs.2 b (aok (aoi (aoe e) I.ok.above))).trans e1⟩
    · obtain⟨o',e1⟩:=I.base.there b o e hx
      exact⟨o',(hs.2 b (aok (aoi (aoe e) I.ok.above))).trans e1⟩
    · by_cases hj:j=i
      · subst hj
        rw[hi]at e1;cases e1;rw[aoW hiσ]at e2;cases e2;exact⟨u,r,.inl ⟨hk,by simp⟩⟩
      · rw[ao8 (aol hj)]at e2
        obtain⟨u',r',q⟩:=hl j y v' e1 e2 e3;refine⟨u',r',?_⟩;rcases q with⟨k,e⟩|⟨k,c,e,z⟩
        · refine .inl ⟨k,?_⟩
          have:y≠x:=λe=>hj (P1 hN e1 (e ▸ hi))
          simp[this,e]
        · exact .inr ⟨k,c,e,z.sameBut hs (cne y c e)⟩
    · obtain⟨w',z⟩:=I.cell y c e
      exact⟨w',z.sameBut hs (cne y c e)⟩
    · obtain⟨e,n,ne,nf,d⟩:=I.pin p hp
      exact⟨(hs.2 p.1 ne).trans e,n,ne,nf,d⟩
  · have hfn:X.fn x=true:=by
      rcases hf with z|z
      · exact z
      · rw[z]at hk;cases hk
    obtain⟨c,hc⟩:=I.ok.has x (.inl hk);obtain⟨w',z⟩:=I.cell x c hc;refine wpAny_storeName_cell I.ok.kind hk hc z (λh' hc' hs=>?_);obtain⟨oc,hoc,ajz⟩:=id z;refine h {s with heap:=h'} ⟨I.ok,I.os,I.bare,⟨λb o e n hb hx=>?_,λb o e n hb hx=>?_,I.base.free,λb o e hx=>?_,I.base.Lf,I.base.Jv,I.base.Lg⟩,⟨m,hn.sameBut hs (aol (cne x c hc)),λj y v' e1 e2 e3=>?_⟩,λy c' e=>?_,I.free,I.sj,λp hp=>?_,tracked ⟨oc,hoc,I.sj x c hc⟩ hs,by simpa using I.len⟩ ⟨c,hs,.inr hc⟩
    · exact(hs.2 b (aok (aoi (aoe e) (I.ok.cab x c hfn hc)))).trans (I.base.keep b o e n hb hx)
    · obtain⟨sl,e1⟩:=I.base.slot b o e n hb hx
      exact⟨sl,(hs.2 b (aok (aoi (aoe e) (I.ok.cab x c hfn hc)))).trans e1⟩
    · obtain⟨o',e1⟩:=I.base.there b o e hx
      exact⟨o',(hs.2 b (aok (aoi (aoe e) (I.ok.cab x c hfn hc)))).trans e1⟩
    · by_cases hj:j=i
      · subst hj
        rw[hi]at e1;cases e1;rw[aoW hiσ]at e2;cases e2;exact⟨u,r,.inr ⟨.inl hk,c,hc,hc'⟩⟩
      · rw[ao8 (aol hj)]at e2
        obtain⟨u',r',q⟩:=hl j y v' e1 e2 e3;refine⟨u',r',?_⟩;rcases q with q|⟨k,c',e,z'⟩
        · exact .inl q
        · refine .inr ⟨k,c',e,z'.sameBut hs ?_⟩
          rintro rfl;exact hj (P1 hN e1 (I.ok.inj _ _ _ e hc ▸ hi))
    · by_cases hcc:c'=c
      · subst hcc;exact⟨_,hc'⟩
      · obtain⟨w2,z2⟩:=I.cell y c' e
        exact⟨w2,z2.sameBut hs hcc⟩
    · obtain⟨e,n,ne,nf,d⟩:=I.pin p hp
      refine⟨(hs.2 p.1 ?_).trans e,n,ne,nf,d⟩;intro q;rw[q,hoc]at e;have q':oc=p.2:=aos e;exact d w' (by rw[<-q'];exact ajz)
theorem Ji{M:Model}{A:Around}{E:Value->Shared->Prop}{i:Nat}{x:Str}{v:V}{u:Value}{Q:Unit->Shared->Prop}(I:Inv X pins σ H s)(hN:X.N.Nodup)(hi:X.N[i]?=some x)(hx:Loc X.env.scope x)(r:RelV v u)
    (h:∀ s',Inv X pins (σ.set i (some v)) H s'->Q () s') (hf:X.fn x=true\/X.env.scope.names.lookup x=some .local:=by first|exact .inl rfl|exact .inr rfl|assumption):wpAny M A (storeName X.env x u) Q E s :=
  TV I hN hi hx r (λs' I' _=>h s' I') hf
theorem Inv.K8{s':Shared}{ch:List Addr}(I:Inv X pins σ H s)(ho:s'.os=s.os)(u:Un (frs X.stack) ch H H' s.heap s'.heap)(hok:HOk X.prog X.w H' s'.heap)(hg:AllBare s'.gens)
    (hch:∀ b∈ch,(b∈X.ex\/X.s₀.heap.objs.size<=b)/\b≠X.env.locals/\(∀ x c,X.env.cells.lookup x=some c->c≠b)/\∀ p∈X.pn++pins,p.1≠b):Inv X pins σ H' s':=by
  obtain⟨h',g',d',t',o'⟩:=s';have e:o'=s.os:=ho;subst e;exact I.call (g':=g') (t':=t') (d':=d') u hok hg hch
end
noncomputable abbrev XK:=Value->Option Addr->Hp->Prop
noncomputable abbrev St:=List (Option V)
noncomputable abbrev VK:=V->Hp->Prop
noncomputable abbrev TE:=St->Hp->VK->Prop
noncomputable abbrev TT:=St->Hp->(Bool->Hp->Prop)->Prop
noncomputable abbrev TA:=St->Hp->(List V->Hp->Prop)->Prop
structure Ends where
  nx:St->Hp->Prop
  rt:VK
  bk:St->Hp->Prop:=λ_ _=>False
  ct:St->Hp->Prop:=λ_ _=>False
noncomputable abbrev TS:=Ends->St->Hp->Prop
noncomputable def EP(X:Cx)(pins:List (Addr×Obj))(σ:St)(Q:VK)(u:Value)(s':Shared):Prop:=∃ v H',Inv X pins σ H' s'/\RelV v u/\Q v H'
noncomputable def TP(X:Cx)(pins:List (Addr×Obj))(σ:St)(Q:Bool->Hp->Prop)(b:Bool)(s':Shared):Prop:=∃ H',Inv X pins σ H' s'/\Q b H'
noncomputable def AP(X:Cx)(pins:List (Addr×Obj))(σ:St)(Q:List V->Hp->Prop)(us:List Value)(s':Shared):Prop:=∃ vs H',Inv X pins σ H' s'/\Vals vs us/\Q vs H'
noncomputable def SP(X:Cx)(pins:List (Addr×Obj))(D:Ends)(f:Flow)(s':Shared):Prop :=
  match f with
  | .next=>∃ σ' H',Inv X pins σ' H' s'/\D.nx σ' H'
  | .brk=>∃ σ' H',Inv X pins σ' H' s'/\D.bk σ' H'
  | .cont=>∃ σ' H',Inv X pins σ' H' s'/\D.ct σ' H'
  | .ret u=>∃ v σ' H',Inv X pins σ' H' s'/\RelV v u/\D.rt v H'
noncomputable def PE(X:Cx)(e:Expr)(t:TE):Prop :=
  ∀(pins:List (Addr×Obj)) (s:Shared) (σ:St) (H:Hp) (Q:VK),Inv X pins σ H s->t σ H Q->wpAny 1e6 X.A (eval e X.env) (EP X pins σ Q) X.xe s
noncomputable def PT(X:Cx)(e:Expr)(t:TT):Prop :=
  ∀(pins:List (Addr×Obj)) (s:Shared) (σ:St) (H:Hp) (Q:Bool->Hp->Prop),Inv X pins σ H s->t σ H Q->wpAny 1e6 X.A (isTrue e X.env (eval e X.env)) (TP X pins σ Q) X.xe s
noncomputable def PW(X:Cx)(e:Expr)(t:TT):Prop :=
  ∀(whole:Sem Value) (pins:List (Addr×Obj)) (s:Shared) (σ:St) (H:Hp) (Q:Bool->Hp->Prop),Inv X pins σ H s->t σ H Q->wpAny 1e6 X.A (isTrue e X.env whole) (TP X pins σ Q) X.xe s
theorem PW.pt{X:Cx}{e:Expr}{t:TT}(h:PW X e t):PT X e t:=h _
noncomputable def PA(X:Cx)(es:List Expr)(t:TA):Prop :=
  ∀(pos:Pos) (pins:List (Addr×Obj)) (s:Shared) (σ:St) (H:Hp) (Q:List V->Hp->Prop),Inv X pins σ H s->t σ H Q->wpAny 1e6 X.A (spliced (backTo pos (starEach es X.env))) (AP X pins σ Q) X.xe s
noncomputable def PS(X:Cx)(st:Stmt)(t:TS):Prop :=
  ∀(pins:List (Addr×Obj)) (s:Shared) (σ:St) (H:Hp) (D:Ends),Inv X pins σ H s->t D σ H->wpAny 1e6 X.A (exec st X.env) (SP X pins D) X.xe s
noncomputable def PSs(X:Cx)(st:List Stmt)(t:TS):Prop :=
  ∀(pins:List (Addr×Obj)) (s:Shared) (σ:St) (H:Hp) (D:Ends),Inv X pins σ H s->t D σ H->wpAny 1e6 X.A (execs st X.env) (SP X pins D) X.xe s
theorem thn{α:Type}{t:Sem α}{Q Q':α->Shared->Prop}{M:Model}{A:Around}{E:Value->Shared->Prop}{s:Shared}(h:wpAny M A t Q E s)(hQ:∀ a s,Q a s->Q' a s):wpAny M A t Q' E s:=wpAny_mono h hQ λ_ _ x=>x
end L2
namespace L2
open PySem PySem.Spec PyProof.Rows
section
variable{X:Cx}
noncomputable def acQ(i:Nat):TE:=λσ H Q=>∃ v,σ[i]?=some (some v)/\Q v H
noncomputable def tC(v:V):TE:=λ_ H Q=>Q v H
theorem Zm{i:Nat}{x:Str}{pos:Pos}(hN:X.N[i]?=some x)(hv:Vis X.env.scope x)(hd:(x == ("__debug__" : Str))=false:=by decide)(hcd:(x == ("__classdict__" : Str))=false:=by decide):PE X (.Name x pos) (acQ i):=by
  intro pins s σ H Q I h;obtain⟨v,e,h⟩:=h;obtain⟨m,hn,hl⟩:=I.loc;obtain⟨u,r,l⟩:=hl i x v hN e hv;have fin:EP X pins σ Q u s:=⟨v,H,I,r,h⟩;rcases l with⟨hk,hm⟩|⟨hk,c,hc,UH⟩
  · exact wpAny_Name (wpAny_loadName_local I.ok.kind hk hn hm fin) hd
  · rcases hk with hk|hk
    · exact wpAny_Name (wpAny_loadName_cell I.ok.kind hk hc UH fin) hd
    · exact wpAny_Name (wpAny_loadName_free I.ok.kind hk hc UH fin hcd) hd
theorem au{i j pos}:PE X (.Constant (.int i) j pos) (tC (.int i)):=λ_ _ _ H _ I h=>wpAny_Constant_int ⟨.int i,H,I.tok _,⟨_,rfl⟩,h⟩
theorem pe{b j pos}:PE X (.Constant (.bool b) j pos) (tC (.bl b)):=λ_ _ _ H _ I h=>Constant_bool ⟨.bl b,H,I,rfl,h⟩
theorem c8{j pos}:PE X (.Constant .none j pos) (tC .non):=λ_ _ _ H _ I h=>Constant_none ⟨.non,H,I,rfl,h⟩
theorem cR{x j pos}:PE X (.Constant (.str x) j pos) (tC (.str x)):=λ_ _ _ H _ I h=>Calls.Constant_str ⟨.str x,H,I.tok _,⟨_,rfl⟩,h⟩
noncomputable def Gl(X:Cx)(x:Str):Prop:=X.env.kindOf x=some .globalImplicit
theorem qY{E:Value->Shared->Prop}{pins:List (Addr×Obj)}{s:Shared}{σ:St}{H:Hp}{x:Str}{u:Value}{pos:Pos}{Q:Value->Shared->Prop}(I:Inv X pins σ H s)(hg:Gl X x)(hm:X.mg x=some u)(h:Q u s)
    (hd:(x == ("__debug__" : Str))=false:=by decide):wpAny 1e6 X.A (eval (.Name x pos) X.env) Q E s :=
  apN I.ok.kind hg (Calls.loadGlobal_global (by rw[I.ok.glob];exact I.mod.glob.keeps I.bk) hm h) hd
theorem Jw{E:Value->Shared->Prop}{pins:List (Addr×Obj)}{s:Shared}{σ:St}{H:Hp}{x:Str}{u:Value}{pos:Pos}{Q:Value->Shared->Prop}(I:Inv X pins σ H s)(hg:Gl X x)(hm:X.mg x=none)(hv:bootBuiltins x=some u)(h:Q u s)
    (hn:x ≠ "__name__" := by decide) (hd:(x == ("__debug__" : Str))=false:=by decide):wpAny 1e6 X.A (eval (.Name x pos) X.env) Q E s:=by
  obtain⟨mb,h1,h2⟩:=I.mod.blt;exact apN I.ok.kind hg (Calls.loadGlobal_builtin (by rw[I.ok.glob];exact I.mod.glob.keeps I.bk) hm (by rw[I.ok.blt];exact h1.keeps I.bk) ((h2 x hn).trans hv) h) hd
theorem mW{x:Str}{v:V}{u:Value}{pos:Pos}(hg:Gl X x)(hm:X.mg x=some u)(r:RelV v u)(hd:(x == ("__debug__" : Str))=false:=by decide):PE X (.Name x pos) (tC v) :=
  λ_ _ _ H _ I h=>qY I hg hm ⟨v,H,I,r,h⟩ hd
variable{a b:Expr}{ta tb:TE}{pos:Pos}
noncomputable def PC(X:Cx)(op:CmpOp)(a b:Expr)(t:TE):Prop :=
  ∀(pins:List (Addr×Obj)) (s:Shared) (σ:St) (H:Hp) (Q:VK),Inv X pins σ H s->t σ H Q ->
    wpAny 1e6 X.A (eval a X.env) (λv s₁=>wpAny 1e6 X.A (eval b X.env) (λu s₂=>wpAny 1e6 X.A (compareOp op v u) (EP X pins σ Q) X.xe s₂) X.xe s₁) X.xe s
noncomputable def tB(t:TE):TT:=λσ H Q=>t σ H λx H1=>∃ c,x=.bl c/\Q c H1
theorem ui{op:CmpOp}{t:TE}(h:PC X op a b t)(h1:behindInMarks op b=false:=by first|exact nobehind _ (by decide) (by decide)|rfl):PT X (.Compare a [op] [b] pos) (tB t):=by
  intro pins s σ H Q I hw;refine wpAny_isTrue_Compare1 (thn (h pins s σ H _ I hw) λv s1 h1=>thn h1 λu s2 h2=>thn h2 λc s3 ⟨x,H1,I1,r1,q1⟩=>?_) h1;obtain⟨d,rfl,q⟩:=q1;cases r1;exact wpAny_truthy_bool ⟨H1,I1,q⟩
theorem uj{e:Expr}{t:TE}(h:PE X e t)(he:∀ whole,isTrue e X.env whole=(do let v <-whole;standAt e.pos;holding [v] (truthy v)):=by intro _;rfl):PT X e (tB t):=by
  intro pins s σ H Q I hw;refine isTrue_plain (thn (h pins s σ H _ I hw) λv s1 ⟨x,H1,I1,r1,q1⟩=>?_) (he _);obtain⟨d,rfl,q⟩:=q1;cases r1;exact wpAny_truthy_bool ⟨H1,I1,q⟩
variable{tA tB':TT}{rest:List Expr}
noncomputable def ajA(t u:TT):TT:=λσ H Q=>t σ H λc H1=>if c=true then u σ H1 Q else Q false H1
noncomputable def tOr(t u:TT):TT:=λσ H Q=>t σ H λc H1=>if c=true then Q true H1 else u σ H1 Q
noncomputable def ajB(t:TT):TT:=λσ H Q=>t σ H λc H1=>Q (!c) H1
theorem pw_and1(ha:PT X a tA):PW X (.BoolOp .And [a] pos) tA:=by
  intro wh pins s σ H Q I h;refine isTrue_and (thn (ha pins s σ H Q I h) λc s1 e=>?_);cases c with
  | true=>exact isTrue_and_nil e
  | false=>exact e
theorem pw_or1(ha:PT X a tA):PW X (.BoolOp .Or [a] pos) tA:=by
  intro wh pins s σ H Q I h;refine isTrue_or (thn (ha pins s σ H Q I h) λc s1 e=>?_);cases c with
  | false=>exact isTrue_or_nil e
  | true=>exact e
theorem pw_and(ha:PT X a tA)(hb:PW X (.BoolOp .And (b::rest) pos) tB'):PW X (.BoolOp .And (a::b::rest) pos) (ajA tA tB'):=by
  intro wh pins s σ H Q I h;refine isTrue_and (thn (ha pins s σ H _ I h) λc s1 ⟨H1,I1,q1⟩=>?_);cases c with
  | true=>exact hb wh pins s1 σ H1 Q I1 q1
  | false=>exact⟨H1,I1,q1⟩
theorem pw_or(ha:PT X a tA)(hb:PW X (.BoolOp .Or (b::rest) pos) tB'):PW X (.BoolOp .Or (a::b::rest) pos) (tOr tA tB'):=by
  intro wh pins s σ H Q I h;refine isTrue_or (thn (ha pins s σ H _ I h) λc s1 ⟨H1,I1,q1⟩=>?_);cases c with
  | true=>exact⟨H1,I1,q1⟩
  | false=>exact hb wh pins s1 σ H1 Q I1 q1
theorem mR(ha:PT X a tA):PT X (.UnaryOp .Not a pos) (ajB tA):=by
  intro pins s σ H Q I h;exact isTrue_not (ha pins s σ H (λc H1=>Q (!c) H1) I h)
noncomputable def abS(ta tb:TE):TE:=λσ H Q=>ta σ H λx H1=>∃ c,x=.bl c/\if c=true then tb σ H1 Q else Q (.bl false) H1
theorem Zn{op}{t:TE}(h:PE X a t):PE X (.BoolOp op [a] pos) t:=λpins s σ H Q I hw=>BoolOp_one (h pins s σ H Q I hw)
theorem Zo(ha:PE X a ta)(hb:PE X (.BoolOp .And (b::rest) pos) tb):PE X (.BoolOp .And (a::b::rest) pos) (abS ta tb):=by
  intro pins s σ H Q I h;refine BoolOp_and (thn (ha pins s σ H _ I h) λv s1 ⟨x,H1,I1,r1,q1⟩=>?_);obtain⟨c,rfl,q1⟩:=q1;cases r1;refine wpAny_truthy_bool ?_;cases c with
  | true=>exact hb pins s1 σ H1 Q I1 q1
  | false=>exact⟨.bl false,H1,I1,rfl,q1⟩
noncomputable def tIf(t:TT)(ta tb:TE):TE:=λσ H Q=>t σ H λc H1=>if c=true then ta σ H1 Q else tb σ H1 Q
theorem rC{c:Expr}(hc:PT X c tA)(ha:PE X a ta)(hb:PE X b tb):PE X (.IfExp c a b pos) (tIf tA ta tb):=by
  intro pins s σ H Q I h;refine wpAny_IfExp (thn (hc pins s σ H _ I h) λd s1 ⟨H1,I1,q1⟩=>?_);cases d with
  | true=>exact ha pins s1 σ H1 Q I1 q1
  | false=>exact hb pins s1 σ H1 Q I1 q1
end
end L2
namespace L2
open PySem PySem.Spec PyProof.Rows
noncomputable def SqL(K:W.Frag)(H:Hp)(a:Addr)(xs:List V):Prop :=
  Rd H a (.lst xs) \/
    ∃(o:Obj) (its:Array Value) (n:Nat),K.lookup a=some o/\o.cls=.type "list" /\ o.dict=none/\o.data=.seq its n/\its.size<=sizeLine/\Vals xs its.toList
noncomputable def SqT(K:W.Frag)(H:Hp)(a:Addr)(xs:List V):Prop :=
  Rd H a (.tup xs) \/
    ∃(o:Obj) (its:Array Value) (n:Nat),K.lookup a=some o/\o.cls=.type "tuple" /\ o.data=.seq its n/\its.size<=sizeLine/\Vals xs its.toList
noncomputable def ajC:Value->Option V
  | .none=>some .non
  | .bool b=>some (.bl b)
  | .int i _=>some (.int i)
  | .str x _=>some (.str x)
  | .bytes b _=>some (.byt b)
  | .float b _=>some (.flt b)
  | .ref a=>some (.ref a)
  | .type n=>some (.ty n)
  | _=>none
theorem RelV.abs{x:V}{u:Value}(r:RelV x u):ajC u=some x:=by
  cases x with
  | non=>cases r;rfl
  | bl _=>cases r;rfl
  | int _=>obtain⟨t,rfl⟩:=r;rfl
  | str _=>obtain⟨t,rfl⟩:=r;rfl
  | byt _=>obtain⟨t,rfl⟩:=r;rfl
  | flt _=>obtain⟨t,rfl⟩:=r;rfl
  | ref _=>cases r;rfl
  | ty _=>cases r;rfl
theorem RelV.inj{x y:V}{u:Value}(r:RelV x u)(q:RelV y u):x=y:=aos (r.abs.symm.trans q.abs)
theorem Vals.inj:∀ {xs ys:List V} {us:List Value},Vals xs us->Vals ys us->xs=ys
  | _,_,_,.nil,.nil=>rfl
  | _,_,_,.cons r t,.cons r' t'=>by rw[r.inj r',Vals.inj t t']
section
variable{X:Cx}{pins:List (Addr×Obj)}{σ:St}{H:Hp}{s:Shared}{a:Addr}{xs ys:List V}
theorem SqL.of{K:W.Frag}(h:H a=some (.lst xs)):SqL K H a xs:=.inl (.inl h)
theorem SqT.of{K:W.Frag}(h:H a=some (.tup xs)):SqT K H a xs:=.inl (.inl h)
theorem Inv.list(I:Inv X pins σ H s)(h:SqL X.K H a xs):∃ its:List Value,Vals xs its/\PlainL s.heap a its.toArray/\xs.length<=sizeLine:=by
  rcases h with h|⟨o,its,n,hk,hc,hd,hs,hz,r⟩
  · obtain⟨z,its,n,r,e⟩:=h.ok I.hok
    exact⟨its,r,⟨_,n,e,rfl,rfl,rfl⟩,z⟩
  · refine⟨its.toList,r,⟨o,n,I.kIn a o hk,hc,hd,by simpa using hs⟩,?_⟩
    have e:=r.length;simp only[apM]at e;omega
theorem Inv.tuple(I:Inv X pins σ H s)(h:SqT X.K H a xs):∃ its:List Value,Vals xs its/\IsTup s.heap a its.toArray/\xs.length<=sizeLine:=by
  rcases h with h|⟨o,its,n,hk,hc,hs,hz,r⟩
  · obtain⟨z,its,r,p⟩:=h.ok I.hok
    exact⟨its,r,p,z⟩
  · refine⟨its.toList,r,⟨o,I.kIn a o hk,hc,n,by simpa using hs⟩,?_⟩
    have e:=r.length;simp only[apM]at e;omega
theorem Inv.P8(I:Inv X pins σ H s)(h:SqL X.K H a xs)(h':SqL X.K H a ys):xs=ys:=by
  obtain⟨its,r,⟨o,n,e,_,_,d⟩,_⟩:=I.list h;obtain⟨JA,r',⟨o',n',e',_,_,d'⟩,_⟩:=I.list h';rw[e]at e';cases e';rw[d]at d';injection d' with d1 _
  have:its=JA:=by simpa using congrArg Array.toList d1
  subst this;exact r.inj r'
end
noncomputable abbrev Cx.JB(X:Cx)(E:Value->Shared->Prop):Cx:={X with xe:=E}
noncomputable abbrev Cx.nox(X:Cx):Cx:=X.JB λ_ _=>False
theorem Cx.Ok.JB{X:Cx}(ok:X.Ok)(E:Value->Shared->Prop):(X.JB E).Ok :=
  ⟨ok.mod,ok.kind,ok.glob,ok.blt,ok.above,ok.inj,ok.has,ok.cab,ok.hd,ok.frames,ok.stk,ok.exf,ok.bs,ok.bsz,ok.SE,ok.US,ok.G5,ok.frf⟩
theorem Cx.Ok.sD{X:Cx}{E:Value->Shared->Prop}(ok:(X.JB E).Ok):X.Ok :=
  ⟨ok.mod,ok.kind,ok.glob,ok.blt,ok.above,ok.inj,ok.has,ok.cab,ok.hd,ok.frames,ok.stk,ok.exf,ok.bs,ok.bsz,ok.SE,ok.US,ok.G5,ok.frf⟩
section
variable{X:Cx}{pins:List (Addr×Obj)}{σ:St}{H:Hp}{s:Shared}{E:Value->Shared->Prop}
theorem Inv.JB(I:Inv X pins σ H s)(E:Value->Shared->Prop):Inv (X.JB E) pins σ H s:=⟨I.ok.JB E,I.os,I.bare,I.base,I.loc,I.cell,I.free,I.sj,I.pin,I.hok,I.len⟩
theorem Inv.sD(I:Inv (X.JB E) pins σ H s):Inv X pins σ H s:=⟨I.ok.sD,I.os,I.bare,I.base,I.loc,I.cell,I.free,I.sj,I.pin,I.hok,I.len⟩
theorem SP.sD{D:Ends}{f:Flow}{s':Shared}(h:SP (X.JB E) pins D f s'):SP X pins D f s':=by
  cases f with
  | next=>obtain⟨σ',H',I,q⟩:=h;exact⟨σ',H',I.sD,q⟩
  | brk=>obtain⟨σ',H',I,q⟩:=h;exact⟨σ',H',I.sD,q⟩
  | cont=>obtain⟨σ',H',I,q⟩:=h;exact⟨σ',H',I.sD,q⟩
  | ret u=>obtain⟨v,σ',H',I,r,q⟩:=h;exact⟨v,σ',H',I.sD,r,q⟩
theorem PSs.nox{st:List Stmt}{t:TS}(h:PSs X.nox st t):PSs X st t:=λpins s σ H D I hw =>
  wpAny_mono (h pins s σ H D (I.JB _) hw) (λ_ _ q=>q.sD) λ_ _ z=>False.elim z
end
section
variable{X:Cx}{st:Stmt}{rest:List Stmt}{t u:TS}{e:Expr}{te:TE}{pos:Pos}
noncomputable def abT:TS:=λD σ H=>D.nx σ H
noncomputable def NG(t u:TS):TS:=λD σ H=>t {D with nx:=u D} σ H
theorem aO:PSs X [] abT:=λ_ _ σ H _ I h=>wpAny_execs_nil ⟨σ,H,I,h⟩
theorem ak(h1:PS X st t)(h2:PSs X rest u):PSs X (st::rest) (NG t u):=by
  intro pins s σ H D I h;refine wpAny_execs_cons (thn (h1 pins s σ H {D with nx:=u D} I h) λf s1 q=>?_);cases f with
  | next =>
    obtain⟨σ',H',I',q⟩:=q;exact h2 pins s1 σ' H' D I' q
  | ret v=>exact q
  | brk=>exact q
  | cont=>exact q
theorem ai(h1:PS X st t):PSs X [st] t:=by
  intro pins s σ H D I h;refine wpAny_execs_cons (thn (h1 pins s σ H D I h) λf s1 q=>?_);cases f with
  | next=>exact wpAny_execs_nil q
  | ret v=>exact q
  | brk=>exact q
  | cont=>exact q
theorem Inv.quiet{pins:List (Addr×Obj)}{σ:St}{H:Hp}{s:Shared}(I:Inv X pins σ H s):interactive X.env=false:=by simp[interactive,I.ok.kind]
noncomputable def abU(te:TE):TS:=λD σ H=>te σ H λ_ H1=>D.nx σ H1
theorem aI(he:PE X e te)(hs:swapsWith e none pos.line X.env=pure false:=by rfl):PS X (.Expr e pos) (abU te):=by
  intro pins s σ H D I h;exact wpAny_Expr_any (thn (he pins s σ H _ I h) λv s1 ⟨x,H1,I1,r1,q1⟩=>⟨σ,H1,I1,q1⟩) I.quiet hs
noncomputable def ajD(te:TE):TS:=λD σ H=>te σ H D.rt
theorem aG(he:PE X e te):PS X (.Return (some e) pos) (ajD te):=by
  intro pins s σ H D I h;exact wpAny_Return_some (thn (he pins s σ H _ I h) λv s1 ⟨x,H1,I1,r1,q1⟩=>⟨x,σ,H1,I1,r1,q1⟩)
noncomputable def ajE(c:TT)(t u:TS):TS:=λD σ H=>c σ H λb H1=>if b=true then t D σ H1 else u D σ H1
theorem bI{c:Expr}{a b:List Stmt}{tc:TT}(hc:PT X c tc)(ha:PSs X a t)(hb:PSs X b u):PS X (.If c a b pos) (ajE tc t u):=by
  intro pins s σ H D I h;refine wpAny_If (thn (hc pins s σ H _ I h) λd s1 ⟨H1,I1,q1⟩=>?_);cases d with
  | true=>exact ha pins s1 σ H1 D I1 q1
  | false=>exact hb pins s1 σ H1 D I1 q1
end
noncomputable abbrev TG:=V->St->Hp->(St->Hp->Prop)->Prop
noncomputable abbrev TGs:=List V->St->Hp->(St->Hp->Prop)->Prop
noncomputable def PG(X:Cx)(target:Expr)(t:TG):Prop :=
  ∀(pins:List (Addr×Obj)) (s:Shared) (σ:St) (H:Hp) (v:V) (u:Value) (Q:St->Hp->Prop),Inv X pins σ H s->RelV v u->t v σ H Q ->
    wpAny 1e6 X.A (assign target X.env u) (λ_ s'=>∃ σ' H',Inv X pins σ' H' s'/\Q σ' H') X.xe s
noncomputable def PGs(X:Cx)(ts:List Expr)(t:TGs):Prop :=
  ∀(pins:List (Addr×Obj)) (s:Shared) (σ:St) (H:Hp) (vs:List V) (us:List Value) (Q:St->Hp->Prop),Inv X pins σ H s->Vals vs us->t vs σ H Q ->
    wpAny 1e6 X.A (assignInOrder ((assignEach ts X.env).map (·.2)) us) (λ_ s'=>∃ σ' H',Inv X pins σ' H' s'/\Q σ' H') X.xe s
noncomputable abbrev Z7:=V->V->V->Hp->(Hp->Prop)->Prop
noncomputable def acR(X:Cx)(t:Z7):Prop :=
  ∀(pins:List (Addr×Obj)) (s:Shared) (σ:St) (H:Hp) (o i v:V) (ov iv u:Value) (Q:Hp->Prop),Inv X pins σ H s->RelV o ov->RelV i iv->RelV v u->t o i v H Q ->
    wpAny 1e6 X.A (setItem ov iv u) (λ_ s'=>∃ H',Inv X pins σ H' s'/\Q H') X.xe s
noncomputable abbrev TIp:=V->V->Hp->VK->Prop
noncomputable def PIp(X:Cx)(op:Operator)(t:TIp):Prop :=
  ∀(pins:List (Addr×Obj)) (s:Shared) (σ:St) (H:Hp) (x y:V) (v u:Value) (Q:VK),Inv X pins σ H s->RelV x v->RelV y u->t x y H Q ->
    wpAny 1e6 X.A (inplaceOp op v u) (EP X pins σ Q) X.xe s
section
variable{X:Cx}{pos:Pos}
noncomputable def tS(i:Nat):TG:=λv σ H Q=>Q (σ.set i (some v)) H
theorem aX{i:Nat}{x:Str}(hN:X.N.Nodup)(hi:X.N[i]?=some x)(hx:Loc X.env.scope x)(hf:X.fn x=true\/X.env.scope.names.lookup x=some .local:=by first|exact .inl rfl|exact .inr rfl|assumption):PG X (.Name x pos) (tS i):=by
  intro pins s σ H v u Q I r h;exact wpAny_assign_Name (Ji I hN hi hx r (λs' I'=>⟨_,H,I',h⟩) hf)
noncomputable def ajF:TGs:=λvs σ H Q=>vs=[]/\Q σ H
noncomputable def abV(t:TG)(u:TGs):TGs:=λvs σ H Q=>∃ v r,vs=v::r/\t v σ H λσ' H'=>u r σ' H' Q
theorem qZ:PGs X [] ajF:=by
  intro pins s σ H vs us Q I r h;obtain⟨e,h⟩:=h;subst e;cases r;exact assignInOrder_nil ⟨σ,H,I,h⟩
theorem dG{e:Expr}{es:List Expr}{t:TG}{u:TGs}(h1:PG X e t)(h2:PGs X es u)
    (hs:(assignEach (e::es) X.env).map (·.2)=assign e X.env::(assignEach es X.env).map (·.2):=by rfl):PGs X (e::es) (abV t u):=by
  intro pins s σ H vs us Q I r h;obtain⟨v,vr,e1,h⟩:=h;subst e1;cases r with
  | cons r rr =>
    rw[hs];refine assignInOrder_cons (thn (h1 pins s σ H _ _ _ I r h) λ_ s1 ⟨σ1,H1,I1,q1⟩=>?_);exact h2 pins s1 σ1 H1 _ _ Q I1 rr q1
noncomputable def ajG(K:W.Frag)(n:Nat)(t:TGs):TG:=λv σ H Q=>∃ a xs,v=.ref a/\SqT K H a xs/\xs.length=n/\t xs σ H Q
theorem vR{es:List Expr}{k:Nat}{t:TGs}{n:Nat}(hc:X.calm=true)(h:PGs X es t)
    (hn:(assignEach es X.env).length=n:=by rfl) (hst:(assignEach es X.env).findIdx? (·.1)=none:=by rfl):PG X (.Tuple es k pos) (ajG X.K n t):=by
  intro pins s σ H v u Q I r hw;obtain⟨a,xs,e1,hq,hl,hw⟩:=hw;subst e1;cases r;obtain⟨its,rv,ht,hz⟩:=I.tuple hq;refine assign_Tuple_tuple (I.ok.hd hc) ht (by simp[hn,<-hl,rv.length]) hst λh' hx=>?_;have I1:Inv X pins σ H {s with heap:=h'}:=I.kept (t':=s.toks) λb o e=>hx b o (aok (aoe e)) e;exact h pins _ σ H xs _ Q I1 (by simpa using rv) hw
noncomputable def ajH(to ti:TE)(t:Z7):TG:=λv σ H Q=>to σ H λo H1=>ti σ H1 λi H2=>t o i v H2 λH3=>Q σ H3
theorem pO{o i:Expr}{to ti:TE}{t:Z7}(ho:PE X o to)(hi:PE X i ti)(hs:acR X t)
    (ha:∀ v,assign (.Subscript o i pos) X.env v=(do
      let ov <-holding [v] (eval o X.env)
      let iv <-holding [v,ov] (eval i X.env)
      standAt pos
      holding [v,ov,iv] (setItem ov iv v)
      release [v,ov,iv] []):=by intro _;rfl):PG X (.Subscript o i pos) (ajH to ti t):=by
  intro pins s σ H v u Q I r h;rw[ha];refine wpAny_bind (wpAny_holding (thn (ho pins s σ H _ I h) λov s1 ⟨x,H1,I1,r1,q1⟩=>?_));refine wpAny_bind (wpAny_holding (thn (hi pins s1 σ H1 _ I1 q1) λiv s2 ⟨y,H2,I2,r2,q2⟩=>?_));refine wpAny_bind (wpAny_standAt (wpAny_bind (wpAny_holding (thn (hs pins s2 σ H2 x y v ov iv u _ I2 r1 r2 r q2) λ_ s3 ⟨H3,I3,q3⟩=>?_))));exact wpAny_release ⟨σ,H3,I3,q3⟩
noncomputable def Xv(te:TE)(g:TG):TS:=λD σ H=>te σ H λx H1=>g x σ H1 D.nx
theorem mS{tg e:Expr}{te:TE}{g:TG}(he:PE X e te)(hg:PG X tg g)(hs:swapsWithSole [tg] e pos.line X.env=pure false:=by rfl)(hw:swappedStores [tg] e X.env=pure none:=by rfl)
    (h1:(assignEach [tg] X.env).map (·.2)=[assign tg X.env]:=by rfl):PS X (.Assign [tg] e pos) (Xv te g):=by
  intro pins s σ H D I h;refine wpAny_Assign_stores (thn (he pins s σ H _ I h) λv s1 ⟨x,H1,I1,r1,q1⟩=>?_) hs hw;rw[h1];exact thn (hg pins s1 σ H1 x v _ I1 r1 q1) λ_ s2 q=>q
theorem aN{i:Nat}{x:Str}{e:Expr}{te:TE}{pos':Pos}(hN:X.N.Nodup)(hi:X.N[i]?=some x)(hx:Loc X.env.scope x)(he:PE X e te)(hs:swapsWith e (some (.Name x pos')) pos.line X.env=pure false:=by rfl)(hf:X.fn x=true\/X.env.scope.names.lookup x=some .local:=by first|exact .inl rfl|exact .inr rfl|assumption) :
    PS X (.Assign [.Name x pos'] e pos) (Xv te (tS i)):=by
  intro pins s σ H D I h;refine wpAny_Assign_Name (thn (he pins s σ H _ I h) λv s1 ⟨y,H1,I1,r1,q1⟩=>?_) hs;exact Ji I1 hN hi hx r1 (λs2 I2=>⟨_,H1,I2,q1⟩) hf
noncomputable def ajI(i:Nat)(te:TE)(ti:TIp):TS:=λD σ H=>∃ x,σ[i]?=some (some x)/\te σ H λy H1=>ti x y H1 λz H2=>D.nx (σ.set i (some z)) H2
theorem Zp{i:Nat}{x:Str}{e:Expr}{te:TE}{op:Operator}{ti:TIp}{pos':Pos}(hN:X.N.Nodup)(hi:X.N[i]?=some x)(hx:Loc X.env.scope x)(he:PE X e te)(ho:PIp X op ti)(hf:X.fn x=true\/X.env.scope.names.lookup x=some .local:=by first|exact .inl rfl|exact .inr rfl|assumption) :
    PS X (.AugAssign (.Name x pos') op e pos) (ajI i te ti):=by
  intro pins s σ H D I h;obtain⟨v,e1,h⟩:=h;obtain⟨m,hn,hl⟩:=I.loc;have vis:Vis X.env.scope x:=by rcases hx with k|k;exact .inl k;exact .inr (.inl k)
  obtain⟨u,r,l⟩:=hl i x v hi e1 vis;refine wpAny_AugAssign_Name ?_;have go:wpAny 1e6 X.A (eval e X.env) (λw s₂=>wpAny 1e6 X.A (inplaceOp op u w) (λr s₃=>wpAny 1e6 X.A (storeName X.env x r) (λ_=>SP X pins D .next) X.xe s₃) X.xe s₂) X.xe s:=by
    refine thn (he pins s σ H _ I h) λw s1 ⟨y,H1,I1,r1,q1⟩=>?_;refine thn (ho pins s1 σ H1 v y u w _ I1 r r1 q1) λz s2 ⟨zv,H2,I2,r2,q2⟩=>?_;exact Ji I2 hN hi hx r2 (λs3 I3=>⟨_,H2,I3,q2⟩) hf
  rcases l with⟨hk,hm⟩|⟨hk,c,hc,UH⟩
  · exact wpAny_loadName_local I.ok.kind hk hn hm go
  · rcases hk with hk|hk
    · exact wpAny_loadName_cell I.ok.kind hk hc UH go
    · rcases hx with k|k
      · have:X.env.scope.names.lookup x=some .free:=hk
        rw[k]at this;cases this
      · have:X.env.scope.names.lookup x=some .free:=hk
        rw[k]at this;cases this
noncomputable def ipI(f:Int->Int->Int):TIp:=λx y H Q=>∃ i j,x=.int i/\y=.int j/\Q (.int (f i j)) H
theorem Zq:PIp X .Add (ipI λi j=>i+j):=by
  intro pins s σ H x y v u Q I r1 r2 h;obtain⟨i,j,e1,e2,q⟩:=h;subst e1;subst e2;obtain⟨t,rfl⟩:=r1;obtain⟨t',rfl⟩:=r2;exact iadd_int ⟨.int _,H,I.tok _,⟨_,rfl⟩,q⟩
end
section
variable{X:Cx}{pos:Pos}
noncomputable def Zr(c:TT)(tb:TS):TS:=λD σ H=>∃ W:Nat->St->Hp->Prop,(∃ m,W m σ H)/\∀ m σ H,W m σ H ->
  c σ H λb H1=>if b=true then ∃ N:St->Hp->Prop,(∀ σ' H',N σ' H'->∃ m',m'<m/\W m' σ' H')/\tb {D with nx:=N,ct:=N,bk:=D.nx} σ H1 else D.nx σ H1
theorem Jj{c:Expr}{body:List Stmt}{tc:TT}{tb:TS}(hp:PassesOwn (model X.prog X.w) X.A X.env X.xe)(hc:PT X c tc)(hb:PSs X body tb):PS X (.While c body [] pos) (Zr tc tb):=by
  intro pins s σ H D I h;obtain⟨W,⟨m0,w0⟩,turn⟩:=h;refine wpAny_While (codeAny_whileLoop (λn s'=>∃ σ' H',Inv X pins σ' H' s'/\W n σ' H') ?_ m0 ⟨σ,H,I,w0⟩);rintro n s1 ⟨σ1,H1,I1,w1⟩;refine wpAny_passesOwn hp (thn (hc pins s1 σ1 H1 _ I1 (turn n σ1 H1 w1)) λb s2 ⟨H2,I2,q2⟩=>?_);cases b with
  | true =>
    obtain⟨N,hN,q2⟩:=q2;rw[if_pos rfl];refine wpAny_passesOwn hp (thn (hb pins s2 σ1 H2 _ I2 q2) λf s3 q3=>?_);cases f with
    | next =>
      obtain⟨σ3,H3,I3,n3⟩:=q3;obtain⟨m',hm,w3⟩:=hN σ3 H3 n3;exact⟨m',hm,σ3,H3,I3,w3⟩
    | cont =>
      obtain⟨σ3,H3,I3,n3⟩:=q3;obtain⟨m',hm,w3⟩:=hN σ3 H3 n3;exact⟨m',hm,σ3,H3,I3,w3⟩
    | brk=>exact q3
    | ret v=>exact q3
  | false =>
    rw[if_neg aob];exact wpAny_execs_nil ⟨σ1,H2,I2,q2⟩
end
structure It where
  go:Nat->Hp->Prop
  yld:Nat->Hp->V->Hp->Prop
  stop:Nat->Hp->Prop
noncomputable def G6(X:Cx)(pins:List (Addr×Obj))(H:Hp)(b:Addr):Prop :=
  H b=none/\b≠X.env.locals/\b∉X.fs/\(b∈X.ex\/X.s₀.heap.objs.size<=b)/\(∀ x c,X.env.cells.lookup x=some c->c≠b)/\∀ p∈X.pn++pins,p.1≠b
theorem Inv.VN{X:Cx}{pins:List (Addr×Obj)}{σ:St}{H H':Hp}{s:Shared}{b:Addr}(I:Inv X pins σ H s)(hb:s.heap.objs.size<=b)(hn:H' b=none):G6 X pins H' b:=by
  refine⟨hn,apd (aoi I.lt hb),I.ajx hb,.inr (aou I.sz hb),λx c e z=>?_,λp hp z=>?_⟩
  · obtain⟨v,q⟩:=I.cell x c e
    exact absurd (aoi q.lt (by rw[z];exact hb)) (ape _)
  · exact absurd (aoi (aoe (I.pin p hp).1) (by rw[z];exact hb)) (ape _)
structure Turn(P:Program)(w:World)(K:W.Frag)(tg:Expr)(J:It)(fp:List Addr)(it:Addr)(tn:Nat->Heap->Prop):Prop where
  mem:it∈fp
  obj:∀ i h,tn i h->∀ b∈fp,∃ o,h.get? b=some o/\∀ v,o.data≠.cell v
  keep:∀ i h h',tn i h->(∀ b∈fp,∀ o,h.get? b=some o->h'.get? b=some o)->tn i h'
  item:∀(X:Cx),X.prog=P->X.w=w->X.K=K->X.calm=true->∀(i:Nat) (pins:List (Addr×Obj)) (s:Shared) (σ:St) (H:Hp) (E:Value->Shared->Prop),Inv X pins σ H s->(∀ b∈fp,G6 X pins H b)->tn i s.heap->J.go i H ->
    wpAny (model P w) X.A (pyNext (.ref it)) (λr s1=>∃ u,r=some u /\
      wpAny (model P w) X.A (letOwnedTupleGo tg (.ref it) u) (λ_ s2=>∃ x H',Inv X pins σ H' s2/\RelV x u/\J.yld i H x H'/\tn (i+1) s2.heap/\∀ b∈fp,H' b=none) E s1) E s
  done:∀(X:Cx),X.prog=P->X.w=w->X.K=K->X.calm=true->∀(i:Nat) (pins:List (Addr×Obj)) (s:Shared) (σ:St) (H:Hp) (E:Value->Shared->Prop),Inv X pins σ H s->(∀ b∈fp,G6 X pins H b)->tn i s.heap->J.stop i H ->
    wpAny (model P w) X.A (pyNext (.ref it)) (λr s1=>r=none/\Inv X pins σ H s1) E s
  self:∀(A:Around) (i:Nat) (s:Shared) (Q:Value->Shared->Prop) (E:Value->Shared->Prop),tn i s.heap->Q (.ref it) s->wpAny (model P w) A (pyIter (.ref it)) Q E s
noncomputable abbrev TI:=St->Hp->(It->Hp->Prop)->Prop
noncomputable def PIE(X:Cx)(pins:List (Addr×Obj))(σ:St)(tg:Expr)(R:It->Hp->Prop)(itv:Value)(s2:Shared):Prop :=
  ∃(it:Addr) (fp:List Addr) (tn:Nat->Heap->Prop) (J:It) (H':Hp),itv=.ref it/\Inv X pins σ H' s2/\Turn X.prog X.w X.K tg J fp it tn/\tn 0 s2.heap/\(∀ b∈fp,G6 X pins H' b)/\R J H'
noncomputable def PI(X:Cx)(tg iter:Expr)(wi:TI):Prop :=
  ∀(pins:List (Addr×Obj)) (s:Shared) (σ:St) (H:Hp) (R:It->Hp->Prop),Inv X pins σ H s->wi σ H R ->
    wpAny 1e6 X.A (eval iter X.env) (λv s1=>wpAny 1e6 X.A (pyIter v) (PIE X pins σ tg R) X.xe s1) X.xe s
theorem YG{M:Model}{A:Around}{E:Value->Shared->Prop}{s:Shared}{tg:Expr}{it:Addr}{u:Value}{o:Obj}{n:String}{vs:Array Value}{Q:Unit->Shared->Prop}(ho:s.heap.get? it=some o)(hc:o.cls=.type n)(hd:o.data=.fields vs)
    (hn:["enumerate","zip","dict_itemiterator","dict_reverseitemiterator","odict_iterator","itertools.zip_longest","itertools.pairwise"].contains n=false) (hQ:Q () s):wpAny M A (letOwnedTupleGo tg (.ref it) u) Q E s:=by
  unfold letOwnedTupleGo;cases tg<;>first
    | exact wpAny_pure hQ
    | (cases u<;>first
        | exact wpAny_pure hQ
        | (refine wpAny_bind (wpAny_load ho ?_)
           rw[hc,hd];show wpAny M A (if(["enumerate","zip","dict_itemiterator","dict_reverseitemiterator","odict_iterator","itertools.zip_longest","itertools.pairwise"].contains n&&vs[0]? == some (rawInt _))=true then _ else _) Q E s;rw[if_neg (by intro h;rw[hn,Bool.false_and]at h;cases h)];exact wpAny_pure hQ))
noncomputable def Itl(K:W.Frag)(a:Addr):It :=
  ⟨λi H=>∃ xs x,SqL K H a xs/\xs[i]?=some x,λi H x H'=>H'=H/\∀ xs,SqL K H a xs->xs[i]?=some x,λi H=>∃ xs,SqL K H a xs/\xs.length<=i⟩
noncomputable def Itr(lo:Int)(n:Nat):It:=⟨λi _=>i<n,λi H x H'=>H'=H/\x=.int (lo+i),λi _=>n<=i⟩
theorem TX{P:Program}{w:World}{K:W.Frag}{tg:Expr}(a it:Addr):Turn P w K tg (Itl K a) [it] it (λi h=>h.IsListIter it a i) where
  mem:=by simp
  obj:=λi h st b hb=>by
    have e:b=it:=(by simpa using hb);subst e;obtain⟨o,e,c,d⟩:=st;exact⟨o,e,λv z=>by rw[d]at z;cases z⟩
  keep:=λi h h' st k=>st.at λo e=>k it (by simp) o e
  item:=by
    intro X hP hw hK hc i pins s σ H E I hf st hg;subst hP hw hK;obtain⟨xs,x,hq,hx⟩:=hg;obtain⟨its,rv,p,hz⟩:=I.list hq;obtain⟨u,hu,ru⟩:=rv.get hx;obtain⟨f0,f1,f2,f3,f4,f5⟩:=hf it (by simp);refine wpAny_pyNext_list_item st p.isList (x:=u) (by simpa using hu) λh' st' sb=>?_;have I1:Inv X pins σ H {s with heap:=h'}:=I.turned (t':=s.toks) (λb o hb e=>(sb.2 b hb).trans e) f0 f1 f3 f4 f5;obtain⟨o,e,c,d⟩:=id st';exact⟨u,rfl,YG (s:={s with heap:=h'}) e c d 2e1 ⟨x,H,I1,ru,⟨rfl,λys hy=>by rw[I.P8 hy hq];exact hx⟩,st',λb hb=>(hf b hb).1⟩⟩
  done:=by
    intro X hP hw hK hc i pins s σ H E I hf st hg;subst hP hw hK;obtain⟨xs,hq,hx⟩:=hg;obtain⟨its,rv,p,hz⟩:=I.list hq;obtain⟨f0,f1,f2,f3,f4,f5⟩:=hf it (by simp);have hl:=rv.length;exact wpAny_pyNext_list_end (I.ok.hd hc) st p.isList (by simp;omega) λh' eb=>⟨rfl,I.turned (t':=s.toks) (λb o hb e=>eb b o hb e) f0 f1 f3 f4 f5⟩
  self:=λ_ _ _ _ _ st h=>wpAny_pyIter_listiter st h
theorem Q2{P:Program}{w:World}{K:W.Frag}{tg:Expr}(it:Addr)(lo:Int)(n:Nat):Turn P w K tg (Itr lo n) [it] it (λi h=>IsRangeIter h it (lo+(i:Nat)*1) ((n:Int)-(i:Nat)) 1) where
  mem:=by simp
  obj:=λi h st b hb=>by
    have e:b=it:=(by simpa using hb);subst e;exact⟨_,st,λv z=>by
      have z':Data.fields _=Data.cell v:=z;cases z'⟩
  keep:=λi h h' st k=>k it (by simp) _ st
  item:=by
    intro X hP hw hK hc i pins s σ H E I hf st hg;subst hP hw hK;obtain⟨f0,f1,f2,f3,f4,f5⟩:=hf it (by simp);have W:=Walks.range (prog:=X.prog) (w:=X.w) (I.ok.hd hc) it lo 1 n;refine W.item i s _ _ hg st λv h' tk hv st' kk=>?_;obtain⟨t,rfl⟩:=hv;have I1:Inv X pins σ H {s with heap:=h',toks:=tk}:=I.turned (λb o hb e=>kk b o (by simpa using hb) e) f0 f1 f3 f4 f5;refine⟨_,rfl,YG (s:={s with heap:=h',toks:=tk}) (n := "range_iterator") st' rfl rfl 2e1 ⟨.int (lo+i),H,I1,⟨t,?_⟩,⟨rfl,rfl⟩,st',λb hb=>(hf b hb).1⟩⟩;rw[Int.mul_one]
  done:=by
    intro X hP hw hK hc i pins s σ H E I hf st hg;subst hP hw hK;obtain⟨f0,f1,f2,f3,f4,f5⟩:=hf it (by simp);exact wpAny_pyNext_range_end (I.ok.hd hc) st (by have:n<=i:=hg;omega) λh' eb=>⟨rfl,I.turned (t':=s.toks) (λb o hb e=>eb b o hb e) f0 f1 f3 f4 f5⟩
  self:=λ_ _ _ _ _ st h=>wpAny_pyIter_rangeiter st h
end L2
namespace L2
open PySem PySem.Spec PyProof.Rows
section
variable{X:Cx}{tg:Expr}
noncomputable def abW(K:W.Frag)(tl:TE):TI:=λσ H R=>tl σ H λx H1=>∃ a,x=.ref a/\(∃ xs,SqL K H1 a xs)/\R (Itl K a) H1
theorem gS{l:Expr}{tl:TE}(hl:PE X l tl):PI X tg l (abW X.K tl):=by
  intro pins s σ H R I h;refine thn (hl pins s σ H _ I h) λv s1 ⟨x,H1,I1,r1,q1⟩=>?_;obtain⟨a,e,⟨xs,hq⟩,q⟩:=q1;subst e;cases r1;obtain⟨its,rv,p,hz⟩:=I1.list hq;refine wpAny_pyIter_list p.isList ?_;refine⟨s1.heap.objs.size,[s1.heap.objs.size],_,_,H1,rfl,I1.kept (t':=s1.toks) λb o e=>an8 _ e,TX a _,⟨_,aoB _ rfl,rfl,rfl⟩,λb hb=>?_,q⟩;have e:b=s1.heap.objs.size:=by simpa using hb
  subst e;exact I1.VN (aoa _) (I1.hok.fresh (aoa _))
theorem U9{pins:List (Addr×Obj)}{σ:St}{H:Hp}{s:Shared}{R:It->Hp->Prop}{E:Value->Shared->Prop}{lo hi:Int}{t u v:Tok}{tk:Nat}(I:Inv X pins σ H s)(h1:-(2 ^ 62)<=lo)(h2:lo<2 ^ 62)(h3:-(2 ^ 62)<=hi)(h4:hi<2 ^ 62)
    (q:R (Itr lo (hi-lo).toNat) H):wpAny 1e6 X.A (pyIter (.ref s.heap.objs.size)) (PIE X pins σ tg R) E {s with heap:=s.heap.push {cls:=.type "range",data:=.fields #[.int lo t,.int hi u,.int 1 v]},toks:=tk}:=by
  refine wpAny_pyIter_range (IsRange.new ..) (small_one h1 h2 h3 h4) ?_;have I1:Inv X pins σ H {s with heap:=s.heap.push {cls:=.type "range",data:=.fields #[.int lo t,.int hi u,.int 1 v]},toks:=tk}:=I.kept λb o e=>an8 _ e;refine⟨(s.heap.push {cls:=.type "range",data:=.fields #[.int lo t,.int hi u,.int 1 v]}).objs.size,[(s.heap.push {cls:=.type "range",data:=.fields #[.int lo t,.int hi u,.int 1 v]}).objs.size],_,_,H,rfl,
    I1.kept (t':=tk) λb o e=>an8 _ e,Q2 _ lo (hi-lo).toNat,?_,λb hb=>?_,q⟩
  · have e1:lo+((0:Nat):Int)*1=lo:=by simp
    have e2:(((hi-lo).toNat:Nat):Int)-((0:Nat):Int)=Builtin.Range.rangeSize lo hi 1:=(by rw[rangeSize_one];split<;>omega);show IsRangeIter _ _ (lo+((0:Nat):Int)*1) ((((hi-lo).toNat:Nat):Int)-((0:Nat):Int)) 1;rw[e1,e2];exact aoB _ rfl
  · have e:b=(s.heap.push {cls:=.type "range",data:=.fields #[.int lo t,.int hi u,.int 1 v]}).objs.size:=by simpa using hb
    subst e;exact I1.VN (aoa _) (I1.hok.fresh (aoa _))
noncomputable def abX(ta:TA):TI:=λσ H R=>ta σ H λvs H1=>∃ j:Int,vs=[.int j]/\-(2 ^ 62)<=j/\j<2 ^ 62/\R (Itr 0 j.toNat) H1
theorem lj{a:Expr}{ta:TA}{p pos:Pos}(hg:Gl X "range")(hm:X.mg "range" = none)(ha:PA X [a] ta)(hs:starEach [a] X.env=[(false,eval a X.env)]:=by rfl):PI X tg (.Call (.Name "range" p) [a] [] pos) (abX ta):=by
  intro pins s σ H R I h;refine Call_ (Jw I hg hm boot_range (PyProof.Rows.callWith_type1 (thn (ha pos pins s σ H _ I h) λus s1 ⟨vs,H1,I1,r1,q1⟩=>?_) hs rfl));obtain⟨j,e,q1,q2,q⟩:=q1;subst e;cases r1 with
  | cons r rr =>
    cases rr;obtain⟨t,rfl⟩:=r;exact call_range_1 (U9 I1 1e1 1e1 q1 q2 (by simpa using q))
noncomputable def ajJ(wi:TI)(g:TG)(tb:TS):TS:=λD σ H=>wi σ H λJ H1=>∃ W:Nat->Nat->St->Hp->Prop,(∃ m,W 0 m σ H1)/\∀ i m σ H,W i m σ H ->
  (J.stop i H/\D.nx σ H)\/(J.go i H/\∃ N:St->Hp->Prop,(∀ σ' H',N σ' H'->∃ m',m'<m/\W (i+1) m' σ' H')/\∀ x H',J.yld i H x H'->g x σ H' λσ2 H2=>tb {D with nx:=N,ct:=N,bk:=D.nx} σ2 H2)
noncomputable def JC(fp:List Addr)(h:Heap):List (Addr×Obj):=fp.filterMap λb=>(h.get? b).map λo=>(b,o)
theorem hZ{fp:List Addr}{h:Heap}{b:Addr}{o:Obj}(hb:b∈fp)(e:h.get? b=some o):(b,o)∈JC fp h:=aoX.mpr ⟨b,hb,by rw[e];rfl⟩
theorem TY{fp:List Addr}{h:Heap}{p:Addr×Obj}(hp:p∈JC fp h):p.1∈fp/\h.get? p.1=some p.2:=by
  obtain⟨b,hb,e⟩:=aoX.mp hp;cases q:h.get? b with
  | none=>rw[q]at e;cases e
  | some o =>
    rw[q]at e;have e':(b,o)=p:=aos e;subst e';exact⟨hb,q⟩
theorem Inv.pinned{pins:List (Addr×Obj)}{σ:St}{H:Hp}{s:Shared}{fp:List Addr}(I:Inv X pins σ H s)(hf:∀ b∈fp,G6 X pins H b)(ho:∀ b∈fp,∃ o,s.heap.get? b=some o/\∀ v,o.data≠.cell v):Inv X (pins++JC fp s.heap) σ H s :=
  I.SF λp hp=>(aot.mp hp).elim (λz=>I.pin p (aod _ z)) λz=>by
    obtain⟨hb,e⟩:=TY z;obtain⟨f0,f1,f2,_⟩:=hf p.1 hb;obtain⟨o,e',d⟩:=ho p.1 hb;rw[e]at e';cases e';exact⟨e,f0,f1,f2,d⟩
theorem Inv.pF{pins pl:List (Addr×Obj)}{σ:St}{H:Hp}{s:Shared}(I:Inv X (pins++pl) σ H s):Inv X pins σ H s:=I.SF λp hp=>I.pin p (aod _ (aoC _ hp))
theorem fP{iter:Expr}{body:List Stmt}{wi:TI}{g:TG}{tb:TS}{pos:Pos}(hp:PassesOwn (model X.prog X.w) X.A X.env X.xe)(hc:X.calm=true)(hi:PI X tg iter wi)(hg:PG X tg g)(hb:PSs X body tb)
    (hs:∀ x,foldedSetIterable iter X.env x=pure x:=by intro _;rfl):PS X (.For tg iter body [] pos) (ajJ wi g tb):=by
  intro pins s σ H D I h;refine wpAny_For (thn (hi pins s σ H _ I h) λv s1 h1=>thn h1 λitv s2 h2=>?_) hs;obtain⟨it,fp,tn,J,H2,e,I2,T,st2,f2,W,⟨m0,w0⟩,turn⟩:=h2;subst e;have G7:∀ {H':Hp},(∀ b∈fp,H' b=none)->∀ b∈fp,G6 X pins H' b:=λhn b hb=>⟨hn b hb,(f2 b hb).2⟩;refine codeAny_forLoop_any (λn s'=>∃ i σ' H',Inv X pins σ' H' s'/\tn i s'.heap/\(∀ b∈fp,H' b=none)/\W i n σ' H') ?_ m0 ⟨0,σ,H2,I2,st2,λb hb=>(f2 b hb).1,w0⟩;rintro n s3 ⟨i,σ3,H3,I3,st3,fr3,w3⟩;rcases turn i n σ3 H3 w3 with⟨stop,qn⟩|⟨go,N,hN,step⟩
  · refine wpAny_passesOwn hp (thn (T.done X rfl rfl rfl hc i pins s3 σ3 H3 X.xe I3 (G7 fr3) st3 stop) λr s4 ⟨hr,I4⟩=>?_)
    subst hr;exact wpAny_execs_nil ⟨σ3,H3,I4,qn⟩
  · refine wpAny_passesOwn hp (thn (T.item X rfl rfl rfl hc i pins s3 σ3 H3 X.xe I3 (G7 fr3) st3 go) λr s4 ⟨u,hr,h4⟩=>?_)
    subst hr;refine wpAny_passesOwn hp (thn h4 λ_ s5 ⟨x,H5,I5,r5,y5,st5,fr5⟩=>?_);have I5':=I5.pinned (G7 fr5) (T.obj _ _ st5);refine wpAny_passesOwn hp (thn (hg _ s5 σ3 H5 x u _ I5' r5 (step x H5 y5)) λ_ s6 ⟨σ6,H6,I6,q6⟩=>?_);refine wpAny_passesOwn hp (thn (hb _ s6 σ6 H6 _ I6 q6) λf s7 q7=>?_);have again:∀ {σ7:St} {H7:Hp},Inv X (pins++JC fp s5.heap) σ7 H7 s7->N σ7 H7->∃ m,m<n/\∃ i σ' H',Inv X pins σ' H' s7/\tn i s7.heap/\(∀ b∈fp,H' b=none)/\W i m σ' H':=λ{σ7 H7} I7 n7=>by
      obtain⟨m',hm,w7⟩:=hN σ7 H7 n7;refine⟨m',hm,i+1,σ7,H7,I7.pF,T.keep _ _ _ st5 λb hb o e=>(I7.pin (b,o) (aod _ (aod _ (hZ hb e)))).1,λb hb=>?_,w7⟩;obtain⟨o,e,d⟩:=T.obj _ _ st5 b hb;exact(I7.pin (b,o) (aod _ (aod _ (hZ hb e)))).2.1
    cases f with
    | next=>obtain⟨σ7,H7,I7,n7⟩:=q7;exact again I7 n7
    | cont=>obtain⟨σ7,H7,I7,n7⟩:=q7;exact again I7 n7
    | brk=>obtain⟨σ7,H7,I7,q7⟩:=q7;exact⟨σ7,H7,I7.pF,q7⟩
    | ret v=>obtain⟨x7,σ7,H7,I7,r7,q7⟩:=q7;exact⟨x7,σ7,H7,I7.pF,r7,q7⟩
end
theorem kR{K:W.Frag}{a:Addr}{xs:List V}{g:TG}{tb:TS}{D:Ends}{σ:St}{H:Hp}(Pv:Nat->St->Hp->Prop)(h0:Pv 0 σ H)(hl:∀ i σ H,i<=xs.length->Pv i σ H->SqL K H a xs)
    (hs:∀ i x σ H,xs[i]?=some x->Pv i σ H->g x σ H λσ2 H2=>tb {D with nx:=Pv (i+1),ct:=Pv (i+1),bk:=D.nx} σ2 H2) (hd:∀ σ H,Pv xs.length σ H->D.nx σ H) :
    ∃ W:Nat->Nat->St->Hp->Prop,(∃ m,W 0 m σ H)/\∀ i m σ H,W i m σ H ->
      ((Itl K a).stop i H/\D.nx σ H)\/((Itl K a).go i H/\∃ N:St->Hp->Prop,(∀ σ' H',N σ' H'->∃ m',m'<m/\W (i+1) m' σ' H')/\∀ x H',(Itl K a).yld i H x H'->g x σ H' λσ2 H2=>tb {D with nx:=N,ct:=N,bk:=D.nx} σ2 H2):=by
  refine⟨λi m σ H=>m=xs.length-i/\i<=xs.length/\Pv i σ H,⟨xs.length,by simp,aoL _,h0⟩,?_⟩;rintro i m σ H ⟨rfl,hi,p⟩;have q:=hl i σ H hi p;by_cases hlt:i<xs.length
  · refine .inr ⟨⟨xs,xs[i],q,by simp[hlt]⟩,Pv (i+1),λσ' H' p'=>⟨xs.length-(i+1),by omega,rfl,hlt,p'⟩,λx H' y=>?_⟩
    obtain⟨e,y⟩:=y;subst e;exact hs i x σ _ (y xs q) p
  · have e:i=xs.length:=by omega
    subst e;exact .inl ⟨⟨xs,q,aoa _⟩,hd σ H p⟩
theorem qQ{lo:Int}{n:Nat}{g:TG}{tb:TS}{D:Ends}{σ:St}{H:Hp}(Pv:Nat->St->Hp->Prop)(h0:Pv 0 σ H)
    (hs:∀ i σ H,i<n->Pv i σ H->g (.int (lo+i)) σ H λσ2 H2=>tb {D with nx:=Pv (i+1),ct:=Pv (i+1),bk:=D.nx} σ2 H2) (hd:∀ σ H,Pv n σ H->D.nx σ H) :
    ∃ W:Nat->Nat->St->Hp->Prop,(∃ m,W 0 m σ H)/\∀ i m σ H,W i m σ H ->
      ((Itr lo n).stop i H/\D.nx σ H)\/((Itr lo n).go i H/\∃ N:St->Hp->Prop,(∀ σ' H',N σ' H'->∃ m',m'<m/\W (i+1) m' σ' H')/\∀ x H',(Itr lo n).yld i H x H'->g x σ H' λσ2 H2=>tb {D with nx:=N,ct:=N,bk:=D.nx} σ2 H2):=by
  refine⟨λi m σ H=>m=n-i/\i<=n/\Pv i σ H,⟨n,by simp,aoL _,h0⟩,?_⟩;rintro i m σ H ⟨rfl,hi,p⟩;by_cases hlt:i<n
  · refine .inr ⟨hlt,Pv (i+1),λσ' H' p'=>⟨n-(i+1),by omega,rfl,hlt,p'⟩,λx H' y=>?_⟩
    obtain⟨e,y⟩:=y;subst e y;exact hs i σ _ hlt p
  · have e:i=n:=by omega
    subst e;exact .inl ⟨aoa _,hd σ H p⟩
end L2
namespace L2
open PySem PySem.Spec PyProof.Rows
noncomputable abbrev R2:=V->V->Hp->VK->Prop
noncomputable def OpR(X:Cx)(f:Value->Value->Sem Value)(r:R2):Prop :=
  ∀(pins:List (Addr×Obj)) (s:Shared) (σ:St) (H:Hp) (x y:V) (v u:Value) (Q:VK),Inv X pins σ H s->RelV x v->RelV y u->r x y H Q ->
    wpAny 1e6 X.A (f v u) (EP X pins σ Q) X.xe s
noncomputable def yI(X:Cx)(f:Value)(r:List V->Hp->VK->Prop):Prop :=
  ∀(pins:List (Addr×Obj)) (s:Shared) (σ:St) (H:Hp) (xs:List V) (us:List Value) (Q:VK),Inv X pins σ H s->Vals xs us->r xs H Q ->
    wpAny 1e6 X.A (call f us) (EP X pins σ Q) X.xe s
noncomputable def ajK(X:Cx)(r:V->Hp->(Bool->Hp->Prop)->Prop):Prop :=
  ∀(pins:List (Addr×Obj)) (s:Shared) (σ:St) (H:Hp) (x:V) (v:Value) (Q:Bool->Hp->Prop),Inv X pins σ H s->RelV x v->r x H Q ->
    wpAny 1e6 X.A (truthy v) (TP X pins σ Q) X.xe s
noncomputable def tOp(r:R2)(ta tb:TE):TE:=λσ H Q=>ta σ H λx H1=>tb σ H1 λy H2=>r x y H2 Q
noncomputable def rI(C:Int->Int->Prop)(g:Int->Int->V):R2:=λx y H Q=>∃ i j,x=.int i/\y=.int j/\C i j/\Q (g i j) H
noncomputable def rI0(g:Int->Int->V):R2:=λx y H Q=>∃ i j,x=.int i/\y=.int j/\Q (g i j) H
section
variable{X:Cx}{a b c:Expr}{ta tb tc:TE}{pos:Pos}
theorem Z8(ha:PE X a ta)(hb:PE X b tb){pins:List (Addr×Obj)}{s:Shared}{σ:St}{H:Hp}{R:V->V->Hp->Prop}(I:Inv X pins σ H s)
    (h:ta σ H λx H1=>tb σ H1 λy H2=>R x y H2) {Q:Value->Shared->Prop} {f:Value->Value->Sem Value}
    (hf:∀ v u s2 x y H2,Inv X pins σ H2 s2->RelV x v->RelV y u->R x y H2->wpAny 1e6 X.A (f v u) Q X.xe s2) :
    wpAny 1e6 X.A (eval a X.env) (λv s₁=>wpAny 1e6 X.A (eval b X.env) (λu s₂=>wpAny 1e6 X.A (f v u) Q X.xe s₂) X.xe s₁) X.xe s:=by
  refine thn (ha pins s σ H _ I h) λv s1 ⟨x,H1,I1,r1,q1⟩=>?_;refine thn (hb pins s1 σ H1 _ I1 q1) λu s2 ⟨y,H2,I2,r2,q2⟩=>?_;exact hf v u s2 x y H2 I2 r1 r2 q2
theorem aF{op:Operator}{r:R2}(ho:OpR X (binaryOp op) r)(ha:PE X a ta)(hb:PE X b tb):PE X (.BinOp a op b pos) (tOp r ta tb):=by
  intro pins s σ H Q I h;exact wpAny_BinOp (Z8 ha hb I h λv u s2 x y H2 I2 rx ry q=>ho pins s2 σ H2 x y v u Q I2 rx ry q)
theorem opI{f:Value->Value->Sem Value}{C:Int->Int->Prop}{g:Int->Int->Int}
    (rule:∀(i j:Int) (t u:Tok) (s:Shared) (Q:Value->Shared->Prop) (E:Value->Shared->Prop),C i j->Q (.int (g i j) s.toks) {s with toks:=s.toks+1}->wpAny 1e6 X.A (f (.int i t) (.int j u)) Q E s) :
    OpR X f (rI C λi j=>.int (g i j)):=by
  intro pins s σ H x y v u Q I rx ry h;obtain⟨i,j,rfl,rfl,hc,q⟩:=h;obtain⟨t,rfl⟩:=rx;obtain⟨t',rfl⟩:=ry;exact rule i j t t' s _ _ hc ⟨.int (g i j),H,I.tok _,⟨_,rfl⟩,q⟩
theorem acS{f:Value->Value->Sem Value}{g:Int->Int->Int}
    (rule:∀(i j:Int) (t u:Tok) (s:Shared) (Q:Value->Shared->Prop) (E:Value->Shared->Prop),Q (.int (g i j) s.toks) {s with toks:=s.toks+1}->wpAny 1e6 X.A (f (.int i t) (.int j u)) Q E s) :
    OpR X f (rI0 λi j=>.int (g i j)):=by
  intro pins s σ H x y v u Q I rx ry h;obtain⟨i,j,rfl,rfl,q⟩:=h;obtain⟨t,rfl⟩:=rx;obtain⟨t',rfl⟩:=ry;exact rule i j t t' s _ _ ⟨.int (g i j),H,I.tok _,⟨_,rfl⟩,q⟩
theorem YH{f:Value->Value->Sem Value}{g:Int->Int->Bool}
    (rule:∀(i j:Int) (t u:Tok) (s:Shared) (Q:Value->Shared->Prop) (E:Value->Shared->Prop),Q (.bool (g i j)) s->wpAny 1e6 X.A (f (.int i t) (.int j u)) Q E s) :
    OpR X f (rI0 λi j=>.bl (g i j)):=by
  intro pins s σ H x y v u Q I rx ry h;obtain⟨i,j,rfl,rfl,q⟩:=h;obtain⟨t,rfl⟩:=rx;obtain⟨t',rfl⟩:=ry;exact rule i j t t' s _ _ ⟨.bl (g i j),H,I,rfl,q⟩
noncomputable def ajL(i j:Int):Prop:=0<j/\j<1073741824
noncomputable def ajM(i j:Int):Prop:=0<=j/\j<=1000000/\i.natAbs<2 ^ 64
noncomputable def Z9(i j:Int):Prop:=(-(2 ^ 64)<i/\i<2 ^ 64)\/(-(2 ^ 64)<j/\j<2 ^ 64)
theorem Z9.ok{i j:Int}(h:Z9 i j):IntMulOk i j:=by
  rcases h with⟨h1,h2⟩|⟨h1,h2⟩
  · exact .of_left (intBits_le_64 h1 h2)
  · exact .of_right (intBits_le_64 h1 h2)
theorem bO:OpR X (binaryOp .Add) (rI0 λi j=>.int (i+j)):=acS λ_ _ _ _ _ _ _ q=>add_int q
theorem Zs:OpR X (binaryOp .Sub) (rI0 λi j=>.int (i-j)):=acS λ_ _ _ _ _ _ _ q=>sub_int q
theorem j9:OpR X (binaryOp .Mult) (rI Z9 λi j=>.int (i*j)):=opI λ_ _ _ _ _ _ _ hc q=>mul_int q hc.ok
theorem jT:OpR X (binaryOp .FloorDiv) (rI ajL λi j=>.int (i/j)):=opI λi j _ _ _ _ _ hc q=>by
  have h1:(0:Int)<j:=hc.1;have h2:j<1073741824:=hc.2;exact floordiv_int 1e1 (by rw[Int.fdiv_eq_ediv_of_nonneg i 1e1];exact q) (.inl (PyProof.noPylong_small 1e1))
theorem eF:OpR X (binaryOp .Mod) (rI (λ_ j=>0<j) λi j=>.int (i%j)):=opI λi j _ _ _ _ _ hc q=>by
  have h1:(0:Int)<j:=hc;exact mod_int' 1e1 (by rw[Int.fmod_eq_emod_of_nonneg i 1e1];exact q)
theorem yQ:OpR X (binaryOp .Pow) (rI ajM λi j=>.int (i ^ j.toNat)):=opI λ_ _ _ _ _ _ _ hc q=>pow_int_small hc.1 hc.2.1 hc.2.2 q
end
noncomputable def acT:V->V->Bool
  | .non,.non=>true|.non,.int _=>true|.int _,.non=>true|.non,.bl _=>true|.bl _,.non=>true|.non,.str _=>true|.str _,.non=>true
  | .int _,.int _=>true|.bl _,.bl _=>true|.str _,.str _=>true|.byt _,.byt _=>true
  | .int _,.str _=>true|.str _,.int _=>true|.bl _,.str _=>true|.str _,.bl _=>true
  | _,_=>false
noncomputable def rEq:R2:=λx y H Q=>acT x y=true/\Q (.bl (decide (x=y))) H
noncomputable def rNe:R2:=λx y H Q=>acT x y=true/\Q (.bl (!decide (x=y))) H
theorem SG{i j:Int}:decide (V.int i=V.int j)=(i == j):=by
  rw[apx];simp
theorem VO{i j:Bool}:decide (V.bl i=V.bl j)=(i == j):=by
  rw[apx];simp
theorem SH{i j:Str}:decide (V.str i=V.str j)=(i == j):=by
  rw[apx];simp
theorem SI{i j:Array UInt8}:decide (V.byt i=V.byt j)=(i.toList == j.toList):=by
  rw[apx];cases i;cases j;simp
section
variable{X:Cx}{a b c:Expr}{ta tb tc:TE}{pos:Pos}
theorem dA{pins:List (Addr×Obj)}{σ:St}{H:Hp}{s:Shared}{Q:VK}{k k':Bool}(I:Inv X pins σ H s)(q:Q (.bl k) H)(e:k=k'):EP X pins σ Q (.bool k') s:=by
  subst e;exact⟨.bl k,H,I,rfl,q⟩
theorem nY:OpR X (compareOp .Eq) rEq:=by
  intro pins s σ H x y v u Q I rx ry h;obtain⟨hs,q⟩:=h;cases x with
  | non =>
    cases rx;cases y with
    | non=>cases ry;exact PySem.EqNone.eq_none_none (dA I q (by simp))
    | bl j=>cases ry;exact PySem.EqNone.eq_none_bool (dA I q (by simp))
    | int j=>obtain⟨t',rfl⟩:=ry;exact PySem.EqNone.eq_none_int (dA I q (by simp))
    | str j=>obtain⟨t',rfl⟩:=ry;exact PySem.EqNone.eq_none_str (dA I q (by simp))
    | _=>exact absurd (show false=true from hs) aob
  | bl i =>
    cases rx;cases y with
    | non=>cases ry;exact PySem.EqNone.eq_bool_none (dA I q (by simp))
    | bl j=>cases ry;exact eq_bool (dA I q VO)
    | str j=>obtain⟨t',rfl⟩:=ry;exact PySem.EqMixed.eq_bool_str (dA I q (by simp))
    | _=>exact absurd (show false=true from hs) aob
  | int i =>
    obtain⟨t,rfl⟩:=rx;cases y with
    | non=>cases ry;exact PySem.EqNone.eq_int_none (dA I q (by simp))
    | int j=>obtain⟨t',rfl⟩:=ry;exact eq_int (dA I q SG)
    | str j=>obtain⟨t',rfl⟩:=ry;exact PySem.EqMixed.eq_int_str (dA I q (by simp))
    | _=>exact absurd (show false=true from hs) aob
  | str i =>
    obtain⟨t,rfl⟩:=rx;cases y with
    | non=>cases ry;exact PySem.EqNone.eq_str_none (dA I q (by simp))
    | bl j=>cases ry;exact PySem.EqMixed.eq_str_bool (dA I q (by simp))
    | int j=>obtain⟨t',rfl⟩:=ry;exact PySem.EqMixed.eq_str_int (dA I q (by simp))
    | str j=>obtain⟨t',rfl⟩:=ry;exact eq_str (dA I q SH)
    | _=>exact absurd (show false=true from hs) aob
  | byt i =>
    obtain⟨t,rfl⟩:=rx;cases y with
    | byt j=>obtain⟨t',rfl⟩:=ry;exact PySem.W.eq_bytes (dA I q SI)
    | _=>exact absurd (show false=true from hs) aob
  | _=>cases y<;>exact absurd (show false=true from hs) aob
theorem K9:OpR X (compareOp .NotEq) rNe:=by
  intro pins s σ H x y v u Q I rx ry h;obtain⟨hs,q⟩:=h;cases x with
  | non =>
    cases rx;cases y with
    | non=>cases ry;exact PySem.EqNone.ne_none_none (dA I q (by simp))
    | bl j=>cases ry;exact PySem.EqNone.ne_none_bool (dA I q (by simp))
    | int j=>obtain⟨t',rfl⟩:=ry;exact PySem.EqNone.ne_none_int (dA I q (by simp))
    | str j=>obtain⟨t',rfl⟩:=ry;exact PySem.EqNone.ne_none_str (dA I q (by simp))
    | _=>exact absurd (show false=true from hs) aob
  | bl i =>
    cases rx;cases y with
    | non=>cases ry;exact PySem.EqNone.ne_bool_none (dA I q (by simp))
    | bl j=>cases ry;exact ne_bool (dA I q (congrArg not VO))
    | str j=>obtain⟨t',rfl⟩:=ry;exact PySem.EqMixed.ne_bool_str (dA I q (by simp))
    | _=>exact absurd (show false=true from hs) aob
  | int i =>
    obtain⟨t,rfl⟩:=rx;cases y with
    | non=>cases ry;exact PySem.EqNone.ne_int_none (dA I q (by simp))
    | int j=>obtain⟨t',rfl⟩:=ry;exact ne_int (dA I q (congrArg not SG))
    | str j=>obtain⟨t',rfl⟩:=ry;exact PySem.EqMixed.ne_int_str (dA I q (by simp))
    | _=>exact absurd (show false=true from hs) aob
  | str i =>
    obtain⟨t,rfl⟩:=rx;cases y with
    | non=>cases ry;exact PySem.EqNone.ne_str_none (dA I q (by simp))
    | bl j=>cases ry;exact PySem.EqMixed.ne_str_bool (dA I q (by simp))
    | int j=>obtain⟨t',rfl⟩:=ry;exact PySem.EqMixed.ne_str_int (dA I q (by simp))
    | str j=>obtain⟨t',rfl⟩:=ry;exact ne_str (dA I q (congrArg not SH))
    | _=>exact absurd (show false=true from hs) aob
  | byt i =>
    obtain⟨t,rfl⟩:=rx;cases y with
    | byt j=>obtain⟨t',rfl⟩:=ry;exact PySem.W.ne_bytes (dA I q (congrArg not SI))
    | _=>exact absurd (show false=true from hs) aob
  | _=>cases y<;>exact absurd (show false=true from hs) aob
theorem u7:OpR X (compareOp .Lt) (rI0 λi j=>.bl (decide (i<j))):=YH λ_ _ _ _ _ _ _ q=>lt_int q
theorem yJ:OpR X (compareOp .LtE) (rI0 λi j=>.bl (decide (i<=j))):=YH λ_ _ _ _ _ _ _ q=>le_int q
theorem Q3:OpR X (compareOp .Gt) (rI0 λi j=>.bl (decide (j<i))):=YH λ_ _ _ _ _ _ _ q=>gt_int q
theorem YI:OpR X (compareOp .GtE) (rI0 λi j=>.bl (decide (j<=i))):=YH λ_ _ _ _ _ _ _ q=>ge_int q
theorem pP:OpR X (compareOp .Is) (λx y H Q=>y=.non/\Q (.bl (decide (x=.non))) H):=by
  intro pins s σ H x y v u Q I rx ry h;obtain⟨rfl,q⟩:=h;cases ry;refine is_none_gen (dA I q ?_);cases x<;>first
    | (cases rx;rfl)
    | (obtain⟨t,rfl⟩:=rx;rfl)
theorem NH:OpR X (compareOp .IsNot) (λx y H Q=>y=.non/\Q (.bl (!decide (x=.non))) H):=by
  intro pins s σ H x y v u Q I rx ry h;obtain⟨rfl,q⟩:=h;cases ry;refine isnot_none_gen (dA I q ?_);cases x<;>first
    | (cases rx;rfl)
    | (obtain⟨t,rfl⟩:=rx;rfl)
theorem aS(b:Expr){op:CmpOp}(h:op≠.In:=by decide)(h2:op≠.NotIn:=by decide):behindInMarks op b=false:=by
  have e1:(op == CmpOp.In)=false:=by cases op<;>first|rfl|exact absurd rfl h
  have e2:(op == CmpOp.NotIn)=false:=by cases op<;>first|rfl|exact absurd rfl h2
  cases b<;>simp[behindInMarks,e1,e2]
theorem tI{op:CmpOp}{r:R2}(ho:OpR X (compareOp op) r)(ha:PE X a ta)(hb:PE X b tb)(hm:behindInMarks op b=false):PE X (.Compare a [op] [b] pos) (tOp r ta tb):=by
  intro pins s σ H Q I h;exact wpAny_Compare1 (Z8 ha hb I h λv u s2 x y H2 I2 rx ry q=>ho pins s2 σ H2 x y v u Q I2 rx ry q) hm
noncomputable def YJ(t:TE):TT:=λσ H Q=>t σ H λx H'=>∃ k,x=.bl k/\Q k H'
theorem aJ{op:CmpOp}{r:R2}(ho:OpR X (compareOp op) r)(ha:PE X a ta)(hb:PE X b tb)(hm:behindInMarks op b=false):PT X (.Compare a [op] [b] pos) (YJ (tOp r ta tb)):=by
  intro pins s σ H Q I h;refine wpAny_isTrue_Compare1 (thn (ha pins s σ H _ I h) λv s1 ⟨x,H1,I1,r1,q1⟩=>thn (hb pins s1 σ H1 _ I1 q1) λu s2 ⟨y,H2,I2,r2,q2⟩ =>
    thn (ho pins s2 σ H2 x y v u _ I2 r1 r2 q2) λc s3 ⟨z,H3,I3,r3,k,e,q3⟩=>?_) hm
  subst e;cases r3;exact wpAny_truthy_bool ⟨H3,I3,q3⟩
noncomputable def Zt(r r':R2)(ta tb tc:TE):TE:=λσ H Q=>ta σ H λx H1=>tb σ H1 λy H2=>r x y H2 λz H3=>∃ k,z=.bl k /\
  (if k=true then tc σ H3 λw' H4=>r' y w' H4 Q else Q (.bl false) H3)
theorem mU{op op':CmpOp}{r r':R2}(ho:OpR X (compareOp op) r)(ho':OpR X (compareOp op') r')(ha:PE X a ta)(hb:PE X b tb)(hc:PE X c tc)
    (hm:lastMarks [op,op'] [b,c]=false:=by with_unfolding_all rfl):PT X (.Compare a [op,op'] [b,c] pos) (YJ (Zt r r' ta tb tc)):=by
  intro pins s σ H Q I h;refine isTrue_chain (thn (ha pins s σ H _ I h) λv s1 ⟨x,H1,I1,r1,q1⟩=>test_link (thn (hb pins s1 σ H1 _ I1 q1) λu s2 ⟨y,H2,I2,r2,q2⟩ =>
    thn (ho pins s2 σ H2 x y v u _ I2 r1 r2 q2) λd s3 ⟨z,H3,I3,r3,k,e,q3⟩=>?_)) hm
  subst e;cases r3;refine wpAny_truthy_bool ?_;cases k with
  | false =>
    obtain⟨k',e',q'⟩:=q3;cases e';exact ite_ff ⟨H3,I3,q'⟩
  | true =>
    refine ite_tt (test_last (thn (hc pins s3 σ H3 _ I3 q3) λw' s4 ⟨z',H4,I4,r4,q4⟩=>thn (ho' pins s4 σ H4 y z' u w' _ I4 r2 r4 q4) λd' s5 ⟨z2,H5,I5,r5,k2,e2,q5⟩=>?_));subst e2;cases r5;exact wpAny_truthy_bool ⟨H5,I5,q5⟩
noncomputable def acU(K:W.Frag)(x:V)(H:Hp)(k:Bool):Prop :=
  match x with
  | .non=>k=false
  | .bl b=>k=b
  | .int i=>k=(i != 0)
  | .str y=>y.length<=sizeLine/\k=((y.length:Int) != 0)
  | .byt y=>y.size<=sizeLine/\k=((y.size:Int) != 0)
  | .ref p=>(∃ xs,SqL K H p xs/\k=!xs.isEmpty)\/(∃ xs,SqT K H p xs/\k=!xs.isEmpty)\/∃ kvs,H p=some (.dK kvs)/\k=!kvs.isEmpty
  | _=>False
theorem Q4{κ:Type}{kvs:List (κ×V)}{vs:List (κ×Value)}(r:KV kvs vs):(!vs.isEmpty)=!kvs.isEmpty:=by
  cases r<;>rfl
theorem IC{xs:List V}{its:List Value}(r:Vals xs its):(!its.toArray.isEmpty)=!xs.isEmpty:=by
  cases r<;>simp
theorem JD:(sizeLine:Nat)<2 ^ 63:=by rw[sizeLine_eq];decide
theorem Zu:ajK X (λx H Q=>∃ k,acU X.K x H k/\Q k H):=by
  intro pins s σ H x v Q I rx h;obtain⟨k,e,q⟩:=h;have hl:=JD;have hs:sizeLine=16777216:=sizeLine_eq;cases x with
  | non =>
    cases rx;have e':k=false:=e;subst e';exact truthy_none ⟨H,I,q⟩
  | bl b =>
    cases rx;have e':k=b:=e;subst e';exact wpAny_truthy_bool ⟨H,I,q⟩
  | int i =>
    obtain⟨t,rfl⟩:=rx;have e':k=(i != 0):=e;subst e';exact PySem.P.truthy_int ⟨H,I,q⟩
  | str y =>
    obtain⟨t,rfl⟩:=rx;obtain⟨hy,e'⟩:y.length<=sizeLine/\k=((y.length:Int) != 0):=e;subst e';exact PySem.P.truthy_str 1e1 ⟨H,I.tok _,q⟩
  | byt y =>
    obtain⟨t,rfl⟩:=rx;obtain⟨hy,e'⟩:y.size<=sizeLine/\k=((y.size:Int) != 0):=e;subst e';exact PySem.W.truthy_bytes 1e1 ⟨H,I.tok _,q⟩
  | ref p =>
    cases rx;have e':(∃ xs,SqL X.K H p xs/\k=!xs.isEmpty)\/(∃ xs,SqT X.K H p xs/\k=!xs.isEmpty)\/∃ kvs,H p=some (.dK kvs)/\k=!kvs.isEmpty:=e;rcases e' with⟨xs,hx,e'⟩|⟨xs,hx,e'⟩|⟨kvs,hx,e'⟩
    · subst e'
      obtain⟨its,r,pl,hz⟩:=I.list hx;have hlen:=r.length;exact wpAny_truthy_list pl.isList (by simp only[aoc];omega) ⟨H,I.tok _,by rw[IC r];exact q⟩
    · subst e'
      obtain⟨its,r,pl,hz⟩:=I.tuple hx;have hlen:=r.length;exact truthy_tuple pl (by simp only[aoc];omega) ⟨H,I.tok _,by rw[IC r];exact q⟩
    · subst e'
      obtain⟨hz,hS,vs,r,m⟩:kvs.length<=sizeLine/\(p == sysModules)=false/\∃ vs,KV kvs vs/\s.heap.DictOf (cA X.prog X.w) p vs:=I.hok p _ hx;have hlen:kvs.length=vs.length:=apV r;exact wpAny_truthy_dict hS m 1e1 ⟨H,I.tok _,by rw[Q4 r];exact q⟩
  | _=>exact(show False from e).elim
theorem Va(ha:PE X a ta)(he:∀ whole,isTrue a X.env whole=(do let v <-whole;standAt a.pos;holding [v] (truthy v))) :
    PT X a (λσ H Q=>ta σ H λx H'=>∃ k,acU X.K x H' k/\Q k H'):=by
  intro pins s σ H Q I h;exact isTrue_plain (thn (ha pins s σ H _ I h) λv s1 ⟨x,H1,I1,r1,q1⟩=>Zu pins s1 σ H1 x v Q I1 r1 q1) (he _)
theorem vals1{x:V}{us:List Value}(r:Vals [x] us):∃ u,us=[u]/\RelV x u:=by
  cases r with
  | cons r1 r2=>cases r2;exact⟨_,rfl,r1⟩
theorem Vb:yI X (.builtin "abs") (λxs H Q=>∃ i,xs=[.int i]/\Q (.int (if i<0 then -i else i)) H):=by
  intro pins s σ H xs us Q I r h;obtain⟨i,rfl,q⟩:=h;obtain⟨u,rfl,t,rfl⟩:=vals1 r;exact call_abs_int λu tk=>⟨.int (if i<0 then -i else i),H,I.tok _,⟨_,rfl⟩,q⟩
end
end L2
namespace L2
open PySem PySem.Spec PyProof.Rows
structure UT(h:Heap)(x dx C:Addr)(mA:Str->Option Value):Prop where
  obj:h.get? x=some (PySem.W.instObj C dx)
  ns:h.Ns1 dx mA
  ne:dx≠x
theorem TZ{h:Heap}{dx:Addr}{mA:Str->Option Value}(n:h.Ns1 dx mA):∃ od,h.get? dx=some od/\∀ name,PySem.W.lookIn name od=some (mA name):=by
  obtain⟨o,es,ep,ho,hd,hk,_,hm⟩:=n;refine⟨o,ho,λname=>?_⟩;have e:=hm name;unfold nsFind findBy at e;rw[<-Array.find?_toList]at e;unfold PySem.W.lookIn;rw[hd];dsimp only;split
  · rename_i y q
    rw[q]at e;exact congrArg some e
  · rename_i q
    rw[q]at e;have a:es.toList.any (·.refKey)=false:=by
      rw[List.any_eq_false];intro y hy;obtain⟨z,t,ajN⟩:=hk y (Array.mem_toList_iff.mp hy);simp[DictEntry.refKey,ajN]
    have a':¬es.toList.any (·.refKey)=true:=(by rw[a];exact aob);rw[if_neg a'];exact congrArg some e
theorem UT.look{h:Heap}{x dx C:Addr}{mA:Str->Option Value}(I:UT h x dx C mA):∃ od,PySem.W.InstAt h x (PySem.W.instObj C dx) C (some od)/\∀ name,PySem.W.lookIn name od=some (mA name) :=
  let ⟨od,ho,hl⟩:=TZ I.ns
  ⟨od,⟨I.obj,rfl,rfl,ho⟩,hl⟩
section
variable{prog:Program}{w:World}{A:Around}{E:Value->Shared->Prop}{s:Shared}{K:W.Frag}{x dx C f:Addr}{mA:Str->Option Value}{name:Str}{v:Value}
theorem get_map{expr:Bool}{Q:Value->Shared->Prop}(X:K.In s.heap)(I:UT s.heap x dx C mA)(hg:PySem.W.plainGet K C name=true)(hh:PySem.W.hasDictIn K C=true)
    (ha:PySem.W.findIn K (.ref C) name=some none) (hv:mA name=some v) (hv':PySem.W.handedIn v=true) (h:Q v {s with toks:=s.toks+1}) :
    wpAny 1e8 A (getAttr (.ref x) name expr) Q E s:=by
  obtain⟨od,J,hl⟩:=I.look;exact PySem.W.get_value X J (PySem.W.plainGet_of hg).1 (PySem.W.findObj_own hh ha rfl (by rw[hl,hv])) hv' h
theorem Vc{pl:Sem Bool}{Q:Value×List Value->Shared->Prop}(X:K.In s.heap)(I:UT s.heap x dx C mA)(hg:PySem.W.plainGet K C name=true)
    (hf:PySem.W.findIn K (.ref C) name=some (some (.ref f))) (ht:PySem.W.isFn K (.ref f)=true) (hv:mA name=none) (h:Q (.ref f,[.ref x]) s) :
    wpAny 1e8 A (getMethod (.ref x) name pl) Q E s:=by
  obtain⟨od,J,hl⟩:=I.look;exact PySem.W.method_fn X J (PySem.W.plainGet_of hg).1 (PySem.W.plainGet_of hg).2 hf (beq_iff_eq.mp ht) (by show(PySem.W.lookIn name od).map (·.isSome)=some false;rw[hl,hv];rfl) h
theorem Xw{ns:List Str}{Q:Unit->Shared->Prop}(X:K.In s.heap)(I:UT s.heap x dx C mA)
    (hs:PySem.W.findIn K (.ref C) "__setattr__" = some (some (.builtin "object.__setattr__"))) (hp:PySem.W.plainOver K C=true) (ht:PySem.W.takerIn K C name=some none) (hh:PySem.W.hasDictIn K C=true)
    (hw:PySem.Within mA ns) (hsz:ns.length<=sizeLine)
    (h:∀ h',UT h' x dx C (λy=>if y=name then some v else mA y)->Heap.SameBut dx s.heap h'->Q () {s with heap:=h',toks:=s.toks+2}) :
    wpAny 1e8 A (setAttr (.ref x) name v) Q E s:=by
  obtain⟨od,J,hl⟩:=I.look;refine PySem.W.set_plain X J hs (PySem.W.osa_open (s:={s with toks:=s.toks+1}) (r:=none) X J hp ht λb=>?_);obtain⟨cd,hc,hd'⟩:=PySem.W.any_some hh;have hx:s.heap.get? x=some ⟨.ref C,some dx,.plain,#[]⟩:=I.obj;refine wpAny_bind (wpAny_pure (wpAny_bind (wpAny_bind (wpAny_loadPart hx (wpAny_bind (PySem.W.Looks.here (s:={s with toks:=s.toks+1}) (PySem.W.looks_clsIn X hc) ?_))))));rw[hd'];refine wpAny_pure (a:=some dx) (wpAny_bind (wpAny_pure (wpAny_bind ?_)));refine wpAny_nsSet1 (s:={s with toks:=s.toks+1}) I.ns λh' hn2 hs2=>?_;obtain⟨oD,esD,epD,hoD,hdD,hcD⟩:=hn2.count (PySem.Within.cons name v hw);refine wpAny_bind (wpAny_lookBehind hoD (by rw[hdD];exact pastItsLine_dict (aou hcD (by rw[aoF];omega))) ?_);exact wpAny_pure (h _ ⟨(hs2.2 _ (aol I.ne)).trans I.obj,hn2,I.ne⟩ hs2)
theorem Vd{R:Result->Shared->Prop}{vs:List Value}{kw:List (Str×Value)}(X:K.In s.heap)(hm:PySem.W.makesIn K C=true)
    (hi:PySem.W.findIn K (.ref C) "__init__" = some (some (.ref f))) (hf:PySem.W.typeIn K (.ref f)=some (.type "function"))
    (h:codeAny 1e8 (A.under (.builtin "type.__call__" ⟨.ref C::vs,kw⟩)) (.call (.ref f) ⟨.ref (s.heap.objs.size+1)::vs,kw⟩) (PySem.W.InitBack (s.heap.objs.size+1) R)
      {s with heap:=(s.heap.push PySem.W.emptyDict).push (PySem.W.instObj C s.heap.objs.size)}) :
    codeAny 1e8 A (.call (.ref C) ⟨vs,kw⟩) R s:=by
  obtain⟨hh,g,d,t,os⟩:=s;exact PySem.W.make_core (PySem.W.makes_of X hm) (PySem.W.looks_findIn X hi) (λself=>PySem.W.bind_fn X self hf) (.inl rfl) h
end
noncomputable def i8(f:Str)(v:V):List (Str×V)->List (Str×V)
  | []=>[(f,v)]
  | (g,x)::r=>if g=f then(g,v)::r else(g,x)::i8 f v r
theorem Fs(f g:Str)(v:V):∀ fs:List (Str×V),(i8 f v fs).lookup g=if g=f then some v else fs.lookup g
  | []=>by
    show List.lookup g [(f,v)]=_;by_cases h:g=f
    · have hb:(g == f)=true:=beq_iff_eq.mpr h
      simp only[List.lookup,hb,if_pos h]
    · have hb:(g == f)=false:=beq_eq_false_iff_ne.mpr h
      simp only[List.lookup,hb,if_neg h]
  | (k,x)::r=>by
    have ih:=Fs f g v r;rw[show i8 f v ((k,x)::r)=(if k=f then(k,v)::r else(k,x)::i8 f v r) from rfl];by_cases hk:k=f
    · rw[if_pos hk]
      by_cases h:g=k
      · have hb:(g == k)=true:=beq_iff_eq.mpr h
        simp only[List.lookup,hb,if_pos (h.trans hk)]
      · have hb:(g == k)=false:=beq_eq_false_iff_ne.mpr h
        simp only[List.lookup,hb,if_neg (λe:g=f=>h (e.trans hk.symm))]
    · rw[if_neg hk]
      by_cases h:g=k
      · have hb:(g == k)=true:=beq_iff_eq.mpr h
        simp only[List.lookup,hb,if_neg (λe:g=f=>hk (h.symm.trans e))]
      · have hb:(g == k)=false:=beq_eq_false_iff_ne.mpr h
        simp only[List.lookup,hb];exact ih
theorem Fe(f:Str)(v:V):∀ fs:List (Str×V),f∈(i8 f v fs).map (·.1)/\∀ g,g∈fs.map (·.1)->g∈(i8 f v fs).map (·.1)
  | []=>⟨by simp[i8],λg h=>by simp at h⟩
  | (k,x)::r=>by
    obtain⟨i1,i2⟩:=Fe f v r;rw[show i8 f v ((k,x)::r)=(if k=f then(k,v)::r else(k,x)::i8 f v r) from rfl];by_cases hk:k=f
    · rw[if_pos hk]
      subst hk;exact⟨by simp,λg h=>by simpa using h⟩
    · rw[if_neg hk]
      refine⟨?_,λg h=>?_⟩
      · rw[aov]
        exact aox _ i1
      · rw[aov]at h ⊢
        rcases aop.mp h with e|e
        · exact aop.mpr (.inl e)
        · exact aox _ (i2 g e)
theorem Ft(f:Str)(v:V):∀ fs:List (Str×V),(i8 f v fs).length<=fs.length+1
  | []=>by simp[i8]
  | (k,x)::r=>by
    have ih:=Ft f v r;rw[show i8 f v ((k,x)::r)=(if k=f then(k,v)::r else(k,x)::i8 f v r) from rfl];by_cases hk:k=f
    · rw[if_pos hk,aoF,aoF];omega
    · rw[if_neg hk,aoF,aoF];omega
theorem AO.some_of{v:V}{o:Option Value}(r:AO (some v) o):∃ u,o=some u/\RelV v u:=by
  cases o with
  | none=>exact(show False from r).elim
  | some u=>exact⟨u,rfl,r⟩
theorem AO.none_of{o:Option Value}(r:AO none o):o=none:=by
  cases o with
  | none=>rfl
  | some u=>exact(show False from r).elim
theorem T1{v:V}{u:Value}(r:RelV v u):PySem.W.handedIn u=true:=by
  cases v with
  | non=>cases (show u=Value.none from r);rfl
  | bl b=>cases (show u=Value.bool b from r);rfl
  | int i=>obtain⟨t,e⟩:=(show ∃ t,u=Value.int i t from r);cases e;rfl
  | str x=>obtain⟨t,e⟩:=(show ∃ t,u=Value.str x t from r);cases e;rfl
  | byt b=>obtain⟨t,e⟩:=(show ∃ t,u=Value.bytes b t from r);cases e;rfl
  | flt b=>obtain⟨t,e⟩:=(show ∃ t,u=Value.float b t from r);cases e;rfl
  | ref a=>cases (show u=Value.ref a from r);rfl
  | ty n=>cases (show u=Value.type n from r);rfl
section
variable{P:Program}{w:World}{H H':Hp}{h h':Heap}{a C dx:Addr}{fs fs':List (Str×V)}
theorem NI(hok:HOk P w H h)(e:H a=some (.ins C dx fs)):∃ mA,UT h a dx C mA/\(∀ f,AO (fs.lookup f) (mA f))/\PySem.Within mA (fs.map (·.1))/\fs.length<=1000/\H dx=some (.own a):=by
  obtain⟨d,z,ne,ob,mA,n,r,q⟩:=(show i7 P w H h a (.ins C dx fs) from hok a _ e);exact⟨mA,⟨ob,n,ne⟩,r,q,z,d⟩
end
structure Cls(K:W.Frag)(C:Addr):Prop where
  pg:PySem.W.plainGet K C Str.empty=true
  hd:PySem.W.hasDictIn K C=true
  po:PySem.W.plainOver K C=true
  sa:PySem.W.findIn K (.ref C) "__setattr__" = some (some (.builtin "object.__setattr__"))
theorem Cls.get{K:W.Frag}{C:Addr}(c:Cls K C)(f:Str):PySem.W.plainGet K C f=true:=c.pg
noncomputable def eL(K:W.Frag)(C:Addr)(f:Str):Prop:=PySem.W.findIn K (.ref C) f=some none
theorem eL.abY{K:W.Frag}{C:Addr}{f:Str}(n:eL K C f):PySem.W.takerIn K C f=some none:=by
  unfold PySem.W.takerIn;rw[show PySem.W.findIn K (.ref C) f=some none from n];rfl
structure Meth(K:W.Frag)(C:Addr)(m:Str)(f:Addr):Prop where
  at_:PySem.W.findIn K (.ref C) m=some (some (.ref f))
  fn:PySem.W.isFn K (.ref f)=true
  kp:PySem.W.keepIn K (.ref f)=true
section
variable{X:Cx}{pins:List (Addr×Obj)}{σ:St}{H:Hp}{s:Shared}{a C dx:Addr}{fs:List (Str×V)}{f:Str}{v:V}{A:Around}{E:Value->Shared->Prop}
theorem Q5{b:Bool}{Q:Value->Shared->Prop}(I:Inv X pins σ H s)(e:H a=some (.ins C dx fs))(c:Cls X.K C)(n:eL X.K C f)(l:fs.lookup f=some v)
    (h:∀ u s',Inv X pins σ H s'->RelV v u->Q u s'):wpAny 1e6 A (getAttr (.ref a) f b) Q E s:=by
  obtain⟨mA,O,r,_,_,_⟩:=NI I.hok e;obtain⟨u,hu,ru⟩:=AO.some_of (v:=v) (o:=mA f) (by rw[<-l];exact r f);exact get_map I.kIn O (c.get f) c.hd n hu (T1 ru) (h u _ (I.tok _) ru)
theorem ID{m:Str}{g:Addr}{pl:Sem Bool}{Q:Value×List Value->Shared->Prop}(I:Inv X pins σ H s)(e:H a=some (.ins C dx fs))(c:Cls X.K C)(k:Meth X.K C m g)(l:fs.lookup m=none)
    (h:Q (.ref g,[.ref a]) s):wpAny 1e6 A (getMethod (.ref a) m pl) Q E s:=by
  obtain⟨mA,O,r,_,_,_⟩:=NI I.hok e;have hn:mA m=none:=AO.none_of (by rw[<-l];exact r m);exact Vc I.kIn O (c.get m) k.at_ k.fn hn h
theorem Q6{y:V}{u:Value}{Q:Unit->Shared->Prop}(I:Inv X pins σ H s)(e:H a=some (.ins C dx fs))(c:Cls X.K C)(n:eL X.K C f)(hl:fs.length<1000)(ry:RelV y u)
    (h:∀ s',Inv X pins σ (upd H a (.ins C dx (i8 f y fs))) s'->Q () s'):wpAny 1e6 A (setAttr (.ref a) f u) Q E s:=by
  obtain⟨mA,O,r,wi,_,ho⟩:=NI I.hok e;have hz:(fs.map (·.1)).length<=sizeLine:=by rw[an6,sizeLine_eq];omega
  refine Xw I.kIn O c.sa c.po n.abY c.hd wi hz λh' O' sb=>h _ ?_;have hd:∃ o,h'.get? dx=some o:=let ⟨o,_,_,e',_⟩:=O'.ns;⟨o,e'⟩;refine I.write (x:=a) (e:=dx) (by rw[e];exact True.intro) (.inr ho) (λb q hb z=>(sb.2 b hb).trans z) hd ?_;refine⟨by rw[af O.ne];exact ho,?_,O.ne,O'.obj,_,O'.ns,λg=>?_,λg hg=>?_⟩
  · have:=Ft f y fs;omega
  · show AO ((i8 f y fs).lookup g) (if g=f then some u else mA g)
    rw[Fs];by_cases q:g=f
    · rw[if_pos q,if_pos q];exact ry
    · rw[if_neg q,if_neg q];exact r g
  · by_cases q:g=f
    · rw[q];exact(Fe f y fs).1
    · refine(Fe f y fs).2 g (wi g λz=>hg ?_)
      show(if g=f then some u else mA g)=none;rw[if_neg q];exact z
theorem Inv.made(I:Inv X pins σ H s):Inv X pins σ (upd (upd H s.heap.objs.size (.own (s.heap.objs.size+1))) (s.heap.objs.size+1) (.ins C s.heap.objs.size []))
    {s with heap:=(s.heap.push PySem.W.emptyDict).push (PySem.W.instObj C s.heap.objs.size)}:=by
  have e1:(s.heap.push PySem.W.emptyDict).get? s.heap.objs.size=some PySem.W.emptyDict:=aoB s.heap rfl;have e2:((s.heap.push PySem.W.emptyDict).push (PySem.W.instObj C s.heap.objs.size)).get? (s.heap.objs.size+1)=some (PySem.W.instObj C s.heap.objs.size):=by
    have:=aoB (s.heap.push PySem.W.emptyDict) (o:=PySem.W.instObj C s.heap.objs.size) rfl
    rwa[aps]at this
  have e3:(s.heap.push PySem.W.emptyDict).Ns s.heap.objs.size (λ_=>none):=⟨PySem.W.emptyDict,#[],_,e1,rfl,(λe he=>absurd he (by simp)),λ_=>rfl⟩;have I1:=I.laid (a:=s.heap.objs.size) (o:=.own (s.heap.objs.size+1)) (h':=s.heap.push PySem.W.emptyDict) (t':=s.toks) (λb u q=>an8 _ q) (aoa _) ⟨_,e1⟩;refine I1.laid (a:=s.heap.objs.size+1) (o:=.ins C s.heap.objs.size []) (t':=s.toks) (λb u q=>an8 _ q) (Nat.le_of_eq (aps _ _)) ?_;have ne:s.heap.objs.size≠s.heap.objs.size+1:=aok (apI _);refine⟨by rw[af ne,ag],aoL _,ne,e2,λ_=>none,(Heap.Ns1.of_empty e3).at λo q=>an8 _ q,λ_=>True.intro,λy hy=>absurd rfl hy⟩
theorem Xx{prog:Program}{w:World}{env:Env}{e:Expr}{f:Str}{pos:Pos}{s:Shared}{Q:Value->Shared->Prop}(hb:attributeBase e f env (eval e env)=eval e env)
    (h:wpAny 1e8 A (eval e env) (λo s₁=>wpAny 1e8 A (getAttr o f true) Q E s₁) E s):wpAny 1e8 A (eval (.Attribute e f pos) env) Q E s :=
  Attribute_any_ h (by rw[arm_eval_Attribute,hb])
end
noncomputable def acV(K:W.Frag)(ta:TE)(f:Str):TE:=λσ H Q=>ta σ H λx H1=>∃ a C dx fs v,x=.ref a/\H1 a=some (.ins C dx fs)/\Cls K C/\eL K C f/\fs.lookup f=some v/\Q v H1
noncomputable def ajO(K:W.Frag)(ta tv:TE)(f:Str):TS:=λD σ H=>tv σ H λy H1=>ta σ H1 λx H2=>∃ a C dx fs,x=.ref a/\H2 a=some (.ins C dx fs)/\Cls K C/\eL K C f/\fs.length<1000 /\
  D.nx σ (upd H2 a (.ins C dx (i8 f y fs)))
section
variable{X:Cx}{o e value:Expr}{f:Str}{pos pos' aaa:Pos}{ta tv:TE}
theorem aH(he:PE X e ta)(hb:attributeBase e f X.env (eval e X.env)=eval e X.env):PE X (.Attribute e f pos) (acV X.K ta f):=by
  intro pins s σ H Q I h;refine Xx hb (thn (he pins s σ H _ I h) λu s1 ⟨x,H1,I1,rx,a,C,dx,fs,v,ex,ea,c,n,l,q⟩=>?_);subst ex;obtain rfl:u=Value.ref a:=rx;exact Q5 I1 ea c n l λu' s2 I2 ru=>⟨v,H1,I2,ru,q⟩
theorem iM(ha:PE X o ta)(hv:PE X value tv)(hs:swapsWith value (some (.Attribute o f pos')) pos.line X.env=pure false):PS X (.Assign [.Attribute o f pos'] value pos) (ajO X.K ta tv f):=by
  intro pins s σ H D I h;refine plainObj_wpAny_Assign_Attribute (thn (hv pins s σ H _ I h) λu s1 ⟨y,H1,I1,ry,q⟩=>thn (ha pins s1 σ H1 _ I1 q) λov s2 ⟨x,H2,I2,rx,a,C,dx,fs,ex,ea,c,n,l,q2⟩=>?_) hs;subst ex;obtain rfl:ov=Value.ref a:=rx;exact Q6 I2 ea c n l ry λs3 I3=>⟨σ,_,I3,q2⟩
end
section
variable{X:Cx}{pins:List (Addr×Obj)}{σ:St}{H:Hp}{s:Shared}{A:Around}{E:Value->Shared->Prop}{Q:Value->Shared->Prop}{c:Value}{b:Bool}
end
end L2
namespace L2
open PySem PySem.Spec PyProof.Rows
structure mT(k:Nat)(A:Around):Prop where
  hd:A.handled=none
  dp:A.depth+3*k+5<recursionLimit
  un:A.units+16*k+200<cLine
theorem mT.mono{j k:Nat}{A:Around}(r:mT k A)(h:j<=k):mT j A:=⟨r.hd,by have:=r.dp;omega,by have:=r.un;omega⟩
theorem mT.deeper{k:Nat}{A:Around}(r:mT (k+1) A)(env:Env):mT k (A.deeper env) :=
  ⟨r.hd,by have:=r.dp;show A.depth+1+3*k+5<_;omega,by have:=r.un;show A.units+3+16*k+200<_;omega⟩
theorem Q7{A:Around}{C:Addr}{us:List Value}{kw:List (Str×Value)}:(A.under (.builtin "type.__call__" ⟨.ref C::us,kw⟩)).depth=A.depth+1:=by
  first|rfl|simp[Around.under,Code.weight,Code.isCreation,Code.isGuard,Code.isCaller,Code.frames,Code.isFrame,guardIds]
theorem Q8{A:Around}{C:Addr}{us:List Value}{kw:List (Str×Value)}:(A.under (.builtin "type.__call__" ⟨.ref C::us,kw⟩)).units=A.units+1:=by
  first|rfl|simp[Around.under,Code.cUnits,Code.frames,Code.isFrame]
theorem mT.make{k:Nat}{A:Around}(r:mT (k+1) A)(C:Addr)(us:List Value)(kw:List (Str×Value)):mT k (A.under (.builtin "type.__call__" ⟨.ref C::us,kw⟩)) :=
  ⟨r.hd,by have:=r.dp;rw[Q7];omega,by have:=r.un;rw[Q8];omega⟩
theorem mT.depth{k:Nat}{A:Around}(r:mT k A):A.depth<recursionLimit:=by have:=r.dp;omega
theorem mT.units{k:Nat}{A:Around}(r:mT k A):A.units+64<cLine:=by have:=r.un;omega
theorem mT.Zv{k:Nat}{A:Around}(r:mT k A):A.units<cLine:=by have:=r.un;omega
noncomputable def YK:TA:=λ_ H Q=>Q [] H
noncomputable def abZ(ta:TE)(tr:TA):TA:=λσ H Q=>ta σ H λx H1=>tr σ H1 λxs H2=>Q (x::xs) H2
section
variable{X:Cx}{e:Expr}{es:List Expr}{te:TE}{t:TA}{pos:Pos}
theorem aj:PA X [] YK:=λ_ _ _ _ H Q I h=>apS ⟨[],H,I,.nil,h⟩
theorem aa(ha:PE X e te)(hr:PA X es t)(hs:starEach (e::es) X.env=(false,eval e X.env)::starEach es X.env:=by rfl):PA X (e::es) (abZ te t):=by
  intro pos pins s σ H Q I h;rw[hs];show wpAny _ _ (spliced ((false,eval e X.env)::backTo pos (starEach es X.env))) _ _ s;refine apy (thn (ha pins s σ H _ I h) λu s1 ⟨x,H1,I1,r1,q1⟩=>?_);exact thn (hr pos pins s1 σ H1 _ I1 q1) λus s2 ⟨xs,H2,I2,r2,q2⟩=>⟨x::xs,H2,I2,.cons r1 r2,q2⟩
noncomputable def ajP(t:TA):TE:=λσ H Q=>t σ H λxs H1=>xs.length<=sizeLine/\∀ p,H1 p=none->Q (.ref p) (upd H1 p (.tup xs))
noncomputable def ajQ(t:TA):TE:=λσ H Q=>t σ H λxs H1=>xs.length<=sizeLine/\∀ p,H1 p=none->Q (.ref p) (upd H1 p (.lst xs))
theorem fE{x1}(h:PA X es t):PE X (.Tuple es x1 pos) (ajP t):=by
  intro pins s σ H Q I hq;refine wpAny_Tuple_spliced (thn (h pos pins s σ H _ I hq) λus s1 ⟨xs,H1,I1,r,z,q⟩=>⟨by rw[<-r.length];exact z,?_⟩);have hf:H1 s1.heap.objs.size=none:=I1.hok.fresh (aoa _);refine⟨.ref s1.heap.objs.size,upd H1 s1.heap.objs.size (.tup xs),I1.laid (t':=s1.toks) (λb u e=>an8 _ e) (aoa _) ?_,rfl,q _ hf⟩;exact⟨z,us,r,⟨_,aoB _ rfl,rfl,_,rfl⟩⟩
theorem pQ(h:PA X es t):PE X (.List es pos) (ajQ t):=by
  intro pins s σ H Q I hq;refine wpAny_List_spliced (thn (h pos pins s σ H _ I hq) λus s1 ⟨xs,H1,I1,r,z,q⟩=>⟨by rw[<-r.length];exact z,?_⟩);have hf:H1 s1.heap.objs.size=none:=I1.hok.fresh (aoa _);refine⟨.ref s1.heap.objs.size,upd H1 s1.heap.objs.size (.lst xs),I1.laid (t':=s1.toks) (λb u e=>an8 _ e) (aoa _) ?_,rfl,q _ hf⟩;exact⟨z,us,0,r,aoB _ rfl⟩
end
noncomputable abbrev Sp:=List V->Hp->VK->XK->Prop
noncomputable abbrev CXT:=List Env->Hp->Shared->XK->Value->Shared->Prop
structure UU(P:Program)(w:World)(K:W.Frag)(mg:Str->Option Value)(base:Heap)(A:Around)(outer:List Env)(s:Shared)(H:Hp):Prop where
  frames:A.frames=some outer
  mod:Mod K mg base
  bs:∀ b o,base.get? b=some o->s.heap.get? b=some o/\H b=none
  bsz:base.objs.size<=s.heap.objs.size
  G5:s.heap.FunFrames base outer
  frf:∀ b∈frs outer,H b=none
  hok:HOk P w H s.heap
  bare:AllBare s.gens
noncomputable def CE(outer:List Env)(P:Program)(w:World)(H:Hp)(s:Shared)(Q:VK)(u:Value)(s':Shared):Prop :=
  ∃ v H',s'.os=s.os/\AllBare s'.gens/\Un (frs outer) [] H H' s.heap s'.heap/\HOk P w H' s'.heap/\RelV v u/\Q v H'
noncomputable def CR(CX:CXT)(outer:List Env)(P:Program)(w:World)(H:Hp)(s:Shared)(Q:VK)(E:XK)(r:Result)(s':Shared):Prop :=
  match r with
  | .ok (.ret u)=>CE outer P w H s Q u s'
  | .ok _=>False
  | .error e=>CX outer H s E e s'
structure DB(P:Program)(w:World)(K:W.Frag)(mg:Str->Option Value)(base:Heap)(CX:CXT)(k:Nat)(f:Addr)(fd:FuncData)(ps:List Str)(sp:Sp):Prop where
  len:∀ vs H Q E,sp vs H Q E->vs.length=ps.length
  run:∀(A:Around) (outer:List Env) (s:Shared) (H:Hp) (args:Args) (us:List Value) (vs:List V) (Q:VK) (E:XK),mT k A->UU P w K mg base A outer s H->BindsTo s fd args (ps.zip us)->Vals vs us->sp vs H Q E ->
    codeAny (model P w) A (.call (.ref f) args) (CR CX outer P w H s Q E) s
theorem UU.make{P:Program}{w:World}{K:W.Frag}{mg:Str->Option Value}{base:Heap}{A:Around}{outer:List Env}{s:Shared}{H:Hp}(e:UU P w K mg base A outer s H)(C:Addr)(us:List Value)(kw:List (Str×Value)) :
    UU P w K mg base (A.under (.builtin "type.__call__" ⟨.ref C::us,kw⟩)) outer s H:=⟨by first|exact e.frames|(simpa[Around.under,Code.envs,Code.isFrame,pushEnvs] using e.frames),e.mod,e.bs,e.bsz,e.G5,e.frf,e.hok,e.bare⟩
section
variable{X:Cx}{pins:List (Addr×Obj)}{σ:St}{H:Hp}{s s':Shared}
theorem Inv.aab(I:Inv X pins σ H s):UU X.prog X.w X.K X.mg X.base X.A X.stack s H :=
  ⟨I.ok.frames,I.ok.mod,I.bs,aou I.ok.bsz I.sz,I.stack,I.DA,I.hok,I.bare⟩
theorem Inv.after{Q:VK}{u:Value}(I:Inv X pins σ H s)(h:CE X.stack X.prog X.w H s Q u s'):EP X pins σ Q u s':=by
  obtain⟨v,H',os,bare,un,hok,r,q⟩:=h;obtain⟨hh,g,d,t,os'⟩:=s';obtain rfl:os'=s.os:=os;exact⟨v,H',I.call (h':=hh) (g':=g) (d':=d) (t':=t) (ch:=[]) un hok bare (λb z=>absurd z (by simp)),r,q⟩
end
noncomputable def YL(C:Addr)(sp:Sp)(dvs:List V)(E:XK)(t:TA):TE:=λσ H Q=>t σ H λvs H1=>∀ x dx,H1 x=none->H1 dx=none->dx≠x ->
  sp (.ref x::(vs++dvs)) (upd (upd H1 dx (.own x)) x (.ins C dx [])) (λv H2=>v=.non/\Q (.ref x) H2) E
noncomputable def Binds(K:W.Frag)(fd:FuncData)(ps:List Str)(ds:List Value):Prop :=
  ∀(s:Shared) (us:List Value),K.In s.heap->(us++ds).length=ps.length->BindsTo s fd ⟨us,[]⟩ (ps.zip (us++ds))
theorem Binds.all{K:W.Frag}{fd:FuncData}{ps:List Str}(h:∀ us:List Value,us.length=ps.length->bindArgs fd ⟨us,[]⟩=pure (ps.zip us)):Binds K fd ps []:=λs us _ hl=>by
  rw[aoT]at hl ⊢;exact .of_eq (h us hl)
noncomputable def Passes(CX:CXT)(X:Cx)(E:XK):Prop:=∀(pins:List (Addr×Obj)) (σ:St) (H:Hp) (s:Shared) (e:Value) (s':Shared),Inv X pins σ H s->CX X.stack H s E e s'->X.xe e s'
section
variable{X:Cx}{CX:CXT}{k:Nat}{f C:Addr}{fd:FuncData}{ps:List Str}{sp:Sp}{dvs:List V}{ds:List Value}{E:XK}{x m:Str}{p pos apos:Pos}{e o:Expr}{es:List Expr}{ta:TE}{t:TA}
structure Mk(K:W.Frag)(C f:Addr):Prop where
  makes:PySem.W.makesIn K C=true
  init:PySem.W.findIn K (.ref C) "__init__" = some (some (.ref f))
  fn:PySem.W.isFn K (.ref f)=true
  kp:PySem.W.keepIn K (.ref C)=true
theorem P9{pins:List (Addr×Obj)}{σ:St}{H:Hp}{s:Shared}{Q:VK}{us:List Value}{vs:List V}(M:Mk X.K C f)(F:DB X.prog X.w X.K X.mg X.base CX k f fd ps sp)(hr:mT (k+1) X.A)(hb:Binds X.K fd ps ds)(hd:Vals dvs ds)
    (hx:Passes CX X E) (I:Inv X pins σ H s) (r:Vals vs us)
    (h:∀ x dx,H x=none->H dx=none->dx≠x->sp (.ref x::(vs++dvs)) (upd (upd H dx (.own x)) x (.ins C dx [])) (λv H2=>v=.non/\Q (.ref x) H2) E) :
    wpAny 1e6 X.A (call (.ref C) us) (EP X pins σ Q) X.xe s:=by
  have hq:=h (s.heap.objs.size+1) s.heap.objs.size (I.hok.fresh (apE _)) (I.hok.fresh (aoa _)) (aok (apI _));have I2:=Inv.made (C:=C) I;have r2:Vals (V.ref (s.heap.objs.size+1)::(vs++dvs)) (Value.ref (s.heap.objs.size+1)::(us++ds)):=.cons rfl (r.append hd);have hl:(Value.ref (s.heap.objs.size+1)::us++ds).length=ps.length:=by
    have e:=r2.length;rw[F.len _ _ _ _ hq]at e;exact e.symm
  refine wpAny_call (Vd (f:=f) I.kIn M.makes M.init (beq_iff_eq.mp M.fn) (codeAny_mono (F.run _ X.stack _ _ ⟨Value.ref (s.heap.objs.size+1)::us,[]⟩ (Value.ref (s.heap.objs.size+1)::(us++ds)) _ _ E (hr.make C us [])
    (I2.aab.make C us []) (hb _ (Value.ref (s.heap.objs.size+1)::us) I2.kIn hl) r2 hq) λr s' hq'=>?_))
  cases r with
  | error e=>exact hx pins σ _ _ e s' I2 hq'
  | ok fl =>
    cases fl with
    | ret u =>
      obtain⟨v,H',I3,rv,ev,q3⟩:=I2.after hq';subst ev;exact⟨rv,⟨V.ref (s.heap.objs.size+1),H',I3,rfl,q3⟩⟩
    | next=>exact False.elim hq'
    | brk=>exact False.elim hq'
    | cont=>exact False.elim hq'
theorem SJ(M:Mk X.K C f)(F:DB X.prog X.w X.K X.mg X.base CX k f fd ps sp)(hr:mT (k+1) X.A)(hg:Gl X x)(hm:X.mg x=some (.ref C))(hb:Binds X.K fd ps ds)(hd:Vals dvs ds)(hx:Passes CX X E)
    (ha:PA X (e::es) t) (hdb:(x == ("__debug__" : Str))=false:=by decide) (he:starEach (e::es) X.env=(false,eval e X.env)::starEach es X.env:=by rfl) (hpl:(backTo pos (starEach es X.env)).any (·.1)=false:=by rfl) :
    PE X (.Call (.Name x p) (e::es) [] pos) (YL C sp dvs E t):=by
  intro pins s σ H Q I h;refine wpAny_Call_Name_kw (qY I hg hm ?_ hdb);refine PySem.W.callWith_K (h₀:=X.base) I.ok.mod.kin M.kp (thn (ha pos pins s σ H _ I h) λus s1 ⟨vs,H1,I1,r,q⟩=>⟨I1.kIn,?_⟩) he hpl;exact P9 M F hr hb hd hx I1 r q
theorem Jk(M:Mk X.K C f)(F:DB X.prog X.w X.K X.mg X.base CX k f fd ps sp)(hr:mT (k+1) X.A)(hg:Gl X x)(hm:X.mg x=some (.ref C))(hb:Binds X.K fd ps ds)(hd:Vals dvs ds)(hx:Passes CX X E)
    (hdb:(x == ("__debug__" : Str))=false:=by decide):PE X (.Call (.Name x p) [] [] pos) (YL C sp dvs E YK):=by
  intro pins s σ H Q I h;refine wpAny_Call_Name_kw (qY I hg hm ?_ hdb);exact PySem.W.callWith_K0 I.kIn M.kp (P9 (us:=[]) M F hr hb hd hx I .nil h)
end
section
variable{X:Cx}{CX:CXT}{k:Nat}{f C:Addr}{fd:FuncData}{ps ks:List Str}{sp:Sp}{E:XK}{x m:Str}{p pos apos an2:Pos}{e o:Expr}{es:List Expr}{kws:List Keyword}{te ta:TE}{t tk:TA}{nm:Option Str}
variable{g:List Value->List Value->List Value}{gV:List V->List V->List V}
end
structure av(N P:List Str)(sc:Scope):Prop where
  kind:sc.kind=.function
  co:sc.isCoroutine=false
  gen:sc.isGenerator=false
  nd:N.Nodup
  pre:N.take P.length=P
  par:∀ x∈P,sc.names.lookup x=some .local\/sc.names.lookup x=some .cell
  Zw:∀ y∈sc.names,y.2≠.free
theorem Lh{kindOf:Str->Option NameKind}{x:Str}:∀ {binds:List (Str×Value)} {m:Str->Option Value},(∀ v,(x,v)∉binds)->bindL kindOf binds m x=m x
  | [],_,_=>rfl
  | (n,v)::r,m,h=>by
    unfold bindL;rw[Lh λw hw=>h w (aox _ hw)];split
    · have:x≠n:=by rintro rfl;exact h v aow
      simp[this]
    · rfl
theorem Li{kindOf:Str->Option NameKind}{x:Str}:∀ {binds:List (Str×Value)} {m:Str->Option Value},(∀ v,(x,v)∉binds)->bindC kindOf binds m x=m x
  | [],_,_=>rfl
  | (n,v)::r,m,h=>by
    unfold bindC;rw[Li λw hw=>h w (aox _ hw)];split
    · rfl
    · have:x≠n:=by rintro rfl;exact h v aow
      simp[this]
theorem Lj{kindOf:Str->Option NameKind}{x:Str}{v:Value}:∀ {P:List Str} {vs:List Value} {i:Nat} {m:Str->Option Value},P.Nodup->P[i]?=some x->vs[i]?=some v->kindOf x=some .local ->
    bindL kindOf (P.zip vs) m x=some v
  | [],_,_,_,_,h,_,_=>by simp at h
  | _::_,[],_,_,_,_,h,_=>by simp at h
  | p::P,w::vs,0,m,nd,h1,h2,hk=>by
    simp at h1 h2;subst h1;subst h2;show bindL kindOf ((p,w)::P.zip vs) m p=_;unfold bindL;rw[Lh λv hv=>(apl.mp nd).1 (apW hv).1,if_pos hk];simp
  | p::P,w::vs,i+1,m,nd,h1,h2,hk=>by
    show bindL kindOf ((p,w)::P.zip vs) m x=_;unfold bindL;exact Lj (i:=i) (apl.mp nd).2 (by simpa using h1) (by simpa using h2) hk
theorem Ll{kindOf:Str->Option NameKind}{x:Str}{v:Value}:∀ {P:List Str} {vs:List Value} {i:Nat} {m:Str->Option Value},P.Nodup->P[i]?=some x->vs[i]?=some v->kindOf x≠some .local ->
    bindC kindOf (P.zip vs) m x=some v
  | [],_,_,_,_,h,_,_=>by simp at h
  | _::_,[],_,_,_,_,h,_=>by simp at h
  | p::P,w::vs,0,m,nd,h1,h2,hk=>by
    simp at h1 h2;subst h1;subst h2;show bindC kindOf ((p,w)::P.zip vs) m p=_;unfold bindC;rw[Li λv hv=>(apl.mp nd).1 (apW hv).1,if_neg hk];simp
  | p::P,w::vs,i+1,m,nd,h1,h2,hk=>by
    show bindC kindOf ((p,w)::P.zip vs) m x=_;unfold bindC;exact Ll (i:=i) (apl.mp nd).2 (by simpa using h1) (by simpa using h2) hk
noncomputable def start(N:List Str)(vs:List V):St:=vs.map some++List.replicate (N.length-vs.length) none
noncomputable def VP(CX:CXT)(P:Program)(w:World)(K:W.Frag)(mg:Str->Option Value)(base:Heap)(N:List Str)(qual:Str)(scope:Scope)(f:Addr)(cd:Value)(A:Around)(outer:List Env)(s:Shared)(H:Hp)(E:XK):Cx where
  prog:=P
  w:=w
  K:=K
  mg:=mg
  base:=base
  A:=A.deeper (envOfC qual scope s.heap.objs.size f cd)
  N:=N
  s₀:=s
  H₀:=H
  env:=envOfC qual scope s.heap.objs.size f cd
  outer:=outer
  stack:=envOfC qual scope s.heap.objs.size f cd::outer
  ex:=[]
  calm:=true
  fn:=λ_=>true
  pn:=[]
  xe:=λe s'=>wpAny (model P w) (A.deeper (envOfC qual scope s.heap.objs.size f cd)) (leaving (envOfC qual scope s.heap.objs.size f cd) e) (λ_ s''=>CX outer H s E e s'') (λe' s''=>CX outer H s E e' s'') s'
theorem Qa{sc:Scope}{n:Nat}{x:Str}(h:sc.names.lookup x=some .cell):∃ c,(cellsFrom n sc.names []).lookup x=some c:=by
  have q:=PySem.W.cellsFrom_some sc.names n [] (.inl h);exact apw.mp q
theorem T2{CX:CXT}{P:Program}{w:World}{K:W.Frag}{mg:Str->Option Value}{base:Heap}{N ps:List Str}{qual:Str}{scope:Scope}{f:Addr}{cd:Value}{A:Around}{outer:List Env}{s s1:Shared}{H:Hp}{E:XK}{us:List Value}{vs:List V}
    (S:av N ps scope) (hd:A.handled=none) (e0:UU P w K mg base A outer s H) (hl:vs.length=ps.length) (r:Vals vs us)
    (x:InCallC s s.heap.objs.size (bindL (envOfC qual scope s.heap.objs.size f cd).kindOf (ps.zip us) λ_=>none) (cellsFrom (s.heap.objs.size+1) scope.names []) (bindC (envOfC qual scope s.heap.objs.size f cd).kindOf (ps.zip us) λ_=>none) s1) :
    Inv (VP CX P w K mg base N qual scope f cd A outer s H E) [] (start N vs) H s1:=by
  have hpl:ps.length<=N.length:=by have:=congrArg List.length S.pre;rw[aoj]at this;omega
  obtain⟨h1,tk,rfl,hk⟩:=x.done;have noA:∀ b:Addr,b∉(VP CX P w K mg base N qual scope f cd A outer s H E).ex:=λb z=>absurd (show b∈([]:List Addr) from z) (by simp);refine⟨⟨e0.mod,S.kind,rfl,rfl,aoa _,λy z c h1 h2=>?_,λy hy=>?_,λy c _ h=>?_,λ_=>hd,Around.frames_deeper e0.frames,.inr ⟨rfl,rfl⟩,λb z=>absurd z (noA b),e0.bs,e0.bsz,λb _ _=>noA b,λb z=>absurd z (noA b),e0.G5,e0.frf⟩,
    rfl,e0.bare,Un.kept hk,⟨_,x.toInCall.ns,λi y v h1 h2 h3=>?_⟩,λy c h=>⟨_,x.cell y c h⟩,e0.hok.fresh (aoa _),λy c h=>?_,λp hp=>absurd (show p∈([]:List (Addr×Obj)) from hp) (by simp),e0.hok.kept hk,?_⟩
  · exact name_of_addr x.apart (aoP h1) (aoP h2)
  · have hy:scope.names.lookup y=some .cell\/scope.names.lookup y=some .free:=hy
    rcases hy with hy|hy
    · exact Qa hy
    · exact absurd rfl (S.Zw _ (aoP hy))
  · exact apO (x.above y c (aoP h))
  · have hi:i<vs.length:=by
      unfold start at h2;by_cases hi:i<vs.length
      · exact hi
      · rw[aoI (by simpa using hi)]at h2
        rw[apf]at h2;split at h2<;>cases h2
    have ha:vs[i]?=some v:=by
      unfold start at h2;rw[aoO (by simpa using hi),aog]at h2;cases e:vs[i]? with
      | none=>rw[e]at h2;cases h2
      | some a=>rw[e]at h2;cases h2;rfl
    obtain⟨u,hu,rv⟩:=r.get ha;have hp:ps[i]?=some y:=by
      rw[<-S.pre,List.getElem?_take_of_lt 1e1];exact h1
    have ndP:ps.Nodup:=(by rw[<-S.pre];exact S.nd.sublist (List.take_sublist _ _));refine⟨u,rv,?_⟩;rcases S.par y (an9 hp) with k|k
    · exact .inl ⟨k,Lj ndP hp hu k⟩
    · obtain⟨c,e⟩:=Qa (n:=s.heap.objs.size+1) k
      refine .inr ⟨.inl k,c,e,?_⟩;have q:=x.cell y c e;rw[Ll ndP hp hu (by show scope.names.lookup y≠_;rw[k];decide)]at q;exact q
  · exact e0.hok.fresh (apO (x.above y c (aoP h)))
  · unfold start
    show _=N.length;rw[aof,an6,aoR];omega
theorem ab0{CX:CXT}{P:Program}{w:World}{K:W.Frag}{mg:Str->Option Value}{base:Heap}{k:Nat}{f:Addr}{name qual:Str}{params:Arguments}{body:List Stmt}{scope:Scope}{dV kV doc pm cdv ct oc:Value}{an od:Option Addr}
    {osl:Array (Option Value)} {N ps:List Str} {sp:Sp} (lk:K.lookup f=some ⟨oc,od,.func (PySem.W.fnOf name qual params body scope dV kV doc pm an cdv ct),osl⟩) (hcd:PySem.W.codeIn K cdv qual=true) (S:av N ps scope)
    (len:∀ vs H Q E,sp vs H Q E->vs.length=ps.length)
    (Q9:∀(A:Around) (outer:List Env) (s:Shared) (H:Hp) (vs:List V) (Q:VK) (E:XK),mT k (A.deeper (envOfC qual scope s.heap.objs.size f cdv))->sp vs H Q E ->
      ∃ t,PSs (VP CX P w K mg base N qual scope f cdv A outer s H E) body t/\t {nx:=λ_ H'=>Q .non H',rt:=Q} (start N vs) H) :
    DB P w K mg base CX (k+1) f (PySem.W.fnOf name qual params body scope dV kV doc pm an cdv ct) ps sp:=by
  refine⟨len,λA outer s H args us vs Q E hr e0 hb r hsp=>?_⟩;have hl:=len _ _ _ _ hsp;have KX:K.In s.heap:=e0.mod.kin.keeps λb o e=>(e0.bs b o e).1;have lim:s.heap.NoLimit:=e0.mod.nolimit.keeps λb o e=>(e0.bs b o e).1;have ab1:∀ y∈ps.zip us,scope.names.lookup y.1=some .local\/(scope.names.lookup y.1=some .cell/\((cellsFrom (s.heap.objs.size+1) scope.names []).lookup y.1).isSome=true):=λ⟨n,v⟩ hy=>by
    rcases S.par n (apW hy).1 with q|q
    · exact .inl q
    · exact .inr ⟨q,PySem.W.cellsFrom_some _ _ _ (.inl q)⟩
  refine codeAny_call_function hr.depth (KX _ _ lk) rfl S.co S.gen rfl (PySem.W.codeRec_of KX hcd) (hb _ _ _ _ ?_);refine wpAny_newFunctionEnv_cells S.kind ab1 λenv he s1 x=>?_;subst he;refine⟨lim.keeps x.toInCall.keep,codeAny_func ?_⟩;obtain⟨t,ht,hq⟩:=Q9 A outer s H vs Q E (hr.deeper _) hsp;have I:Inv (VP CX P w K mg base N qual scope f cdv A outer s H E) [] (start N vs) H s1:=T2 S hr.hd e0 hl r x;refine wpAny_mono (ht [] s1 (start N vs) H _ I hq) (λfl s' hs=>?_) λe s' hs=>hs;have fin:∀ {σ':St} {H':Hp} {v:V} {u:Value},Inv (VP CX P w K mg base N qual scope f cdv A outer s H E) [] σ' H' s'->RelV v u->Q v H'->CE outer P w H s Q u s' :=
    λ{σ' H' v u} J rv q=>⟨v,H',J.os,J.bare,J.base,J.hok,rv,q⟩
  cases fl with
  | ret u =>
    obtain⟨v,σ',H',J,rv,q⟩:=hs;exact fin J rv q
  | next =>
    obtain⟨σ',H',J,q⟩:=hs;exact fin (v:=V.non) (u:=Value.none) J rfl q
  | brk =>
    obtain⟨_,_,_,q⟩:=hs;exact False.elim q
  | cont =>
    obtain⟨_,_,_,q⟩:=hs;exact False.elim q
end L2
namespace L2
open PySem PySem.Spec PyProof.Rows
section
variable{X:Cx}{x:Str}{p pos:Pos}{e:Expr}{es:List Expr}{t:TA}{id T:String}{r:List V->Hp->VK->Prop}
noncomputable def tCB(r:List V->Hp->VK->Prop)(t:TA):TE:=λσ H Q=>t σ H λvs H1=>r vs H1 Q
theorem cz(hc:yI X (.builtin id) r)(hg:Gl X x)(hm:X.mg x=none)(hv:bootBuiltins x=some (.builtin id))(ha:PA X (e::es) t)(hn:x ≠ "__name__" := by decide)(hdb:(x == ("__debug__" : Str))=false:=by decide)
    (he:starEach (e::es) X.env=(false,eval e X.env)::starEach es X.env:=by rfl) (hpl:(backTo pos (starEach es X.env)).any (·.1)=false:=by rfl):PE X (.Call (.Name x p) (e::es) [] pos) (tCB r t):=by
  intro pins s σ H Q I h;refine wpAny_Call_Name_kw (Jw I hg hm hv ?_ hn hdb);exact PyProof.Rows.callWith_builtin1 (thn (ha pos pins s σ H _ I h) λus s1 ⟨vs,H1,I1,r1,q1⟩=>hc pins s1 σ H1 vs us Q I1 r1 q1) he hpl
theorem ll(hc:yI X (.type T) r)(hg:Gl X x)(hm:X.mg x=none)(hv:bootBuiltins x=some (.type T))(ha:PA X (e::es) t)(hn:x ≠ "__name__" := by decide)(hdb:(x == ("__debug__" : Str))=false:=by decide)
    (he:starEach (e::es) X.env=(false,eval e X.env)::starEach es X.env:=by rfl) (hpl:(backTo pos (starEach es X.env)).any (·.1)=false:=by rfl):PE X (.Call (.Name x p) (e::es) [] pos) (tCB r t):=by
  intro pins s σ H Q I h;refine wpAny_Call_Name_kw (Jw I hg hm hv ?_ hn hdb);exact PyProof.Rows.callWith_type1 (thn (ha pos pins s σ H _ I h) λus s1 ⟨vs,H1,I1,r1,q1⟩=>hc pins s1 σ H1 vs us Q I1 r1 q1) he hpl
end
end L2
namespace HT
open PySem PyProof.Rows
section
open PySem.SeqAt
open PySem.AutoSeq1 (wpAny_loadPart')
open PySem.MeetsSeq PySem.MeetsSeq2 PySem.MeetsSeq3
end
section
variable{prog:Program}{w:World}{A:Around}{E:Value->Shared->Prop}{s:Shared}
noncomputable def sIx(n d:Nat):Option Int->Nat
  | none=>d
  | some v=>if v<0 then(v+(n:Int)).toNat else min v.toNat n
end
end HT
namespace L2
open PySem PySem.Spec PyProof.Rows
noncomputable abbrev TO:=St->Hp->(Option Int->Hp->Prop)->Prop
noncomputable def PO(X:Cx)(e:Option Expr)(t:TO):Prop :=
  ∀(pins:List (Addr×Obj)) (s:Shared) (σ:St) (H:Hp) (Q:Option Int->Hp->Prop),Inv X pins σ H s->t σ H Q ->
    wpAny 1e6 X.A (evalPart e X.env) (λu s'=>∃ o H',Inv X pins σ H' s'/\IsPart u o/\Q o H') X.xe s
noncomputable def Xy:TO:=λ_ H Q=>Q none H
noncomputable def ab2(t:TE):TO:=λσ H Q=>t σ H λx H1=>∃ i,x=.int i/\Q (some i) H1
theorem intsAre_of{ns:List Int}:∀ {us:List Value},Vals (ns.map V.int) us->IntsAre us ns:=by
  induction ns with
  | nil=>intro us r;rw[apG]at r;cases r;exact .nil
  | cons n ns ih =>
    intro us r;rw[aov]at r;cases r with
    | cons r1 r2 =>
      obtain⟨t,e⟩:=r1;subst e;exact .cons n t (ih r2)
section
variable{X:Cx}{e:Expr}{te:TE}{lo hi:Option Expr}{tl th:TO}{pos p2:Pos}
theorem Xz:PO X none Xy:=by
  intro pins s σ H Q I h;rw[evalPart_none];exact wpAny_pure ⟨none,H,I,.none,h⟩
theorem XA(h:PE X e te):PO X (some e) (ab2 te):=by
  intro pins s σ H Q I hw;rw[evalPart_some];refine thn (h pins s σ H _ I hw) λu s1 ⟨x,H1,I1,r1,q1⟩=>?_;obtain⟨i,rfl,q⟩:=q1;obtain⟨t,rfl⟩:=r1;exact⟨some i,H1,I1,.int i t,q⟩
noncomputable def SlR(X:Cx)(r:V->Option Int->Option Int->Hp->VK->Prop):Prop :=
  ∀(pins:List (Addr×Obj)) (s:Shared) (σ:St) (H:Hp) (x:V) (v vl vu:Value) (lo hi:Option Int) (sl:Addr) (Q:VK),Inv X pins σ H s->RelV x v->s.heap.IsSliceOf sl vl vu .none->IsPart vl lo->IsPart vu hi->r x lo hi H Q ->
    ∃ T id,typeLookup (.type T) "__getitem__" = pure (some (.builtin id))/\s.TypeIs v T/\wpAny 1e6 X.A (getItem v (.ref sl)) (EP X pins σ Q) X.xe s
noncomputable def tSl(r:V->Option Int->Option Int->Hp->VK->Prop)(te:TE)(tl th:TO):TE:=λσ H Q=>te σ H λx H1=>tl σ H1 λl H2=>th σ H2 λu H3=>r x l u H3 Q
theorem Ve{r:V->Option Int->Option Int->Hp->VK->Prop}(hr:SlR X r)(he:PE X e te)(hl:PO X lo tl)(hu:PO X hi th):PE X (.Subscript e (.Slice lo hi none p2) pos) (tSl r te tl th):=by
  intro pins s σ H Q I h;refine Subscript_ (thn (he pins s σ H _ I h) λv s1 ⟨x,H1,I1,r1,q1⟩=>?_);refine wpAny_Slice (thn (hl pins s1 σ H1 _ I1 q1) λvl s2 ⟨l,H2,I2,pl,q2⟩=>thn (hu pins s2 σ H2 _ I2 q2) λvu s3 ⟨u,H3,I3,pu,q3⟩=>?_);rw[evalPart_none];refine wpAny_pure ?_;have I4:Inv X pins σ H3 {s3 with heap:=s3.heap.push {cls:=.type "slice",data:=.fields #[vl,vu,.none]}}:=I3.kept (t':=s3.toks) λb ob q=>an8 _ q;obtain⟨T,id,hT,ht,hg⟩:=hr pins {s3 with heap:=s3.heap.push {cls:=.type "slice",data:=.fields #[vl,vu,.none]}} σ H3 x v vl vu l u s3.heap.objs.size Q I4 r1 (Heap.IsSliceOf.new ..) pl pu q3;show wpAny 1e6 X.A (subscriptTail e (.Slice lo hi none p2) v (.ref s3.heap.objs.size)) (EP X pins σ Q) X.xe {s3 with heap:=s3.heap.push {cls:=.type "slice",data:=.fields #[vl,vu,.none]}};exact tail_any (ops:=[.ref s3.heap.objs.size,v]) ht hT hg (by with_unfolding_all rfl)
noncomputable def VQ(xs:List V)(lo hi:Option Int):List V:=(xs.drop (HT.sIx xs.length 0 lo)).take (HT.sIx xs.length xs.length hi-HT.sIx xs.length 0 lo)
theorem Oc(xs:List V)(lo hi:Option Int):(VQ xs lo hi).length<=xs.length:=by
  unfold VQ;rw[aoj,aph];omega
end
end L2
namespace L2
open PySem PySem.Spec PyProof.Rows
noncomputable def ixN(n:Nat)(i:Int):Option Nat:=if 0<=i then(if i<n then some i.toNat else none) else if -(n:Int)<=i then some (i+n).toNat else none
noncomputable def atI{α:Type}(xs:List α)(i:Int):Option α:=(ixN xs.length i).bind λj=>xs[j]?
theorem SK{n:Nat}{i:Int}{j:Nat}(h:ixN n i=some j):seqIndex? i n=some j/\j<n/\-(n:Int)<=i/\i<n:=by
  unfold ixN at h;by_cases h0:0<=i
  · rw[if_pos h0]at h
    by_cases h1:i<n
    · rw[if_pos h1]at h
      have e:i.toNat=j:=aos h;exact⟨by rw[seqIndex_of h0 h1,e],by omega,by omega,h1⟩
    · rw[if_neg h1]at h;cases h
  · rw[if_neg h0]at h
    by_cases h1:-(n:Int)<=i
    · rw[if_pos h1]at h
      have e:(i+n).toNat=j:=aos h;exact⟨by rw[seqIndex_neg 1e1 h1,e],by omega,h1,by omega⟩
    · rw[if_neg h1]at h;cases h
theorem SM{α:Type}{xs:List α}{i:Int}{v:α}(h:atI xs i=some v):∃ j,seqIndex? i xs.length=some j/\xs[j]?=some v/\j<xs.length/\-(xs.length:Int)<=i/\i<xs.length:=by
  unfold atI at h;cases e:ixN xs.length i with
  | none=>rw[e]at h;cases h
  | some j =>
    rw[e]at h;obtain⟨h1,h2,h3,h4⟩:=SK e;exact⟨j,h1,h,h2,h3,h4⟩
theorem yR{α:Type}{xs:List α}{j:Nat}{v:α}(h:xs[j]?=some v):atI xs (j:Int)=some v:=by
  have hj:j<xs.length:=(an5.mp h).1;have e:ixN xs.length (j:Int)=some j:=by
    unfold ixN;rw[if_pos 1e1,if_pos 1e1];simp
  unfold atI;rw[e];exact h
noncomputable def XB(b:Expr):Prop:=∀ o i,subscripted b false o i=operate [o,i] (getItem o i)
noncomputable def IxR(X:Cx)(r:R2):Prop :=
  ∀(value slice:Expr) (pins:List (Addr×Obj)) (s:Shared) (σ:St) (H:Hp) (x y:V) (v u:Value) (Q:VK),Inv X pins σ H s->RelV x v->RelV y u->r x y H Q ->
    subscripted slice false v u=operate [v,u] (getItem v u)->wpAny 1e6 X.A (subscriptTail value slice v u) (EP X pins σ Q) X.xe s
noncomputable def MtR(X:Cx)(id:String)(r:V->List V->Hp->VK->Prop):Prop :=
  ∀(pins:List (Addr×Obj)) (s:Shared) (σ:St) (H:Hp) (x:V) (xs:List V) (v:Value) (us:List Value) (Q:VK),Inv X pins σ H s->RelV x v->Vals xs us->r x xs H Q ->
    wpAny 1e6 X.A (call (.builtin id) (v::us)) (EP X pins σ Q) X.xe s
section
variable{X:Cx}{a b:Expr}{ta tb:TE}{pos:Pos}
theorem bT{r:R2}(hr:IxR X r)(ha:PE X a ta)(hb:PE X b tb)(hs:XB b):PE X (.Subscript a b pos) (tOp r ta tb):=by
  intro pins s σ H Q I h;exact Subscript_ (Z8 ha hb I h λv u s2 x y H2 I2 rx ry q=>hr a b pins s2 σ H2 x y v u Q I2 rx ry q (hs _ _))
noncomputable def aac(K:W.Frag):R2:=λx y H Q=>∃ p xs i v,x=.ref p/\y=.int i/\SqL K H p xs/\atI xs i=some v/\Q v H
noncomputable def YM(K:W.Frag):R2:=λx y H Q=>∃ p xs i v,x=.ref p/\y=.int i/\SqT K H p xs/\atI xs i=some v/\Q v H
theorem dC:IxR X (aac X.K):=by
  intro value slice pins s σ H x y v u Q I rx ry h hs;obtain⟨p,xs,i,z,rfl,rfl,hq,he,q⟩:=h;cases rx;obtain⟨t,rfl⟩:=ry;obtain⟨its,r,pl,hz⟩:=I.list hq;obtain⟨j,h1,h2,h3,h4,h5⟩:=SM he;obtain⟨w,ew,rw'⟩:=r.get h2;have hl:=r.length;have hn:=JD;have fin:EP X pins σ Q w s:=⟨z,H,I,rw',q⟩;by_cases h0:0<=i
  · have hj:i.toNat=j:=by
      rw[seqIndex_of h0 h5]at h1;exact aos h1
    exact item_listR pl.isList h0 1e1 (by rw[hj];simpa using ew) fin hs
  · have hj:(i+(its.toArray.size:Int)).toNat=j:=by
      rw[seqIndex_neg 1e1 h4]at h1;rw[aoc,<-hl];exact aos h1
    exact subscriptTail_builtinR (x:=w) pl.isList.typeIs slot_list_getitem.lookup
      (wpAny_getItem_list_neg (Q:=λr s'=>r=w/\EP X pins σ Q r s') pl.isList 1e1 (by rw[aoc]<;>omega) 1e1 (by rw[hj];simpa using ew) ⟨rfl,fin⟩) hs
theorem cY:IxR X (YM X.K):=by
  intro value slice pins s σ H x y v u Q I rx ry h hs;obtain⟨p,xs,i,z,rfl,rfl,hq,he,q⟩:=h;cases rx;obtain⟨t,rfl⟩:=ry;obtain⟨its,r,pl,hz⟩:=I.tuple hq;obtain⟨j,h1,h2,h3,h4,h5⟩:=SM he;obtain⟨w,ew,rw'⟩:=r.get h2;have hl:=r.length;have hn:=JD;have fin:EP X pins σ Q w s:=⟨z,H,I,rw',q⟩;exact subscriptTail_builtinR (x:=w) pl.typeIs slot_tuple_getitem.lookup
    (getItem_tuple (j:=j) (Q:=λr s'=>r=w/\EP X pins σ Q r s') pl 1e1 1e1 (by rw[aoc,<-hl];exact h1) (by simpa using ew) ⟨rfl,fin⟩) hs
theorem Ra(its:List Value)(n j:Nat)(u:Value):Obj.mapSeq (·.setIfInBounds j u) {cls:=.type "list",data:=.seq its.toArray n}={cls:=.type "list",data:=.seq (its.set j u).toArray n}:=by
  simp[Obj.mapSeq]
theorem Inv.lst{pins:List (Addr×Obj)}{σ:St}{H:Hp}{s:Shared}{p:Addr}{xs:List V}(I:Inv X pins σ H s)(h:H p=some (.lst xs)) :
    ∃(its:List Value) (n:Nat),Vals xs its/\s.heap.get? p=some {cls:=.type "list",data:=.seq its.toArray n}/\xs.length<=sizeLine:=by
  obtain⟨z,its,n,r,e⟩:=I.hok p _ h;exact⟨its,n,r,e,z⟩
theorem Inv.Zx{pins:List (Addr×Obj)}{σ:St}{H:Hp}{s:Shared}{p:Addr}{xs ys:List V}{its JA:List Value}{n n':Nat}{f:Obj->Obj}(I:Inv X pins σ H s)(h:H p=some (.lst xs))
    (ho:s.heap.get? p=some {cls:=.type "list",data:=.seq its.toArray n}) (hf:f {cls:=.type "list",data:=.seq its.toArray n}={cls:=.type "list",data:=.seq JA.toArray n'}) (r:Vals ys JA) (hz:ys.length<=sizeLine) (t:Nat) :
    Inv X pins σ (upd H p (.lst ys)) {s with heap:=s.heap.update p f,toks:=t}:=by
  have e:(s.heap.update p f).get? p=some {cls:=.type "list",data:=.seq JA.toArray n'}:=by
    rw[Heap.get?_update_self f ho (by rw[hf]<;>rfl),hf]
  refine I.write (x:=p) (e:=p) (by rw[h];trivial) (.inl rfl) (λb u hb q=>(aoE _ _ (aol hb)).trans q) ⟨_,e⟩ ?_;exact⟨hz,JA,n',r,e⟩
noncomputable def ab3:V->V->V->Hp->(Hp->Prop)->Prop:=λo i v H Q=>∃ p xs k j,o=.ref p/\i=.int k/\H p=some (.lst xs)/\ixN xs.length k=some j/\Q (upd H p (.lst (xs.set j v)))
theorem set_list:acR X ab3:=by
  intro pins s σ H o i v ov iv u Q I ro ri rv h;obtain⟨p,xs,k,j,rfl,rfl,hp,hj,q⟩:=h;cases ro;obtain⟨t,rfl⟩:=ri;obtain⟨its,n,r,ho,hz⟩:=I.lst hp;obtain⟨h1,h2,h3,h4⟩:=SK hj;have hl:=r.length;have hn:=JD;have I':Inv X pins σ (upd H p (.lst (xs.set j v))) {s with heap:=s.heap.update p (Obj.mapSeq (·.setIfInBounds j u))} :=
    I.Zx hp ho (Ra its n j u) (r.set rv j) (by rw[aoD];exact hz) s.toks
  by_cases h0:0<=k
  · have hk:k.toNat=j:=by
      rw[seqIndex_of h0 h4]at h1;exact aos h1
    exact PySem.W.ki_setAt ho h0 1e1 (by rw[aoc,<-hl];exact h4) (by rw[hk];exact⟨_,I',q⟩)
  · have hk:(k+(its.toArray.size:Int)).toNat=j:=by
      rw[seqIndex_neg 1e1 h3]at h1;rw[aoc,<-hl];exact aos h1
    exact PySem.W.ki_setBack ho 1e1 (by rw[aoc,<-hl];exact h3) 1e1 (by rw[hk];exact⟨_,I',q⟩)
theorem LQ(lo hi:Option Int)(n:Nat):(sliceBounds lo hi none n).1=((HT.sIx n 0 lo:Nat):Int)/\(sliceBounds lo hi none n).2.1=((HT.sIx n n hi:Nat):Int)/\(sliceBounds lo hi none n).2.2=1:=by
  refine⟨?_,?_,rfl⟩
  · cases lo with
    | none=>simp[sliceBounds,HT.sIx]
    | some i =>
      simp only[sliceBounds,HT.sIx,Option.getD_none,show(1:Int)>0 by decide,if_true];by_cases h:i<0
      · simp only[h,if_true]<;>omega
      · simp only[h,if_false]<;>omega
  · cases hi with
    | none=>simp[sliceBounds,HT.sIx]
    | some i =>
      simp only[sliceBounds,HT.sIx,Option.getD_none,show(1:Int)>0 by decide,if_true];by_cases h:i<0
      · simp only[h,if_true]<;>omega
      · simp only[h,if_false]<;>omega
theorem JE(its:List Value)(lo hi:Option Int):slicePick its.toArray lo hi none=((its.drop (HT.sIx its.length 0 lo)).take (HT.sIx its.length its.length hi-HT.sIx its.length 0 lo)).toArray:=by
  obtain⟨h1,h2,h3⟩:=LQ lo hi its.toArray.size;unfold slicePick;rw[h1,h2,h3];simp only[sliceRange_one,pick_run,aoc]<;>rfl
noncomputable def ajR(K:W.Frag):V->Option Int->Option Int->Hp->VK->Prop:=λx lo hi H Q=>∃ a xs,x=.ref a/\SqL K H a xs/\∀ p,H p=none->Q (.ref p) (upd H p (.lst (VQ xs lo hi)))
theorem XC:SlR X (ajR X.K):=by
  intro pins s σ H x v vl vu lo hi sl Q I rx hs pl pu h;obtain⟨a,xs,rfl,hx,q⟩:=h;cases rx;obtain⟨its,r,ht,hz⟩:=I.list hx;have hlen:=r.length;refine⟨"list",_,slot_list_getitem.lookup,ht.isList.typeIs,?_⟩;refine wpAny_getItem_list_slice ht.isList hs pl pu .none (by simp) ?_ (by rw[aoc]<;>omega);rw[JE,<-hlen];refine⟨.ref s.heap.objs.size,_,I.laid (t':=s.toks) (o:=.lst (VQ xs lo hi)) (λb ob q=>an8 _ q) (aoa _) ?_,rfl,q _ (I.hok.fresh (aoa _))⟩;exact⟨aou (Oc xs lo hi) hz,_,0,(r.drop (HT.sIx xs.length 0 lo)).take (HT.sIx xs.length xs.length hi-HT.sIx xs.length 0 lo),aoB _ rfl⟩
noncomputable def mV:V->Bool
  | .non=>true
  | .bl _=>true
  | .int _=>true
  | .str _=>true
  | _=>false
noncomputable def eqV:V->V->Bool
  | .non,.non=>true
  | .bl a,.bl b=>a == b
  | .bl a,.int b=>(if a then 1 else 0) == b
  | .int a,.bl b=>a == (if b then 1 else 0)
  | .int a,.int b=>a == b
  | .str a,.str b=>a == b
  | _,_=>false
theorem NU{A:Around}{s:Shared}{y x:V}{u v:Value}(ry:RelV y u)(rx:RelV x v)(fy:mV y=true)(fx:mV x=true):SeqAt.EqAt A s u v (eqV y x):=by
  cases y with
  | non =>
    cases ry;cases x with
    | non=>cases rx;exact SeqAt.EqAt.same _
    | bl b=>cases rx;exact SeqAt.EqAt.none_bool b
    | int b=>obtain⟨t,rfl⟩:=rx;exact SeqAt.EqAt.none_int b t
    | str b=>obtain⟨t,rfl⟩:=rx;exact SeqAt.EqAt.none_str b t
    | _=>exact absurd (show false=true from fx) aob
  | bl a =>
    cases ry;cases x with
    | non=>cases rx;exact SeqAt.EqAt.bool_none a
    | bl b=>cases rx;exact SeqAt.EqAt.bool_bool a b
    | int b=>obtain⟨t,rfl⟩:=rx;exact SeqAt.EqAt.bool_int a b t
    | str b=>obtain⟨t,rfl⟩:=rx;exact SeqAt.EqAt.bool_str a b t
    | _=>exact absurd (show false=true from fx) aob
  | int a =>
    obtain⟨t',rfl⟩:=ry;cases x with
    | non=>cases rx;exact SeqAt.EqAt.int_none a t'
    | bl b=>cases rx;exact SeqAt.EqAt.int_bool a t' b
    | int b=>obtain⟨t,rfl⟩:=rx;exact SeqAt.EqAt.int_int a t' b t
    | str b=>obtain⟨t,rfl⟩:=rx;exact SeqAt.EqAt.int_str a t' b t
    | _=>exact absurd (show false=true from fx) aob
  | str a =>
    obtain⟨t',rfl⟩:=ry;cases x with
    | non=>cases rx;exact SeqAt.EqAt.str_none a t'
    | bl b=>cases rx;exact SeqAt.EqAt.str_bool a t' b
    | int b=>obtain⟨t,rfl⟩:=rx;exact SeqAt.EqAt.str_int a t' b t
    | str b=>obtain⟨t,rfl⟩:=rx;exact SeqAt.EqAt.str_str a t' b t
    | _=>exact absurd (show false=true from fx) aob
  | _=>exact absurd (show false=true from fy) aob
noncomputable def eqU(x:V)(u:Value):Bool:=match u with
  | .none=>eqV .non x
  | .bool b=>eqV (.bl b) x
  | .int i _=>eqV (.int i) x
  | .str z _=>eqV (.str z) x
  | _=>false
theorem VR{x y:V}{u:Value}(r:RelV y u)(f:mV y=true):eqU x u=eqV y x:=by
  cases y with
  | non=>cases r;rfl
  | bl b=>cases r;rfl
  | int i=>obtain⟨t,rfl⟩:=r;rfl
  | str z=>obtain⟨t,rfl⟩:=r;rfl
  | _=>exact absurd (show false=true from f) aob
theorem DC{x:V}:∀ {xs:List V} {us:List Value},Vals xs us->xs.all mV=true->us.any (eqU x)=xs.any λy=>eqV y x
  | _,_,.nil,_=>rfl
  | y::xs,u::us,.cons r t,f=>by
    rw[List.all_cons,apJ]at f;rw[apz,apz,VR r f.1,DC t f.2]
theorem xS{A:Around}{s:Shared}{x:V}{v:Value}(rx:RelV x v)(fx:mV x=true):∀ {xs:List V} {us:List Value},Vals xs us->xs.all mV=true->∀ u∈us,SeqAt.EqAt A s u v (eqU x u)
  | _,_,.nil,_=>λu hu=>by cases hu
  | y::xs,u::us,.cons r t,f=>λu' hu=>by
    rw[List.all_cons,apJ]at f;rcases aop.mp hu with rfl|hu
    · rw[VR r f.1];exact NU r rx f.1 fx
    · exact xS rx fx t f.2 u' hu
noncomputable def inV(x:V)(xs:List V):Bool:=xs.any λy=>eqV y x
noncomputable def rIn(K:W.Frag)(neg:Bool):R2:=λx y H Q=>∃ p xs,y=.ref p/\(SqL K H p xs\/SqT K H p xs)/\mV x=true/\xs.all mV=true/\Q (.bl (if neg then !inV x xs else inV x xs)) H
theorem Lm:OpR X (compareOp .In) (rIn X.K false):=by
  intro pins s σ H x y v u Q I rx ry h;obtain⟨p,xs,rfl,hq,fx,fs,q⟩:=h;cases ry;rcases hq with hq|hq
  · obtain⟨its,r,pl,hz⟩:=I.list hq
    refine SeqAt.in_listAt (eqU x) pl.isList (λw hw=>xS rx fx r fs w (by simpa using hw)) ⟨.bl _,H,I,rfl,?_⟩;rw[show its.toArray.any (eqU x)=its.any (eqU x) by simp,DC r fs];exact q
  · obtain⟨its,r,pl,hz⟩:=I.tuple hq
    refine SeqAt.in_tupleAt (eqU x) pl (λw hw=>xS rx fx r fs w (by simpa using hw)) ⟨.bl _,H,I,rfl,?_⟩;rw[show its.toArray.any (eqU x)=its.any (eqU x) by simp,DC r fs];exact q
theorem LR:OpR X (compareOp .NotIn) (rIn X.K true):=by
  intro pins s σ H x y v u Q I rx ry h;obtain⟨p,xs,rfl,hq,fx,fs,q⟩:=h;cases ry;rcases hq with hq|hq
  · obtain⟨its,r,pl,hz⟩:=I.list hq
    refine SeqAt.notIn_listAt (eqU x) pl.isList (λw hw=>xS rx fx r fs w (by simpa using hw)) ⟨.bl _,H,I,rfl,?_⟩;rw[show its.toArray.any (eqU x)=its.any (eqU x) by simp,DC r fs];exact q
  · obtain⟨its,r,pl,hz⟩:=I.tuple hq
    refine SeqAt.notIn_tupleAt (eqU x) pl (λw hw=>xS rx fx r fs w (by simpa using hw)) ⟨.bl _,H,I,rfl,?_⟩;rw[show its.toArray.any (eqU x)=its.any (eqU x) by simp,DC r fs];exact q
theorem a9:yI X (.builtin "len") (λxs H Q=>∃ p ys,xs=[.ref p]/\(SqL X.K H p ys\/SqT X.K H p ys)/\Q (.int ys.length) H):=by
  intro pins s σ H xs us Q I r h;obtain⟨p,ys,rfl,hq,q⟩:=h;obtain⟨u,rfl,rx⟩:=vals1 r;cases rx;have hn:=JD;rcases hq with hq|hq
  · obtain⟨its,r',pl,hz⟩:=I.list hq
    have hlen:=r'.length;exact Calls.call_len_list pl.isList (by simp only[aoc]<;>omega) ⟨.int ys.length,H,I.tok _,⟨s.toks+1,by rw[aoc,hlen]⟩,q⟩
  · obtain⟨its,r',pl,hz⟩:=I.tuple hq
    have hlen:=r'.length;exact len_tuple pl (by simp only[aoc]<;>omega) ⟨.int ys.length,H,I.tok _,⟨s.toks+1,by rw[aoc,hlen]⟩,q⟩
theorem pV:yI X (.type "list") (λxs H Q=>∃ p ys,xs=[.ref p]/\(SqL X.K H p ys\/SqT X.K H p ys)/\∀ l,H l=none->Q (.ref l) (upd H l (.lst ys))):=by
  intro pins s σ H xs us Q I r h;obtain⟨p,ys,rfl,hq,q⟩:=h;obtain⟨u,rfl,rx⟩:=vals1 r;cases rx;have fin:∀(its:List Value),Vals ys its->ys.length<=sizeLine->∀(h':Heap) (c':Nat),(∀ b o',s.heap.get? b=some o'->h'.get? b=some o') ->
      h'.get? s.heap.objs.size=some {cls:=.type "list",dict:=none,data:=.seq its.toArray c',slots:=#[]}->EP X pins σ Q (.ref s.heap.objs.size) {s with heap:=h'}:=λits r' hz h' c' kp e =>
    ⟨.ref s.heap.objs.size,_,I.laid (t':=s.toks) kp (aoa _) (show i7 X.prog X.w _ h' _ (.lst ys) from⟨hz,its,c',r',e⟩),rfl,q _ (I.hok.fresh (aoa _))⟩
  rcases hq with hq|hq
  · obtain⟨its,r',pl,hz⟩:=I.list hq
    have hlen:=r'.length;obtain⟨o,ho,hc,n,hd⟩:=pl.isList;exact call_list_seq p (.inl rfl) ho hc hd (λh' c' kp e=>fin its r' hz h' c' kp e) (by simp only[aoc]<;>omega)
  · obtain⟨its,r',pl,hz⟩:=I.tuple hq
    have hlen:=r'.length;obtain⟨o,ho,hc,n,hd⟩:=pl;exact call_list_seq p (.inr rfl) ho hc hd (λh' c' kp e=>fin its r' hz h' c' kp e) (by simp only[aoc]<;>omega)
noncomputable def tyV(K:W.Frag)(T:String)(x:V)(H:Hp):Prop:=match x with
  | .str _=>T = "str"
  | .int _=>T = "int"
  | .ref p=>(T = "list" /\ ∃ xs,SqL K H p xs)\/(T = "tuple" /\ ∃ o,K.lookup p=some o/\o.cls=.type "tuple" /\ o.dict=none) \/
      (T = "dict" /\ ((∃ kvs,H p=some (.dK kvs))\/∃ kvs,H p=some (.dT kvs)))\/(T = "set" /\ ∃ S n,H p=some (.set S n))
  | _=>False
theorem Zy{pins:List (Addr×Obj)}{σ:St}{H:Hp}{s:Shared}{T:String}{x:V}{v:Value}(I:Inv X pins σ H s)(r:RelV x v)(ty:tyV X.K T x H) :
    s.TypeIs v T/\∀ a,v=.ref a->∃ ob,s.heap.get? a=some ob/\ob.dict=none:=by
  cases x with
  | str z =>
    obtain⟨t,rfl⟩:=r;cases (show T = "str" from ty);exact⟨typeIs_str s z t,λ_ e=>nomatch e⟩
  | int i =>
    obtain⟨t,rfl⟩:=r;cases (show T = "int" from ty);exact⟨typeIs_int s i t,λ_ e=>nomatch e⟩
  | ref p =>
    cases r;rcases ty with⟨rfl,xs,hq⟩|⟨rfl,o,hk,hc,hd⟩|⟨rfl,hk⟩|⟨rfl,S,n,hk⟩
    · obtain⟨its,_,pl,_⟩:=I.list hq
      refine⟨pl.isList.typeIs,λa e=>?_⟩;cases e;obtain⟨o,n,e,c,hd,_⟩:=pl;exact⟨o,e,hd⟩
    · refine⟨⟨o,I.kIn p o hk,hc⟩,λa e=>?_⟩
      cases e;exact⟨o,I.kIn _ o hk,hd⟩
    · have z:∃ o,s.heap.get? p=some o/\o.ExactDict:=by
        rcases hk with⟨kvs,hk⟩|⟨kvs,hk⟩
        · obtain⟨_,_,_,_,o,_,_,e,ex,_⟩:=I.hok p _ hk
          exact⟨o,e,ex⟩
        · obtain⟨_,_,_,_,o,_,_,e,ex,_⟩:=I.hok p _ hk
          exact⟨o,e,ex⟩
      obtain⟨o,e,ex⟩:=z;refine⟨⟨o,e,ex.1⟩,λa e2=>?_⟩;cases e2;exact⟨o,e,ex.2.1⟩
    · obtain⟨o,_,_,_,e,ex,_⟩:=I.hok p _ hk
      refine⟨⟨o,e,ex.1⟩,λa e2=>?_⟩;cases e2;exact⟨o,e,ex.2.1⟩
  | _=>exact False.elim ty
noncomputable def tBM(K:W.Frag)(T:String)(r:V->List V->Hp->VK->Prop)(to:TE)(t:TA):TE:=λσ H Q=>to σ H λx H1=>tyV K T x H1/\t σ H1 λxs H2=>r x xs H2 Q
variable{o e:Expr}{es:List Expr}{to:TE}{t:TA}{name:Str}{apos wM:Pos}{T id:String}{r:V->List V->Hp->VK->Prop}
theorem Rb(pa:PlainAttrs T)(slot:Slot T name id)(hty:typeOf (.builtin id)=pure (.type "method_descriptor"))(hm:MtR X id r)(ho:PE X o to)(ha:PA X (e::es) t)
    (ab4:attributeBase o name X.env (eval o X.env)=eval o X.env:=by rfl)
    (XD:((backTo wM (starEach (e::es) X.env)).all (λx=>!x.1)&&(backToKw wM (keywordEach [] X.env)).all (λx=>x.1.isSome)
      && decide ((e::es).length+([]:List Keyword).length+(if([]:List Keyword).isEmpty then 0 else 1)<30))=true:=by rfl)
    (ab5:(apos.endLine == wM.line)=true:=by rfl) (hs:starEach (e::es) X.env=(false,eval e X.env)::starEach es X.env:=by rfl) (Zz:(backTo wM (starEach es X.env)).any (·.1)=false:=by rfl) :
    PE X (.Call (.Attribute o name apos) (e::es) [] wM) (tBM X.K T r to t):=by
  intro pins s σ H Q I h;refine wpAny_Call_method_late ab4 XD ab5 rfl (thn (ho pins s σ H _ I h) λv s1 ⟨x,H1,I1,r1,ty,q1⟩=>?_);obtain⟨h1,h2⟩:=Zy I1 r1 ty;refine⟨T,id,pa,slot,hty,h1,h2,?_⟩;have hA:=ha wM pins s1 σ H1 _ I1 q1;rw[hs]at hA ⊢;refine apD (by show(false||(backTo wM (starEach es X.env)).any (·.1))=false;rw[Zz]<;>rfl) (apK ?_);exact thn hA λus s2 ⟨vs,H2,I2,r2,q2⟩=>hm pins s2 σ H2 x vs v us Q I2 r1 r2 q2
end
end L2
namespace L2
open PySem PySem.Spec PyProof.Rows
noncomputable def MtM(X:Cx)(id:String)(r:V->List V->Hp->VK->Prop):Prop :=
  ∀(pins:List (Addr×Obj)) (s:Shared) (σ:St) (H:Hp) (x:V) (xs:List V) (v:Value) (us:List Value) (Q:VK),Inv X pins σ H s->RelV x v->Vals xs us->r x xs H Q ->
    wpAny 1e6 X.A (call (.builtin id) (v::us)) (EP X pins σ Q) X.xe s
theorem Vals.one:∀ {x:V} {us:List Value},Vals [x] us->∃ u,us=[u]/\RelV x u
  | _,_,.cons r .nil=>⟨_,rfl,r⟩
theorem Vals.eraseIdx:∀ {xs:List V} {us:List Value} (i:Nat),Vals xs us->Vals (xs.eraseIdx i) (us.eraseIdx i)
  | _,_,_,.nil=>.nil
  | _,_,0,.cons _ t=>t
  | _,_,i+1,.cons r t=>.cons r (Vals.eraseIdx i t)
theorem Vals.rep{xs:List V}{us:List Value}(h:Vals xs us):∀ k:Nat,Vals (List.replicate k xs).flatten (List.replicate k us).flatten
  | 0=>.nil
  | k+1=>by
    rw[aoJ,aoJ,apa,apa];exact Vals.append h (Vals.rep h k)
theorem Ln{α:Type}:∀(l:List α) (i:Nat),(l.eraseIdx i).length<=l.length
  | [],_=>aoa _
  | _::_,0=>apE _
  | _::r,i+1=>Nat.succ_le_succ (Ln r i)
theorem foldl_rep(its:List Value):∀(k:Nat) (acc:List Value),
    List.foldl (λx1 x2=>x1++x2) acc.toArray (List.replicate k its.toArray)=(acc++(List.replicate k its).flatten).toArray
  | 0,acc=>by simp
  | k+1,acc=>by
    have e:acc.toArray++its.toArray=(acc++its).toArray:=(by simp);have e2:(acc++its)++(List.replicate k its).flatten=acc++(List.replicate (k+1) its).flatten:=by
      rw[aoJ,apa,apq]
    rw[<-e2,<-foldl_rep its k (acc++its),<-e,aoJ,List.foldl_cons]
section
variable{X:Cx}{pins:List (Addr×Obj)}{σ:St}{H:Hp}{s:Shared}{l b:Addr}{xs ys zs:List V}
theorem Inv.aad{its JA:List Value}{n:Nat}{f:Array Value->Array Value}{t':Nat}(I:Inv X pins σ H s)(hH:H l=some (.lst xs))
    (e:s.heap.get? l=some {cls:=.type "list",data:=.seq its.toArray n}) (hf:f its.toArray=JA.toArray) (hv:Vals ys JA) (hz:ys.length<=sizeLine) :
    Inv X pins σ (upd H l (.lst ys)) {s with heap:=s.heap.update l (Obj.mapSeq f),toks:=t'}:=by
  have q:=PySem.IsL.update e f;rw[hf]at q;refine I.write (x:=l) (e:=l) (by rw[hH];exact trivial) (.inl rfl) (λb' u hb hu=>(aoE s.heap (Obj.mapSeq f) (aol hb)).trans hu) ⟨_,q⟩ ?_;exact⟨hz,JA,_,hv,q⟩
theorem Inv.YN{its:List Value}{t':Nat}(I:Inv X pins σ H s)(hv:Vals ys its)(hz:ys.length<=sizeLine) :
    Inv X pins σ (upd H s.heap.objs.size (.lst ys)) {s with heap:=s.heap.push {cls:=.type "list",data:=.seq its.toArray},toks:=t'} :=
  I.laid (λ_ _ q=>an8 _ q) (aoa _) ⟨hz,its,0,hv,aoB _ rfl⟩
theorem Inv.fresh(I:Inv X pins σ H s):H s.heap.objs.size=none:=I.hok.fresh (aoa _)
theorem Inv.XE(I:Inv X pins σ H s)(hH:H l=some (.lst xs)):xs.length<=sizeLine/\∃(its:List Value) (n:Nat),Vals xs its/\xs.length=its.length/\s.heap.get? l=some {cls:=.type "list",data:=.seq its.toArray n}:=by
  obtain⟨z,its,n,r,e⟩:=I.hok l _ hH;exact⟨z,its,n,r,r.length,e⟩
theorem Qb{n:Nat}(h:n<=sizeLine):Builtin.List.listTooLong n=false:=by
  unfold Builtin.List.listTooLong;exact decide_eq_false 1e1
end
section
variable{X:Cx}
noncomputable def XF:V->List V->Hp->VK->Prop:=λx vs H Q=>∃ l xs y,x=.ref l/\vs=[y]/\H l=some (.lst xs)/\xs.length<sizeLine/\Q .non (upd H l (.lst (xs++[y])))
theorem yK:MtM X "list.append" XF:=by
  intro pins s σ H x vs v us Q I rx rv h;obtain⟨l,xs,y,rfl,rfl,hH,hz,q⟩:=h;cases rx;obtain⟨u,rfl,ru⟩:=rv.one;obtain⟨z,its,n,r,hl,e⟩:=I.XE hH;refine call_meets F.slot_list_append ⟨_,e,rfl⟩ F.entry_list_append (F.args_list_append_2 _ _) (PySem.list_append l its.toArray n u (by rw[aoc];omega)) ⟨e,?_⟩;refine⟨.non,_,I.aad (JA:=its++[u]) hH e (by simp) (r.append (.cons ru .nil)) ?_,rfl,q⟩;rw[aof,aoH];omega
noncomputable def XG:V->List V->Hp->VK->Prop:=λx vs H Q=>∃ l b xs zs,x=.ref l/\vs=[.ref b]/\H l=some (.lst xs)/\H b=some (.lst zs)/\xs.length+zs.length<=sizeLine/\Q .non (upd H l (.lst (xs++zs)))
theorem T3:MtM X "list.extend" XG:=by
  intro pins s σ H x vs v us Q I rx rv h;obtain⟨l,b,xs,zs,rfl,rfl,hH,hB,hz,q⟩:=h;cases rx;obtain⟨u,rfl,ru⟩:=rv.one;cases ru;obtain⟨z,its,n,r,hl,e⟩:=I.XE hH;obtain⟨z2,YO,n2,r2,hl2,e2⟩:=I.XE hB;have hsz:its.toArray.size+YO.toArray.size<=sizeLine:=by rw[aoc,aoc];omega
  have Wv:¬(!its.toArray.isEmpty&&Builtin.List.listTooLong (its.toArray.size+YO.toArray.size))=true:=by
    rw[Qb hsz,apR];exact aob
  refine call_meets F.slot_list_extend ⟨_,e,rfl⟩ F.entry_list_extend (F.args_list_extend_2 _ _)
    (AutoSeq1.list_extend_list_list_0 l its.toArray n b YO.toArray n2 Wv (by rw[aoc];omega) 1e1) ⟨e,e2,?_⟩
  refine⟨.non,_,I.aad (JA:=its++YO) hH e (by simp) (r.append r2) ?_,rfl,q⟩;rw[aof];omega
noncomputable def ZA:V->List V->Hp->VK->Prop:=λx vs H Q=>∃ l xs i k y,x=.ref l/\vs=[.int i]/\H l=some (.lst xs)/\-(2 ^ 63)<=i/\i<2 ^ 63/\seqIndex? i xs.length=some k/\xs[k]?=some y/\Q y (upd H l (.lst (xs.eraseIdx k)))
theorem Vf:MtM X "list.pop" ZA:=by
  intro pins s σ H x vs v us Q I rx rv h;obtain⟨l,xs,i,k,y,rfl,rfl,hH,h1,h2,hk,hy,q⟩:=h;cases rx;obtain⟨u,rfl,ru⟩:=rv.one;obtain⟨t,rfl⟩:=ru;obtain⟨z,its,n,r,hl,e⟩:=I.XE hH;obtain⟨w,hw,rw'⟩:=r.get hy;refine call_meets F.slot_list_pop ⟨_,e,rfl⟩ F.entry_list_pop (F.args_list_pop_2 _ _)
    (MeetsSeq.list_pop_at l its.toArray n i t k w (fitsIndex_both h1 h2) (by rw[aoc,<-hl];exact hk) (by rw[<-Array.getElem?_toList];exact hw) (by rw[aoc];omega)) ⟨e,?_⟩
  refine⟨y,_,I.aad (JA:=its.eraseIdx k) hH e ?_ (r.eraseIdx k) ?_,rw',q⟩
  · show its.toArray.eraseIdxIfInBounds k=(its.eraseIdx k).toArray
    rw[List.eraseIdxIfInBounds_toArray]
  · have:=Ln xs k
    omega
noncomputable def ajS:R2:=λx y H Q=>∃ l k xs,x=.ref l/\y=.int k/\H l=some (.lst xs)/\-(2 ^ 63)<=k/\k<2 ^ 63/\xs.length*k.toNat<=sizeLine /\
  ∀ p,H p=none->Q (.ref p) (upd H p (.lst (List.replicate k.toNat xs).flatten))
theorem len_rep{α:Type}(xs:List α)(k:Nat):(List.replicate k xs).flatten.length=k*xs.length:=by
  induction k with
  | zero=>simp
  | succ k ih=>rw[aoJ,apa,aof,ih,Nat.succ_mul,Nat.add_comm]
theorem JF:OpR X (binaryOp .Mult) ajS:=by
  intro pins s σ H x y v u Q I rx ry h;obtain⟨l,k,xs,rfl,rfl,hH,h1,h2,hz,q⟩:=h;cases rx;obtain⟨t,rfl⟩:=ry;obtain⟨z,its,n,r,hl,e⟩:=I.XE hH;have hlen:its.toArray.size*k.toNat<=sizeLine:=by rw[aoc,<-hl];exact hz
  have ajT:¬its.toArray.size*k.toNat>(2 ^ 63-1)/8:=by
    have:(sizeLine:Nat)<=(2 ^ 63-1)/8:=by decide
    omega
  have ajU:¬(!Builtin.List.listFitsIndex k)=true:=by
    rw[fitsIndex_both h1 h2];exact aob
  have Wv:¬Builtin.List.listTooLong (its.toArray.size*k.toNat)=true:=by
    rw[Qb hlen];exact aob
  have YQ:List.foldl (λx1 x2=>x1++x2) #[] (List.replicate (if its.toArray.isEmpty=true then 0 else k.toNat) its.toArray)=(List.replicate k.toNat its).flatten.toArray:=by
    have f0:∀ m:Nat,List.foldl (λx1 x2=>x1++x2) #[] (List.replicate m its.toArray)=(List.replicate m its).flatten.toArray:=λm=>by
      have:=foldl_rep its m []
      rw[List.nil_append]at this;exact this
    rw[f0];cases its with
    | nil=>simp
    | cons a r'=>rw[if_neg (by simp)]
  refine wpAny_binaryOp_repeat_ref (T := "list") (U := "int") 2e1 ⟨_,e,rfl⟩ (λs'=>typeIs_int s' k t) noFill_list_mul F.fills_int_mul F.slot_int_rmul repeat_list F.slot_int_index.lookup
    (call_meets F.slot_int_rmul (typeIs_int s k t) F.entry_int_rmul (F.args_int_rmul_2 _ _) (int___rmul___int_list k t l its.toArray n)
      ⟨e,rfl,⟨_,e,rfl⟩,call_meets F.slot_list_mul ⟨_,e,rfl⟩ F.entry_list_mul (F.args_list_mul_2 _ _) (AutoListH.list___mul___list_int_3 l its.toArray n k t ajU ajT Wv) ⟨e,?_⟩⟩)
  rw[YQ];exact⟨.ref _,_,I.YN (t':=s.toks) (r.rep k.toNat) (by rw[len_rep,Nat.mul_comm];exact hz),rfl,q _ I.fresh⟩
end
section
variable{prog:Program}{w:World}{A:Around}{E:Value->Shared->Prop}{s:Shared}
end
section
variable{X:Cx}
end
end L2
namespace Att
open PySem PySem.W PySem.Calls PyProof.Rows
theorem FU{P:Params}{h:Heap}:∀(ns:List Int) (vs:List Value),WellAll P h vs (ns.map WData.int)->IntsAre vs ns:=by
  intro ns;induction ns with
  | nil =>
    intro vs w;rw[apG]at w;cases w;exact .nil
  | cons n ns ih =>
    intro vs w;rw[aov]at w;cases w with
    | cons a b =>
      cases a;exact .cons _ _ (ih _ b)
theorem T4{l:OpenLaw}{n:Nat}(hn:l.most=some n){P:Params}{h:Heap}{args:List WData}{vals:List Value}
    (YR:l.row.toRowW.claim.pre args=true) (hwl:WellAll P h vals args) :
    ∃ a vs ns,vals=[Value.ref a]/\args=[WData.list (ns.map WData.int)]/\h.get? a=some {cls:=.type "list",data:=.seq vs.toArray}/\IntsAre vs ns/\ns.length<=n:=by
  have hsh:WShape.hasAll [] args [.list .int]=true:=(pre_splitW YR).1;have hc:l.pre.holds [] {args:=args}=true:=(pre_splitW YR).2;obtain⟨d,r,rfl,h1,h2⟩:=hasAllW_cons hsh;obtain rfl:=hasAllW_nil h2;obtain⟨xs,rfl,h3⟩:=hasW_list h1;obtain⟨ns,rfl⟩:=items_int h3;have hlen:ns.length<=n:=by
    unfold OpenLaw.pre at hc;have h4:(WTm.not (.lt (.lit (.int (n:Int))) (.len (.arg 0)))).holds [] {args:=[.list (ns.map .int)]}=true:=by
      have h4:=(holds_andW hc).1;rw[hn]at h4;exact h4
    have h5:=condW_of h4 (w_not (w_lt w_lit (w_len_list (w_arg rfl))));rw[an6]at h5;refine Nat.le_of_not_lt λq=>?_;have q':(n:Int)<((ns.length:Nat):Int):=by omega
    first
      | (rw[decide_eq_true q']at h5;exact absurd h5 2e1)
      | (simp at h5;omega)
  cases hwl with
  | cons w1 w2 =>
    cases w2;cases w1 with
    | list ho G8=>exact⟨_,_,ns,rfl,rfl,ho,FU ns _ G8,hlen⟩
theorem T5(l:OpenLaw)(args:List WData):l.row.toRowW.claim.post args (.bool true) args=true :=
  postW_of (r:=l.row.toRowW) (X:=(true == true))
    (show WShape.has [] (.bool true) .bool=true by first|rfl|decide|simp[WShape.has,WShape.arms,WShape.armsAll])
    (show(WTm.eq .res (.lit (.bool true))).value [] {args:=args,res:=some (.bool true),after:=args}=some (.bool (true == true)) from w_eq_bool (w_res rfl) w_lit) rfl
theorem Od{l:OpenLaw}{n:Nat}{q:Program}{loose:List Str}{XP:(Str->Option Value)->Heap->Prop}{YP:World->Heap->Prop}{d:DefRec}
    (hn:l.most=some n) (hdf:d.params.defaults=[])
    (call:∀(w:World) (s₀ s₁:Shared) (mg mb:Str->Option Value) (fa:Addr) (o:Obj) (pm cd doc:Value) (a:Addr) (vs:List Value) (ns:List Int),
      Ground q loose [] XP w s₀ mg mb s₁.heap->YP w s₁.heap ->
      s₁.heap.get? fa=some o->o.data=.func (docDef d.name d.params d.body d.scope pm cd doc)->s₁.heap.CodeRec cd d.name->mg d.name=some (.ref fa) ->
      s₁.heap.get? a=some {cls:=.type "list",data:=.seq vs.toArray}->IntsAre vs ns->ns.length<=n->s₁.gens=#[] ->
      codeAny (model l.prog w) callerA (.call (.ref fa) ⟨[.ref a],[]⟩) (λr s'=>r=.ok (.ret (.bool true))/\OldK s₁.heap s'.heap/\s'.os=s₁.os/\AllBare s'.gens) s₁) :
    WalkO q loose XP YP l.row.toRowW d [] (λf vs=>PySem.call f vs):=by
  intro w s₀ s₁ mg mb G Y fa o pm cd doc dV kV ho hd hcd hD hmg hg args vals as YR hlay hrd hwl hlo;obtain rfl:dV=.none:=Dflts.none hD hdf;obtain rfl:kV=.none:=Dflts.noKw hD;obtain⟨a,vs,ns,rfl,rfl,aae,hints,hlen⟩:=T4 hn YR hwl;refine enter_call (codeAny_mono (call w s₀ s₁ mg mb fa o pm cd doc a vs ns G Y ho (fd_plain hd) hcd hmg aae hints hlen hg) λr s' hq=>?_);obtain⟨rfl,h2,h3,h4⟩:=hq;exact⟨.inl ⟨.bool true,.bool true,[],rfl,λ_=>rfl,.bool true,T5 l _,λ_=>⟨List.Pairwise.nil,λ_ hm=>(nomatch hm)⟩⟩,h2,h3,h4⟩
section
variable{prog:Program}{w:World}{A:Around}{E:Value->Shared->Prop}{s:Shared}{K:Frag}
end
end Att
namespace L2
open PySem PySem.Spec PyProof.Rows
theorem tV:∀ {vs:List Value} {ns:List Int},IntsAre vs ns->Vals (ns.map V.int) vs
  | _,_,.nil=>.nil
  | _,_,.cons n t h=>.cons ⟨t,rfl⟩ (tV h)
noncomputable def aaf(H:Hp):Prop:=∀ b,H b=none\/∃ o xs,H b=some (.frz o (.lst xs))
theorem Vg{P:Program}{w:World}{K:W.Frag}{mg mb:Str->Option Value}{CX:CXT}{k:Nat}{fa a:Addr}{fd:FuncData}{x:Str}{sp:Sp}{s₁:Shared}{vs:List Value}{ns:List Int}
    (KX:K.In s₁.heap) (hns:s₁.heap.Ns mainGlobals mg) (hb:s₁.heap.Ns builtinsNs mb) (hbb:∀ x:Str,x ≠ "__name__" -> mb x=bootBuiltins x) (ajV:s₁.heap.NoLimit) (hg:s₁.gens=#[])
    (ha:s₁.heap.get? a=some {cls:=.type "list",data:=.seq vs.toArray}) (hi:IntsAre vs ns) (hl:ns.length<=sizeLine) (hr:mT k callerA)
    (F:∀ base:Heap,K.In base->base.Ns mainGlobals mg->DB P w K mg base CX k fa fd [x] sp) (ab6:∀(s:Shared) (u:Value),BindsTo s fd ⟨[u],[]⟩ [(x,u)])
    (hsp:∀ H:Hp,aaf H->SqL K H a (ns.map V.int)->sp [.ref a] H (λv _=>v=.bl true) λ_ _ _=>False)
    (hCX:∀ H e s',CX [] H s₁ (λ_ _ _=>False) e s'->False) :
    codeAny (model P w) callerA (.call (.ref fa) ⟨[.ref a],[]⟩) (λr s'=>r=.ok (.ret (.bool true))/\OldK s₁.heap s'.heap/\s'.os=s₁.os/\AllBare s'.gens) s₁:=by
  have rv:=tV hi;have ajW:=hi.length;have core:∀ H:Hp,aaf H->SqL K H a (ns.map V.int)->HOk P w H s₁.heap->(∀ b,H b≠none->b=a)->(H a≠none->K.lookup a=none) ->
      codeAny (model P w) callerA (.call (.ref fa) ⟨[.ref a],[]⟩) (λr s'=>r=.ok (.ret (.bool true))/\OldK s₁.heap s'.heap/\s'.os=s₁.os/\AllBare s'.gens) s₁:=by
    intro H hO hS hok hA hK;have SN:∀ {b:Addr} {o:Obj},s₁.heap.get? b=some o->H b=none->(Q1 s₁.heap H).get? b=some o:=λe n=>U8 e n;have noA:∀ {b:Addr} {o:Obj} {es:Array DictEntry} {ep:Nat},s₁.heap.get? b=some o->o.data=.dict es ep->H b=none:=λ{b o es ep} e d=>by
      cases q:H b with
      | none=>rfl
      | some u =>
        have e':b=a:=hA b (by rw[q];simp);subst e';rw[ha]at e;cases e;have d':Data.seq vs.toArray _=Data.dict es ep:=d;cases d'
    have nsK:∀ {b:Addr} {m:Str->Option Value},s₁.heap.Ns b m->(Q1 s₁.heap H).Ns b m:=λ{b m} ⟨o,es,ep,e,d,r⟩=>⟨o,es,ep,SN e (noA e d),d,r⟩;have hKb:K.In (Q1 s₁.heap H):=λb o e=>SN (KX b o e) (by
      cases q:H b with
      | none=>rfl
      | some u =>
        have e':b=a:=hA b (by rw[q];simp);subst e';rw[hK (by rw[q];simp)]at e;cases e)
    have hM:Mod K mg (Q1 s₁.heap H):=⟨hKb,nsK hns,⟨mb,nsK hb,hbb⟩,let ⟨mc,h1,h2⟩:=ajV;⟨mc,nsK h1,h2⟩⟩;have e0:UU P w K mg (Q1 s₁.heap H) callerA [] s₁ H:=⟨rfl,hM,λb o e=>Xu e,Nat.le_of_eq (TU _ _),trivial,λb hb=>absurd (show b∈([]:List Addr) from hb) (by simp),hok,.of_eq hg⟩;refine codeAny_mono ((F _ hKb (nsK hns)).run callerA [] s₁ H ⟨[.ref a],[]⟩ [.ref a] [.ref a] _ _ hr e0 (ab6 s₁ (.ref a)) (.cons rfl .nil) (hsp H hO hS)) λr s' h=>?_;cases r with
    | error e=>exact(hCX H e s' h).elim
    | ok fl =>
      cases fl with
      | next=>exact False.elim h
      | brk=>exact False.elim h
      | cont=>exact False.elim h
      | ret u =>
        obtain⟨v,H',os,bare,un,ajX,r',q⟩:=h;have q':v=.bl true:=q;subst q';obtain rfl:u=Value.bool true:=r';refine⟨rfl,OldK.of_keep λb o e=>?_,os,bare⟩;cases q:H b with
        | none=>exact un.keep b o e q (by intro z;exact absurd (show b∈([]:List Addr) from z) (by simp)) (by simp)
        | some u =>
          rcases hO b with z|⟨ob,xs,z⟩
          · rw[q]at z;cases z
          · have z2:=un.Jv b ob _ z
            obtain⟨e1,_⟩:=hok b _ z;obtain⟨e2,_⟩:=ajX b _ z2;rw[e]at e1;cases e1;exact e2
  cases hk:K.lookup a with
  | some o =>
    have e:=KX a o hk;rw[ha]at e;cases e;refine core (λ_=>none) (λ_=>.inl rfl) (.inr ⟨_,vs.toArray,_,hk,rfl,rfl,rfl,by rw[aoc,ajW];exact hl,by simpa using rv⟩) (λb u z=>by have z':(none:Option HO)=some u:=z;cases z') (λb z=>absurd rfl z) λz=>absurd rfl z
  | none =>
    refine core (λb=>if b=a then some (.frz {cls:=.type "list",data:=.seq vs.toArray} (.lst (ns.map V.int))) else none) (λb=>?_) (.inl (.inr ⟨{cls:=.type "list",data:=.seq vs.toArray},if_pos rfl⟩)) (λb u z=>?_) (λb z=>?_) λ_=>hk
    · by_cases hb:b=a
      · exact .inr ⟨_,_,if_pos hb⟩
      · exact .inl (if_neg hb)
    · by_cases hb:b=a
      · have z':=(if_pos hb).symm.trans z
        cases z';subst hb;exact⟨ha,by rw[an6];exact hl,vs,_,rv,ha⟩
      · have z':=(if_neg hb).symm.trans z
        cases z'
    · by_cases hb:b=a
      · exact hb
      · exact absurd (if_neg hb) z
end L2
namespace L2
open PySem PySem.Spec PyProof.Rows
theorem XH{l:PySem.W.OpenLaw}{n k:Nat}{q:Program}{loose:List Str}{XP:(Str->Option Value)->Heap->Prop}{YP:World->Heap->Prop}{d:DefRec}{K:Params->W.Frag}{CX:World->CXT}{sp:World->Sp}{x:Str}
    (hn:l.most=some n) (hn2:n<=sizeLine) (hdf:d.params.defaults=[]) (hr:mT k callerA)
    (hY:∀(w:World) (h:Heap),YP w h->(K w.params).In h)
    (F:∀(w:World) (mg:Str->Option Value) (fa:Addr) (h:Heap),(K w.params).In h->h.Ns mainGlobals mg->mg d.name=some (.ref fa) ->
      ∃ fd:FuncData,(∀(s:Shared) (u:Value),BindsTo s fd ⟨[u],[]⟩ [(x,u)]) /\
        ∀ base:Heap,(K w.params).In base->base.Ns mainGlobals mg->DB l.prog w (K w.params) mg base (CX w) k fa fd [x] (sp w))
    (hsp:∀(w:World) (H:Hp) (a:Addr) (ns:List Int),ns.length<=n->aaf H->SqL (K w.params) H a (ns.map V.int)->sp w [.ref a] H (λv _=>v=.bl true) λ_ _ _=>False)
    (hCX:∀(w:World) (H:Hp) (s:Shared) (e:Value) (s':Shared),CX w [] H s (λ_ _ _=>False) e s'->False) :
    PySem.W.WalkO q loose XP YP l.row.toRowW d [] (λf vs=>PySem.call f vs):=by
  refine Att.Od hn hdf λw s₀ s₁ mg mb fa o pm cd doc a vs ns G Y ho hd hcd hmg aae hints hlen hg=>?_;have KX:=hY w _ Y;obtain⟨fd,hb,hF⟩:=F w mg fa _ KX G.T.g hmg;exact Vg KX G.T.g G.T.b G.T.builtins G.T.nolimit hg aae hints (aou hlen hn2) hr hF hb (λH hO hS=>hsp w H a ns hlen hO hS) λH e s'=>hCX w H s₁ e s'
end L2
namespace L2
open PySem PySem.Spec PyProof.Rows
noncomputable def inClass(s:Stmt)(j:Nat):Stmt:=match s with
  | .ClassDef _ _ _ body _ _ _ _ _ _ _=>body.getD j (.Pass ⟨0,0,0,0⟩)
  | _=>.Pass ⟨0,0,0,0⟩
noncomputable def lq(s:Stmt):Arguments:=match s with
  | .FunctionDef _ a _ _ _ _ _ _ _ _=>a
  | _=>{posonlyargs:=[],args:=[],vararg:=none,kwonlyargs:=[],kw_defaults:=[],kwarg:=none,defaults:=[]}
noncomputable def jU(s:Stmt):List Stmt:=match s with
  | .FunctionDef _ _ b _ _ _ _ _ _ _=>b
  | _=>[]
noncomputable def ar(s:Stmt):Scope:=match s with
  | .FunctionDef _ _ _ _ _ _ sc _ _ _=>sc
  | _=>{kind:=.function,names:=[],isGenerator:=false,isCoroutine:=false}
structure Fun(K:W.Frag)(x qual:Str)(st:Stmt)(f:Addr)(fd:FuncData):Prop where
  ex:∃(oc:Value) (od:Option Addr) (kV doc pm:Value) (an:Option Addr) (cdv ct:Value) (osl:Array (Option Value)),
    fd=PySem.W.fnOf x qual (lq st) (jU st) (ar st) .none kV doc pm an cdv ct/\K.lookup f=some ⟨oc,od,.func fd,osl⟩/\PySem.W.codeIn K cdv qual=true
  kp:PySem.W.keepIn K (.ref f)=true
section
variable{P:Program}{w:World}{K:W.Frag}{mg:Str->Option Value}{base:Heap}
theorem Fun.binds{x qual:Str}{st:Stmt}{f:Addr}{fd:FuncData}{ps:List Str}(F:Fun K x qual st f fd)
    (h:∀(kV doc pm:Value) (an:Option Addr) (cdv ct:Value) (us:List Value),us.length=ps.length->bindArgs (PySem.W.fnOf x qual (lq st) (jU st) (ar st) .none kV doc pm an cdv ct) ⟨us,[]⟩=pure (ps.zip us)):Binds K fd ps []:=by
  obtain⟨oc,od,kV,doc,pm,an,cdv,ct,osl,rfl,lk,hcd⟩:=F.ex;exact .all (h kV doc pm an cdv ct)
theorem ZC{x qual:Str}{st:Stmt}{f:Addr}{oc:Value}{od an:Option Addr}{osl:Array (Option Value)}{kV doc pm cdv ct:Value}(l:K.lookup f=some ⟨oc,od,.func (PySem.W.fnOf x qual (lq st) (jU st) (ar st) .none kV doc pm an cdv ct),osl⟩)
    (c:PySem.W.codeIn K cdv qual=true) (k:PySem.W.keepIn K (.ref f)=true):Fun K x qual st f (PySem.W.fnOf x qual (lq st) (jU st) (ar st) .none kV doc pm an cdv ct):=⟨⟨oc,od,kV,doc,pm,an,cdv,ct,osl,rfl,l,c⟩,k⟩
end
theorem i9{A:Around}{k:Nat}(hr:mT k A):A.units+1<cLine:=aoY (Nat.add_le_add_left (by decide:1<=64) _) hr.units
section
variable{X:Cx}
theorem pv(i:Nat){x:Str}{pos:Pos}(hN:X.N[i]?=some x:=by rfl)(hv:Vis X.env.scope x:=by first|exact Or.inl rfl|exact Or.inr (Or.inl rfl)|exact Or.inr (Or.inr rfl))(hd:(x == ("__debug__" : Str))=false:=by decide)
    (hcd:(x == ("__classdict__" : Str))=false:=by decide):PE X (.Name x pos) (acQ i):=Zm hN hv hd hcd
end
theorem tW{A B:Prop}(h:B):if false=true then A else B:=by
  rw[if_neg aob];exact h
theorem u9{A B:Prop}(h:A):if true=true then A else B:=by
  rw[if_pos rfl];exact h
theorem dH{c A B:Prop}[Decidable c](h1:c->A)(h2:¬c->B):if c then A else B:=by
  by_cases h:c
  · rw[if_pos h]
    exact h1 h
  · rw[if_neg h]
    exact h2 h
noncomputable def aB(H H':Hp):Prop:=∀ b o,H b=some o->H' b=some o
theorem aB.refl(H:Hp):aB H H:=λ_ _ h=>h
theorem aB.trans{H H1 H2:Hp}(a:aB H H1)(b:aB H1 H2):aB H H2:=λc o h=>b c o (a c o h)
theorem aB.seq{K:W.Frag}{H H':Hp}{a:Addr}{xs:List V}(e:aB H H')(h:SqL K H a xs):SqL K H' a xs:=by
  rcases h with(h|⟨o,h⟩)|h
  · exact .inl (.inl (e _ _ h))
  · exact .inl (.inr ⟨o,e _ _ h⟩)
  · exact .inr h
end L2
end
section
namespace K38
open PySem PySem.W L2 PySem.PyData
theorem wsd:PySem.Challenge.rw_stillheap_k38_whole_what_hands_tell.wellSaid=true:=by kernel_rfl
noncomputable def top(i:Nat):Stmt:=9e9.main.body.getD i (.Pass ⟨0,0,0,0⟩)
noncomputable section
abbrev OO:=Params->Obj
abbrev FN:=Str×Str×Stmt
noncomputable def oF(f:FN)(m:Value)(r:Addr):OO:=λ_=>⟨.type "function",none,.func (fnOf f.1 f.2.1 (lq f.2.2) (jU f.2.2) (ar f.2.2) .none .none .none m none (.ref r) .none),#[]⟩
noncomputable def oG(f:FN):OO:=λ_=>⟨.none,none,.func ⟨f.1,f.2.1,lq f.2.2,.stmts (jU f.2.2),ar f.2.2,0,[],.none,.none,.none,.none,none,.none,.none,0⟩,#[]⟩
noncomputable def oT(l:List Value):OO:=λ_=>⟨.type "tuple",none,.seq (List.toArray l) 0,#[]⟩
def oS:List Str->Tok->List Value
 | [],_=>[]
 | x::r,k=>.str x k::oS r (k+1)
noncomputable def oD(l:List (Str×Tok×Value))(n:Nat):OO:=λP=>⟨.type "dict",none,.dict (List.toArray (l.map λe=>⟨keyHash P e.1,.str e.1 e.2.1,e.2.2⟩)) n,#[]⟩
def zB:List String->Tok->List (Str×Tok×Value)
 | [],_=>[]
 | x::r,k=>(Str.ofString x,k,.builtin x)::zB r (k+1)
def zT:List String->Tok->List (Str×Tok×Value)
 | [],_=>[]
 | x::r,k=>(Str.ofString x,k,.type x)::zT r (k+1)
def ap(a b:List (Str×Tok×Value)):List (Str×Tok×Value):=a++b
noncomputable def oC(f:FN)(t:Tok)(l a b c d:Int)(r:Addr)(e:Int)(g h i j:Addr)(z:Int)(u:Tok):OO:=λ_=>⟨.type "code",none,.fields (List.toArray [.str f.1 t,.str f.2.1 (t+1),.str "/claim/cut.py" (t+2),.int l 0,.int a 0,.int b 0,.int c 0,.int d 0,.ref r,.bool true,.int e 0,.ref g,.none,.ref h,.ref i,.ref j,.int z 0,.int l 0,.str "/claim/cut.py" u]),#[]⟩
noncomputable def oN(f:FN)(t:Tok)(l a b c d:Int)(r:Addr)(e:Int)(g j:Addr)(z:Int)(u:Tok):OO:=λ_=>⟨.type "code",none,.fields (List.toArray [.str f.1 t,.str f.2.1 (t+1),.str "/claim/cut.py" (t+2),.int l 0,.int a 0,.int b 0,.int c 0,.int d 0,.ref r,.bool true,.int e 0,.ref g,.none,.none,.none,.ref j,.int z 0,.int l 0,.str "/claim/cut.py" u]),#[]⟩
noncomputable def oM(n:Str)(t:Tok)(l:Int)(r:Addr)(e:Int)(f:Addr)(z:Int)(u:Tok):OO:=λ_=>⟨.type "code",none,.fields (List.toArray [.str n t,.str n (t+1),.str "/claim/cut.py" (t+2),.int l 0,.int 0 0,.int 0 0,.int 0 0,.int 0 0,.ref r,.bool false,.int e 0,.ref f,.none,.none,.none,.none,.int z 0,.int l 0,.str "/claim/cut.py" u]),#[]⟩
def oI:List Nat->List Value
 | a::b::c::r=>.int a 0::.int b 0::.ref c::oI r
 | _=>[]
noncomputable def oX(l:List Nat):OO:=λ_=>⟨.none,none,.fields (List.toArray (oI l)),#[]⟩
noncomputable def oR(a b c:Addr)(m:Value):OO:=λ_=>⟨.type "frame",none,.plain,List.toArray [some (.ref a),some (.ref b),some (.ref c),none,some m,none,some (.ref 0)]⟩
noncomputable def oP(a b:Value):OO:=λ_=>⟨.type "builtin_function_or_method",none,.fields (List.toArray [a,b]),#[]⟩
noncomputable def oY(n:Str)(b m:List Value)(d:Addr)(u:List Value)(k:Option Value)(t1 t2:Tok)(w:Value):OO:=λ_=>⟨.type "type",none,.cls ⟨n,b,m,d,n,true,[],u,false,none,false⟩,List.toArray [k,none,some (.str n t1),some (.str n t2),some w,some (.bool true)]⟩
noncomputable def oU(a:Addr):OO:=λ_=>⟨.type "super",none,.fields (List.toArray [.ref a,.ref a,.ref a]),#[]⟩
def spl:List OO->List OO×List OO
 | []=>([],[])
 | [a]=>([a],[])
 | a::b::r=>(a::(spl r).1,b::(spl r).2)
noncomputable def mkT(P:Params):Nat->List OO->BT
 | 0,_=>.nil
 | _+1,[]=>.nil
 | n+1,x::r=>.node (x P) (mkT P n (spl r).1) (mkT P n (spl r).2)
def stT(l:List OO)(c:List (Nat×OO)):List OO:=c.foldl (λl p=>l.set p.1 p.2) l
def fn0:FN:=("_wall","_wall",top 0)
def fn1:FN:=("__init__","HeapError.__init__",inClass (top 2) 0)
def fn2:FN:=("called","HeapError.called",inClass (top 2) 1)
def fn3:FN:=("called","BadHand.called",inClass (top 3) 0)
def fn4:FN:=("called","BadName.called",inClass (top 4) 0)
def fn5:FN:=("called","BadField.called",inClass (top 5) 0)
def fn6:FN:=("called","BadCount.called",inClass (top 6) 0)
def fn7:FN:=("called","NoRoom.called",inClass (top 7) 0)
def fn8:FN:=("called","TooManyWords.called",inClass (top 8) 0)
def fn9:FN:=("called","RoundOn.called",inClass (top 9) 0)
def aag:FN:=("called","NoRound.called",inClass (top 10) 0)
def aah:FN:=("called","BadView.called",inClass (top 11) 0)
def aai:FN:=("called","BadAddress.called",inClass (top 12) 0)
def aaj:FN:=("number_value","number_value",top 20)
def aak:FN:=("thing_value","thing_value",top 21)
def aal:FN:=("kind_of","kind_of",top 22)
def aam:FN:=("words_of","words_of",top 23)
def aan:FN:=("look_at_number","look_at_number",top 24)
def aao:FN:=("look_at_hand","look_at_hand",top 25)
def aap:FN:=("look_at_name","look_at_name",top 26)
def aaq:FN:=("look_at_field","look_at_field",top 27)
def aar:FN:=("look_at_limits","look_at_limits",top 28)
def aas:FN:=("thing_at","thing_at",top 30)
def aat:FN:=("resolved","resolved",top 31)
def aau:FN:=("field_at","field_at",top 32)
def aav:FN:=("fields_at","fields_at",top 33)
def aaw:FN:=("fields_told","fields_told",top 34)
def aax:FN:=("field_address","field_address",top 35)
def aay:FN:=("look_at_room","look_at_room",top 36)
def aaz:FN:=("is_picture","is_picture",top 38)
def aaA:FN:=("first_unlike","first_unlike",top 39)
def aaB:FN:=("first_misplaced","first_misplaced",top 40)
def aaC:FN:=("addresses_of","addresses_of",top 41)
def aaD:FN:=("first_headless","first_headless",top 42)
def aaE:FN:=("first_unlike_field","first_unlike_field",top 43)
def aaF:FN:=("first_unlike_word","first_unlike_word",top 44)
def aaG:FN:=("is_like","is_like",top 45)
def aaH:FN:=("place_met","place_met",top 46)
def aaI:FN:=("__init__","Hands.__init__",inClass (top 48) 0)
def aaJ:FN:=("word_in","Hands.word_in",inClass (top 48) 1)
def aaK:FN:=("all_words","Hands.all_words",inClass (top 48) 2)
def aaL:FN:=("put","Hands.put",inClass (top 48) 3)
def aaM:FN:=("copy","Hands.copy",inClass (top 48) 4)
def aaN:FN:=("number","Hands.number",inClass (top 48) 5)
def aaO:FN:=("kind","Hands.kind",inClass (top 48) 6)
def aaP:FN:=("value","Hands.value",inClass (top 48) 7)
def aaQ:FN:=("same","Hands.same",inClass (top 48) 8)
def aaR:FN:=("thing_due","Hands.thing_due",inClass (top 48) 9)
def aaS:FN:=("__init__","WordTable.__init__",inClass (top 51) 0)
def aaT:FN:=("bear","WordTable.bear",inClass (top 51) 1)
def aaU:FN:=("word_of","WordTable.word_of",inClass (top 51) 2)
def aaV:FN:=("bearers","WordTable.bearers",inClass (top 51) 3)
def aaW:FN:=("settle","WordTable.settle",inClass (top 51) 4)
def aaX:FN:=("take","WordTable.take",inClass (top 51) 5)
def aaY:FN:=("said","WordTable.said",inClass (top 51) 6)
def aaZ:FN:=("last_steps","last_steps",top 53)
def aa0:FN:=("__init__","NameTable.__init__",inClass (top 55) 0)
def aa1:FN:=("name","NameTable.name",inClass (top 55) 1)
def aa2:FN:=("named","NameTable.named",inClass (top 55) 2)
def aa3:FN:=("all_named","NameTable.all_named",inClass (top 55) 3)
def aa4:FN:=("settle","NameTable.settle",inClass (top 55) 4)
def aa5:FN:=("__init__","Heap.__init__",inClass (top 57) 0)
def aa6:FN:=("add_thing","Heap.add_thing",inClass (top 57) 1)
def aa7:FN:=("load","Heap.load",inClass (top 57) 2)
def aa8:FN:=("store","Heap.store",inClass (top 57) 3)
def aa9:FN:=("copy","Heap.copy",inClass (top 57) 4)
def aba:FN:=("drop","Heap.drop",inClass (top 57) 5)
def abb:FN:=("number","Heap.number",inClass (top 57) 6)
def abc:FN:=("name","Heap.name",inClass (top 57) 7)
def abd:FN:=("read_thing","Heap.read_thing",inClass (top 57) 8)
def abe:FN:=("word","Heap.word",inClass (top 57) 9)
def abf:FN:=("small_round","Heap.small_round",inClass (top 57) 10)
def abg:FN:=("let_go","Heap.let_go",inClass (top 57) 11)
def abh:FN:=("look_at_held","Heap.look_at_held",inClass (top 57) 12)
def abi:FN:=("field_value","Heap.field_value",inClass (top 57) 13)
def abj:FN:=("counts_held","Heap.counts_held",inClass (top 57) 14)
def abk:FN:=("words_among","Heap.words_among",inClass (top 57) 15)
def abl:FN:=("led_among","Heap.led_among",inClass (top 57) 16)
def abm:FN:=("thing_among","thing_among",top 58)
def abn:FN:=("__init__","IdealHeap.__init__",inClass (top 60) 0)
def abo:FN:=("make","IdealHeap.make",inClass (top 60) 1)
def abp:FN:=("read","IdealHeap.read",inClass (top 60) 2)
def abq:FN:=("take","IdealHeap.take",inClass (top 60) 3)
def abr:FN:=("kind","IdealHeap.kind",inClass (top 60) 4)
def abt:FN:=("value","IdealHeap.value",inClass (top 60) 5)
def abu:FN:=("fields","IdealHeap.fields",inClass (top 60) 6)
def abv:FN:=("same","IdealHeap.same",inClass (top 60) 7)
def abw:FN:=("held","IdealHeap.held",inClass (top 60) 8)
def abx:FN:=("small","IdealHeap.small",inClass (top 60) 9)
def aby:FN:=("begin","IdealHeap.begin",inClass (top 60) 10)
def abz:FN:=("end","IdealHeap.end",inClass (top 60) 11)
def abA:FN:=("round_on","IdealHeap.round_on",inClass (top 60) 12)
def abB:FN:=("hands","IdealHeap.hands",inClass (top 60) 13)
def abC:FN:=("names","IdealHeap.names",inClass (top 60) 14)
def abD:FN:=("things","IdealHeap.things",inClass (top 60) 15)
def abE:FN:=("fields_of","IdealHeap.fields_of",inClass (top 60) 16)
def abF:FN:=("is_old","IdealHeap.is_old",inClass (top 60) 17)
def abG:FN:=("word_of","IdealHeap.word_of",inClass (top 60) 18)
def abH:FN:=("doomed","IdealHeap.doomed",inClass (top 60) 19)
def abI:FN:=("said","IdealHeap.said",inClass (top 60) 20)
def Ww:FN:=("made","IdealHeap.made",inClass (top 60) 21)
def Wx:FN:=("spare","IdealHeap.spare",inClass (top 60) 22)
def Wy:FN:=("__init__","Memory.__init__",inClass (top 62) 0)
def Wz:FN:=("size","Memory.size",inClass (top 62) 1)
def WA:FN:=("at","Memory.at",inClass (top 62) 2)
def WB:FN:=("put","Memory.put",inClass (top 62) 3)
def WC:FN:=("copy_of","Memory.copy_of",inClass (top 62) 4)
def WD:FN:=("look_at_address","Memory.look_at_address",inClass (top 62) 5)
def WE:FN:=("_law_cell","_law_cell",top 64)
def WG:FN:=("_law_mixed","_law_mixed",top 65)
def WH:FN:=("_law_numbers","_law_numbers",top 66)
def WI:FN:=("_law_deed","_law_deed",top 67)
def WJ:FN:=("_law_round","_law_round",top 68)
def WK:FN:=("_law_heap","_law_heap",top 69)
def WL:FN:=("_law_places","_law_places",top 70)
def WM:FN:=("_law_spoken","_law_spoken",top 71)
def WN:FN:=("_law_model","_law_model",top 72)
def WO:FN:=("_law_memory","_law_memory",top 73)
def WQ:FN:=("_law_seen","_law_seen",top 74)
def WR:FN:=("_law_told","_law_told",top 75)
def WS:FN:=("_law_where","_law_where",top 76)
def WT:FN:=("_law_alike_now","_law_alike_now",top 77)
def WU:FN:=("_law_load","_law_load",top 78)
def WW:FN:=("_law_load_here","_law_load_here",top 79)
def WX:FN:=("_law_both","_law_both",top 80)
def WY:FN:=("law","law",top 81)
def xs0:List Nat:=[1,0,20,5,0,27,12,0,54,16,0,73,20,0,92,24,0,111,28,0,130,32,0,149,36,0,168,40,0,187,44,0,206,48,0,225,59,0,244,62,0,251,66,0,258,68,0,265,72,0,272,75,0,279,78,0,286,81,0,293,84,0,300,90,0,305,93,0,312,99,0,319,101,0,326,103,0,333,109,0,340,113,0,347,117,0,354,119,0,359,133,0,366,143,0,371,145,0,378,150,0,385,157,0,392,163,0,399,167,0,406,173,0,413,215,0,497,243,0,560,258,0,567,277,0,614,367,0,741,372,0,748,471,0,921,494,0,977,498,0,984,502,0,991,511,0,998,536,0,1005,541,0,1012,550,0,1019,559,0,1026,563,0,1031,580,0,1038,585,0,1045,592,0,1052,599,0,1059,603,0,1066,612,0,1073,619,0,1080,628,0,1087,641,0,1094]
def v0:Value:=.str "stillheap.ideal" 1137
def v1:Value:=.str "stillheap.errors" 194
def v2:Value:=.type "object"
def v3:Value:=.str "stillheap.heaps" 952
def v4:Value:=.str "law_stillheap_k38_whole_what_hands_tell" 1412
def v5:Value:=.builtin "object.__init_subclass__"
def v6:Value:=.type "ValueError"
def v7:Value:=.type "Exception"
def v8:Value:=.type "BaseException"
def v9:Value:=.builtin "ValueError.__new__"
def v10:Value:=.type "getset_descriptor"
def v11:Value:=.str "stillheap.hands" 692
def v12:Value:=.str "stillheap.values" 459
def v13:Value:=.str "stillheap.pictures" 600
def v14:Value:=.str "stillheap.lastwords" 798
def v15:Value:=.str "stillheap.layout" 538
def v16:Value:=.str "stillheap.memory" 1342
def v17:Value:=.builtin "ExceptionGroup.__weakref__"
def v18:Value:=.builtin "object.__new__"
def v19:Value:=.str "stillheap.weaknames" 892
def v20:Value:=.builtin "function.__dict__"
def v21:Value:=.builtin "function.__dict__#set"
def v22:Value:=.str "__main__" 164
def o0:OO:=oD (ap [("__name__",1,.str "builtins" 160),("__doc__",2,.builtin "builtins.__doc__:str#opaque"),("__package__",3,.builtin "builtins.__package__:str#opaque"),("__loader__",4,.builtin "builtins.__loader__:shared#opaque"),("__spec__",5,.builtin "builtins.__spec__#opaque")] (ap (zB ["__build_class__","__import__","abs","all","any","ascii","bin","breakpoint","callable","chr","compile","delattr","dir","divmod","eval","exec","format","getattr","globals","hasattr","hash","hex","id","input","isinstance","issubclass","iter","aiter","len","locals","max","min","next","anext","oct","ord","pow","print","repr","round","setattr","sorted","sum","vars"] 6) (ap [("None",50,.none),("Ellipsis",51,.ellipsis),("NotImplemented",52,.notImplemented),("False",53,.bool false),("True",54,.bool true)] (ap (zT ["bool","memoryview","bytearray","bytes","classmethod","complex","dict","enumerate","filter","float","frozenset","property","int","list","map","object","range","reversed","set","slice","staticmethod","str","super","tuple","type","zip"] 55) (ap [("__debug__",81,.bool true)] (ap (zT ["BaseException","BaseExceptionGroup","Exception","GeneratorExit","KeyboardInterrupt","SystemExit","ArithmeticError","AssertionError","AttributeError","BufferError","EOFError","ImportError","LookupError","MemoryError","NameError","OSError","ReferenceError","RuntimeError","StopAsyncIteration","StopIteration","SyntaxError","SystemError","TypeError","ValueError","Warning","FloatingPointError","OverflowError","ZeroDivisionError","BytesWarning","DeprecationWarning","EncodingWarning","FutureWarning","ImportWarning","PendingDeprecationWarning","ResourceWarning","RuntimeWarning","SyntaxWarning","UnicodeWarning","UserWarning","BlockingIOError","ChildProcessError","ConnectionError","FileExistsError","FileNotFoundError","InterruptedError","IsADirectoryError","NotADirectoryError","PermissionError","ProcessLookupError","TimeoutError","IndentationError","_IncompleteInputError","IndexError","KeyError","ModuleNotFoundError","NotImplementedError","PythonFinalizationError","RecursionError","UnboundLocalError","UnicodeError"] 82) (ap (zT ["BrokenPipeError","ConnectionAbortedError","ConnectionRefusedError","ConnectionResetError","TabError","UnicodeDecodeError","UnicodeEncodeError","UnicodeTranslateError","ExceptionGroup"] 142) [("EnvironmentError",151,.type "OSError"),("IOError",152,.type "OSError"),("open",153,.builtin "open"),("quit",154,.builtin "builtins.quit#opaque"),("exit",155,.builtin "builtins.exit#opaque"),("copyright",156,.builtin "builtins.copyright#opaque"),("credits",157,.builtin "builtins.credits#opaque"),("license",158,.builtin "builtins.license#opaque"),("help",159,.builtin "builtins.help#opaque")]))))))) 159
def o1:OO:=oD [("builtins",162,.ref 4),("__main__",163,.ref 5)] 2
def o2:OO:=λ_=>⟨.none,none,(.dict #[] 0),#[]⟩
def o3:OO:=oD [("__name__",165,.str "__main__" 164),("__doc__",166,.none),("__package__",167,.none),("__loader__",168,.builtin "__main__.__loader__#opaque"),("__spec__",169,.none),("__annotations__",170,.ref 6),("__builtins__",171,.ref 4),("__file__",173,.str "/claim/cut.py" 172),("__cached__",174,.none)] 9
def o4:OO:=λ_=>⟨(.type "module"),(.some 0),.plain,#[]⟩
def o5:OO:=λ_=>⟨(.type "module"),(.some 3),.plain,#[]⟩
def o6:OO:=λ_=>⟨(.type "dict"),none,(.dict #[] 0),#[]⟩
def o7:OO:=λ_=>⟨(.type "tuple"),none,(.seq #[] 0),#[]⟩
def o8:OO:=λ_=>⟨.none,none,(.fields #[]),#[]⟩
def o9:OO:=oM "<module>" 176 1 7 175 8 179 180
def o10:OO:=oR 9 3 3 v22
def o11:OO:=oM "<module>" 182 1 11 181 12 185 186
def o12:OO:=oR 13 3 3 v22
def o13:OO:=oD [("__name__",165,.str "stillheap.errors" 194),("__doc__",166,.none),("__package__",167,.none),("__loader__",168,.builtin "__main__.__loader__#opaque"),("__spec__",169,.none),("__annotations__",170,.ref 6),("__builtins__",171,.ref 4),("__file__",173,.str "/claim/cut.py" 172),("__cached__",174,.none),("_wall",193,.ref 21),("HeapError",228,.ref 45),("BadHand",251,.ref 65),("BadName",274,.ref 84),("BadField",297,.ref 103),("BadCount",320,.ref 122),("NoRoom",343,.ref 141),("TooManyWords",366,.ref 160),("RoundOn",389,.ref 179)] 18
def o14:OO:=oX (xs0.take 27)
def o15:OO:=oT (oS ["k"] 190)
def o16:OO:=oG fn0
def o17:OO:=oC fn0 187 1 1 0 0 3 15 181 16 17 18 19 191 192
def o18:OO:=oF fn0 v22 20
def o19:OO:=oT [v6]
def o20:OO:=oP (.builtin "type.__prepare__") (.type "type")
def o21:OO:=oD [("__module__",203,.str "stillheap.errors" 194),("__qualname__",205,.str "HeapError" 204),("__firstlineno__",207,.int 5 206),("__init__",215,.ref 35),("called",222,.ref 42),("__static_attributes__",223,.ref 43)] 6
def o22:OO:=oX [7,4,34,10,4,41]
def o23:OO:=oM "HeapError" 198 5 25 181 26 201 202
def o24:OO:=oR 27 3 24 v1
def o25:OO:=oT (oS ["self","text"] 211)
def o26:OO:=oG fn1
def o27:OO:=oC fn1 208 7 2 0 0 3 29 181 30 31 32 33 213 214
def o28:OO:=oF fn1 v1 34
def o29:OO:=oT (oS ["self"] 219)
def o30:OO:=oG fn2
def o31:OO:=oC fn2 216 10 1 0 0 3 36 181 37 38 39 40 220 221
def o32:OO:=oF fn2 v1 41
def o33:OO:=oD [("__module__",203,.str "stillheap.errors" 194),("__firstlineno__",207,.int 5 206),("__init__",215,.ref 35),("called",222,.ref 42),("__static_attributes__",223,.ref 43),("__weakref__",225,.ref 46),("__doc__",226,.none)] 3
def o34:OO:=oY "HeapError" [v6] [(.ref 45),v6,v7,v8,v2] 44 [(.ref 65),(.ref 84),(.ref 103),(.ref 122),(.ref 141),(.ref 160),(.ref 179)] (.some (.ref 22)) 196 204 v9
def o35:OO:=λ_=>⟨v10,none,(.fields (List.toArray [(.str "__weakref__" 224),(.ref 45),v17,.none])),#[]⟩
def o36:OO:=oU 45
def o37:OO:=oP v5 (.ref 45)
def o38:OO:=oT [(.ref 45)]
def o39:OO:=oD [("__module__",236,.str "stillheap.errors" 194),("__qualname__",238,.str "BadHand" 237),("__firstlineno__",240,.int 12 239),("called",247,.ref 62),("__static_attributes__",248,.ref 63)] 5
def o40:OO:=oX [14,4,61]
def o41:OO:=oM "BadHand" 231 12 52 181 53 234 235
def o42:OO:=oR 54 3 51 v1
def o43:OO:=oT (oS ["self"] 244)
def o44:OO:=oG fn3
def o45:OO:=oC fn3 241 14 1 0 0 3 56 181 57 58 59 60 245 246
def o46:OO:=oF fn3 v1 61
def o47:OO:=oD [("__module__",236,.str "stillheap.errors" 194),("__firstlineno__",240,.int 12 239),("called",247,.ref 62),("__static_attributes__",248,.ref 63),("__doc__",249,.none)] 2
def o48:OO:=oY "BadHand" [(.ref 45)] [(.ref 65),(.ref 45),v6,v7,v8,v2] 64 [] (.some (.ref 49)) 229 237 v9
def o49:OO:=oU 65
def o50:OO:=oP v5 (.ref 65)
def o51:OO:=oD [("__module__",259,.str "stillheap.errors" 194),("__qualname__",261,.str "BadName" 260),("__firstlineno__",263,.int 16 262),("called",270,.ref 81),("__static_attributes__",271,.ref 82)] 5
def o52:OO:=oX [18,4,80]
def o53:OO:=oM "BadName" 254 16 71 181 72 257 258
def o54:OO:=oR 73 3 70 v1
def o55:OO:=oT (oS ["self"] 267)
def o56:OO:=oG fn4
def o57:OO:=oC fn4 264 18 1 0 0 3 75 181 76 77 78 79 268 269
def o58:OO:=oF fn4 v1 80
def o59:OO:=oD [("__module__",259,.str "stillheap.errors" 194),("__firstlineno__",263,.int 16 262),("called",270,.ref 81),("__static_attributes__",271,.ref 82),("__doc__",272,.none)] 2
def o60:OO:=oY "BadName" [(.ref 45)] [(.ref 84),(.ref 45),v6,v7,v8,v2] 83 [] (.some (.ref 68)) 252 260 v9
def o61:OO:=oU 84
def o62:OO:=oP v5 (.ref 84)
def o63:OO:=oD [("__module__",282,.str "stillheap.errors" 194),("__qualname__",284,.str "BadField" 283),("__firstlineno__",286,.int 20 285),("called",293,.ref 100),("__static_attributes__",294,.ref 101)] 5
def o64:OO:=oX [22,4,99]
def o65:OO:=oM "BadField" 277 20 90 181 91 280 281
def o66:OO:=oR 92 3 89 v1
def o67:OO:=oT (oS ["self"] 290)
def o68:OO:=oG fn5
def o69:OO:=oC fn5 287 22 1 0 0 3 94 181 95 96 97 98 291 292
def o70:OO:=oF fn5 v1 99
def o71:OO:=oD [("__module__",282,.str "stillheap.errors" 194),("__firstlineno__",286,.int 20 285),("called",293,.ref 100),("__static_attributes__",294,.ref 101),("__doc__",295,.none)] 2
def o72:OO:=oY "BadField" [(.ref 45)] [(.ref 103),(.ref 45),v6,v7,v8,v2] 102 [] (.some (.ref 87)) 275 283 v9
def o73:OO:=oU 103
def o74:OO:=oP v5 (.ref 103)
def o75:OO:=oD [("__module__",305,.str "stillheap.errors" 194),("__qualname__",307,.str "BadCount" 306),("__firstlineno__",309,.int 24 308),("called",316,.ref 119),("__static_attributes__",317,.ref 120)] 5
def o76:OO:=oX [26,4,118]
def o77:OO:=oM "BadCount" 300 24 109 181 110 303 304
def o78:OO:=oR 111 3 108 v1
def o79:OO:=oT (oS ["self"] 313)
def o80:OO:=oG fn6
def o81:OO:=oC fn6 310 26 1 0 0 3 113 181 114 115 116 117 314 315
def o82:OO:=oF fn6 v1 118
def o83:OO:=oD [("__module__",305,.str "stillheap.errors" 194),("__firstlineno__",309,.int 24 308),("called",316,.ref 119),("__static_attributes__",317,.ref 120),("__doc__",318,.none)] 2
def o84:OO:=oY "BadCount" [(.ref 45)] [(.ref 122),(.ref 45),v6,v7,v8,v2] 121 [] (.some (.ref 106)) 298 306 v9
def o85:OO:=oU 122
def o86:OO:=oP v5 (.ref 122)
def o87:OO:=oD [("__module__",328,.str "stillheap.errors" 194),("__qualname__",330,.str "NoRoom" 329),("__firstlineno__",332,.int 28 331),("called",339,.ref 138),("__static_attributes__",340,.ref 139)] 5
def o88:OO:=oX [30,4,137]
def o89:OO:=oM "NoRoom" 323 28 128 181 129 326 327
def o90:OO:=oR 130 3 127 v1
def o91:OO:=oT (oS ["self"] 336)
def o92:OO:=oG fn7
def o93:OO:=oC fn7 333 30 1 0 0 3 132 181 133 134 135 136 337 338
def o94:OO:=oF fn7 v1 137
def o95:OO:=oD [("__module__",328,.str "stillheap.errors" 194),("__firstlineno__",332,.int 28 331),("called",339,.ref 138),("__static_attributes__",340,.ref 139),("__doc__",341,.none)] 2
def o96:OO:=oY "NoRoom" [(.ref 45)] [(.ref 141),(.ref 45),v6,v7,v8,v2] 140 [] (.some (.ref 125)) 321 329 v9
def o97:OO:=oU 141
def o98:OO:=oP v5 (.ref 141)
def o99:OO:=oD [("__module__",351,.str "stillheap.errors" 194),("__qualname__",353,.str "TooManyWords" 352),("__firstlineno__",355,.int 32 354),("called",362,.ref 157),("__static_attributes__",363,.ref 158)] 5
def ajY:OO:=oX [34,4,156]
def ajZ:OO:=oM "TooManyWords" 346 32 147 181 148 349 350
def aj0:OO:=oR 149 3 146 v1
def acW:OO:=oT (oS ["self"] 359)
def aj1:OO:=oG fn8
def acX:OO:=oC fn8 356 34 1 0 0 3 151 181 152 153 154 155 360 361
def acY:OO:=oF fn8 v1 156
def acZ:OO:=oD [("__module__",351,.str "stillheap.errors" 194),("__firstlineno__",355,.int 32 354),("called",362,.ref 157),("__static_attributes__",363,.ref 158),("__doc__",364,.none)] 2
def ac0:OO:=oY "TooManyWords" [(.ref 45)] [(.ref 160),(.ref 45),v6,v7,v8,v2] 159 [] (.some (.ref 144)) 344 352 v9
def aj2:OO:=oU 160
def aj3:OO:=oP v5 (.ref 160)
def aj4:OO:=oD [("__module__",374,.str "stillheap.errors" 194),("__qualname__",376,.str "RoundOn" 375),("__firstlineno__",378,.int 36 377),("called",385,.ref 176),("__static_attributes__",386,.ref 177)] 5
def aj5:OO:=oX [38,4,175]
def aj6:OO:=oM "RoundOn" 369 36 166 181 167 372 373
def aj7:OO:=oR 168 3 165 v1
def ac1:OO:=oT (oS ["self"] 382)
def aj8:OO:=oG fn9
def ac2:OO:=oC fn9 379 38 1 0 0 3 170 181 171 172 173 174 383 384
def ac3:OO:=oF fn9 v1 175
def ac4:OO:=oD [("__module__",374,.str "stillheap.errors" 194),("__firstlineno__",378,.int 36 377),("called",385,.ref 176),("__static_attributes__",386,.ref 177),("__doc__",387,.none)] 2
def ac5:OO:=oY "RoundOn" [(.ref 45)] [(.ref 179),(.ref 45),v6,v7,v8,v2] 178 [] (.some (.ref 163)) 367 375 v9
def aj9:OO:=oU 179
def aka:OO:=oP v5 (.ref 179)
def akb:OO:=oD (ap [("__name__",165,.str "stillheap.hands" 692),("__doc__",166,.none),("__package__",167,.none),("__loader__",168,.builtin "__main__.__loader__#opaque"),("__spec__",169,.none),("__annotations__",170,.ref 6),("__builtins__",171,.ref 4),("__file__",173,.str "/claim/cut.py" 172),("__cached__",174,.none),("_wall",193,.ref 21),("HeapError",228,.ref 45),("BadHand",251,.ref 65),("BadName",274,.ref 84),("BadField",297,.ref 103),("BadCount",320,.ref 122),("NoRoom",343,.ref 141),("TooManyWords",366,.ref 160),("RoundOn",389,.ref 179),("NoRound",412,.ref 198),("BadView",435,.ref 217),("BadAddress",458,.ref 236),("HANDS",462,.int 8 461),("WEAK_NAMES",464,.int 8 463),("MOST_FIELDS",466,.int 6 465),("LEAST_ROOM",468,.int 7 467),("MOST_YOUNG",470,.int 64 469),("MOST_LIMIT",472,.int 400 471),("number_value",479,.ref 245)] [("thing_value",486,.ref 252),("kind_of",493,.ref 259),("words_of",500,.ref 266),("look_at_number",507,.ref 273),("look_at_hand",514,.ref 280),("look_at_name",521,.ref 287),("look_at_field",529,.ref 294),("look_at_limits",537,.ref 301),("thing_at",545,.ref 306),("resolved",554,.ref 313),("field_at",563,.ref 320),("fields_at",571,.ref 327),("fields_told",581,.ref 334),("field_address",590,.ref 341),("look_at_room",599,.ref 348),("is_picture",612,.ref 355),("first_unlike",618,.ref 360),("first_misplaced",630,.ref 367),("addresses_of",636,.ref 372),("first_headless",646,.ref 379),("first_unlike_field",659,.ref 386),("first_unlike_word",673,.ref 393),("is_like",683,.ref 400),("place_met",691,.ref 407)]) 52
def akc:OO:=oX (xs0.take 111)
def ac6:OO:=oY "HeapError" [v6] [(.ref 45),v6,v7,v8,v2] 44 [(.ref 65),(.ref 84),(.ref 103),(.ref 122),(.ref 141),(.ref 160),(.ref 179),(.ref 198),(.ref 217),(.ref 236)] (.some (.ref 22)) 196 204 v9
def akd:OO:=oD [("__module__",397,.str "stillheap.errors" 194),("__qualname__",399,.str "NoRound" 398),("__firstlineno__",401,.int 40 400),("called",408,.ref 195),("__static_attributes__",409,.ref 196)] 5
def ake:OO:=oX [42,4,194]
def akf:OO:=oM "NoRound" 392 40 185 181 186 395 396
def akg:OO:=oR 187 3 184 v1
def ac7:OO:=oT (oS ["self"] 405)
def akh:OO:=oG aag
def ac8:OO:=oC aag 402 42 1 0 0 3 189 181 190 191 192 193 406 407
def ac9:OO:=oF aag v1 194
def ada:OO:=oD [("__module__",397,.str "stillheap.errors" 194),("__firstlineno__",401,.int 40 400),("called",408,.ref 195),("__static_attributes__",409,.ref 196),("__doc__",410,.none)] 2
def adb:OO:=oY "NoRound" [(.ref 45)] [(.ref 198),(.ref 45),v6,v7,v8,v2] 197 [] (.some (.ref 182)) 390 398 v9
def aki:OO:=oU 198
def akj:OO:=oP v5 (.ref 198)
def akk:OO:=oD [("__module__",420,.str "stillheap.errors" 194),("__qualname__",422,.str "BadView" 421),("__firstlineno__",424,.int 44 423),("called",431,.ref 214),("__static_attributes__",432,.ref 215)] 5
def akl:OO:=oX [46,4,213]
def akm:OO:=oM "BadView" 415 44 204 181 205 418 419
def akn:OO:=oR 206 3 203 v1
def ade:OO:=oT (oS ["self"] 428)
def ako:OO:=oG aah
def adf:OO:=oC aah 425 46 1 0 0 3 208 181 209 210 211 212 429 430
def adg:OO:=oF aah v1 213
def adh:OO:=oD [("__module__",420,.str "stillheap.errors" 194),("__firstlineno__",424,.int 44 423),("called",431,.ref 214),("__static_attributes__",432,.ref 215),("__doc__",433,.none)] 2
def adi:OO:=oY "BadView" [(.ref 45)] [(.ref 217),(.ref 45),v6,v7,v8,v2] 216 [] (.some (.ref 201)) 413 421 v9
def akp:OO:=oU 217
def akq:OO:=oP v5 (.ref 217)
def akr:OO:=oD [("__module__",443,.str "stillheap.errors" 194),("__qualname__",445,.str "BadAddress" 444),("__firstlineno__",447,.int 48 446),("called",454,.ref 233),("__static_attributes__",455,.ref 234)] 5
def aks:OO:=oX [50,4,232]
def akt:OO:=oM "BadAddress" 438 48 223 181 224 441 442
def aku:OO:=oR 225 3 222 v1
def adj:OO:=oT (oS ["self"] 451)
def akv:OO:=oG aai
def adk:OO:=oC aai 448 50 1 0 0 3 227 181 228 229 230 231 452 453
def adl:OO:=oF aai v1 232
def adn:OO:=oD [("__module__",443,.str "stillheap.errors" 194),("__firstlineno__",447,.int 48 446),("called",454,.ref 233),("__static_attributes__",455,.ref 234),("__doc__",456,.none)] 2
def ado:OO:=oY "BadAddress" [(.ref 45)] [(.ref 236),(.ref 45),v6,v7,v8,v2] 235 [] (.some (.ref 220)) 436 444 v9
def akw:OO:=oU 236
def akx:OO:=oP v5 (.ref 236)
def adp:OO:=oT (oS ["x"] 476)
def aky:OO:=oG aaj
def adq:OO:=oC aaj 473 59 1 0 0 3 239 181 240 241 242 243 477 478
def ads:OO:=oF aaj v12 244
def adt:OO:=oT (oS ["t"] 483)
def akz:OO:=oG aak
def adu:OO:=oC aak 480 62 1 0 0 3 246 181 247 248 249 250 484 485
def adv:OO:=oF aak v12 251
def adw:OO:=oT (oS ["value"] 490)
def akA:OO:=oG aal
def adx:OO:=oC aal 487 66 1 0 0 3 253 181 254 255 256 257 491 492
def ady:OO:=oF aal v12 258
def adz:OO:=oT (oS ["fields"] 497)
def akB:OO:=oG aam
def adA:OO:=oC aam 494 68 1 0 0 3 260 181 261 262 263 264 498 499
def adB:OO:=oF aam v12 265
def adC:OO:=oT (oS ["x"] 504)
def akC:OO:=oG aan
def adD:OO:=oC aan 501 72 1 0 0 3 267 181 268 269 270 271 505 506
def adE:OO:=oF aan v12 272
def adF:OO:=oT (oS ["h"] 511)
def akD:OO:=oG aao
def adG:OO:=oC aao 508 75 1 0 0 3 274 181 275 276 277 278 512 513
def adH:OO:=oF aao v12 279
def adI:OO:=oT (oS ["w"] 518)
def akE:OO:=oG aap
def adJ:OO:=oC aap 515 78 1 0 0 3 281 181 282 283 284 285 519 520
def adK:OO:=oF aap v12 286
def adL:OO:=oT (oS ["k","fields"] 525)
def akF:OO:=oG aaq
def adM:OO:=oC aaq 522 81 2 0 0 3 288 181 289 290 291 292 527 528
def adN:OO:=oF aaq v12 293
def adO:OO:=oT (oS ["young","limit"] 533)
def akG:OO:=oG aar
def adP:OO:=oC aar 530 84 2 0 0 3 295 181 296 297 298 299 535 536
def adQ:OO:=oF aar v12 300
def akH:OO:=oG aas
def adR:OO:=oN aas 540 90 2 0 0 3 302 181 303 304 543 544
def adS:OO:=oF aas v15 305
def adT:OO:=oT (oS ["memory","a","word"] 549)
def akI:OO:=oG aat
def adU:OO:=oC aat 546 93 2 0 0 3 307 181 308 309 310 311 552 553
def adV:OO:=oF aat v15 312
def adW:OO:=oT (oS ["memory","a","k"] 558)
def akJ:OO:=oG aau
def adX:OO:=oC aau 555 99 3 0 0 3 314 181 315 316 317 318 561 562
def adY:OO:=oF aau v15 319
def adZ:OO:=oT (oS ["memory","a"] 567)
def akK:OO:=oG aav
def ad0:OO:=oC aav 564 101 2 0 0 3 321 181 322 323 324 325 569 570
def ad1:OO:=oF aav v15 326
def ad2:OO:=oT (oS ["memory","a","kinds","word"] 575)
def akL:OO:=oG aaw
def ad3:OO:=oC aaw 572 103 3 0 0 3 328 181 329 330 331 332 579 580
def ad4:OO:=oF aaw v15 333
def ad5:OO:=oT (oS ["memory","a","k"] 585)
def akM:OO:=oG aax
def ad6:OO:=oC aax 582 109 3 0 0 3 335 181 336 337 338 339 588 589
def ad7:OO:=oF aax v15 340
def ad8:OO:=oT (oS ["memory","a","fields"] 594)
def akN:OO:=oG aay
def ad9:OO:=oC aay 591 113 3 0 0 3 342 181 343 344 345 346 597 598
def aea:OO:=oF aay v15 347
def aeb:OO:=oT (oS ["ideal","memory","hands","names","book"] 605)
def akO:OO:=oG aaz
def aec:OO:=oC aaz 602 117 5 0 0 3 349 181 350 351 352 353 610 611
def aed:OO:=oF aaz v13 354
def akP:OO:=oG aaA
def aee:OO:=oN aaA 613 119 5 0 0 3 356 181 357 358 616 617
def aef:OO:=oF aaA v13 359
def aeg:OO:=oT (oS ["ideal","memory","book","uses","pair","a"] 622)
def akQ:OO:=oG aaB
def aeh:OO:=oC aaB 619 133 3 0 0 3 361 181 362 363 364 365 628 629
def aei:OO:=oF aaB v13 366
def akR:OO:=oG aaC
def aej:OO:=oN aaC 631 143 2 0 0 3 368 181 369 370 634 635
def aek:OO:=oF aaC v13 371
def ael:OO:=oT (oS ["ideal","memory","book","pair"] 640)
def akS:OO:=oG aaD
def aem:OO:=oC aaD 637 145 3 0 0 3 373 181 374 375 376 377 644 645
def aen:OO:=oF aaD v13 378
def aeo:OO:=oT (oS ["ideal","memory","book","stands","pair","k","value"] 650)
def akT:OO:=oG aaE
def aep:OO:=oC aaE 647 150 3 0 0 3 380 181 381 382 383 384 657 658
def aeq:OO:=oF aaE v13 385
def aer:OO:=oT (oS ["kind","told","memory","words","book","stands","i","value"] 663)
def akU:OO:=oG aaF
def aes:OO:=oC aaF 660 157 5 0 0 3 387 181 388 389 390 391 671 672
def aet:OO:=oF aaF v13 392
def aeu:OO:=oT (oS ["value","memory","word","stands"] 677)
def akV:OO:=oG aaG
def aev:OO:=oC aaG 674 163 4 0 0 3 394 181 395 396 397 398 681 682
def aew:OO:=oF aaG v13 399
def aex:OO:=oT (oS ["memory","a"] 687)
def akW:OO:=oG aaH
def aey:OO:=oC aaH 684 167 2 0 0 3 401 181 402 403 404 405 689 690
def aez:OO:=oF aaH v13 406
def akX:OO:=oD (ap [("__name__",165,.str "stillheap.heaps" 952),("__doc__",166,.none),("__package__",167,.none),("__loader__",168,.builtin "__main__.__loader__#opaque"),("__spec__",169,.none),("__annotations__",170,.ref 6),("__builtins__",171,.ref 4),("__file__",173,.str "/claim/cut.py" 172),("__cached__",174,.none),("_wall",193,.ref 21),("HeapError",228,.ref 45),("BadHand",251,.ref 65),("BadName",274,.ref 84),("BadField",297,.ref 103),("BadCount",320,.ref 122),("NoRoom",343,.ref 141),("TooManyWords",366,.ref 160),("RoundOn",389,.ref 179),("NoRound",412,.ref 198),("BadView",435,.ref 217),("BadAddress",458,.ref 236),("HANDS",462,.int 8 461),("WEAK_NAMES",464,.int 8 463),("MOST_FIELDS",466,.int 6 465),("LEAST_ROOM",468,.int 7 467),("MOST_YOUNG",470,.int 64 469),("MOST_LIMIT",472,.int 400 471),("number_value",479,.ref 245)] (ap [("thing_value",486,.ref 252),("kind_of",493,.ref 259),("words_of",500,.ref 266),("look_at_number",507,.ref 273),("look_at_hand",514,.ref 280),("look_at_name",521,.ref 287),("look_at_field",529,.ref 294),("look_at_limits",537,.ref 301),("thing_at",545,.ref 306),("resolved",554,.ref 313),("field_at",563,.ref 320),("fields_at",571,.ref 327),("fields_told",581,.ref 334),("field_address",590,.ref 341),("look_at_room",599,.ref 348),("is_picture",612,.ref 355),("first_unlike",618,.ref 360),("first_misplaced",630,.ref 367),("addresses_of",636,.ref 372),("first_headless",646,.ref 379),("first_unlike_field",659,.ref 386),("first_unlike_word",673,.ref 393),("is_like",683,.ref 400),("place_met",691,.ref 407),("Hands",797,.ref 487),("MOST_BEARERS",801,.int 12 800),("WordTable",877,.ref 550),("last_steps",891,.ref 561)] [("NameTable",951,.ref 604)])) 57
def akY:OO:=oX (xs0.take 123)
def akZ:OO:=oD [("__module__",701,.str "stillheap.hands" 692),("__qualname__",703,.str "Hands" 702),("__firstlineno__",705,.int 173 704),("__init__",712,.ref 421),("word_in",720,.ref 428),("all_words",727,.ref 435),("put",736,.ref 442),("copy",745,.ref 449),("number",754,.ref 456),("kind",763,.ref 463),("value",771,.ref 470),("same",780,.ref 477),("thing_due",788,.ref 484),("__static_attributes__",790,.ref 485)] 14
def ak0:OO:=oX [175,4,420,178,4,427,182,4,434,185,4,441,189,4,448,193,4,455,197,4,462,201,4,469,206,4,476,209,4,483]
def ak1:OO:=oM "Hands" 696 173 411 181 412 699 700
def ak2:OO:=oR 413 3 410 v11
def aeA:OO:=oT (oS ["self"] 709)
def ak3:OO:=oG aaI
def aeB:OO:=oC aaI 706 175 1 0 0 3 415 181 416 417 418 419 710 711
def aeC:OO:=oF aaI v11 420
def aeD:OO:=oT (oS ["self","h"] 716)
def ak4:OO:=oG aaJ
def aeE:OO:=oC aaJ 713 178 2 0 0 3 422 181 423 424 425 426 718 719
def aeF:OO:=oF aaJ v11 427
def aeG:OO:=oT (oS ["self"] 724)
def ak5:OO:=oG aaK
def aeH:OO:=oC aaK 721 182 1 0 0 3 429 181 430 431 432 433 725 726
def aeI:OO:=oF aaK v11 434
def aeJ:OO:=oT (oS ["self","h","word"] 731)
def ak6:OO:=oG aaL
def aeK:OO:=oC aaL 728 185 3 0 0 3 436 181 437 438 439 440 734 735
def aeL:OO:=oF aaL v11 441
def aeM:OO:=oT (oS ["self","h","g"] 740)
def ak7:OO:=oG aaM
def aeN:OO:=oC aaM 737 189 3 0 0 3 443 181 444 445 446 447 743 744
def aeO:OO:=oF aaM v11 448
def aeP:OO:=oT (oS ["self","h","x"] 749)
def ak8:OO:=oG aaN
def aeQ:OO:=oC aaN 746 193 3 0 0 3 450 181 451 452 453 454 752 753
def aeR:OO:=oF aaN v11 455
def aeS:OO:=oT (oS ["self","h","kind"] 758)
def ak9:OO:=oG aaO
def aeT:OO:=oC aaO 755 197 2 0 0 3 457 181 458 459 460 461 761 762
def aeU:OO:=oF aaO v11 462
def aeV:OO:=oT (oS ["self","h"] 767)
def ala:OO:=oG aaP
def aeW:OO:=oC aaP 764 201 2 0 0 3 464 181 465 466 467 468 769 770
def aeX:OO:=oF aaP v11 469
def aeY:OO:=oT (oS ["self","h","g"] 775)
def alb:OO:=oG aaQ
def aeZ:OO:=oC aaQ 772 206 3 0 0 3 471 181 472 473 474 475 778 779
def ae0:OO:=oF aaQ v11 476
def ae1:OO:=oT (oS ["self","h"] 784)
def alc:OO:=oG aaR
def ae2:OO:=oC aaR 781 209 2 0 0 3 478 181 479 480 481 482 786 787
def ae3:OO:=oF aaR v11 483
def ae4:OO:=oT (oS ["words_held"] 789)
def ae5:OO:=oD [("__module__",701,.str "stillheap.hands" 692),("__firstlineno__",705,.int 173 704),("__init__",712,.ref 421),("word_in",720,.ref 428),("all_words",727,.ref 435),("put",736,.ref 442),("copy",745,.ref 449),("number",754,.ref 456),("kind",763,.ref 463),("value",771,.ref 470),("same",780,.ref 477),("thing_due",788,.ref 484),("__static_attributes__",790,.ref 485),("__dict__",792,.ref 488),("__weakref__",794,.ref 489),("__doc__",795,.none)] 4
def ae6:OO:=oY "Hands" [v2] [(.ref 487),v2] 486 [] none 694 702 v18
def ae7:OO:=λ_=>⟨v10,none,(.fields (List.toArray [(.str "__dict__" 791),(.ref 487),v20,v21])),#[]⟩
def ae8:OO:=λ_=>⟨v10,none,(.fields (List.toArray [(.str "__weakref__" 793),(.ref 487),v17,.none])),#[]⟩
def ald:OO:=oU 487
def ale:OO:=oP v5 (.ref 487)
def alf:OO:=oD [("__module__",809,.str "stillheap.lastwords" 798),("__qualname__",811,.str "WordTable" 810),("__firstlineno__",813,.int 215 812),("__init__",820,.ref 505),("bear",829,.ref 512),("word_of",837,.ref 519),("bearers",844,.ref 526),("settle",853,.ref 533),("take",860,.ref 540),("said",867,.ref 547),("__static_attributes__",870,.ref 548)] 11
def alg:OO:=oX [217,4,504,221,4,511,226,4,518,229,4,525,232,4,532,237,4,539,240,4,546]
def alh:OO:=oM "WordTable" 804 215 495 181 496 807 808
def ali:OO:=oR 497 3 494 v14
def ae9:OO:=oT (oS ["self"] 817)
def alj:OO:=oG aaS
def afa:OO:=oC aaS 814 217 1 0 0 3 499 181 500 501 502 503 818 819
def afb:OO:=oF aaS v14 504
def afc:OO:=oT (oS ["self","t","x"] 824)
def alk:OO:=oG aaT
def afd:OO:=oC aaT 821 221 3 0 0 3 506 181 507 508 509 510 827 828
def afe:OO:=oF aaT v14 511
def aff:OO:=oT (oS ["self","t"] 833)
def alm:OO:=oG aaU
def afg:OO:=oC aaU 830 226 2 0 0 3 513 181 514 515 516 517 835 836
def afi:OO:=oF aaU v14 518
def afj:OO:=oT (oS ["self"] 841)
def aln:OO:=oG aaV
def afk:OO:=oC aaV 838 229 1 0 0 3 520 181 521 522 523 524 842 843
def afm:OO:=oF aaV v14 525
def afn:OO:=oT (oS ["self","things","t"] 848)
def alo:OO:=oG aaW
def afo:OO:=oC aaW 845 232 2 0 0 3 527 181 528 529 530 531 851 852
def afp:OO:=oF aaW v14 532
def afq:OO:=oT (oS ["self"] 857)
def alp:OO:=oG aaX
def afr:OO:=oC aaX 854 237 1 0 0 3 534 181 535 536 537 538 858 859
def afs:OO:=oF aaX v14 539
def aft:OO:=oT (oS ["self"] 864)
def alq:OO:=oG aaY
def afu:OO:=oC aaY 861 240 1 0 0 3 541 181 542 543 544 545 865 866
def afv:OO:=oF aaY v14 546
def afw:OO:=oT (oS ["words_borne","words_said"] 868)
def afx:OO:=oD [("__module__",809,.str "stillheap.lastwords" 798),("__firstlineno__",813,.int 215 812),("__init__",820,.ref 505),("bear",829,.ref 512),("word_of",837,.ref 519),("bearers",844,.ref 526),("settle",853,.ref 533),("take",860,.ref 540),("said",867,.ref 547),("__static_attributes__",870,.ref 548),("__dict__",872,.ref 551),("__weakref__",874,.ref 552),("__doc__",875,.none)] 4
def afy:OO:=oY "WordTable" [v2] [(.ref 550),v2] 549 [] none 802 810 v18
def afz:OO:=λ_=>⟨v10,none,(.fields (List.toArray [(.str "__dict__" 871),(.ref 550),v20,v21])),#[]⟩
def afA:OO:=λ_=>⟨v10,none,(.fields (List.toArray [(.str "__weakref__" 873),(.ref 550),v17,.none])),#[]⟩
def alr:OO:=oU 550
def als:OO:=oP v5 (.ref 550)
def afB:OO:=oT (oS ["view","steps","place","thing","met","done"] 883)
def alu:OO:=oG aaZ
def afC:OO:=oC aaZ 880 243 1 0 0 3 555 181 556 557 558 559 889 890
def afD:OO:=oF aaZ (.str "stillheap.reach" 878) 560
def alv:OO:=oD [("__module__",901,.str "stillheap.weaknames" 892),("__qualname__",903,.str "NameTable" 902),("__firstlineno__",905,.int 258 904),("__init__",912,.ref 575),("name",921,.ref 582),("named",929,.ref 589),("all_named",936,.ref 596),("settle",942,.ref 601),("__static_attributes__",944,.ref 602)] 9
def alw:OO:=oX [260,4,574,263,4,581,267,4,588,271,4,595,274,4,600]
def alx:OO:=oM "NameTable" 896 258 565 181 566 899 900
def aly:OO:=oR 567 3 564 v19
def afE:OO:=oT (oS ["self"] 909)
def alz:OO:=oG aa0
def afF:OO:=oC aa0 906 260 1 0 0 3 569 181 570 571 572 573 910 911
def afG:OO:=oF aa0 v19 574
def afH:OO:=oT (oS ["self","w","t"] 916)
def alA:OO:=oG aa1
def afI:OO:=oC aa1 913 263 3 0 0 3 576 181 577 578 579 580 919 920
def afJ:OO:=oF aa1 v19 581
def afK:OO:=oT (oS ["self","w"] 925)
def alB:OO:=oG aa2
def afL:OO:=oC aa2 922 267 2 0 0 3 583 181 584 585 586 587 927 928
def afM:OO:=oF aa2 v19 588
def afN:OO:=oT (oS ["self"] 933)
def alC:OO:=oG aa3
def afO:OO:=oC aa3 930 271 1 0 0 3 590 181 591 592 593 594 934 935
def afP:OO:=oF aa3 v19 595
def alD:OO:=oG aa4
def afQ:OO:=oN aa4 937 274 2 0 0 3 597 181 598 599 940 941
def afR:OO:=oF aa4 v19 600
def afS:OO:=oT (oS ["things_named"] 943)
def afT:OO:=oD [("__module__",901,.str "stillheap.weaknames" 892),("__firstlineno__",905,.int 258 904),("__init__",912,.ref 575),("name",921,.ref 582),("named",929,.ref 589),("all_named",936,.ref 596),("settle",942,.ref 601),("__static_attributes__",944,.ref 602),("__dict__",946,.ref 605),("__weakref__",948,.ref 606),("__doc__",949,.none)] 4
def afU:OO:=oY "NameTable" [v2] [(.ref 604),v2] 603 [] none 894 902 v18
def afV:OO:=λ_=>⟨v10,none,(.fields (List.toArray [(.str "__dict__" 945),(.ref 604),v20,v21])),#[]⟩
def afW:OO:=λ_=>⟨v10,none,(.fields (List.toArray [(.str "__weakref__" 947),(.ref 604),v17,.none])),#[]⟩
def alE:OO:=oU 604
def alF:OO:=oP v5 (.ref 604)
def alG:OO:=oD (ap [("__name__",165,.str "stillheap.memory" 1342),("__doc__",166,.none),("__package__",167,.none),("__loader__",168,.builtin "__main__.__loader__#opaque"),("__spec__",169,.none),("__annotations__",170,.ref 6),("__builtins__",171,.ref 4),("__file__",173,.str "/claim/cut.py" 172),("__cached__",174,.none),("_wall",193,.ref 21),("HeapError",228,.ref 45),("BadHand",251,.ref 65),("BadName",274,.ref 84),("BadField",297,.ref 103),("BadCount",320,.ref 122),("NoRoom",343,.ref 141),("TooManyWords",366,.ref 160),("RoundOn",389,.ref 179),("NoRound",412,.ref 198),("BadView",435,.ref 217),("BadAddress",458,.ref 236),("HANDS",462,.int 8 461),("WEAK_NAMES",464,.int 8 463),("MOST_FIELDS",466,.int 6 465),("LEAST_ROOM",468,.int 7 467),("MOST_YOUNG",470,.int 64 469),("MOST_LIMIT",472,.int 400 471),("number_value",479,.ref 245)] (ap [("thing_value",486,.ref 252),("kind_of",493,.ref 259),("words_of",500,.ref 266),("look_at_number",507,.ref 273),("look_at_hand",514,.ref 280),("look_at_name",521,.ref 287),("look_at_field",529,.ref 294),("look_at_limits",537,.ref 301),("thing_at",545,.ref 306),("resolved",554,.ref 313),("field_at",563,.ref 320),("fields_at",571,.ref 327),("fields_told",581,.ref 334),("field_address",590,.ref 341),("look_at_room",599,.ref 348),("is_picture",612,.ref 355),("first_unlike",618,.ref 360),("first_misplaced",630,.ref 367),("addresses_of",636,.ref 372),("first_headless",646,.ref 379),("first_unlike_field",659,.ref 386),("first_unlike_word",673,.ref 393),("is_like",683,.ref 400),("place_met",691,.ref 407),("Hands",797,.ref 487),("MOST_BEARERS",801,.int 12 800),("WordTable",877,.ref 550),("last_steps",891,.ref 561)] [("NameTable",951,.ref 604),("Heap",1128,.ref 731),("thing_among",1136,.ref 742),("IdealHeap",1341,.ref 913)])) 60
def alH:OO:=oX (xs0.take 132)
def alI:OO:=oD [("__module__",961,.str "stillheap.heaps" 952),("__qualname__",963,.str "Heap" 962),("__firstlineno__",965,.int 277 964),("__init__",973,.ref 622),("add_thing",983,.ref 629),("load",994,.ref 636),("store",1006,.ref 643),("copy",1015,.ref 650),("drop",1023,.ref 657),("number",1032,.ref 664),("name",1042,.ref 671),("read_thing",1052,.ref 678),("word",1062,.ref 685),("small_round",1068,.ref 690),("let_go",1077,.ref 697),("look_at_held",1085,.ref 704),("field_value",1094,.ref 711),("counts_held",1101,.ref 718),("words_among",1107,.ref 723),("led_among",1113,.ref 728),("__static_attributes__",1121,.ref 729)] 21
def alJ:OO:=oX [279,4,621,288,4,628,296,4,635,302,4,642,308,4,649,311,4,656,314,4,663,317,4,670,321,4,677,327,4,684,332,4,689,343,4,696,349,4,703,353,4,710,356,4,717,359,4,722,362,4,727]
def alK:OO:=oM "Heap" 956 277 612 181 613 959 960
def alL:OO:=oR 614 3 611 v3
def afX:OO:=oT (oS ["self","makes_young"] 969)
def alM:OO:=oG aa5
def afY:OO:=oC aa5 966 279 2 0 0 3 616 181 617 618 619 620 971 972
def afZ:OO:=oF aa5 v3 621
def af0:OO:=oT (oS ["self","h","n","t"] 977)
def alN:OO:=oG aa6
def af1:OO:=oC aa6 974 288 3 0 0 3 623 181 624 625 626 627 981 982
def af2:OO:=oF aa6 v3 628
def af3:OO:=oT (oS ["self","h","g","k","fields"] 987)
def alO:OO:=oG aa7
def af4:OO:=oC aa7 984 296 4 0 0 3 630 181 631 632 633 634 992 993
def af5:OO:=oF aa7 v3 635
def af6:OO:=oT (oS ["self","g","k","h","fields","value"] 998)
def alP:OO:=oG aa8
def af7:OO:=oC aa8 995 302 4 0 0 3 637 181 638 639 640 641 1004 1005
def af8:OO:=oF aa8 v3 642
def af9:OO:=oT (oS ["self","h","g"] 1010)
def alQ:OO:=oG aa9
def aga:OO:=oC aa9 1007 308 3 0 0 3 644 181 645 646 647 648 1013 1014
def agb:OO:=oF aa9 v3 649
def agc:OO:=oT (oS ["self","h"] 1019)
def alR:OO:=oG aba
def agd:OO:=oC aba 1016 311 2 0 0 3 651 181 652 653 654 655 1021 1022
def age:OO:=oF aba v3 656
def agf:OO:=oT (oS ["self","h","x"] 1027)
def alS:OO:=oG abb
def agg:OO:=oC abb 1024 314 3 0 0 3 658 181 659 660 661 662 1030 1031
def agh:OO:=oF abb v3 663
def agi:OO:=oT (oS ["self","w","h","t"] 1036)
def alT:OO:=oG abc
def agj:OO:=oC abc 1033 317 3 0 0 3 665 181 666 667 668 669 1040 1041
def agk:OO:=oF abc v3 670
def agl:OO:=oT (oS ["self","h","w","t"] 1046)
def alU:OO:=oG abd
def agm:OO:=oC abd 1043 321 3 0 0 3 672 181 673 674 675 676 1050 1051
def agn:OO:=oF abd v3 677
def ago:OO:=oT (oS ["self","h","x","t"] 1056)
def alV:OO:=oG abe
def agp:OO:=oC abe 1053 327 3 0 0 3 679 181 680 681 682 683 1060 1061
def agq:OO:=oF abe v3 684
def alW:OO:=oG abf
def agr:OO:=oN abf 1063 332 1 0 0 3 686 181 687 688 1066 1067
def ags:OO:=oF abf v3 689
def agt:OO:=oT (oS ["self","gone","t"] 1072)
def alX:OO:=oG abg
def agu:OO:=oC abg 1069 343 2 0 0 3 691 181 692 693 694 695 1075 1076
def agv:OO:=oF abg v3 696
def agw:OO:=oT (oS ["self","t"] 1081)
def alY:OO:=oG abh
def agx:OO:=oC abh 1078 349 2 0 0 3 698 181 699 700 701 702 1083 1084
def agy:OO:=oF abh v3 703
def agz:OO:=oT (oS ["self","t","k"] 1089)
def alZ:OO:=oG abi
def agA:OO:=oC abi 1086 353 3 0 0 3 705 181 706 707 708 709 1092 1093
def agB:OO:=oF abi v3 710
def agC:OO:=oT (oS ["self"] 1098)
def al0:OO:=oG abj
def agD:OO:=oC abj 1095 356 1 0 0 3 712 181 713 714 715 716 1099 1100
def agE:OO:=oF abj v3 717
def al1:OO:=oG abk
def agF:OO:=oN abk 1102 359 2 0 0 3 719 181 720 721 1105 1106
def agG:OO:=oF abk v3 722
def al3:OO:=oG abl
def agH:OO:=oN abl 1108 362 3 0 0 3 724 181 725 726 1111 1112
def agI:OO:=oF abl v3 727
def agJ:OO:=oT (oS ["fields_held","in_hands","last_words","makes_young","next_thing","weak_names","young_things"] 1114)
def agK:OO:=oD [("__module__",961,.str "stillheap.heaps" 952),("__firstlineno__",965,.int 277 964),("__init__",973,.ref 622),("add_thing",983,.ref 629),("load",994,.ref 636),("store",1006,.ref 643),("copy",1015,.ref 650),("drop",1023,.ref 657),("number",1032,.ref 664),("name",1042,.ref 671),("read_thing",1052,.ref 678),("word",1062,.ref 685),("small_round",1068,.ref 690),("let_go",1077,.ref 697),("look_at_held",1085,.ref 704),("field_value",1094,.ref 711),("counts_held",1101,.ref 718),("words_among",1107,.ref 723),("led_among",1113,.ref 728),("__static_attributes__",1121,.ref 729),("__dict__",1123,.ref 732),("__weakref__",1125,.ref 733),("__doc__",1126,.none)] 4
def agL:OO:=oY "Heap" [v2] [(.ref 731),v2] 730 [(.ref 913)] none 954 962 v18
def agM:OO:=λ_=>⟨v10,none,(.fields (List.toArray [(.str "__dict__" 1122),(.ref 731),v20,v21])),#[]⟩
def agN:OO:=λ_=>⟨v10,none,(.fields (List.toArray [(.str "__weakref__" 1124),(.ref 731),v17,.none])),#[]⟩
def al4:OO:=oU 731
def al5:OO:=oP v5 (.ref 731)
def agO:OO:=oT (oS ["value","things"] 1132)
def al6:OO:=oG abm
def agP:OO:=oC abm 1129 367 2 0 0 3 736 181 737 738 739 740 1134 1135
def agQ:OO:=oF abm v3 741
def agR:OO:=oT [(.ref 731)]
def al7:OO:=oD [("__module__",1146,.str "stillheap.ideal" 1137),("__qualname__",1148,.str "IdealHeap" 1147),("__firstlineno__",1150,.int 372 1149),("__init__",1159,.ref 756),("make",1169,.ref 763),("read",1179,.ref 770),("take",1186,.ref 777),("kind",1194,.ref 784),("value",1202,.ref 791),("fields",1210,.ref 798),("same",1219,.ref 805),("held",1226,.ref 812),("small",1233,.ref 819),("begin",1242,.ref 826),("end",1250,.ref 833),("round_on",1257,.ref 840),("hands",1264,.ref 847),("names",1271,.ref 854),("things",1278,.ref 861),("fields_of",1286,.ref 868),("is_old",1294,.ref 875),("word_of",1302,.ref 882),("doomed",1309,.ref 889),("said",1316,.ref 896),("made",1323,.ref 903),("spare",1333,.ref 910),("__static_attributes__",1338,.ref 911)] 27
def al8:OO:=oX [374,4,755,382,4,762,391,4,769,396,4,776,399,4,783,402,4,790,405,4,797,408,4,804,411,4,811,414,4,818,417,4,825,427,4,832,435,4,839,438,4,846,441,4,853,444,4,860,447,4,867,451,4,874,454,4,881,457,4,888,460,4,895,463,4,902,466,4,909]
def al9:OO:=oM "IdealHeap" 1141 372 746 181 747 1144 1145
def ama:OO:=oR 748 3 745 v0
def agS:OO:=oT (oS ["self","young","limit"] 1154)
def amb:OO:=oG abn
def agT:OO:=oC abn 1151 374 3 0 0 3 750 181 751 752 753 754 1157 1158
def agU:OO:=oF abn v0 755
def agV:OO:=oT (oS ["self","h","n","size"] 1163)
def amc:OO:=oG abo
def agW:OO:=oC abo 1160 382 3 0 0 3 757 181 758 759 760 761 1167 1168
def agX:OO:=oF abo v0 762
def agY:OO:=oT (oS ["self","h","w","t"] 1173)
def amd:OO:=oG abp
def agZ:OO:=oC abp 1170 391 3 0 0 3 764 181 765 766 767 768 1177 1178
def ag0:OO:=oF abp v0 769
def ag1:OO:=oT (oS ["self"] 1183)
def ame:OO:=oG abq
def ag2:OO:=oC abq 1180 396 1 0 0 3 771 181 772 773 774 775 1184 1185
def ag3:OO:=oF abq v0 776
def ag4:OO:=oT (oS ["self","h"] 1190)
def amf:OO:=oG abr
def ag5:OO:=oC abr 1187 399 2 0 0 3 778 181 779 780 781 782 1192 1193
def ag6:OO:=oF abr v0 783
def ag7:OO:=oT (oS ["self","h"] 1198)
def amh:OO:=oG abt
def ag8:OO:=oC abt 1195 402 2 0 0 3 785 181 786 787 788 789 1200 1201
def ag9:OO:=oF abt v0 790
def aha:OO:=oT (oS ["self","h"] 1206)
def ami:OO:=oG abu
def ahb:OO:=oC abu 1203 405 2 0 0 3 792 181 793 794 795 796 1208 1209
def ahc:OO:=oF abu v0 797
def ahe:OO:=oT (oS ["self","h","g"] 1214)
def amj:OO:=oG abv
def ahf:OO:=oC abv 1211 408 3 0 0 3 799 181 800 801 802 803 1217 1218
def ahg:OO:=oF abv v0 804
def ahh:OO:=oT (oS ["self"] 1223)
def amk:OO:=oG abw
def ahi:OO:=oC abw 1220 411 1 0 0 3 806 181 807 808 809 810 1224 1225
def ahj:OO:=oF abw v0 811
def ahk:OO:=oT (oS ["self"] 1230)
def aml:OO:=oG abx
def ahm:OO:=oC abx 1227 414 1 0 0 3 813 181 814 815 816 817 1231 1232
def ahn:OO:=oF abx v0 818
def aho:OO:=oT (oS ["self","kept","t"] 1237)
def amm:OO:=oG aby
def ahp:OO:=oC aby 1234 417 1 0 0 3 820 181 821 822 823 824 1240 1241
def ahq:OO:=oF aby v0 825
def ahr:OO:=oT (oS ["self","gone"] 1246)
def amn:OO:=oG abz
def ahs:OO:=oC abz 1243 427 1 0 0 3 827 181 828 829 830 831 1248 1249
def aht:OO:=oF abz v0 832
def ahu:OO:=oT (oS ["self"] 1254)
def amo:OO:=oG abA
def ahv:OO:=oC abA 1251 435 1 0 0 3 834 181 835 836 837 838 1255 1256
def ahw:OO:=oF abA v0 839
def ahx:OO:=oT (oS ["self"] 1261)
def amq:OO:=oG abB
def ahy:OO:=oC abB 1258 438 1 0 0 3 841 181 842 843 844 845 1262 1263
def ahz:OO:=oF abB v0 846
def ahA:OO:=oT (oS ["self"] 1268)
def amr:OO:=oG abC
def ahB:OO:=oC abC 1265 441 1 0 0 3 848 181 849 850 851 852 1269 1270
def ahC:OO:=oF abC v0 853
def ahD:OO:=oT (oS ["self"] 1275)
def ams:OO:=oG abD
def ahE:OO:=oC abD 1272 444 1 0 0 3 855 181 856 857 858 859 1276 1277
def ahF:OO:=oF abD v0 860
def ahG:OO:=oT (oS ["self","t"] 1282)
def amt:OO:=oG abE
def ahH:OO:=oC abE 1279 447 2 0 0 3 862 181 863 864 865 866 1284 1285
def ahI:OO:=oF abE v0 867
def ahJ:OO:=oT (oS ["self","t"] 1290)
def amu:OO:=oG abF
def ahK:OO:=oC abF 1287 451 2 0 0 3 869 181 870 871 872 873 1292 1293
def ahL:OO:=oF abF v0 874
def ahM:OO:=oT (oS ["self","t"] 1298)
def amv:OO:=oG abG
def ahN:OO:=oC abG 1295 454 2 0 0 3 876 181 877 878 879 880 1300 1301
def ahO:OO:=oF abG v0 881
def ahP:OO:=oT (oS ["self"] 1306)
def amw:OO:=oG abH
def ahQ:OO:=oC abH 1303 457 1 0 0 3 883 181 884 885 886 887 1307 1308
def ahR:OO:=oF abH v0 888
def ahS:OO:=oT (oS ["self"] 1313)
def amx:OO:=oG abI
def ahT:OO:=oC abI 1310 460 1 0 0 3 890 181 891 892 893 894 1314 1315
def ahU:OO:=oF abI v0 895
def ahV:OO:=oT (oS ["self"] 1320)
def amy:OO:=oG Ww
def ahW:OO:=oC Ww 1317 463 1 0 0 3 897 181 898 899 900 901 1321 1322
def ahX:OO:=oF Ww v0 902
def ahY:OO:=oT (oS ["self","t","spared","other"] 1327)
def amz:OO:=oG Wx
def ahZ:OO:=oC Wx 1324 466 2 0 0 3 904 181 905 906 907 908 1331 1332
def ah0:OO:=oF Wx v0 909
def ah1:OO:=oT (oS ["doomed_things","in_round","limit","young_room"] 1334)
def ah2:OO:=oD [("__module__",1146,.str "stillheap.ideal" 1137),("__firstlineno__",1150,.int 372 1149),("__init__",1159,.ref 756),("make",1169,.ref 763),("read",1179,.ref 770),("take",1186,.ref 777),("kind",1194,.ref 784),("value",1202,.ref 791),("fields",1210,.ref 798),("same",1219,.ref 805),("held",1226,.ref 812),("small",1233,.ref 819),("begin",1242,.ref 826),("end",1250,.ref 833),("round_on",1257,.ref 840),("hands",1264,.ref 847),("names",1271,.ref 854),("things",1278,.ref 861),("fields_of",1286,.ref 868),("is_old",1294,.ref 875),("word_of",1302,.ref 882),("doomed",1309,.ref 889),("said",1316,.ref 896),("made",1323,.ref 903),("spare",1333,.ref 910),("__static_attributes__",1338,.ref 911),("__doc__",1339,.none)] 2
def ah3:OO:=oY "IdealHeap" [(.ref 731)] [(.ref 913),(.ref 731),v2] 912 [] (.some (.ref 743)) 1139 1147 v18
def amA:OO:=oU 913
def amB:OO:=oP v5 (.ref 913)
def ah4:OO:=oD (ap [("__name__",165,.str "law_stillheap_k38_whole_what_hands_tell" 1412),("__doc__",166,.none),("__package__",167,.none),("__loader__",168,.builtin "__main__.__loader__#opaque"),("__spec__",169,.none),("__annotations__",170,.ref 6),("__builtins__",171,.ref 4),("__file__",173,.str "/claim/cut.py" 172),("__cached__",174,.none),("_wall",193,.ref 21),("HeapError",228,.ref 45),("BadHand",251,.ref 65),("BadName",274,.ref 84),("BadField",297,.ref 103),("BadCount",320,.ref 122),("NoRoom",343,.ref 141),("TooManyWords",366,.ref 160),("RoundOn",389,.ref 179),("NoRound",412,.ref 198),("BadView",435,.ref 217),("BadAddress",458,.ref 236),("HANDS",462,.int 8 461),("WEAK_NAMES",464,.int 8 463),("MOST_FIELDS",466,.int 6 465),("LEAST_ROOM",468,.int 7 467),("MOST_YOUNG",470,.int 64 469),("MOST_LIMIT",472,.int 400 471),("number_value",479,.ref 245)] (ap [("thing_value",486,.ref 252),("kind_of",493,.ref 259),("words_of",500,.ref 266),("look_at_number",507,.ref 273),("look_at_hand",514,.ref 280),("look_at_name",521,.ref 287),("look_at_field",529,.ref 294),("look_at_limits",537,.ref 301),("thing_at",545,.ref 306),("resolved",554,.ref 313),("field_at",563,.ref 320),("fields_at",571,.ref 327),("fields_told",581,.ref 334),("field_address",590,.ref 341),("look_at_room",599,.ref 348),("is_picture",612,.ref 355),("first_unlike",618,.ref 360),("first_misplaced",630,.ref 367),("addresses_of",636,.ref 372),("first_headless",646,.ref 379),("first_unlike_field",659,.ref 386),("first_unlike_word",673,.ref 393),("is_like",683,.ref 400),("place_met",691,.ref 407),("Hands",797,.ref 487),("MOST_BEARERS",801,.int 12 800),("WordTable",877,.ref 550),("last_steps",891,.ref 561)] [("NameTable",951,.ref 604),("Heap",1128,.ref 731),("thing_among",1136,.ref 742),("IdealHeap",1341,.ref 913),("Memory",1411,.ref 967),("_law_cell",1421,.ref 978),("_law_mixed",1431,.ref 985),("_law_numbers",1445,.ref 992),("_law_deed",1457,.ref 999),("_law_round",1465,.ref 1006),("_law_heap",1476,.ref 1013),("_law_places",1488,.ref 1020),("_law_spoken",1497,.ref 1027),("_law_model",1503,.ref 1032),("_law_memory",1512,.ref 1039),("_law_seen",1521,.ref 1046),("_law_told",1530,.ref 1053),("_law_where",1538,.ref 1060),("_law_alike_now",1550,.ref 1067),("_law_load",1561,.ref 1074),("_law_load_here",1573,.ref 1081),("_law_both",1586,.ref 1088),("law",1604,.ref 1095)])) 79
def amC:OO:=oX (xs0.take 189)
def amD:OO:=oD [("__module__",1351,.str "stillheap.memory" 1342),("__qualname__",1353,.str "Memory" 1352),("__firstlineno__",1355,.int 471 1354),("__init__",1363,.ref 929),("size",1370,.ref 936),("at",1378,.ref 943),("put",1387,.ref 950),("copy_of",1394,.ref 957),("look_at_address",1402,.ref 964),("__static_attributes__",1404,.ref 965)] 10
def amE:OO:=oX [473,4,928,476,4,935,479,4,942,483,4,949,487,4,956,490,4,963]
def amF:OO:=oM "Memory" 1346 471 919 181 920 1349 1350
def amG:OO:=oR 921 3 918 v16
def ah5:OO:=oT (oS ["self","size"] 1359)
def amH:OO:=oG Wy
def ah6:OO:=oC Wy 1356 473 2 0 0 3 923 181 924 925 926 927 1361 1362
def ah7:OO:=oF Wy v16 928
def ah8:OO:=oT (oS ["self"] 1367)
def amI:OO:=oG Wz
def ah9:OO:=oC Wz 1364 476 1 0 0 3 930 181 931 932 933 934 1368 1369
def aia:OO:=oF Wz v16 935
def aib:OO:=oT (oS ["self","a"] 1374)
def amJ:OO:=oG WA
def aic:OO:=oC WA 1371 479 2 0 0 3 937 181 938 939 940 941 1376 1377
def aid:OO:=oF WA v16 942
def aie:OO:=oT (oS ["self","a","word"] 1382)
def amK:OO:=oG WB
def aif:OO:=oC WB 1379 483 3 0 0 3 944 181 945 946 947 948 1385 1386
def aih:OO:=oF WB v16 949
def aii:OO:=oT (oS ["self"] 1391)
def amL:OO:=oG WC
def aij:OO:=oC WC 1388 487 1 0 0 3 951 181 952 953 954 955 1392 1393
def aik:OO:=oF WC v16 956
def ail:OO:=oT (oS ["self","a"] 1398)
def amM:OO:=oG WD
def aim:OO:=oC WD 1395 490 2 0 0 3 958 181 959 960 961 962 1400 1401
def ain:OO:=oF WD v16 963
def aio:OO:=oT (oS ["cells"] 1403)
def aip:OO:=oD [("__module__",1351,.str "stillheap.memory" 1342),("__firstlineno__",1355,.int 471 1354),("__init__",1363,.ref 929),("size",1370,.ref 936),("at",1378,.ref 943),("put",1387,.ref 950),("copy_of",1394,.ref 957),("look_at_address",1402,.ref 964),("__static_attributes__",1404,.ref 965),("__dict__",1406,.ref 968),("__weakref__",1408,.ref 969),("__doc__",1409,.none)] 4
def aiq:OO:=oY "Memory" [v2] [(.ref 967),v2] 966 [] none 1344 1352 v18
def air:OO:=λ_=>⟨v10,none,(.fields (List.toArray [(.str "__dict__" 1405),(.ref 967),v20,v21])),#[]⟩
def ais:OO:=λ_=>⟨v10,none,(.fields (List.toArray [(.str "__weakref__" 1407),(.ref 967),v17,.none])),#[]⟩
def amN:OO:=oU 967
def amO:OO:=oP v5 (.ref 967)
def ait:OO:=oT (oS ["script","k"] 1417)
def amP:OO:=oG WE
def aiu:OO:=oC WE 1414 494 2 0 0 3 972 181 973 974 975 976 1419 1420
def aiv:OO:=oF WE v4 977
def aiw:OO:=oT (oS ["cell","k","first","second"] 1425)
def amQ:OO:=oG WG
def aix:OO:=oC WG 1422 498 2 0 0 3 979 181 980 981 982 983 1429 1430
def aiy:OO:=oF WG v4 984
def aiz:OO:=oT (oS ["script","most","numbers","way","k","cell","rest","turn"] 1435)
def amR:OO:=oG WH
def aiA:OO:=oC WH 1432 502 2 0 0 3 986 181 987 988 989 990 1443 1444
def aiB:OO:=oF WH v4 991
def aiC:OO:=oT (oS ["heap","number","way","h","g","k"] 1449)
def amS:OO:=oG WI
def aiD:OO:=oC WI 1446 511 2 0 0 3 993 181 994 995 996 997 1455 1456
def aiE:OO:=oF WI v4 998
def aiF:OO:=oT (oS ["heap","way"] 1461)
def amT:OO:=oG WJ
def aiG:OO:=oC WJ 1458 536 2 0 0 3 1000 181 1001 1002 1003 1004 1463 1464
def aiH:OO:=oF WJ v4 1005
def aiI:OO:=oT (oS ["script","most","heap","refused","number"] 1469)
def amU:OO:=oG WK
def aiJ:OO:=oC WK 1466 541 2 0 0 3 1007 181 1008 1009 1010 1011 1474 1475
def aiK:OO:=oF WK v4 1012
def aiL:OO:=oT (oS ["heap","seed","things","places","a","t"] 1480)
def amV:OO:=oG WL
def aiM:OO:=oC WL 1477 550 2 0 0 3 1014 181 1015 1016 1017 1018 1486 1487
def aiN:OO:=oF WL v4 1019
def aiO:OO:=oT (oS ["value","leads","m"] 1492)
def amW:OO:=oG WM
def aiP:OO:=oC WM 1489 559 3 0 0 3 1021 181 1022 1023 1024 1025 1495 1496
def aiQ:OO:=oF WM v4 1026
def amX:OO:=oG WN
def aiR:OO:=oN WN 1498 563 2 0 0 3 1028 181 1029 1030 1501 1502
def aiS:OO:=oF WN v4 1031
def aiT:OO:=oT (oS ["model","memory","a"] 1507)
def amY:OO:=oG WO
def aiU:OO:=oC WO 1504 580 1 0 0 3 1033 181 1034 1035 1036 1037 1510 1511
def aiV:OO:=oF WO v4 1038
def aiW:OO:=oT (oS ["memory","word","a"] 1516)
def amZ:OO:=oG WQ
def aiX:OO:=oC WQ 1513 585 2 0 0 3 1040 181 1041 1042 1043 1044 1519 1520
def aiY:OO:=oF WQ v4 1045
def aiZ:OO:=oT (oS ["heap","h","kind"] 1525)
def am0:OO:=oG WR
def ai0:OO:=oC WR 1522 592 2 0 0 3 1047 181 1048 1049 1050 1051 1528 1529
def ai1:OO:=oF WR v4 1052
def ai2:OO:=oT (oS ["memory","word"] 1534)
def am1:OO:=oG WS
def ai3:OO:=oC WS 1531 599 2 0 0 3 1054 181 1055 1056 1057 1058 1536 1537
def ai4:OO:=oF WS v4 1059
def ai5:OO:=oT (oS ["heap","memory","hands","h","g","like"] 1542)
def am2:OO:=oG WT
def ai6:OO:=oC WT 1539 603 3 0 0 3 1061 181 1062 1063 1064 1065 1548 1549
def ai7:OO:=oF WT v4 1066
def ai8:OO:=oT (oS ["heap","h","g","k","told"] 1554)
def am3:OO:=oG WU
def ai9:OO:=oC WU 1551 612 4 0 0 3 1068 181 1069 1070 1071 1072 1559 1560
def aja:OO:=oF WU v4 1073
def ajb:OO:=oT (oS ["memory","hands","h","g","k","told"] 1565)
def am4:OO:=oG WW
def ajc:OO:=oC WW 1562 619 5 0 0 3 1075 181 1076 1077 1078 1079 1571 1572
def ajd:OO:=oF WW v4 1080
def aje:OO:=oT (oS ["heap","memory","hands","number","h","g","k"] 1577)
def am5:OO:=oG WX
def ajf:OO:=oC WX 1574 628 4 0 0 3 1082 181 1083 1084 1085 1086 1584 1585
def ajg:OO:=oF WX v4 1087
def ajh:OO:=oT (oS ["script","heap","model","hands","names","book","memory","k","cell","rest","turn","number"] 1590)
def am6:OO:=oG WY
def aji:OO:=oC WY 1587 641 1 0 0 3 1089 181 1090 1091 1092 1093 1602 1603
def ajj:OO:=oF WY v4 1094
def hL:List OO:=o0::o1::o2::ah4::o4::o5::o6::o7::o8::o9::o10::o7::amC::o11::o12::o7::o8::o15::o7::o16::o17::o18::o19::o20::o21::o7::o22::o23::o24::o7::o8::o25::o7::o26::o27::o28::o7::o8::o29::o7::o30::o31::o32::o7::o33::ac6::o35::o36::o37::o38::o20::o39::o7::o40::o41::o42::o7::o8::o43::o7::o44::o45::o46::o7::o47::o48::o49::o50::o38::o20::o51::o7::o52::o53::o54::o7::o8::o55::o7::o56::o57::o58::o7::o59::o60::o61::o62::o38::o20::o63::o7::o64::o65::o66::o7::o8::o67::o7::o68::o69::o70::o7::o71::o72::o73::o74::o38::o20::o75::o7::o76::o77::o78::o7::o8::o79::o7::o80::o81::o82::o7::o83::o84::o85::o86::o38::o20::o87::o7::o88::o89::o90::o7::o8::o91::o7::o92::o93::o94::o7::o95::o96::o97::o98::o38::o20::o99::o7::ajY::ajZ::aj0::o7::o8::acW::o7::aj1::acX::acY::o7::acZ::ac0::aj2::aj3::o38::o20::aj4::o7::aj5::aj6::aj7::o7::o8::ac1::o7::aj8::ac2::ac3::o7::ac4::ac5::aj9::aka::o38::o20::akd::o7::ake::akf::akg::o7::o8::ac7::o7::akh::ac8::ac9::o7::ada::adb::aki::akj::o38::o20::akk::o7::akl::akm::akn::o7::o8::ade::o7::ako::adf::adg::o7::adh::adi::akp::akq::o38::o20::akr::o7::aks::akt::aku::o7::o8::adj::o7::akv::adk::adl::o7::adn::ado::akw::akx::o7::o8::adp::o7::aky::adq::ads::o7::o8::adt::o7::akz::adu::adv::o7::o8::adw::o7::akA::adx::ady::o7::o8::adz::o7::akB::adA::adB::o7::o8::adC::o7::akC::adD::adE::o7::o8::adF::o7::akD::adG::adH::o7::o8::adI::o7::akE::adJ::adK::o7::o8::adL::o7::akF::adM::adN::o7::o8::adO::o7::akG::adP::adQ::o7::o8::akH::adR::adS::o7::o8::adT::o7::akI::adU::adV::o7::o8::adW::o7::akJ::adX::adY::o7::o8::adZ::o7::akK::ad0::ad1::o7::o8::ad2::o7::akL::ad3::ad4::o7::o8::ad5::o7::akM::ad6::ad7::o7::o8::ad8::o7::akN::ad9::aea::o7::o8::aeb::o7::akO::aec::aed::o7::o8::akP::aee::aef::o7::o8::aeg::o7::akQ::aeh::aei::o7::o8::akR::aej::aek::o7::o8::ael::o7::akS::aem::aen::o7::o8::aeo::o7::akT::aep::aeq::o7::o8::aer::o7::akU::aes::aet::o7::o8::aeu::o7::akV::aev::aew::o7::o8::aex::o7::akW::aey::aez::o7::o20::akZ::o7::ak0::ak1::ak2::o7::o8::aeA::o7::ak3::aeB::aeC::o7::o8::aeD::o7::ak4::aeE::aeF::o7::o8::aeG::o7::ak5::aeH::aeI::o7::o8::aeJ::o7::ak6::aeK::aeL::o7::o8::aeM::o7::ak7::aeN::aeO::o7::o8::aeP::o7::ak8::aeQ::aeR::o7::o8::aeS::o7::ak9::aeT::aeU::o7::o8::aeV::o7::ala::aeW::aeX::o7::o8::aeY::o7::alb::aeZ::ae0::o7::o8::ae1::o7::alc::ae2::ae3::ae4::ae5::ae6::ae7::ae8::ald::ale::o7::o20::alf::o7::alg::alh::ali::o7::o8::ae9::o7::alj::afa::afb::o7::o8::afc::o7::alk::afd::afe::o7::o8::aff::o7::alm::afg::afi::o7::o8::afj::o7::aln::afk::afm::o7::o8::afn::o7::alo::afo::afp::o7::o8::afq::o7::alp::afr::afs::o7::o8::aft::o7::alq::afu::afv::afw::afx::afy::afz::afA::alr::als::o7::o8::afB::o7::alu::afC::afD::o7::o20::alv::o7::alw::alx::aly::o7::o8::afE::o7::alz::afF::afG::o7::o8::afH::o7::alA::afI::afJ::o7::o8::afK::o7::alB::afL::afM::o7::o8::afN::o7::alC::afO::afP::o7::o8::alD::afQ::afR::afS::afT::afU::afV::afW::alE::alF::o7::o20::alI::o7::alJ::alK::alL::o7::o8::afX::o7::alM::afY::afZ::o7::o8::af0::o7::alN::af1::af2::o7::o8::af3::o7::alO::af4::af5::o7::o8::af6::o7::alP::af7::af8::o7::o8::af9::o7::alQ::aga::agb::o7::o8::agc::o7::alR::agd::age::o7::o8::agf::o7::alS::agg::agh::o7::o8::agi::o7::alT::agj::agk::o7::o8::agl::o7::alU::agm::agn::o7::o8::ago::o7::alV::agp::agq::o7::o8::alW::agr::ags::o7::o8::agt::o7::alX::agu::agv::o7::o8::agw::o7::alY::agx::agy::o7::o8::agz::o7::alZ::agA::agB::o7::o8::agC::o7::al0::agD::agE::o7::o8::al1::agF::agG::o7::o8::al3::agH::agI::agJ::agK::agL::agM::agN::al4::al5::o7::o8::agO::o7::al6::agP::agQ::agR::o20::al7::o7::al8::al9::ama::o7::o8::agS::o7::amb::agT::agU::o7::o8::agV::o7::amc::agW::agX::o7::o8::agY::o7::amd::agZ::ag0::o7::o8::ag1::o7::ame::ag2::ag3::o7::o8::ag4::o7::amf::ag5::ag6::o7::o8::ag7::o7::amh::ag8::ag9::o7::o8::aha::o7::ami::ahb::ahc::o7::o8::ahe::o7::amj::ahf::ahg::o7::o8::ahh::o7::amk::ahi::ahj::o7::o8::ahk::o7::aml::ahm::ahn::o7::o8::aho::o7::amm::ahp::ahq::o7::o8::ahr::o7::amn::ahs::aht::o7::o8::ahu::o7::amo::ahv::ahw::o7::o8::ahx::o7::amq::ahy::ahz::o7::o8::ahA::o7::amr::ahB::ahC::o7::o8::ahD::o7::ams::ahE::ahF::o7::o8::ahG::o7::amt::ahH::ahI::o7::o8::ahJ::o7::amu::ahK::ahL::o7::o8::ahM::o7::amv::ahN::ahO::o7::o8::ahP::o7::amw::ahQ::ahR::o7::o8::ahS::o7::amx::ahT::ahU::o7::o8::ahV::o7::amy::ahW::ahX::o7::o8::ahY::o7::amz::ahZ::ah0::ah1::ah2::ah3::amA::amB::o7::o20::amD::o7::amE::amF::amG::o7::o8::ah5::o7::amH::ah6::ah7::o7::o8::ah8::o7::amI::ah9::aia::o7::o8::aib::o7::amJ::aic::aid::o7::o8::aie::o7::amK::aif::aih::o7::o8::aii::o7::amL::aij::aik::o7::o8::ail::o7::amM::aim::ain::aio::aip::aiq::air::ais::amN::amO::o7::o8::ait::o7::amP::aiu::aiv::o7::o8::aiw::o7::amQ::aix::aiy::o7::o8::aiz::o7::amR::aiA::aiB::o7::o8::aiC::o7::amS::aiD::aiE::o7::o8::aiF::o7::amT::aiG::aiH::o7::o8::aiI::o7::amU::aiJ::aiK::o7::o8::aiL::o7::amV::aiM::aiN::o7::o8::aiO::o7::amW::aiP::aiQ::o7::o8::amX::aiR::aiS::o7::o8::aiT::o7::amY::aiU::aiV::o7::o8::aiW::o7::amZ::aiX::aiY::o7::o8::aiZ::o7::am0::ai0::ai1::o7::o8::ai2::o7::am1::ai3::ai4::o7::o8::ai5::o7::am2::ai6::ai7::o7::o8::ai8::o7::am3::ai9::aja::o7::o8::ajb::o7::am4::ajc::ajd::o7::o8::aje::o7::am5::ajf::ajg::o7::o8::ajh::o7::am6::aji::ajj::[]
def hTa(P:Params):BT:=mkT P 12 (stT (hL.take 15) [(3,o3),(12,o8)])
def hSa(w:World)(os:OsState):SharedT:=⟨hTa w.params,15,9e8,#[],⟨0,0,0,0⟩,187,os⟩
def hTb(P:Params):BT:=mkT P 12 (stT (hL.take 15) [(3,o3),(12,o8)])
def hSb(w:World)(os:OsState):SharedT:=⟨hTb w.params,15,9e8,#[],⟨0,0,0,0⟩,187,os⟩
def hT0(P:Params):BT:=mkT P 12 (stT (hL.take 182) [(3,o13),(12,o14),(45,o34)])
def hS0(w:World)(os:OsState):SharedT:=⟨hT0 w.params,182,9e8,#[],⟨0,0,0,0⟩,390,os⟩
def hT1(P:Params):BT:=mkT P 12 (stT (hL.take 408) [(3,akb),(12,akc)])
def hS1(w:World)(os:OsState):SharedT:=⟨hT1 w.params,408,9e8,#[],⟨0,0,0,0⟩,694,os⟩
def hT2(P:Params):BT:=mkT P 12 (stT (hL.take 609) [(3,akX),(12,akY)])
def hS2(w:World)(os:OsState):SharedT:=⟨hT2 w.params,609,9e8,#[],⟨0,0,0,0⟩,954,os⟩
def hT3(P:Params):BT:=mkT P 12 (stT (hL.take 916) [(3,alG),(12,alH)])
def hS3(w:World)(os:OsState):SharedT:=⟨hT3 w.params,916,9e8,#[],⟨0,0,0,0⟩,1344,os⟩
def hT4(P:Params):BT:=mkT P 12 hL
def hS4(w:World)(os:OsState):SharedT:=⟨hT4 w.params,1096,9e8,#[],⟨0,0,0,0⟩,1605,os⟩
def hTf(P:Params):BT:=mkT P 12 hL
def hSf(w:World)(os:OsState):SharedT:=⟨hTf w.params,1096,9e8,#[],⟨0,0,0,0⟩,1605,os⟩
def UW:Env:={scope:=(9e9).main.scope,locals:=mainNs,globals:=mainNs,cells:=[],code:=(.ref 13),frame:=some 14}
def hG0:List Stmt:=[top 0,top 1,top 2,top 3,top 4,top 5,top 6,top 7,top 8,top 9]
def hG1:List Stmt:=[top 10,top 11,top 12,top 13,top 14,top 15,top 16,top 17,top 18,top 19,top 20,top 21,top 22,top 23,top 24,top 25,top 26,top 27,top 28,top 29,top 30,top 31,top 32,top 33,top 34,top 35,top 36,top 37,top 38,top 39,top 40,top 41,top 42,top 43,top 44,top 45,top 46,top 47]
def hG2:List Stmt:=[top 48,top 49,top 50,top 51,top 52,top 53,top 54,top 55,top 56]
def hG3:List Stmt:=[top 57,top 58,top 59,top 60,top 61]
def hG4:List Stmt:=[top 62,top 63,top 64,top 65,top 66,top 67,top 68,top 69,top 70,top 71,top 72,top 73,top 74,top 75,top 76,top 77,top 78,top 79,top 80,top 81]
def hB:List Stmt:=hG0++(hG1++(hG2++(hG3++(hG4++[]))))
def hC:Code:=.body hB UW
abbrev hF:List Frame:=[topFrame ⟨0,0,0,0⟩]
theorem am7(w:World)(os:OsState):topGo treeTable 9e9 w 11 (.some (.ref 6)) 12 ⟨boot_heap w.params,#[],boot_drawn,boot_toks,os⟩ (topStub 9e9)=some ((hSa w os).abs,⟨denote treeTable hC,hC,⟨0,0,0,0⟩,hF⟩):=by kernel_rfl
theorem am8(w:World)(os:OsState):segRun treeTable 9e9 w 11 (.some (.ref 6)) 1 1 (hSa w os).abs (blockOf hB UW hC ⟨0,0,0,0⟩ hF)=some (.next,(hSb w os).abs,hC,⟨0,0,0,0⟩):=by kernel_rfl
theorem hR0(w:World)(os:OsState):segRunT treeTable 9e9 w 11 (.some (.ref 6)) 1 1988 (hSb w os) (piecesOf hG0 UW hC ⟨0,0,0,0⟩ hF)=some (.next,hS0 w os,hC,⟨36,0,39,16⟩):=by kernel_rfl
theorem hR1(w:World)(os:OsState):segRunT treeTable 9e9 w 11 (.some (.ref 6)) 1 1579 (hS0 w os) (piecesOf hG1 UW hC ⟨36,0,39,16⟩ hF)=some (.next,hS1 w os,hC,⟨172,0,172,8⟩):=by kernel_rfl
theorem hR2(w:World)(os:OsState):segRunT treeTable 9e9 w 11 (.some (.ref 6)) 1 1351 (hS1 w os) (piecesOf hG2 UW hC ⟨172,0,172,8⟩ hF)=some (.next,hS2 w os,hC,⟨276,0,276,8⟩):=by kernel_rfl
theorem hR3(w:World)(os:OsState):segRunT treeTable 9e9 w 11 (.some (.ref 6)) 1 1746 (hS2 w os) (piecesOf hG3 UW hC ⟨276,0,276,8⟩ hF)=some (.next,hS3 w os,hC,⟨470,0,470,8⟩):=by kernel_rfl
theorem hR4(w:World)(os:OsState):segRunT treeTable 9e9 w 11 (.some (.ref 6)) 1 976 (hS3 w os) (piecesOf hG4 UW hC ⟨470,0,470,8⟩ hF)=some (.next,hS4 w os,hC,⟨641,0,656,15⟩):=by kernel_rfl
theorem am9(w:World)(os:OsState):topRun treeTable 9e9 w 11 (.some (.ref 6)) 2 (hS4 w os).abs ⟨doneF .next,hC,⟨641,0,656,15⟩,hF⟩=some (hSf w os).abs:=by kernel_rfl
theorem ana(w:World)(os:OsState):topRun treeTable 9e9 w 11 (.some (.ref 6)) (12+(1+(1988+(1579+(1351+(1746+(976+2))))))) ⟨boot_heap w.params,#[],boot_drawn,boot_toks,os⟩ (topStub 9e9)=some (hSf w os).abs:=go_top (am7 w os) (piece_block (am8 w os) (piece_app (segRun_of (hR0 w os)) (piece_app (segRun_of (hR1 w os)) (piece_app (segRun_of (hR2 w os)) (piece_app (segRun_of (hR3 w os)) (piece_app (segRun_of (hR4 w os)) (am9 w os)))))))
def hK(P:Params):Frag:=(nat_lit 2,o2 P)::(nat_lit 3,ah4 P)::(nat_lit 15,o7 P)::(nat_lit 17,o15 P)::(nat_lit 18,o7 P)::(nat_lit 20,o17 P)::(nat_lit 21,o18 P)::(nat_lit 22,o19 P)::(nat_lit 29,o7 P)::(nat_lit 31,o25 P)::(nat_lit 32,o7 P)::(nat_lit 34,o27 P)::(nat_lit 35,o28 P)::(nat_lit 36,o7 P)::(nat_lit 38,o29 P)::(nat_lit 39,o7 P)::(nat_lit 41,o31 P)::(nat_lit 42,o32 P)::(nat_lit 43,o7 P)::(nat_lit 44,o33 P)::(nat_lit 45,ac6 P)::(nat_lit 46,o35 P)::(nat_lit 49,o38 P)::(nat_lit 56,o7 P)::(nat_lit 58,o43 P)::(nat_lit 59,o7 P)::(nat_lit 61,o45 P)::(nat_lit 62,o46 P)::(nat_lit 63,o7 P)::(nat_lit 64,o47 P)::(nat_lit 65,o48 P)::(nat_lit 68,o38 P)::(nat_lit 75,o7 P)::(nat_lit 77,o55 P)::(nat_lit 78,o7 P)::(nat_lit 80,o57 P)::(nat_lit 81,o58 P)::(nat_lit 82,o7 P)::(nat_lit 83,o59 P)::(nat_lit 84,o60 P)::(nat_lit 87,o38 P)::(nat_lit 94,o7 P)::(nat_lit 96,o67 P)::(nat_lit 97,o7 P)::(nat_lit 99,o69 P)::(nat_lit 100,o70 P)::(nat_lit 101,o7 P)::(nat_lit 102,o71 P)::(nat_lit 103,o72 P)::(nat_lit 106,o38 P)::(nat_lit 113,o7 P)::(nat_lit 115,o79 P)::(nat_lit 116,o7 P)::(nat_lit 118,o81 P)::(nat_lit 119,o82 P)::(nat_lit 120,o7 P)::(nat_lit 121,o83 P)::(nat_lit 122,o84 P)::(nat_lit 125,o38 P)::(nat_lit 132,o7 P)::(nat_lit 134,o91 P)::(nat_lit 135,o7 P)::(nat_lit 137,o93 P)::(nat_lit 138,o94 P)::(nat_lit 139,o7 P)::(nat_lit 140,o95 P)::(nat_lit 141,o96 P)::(nat_lit 144,o38 P)::(nat_lit 151,o7 P)::(nat_lit 153,acW P)::(nat_lit 154,o7 P)::(nat_lit 156,acX P)::(nat_lit 157,acY P)::(nat_lit 158,o7 P)::(nat_lit 159,acZ P)::(nat_lit 160,ac0 P)::(nat_lit 163,o38 P)::(nat_lit 170,o7 P)::(nat_lit 172,ac1 P)::(nat_lit 173,o7 P)::(nat_lit 175,ac2 P)::(nat_lit 176,ac3 P)::(nat_lit 177,o7 P)::(nat_lit 178,ac4 P)::(nat_lit 179,ac5 P)::(nat_lit 182,o38 P)::(nat_lit 189,o7 P)::(nat_lit 191,ac7 P)::(nat_lit 192,o7 P)::(nat_lit 194,ac8 P)::(nat_lit 195,ac9 P)::(nat_lit 196,o7 P)::(nat_lit 197,ada P)::(nat_lit 198,adb P)::(nat_lit 201,o38 P)::(nat_lit 208,o7 P)::(nat_lit 210,ade P)::(nat_lit 211,o7 P)::(nat_lit 213,adf P)::(nat_lit 214,adg P)::(nat_lit 215,o7 P)::(nat_lit 216,adh P)::(nat_lit 217,adi P)::(nat_lit 220,o38 P)::(nat_lit 227,o7 P)::(nat_lit 229,adj P)::(nat_lit 230,o7 P)::(nat_lit 232,adk P)::(nat_lit 233,adl P)::(nat_lit 234,o7 P)::(nat_lit 235,adn P)::(nat_lit 236,ado P)::(nat_lit 239,o7 P)::(nat_lit 241,adp P)::(nat_lit 242,o7 P)::(nat_lit 244,adq P)::(nat_lit 245,ads P)::(nat_lit 246,o7 P)::(nat_lit 248,adt P)::(nat_lit 249,o7 P)::(nat_lit 251,adu P)::(nat_lit 252,adv P)::(nat_lit 253,o7 P)::(nat_lit 255,adw P)::(nat_lit 256,o7 P)::(nat_lit 258,adx P)::(nat_lit 259,ady P)::(nat_lit 260,o7 P)::(nat_lit 262,adz P)::(nat_lit 263,o7 P)::(nat_lit 265,adA P)::(nat_lit 266,adB P)::(nat_lit 267,o7 P)::(nat_lit 269,adC P)::(nat_lit 270,o7 P)::(nat_lit 272,adD P)::(nat_lit 273,adE P)::(nat_lit 274,o7 P)::(nat_lit 276,adF P)::(nat_lit 277,o7 P)::(nat_lit 279,adG P)::(nat_lit 280,adH P)::(nat_lit 281,o7 P)::(nat_lit 283,adI P)::(nat_lit 284,o7 P)::(nat_lit 286,adJ P)::(nat_lit 287,adK P)::(nat_lit 288,o7 P)::(nat_lit 290,adL P)::(nat_lit 291,o7 P)::(nat_lit 293,adM P)::(nat_lit 294,adN P)::(nat_lit 295,o7 P)::(nat_lit 297,adO P)::(nat_lit 298,o7 P)::(nat_lit 300,adP P)::(nat_lit 301,adQ P)::(nat_lit 302,o7 P)::(nat_lit 305,adR P)::(nat_lit 306,adS P)::(nat_lit 307,o7 P)::(nat_lit 309,adT P)::(nat_lit 310,o7 P)::(nat_lit 312,adU P)::(nat_lit 313,adV P)::(nat_lit 314,o7 P)::(nat_lit 316,adW P)::(nat_lit 317,o7 P)::(nat_lit 319,adX P)::(nat_lit 320,adY P)::(nat_lit 321,o7 P)::(nat_lit 323,adZ P)::(nat_lit 324,o7 P)::(nat_lit 326,ad0 P)::(nat_lit 327,ad1 P)::(nat_lit 328,o7 P)::(nat_lit 330,ad2 P)::(nat_lit 331,o7 P)::(nat_lit 333,ad3 P)::(nat_lit 334,ad4 P)::(nat_lit 335,o7 P)::(nat_lit 337,ad5 P)::(nat_lit 338,o7 P)::(nat_lit 340,ad6 P)::(nat_lit 341,ad7 P)::(nat_lit 342,o7 P)::(nat_lit 344,ad8 P)::(nat_lit 345,o7 P)::(nat_lit 347,ad9 P)::(nat_lit 348,aea P)::(nat_lit 349,o7 P)::(nat_lit 351,aeb P)::(nat_lit 352,o7 P)::(nat_lit 354,aec P)::(nat_lit 355,aed P)::(nat_lit 356,o7 P)::(nat_lit 359,aee P)::(nat_lit 360,aef P)::(nat_lit 361,o7 P)::(nat_lit 363,aeg P)::(nat_lit 364,o7 P)::(nat_lit 366,aeh P)::(nat_lit 367,aei P)::(nat_lit 368,o7 P)::(nat_lit 371,aej P)::(nat_lit 372,aek P)::(nat_lit 373,o7 P)::(nat_lit 375,ael P)::(nat_lit 376,o7 P)::(nat_lit 378,aem P)::(nat_lit 379,aen P)::(nat_lit 380,o7 P)::(nat_lit 382,aeo P)::(nat_lit 383,o7 P)::(nat_lit 385,aep P)::(nat_lit 386,aeq P)::(nat_lit 387,o7 P)::(nat_lit 389,aer P)::(nat_lit 390,o7 P)::(nat_lit 392,aes P)::(nat_lit 393,aet P)::(nat_lit 394,o7 P)::(nat_lit 396,aeu P)::(nat_lit 397,o7 P)::(nat_lit 399,aev P)::(nat_lit 400,aew P)::(nat_lit 401,o7 P)::(nat_lit 403,aex P)::(nat_lit 404,o7 P)::(nat_lit 406,aey P)::(nat_lit 407,aez P)::(nat_lit 415,o7 P)::(nat_lit 417,aeA P)::(nat_lit 418,o7 P)::(nat_lit 420,aeB P)::(nat_lit 421,aeC P)::(nat_lit 422,o7 P)::(nat_lit 424,aeD P)::(nat_lit 425,o7 P)::(nat_lit 427,aeE P)::(nat_lit 428,aeF P)::(nat_lit 429,o7 P)::(nat_lit 431,aeG P)::(nat_lit 432,o7 P)::(nat_lit 434,aeH P)::(nat_lit 435,aeI P)::(nat_lit 436,o7 P)::(nat_lit 438,aeJ P)::(nat_lit 439,o7 P)::(nat_lit 441,aeK P)::(nat_lit 442,aeL P)::(nat_lit 443,o7 P)::(nat_lit 445,aeM P)::(nat_lit 446,o7 P)::(nat_lit 448,aeN P)::(nat_lit 449,aeO P)::(nat_lit 450,o7 P)::(nat_lit 452,aeP P)::(nat_lit 453,o7 P)::(nat_lit 455,aeQ P)::(nat_lit 456,aeR P)::(nat_lit 457,o7 P)::(nat_lit 459,aeS P)::(nat_lit 460,o7 P)::(nat_lit 462,aeT P)::(nat_lit 463,aeU P)::(nat_lit 464,o7 P)::(nat_lit 466,aeV P)::(nat_lit 467,o7 P)::(nat_lit 469,aeW P)::(nat_lit 470,aeX P)::(nat_lit 471,o7 P)::(nat_lit 473,aeY P)::(nat_lit 474,o7 P)::(nat_lit 476,aeZ P)::(nat_lit 477,ae0 P)::(nat_lit 478,o7 P)::(nat_lit 480,ae1 P)::(nat_lit 481,o7 P)::(nat_lit 483,ae2 P)::(nat_lit 484,ae3 P)::(nat_lit 485,ae4 P)::(nat_lit 486,ae5 P)::(nat_lit 487,ae6 P)::(nat_lit 488,ae7 P)::(nat_lit 489,ae8 P)::(nat_lit 499,o7 P)::(nat_lit 501,ae9 P)::(nat_lit 502,o7 P)::(nat_lit 504,afa P)::(nat_lit 505,afb P)::(nat_lit 506,o7 P)::(nat_lit 508,afc P)::(nat_lit 509,o7 P)::(nat_lit 511,afd P)::(nat_lit 512,afe P)::(nat_lit 513,o7 P)::(nat_lit 515,aff P)::(nat_lit 516,o7 P)::(nat_lit 518,afg P)::(nat_lit 519,afi P)::(nat_lit 520,o7 P)::(nat_lit 522,afj P)::(nat_lit 523,o7 P)::(nat_lit 525,afk P)::(nat_lit 526,afm P)::(nat_lit 527,o7 P)::(nat_lit 529,afn P)::(nat_lit 530,o7 P)::(nat_lit 532,afo P)::(nat_lit 533,afp P)::(nat_lit 534,o7 P)::(nat_lit 536,afq P)::(nat_lit 537,o7 P)::(nat_lit 539,afr P)::(nat_lit 540,afs P)::(nat_lit 541,o7 P)::(nat_lit 543,aft P)::(nat_lit 544,o7 P)::(nat_lit 546,afu P)::(nat_lit 547,afv P)::(nat_lit 548,afw P)::(nat_lit 549,afx P)::(nat_lit 550,afy P)::(nat_lit 551,afz P)::(nat_lit 552,afA P)::(nat_lit 555,o7 P)::(nat_lit 557,afB P)::(nat_lit 558,o7 P)::(nat_lit 560,afC P)::(nat_lit 561,afD P)::(nat_lit 569,o7 P)::(nat_lit 571,afE P)::(nat_lit 572,o7 P)::(nat_lit 574,afF P)::(nat_lit 575,afG P)::(nat_lit 576,o7 P)::(nat_lit 578,afH P)::(nat_lit 579,o7 P)::(nat_lit 581,afI P)::(nat_lit 582,afJ P)::(nat_lit 583,o7 P)::(nat_lit 585,afK P)::(nat_lit 586,o7 P)::(nat_lit 588,afL P)::(nat_lit 589,afM P)::(nat_lit 590,o7 P)::(nat_lit 592,afN P)::(nat_lit 593,o7 P)::(nat_lit 595,afO P)::(nat_lit 596,afP P)::(nat_lit 597,o7 P)::(nat_lit 600,afQ P)::(nat_lit 601,afR P)::(nat_lit 602,afS P)::(nat_lit 603,afT P)::(nat_lit 604,afU P)::(nat_lit 605,afV P)::(nat_lit 606,afW P)::(nat_lit 616,o7 P)::(nat_lit 618,afX P)::(nat_lit 619,o7 P)::(nat_lit 621,afY P)::(nat_lit 622,afZ P)::(nat_lit 623,o7 P)::(nat_lit 625,af0 P)::(nat_lit 626,o7 P)::(nat_lit 628,af1 P)::(nat_lit 629,af2 P)::(nat_lit 630,o7 P)::(nat_lit 632,af3 P)::(nat_lit 633,o7 P)::(nat_lit 635,af4 P)::(nat_lit 636,af5 P)::(nat_lit 637,o7 P)::(nat_lit 639,af6 P)::(nat_lit 640,o7 P)::(nat_lit 642,af7 P)::(nat_lit 643,af8 P)::(nat_lit 644,o7 P)::(nat_lit 646,af9 P)::(nat_lit 647,o7 P)::(nat_lit 649,aga P)::(nat_lit 650,agb P)::(nat_lit 651,o7 P)::(nat_lit 653,agc P)::(nat_lit 654,o7 P)::(nat_lit 656,agd P)::(nat_lit 657,age P)::(nat_lit 658,o7 P)::(nat_lit 660,agf P)::(nat_lit 661,o7 P)::(nat_lit 663,agg P)::(nat_lit 664,agh P)::(nat_lit 665,o7 P)::(nat_lit 667,agi P)::(nat_lit 668,o7 P)::(nat_lit 670,agj P)::(nat_lit 671,agk P)::(nat_lit 672,o7 P)::(nat_lit 674,agl P)::(nat_lit 675,o7 P)::(nat_lit 677,agm P)::(nat_lit 678,agn P)::(nat_lit 679,o7 P)::(nat_lit 681,ago P)::(nat_lit 682,o7 P)::(nat_lit 684,agp P)::(nat_lit 685,agq P)::(nat_lit 686,o7 P)::(nat_lit 689,agr P)::(nat_lit 690,ags P)::(nat_lit 691,o7 P)::(nat_lit 693,agt P)::(nat_lit 694,o7 P)::(nat_lit 696,agu P)::(nat_lit 697,agv P)::(nat_lit 698,o7 P)::(nat_lit 700,agw P)::(nat_lit 701,o7 P)::(nat_lit 703,agx P)::(nat_lit 704,agy P)::(nat_lit 705,o7 P)::(nat_lit 707,agz P)::(nat_lit 708,o7 P)::(nat_lit 710,agA P)::(nat_lit 711,agB P)::(nat_lit 712,o7 P)::(nat_lit 714,agC P)::(nat_lit 715,o7 P)::(nat_lit 717,agD P)::(nat_lit 718,agE P)::(nat_lit 719,o7 P)::(nat_lit 722,agF P)::(nat_lit 723,agG P)::(nat_lit 724,o7 P)::(nat_lit 727,agH P)::(nat_lit 728,agI P)::(nat_lit 729,agJ P)::(nat_lit 730,agK P)::(nat_lit 731,agL P)::(nat_lit 732,agM P)::(nat_lit 733,agN P)::(nat_lit 736,o7 P)::(nat_lit 738,agO P)::(nat_lit 739,o7 P)::(nat_lit 741,agP P)::(nat_lit 742,agQ P)::(nat_lit 743,agR P)::(nat_lit 750,o7 P)::(nat_lit 752,agS P)::(nat_lit 753,o7 P)::(nat_lit 755,agT P)::(nat_lit 756,agU P)::(nat_lit 757,o7 P)::(nat_lit 759,agV P)::(nat_lit 760,o7 P)::(nat_lit 762,agW P)::(nat_lit 763,agX P)::(nat_lit 764,o7 P)::(nat_lit 766,agY P)::(nat_lit 767,o7 P)::(nat_lit 769,agZ P)::(nat_lit 770,ag0 P)::(nat_lit 771,o7 P)::(nat_lit 773,ag1 P)::(nat_lit 774,o7 P)::(nat_lit 776,ag2 P)::(nat_lit 777,ag3 P)::(nat_lit 778,o7 P)::(nat_lit 780,ag4 P)::(nat_lit 781,o7 P)::(nat_lit 783,ag5 P)::(nat_lit 784,ag6 P)::(nat_lit 785,o7 P)::(nat_lit 787,ag7 P)::(nat_lit 788,o7 P)::(nat_lit 790,ag8 P)::(nat_lit 791,ag9 P)::(nat_lit 792,o7 P)::(nat_lit 794,aha P)::(nat_lit 795,o7 P)::(nat_lit 797,ahb P)::(nat_lit 798,ahc P)::(nat_lit 799,o7 P)::(nat_lit 801,ahe P)::(nat_lit 802,o7 P)::(nat_lit 804,ahf P)::(nat_lit 805,ahg P)::(nat_lit 806,o7 P)::(nat_lit 808,ahh P)::(nat_lit 809,o7 P)::(nat_lit 811,ahi P)::(nat_lit 812,ahj P)::(nat_lit 813,o7 P)::(nat_lit 815,ahk P)::(nat_lit 816,o7 P)::(nat_lit 818,ahm P)::(nat_lit 819,ahn P)::(nat_lit 820,o7 P)::(nat_lit 822,aho P)::(nat_lit 823,o7 P)::(nat_lit 825,ahp P)::(nat_lit 826,ahq P)::(nat_lit 827,o7 P)::(nat_lit 829,ahr P)::(nat_lit 830,o7 P)::(nat_lit 832,ahs P)::(nat_lit 833,aht P)::(nat_lit 834,o7 P)::(nat_lit 836,ahu P)::(nat_lit 837,o7 P)::(nat_lit 839,ahv P)::(nat_lit 840,ahw P)::(nat_lit 841,o7 P)::(nat_lit 843,ahx P)::(nat_lit 844,o7 P)::(nat_lit 846,ahy P)::(nat_lit 847,ahz P)::(nat_lit 848,o7 P)::(nat_lit 850,ahA P)::(nat_lit 851,o7 P)::(nat_lit 853,ahB P)::(nat_lit 854,ahC P)::(nat_lit 855,o7 P)::(nat_lit 857,ahD P)::(nat_lit 858,o7 P)::(nat_lit 860,ahE P)::(nat_lit 861,ahF P)::(nat_lit 862,o7 P)::(nat_lit 864,ahG P)::(nat_lit 865,o7 P)::(nat_lit 867,ahH P)::(nat_lit 868,ahI P)::(nat_lit 869,o7 P)::(nat_lit 871,ahJ P)::(nat_lit 872,o7 P)::(nat_lit 874,ahK P)::(nat_lit 875,ahL P)::(nat_lit 876,o7 P)::(nat_lit 878,ahM P)::(nat_lit 879,o7 P)::(nat_lit 881,ahN P)::(nat_lit 882,ahO P)::(nat_lit 883,o7 P)::(nat_lit 885,ahP P)::(nat_lit 886,o7 P)::(nat_lit 888,ahQ P)::(nat_lit 889,ahR P)::(nat_lit 890,o7 P)::(nat_lit 892,ahS P)::(nat_lit 893,o7 P)::(nat_lit 895,ahT P)::(nat_lit 896,ahU P)::(nat_lit 897,o7 P)::(nat_lit 899,ahV P)::(nat_lit 900,o7 P)::(nat_lit 902,ahW P)::(nat_lit 903,ahX P)::(nat_lit 904,o7 P)::(nat_lit 906,ahY P)::(nat_lit 907,o7 P)::(nat_lit 909,ahZ P)::(nat_lit 910,ah0 P)::(nat_lit 911,ah1 P)::(nat_lit 912,ah2 P)::(nat_lit 913,ah3 P)::(nat_lit 923,o7 P)::(nat_lit 925,ah5 P)::(nat_lit 926,o7 P)::(nat_lit 928,ah6 P)::(nat_lit 929,ah7 P)::(nat_lit 930,o7 P)::(nat_lit 932,ah8 P)::(nat_lit 933,o7 P)::(nat_lit 935,ah9 P)::(nat_lit 936,aia P)::(nat_lit 937,o7 P)::(nat_lit 939,aib P)::(nat_lit 940,o7 P)::(nat_lit 942,aic P)::(nat_lit 943,aid P)::(nat_lit 944,o7 P)::(nat_lit 946,aie P)::(nat_lit 947,o7 P)::(nat_lit 949,aif P)::(nat_lit 950,aih P)::(nat_lit 951,o7 P)::(nat_lit 953,aii P)::(nat_lit 954,o7 P)::(nat_lit 956,aij P)::(nat_lit 957,aik P)::(nat_lit 958,o7 P)::(nat_lit 960,ail P)::(nat_lit 961,o7 P)::(nat_lit 963,aim P)::(nat_lit 964,ain P)::(nat_lit 965,aio P)::(nat_lit 966,aip P)::(nat_lit 967,aiq P)::(nat_lit 968,air P)::(nat_lit 969,ais P)::(nat_lit 972,o7 P)::(nat_lit 974,ait P)::(nat_lit 975,o7 P)::(nat_lit 977,aiu P)::(nat_lit 978,aiv P)::(nat_lit 979,o7 P)::(nat_lit 981,aiw P)::(nat_lit 982,o7 P)::(nat_lit 984,aix P)::(nat_lit 985,aiy P)::(nat_lit 986,o7 P)::(nat_lit 988,aiz P)::(nat_lit 989,o7 P)::(nat_lit 991,aiA P)::(nat_lit 992,aiB P)::(nat_lit 993,o7 P)::(nat_lit 995,aiC P)::(nat_lit 996,o7 P)::(nat_lit 998,aiD P)::(nat_lit 999,aiE P)::(nat_lit 1000,o7 P)::(nat_lit 1002,aiF P)::(nat_lit 1003,o7 P)::(nat_lit 1005,aiG P)::(nat_lit 1006,aiH P)::(nat_lit 1007,o7 P)::(nat_lit 1009,aiI P)::(nat_lit 1010,o7 P)::(nat_lit 1012,aiJ P)::(nat_lit 1013,aiK P)::(nat_lit 1014,o7 P)::(nat_lit 1016,aiL P)::(nat_lit 1017,o7 P)::(nat_lit 1019,aiM P)::(nat_lit 1020,aiN P)::(nat_lit 1021,o7 P)::(nat_lit 1023,aiO P)::(nat_lit 1024,o7 P)::(nat_lit 1026,aiP P)::(nat_lit 1027,aiQ P)::(nat_lit 1028,o7 P)::(nat_lit 1031,aiR P)::(nat_lit 1032,aiS P)::(nat_lit 1033,o7 P)::(nat_lit 1035,aiT P)::(nat_lit 1036,o7 P)::(nat_lit 1038,aiU P)::(nat_lit 1039,aiV P)::(nat_lit 1040,o7 P)::(nat_lit 1042,aiW P)::(nat_lit 1043,o7 P)::(nat_lit 1045,aiX P)::(nat_lit 1046,aiY P)::(nat_lit 1047,o7 P)::(nat_lit 1049,aiZ P)::(nat_lit 1050,o7 P)::(nat_lit 1052,ai0 P)::(nat_lit 1053,ai1 P)::(nat_lit 1054,o7 P)::(nat_lit 1056,ai2 P)::(nat_lit 1057,o7 P)::(nat_lit 1059,ai3 P)::(nat_lit 1060,ai4 P)::(nat_lit 1061,o7 P)::(nat_lit 1063,ai5 P)::(nat_lit 1064,o7 P)::(nat_lit 1066,ai6 P)::(nat_lit 1067,ai7 P)::(nat_lit 1068,o7 P)::(nat_lit 1070,ai8 P)::(nat_lit 1071,o7 P)::(nat_lit 1073,ai9 P)::(nat_lit 1074,aja P)::(nat_lit 1075,o7 P)::(nat_lit 1077,ajb P)::(nat_lit 1078,o7 P)::(nat_lit 1080,ajc P)::(nat_lit 1081,ajd P)::(nat_lit 1082,o7 P)::(nat_lit 1084,aje P)::(nat_lit 1085,o7 P)::(nat_lit 1087,ajf P)::(nat_lit 1088,ajg P)::(nat_lit 1089,o7 P)::(nat_lit 1091,ajh P)::(nat_lit 1092,o7 P)::(nat_lit 1094,aji P)::(nat_lit 1095,ajj P)::[]
def hAs:List Addr:=[2,3,15,17,18,20,21,22,29,31,32,34,35,36,38,39,41,42,43,44,45,46,49,56,58,59,61,62,63,64,65,68,75,77,78,80,81,82,83,84,87,94,96,97,99,100,101,102,103,106,113,115,116,118,119,120,121,122,125,132,134,135,137,138,139,140,141,144,151,153,154,156,157,158,159,160,163,170,172,173,175,176,177,178,179,182,189,191,192,194,195,196,197,198,201,208,210,211,213,214,215,216,217,220,227,229,230,232,233,234,235,236,239,241,242,244,245,246,248,249,251,252,253,255,256,258,259,260,262,263,265,266,267,269,270,272,273,274,276,277,279,280,281,283,284,286,287,288,290,291,293,294,295,297,298,300,301,302,305,306,307,309,310,312,313,314,316,317,319,320,321,323,324,326,327,328,330,331,333,334,335,337,338,340,341,342,344,345,347,348,349,351,352,354,355,356,359,360,361,363,364,366,367,368,371,372,373,375,376,378,379,380,382,383,385,386,387,389,390,392,393,394,396,397,399,400,401,403,404,406,407,415,417,418,420,421,422,424,425,427,428,429,431,432,434,435,436,438,439,441,442,443,445,446,448,449,450,452,453,455,456,457,459,460,462,463,464,466,467,469,470,471,473,474,476,477,478,480,481,483,484,485,486,487,488,489,499,501,502,504,505,506,508,509,511,512,513,515,516,518,519,520,522,523,525,526,527,529,530,532,533,534,536,537,539,540,541,543,544,546,547,548,549,550,551,552,555,557,558,560,561,569,571,572,574,575,576,578,579,581,582,583,585,586,588,589,590,592,593,595,596,597,600,601,602,603,604,605,606,616,618,619,621,622,623,625,626,628,629,630,632,633,635,636,637,639,640,642,643,644,646,647,649,650,651,653,654,656,657,658,660,661,663,664,665,667,668,670,671,672,674,675,677,678,679,681,682,684,685,686,689,690,691,693,694,696,697,698,700,701,703,704,705,707,708,710,711,712,714,715,717,718,719,722,723,724,727,728,729,730,731,732,733,736,738,739,741,742,743,750,752,753,755,756,757,759,760,762,763,764,766,767,769,770,771,773,774,776,777,778,780,781,783,784,785,787,788,790,791,792,794,795,797,798,799,801,802,804,805,806,808,809,811,812,813,815,816,818,819,820,822,823,825,826,827,829,830,832,833,834,836,837,839,840,841,843,844,846,847,848,850,851,853,854,855,857,858,860,861,862,864,865,867,868,869,871,872,874,875,876,878,879,881,882,883,885,886,888,889,890,892,893,895,896,897,899,900,902,903,904,906,907,909,910,911,912,913,923,925,926,928,929,930,932,933,935,936,937,939,940,942,943,944,946,947,949,950,951,953,954,956,957,958,960,961,963,964,965,966,967,968,969,972,974,975,977,978,979,981,982,984,985,986,988,989,991,992,993,995,996,998,999,1000,1002,1003,1005,1006,1007,1009,1010,1012,1013,1014,1016,1017,1019,1020,1021,1023,1024,1026,1027,1028,1031,1032,1033,1035,1036,1038,1039,1040,1042,1043,1045,1046,1047,1049,1050,1052,1053,1054,1056,1057,1059,1060,1061,1063,1064,1066,1067,1068,1070,1071,1073,1074,1075,1077,1078,1080,1081,1082,1084,1085,1087,1088,1089,1091,1092,1094,1095]
theorem sE(P:Params):hAs=(hK P).map (·.1):=rfl
def hQ:Program:={9e9 with main:={(9e9).main with body:=[top 0,top 2,top 3,top 4,top 5,top 6,top 7,top 8,top 9,top 10,top 11,top 12,top 14,top 15,top 16,top 17,top 18,top 19,top 20,top 21,top 22,top 23,top 24,top 25,top 26,top 27,top 28,top 30,top 31,top 32,top 33,top 34,top 35,top 36,top 38,top 39,top 40,top 41,top 42,top 43,top 44,top 45,top 46,top 48,top 50,top 51,top 53,top 55,top 57,top 58,top 60,top 62,top 64,top 65,top 66,top 67,top 68,top 69,top 70,top 71,top 72,top 73,top 74,top 75,top 76,top 77,top 78,top 79,top 80,top 81]}}
def hLo:List Str:=[]
theorem ab7(w:World):(fencedOpening treeTable 9e9 w 15396).map (λs=>(s.heap,s.gens,s.drawn,s.toks))=some (boot_heap w.params,#[],boot_drawn,boot_toks):=by kernel_rfl
theorem ab8(w:World):((boot_heap w.params).isNs mainGlobals&&(#[]:Array GenState).size == 0,(boot_heap w.params).objs.size,(boot_heap w.params).nsMap mainGlobals "__annotations__")=(true,11,((.some (.ref 6)):Option Value)):=by kernel_rfl
abbrev hXt(s:Shared):Bool:=xlAt hQ [] s&&recOk (RowW.records (OpenRow.toRowW (OpenLaw.row PySem.Challenge.rw_stillheap_k38_whole_what_hands_tell))) s
noncomputable abbrev hFH(w:World):Heap:=(absHeap (hTf w.params) 1096 9e8)
noncomputable abbrev hFS(w:World)(os:OsState):Shared:=⟨hFH w,#[],⟨0,0,0,0⟩,1605,os⟩
theorem hK1(w:World)(os:OsState):staticsOk (importedModules (9e9).main.body) (boot_heap w.params) (hFH w)=true:=by kernel_rfl
theorem hK2(w:World)(os:OsState):namesBound 9e9 (hFH w)=true:=by kernel_rfl
theorem hK3(w:World)(os:OsState):gensDone (hFS w os)=true:=by kernel_rfl
theorem hK4(w:World)(os:OsState):laidKept (boot_heap w.params) (hFH w)=true:=by kernel_rfl
theorem hK5(w:World)(os:OsState):openSeen hQ hLo (importedModules (9e9).main.body) hXt true (hFS w os)=openGood hQ hLo:=by kernel_rfl
theorem hK6(w:World)(os:OsState):Hook.obs (kHook hK hAs sE) (hFS w os)=Hook.val (kHook hK hAs sE) w:=by kernel_rfl
theorem ZD(w:World):(λos:OsState=>((staticsOk (importedModules (9e9).main.body) (boot_heap w.params) (hFH w)&&namesBound 9e9 (hFH w)&&gensDone (hFS w os)&&laidKept (boot_heap w.params) (hFH w)),
  openSeen hQ hLo (importedModules (9e9).main.body) hXt true (hFS w os),Hook.obs (kHook hK hAs sE) (hFS w os)))=λ_=>(true,openGood hQ hLo,Hook.val (kHook hK hAs sE) w):=by
 funext os
 rw[hK1 w os,hK2 w os,hK3 w os,hK4 w os,hK5 w os,hK6 w os];rfl
theorem ab9:LeftO 9e9 hQ hLo hXt (Hook.obs (kHook hK hAs sE)) (Hook.val (kHook hK hAs sE)) 15396 :=
 LeftO.of_pieces (H₁:=λP=>absHeap (hTf P) 1096 9e8) ab7 ab8 ana (by rfl) ZD
end
end K38
end
section
namespace L2
open PySem PySem.Spec PyProof.Rows
section
variable{κ:Type}[DecidableEq κ]
noncomputable def ie(kvs:List (κ×V))(k:κ):Option V:=(kvs.find? λkv=>decide (kv.1=k)).map (·.2)
noncomputable def putK(kvs:List (κ×V))(k:κ)(v:V):List (κ×V) :=
  if(kvs.any λkv=>decide (kv.1=k))=true then kvs.map (λkv=>if kv.1=k then(kv.1,v) else kv) else kvs++[(k,v)]
noncomputable def vS(kvs:List (κ×V))(k:κ):List (κ×V):=kvs.filter λkv=>decide (kv.1≠k)
theorem fK{p:κ×V}{r:List (κ×V)}{k:κ}(e:p.1=k):ie (p::r) k=some p.2:=by simp[ie,apm,e]
theorem fe{p:κ×V}{r:List (κ×V)}{k:κ}(e:¬p.1=k):ie (p::r) k=ie r k:=by simp[ie,apm,e]
theorem uk(k:κ):∀ kvs:List (κ×V),(kvs.any λkv=>decide (kv.1=k))=(ie kvs k).isSome
  | []=>rfl
  | p::r=>by
    rw[apz];by_cases e:p.1=k
    · simp only[fK e,decide_eq_true e,Bool.true_or,Option.isSome_some]
    · rw[fe e,decide_eq_false e,Bool.false_or];exact uk k r
theorem Qc(k j:κ)(y:V):∀ kvs:List (κ×V),ie (kvs.map λkv=>if kv.1=k then(kv.1,y) else kv) j=(ie kvs j).map λx=>if j=k then y else x
  | []=>rfl
  | p::r=>by
    have ih:=Qc k j y r;rw[aov];by_cases h:p.1=k
    · rw[if_pos h]
      by_cases e:p.1=j
      · rw[fK (p:=(p.1,y)) e,fK e,ao2,if_pos (e.symm.trans h)]
      · rw[fe (p:=(p.1,y)) e,fe e,ih]
    · rw[if_neg h]
      by_cases e:p.1=j
      · rw[fK (p:=p) e,fK e,ao2,if_neg (λz=>h (e.trans z))]
      · rw[fe (p:=p) e,fe e,ih]
theorem Lo(k j:κ)(y:V):∀ kvs:List (κ×V),ie kvs k=none->ie (kvs++[(k,y)]) j=if j=k then some y else ie kvs j
  | [],_=>by
    by_cases e:k=j
    · rw[if_pos e.symm];exact fK (p:=(k,y)) e
    · rw[if_neg (λz=>e z.symm)];exact fe (p:=(k,y)) e
  | p::r,hn=>by
    rw[List.cons_append];have hk:¬p.1=k:=λz=>by rw[fK z]at hn;cases hn
    rw[fe hk]at hn;have ih:=Lo k j y r hn;by_cases e:p.1=j
    · rw[fK e,fK e,if_neg (λz=>hk (e.trans z))]
    · rw[fe e,fe e,ih]
theorem Qd(kvs:List (κ×V))(k j:κ)(y:V):ie (putK kvs k y) j=if j=k then some y else ie kvs j:=by
  unfold putK;by_cases a:(kvs.any λkv=>decide (kv.1=k))=true
  · rw[if_pos a,Qc]
    rw[uk]at a;by_cases e:j=k
    · obtain⟨x,hx⟩:=apw.mp a
      rw[if_pos e,e,hx,ao2,if_pos rfl]
    · rw[if_neg e]
      cases ie kvs j with
      | none=>rfl
      | some x=>rw[ao2,if_neg e]
  · rw[if_neg a]
    refine Lo k j y kvs ?_;rw[uk]at a;cases q:ie kvs k with
    | none=>rfl
    | some x=>rw[q]at a;exact(a rfl).elim
theorem Fu(kvs:List (κ×V))(k:κ)(v:V):(putK kvs k v).length<=kvs.length+1:=by
  unfold putK;split
  · rw[an6];omega
  · rw[aof,aoF,List.length_nil];omega
theorem xU{kvs:List (κ×V)}{k:κ}(v:V)(h:ie kvs k=none):putK kvs k v=kvs++[(k,v)]:=by
  unfold putK;rw[uk,h];exact if_neg 2e1
theorem AO.qR{o:Option V}{u:Option Value}(r:AO o u):o.isSome=u.isSome:=by
  cases o with
  | none=>cases u with
    | none=>rfl
    | some _=>exact(show False from r).elim
  | some _=>cases u with
    | none=>exact(show False from r).elim
    | some _=>rfl
theorem AO.getD{o:Option V}{u:Option Value}{d:V}{d':Value}(r:AO o u)(rd:RelV d d'):RelV (o.getD d) (u.getD d'):=by
  cases o with
  | none=>cases u with
    | none=>exact rd
    | some _=>exact(show False from r).elim
  | some _=>cases u with
    | none=>exact(show False from r).elim
    | some _=>exact r
theorem KV.val{kvs:List (κ×V)}{vs:List (κ×Value)}(r:KV kvs vs)(k:κ):AO (ie kvs k) (valueAt vs k):=by
  unfold KV at r;induction r with
  | nil=>exact True.intro
  | @cons p q ps qs h t ih =>
    obtain⟨h1,h2⟩:=h;by_cases e:p.1=k
    · have e':q.1=k:=h1.symm.trans e
      have b:valueAt (q::qs) k=some q.2:=(by simp[valueAt,apm,e']);rw[fK e,b];exact h2
    · have e':¬q.1=k:=λz=>e (h1.trans z)
      have b:valueAt (q::qs) k=valueAt qs k:=(by simp[valueAt,apm,e']);rw[fe e,b];exact ih
theorem KV.any{kvs:List (κ×V)}{vs:List (κ×Value)}(r:KV kvs vs)(k:κ):(kvs.any λkv=>decide (kv.1=k))=vs.any λkv=>decide (kv.1=k):=by
  unfold KV at r;induction r with
  | nil=>rfl
  | cons h t ih=>rw[apz,apz,ih,h.1]
theorem KV.abJ{kvs:List (κ×V)}{vs:List (κ×Value)}(r:KV kvs vs)(k:κ){y:V}{u:Value}(ry:RelV y u) :
    KV (kvs.map λkv=>if kv.1=k then(kv.1,y) else kv) (vs.map λkv=>if kv.1=k then(kv.1,u) else kv):=by
  unfold KV at r ⊢;induction r with
  | nil=>exact .nil
  | @cons p q ps qs h t ih =>
    rw[aov,aov];refine .cons ?_ ih;obtain⟨h1,h2⟩:=h;by_cases e:p.1=k
    · rw[if_pos e,if_pos (h1.symm.trans e)];exact⟨h1,ry⟩
    · rw[if_neg e,if_neg (λz=>e (h1.trans z))];exact⟨h1,h2⟩
theorem KV.put{kvs:List (κ×V)}{vs:List (κ×Value)}(r:KV kvs vs)(k:κ){y:V}{u:Value}(ry:RelV y u):KV (putK kvs k y) (stored vs k u):=by
  unfold putK stored;rw[r.any k];by_cases e:(vs.any λkv=>decide (kv.1=k))=true
  · rw[if_pos e,if_pos e];exact r.abJ k ry
  · rw[if_neg e,if_neg e];exact Paired.snoc r ⟨rfl,ry⟩
theorem KV.drop{kvs:List (κ×V)}{vs:List (κ×Value)}(r:KV kvs vs)(k:κ):KV (vS kvs k) (without vs k):=by
  unfold KV at r ⊢;unfold vS without;induction r with
  | nil=>exact .nil
  | @cons p q ps qs h t ih =>
    obtain⟨h1,h2⟩:=h;rw[List.filter_cons,List.filter_cons];by_cases e:p.1=k
    · have a:¬decide (p.1≠k)=true:=by simp[e]
      have b:¬decide (q.1≠k)=true:=(by simp[h1.symm.trans e]);rw[if_neg a,if_neg b];exact ih
    · have e':¬q.1=k:=λz=>e (h1.trans z)
      have a:decide (p.1≠k)=true:=(by simp[e]);have b:decide (q.1≠k)=true:=(by simp[e']);rw[if_pos a,if_pos b];exact .cons ⟨h1,h2⟩ ih
theorem KV.keys{kvs:List (κ×V)}{vs:List (κ×Value)}(r:KV kvs vs):kvs.map (·.1)=vs.map (·.1):=by
  unfold KV at r;induction r with
  | nil=>rfl
  | cons h t ih=>rw[aov,aov,ih,h.1]
theorem KV.length{kvs:List (κ×V)}{vs:List (κ×Value)}(r:KV kvs vs):kvs.length=vs.length:=apV r
theorem Vh(kvs:List (κ×V))(k:κ):(vS kvs k).length<=kvs.length:=ao6 _ _
end
theorem FV{P:Program}{w:World}{k:Key}{u:Value}(r:RelV (kV k) u):(cA P w).is k u=true:=by
  cases k with
  | inl i=>obtain⟨t,e⟩:=(show ∃ t,u=Value.int i t from r);subst e;exact Oa P w i t
  | inr x=>obtain⟨t,e⟩:=(show ∃ t,u=Value.str x t from r);subst e;exact Ob P w x t
theorem Lp{P:Program}{w:World}:∀ {ks:List Key} {us:List Value},Vals (ks.map kV) us->ItemsAre (cA P w) ks us
  | [],_,r=>by rw[apG]at r;cases r;exact .nil
  | k::ks,_,r=>by
    rw[aov]at r;cases r with
    | cons h t=>exact .cons (FV h) (Lp t)
noncomputable abbrev KT(H:Hp):List (List Key×V)->List (List Key×Addr×Value)->Prop:=Paired λp q=>p.1=q.1/\H q.2.1=some (.tup (p.1.map kV))/\RelV p.2 q.2.2
theorem KT.val{H:Hp}{kvs:List (List Key×V)}{xs:List (List Key×Addr×Value)}(r:KT H kvs xs)(k:List Key):AO (ie kvs k) ((atKey xs k).map (·.2)):=by
  induction r with
  | nil=>exact True.intro
  | @cons p q ps qs h t ih =>
    obtain⟨h1,_,h2⟩:=h;by_cases e:p.1=k
    · have e':q.1=k:=h1.symm.trans e
      have b:atKey (q::qs) k=some q.2:=(by simp[atKey,apm,e']);rw[fK e,b];exact h2
    · have e':¬q.1=k:=λz=>e (h1.trans z)
      have b:atKey (q::qs) k=atKey qs k:=(by simp[atKey,apm,e']);rw[fe e,b];exact ih
theorem KT.abJ{H:Hp}{kvs:List (List Key×V)}{xs:List (List Key×Addr×Value)}(r:KT H kvs xs)(k:List Key){y:V}{u:Value}(ry:RelV y u) :
    KT H (kvs.map λkv=>if kv.1=k then(kv.1,y) else kv) (xs.map (putAt k u)):=by
  induction r with
  | nil=>exact .nil
  | @cons p q ps qs h t ih =>
    rw[aov,aov];refine .cons ?_ ih;obtain⟨h1,h2,h3⟩:=h;unfold putAt;by_cases e:p.1=k
    · rw[if_pos e,if_pos (h1.symm.trans e)];exact⟨h1,h2,ry⟩
    · rw[if_neg e,if_neg (λz=>e (h1.trans z))];exact⟨h1,h2,h3⟩
theorem KT.put{H:Hp}{kvs:List (List Key×V)}{xs:List (List Key×Addr×Value)}(r:KT H kvs xs)(k:List Key){b:Addr}{y:V}{u:Value}(hb:H b=some (.tup (k.map kV)))(ry:RelV y u) :
    KT H (putK kvs k y) (storedH xs k b u):=by
  have e:(kvs.any λkv=>decide (kv.1=k))=(atKey xs k).isSome:=by
    rw[uk,(r.val k).qR,apb]
  unfold putK storedH;rw[e];by_cases q:(atKey xs k).isSome=true
  · rw[if_pos q,if_pos q];exact r.abJ k ry
  · rw[if_neg q,if_neg q];exact Paired.snoc r ⟨rfl,hb,ry⟩
theorem KT.keeps{H H':Hp}{kvs:List (List Key×V)}{xs:List (List Key×Addr×Value)}(r:KT H kvs xs)(ht:∀ b ys,H b=some (.tup ys)->H' b=some (.tup ys)):KT H' kvs xs :=
  Paired.Z6 r λ_ _ z=>⟨z.1,ht _ _ z.2.1,z.2.2⟩
section
variable{P:Program}{w:World}{H:Hp}{h:Heap}{a:Addr}
theorem YS{u:HO}(ok:HOk P w H h)(e:Rd H a u):i7 P w H h a u:=e.ok ok
theorem AQ{kvs:List (Key×V)}(ok:HOk P w H h)(e:Rd H a (.dK kvs)):kvs.length<=sizeLine/\(a == sysModules)=false/\∃ vs,KV kvs vs/\h.DictOf (cA P w) a vs :=
  show i7 P w H h a (.dK kvs) from YS ok e
theorem WZ{kvs:List (Key×V)}(ok:HOk P w H h)(e:H a=some (.dK kvs)):kvs.length<=sizeLine/\(a == sysModules)=false/\∃ vs,KV kvs vs/\h.DictOf (cA P w) a vs:=AQ ok (.inl e)
theorem GX{ks:List Key}(ok:HOk P w H h)(e:H a=some (.tup (ks.map kV))):(tupleKind (cA P w)).is h ks a:=by
  obtain⟨_,its,r,o,h1,h2,n,h3⟩:=(show i7 P w H h a (.tup (ks.map kV)) from ok a _ e);exact⟨o,its.toArray,n,h1,h2,h3,by simpa using Lp r⟩
theorem La{kvs:List (List Key×V)}(ok:HOk P w H h)(e:Rd H a (.dT kvs)):kvs.length<=sizeLine/\(a == sysModules)=false /\
    ∃ xs,KT H kvs xs/\h.DictOfH (tupleKind (cA P w)) a xs:=by
  obtain⟨z,y,xs,r,o,es,ep,h1,h2,h3,h4,h5⟩:=(show i7 P w H h a (.dT kvs) from YS ok e);refine⟨z,y,xs,r,o,es,ep,h1,h2,h3,h4,λx hx=>?_,h5⟩;have all:∀ {l:List (List Key×V)} {m:List (List Key×Addr×Value)},KT H l m->∀ x∈m,(tupleKind (cA P w)).is h x.1 x.2.1:=by
    intro l m q;induction q with
    | nil=>intro x hx;exact nomatch hx
    | @cons p q ps qs hq t ih =>
      intro x hx;rcases aop.mp hx with e|hx
      · subst e
        exact GX ok (by rw[<-hq.1];exact hq.2.1)
      · exact ih x hx
  exact all r x hx
theorem aca{kvs:List (List Key×V)}(ok:HOk P w H h)(e:H a=some (.dT kvs)):kvs.length<=sizeLine/\(a == sysModules)=false /\
    ∃ xs,KT H kvs xs/\h.DictOfH (tupleKind (cA P w)) a xs:=La ok (.inl e)
end
noncomputable def tX(H:Hp)(a:Addr)(y:V)(r:Option V):Prop :=
  (∃ kvs k,Rd H a (.dK kvs)/\y=kV k/\r=ie kvs k)\/∃ kvs k b,Rd H a (.dT kvs)/\y=.ref b/\H b=some (.tup (k.map kV))/\r=ie kvs k
noncomputable def G9(H:Hp)(a:Addr)(y v:V)(H':Hp):Prop :=
  (∃ kvs k,H a=some (.dK kvs)/\y=kV k/\kvs.length<sizeLine/\H'=upd H a (.dK (putK kvs k v))) \/
  ∃ kvs k b,H a=some (.dT kvs)/\y=.ref b/\H b=some (.tup (k.map kV))/\kvs.length<sizeLine/\H'=upd H a (.dT (putK kvs k v))
theorem tX.k{H:Hp}{a:Addr}{kvs:List (Key×V)}{k:Key}(e:H a=some (.dK kvs)):tX H a (kV k) (ie kvs k):=.inl ⟨kvs,k,.inl e,rfl,rfl⟩
theorem G9.k{H:Hp}{a:Addr}{kvs:List (Key×V)}{k:Key}{v:V}(e:H a=some (.dK kvs))(hl:kvs.length<sizeLine):G9 H a (kV k) v (upd H a (.dK (putK kvs k v))):=.inl ⟨kvs,k,e,rfl,hl,rfl⟩
section
variable{X:Cx}{pins:List (Addr×Obj)}{σ:St}{H:Hp}{s:Shared}{a:Addr}{y v:V}{u r:Value}{o:Option V}{A:Around}{E:Value->Shared->Prop}
theorem Inv.big(I:Inv X pins σ H s):sysModules<s.heap.objs.size:=by
  have h:mainGlobals<s.heap.objs.size:=(I.mod.glob.keeps I.bk).lt;exact Nat.lt_trans 2e1 h
theorem T6{Q:Value->Shared->Prop}(hu:A.units+1<cLine)(I:Inv X pins σ H s)(g:tX H a y (some v))(ry:RelV y u)(h:∀ w' s',Inv X pins σ H s'->RelV v w'->Q w' s') :
    wpAny 1e6 A (getItem (.ref a) u) Q E s:=by
  rcases g with⟨kvs,k,e,ey,l⟩|⟨kvs,k,b,e,ey,eb,l⟩
  · subst ey
    obtain⟨z,hd,vs,rel,dd⟩:=AQ I.hok e;obtain⟨w',hw,rw'⟩:=AO.some_of (v:=v) (o:=valueAt vs k) (by rw[l];exact rel.val k);exact wpAny_getItem_of (FV ry) dd.mapOf hw (h w' _ (I.tok _) rw')
  · subst ey
    cases (show u=Value.ref b from ry);obtain⟨z,hd,xs,rel,dd⟩:=La I.hok e;obtain⟨w',hw,rw'⟩:=AO.some_of (v:=v) (o:=(atKey xs k).map (·.2)) (by rw[l];exact rel.val k);obtain⟨p,hp,hp2⟩:=aoo.mp hw;refine wpAny_getItem_heap (tupleKind_room_in1 hu) (GX I.hok eb) dd hp ?_;rw[hp2];exact h w' _ (I.tok _) rw'
theorem anb{Q:Value->Shared->Prop}(hu:A.units+1<cLine)(I:Inv X pins σ H s)(g:tX H a y o)(ry:RelV y u)(h:∀ s',Inv X pins σ H s'->Q (.bool o.isSome) s') :
    wpAny 1e6 A (compareOp .In u (.ref a)) Q E s:=by
  rcases g with⟨kvs,k,e,ey,l⟩|⟨kvs,k,b,e,ey,eb,l⟩
  · subst ey
    obtain⟨z,hd,vs,rel,dd⟩:=AQ I.hok e;refine wpAny_in_of (FV ry) hd dd.mapOf ?_;rw[<-(rel.val k).qR,<-l];exact h _ (I.tok _)
  · subst ey
    cases (show u=Value.ref b from ry);obtain⟨z,hd,xs,rel,dd⟩:=La I.hok e;refine wpAny_in_heap (tupleKind_room_in1 hu) (GX I.hok eb) hd dd ?_;have q:=(rel.val k).qR;rw[apb]at q;rw[<-q,<-l];exact h _ (I.tok _)
theorem XI{Q:Value->Shared->Prop}(hu:A.units+1<cLine)(I:Inv X pins σ H s)(g:tX H a y o)(ry:RelV y u)(h:∀ s',Inv X pins σ H s'->Q (.bool (!o.isSome)) s') :
    wpAny 1e6 A (compareOp .NotIn u (.ref a)) Q E s:=by
  rcases g with⟨kvs,k,e,ey,l⟩|⟨kvs,k,b,e,ey,eb,l⟩
  · subst ey
    obtain⟨z,hd,vs,rel,dd⟩:=AQ I.hok e;refine wpAny_notIn_of (FV ry) hd dd.mapOf ?_;rw[<-(rel.val k).qR,<-l];exact h _ (I.tok _)
  · subst ey
    cases (show u=Value.ref b from ry);obtain⟨z,hd,xs,rel,dd⟩:=La I.hok e;refine wpAny_notIn_heap (tupleKind_room_in1 hu) (GX I.hok eb) hd dd ?_;have q:=(rel.val k).qR;rw[apb]at q;rw[<-q,<-l];exact h _ (I.tok _)
theorem NJ{h':Heap}{t':Nat}{ob:HO}(I:Inv X pins σ H s)(mu:Mut (H a))(hs:Heap.SameBut a s.heap h')(he:∃ q,h'.get? a=some q)(new:i7 X.prog X.w (upd H a ob) h' a ob) :
    Inv X pins σ (upd H a ob) {s with heap:=h',toks:=t'} :=
  I.write (x:=a) (e:=a) mu (.inl rfl) (λb q hb z=>(hs.2 b hb).trans z) he new
theorem Sl{P:Program}{w:World}{H':Hp}{h':Heap}{kvs:List (Key×V)}{vs:List (Key×Value)}(z:kvs.length<=sizeLine)(hd:(a == sysModules)=false)(rel:KV kvs vs)(dd:h'.DictOf (cA P w) a vs) :
    i7 P w H' h' a (.dK kvs):=⟨z,hd,vs,rel,dd⟩
theorem T7{H':Hp}{Q:Unit->Shared->Prop}(hu:A.units+1<cLine)(I:Inv X pins σ H s)(g:G9 H a y v H')(ry:RelV y u)(rv:RelV v r)(h:∀ s',Inv X pins σ H' s'->Q () s') :
    wpAny 1e6 A (setItem (.ref a) u r) Q E s:=by
  rcases g with⟨kvs,k,e,ey,l,eH⟩|⟨kvs,k,b,e,ey,eb,l,eH⟩
  · subst ey eH
    obtain⟨z,hd,vs,rel,dd⟩:=WZ I.hok e;have hz:vs.length<=sizeLine:=(by rw[<-rel.length];exact z);have hl:(putK kvs k v).length<=sizeLine:=(by have:=Fu kvs k v;omega);refine wpAny_setItem_pairs (hsz:=hz) (FV ry) dd λh' dd' hs=>h _ ?_;have he:∃ q,h'.get? a=some q:=let ⟨q,_,_,hq,_⟩:=dd';⟨q,hq⟩;exact NJ I (by rw[e];exact True.intro) hs he (Sl hl hd (rel.put k rv) dd')
  · subst ey eH
    cases (show u=Value.ref b from ry);obtain⟨z,hd,xs,rel,dd⟩:=aca I.hok e;have hz:xs.length<=sizeLine:=(by rw[<-apV rel];exact z);have hl:(putK kvs k v).length<=sizeLine:=(by have:=Fu kvs k v;omega);refine wpAny_setItem_heap (hsz:=hz) (tupleKind_room_in1 hu) (GX I.hok eb) dd λh' dd' hs=>h _ ?_;obtain⟨q,es,ep,hq,h2,h3,h4,_,h5⟩:=dd';refine NJ I (by rw[e];exact True.intro) hs ⟨q,hq⟩ ⟨hl,hd,_,(rel.put k eb rv).keeps λc ys ec=>?_,q,es,ep,hq,h2,h3,h4,h5⟩;rw[af (az ec e (λz=>nomatch z))];exact ec
end
section
variable{X:Cx}{pins:List (Addr×Obj)}{σ:St}{H:Hp}{s:Shared}{a:Addr}{kvs:List (Key×V)}{k:Key}{u:Value}{A:Around}{E:Value->Shared->Prop}
theorem acb{v:V}{more:List Value}{Q:Value->Shared->Prop}(I:Inv X pins σ H s)(e:H a=some (.dK kvs))(ry:RelV (kV k) u)(l:ie kvs k=some v)(hm:more=[]\/∃ x,more=[x])
    (h:∀ w' s',Inv X pins σ (upd H a (.dK (vS kvs k))) s'->RelV v w'->Q w' s'):wpAny 1e6 A (call (.builtin "dict.pop") (.ref a::u::more)) Q E s:=by
  obtain⟨z,hd,vs,rel,dd⟩:=WZ I.hok e;obtain⟨w',hw,rw'⟩:=AO.some_of (v:=v) (o:=valueAt vs k) (by rw[<-l];exact rel.val k);have hp:(keyPart u).isSome=true:=by
    cases k with
    | inl i=>obtain⟨t,q⟩:=(show ∃ t,u=Value.int i t from ry);subst q;rfl
    | inr x=>obtain⟨t,q⟩:=(show ∃ t,u=Value.str x t from ry);subst q;rfl
  have ha:argsOk "dict.pop" ⟨.ref a::u::more,[]⟩:=by
    rcases hm with q|⟨x,q⟩
    · subst q;exact PySem.F.args_dict_pop_2 _ _
    · subst q;exact PySem.F.args_dict_pop_3 _ _ _
  refine call_meetsIn PySem.F.slot_dict_pop dd.typeIs PySem.F.entry_dict_pop ha (meets_dict_pop_there (cA X.prog X.w) a (FV ry) more hm hp)
    ⟨vs,w',dd,by rw[<-rel.length];exact z,hw,λh' dd' hs=>h w' _ ?_ rw'⟩
  have he:∃ q,h'.get? a=some q:=let ⟨q,_,_,hq,_⟩:=dd';⟨q,hq⟩;exact NJ I (by rw[e];exact True.intro) hs he (Sl (aou (Vh kvs k) z) hd (rel.drop k) dd')
theorem acd{Q:Value->Shared->Prop}(I:Inv X pins σ H s)(e:Rd H a (.dK kvs))(h:∀ t s',Inv X pins σ H s'->Q (.int kvs.length t) s'):wpAny 1e6 A (call (.builtin "len") [.ref a]) Q E s:=by
  obtain⟨z,hd,vs,rel,dd⟩:=AQ I.hok e;refine call_len_dict hd dd (by rw[<-rel.length];rw[sizeLine_eq]at z;omega) ?_;rw[<-rel.length];exact h _ _ (I.tok _)
end
noncomputable def ajk(i:Expr):Prop:=∀ ov iv,subscripted i false ov iv=operate [ov,iv] (getItem ov iv)
theorem XJ{prog:Program}{w:World}{A:Around}{E:Value->Shared->Prop}{s:Shared}{env:Env}{value slice:Expr}{pos:Pos}{T id:String}{Q:Value->Shared->Prop}
    (hl:typeLookup (.type T) "__getitem__" = pure (some (.builtin id))) (hs:ajk slice)
    (h:wpAny 1e8 A (eval value env) (λo s₁=>wpAny 1e8 A (eval slice env) (λi s₂=>s₂.TypeIs o T/\wpAny 1e8 A (getItem o i) Q E s₂) E s₁) E s) :
    wpAny 1e8 A (eval (.Subscript value slice pos) env) Q E s:=by
  refine Subscript_ (wpAny_mono h (λo s₁ h₁=>wpAny_mono h₁ (λi s₂ h₂=>?_) λ_ _ x=>x) λ_ _ x=>x);obtain⟨hT,h₂⟩:=h₂;unfold subscriptTail;refine wpAny_bind ?_;rw[getitemInPython_of_ne hT.not_modules];refine wpAny_bind (wpAny_specialOf hT hl ?_);have fin:wpAny 1e8 A (subscripted slice false o i) (λr s₃=>wpAny 1e8 A (letTemporaryGo value o r >>= λ_=>pure r) Q E s₃) E s₂:=by
    rw[hs o i];exact wpAny_operating (wpAny_mono h₂ (λr s₃ h₃=>wpAny_bind (wpAny_letTemporaryGo (wpAny_pure h₃))) λ_ _ x=>x)
  first
    | exact wpAny_pure (wpAny_bind fin)
    | exact wpAny_bind (wpAny_pure (wpAny_bind fin))
    | exact wpAny_bind fin
theorem Oe{X:Cx}{pins:List (Addr×Obj)}{σ:St}{H:Hp}{s:Shared}{a:Addr}{y:V}{o:Option V}(I:Inv X pins σ H s)(g:tX H a y o):s.TypeIs (.ref a) "dict" := by
  rcases g with⟨kvs,k,e,_,_⟩|⟨kvs,k,b,e,_,_,_⟩
  · obtain⟨_,_,vs,_,dd⟩:=AQ I.hok e
    exact dd.typeIs
  · obtain⟨_,_,xs,_,dd⟩:=La I.hok e
    exact dd.typeIs
noncomputable def ace(td ty:TE):TE:=λσ H Q=>td σ H λx H1=>ty σ H1 λy H2=>∃ a v,x=.ref a/\tX H2 a y (some v)/\Q v H2
noncomputable def anc(ty td:TE):TE:=λσ H Q=>ty σ H λy H1=>td σ H1 λx H2=>∃ a o,x=.ref a/\tX H2 a y o/\Q (.bl o.isSome) H2
noncomputable def XM(ty td:TE):TE:=λσ H Q=>ty σ H λy H1=>td σ H1 λx H2=>∃ a o,x=.ref a/\tX H2 a y o/\Q (.bl (!o.isSome)) H2
noncomputable def acf(td ty tv:TE):TS:=λD σ H=>tv σ H λv H1=>td σ H1 λx H2=>ty σ H2 λy H3=>∃ a H4,x=.ref a/\G9 H3 a y v H4/\D.nx σ H4
section
variable{X:Cx}{o i e value:Expr}{pos pos' aaa:Pos}{td ty tv:TE}
theorem ip(hu:X.A.units+1<cLine)(ho:PE X o td)(hi:PE X i ty)(hs:ajk i):PE X (.Subscript o i pos) (ace td ty):=by
  intro pins s σ H Q I h;refine XJ PySem.F.slot_dict_getitem.lookup hs (thn (ho pins s σ H _ I h) λu s1 ⟨x,H1,I1,rx,q1⟩=>thn (hi pins s1 σ H1 _ I1 q1) λiv s2 ⟨y,H2,I2,ry,a,v,ex,g,q2⟩=>?_);subst ex;obtain rfl:u=Value.ref a:=rx;exact⟨Oe I2 g,T6 hu I2 g ry λw' s3 I3 rw'=>⟨v,H2,I3,rw',q2⟩⟩
theorem VS(hu:X.A.units+1<cLine)(hi:PE X i ty)(ho:PE X o td):PC X .In i o (anc ty td):=by
  intro pins s σ H Q I h;refine thn (hi pins s σ H _ I h) λiv s1 ⟨y,H1,I1,ry,q1⟩=>thn (ho pins s1 σ H1 _ I1 q1) λu s2 ⟨x,H2,I2,rx,a,ov,ex,g,q2⟩=>?_;subst ex;obtain rfl:u=Value.ref a:=rx;exact anb hu I2 g ry λs3 I3=>⟨.bl ov.isSome,H2,I3,rfl,q2⟩
theorem oy(hu:X.A.units+1<cLine)(hi:PE X i ty)(ho:PE X o td):PC X .NotIn i o (XM ty td):=by
  intro pins s σ H Q I h;refine thn (hi pins s σ H _ I h) λiv s1 ⟨y,H1,I1,ry,q1⟩=>thn (ho pins s1 σ H1 _ I1 q1) λu s2 ⟨x,H2,I2,rx,a,ov,ex,g,q2⟩=>?_;subst ex;obtain rfl:u=Value.ref a:=rx;exact XI hu I2 g ry λs3 I3=>⟨.bl (!ov.isSome),H2,I3,rfl,q2⟩
theorem pG(hu:X.A.units+1<cLine)(ho:PE X o td)(hi:PE X i ty)(hv:PE X value tv)(hs:swapsWith value (some (.Subscript o i pos')) pos.line X.env=pure false) :
    PS X (.Assign [.Subscript o i pos'] value pos) (acf td ty tv):=by
  intro pins s σ H D I h;refine wpAny_Assign_Subscript (thn (hv pins s σ H _ I h) λr s1 ⟨v,H1,I1,rv,q1⟩=>thn (ho pins s1 σ H1 _ I1 q1) λu s2 ⟨x,H2,I2,rx,q2⟩=>thn (hi pins s2 σ H2 _ I2 q2) λiv s3 ⟨y,H3,I3,ry,a,H4,ex,g,q3⟩=>?_) hs;subst ex;obtain rfl:u=Value.ref a:=rx;exact T7 hu I3 g ry rv λs4 I4=>⟨σ,H4,I4,q3⟩
end
theorem Vi{P:Program}{w:World}{H:Hp}(h:Heap)(hb:sysModules<h.objs.size):i7 P w H (h.push {cls:=.type "dict",data:=.dict #[]}) h.objs.size (.dK []) :=
  ⟨aoL _,beq_eq_false_iff_ne.mpr (aol (aok hb)),[],.nil,Heap.DictOf.new h⟩
noncomputable def ZE:TE:=λ_ H Q=>∀ p,H p=none->Q (.ref p) (upd H p (.dK []))
section
variable{X:Cx}{pos:Pos}
theorem kg:PE X (.Dict [] [] pos) ZE:=λpins s σ H Q I h =>
  wpAny_Dict_empty ⟨.ref s.heap.objs.size,_,I.laid (a:=s.heap.objs.size) (o:=.dK []) (t':=s.toks) (λ_ _ q=>an8 _ q) (aoa _) (Vi s.heap I.big),rfl,h _ (I.hok.fresh (aoa _))⟩
end
structure M1(X:Cx)(o:Expr)(m:Str)(apos:Pos)(e:Expr)(wM:Pos):Prop where
  base:attributeBase o m X.env (eval o X.env)=eval o X.env
  few:((backTo wM (starEach [e] X.env)).all (λx=>!x.1)&&(backToKw wM (keywordEach [] X.env)).all (λx=>x.1.isSome)
    && decide (([e]:List Expr).length+([]:List Keyword).length+(if([]:List Keyword).isEmpty then 0 else 1)<30))=true
  line:(apos.endLine == wM.line)=true
  trees:backTo wM (starEach [e] X.env)=[(false,eval e X.env)]
structure M2(X:Cx)(o:Expr)(m:Str)(apos:Pos)(e f:Expr)(wM:Pos):Prop where
  base:attributeBase o m X.env (eval o X.env)=eval o X.env
  few:((backTo wM (starEach [e,f] X.env)).all (λx=>!x.1)&&(backToKw wM (keywordEach [] X.env)).all (λx=>x.1.isSome)
    && decide (([e,f]:List Expr).length+([]:List Keyword).length+(if([]:List Keyword).isEmpty then 0 else 1)<30))=true
  line:(apos.endLine == wM.line)=true
  trees:backTo wM (starEach [e,f] X.env)=[(false,eval e X.env),(false,eval f X.env)]
noncomputable def IsD(H:Hp)(a:Addr):Prop:=(∃ kvs,Rd H a (.dK kvs))\/∃ kvs,Rd H a (.dT kvs)
theorem VT{X:Cx}{pins:List (Addr×Obj)}{σ:St}{H:Hp}{s:Shared}{a:Addr}(I:Inv X pins σ H s)(d:IsD H a) :
    s.TypeIs (.ref a) "dict" /\ (∀ b,Value.ref a=.ref b->∃ ob,s.heap.get? b=some ob/\ob.dict=none)/\(a == sysModules)=false:=by
  rcases d with⟨kvs,e⟩|⟨kvs,e⟩
  · obtain⟨_,hd,vs,_,dd⟩:=AQ I.hok e
    refine⟨dd.typeIs,λb q=>?_,hd⟩;cases q;obtain⟨ob,_,_,h1,h2,_⟩:=dd;exact⟨ob,h1,h2.2.1⟩
  · obtain⟨_,hd,xs,_,dd⟩:=La I.hok e
    refine⟨dd.typeIs,λb q=>?_,hd⟩;cases q;obtain⟨ob,_,_,h1,h2,_⟩:=dd;exact⟨ob,h1,h2.2.1⟩
section
variable{X:Cx}{pins:List (Addr×Obj)}{σ:St}{H:Hp}{s:Shared}{a:Addr}{y d:V}{u r:Value}{o:Option V}{A:Around}{E:Value->Shared->Prop}
theorem ZF{Q:Value->Shared->Prop}(hu:A.units+1<cLine)(I:Inv X pins σ H s)(g:tX H a y o)(ry:RelV y u)(rd:RelV d r)(h:∀ w' s',Inv X pins σ H s'->RelV (o.getD d) w'->Q w' s') :
    wpAny 1e6 A (call (.builtin "dict.get") [.ref a,u,r]) Q E s:=by
  rcases g with⟨kvs,k,e,ey,l⟩|⟨kvs,k,b,e,ey,eb,l⟩
  · subst ey
    obtain⟨z,hd,vs,rel,dd⟩:=AQ I.hok e;refine call_meetsIn PySem.F.slot_dict_get dd.typeIs PySem.F.entry_dict_get (PySem.F.args_dict_get_3 _ _ _) (meets_dict_get_default (cA X.prog X.w) a (FV ry) hd r) ⟨_,dd.mapOf,h _ _ (I.tok _) ?_⟩;rw[l];exact(rel.val k).getD rd
  · subst ey
    cases (show u=Value.ref b from ry);obtain⟨z,hd,xs,rel,dd⟩:=La I.hok e;refine call_meetsIn PySem.F.slot_dict_get dd.typeIs PySem.F.entry_dict_get (PySem.F.args_dict_get_3 _ _ _) (meetsH_dict_get_default (tupleKind (cA X.prog X.w)) a b hd r) ⟨tupleKind_room_in1 hu,k,xs,GX I.hok eb,dd,h _ _ (I.tok _) ?_⟩;rw[l];exact(rel.val k).getD rd
end
noncomputable def ZG(td ty tx:TE):TE:=λσ H Q=>td σ H λx H1=>∃ a,x=.ref a/\IsD H1 a/\ty σ H1 λy H2=>tx σ H2 λz H3=>∃ o,tX H3 a y o/\Q (o.getD z) H3
noncomputable def ZH(td ty:TE):TE:=λσ H Q=>td σ H λx H1=>∃ a,x=.ref a/\IsD H1 a/\ty σ H1 λy H2=>∃ kvs k v,H2 a=some (.dK kvs)/\y=kV k/\ie kvs k=some v/\Q v (upd H2 a (.dK (vS kvs k)))
section
variable{X:Cx}{o e f:Expr}{apos wM:Pos}{td ty tx:TE}
theorem Vj(hu:X.A.units+1<cLine)(ho:PE X o td)(he:PE X e ty)(hf:PE X f tx)(m:M2 X o "get" apos e f wM):PE X (.Call (.Attribute o "get" apos) [e,f] [] wM) (ZG td ty tx):=by
  intro pins s σ H Q I h;refine wpAny_Call_method m.base m.few m.line PySem.F.plainAttrs_dict PySem.F.slot_dict_get PySem.F.type_dict_get (thn (ho pins s σ H _ I h) λu s1 ⟨x,H1,I1,rx,a,ex,d,q1⟩=>?_);subst ex;obtain rfl:u=Value.ref a:=rx;obtain⟨t1,t2,_⟩:=VT I1 d;refine⟨t1,t2,?_⟩;rw[m.trees];refine apD rfl (apK (apy (thn (he pins s1 σ H1 _ I1 q1) λiv s2 ⟨y,H2,I2,ry,q2⟩ =>
    apy (thn (hf pins s2 σ H2 _ I2 q2) λfv s3 ⟨z,H3,I3,rz,ov,g,q3⟩=>apS ?_))))
  exact ZF hu I3 g ry rz λw' s4 I4 rw'=>⟨_,H3,I4,rw',q3⟩
theorem Jl(ho:PE X o td)(he:PE X e ty)(m:M1 X o "pop" apos e wM):PE X (.Call (.Attribute o "pop" apos) [e] [] wM) (ZH td ty):=by
  intro pins s σ H Q I h;refine wpAny_Call_method m.base m.few m.line PySem.F.plainAttrs_dict PySem.F.slot_dict_pop PySem.F.type_dict_pop (thn (ho pins s σ H _ I h) λu s1 ⟨x,H1,I1,rx,a,ex,d,q1⟩=>?_);subst ex;obtain rfl:u=Value.ref a:=rx;obtain⟨t1,t2,_⟩:=VT I1 d;refine⟨t1,t2,?_⟩;rw[m.trees];refine apD rfl (apK (apy (thn (he pins s1 σ H1 _ I1 q1) λiv s2 ⟨y,H2,I2,ry,kvs,k,v,ea,ey,l,q2⟩=>apS ?_)));subst ey;exact acb I2 ea ry l (.inl rfl) λw' s3 I3 rw'=>⟨v,_,I3,rw',q2⟩
end
section
variable{X:Cx}{pins:List (Addr×Obj)}{σ:St}{H:Hp}{s:Shared}{a:Addr}{kvs:List (Key×V)}{A:Around}{E:Value->Shared->Prop}
end
section
variable{X:Cx}{pins:List (Addr×Obj)}{σ:St}{H:Hp}{s:Shared}{a:Addr}{y:V}{u:Value}{A:Around}{E:Value->Shared->Prop}
end
end L2
namespace L2
open PySem PySem.Spec PyProof.Rows
section
variable{X:Cx}
theorem Lq:yI X (.builtin "len") (λxs H Q=>∃ a kvs,xs=[V.ref a]/\H a=some (.dK kvs)/\Q (.int kvs.length) H):=by
  intro pins s σ H xs us Q I r h;obtain⟨a,kvs,rfl,ha,q⟩:=h;obtain⟨u,rfl,ru⟩:=vals1 r;cases ru;exact acd I (.inl ha) λt s' I'=>⟨.int kvs.length,H,I',⟨t,rfl⟩,q⟩
end
end L2
end
section
namespace LX
open PySem PySem.W
noncomputable def eM(c:Value)(od:Option Addr)(fs:Array Value)(sl:Array (Option Value)):Obj:={cls:=c,dict:=od,data:=.fields fs,slots:=sl}
noncomputable def ZI(dd:Option Addr)(cd:ClassData)(k0 k1 k2 k3 k5:Option Value):Obj:={cls:=.type "type",dict:=dd,data:=.cls cd,slots:=#[k0,k1,k2,k3,some (.builtin "ValueError.__new__"),k5]}
structure h9(K:Frag)(C:Addr)(cd:ClassData):Prop where
 ob:∃ dd k0 k1 k2 k3 k5,K.lookup C=some (ZI dd cd k0 k1 k2 k3 k5)
 del:cd.hasDel=false
 line:∃ r,cd.mro=.ref C::r
 val:cd.mro.contains (.type "ValueError")=true
 bas:cd.mro.contains (.type "BaseException")=true
 obj:cd.mro.contains (.type "object")=true
 atr:cd.mro.contains (.type "AttributeError")=false
 nam:cd.mro.contains (.type "NameError")=false
noncomputable def NV(K:Frag)(C:Addr):Bool:=match K.lookup C with
 | some ⟨.type "type",_,.cls cd,sl⟩=>(match cd.mro,sl.toList with
  | .ref D::_,[_,_,_,_,some (.builtin n),_]=>D == C&&n == "ValueError.__new__" && !cd.hasDel&&cd.mro.contains (.type "ValueError")&&cd.mro.contains (.type "BaseException") &&
    cd.mro.contains (.type "object")&&!cd.mro.contains (.type "AttributeError")&&!cd.mro.contains (.type "NameError")
  | _,_=>false)
 | _=>false
theorem mX{K:Frag}{C:Addr}(e:NV K C=true):∃ cd,clsIn K C=some cd/\h9 K C cd:=by
 unfold NV at e;split at e
 ·rename_i dd cd sl ho
  split at e
  ·rename_i D r k0 k1 k2 k3 n k5 hm hs
   simp only[apJ,beq_iff_eq,Bool.not_eq_true']at e;obtain⟨⟨⟨⟨⟨⟨⟨rfl,rfl⟩,e1⟩,e2⟩,e3⟩,e4⟩,e5⟩,e6⟩:=e;obtain⟨sl⟩:=sl;simp only at hs;subst hs;exact⟨cd,by unfold clsIn;rw[ho],⟨dd,k0,k1,k2,k3,k5,ho⟩,e1,⟨r,hm⟩,e2,e3,e4,e5,e6⟩
  ·cases e
 ·cases e
section
variable{K:Frag}{C:Addr}{cd:ClassData}{M:Model}{h:Heap}
theorem h9.cls(x:h9 K C cd):clsIn K C=some cd:=by
 obtain⟨dd,k0,k1,k2,k3,k5,e⟩:=x.ob;unfold clsIn;rw[e];rfl
theorem h9.Jm(x:h9 K C cd):cd.mro.isEmpty=false:=by
 obtain⟨r,e⟩:=x.line;rw[e];rfl
theorem h9.sub(x:h9 K C cd)(X:K.In h)(v:Value):Looks M h (isSubtype (.ref C) v) (cd.mro.contains v) :=
 looks_mroIn X (by unfold mroIn;rw[x.cls,Option.bind_some,if_neg (by rw[x.Jm];decide)])
theorem h9.mro(x:h9 K C cd)(X:K.In h):Looks M h (mroOf (.ref C)) cd.mro:=(looks_clsIn X x.cls).andThen .now
theorem h9.typ(x:h9 K C cd)(X:K.In h):Looks M h (typeOf (.ref C)) (.type "type"):=by
 obtain⟨dd,k0,k1,k2,k3,k5,e⟩:=x.ob;exact(Looks.ld (X _ _ e)).andThen .now
theorem h9.YT(x:h9 K C cd)(X:K.In h):Looks M h (isType (.ref C)) true:=by
 obtain⟨dd,k0,k1,k2,k3,k5,e⟩:=x.ob;intro A Q E s k q;unfold isType loadHead;exact wpAny_bind (wpAny_loadPart (k _ _ (X _ _ e)) (wpAny_pure q))
theorem h9.madeBy(x:h9 K C cd)(X:K.In h):Looks M h (Bind.madeBy (.ref C)) (some "ValueError.__new__"):=by
 obtain⟨dd,k0,k1,k2,k3,k5,e⟩:=x.ob;obtain⟨r,hr⟩:=x.line;intro A Q E s k q;unfold Bind.madeBy;refine wpAny_bind (x.mro X A _ E s k ?_);rw[hr,apX];refine wpAny_bind (wpAny_bind (wpAny_bind (wpAny_bind (wpAny_loadPart (k _ _ (X _ _ e)) (wpAny_pure ?_)))));exact wpAny_pure (wpAny_pure (wpAny_pure q))
theorem h9.static(x:h9 K C cd)(X:K.In h):Looks M h (Bind.staticBase (.ref C)) (.ref C):=by
 obtain⟨r,hr⟩:=x.line;intro A Q E s k q;unfold Bind.staticBase;refine wpAny_bind (x.mro X A _ E s k ?_);rw[hr,apX];exact wpAny_bind (wpAny_bind (wpAny_bind (x.madeBy X A _ E s k (wpAny_pure (wpAny_pure (wpAny_pure q))))))
theorem XQ:Manifest.canonical "ValueError.__new__" = Manifest.canonical "BaseException.__new__" := PySem.F.excBase_ValueError.canon
theorem h9.here(x:h9 K C cd)(X:K.In h):Looks M h (Bind.madeHere "BaseException.__new__" (.ref C)) () :=
 (x.static X).andThen ((x.madeBy X).andThen (Looks.of_pure (by simp only[ao2,XQ,bne_self_eq_false,aoG,if_false])))
end
noncomputable def Back(x:Addr)(R:Result->Shared->Prop)(r:Result)(s':Shared):Prop:=match r with
 | .ok (.ret v)=>v=.none/\R (.ok (.ret (.ref x))) s'
 | .ok _=>False
 | .error e=>R (.error e) s'
noncomputable abbrev So(C t:Addr):Obj:=eM (.ref C) none #[.ref t,.none,.none,.none,.bool false,.none] #[]
noncomputable abbrev yS(vs:List Value):Obj:={cls:=.type "tuple",data:=.seq vs.toArray}
noncomputable abbrev tJ(h:Heap)(C:Addr)(vs:List Value):Heap:=(h.push (yS vs)).push (So C h.objs.size)
section
variable{prog:Program}{w:World}{A:Around}{R:Result->Shared->Prop}{h:Heap}{g:Array GenState}{d:Drawn}{t:Nat}{os:OsState}{K:Frag}{C:Addr}{cd:ClassData}{vs:List Value}
theorem Vk(x:h9 K C cd)(X:K.In h)(hv:vs.length<=sizeLine)(k:R (.ok (.ret (.ref (h.objs.size+1)))) ⟨tJ h C vs,g,d,t,os⟩) :
  codeAny 1e8 A (.call (.builtin "ValueError.__new__") ⟨.ref C::vs,[]⟩) R ⟨h,g,d,t,os⟩:=by
 have F:=PySem.F.excBase_ValueError;have st:=x.static (M:=model prog w) X;have ty:=x.YT (M:=model prog w) X;have mb:=x.madeBy (M:=model prog w) X;have hh:=x.here (M:=model prog w) X;have s1:=x.sub (M:=model prog w) X (.type "ValueError");rw[x.val]at s1;have s2:=x.sub (M:=model prog w) X (.type "AttributeError");rw[x.atr]at s2;have s3:=x.sub (M:=model prog w) X (.type "NameError");rw[x.nam]at s3;refine codeAny_call_builtin_code (Code.quiet_builtin _ F.quiet) ?_;have star:=F.noStar;simp only[checkBuiltinCall,F.newKind,F.newSplit,F.newRow]
 repeat (first|simp only[bne_self_eq_false,aoG,if_false,Bool.not_true]|lk)
 refine codeAny_builtinAt F.entry ?_;unfold Builtin.«BaseException.__new__»;refine wpAt_bind ?_;show wpAt _ _ _ (stack >>= _) _ _ _;refine wpAt_bind (wpAt_stack λp below=>wpAt_of_wpAny ?_);have anZ:=F.ends;wp_walk
 refine wpAt_of_wpAny ?_;rw[F.owner]
 repeat (first|simp only[bne_self_eq_false,aoG,if_false,Bool.not_true]|lk)
 rw[if_neg (by rw[aoc];omega)];obtain⟨dd,k0,k1,k2,k3,k5,ho⟩:=x.ob
 repeat lk
 refine nd_load (an8 _ (an8 _ (X _ _ ho))) (wpAny_pure (wpAny_pure ?_));rw[x.del,if_neg aob];refine wpAny_pure (wpAny_pure ?_);show R _ _;rw[aps];exact k
theorem Vm{f:Addr}(x:h9 K C cd)(X:K.In h)(hi:findIn K (.ref C) "__init__" = some (some (.ref f)))(hf:typeIn K (.ref f)=some (.type "function"))(hv:vs.length<=sizeLine)
  (k:codeAny (model prog w) (A.under (.builtin "type.__call__" ⟨.ref C::vs,[]⟩)) (.call (.ref f) ⟨.ref (h.objs.size+1)::vs,[]⟩) (Back (h.objs.size+1) R) ⟨tJ h C vs,g,d,t,os⟩) :
  codeAny 1e8 A (.call (.ref C) ⟨vs,[]⟩) R ⟨h,g,d,t,os⟩:=by
 obtain⟨dd,k0,k1,k2,k3,k5,ho⟩:=x.ob;have hC:=X _ _ ho;have ht:=x.typ (M:=model prog w) X;refine codeAny_of_tree ?_;show wpAny _ _ (callAny (.ref C) _) _ _ _;refine nd_load hC ?_;show wpAny _ _ (callAny.viaDunder (.ref C) _) _ _ _;unfold callAny.viaDunder;have sp:Looks 1e8 h (specialOf (.ref C) "__call__") (some (.builtin "type.__call__")):=ht.andThen (Looks.of_pure tc_lookup);refine wpAny_bind (sp.at ?_);dsimp only;rw[tc_bind];refine wpAny_bind (wpAny_pure (wpAny_bind (wpAny_pure ?_)));refine wpAny_pure (a:=Fin.again (.call (.builtin "type.__call__") ⟨.ref C::vs,[]⟩)) (And.intro rfl ?_);refine codeAny_call_builtin_at (Code.quiet_builtin _ (by decide +kernel)) entry_typeCall (check_slot tc_kind tc_split (ht.andThen (Looks.of_pure tc_sub)) (tc_args _ _ _) ?_);unfold Builtin.«type.__call__»;have hm:=x.mro (M:=model prog w) X;have em:=x.Jm;have mb:=x.madeBy (M:=model prog w) X
 repeat (first|simp only[em,aoG,if_false]|with_reducible refine wpAny_call ?_|lk)
 refine Vk x X hv ?_;have kp:∀ b o,h.get? b=some o->(tJ h C vs).get? b=some o:=λb o e=>an8 _ (an8 _ e);have X1:K.In (tJ h C vs):=X.keeps kp;have hx:(tJ h C vs).get? (h.objs.size+1)=some (So C h.objs.size):=by heap_get
 have t1:Looks 1e8 (tJ h C vs) (typeOf (.ref (h.objs.size+1))) (.ref C):=(Looks.ld hx).andThen .now;have s1:=x.sub (M:=model prog w) X1 (.ref C);obtain⟨r,hr⟩:=x.line;rw[show cd.mro.contains (.ref C)=true by rw[hr];simp]at s1;have i1:=looks_findIn (M:=model prog w) X1 hi;have b1:=bind_fn (M:=model prog w) X1 (.ref (h.objs.size+1)) hf;unfold isInstance callSpecial? specialOf
 repeat (first|with_reducible refine wpAny_call ?_|lk)
 refine codeAny_mono k λr s' z=>?_;rcases r with e|(v|_|_|_)<;>first|exact z|exact z.elim|skip;obtain⟨rfl,z⟩:=z;exact wpAny_pure (wpAny_pure z)
end
section
variable{prog:Program}{w:World}{A:Around}{E:Value->Shared->Prop}{h:Heap}{g:Array GenState}{d:Drawn}{t:Nat}{os:OsState}{K:Frag}{C e t0:Addr}{cd:ClassData}{vs:List Value}{od:Option Addr}{fs:Array Value}{sl:Array (Option Value)}
theorem Ds{M:Model}(he:h.get? e=some (eM (.ref C) od fs sl)):Looks M h (typeOf (.ref e)) (.ref C):=(Looks.ld he).andThen .now
theorem Of{Q:Value->Shared->Prop}(x:h9 K C cd)(X:K.In h)(he:h.get? e=some (eM (.ref C) od fs sl))(h0:fs[0]?=some (.ref t0))(hv:vs.length<=sizeLine)
  (k:Q .none ⟨(h.push (yS vs)).update e (Obj.mapFields (·.setIfInBounds 0 (.ref h.objs.size))),g,d,t,os⟩) :
  wpAny 1e8 A (call (.builtin "ValueError.__init__") (.ref e::vs)) Q E ⟨h,g,d,t,os⟩:=by
 have F:=PySem.F.excBase_ValueError;have ty:=Ds (M:=model prog w) he;have s1:=x.sub (M:=model prog w) X (.type "ValueError");rw[x.val]at s1;obtain⟨dd,k0,k1,k2,k3,k5,ho⟩:=x.ob;have hC:h.get? C=some ⟨.type "type",dd,.cls cd,#[k0,k1,k2,k3,some (.builtin "ValueError.__new__"),k5]⟩:=X _ _ ho;have star:=F.noStar;refine wpAny_call (codeAny_call_builtin F.init.plain F.initEntry ?_);simp only[checkBuiltinCall,F.initKind,F.initSplit,F.initRow];unfold isInstance Bind.checkArgs;refine wpAny_bind (wpAny_bind (ty.at (s1.at ?_)));simp only[aoG,if_false,Bool.not_true];refine wpAny_bind (m:=Bind.printed "*" true _ _) ?_;unfold Bind.printed Bind.receiverType typeNameWhole;rw[if_neg 2e1];dsimp only;rw[if_neg 2e1];refine wpAny_bind (ty.at ?_);refine wpAny_bind (wpAny_bind ((looks_clsIn X x.cls).at (wpAny_pure (wpAny_pure ?_))));refine wpAny_bind (m:=if("ValueError" != "*")=true then pure "ValueError" else _) ?_;rw[if_pos star];refine wpAny_pure (wpAny_onRaise ?_);show wpAny _ _ (Bind.check _ _ _ _ []) _ _ _;rw[PyProof.Rows.check_varPos];refine wpAny_pure ?_;unfold Builtin.«BaseException.__init__»;dsimp only;rw[if_neg (by simp)];unfold newTuple Builtin.BaseException.bexcPut;have hsz:0<fs.size:=(aoq.mp h0).1;have e1:=an8 (h:=h) (yS vs) he;refine wpAny_bind (wpAny_newObj_type ?_ (by show vs.toArray.size<=sizeLine;rw[aoc];exact hv));refine wpAny_bind (wpAny_bind (wpAny_field (s:=⟨h.push (yS vs),g,d,t,os⟩) e1 rfl h0 ?_));refine wpAny_bind (wpAny_setField (s:=⟨h.push (yS vs),g,d,t,os⟩) e1 rfl hsz ?_);exact wpAny_letGo (wpAny_pure k)
end
section
variable{prog:Program}{w:World}{A:Around}{E:Value->Shared->Prop}{s:Shared}{K:Frag}
theorem XS:findCls K (.type "ValueError") (.type "type") "__init__" = some (.val (.builtin "ValueError.__init__")):=by kernel_rfl
theorem YU:findIn K (.type "type") "__getattribute__" = some (some (.builtin "type.__getattribute__")):=by kernel_rfl
theorem VU{M:Model}{h:Heap}:Looks M h (typeOf (.type "ValueError")) (.type "type"):=Looks.of_pure 1e3
theorem ZJ:subIn K (.type "type") (.type "type")=some true:=by kernel_rfl
theorem ZK{M:Model}{h:Heap}:Looks M h (opaqueClassAbove (.type "ValueError")) none:=Looks.of_pure 1e3
theorem XT{pl:Sem Bool}{Q:Value×List Value->Shared->Prop}(X:K.In s.heap)(k:Q (.builtin "ValueError.__init__",[]) {s with toks:=s.toks+1}) :
  wpAny 1e8 A (getMethod (.type "ValueError") "__init__" pl) Q E s:=by
 have sp:Looks 1e8 s.heap (specialOf (.type "ValueError") "__getattribute__") (some (.builtin "type.__getattribute__")):=VU.andThen (looks_findIn X YU);unfold getMethod;refine wpAny_bind (sp.here ?_);dsimp only;rw[if_pos canon_tga];refine wpAny_bind (cls_open (hook:=none) X ZK VU YU (Looks.of_pure 1e3) ZJ XS ?_);refine wpAny_pure ?_;show wpAny _ _ (handedOut _) _ _ _;rw[handedOut_of 1e3];exact wpAny_pure (wpAny_pure k)
end
section
variable{prog:Program}{w:World}{A:Around}{E:Value->Shared->Prop}{s:Shared}{K:Frag}{env:Env}
noncomputable def T8(K:Frag)(E:Value->Shared->Prop)(v:Value)(s1:Shared):Prop :=
 ∃(ea C:Addr) (cd:ClassData) (od:Option Addr) (fs:Array Value) (sl:Array (Option Value)),v=.ref ea/\s1.heap.get? ea=some (eM (.ref C) od fs sl)/\fs[1]?=some .none/\h9 K C cd/\K.In s1.heap/\E (.ref ea) s1
theorem T9{e:Expr}{pos:Pos}{Q:Flow->Shared->Prop}(hh:A.handled=none)(k:wpAny (model prog w) A (eval e env) (T8 K E) E s) :
  wpAny 1e8 A (exec (.Raise (some e) none pos) env) Q E s:=by
 show wpAny 1e8 A (do standAt pos;raiseStmt env (some (do let v <-eval e env;standAt pos;pure v)) none) Q E s
 refine wpAny_bind (wpAny_standAt ?_);unfold raiseStmt;dsimp only;refine wpAny_bind (wpAny_bind (wpAny_mono k (λv s1 q=>wpAny_bind (wpAny_standAt (wpAny_pure ?_))) λ_ _ z=>z));obtain⟨ea,C,cd,od,fs,sl,rfl,he,h1,x,X,hE⟩:=q;obtain⟨hp,g,d,tk,os⟩:=s1;have ty:=Ds (M:=model prog w) he;have nt:Looks 1e8 hp (isType (.ref ea)) false:=by
  intro A' Q' E' s' kk q;unfold isType loadHead;exact wpAny_bind (wpAny_loadPart (kk _ _ he) (wpAny_pure q))
 have sb:=x.sub (M:=model prog w) X (.type "BaseException");rw[x.bas]at sb;have ct:=x.typ (M:=model prog w) X;have f1:Looks 1e8 hp (field (.ref ea) 1) .none:=looks_field he 1 h1;refine wpAny_bind (wpAny_pure ?_);dsimp only;refine wpAny_bind (wpAny_holding ?_);unfold excFromValue isExcClass isInstance
 repeat (first|simp only[aoG,if_false,if_true]|lk)
 show wpAny _ _ handled _ _ _;refine wpAny_handled ?_;rw[hh];exact wpAny_throw hE
theorem Og{ea C D:Addr}{cd cd':ClassData}{od:Option Addr}{fs:Array Value}{sl:Array (Option Value)}{h:Heap}{g:Array GenState}{d:Drawn}{t:Nat}{os:OsState}{Q:Bool->Shared->Prop}{M:Model}(x:h9 K C cd)(y:h9 K D cd')(X:K.In h)
  (he:h.get? ea=some (eM (.ref C) od fs sl)) (q:Q (cd.mro.contains (.ref D)) ⟨h,g,d,t,os⟩):wpAny M A (excMatches (.ref ea) (.ref D)) Q E ⟨h,g,d,t,os⟩:=by
 have ty:=Ds (M:=M) he;have td:=y.typ (M:=M) X;have ti:=y.YT (M:=M) X;have tn:Looks M h (isSubtype (.type "type") (.type "tuple")) false:=Looks.of_pure tc_notTuple;have yb:=y.sub (M:=M) X (.type "BaseException");rw[y.bas]at yb;have xs:=x.sub (M:=M) X (.ref D);unfold excMatches isInstance isExcClass
 repeat (first|simp only[aoG,if_false,if_true,Bool.not_true]|lk)
 cases hb:cd.mro.contains (.ref D) with
 | true =>
  rw[hb]at q;simp only[if_true]
  repeat lk
  exact q
 | false =>
  rw[hb]at q;simp only[aoG,if_false]
  repeat lk
  exact q
end
structure ane(K:Frag)(C:Addr):Prop where
 ga:findIn K (.ref C) "__getattribute__" = some (some (.builtin "BaseException.__getattribute__"))
 gt:findIn K (.ref C) "__getattr__" = some none
section
variable{prog:Program}{w:World}{A:Around}{E:Value->Shared->Prop}{h:Heap}{g:Array GenState}{d:Drawn}{t:Nat}{os:OsState}{K:Frag}{C ea:Addr}{cd:ClassData}{ox:Obj}{od:Option Obj}{name:Str}
end
section
variable{prog:Program}{w:World}{A:Around}{E:Value->Shared->Prop}{h:Heap}{g:Array GenState}{d:Drawn}{t:Nat}{os:OsState}{K:Frag}{C CH ea:Addr}{cd:ClassData}{fs:Array Value}{sl:Array (Option Value)}{name:Str}{v:Value}
end
end LX
end
section
namespace LX
open PySem
structure Kept(fr xs:List Addr)(h k:Heap):Prop where
 plain:∀ b o,h.get? b=some o->b∉fr->b∉xs->k.get? b=some o
 frame:∀ b o,h.get? b=some o->b∈fr->b∉xs->∃ sl,k.get? b=some {o with slots:=sl}
theorem Kept.trans{fr xs ys:List Addr}{h k m:Heap}(x:Kept fr xs h k)(y:Kept fr ys k m):Kept fr (xs++ys) h m where
 plain:=λb o e hb hx=>y.plain b o (x.plain b o e hb λz=>hx (aoC _ z)) hb λz=>hx (aod _ z)
 frame:=λb o e hb hx=>by
  obtain⟨sl,e1⟩:=x.frame b o e hb λz=>hx (aoC _ z);obtain⟨sm,e2⟩:=y.frame b _ e1 hb λz=>hx (aod _ z);exact⟨sm,e2⟩
theorem Kept.weak{fr xs ys:List Addr}{h k:Heap}(x:Kept fr xs h k)(s:∀ b o,h.get? b=some o->b∈xs->b∈ys):Kept fr ys h k :=
 ⟨λb o e hb hy=>x.plain b o e hb λz=>hy (s b o e z),λb o e hb hy=>x.frame b o e hb λz=>hy (s b o e z)⟩
noncomputable abbrev dI(l:List Env):List Addr:=l.filterMap (·.frame)
section
variable{M:Model}{A:Around}{E:Value->Shared->Prop}{s:Shared}{base:Heap}{env:Env}{outer:List Env}{L e:Addr}{c:Value}{od:Option Addr}{fs:Array Value}{sl:Array (Option Value)}
theorem Qe{l:List Env}(F:s.heap.FunFrames base l)(he:s.heap.get? e=some (eM c od fs sl)):e∉dI l:=λz=>by
 obtain⟨_,o,ho,hn⟩:=F.mem z;rw[he]at ho;cases ho;exact hn fs rfl
theorem DD{h:Heap}{a:Addr}{i:Nat}{x:Value}(ha:h.get? a=some (eM c od fs sl)) :
  (h.update a (Obj.mapFields (·.setIfInBounds i x))).get? a=some (eM c od (fs.setIfInBounds i x) sl):=Heap.get?_update_self _ ha rfl
theorem IE{head:Value}{had:Bool}{Q:Unit->Shared->Prop}(hA:A.frames=some (env::outer))(F:s.heap.FunFrames base (env::outer))(hL:env.frame=some L)
  (he:s.heap.get? e=some (eM c od fs sl)) (h1:1<fs.size)
  (k:∀ m T oc ts,s.heap.objs.size<=T->Kept (dI (env::outer)) [e] s.heap m->m.get? e=some (eM c od (fs.setIfInBounds 1 (.ref T)) sl)->m.get? T=some (eM oc none ts #[])->ts[3]?=some (rawInt L)->Q () {s with heap:=m}) :
  wpAny M A (do let a <-frameOf env;let pl <-entryPlaceOf L had;let b <-EntryCells.newEntry head a .none (rawInt L) .none pl;setField (.ref e) 1 b) Q E s:=by
 have ne:=Qe F he;refine wpAny_bind (wpAny_frameOf_fun hA F hL λg hg=>?_);obtain⟨g0,g1,g2⟩:=hg;refine wpAny_bind (wpAny_entryPlaceOf λpl hp=>?_);unfold EntryCells.newEntry newFields;refine wpAny_bind (wpAny_newObj_type ?_ (hp.sizeOk5 _ _ _ _ _));have e1:g.get? e=some (eM c od fs sl):=(g1 e ne).trans he;have e2:=an8 (h:=g) {cls:=.type "traceback",dict:=none,data:=.fields ([head,.ref L,.none,rawInt L,.none]++(if pl.isEmpty then List.replicate 6 Value.none else pl)).toArray} e1;refine wpAny_setField e2 rfl h1 ?_;have Te:g.objs.size≠e:=apd (aoe e1);refine k _ g.objs.size (.type "traceback") ([head,.ref L,.none,rawInt L,.none]++(if pl.isEmpty then List.replicate 6 Value.none else pl)).toArray (Nat.le_of_eq g0.symm) ⟨λb o q hb hx=>?_,λb o q hb hx=>?_⟩ (DD e2) ?_ ?_
 ·have be:b≠e:=λz=>hx (by rw[z];exact an7.mpr rfl)
  rw[aoE _ _ (aol be)];exact an8 _ ((g1 b hb).trans q)
 ·have be:b≠e:=λz=>hx (by rw[z];exact an7.mpr rfl)
  obtain⟨sm,q2⟩:=g2 b o q;refine⟨sm,?_⟩;rw[aoE _ _ (aol be)];exact an8 _ q2
 ·rw[aoE _ _ (aol Te)]
  exact aoB g rfl
 ·first|(simp;done)|(rcases hp with rfl|⟨_,_,_,_,_,_,_,rfl⟩<;>simp)
inductive yL(h:Heap)(e:Addr)(fs:Array Value):Option Addr->Prop where
 | none (h1:fs[1]?=some .none):yL h e fs none
 | some {T:Addr} {oc:Value} {ts:Array Value} {d:Option Addr} {sl:Array (Option Value)} (h1:fs[1]?=some (.ref T)) (ne:T≠e) (hT:h.get? T=some (eM oc d ts sl)) (h3:ts[3]?=some .none):yL h e fs (some T)
theorem yL.size{h:Heap}{fs:Array Value}{T:Option Addr}(t:yL h e fs T):1<fs.size:=by
 cases t with
 | none h1=>exact(aoq.mp h1).1
 | some h1=>exact(aoq.mp h1).1
theorem IF{T0:Option Addr}{Q:Unit->Shared->Prop}(hA:A.frames=some (env::outer))(F:s.heap.FunFrames base (env::outer))(hL:env.frame=some L)(he:s.heap.get? e=some (eM c od fs sl))(t:yL s.heap e fs T0)
  (k:∀ m T oc ts,s.heap.objs.size<=T->Kept (dI (env::outer)) (e::T0.toList) s.heap m->m.get? e=some (eM c od (fs.setIfInBounds 1 (.ref T)) sl)->m.get? T=some (eM oc none ts #[])->ts[3]?=some (rawInt L)->Q () {s with heap:=m}) :
  wpAny M A (noteFrame (.ref e) env) Q E s:=by
 unfold noteFrame;simp only[hL];have h1s:=t.size;cases t with
 | none h1 =>
  refine wpAny_bind (wpAny_field he rfl h1 ?_);rw[if_neg 2e1];exact IE hA F hL he h1s k
 | @some T oc ts d sm h1 ne hT h3 =>
  refine wpAny_bind (wpAny_field he rfl h1 ?_);rw[if_pos (show(Value.ref T != Value.none)=true by simp)];refine wpAny_bind (wpAny_field hT rfl h3 ?_);rw[if_neg (show ¬((Value.none == rawInt L)=true) by simp[rawInt])];have h3s:3<ts.size:=(aoq.mp h3).1;refine wpAny_bind (wpAny_setField hT rfl h3s ?_);have oth:∀ b,b≠T->(s.heap.update T (Obj.mapFields (·.setIfInBounds 3 Value.none))).get? b=s.heap.get? b:=λb hb=>aoE _ _ (aol hb);have nT:=Qe F hT;have F1:(s.heap.update T (Obj.mapFields (·.setIfInBounds 3 Value.none))).FunFrames base (env::outer):=F.of_keeps λb o hb hn=>⟨o,(oth b λz=>by rw[z,hT]at hb;cases hb;exact hn ts rfl).trans hb,rfl⟩;refine IE (s:={s with heap:=s.heap.update T (Obj.mapFields (·.setIfInBounds 3 Value.none))}) hA F1 hL ((oth e (aol ne)).trans he) h1s λm T' oc' ts' z1 z2 z3 z4 z5=>k m T' oc' ts' ?_ ?_ z3 z4 z5
  ·have zz:(s.heap.update T (Obj.mapFields (·.setIfInBounds 3 Value.none))).objs.size=s.heap.objs.size:=(Heap.SameBut.update (h:=s.heap) (a:=T) (f:=Obj.mapFields (·.setIfInBounds 3 Value.none))).1
   rw[<-zz];exact z1
  ·have kk:Kept (dI (env::outer)) [T] s.heap (s.heap.update T (Obj.mapFields (·.setIfInBounds 3 Value.none))) :=
    ⟨λb o q _ hx=>(oth b λz=>hx (by rw[z];exact an7.mpr rfl)).trans q,λb o q _ hx=>⟨o.slots,(oth b λz=>hx (by rw[z];exact an7.mpr rfl)).trans q⟩⟩
   refine(kk.trans z2).weak λb o _ q=>?_;simp only[aot,an7]at q;simp only[Option.toList_some,aop,apv,or_false];exact q.symm
theorem nZ{T:Addr}{oc:Value}{ts:Array Value}{d:Option Addr}{sm:Array (Option Value)}{Q:Unit->Shared->Prop}(he:s.heap.get? e=some (eM c od fs sl))(h1:fs[1]?=some (.ref T))(ne:T≠e)
  (hT:s.heap.get? T=some (eM oc d ts sm)) (h3:3<ts.size)
  (k:∀ m,(∀ b o,b≠T->s.heap.get? b=some o->m.get? b=some o)->yL m e fs (some T)->m.get? e=some (eM c od fs sl)->Q () {s with heap:=m}):wpAny M A (setFlight (.ref e) none) Q E s:=by
 unfold setFlight;refine wpAny_bind (wpAny_field he rfl h1 ?_);rw[if_pos (show(Value.ref T != Value.none)=true by simp)];have oth:∀ b o,b≠T->s.heap.get? b=some o->(s.heap.update T (Obj.mapFields (·.setIfInBounds 3 Value.none))).get? b=some o:=λb o hb q=>(aoE _ _ (aol hb)).trans q;exact wpAny_setField hT rfl h3 (k _ oth (.some h1 ne (DD hT) (by simp[h3])) (oth e _ (aol ne) he))
theorem Sq{T0:Option Addr}{Q:Unit->Shared->Prop}(hA:A.frames=some (env::outer))(F:s.heap.FunFrames base (env::outer))(hL:env.frame=some L)(he:s.heap.get? e=some (eM c od fs sl))(t:yL s.heap e fs T0)
  (k:∀ m T fs',s.heap.objs.size<=T->Kept (dI (env::outer)) (e::T0.toList) s.heap m->m.get? e=some (eM c od fs' sl)->fs'[0]?=fs[0]?->yL m e fs' (some T)->Q () {s with heap:=m}) :
  wpAny M A (leaving env (.ref e)) Q E s:=by
 unfold leaving;refine wpAny_bind (IF hA F hL he t λm T oc ts z1 z2 z3 z4 z5=>?_);have Te:T≠e:=apd (aoi (aoe he) z1);have f1:(fs.setIfInBounds 1 (Value.ref T))[1]?=some (.ref T):=by
  have:=t.size
  simp[this]
 refine nZ (s:={s with heap:=m}) z3 f1 Te z4 (aoq.mp z5).1 λm' q1 q2 q3=>k m' T _ z1 ⟨λb o q hb hx=>?_,λb o q hb hx=>?_⟩ q3 (by simp) q2
 ·exact q1 b o (aok (aoi (aoe q) z1)) (z2.plain b o q hb hx)
 ·obtain⟨sm,r⟩:=z2.frame b o q hb hx
  exact⟨sm,q1 b _ (aok (aoi (aoe q) z1)) r⟩
end
end LX
end
section
namespace L2
open PySem PySem.Spec PyProof.Rows LX
noncomputable def ExP(fresh:Bool)(C e:Addr)(od:Option Addr)(h:Heap):Prop:=∃ fs sl t0,h.get? e=some (eM (.ref C) od fs sl)/\fs[0]?=some (.ref t0)/\(fresh=true->fs[1]?=some .none)
noncomputable def exo(fresh:Bool)(C e:Addr)(od:Option Addr):HO:=.ext (ExP fresh C e od)
section
variable{P:Program}{w:World}{H:Hp}{h:Heap}{b:Bool}{C e:Addr}{od:Option Addr}
theorem VV(x:ExP b C e od h):i7 P w H h e (exo b C e od):=by
 refine⟨x,?_,λh1 h2 p k=>?_⟩
 ·obtain⟨fs,sl,t0,z,_⟩:=x
  exact⟨_,z⟩
 ·obtain⟨fs,sl,t0,z,r⟩:=p
  exact⟨fs,sl,t0,k _ z,r⟩
theorem NK(ok:HOk P w H h)(z:H e=some (exo b C e od)):ExP b C e od h:=(show i7 P w H h e (exo b C e od) from ok e _ z).1
end
noncomputable def del(H:Hp)(a:Addr):Hp:=λb=>if b=a then none else H b
theorem Qf{H:Hp}{a:Addr}:del H a a=none:=by unfold del;rw[if_pos rfl]
theorem yT{H:Hp}{a b:Addr}(h:b≠a):del H a b=H b:=by unfold del;rw[if_neg h]
theorem Qg{H:Hp}{a b:Addr}{o:HO}(h:del H a b=some o):H b=some o/\b≠a:=by
 unfold del at h;by_cases q:b=a
 ·rw[if_pos q]at h;cases h
 ·rw[if_neg q]at h;exact⟨h,q⟩
section
variable{P:Program}{w:World}{H H':Hp}{h h':Heap}{a:Addr}
theorem HOk.keeps(ok:HOk P w H h)(k:∀ b u o,H b=some u->h.get? b=some o->h'.get? b=some o):HOk P w H h':=λb u q =>
 (ok b u q).Le (λc v hc r=>by
  rcases hc with rfl|hc
  ·exact k c u v q r
  ·exact k c _ v hc r) (λ_ z=>z) λ_ _ z=>z
theorem HOk.del(ok:HOk P w H h)(ha:∀ y,H a≠some (.own y))(hb:∀ xs,H a≠some (.tup xs)):HOk P w (del H a) h:=λb u q=>by
 obtain⟨q1,q2⟩:=Qg q;refine(ok b u q1).Le (λ_ _ _ r=>r) (λc z=>?_) λc xs z=>?_
 ·rw[yT λe=>ha b (by rw[<-e];exact z)];exact z
 ·rw[yT λe=>hb xs (by rw[<-e];exact z)];exact z
end
theorem wN{h k base:Heap}:∀ {l:List Env},h.FunFrames base l->(∀ b∈frs l,∀ o,h.get? b=some o->∃ sl,k.get? b=some {o with slots:=sl})->k.FunFrames base l
 | [],_,_=>True.intro
 | env::r,⟨h1,⟨L,o,e1,e2,e3,e4⟩,h2⟩,q=>by
  have hm:L∈frs (env::r):=aoX.mpr ⟨env,aow,e1⟩;obtain⟨sl,z⟩:=q L hm o e3;refine⟨h1,⟨L,_,e1,e2,z,e4⟩,wN h2 λb hb o' z'=>q b ?_ o' z'⟩;obtain⟨x,hx,hy⟩:=aoX.mp hb;exact aoX.mpr ⟨x,aox _ hx,hy⟩
structure Lies(P:Program)(w:World)(outer:List Env)(H H':Hp)(s:Shared)(ea C T:Addr)(od:Option Addr)(fs:Array Value)(sl:Array (Option Value))(s':Shared):Prop where
 os:s'.os=s.os
 bare:AllBare s'.gens
 un:Un (frs outer) [] H H' s.heap s'.heap
 hok:HOk P w H' s'.heap
 abK:s.heap.get? ea=none
 anf:s.heap.get? T=none
 W0:H' ea=none
 acg:H' T=none
 at_:s'.heap.get? ea=some (eM (.ref C) od fs sl)
 args:∃ t0,fs[0]?=some (.ref t0)
 trail:yL s'.heap ea fs (some T)
noncomputable def CXE(P:Program)(w:World):CXT:=λouter H s E e s'=>∃ ea C T od fs sl H',e=.ref ea/\Lies P w outer H H' s ea C T od fs sl s'/\E (.ref C) od H'
section
variable{X:Cx}{pins:List (Addr×Obj)}{σ:St}{H H':Hp}{s s':Shared}{ea C T:Addr}{od:Option Addr}{fs:Array Value}{sl:Array (Option Value)}
theorem Lies.frames(I:Inv X pins σ H s)(l:Lies X.prog X.w X.stack H H' s ea C T od fs sl s'):s'.heap.FunFrames X.base X.stack :=
 wN I.stack λb hb o z=>l.un.any z (I.DA b hb) (by simp)
theorem Lies.on{m:Heap}{t':Nat}(I:Inv X pins σ H s)(l:Lies X.prog X.w X.stack H H' s ea C T od fs sl s')(k:Kept (dI X.stack) [ea,T] s'.heap m) :
  Un (frs X.stack) [] H H' s.heap m/\HOk X.prog X.w H' m:=by
 have fr:∀ b,b∈frs X.stack->H' b=none:=λb hb=>by
  obtain⟨_,o,z,_⟩:=I.stack.mem hb;exact l.un.free b o z (I.DA b hb) (by simp)
 have ne:∀ b o,s.heap.get? b=some o->b∉[ea,T]:=λb o z q=>by
  rcases aop.mp q with e|q
  ·rw[e,l.abK]at z;cases z
  ·rw[an7.mp q,l.anf]at z;cases z
 refine⟨⟨λb o z n hb hx=>?_,λb o z n hb hx=>?_,l.un.free,λb o z hx=>?_,l.un.Lf,l.un.Jv,l.un.Lg⟩,?_⟩
 ·exact k.plain b o (l.un.keep b o z n hb hx) hb (ne b o z)
 ·obtain⟨s1,z1⟩:=l.un.slot b o z n hb hx
  obtain⟨s2,z2⟩:=k.frame b _ z1 hb (ne b o z);exact⟨s2,z2⟩
 ·obtain⟨o1,z1⟩:=l.un.there b o z hx
  by_cases hb:b∈dI X.stack
  ·obtain⟨s2,z2⟩:=k.frame b _ z1 hb (ne b o z)
   exact⟨_,z2⟩
  ·exact⟨_,k.plain b _ z1 hb (ne b o z)⟩
 ·refine l.hok.keeps λb u o z q=>k.plain b o q (λhb=>?_) λhx=>?_
  ·rw[fr b hb]at z;cases z
  ·rcases aop.mp hx with e|hx
   ·rw[e,l.W0]at z;cases z
   ·rw[an7.mp hx,l.acg]at z;cases z
end
section
variable{P:Program}{w:World}{K:W.Frag}{mg:Str->Option Value}{base:Heap}{N:List Str}{qual:Str}{scope:Scope}{f:Addr}{cdv:Value}{A:Around}{outer:List Env}{s₀:Shared}{H₀:Hp}{E₀:XK}
noncomputable abbrev cxE(P:Program)(w:World)(K:W.Frag)(mg:Str->Option Value)(base:Heap)(N:List Str)(qual:Str)(scope:Scope)(f:Addr)(cdv:Value)(A:Around)(outer:List Env)(s₀:Shared)(H₀:Hp)(E₀:XK):Cx :=
 VP (CXE P w) P w K mg base N qual scope f cdv A outer s₀ H₀ E₀
theorem Rf{pins:List (Addr×Obj)}{σ:St}{H H':Hp}{s s':Shared}{ea C T:Addr}{od:Option Addr}{fs:Array Value}{sl:Array (Option Value)}(I:Inv (cxE P w K mg base N qual scope f cdv A outer s₀ H₀ E₀) pins σ H s)
  (l:Lies P w (cxE P w K mg base N qual scope f cdv A outer s₀ H₀ E₀).stack H H' s ea C T od fs sl s') (hE:E₀ (.ref C) od H'):(cxE P w K mg base N qual scope f cdv A outer s₀ H₀ E₀).xe (.ref ea) s':=by
 refine Sq I.ok.frames (Lies.frames I l) rfl l.at_ l.trail λm T' fs' z1 z2 z3 z4 z5=>?_;obtain⟨un,hok⟩:=l.on (t':=s'.toks) I z2;have J:Inv (cxE P w K mg base N qual scope f cdv A outer s₀ H₀ E₀) pins σ H' {s' with heap:=m}:=I.K8 l.os un hok l.bare (λb z=>absurd z (by simp));have old:∀ b o,s₀.heap.get? b=some o->∃ o',s.heap.get? b=some o':=λb o z=>I.base.there b o z (apv);have e0:s₀.heap.get? ea=none:=by
  cases q:s₀.heap.get? ea with
  | none=>rfl
  | some o =>
   obtain⟨o',z⟩:=old ea o q;rw[l.abK]at z;cases z
 have t0:s₀.heap.get? T'=none:=by
  cases q:s₀.heap.get? T' with
  | none=>rfl
  | some o =>
   obtain⟨o1,y1⟩:=old T' o q;obtain⟨o2,y2⟩:=l.un.there T' o1 y1 (by simp);exact absurd (aoe y2) (Nat.not_lt.mpr z1)
 obtain⟨a0,ha⟩:=l.args;exact⟨ea,C,T',od,fs',sl,H',rfl,⟨J.os,J.bare,J.base,J.hok,e0,t0,l.W0,l.hok.fresh z1,z3,⟨a0,by rw[z4];exact ha⟩,z5⟩,hE⟩
theorem UI{E:XK}(hE:∀ c od H',E c od H'->E₀ c od H'):Passes (CXE P w) (cxE P w K mg base N qual scope f cdv A outer s₀ H₀ E₀) E:=λpins σ H s e s' I h=>by
 obtain⟨ea,C,T,od,fs,sl,H',rfl,l,q⟩:=h;exact Rf I l (hE _ _ _ q)
theorem leave_new{pins:List (Addr×Obj)}{σ:St}{H:Hp}{s:Shared}{ea C:Addr}{od:Option Addr}(I:Inv (cxE P w K mg base N qual scope f cdv A outer s₀ H₀ E₀) pins σ H s)(h1:H ea=some (exo true C ea od))(h0:H₀ ea=none)
  (hE:E₀ (.ref C) od (del H ea)):(cxE P w K mg base N qual scope f cdv A outer s₀ H₀ E₀).xe (.ref ea) s:=by
 obtain⟨fs,sl,a0,z,ha,hf⟩:=NK I.hok h1;have frz:∀ b,b∈frs (cxE P w K mg base N qual scope f cdv A outer s₀ H₀ E₀).stack->H b=none:=I.DA;have e0:s₀.heap.get? ea=none:=by
  cases q:s₀.heap.get? ea with
  | none=>rfl
  | some o =>
   have:=I.base.free ea o q h0 apv
   rw[h1]at this;cases this
 refine Sq I.ok.frames I.stack rfl z (.none (hf rfl)) λm T' fs' z1 z2 z3 z4 z5=>?_;have hd:HOk P w (del H ea) s.heap:=I.hok.del (λy q=>by rw[h1]at q;cases q) λxs q=>by rw[h1]at q;cases q
 have hm:HOk P w (del H ea) m:=hd.keeps λb u o q r=>by
  obtain⟨q1,q2⟩:=Qg q;exact z2.plain b o r (λhb=>by rw[frz b hb]at q1;cases q1) (by simpa using q2)
 have neE:∀ b o,s₀.heap.get? b=some o->b≠ea:=λb o q r=>by rw[r,e0]at q;cases q
 have t0:s₀.heap.get? T'=none:=by
  cases q:s₀.heap.get? T' with
  | none=>rfl
  | some o =>
   obtain⟨o2,y2⟩:=I.base.there T' o q apv;exact absurd (aoe y2) (Nat.not_lt.mpr z1)
 have neL:∀ b o,s₀.heap.get? b=some o->b∈dI (cxE P w K mg base N qual scope f cdv A outer s₀ H₀ E₀).stack->b∈frs outer:=λb o q hb=>by
  rcases aop.mp (I.Dp b hb) with r|r
  ·exact absurd (aoe q) (by rw[r];exact Nat.not_lt.mpr I.ok.above)
  ·exact r
 have sub:∀ b,b∈frs outer->b∈dI (cxE P w K mg base N qual scope f cdv A outer s₀ H₀ E₀).stack:=λb hb=>by
  obtain⟨x,hx,hy⟩:=aoX.mp hb;exact aoX.mpr ⟨x,aox _ hx,hy⟩
 refine⟨ea,C,T',od,fs',sl,del H ea,rfl,⟨I.os,I.bare,⟨λb o q n hb hx=>?_,λb o q n hb hx=>?_,λb o q n hx=>?_,λb o q hx=>?_,λb xs q=>?_,λb o u q=>?_,λb ps q=>?_⟩,hm,e0,t0,Qf,?_,z3,⟨a0,by rw[z4];exact ha⟩,z5⟩,hE⟩
 ·exact z2.plain b o (I.base.keep b o q n hb hx) (λz=>hb (neL b o q z)) (by simpa using neE b o q)
 ·obtain⟨s1,y1⟩:=I.base.slot b o q n hb hx
  obtain⟨s2,y2⟩:=z2.frame b _ y1 (sub b hb) (by simpa using neE b o q);exact⟨s2,y2⟩
 ·rw[yT (neE b o q)]
  exact I.base.free b o q n hx
 ·obtain⟨o1,y1⟩:=I.base.there b o q hx
  by_cases hb:b∈dI (cxE P w K mg base N qual scope f cdv A outer s₀ H₀ E₀).stack
  ·obtain⟨s2,y2⟩:=z2.frame b _ y1 hb (by simpa using neE b o q)
   exact⟨_,y2⟩
  ·exact⟨_,z2.plain b _ y1 hb (by simpa using neE b o q)⟩
 ·have r:=I.base.Lf b xs q
  rw[yT λe=>by rw[e,h1]at r;cases r];exact r
 ·have r:=I.base.Jv b o u q
  rw[yT λe=>by rw[e,h1]at r;cases r];exact r
 ·obtain⟨more,r⟩:=I.base.Lg b ps q
  exact⟨more,by rw[yT λe=>by rw[e,h1]at r;cases r];exact r⟩
 ·by_cases q:T'=ea
  ·rw[q];exact Qf
  ·rw[yT q];exact I.hok.fresh z1
end
theorem Fun.okE{P:Program}{w:World}{K:W.Frag}{mg:Str->Option Value}{base:Heap}{x qual:Str}{st:Stmt}{f:Addr}{fd:FuncData}{N ps:List Str}{k:Nat}{sp:Sp}(F:Fun K x qual st f fd)(S:av N ps (ar st))(len:∀ vs H Q E,sp vs H Q E->vs.length=ps.length)
  (Q9:∀(cdv:Value) (A:Around) (outer:List Env) (s:Shared) (H:Hp) (vs:List V) (Q:VK) (E:XK),mT k (A.deeper (envOfC qual (ar st) s.heap.objs.size f cdv))->sp vs H Q E ->
   ∃ t,PSs (cxE P w K mg base N qual (ar st) f cdv A outer s H E) (jU st) t/\t {nx:=λ_ H'=>Q .non H',rt:=Q} (start N vs) H):DB P w K mg base (CXE P w) (k+1) f fd ps sp:=by
 obtain⟨oc,od,kV,doc,pm,an,cdv,ct,osl,rfl,lk,hcd⟩:=F.ex;exact ab0 lk hcd S len λA outer s H vs Q E hr hsp=>Q9 cdv A outer s H vs Q E hr hsp
noncomputable def Qh(X:Cx)(E:XK):Prop:=∀(pins:List (Addr×Obj)) (σ:St) (H:Hp) (s:Shared) (ea C:Addr) (od:Option Addr),Inv X pins σ H s->H ea=some (exo true C ea od)->X.H₀ ea=none->E (.ref C) od (del H ea)->X.xe (.ref ea) s
theorem jA{P:Program}{w:World}{K:W.Frag}{mg:Str->Option Value}{base:Heap}{N:List Str}{qual:Str}{scope:Scope}{f:Addr}{cdv:Value}{A:Around}{outer:List Env}{s₀:Shared}{H₀:Hp}{E₀:XK} :
  Qh (cxE P w K mg base N qual scope f cdv A outer s₀ H₀ E₀) E₀:=λ_ _ _ _ _ _ _ I h1 h0 q=>leave_new I h1 h0 q
noncomputable def ZL(H₀:Hp)(K:W.Frag)(E:XK)(te:TE):TS:=λ_ σ H=>te σ H λv H1=>∃ ea C od,v=.ref ea/\H1 ea=some (exo true C ea od)/\(∃ cd,h9 K C cd)/\H₀ ea=none/\E (.ref C) od (del H1 ea)
section
variable{X:Cx}
theorem eE{e:Expr}{te:TE}{pos:Pos}{E:XK}(hc:X.calm=true)(hx:Qh X E)(he:PE X e te):PS X (.Raise (some e) none pos) (ZL X.H₀ X.K E te):=by
 intro pins s σ H D I h;refine T9 (K:=X.K) (I.ok.hd hc) (thn (he pins s σ H _ I h) λu s1 ⟨v,H1,I1,r,ea,C,od,ev,h1,⟨cd,xc⟩,h0,q⟩=>?_);subst ev;obtain rfl:u=Value.ref ea:=r;obtain⟨fs,sl,a0,z,ha,hf⟩:=NK I1.hok h1;exact⟨ea,C,cd,od,fs,sl,rfl,z,hf rfl,xc,I1.kIn,hx pins σ H1 s1 ea C od I1 h1 h0 q⟩
noncomputable def gT(CX:CXT)(X:Cx)(EK:St->XK):Prop:=∀(pins:List (Addr×Obj)) (σ:St) (H:Hp) (s:Shared) (e:Value) (s':Shared),Inv X pins σ H s->CX X.stack H s (EK σ) e s'->X.xe e s'
theorem Passes.x{CX:CXT}{E:XK}(h:Passes CX X E):gT CX X (λ_=>E):=λpins σ H s e s' I q=>h pins σ H s e s' I q
noncomputable def W2(sp:Sp)(dvs:List V)(EK:St->XK)(t:TA):TE:=λσ H Q=>t σ H λvs H1=>sp (vs++dvs) H1 Q (EK σ)
noncomputable def UJ(C:Addr)(m:Str)(sp:Sp)(dvs:List V)(EK:St->XK)(ta:TE)(t:TA):TE:=λσ H Q=>ta σ H λx H1=>∃ a dx fs,x=.ref a/\H1 a=some (.ins C dx fs)/\fs.lookup m=none /\
 t σ H1 λvs H2=>sp (x::(vs++dvs)) H2 Q (EK σ)
noncomputable def ajl(C:Addr)(sp:Sp)(EK:St->XK)(t:TA):TE:=λσ H Q=>t σ H λvs H1=>∀ ea,H1 ea=none->sp (.ref ea::vs) (upd H1 ea (exo true C ea none)) (λv H2=>v=.non/\Q (.ref ea) H2) (EK σ)
variable{CX:CXT}{k:Nat}{f C:Addr}{fd:FuncData}{ps:List Str}{sp:Sp}{dvs:List V}{ds:List Value}{EK:St->XK}{x m:Str}{p pos apos:Pos}{e o:Expr}{es:List Expr}{ta:TE}{t:TA}
theorem YV{pins:List (Addr×Obj)}{σ:St}{H:Hp}{s:Shared}{Q:VK}{us:List Value}{vs:List V}(F:DB X.prog X.w X.K X.mg X.base CX k f fd ps sp)(hr:mT k X.A)(hb:Binds X.K fd ps ds)(hd:Vals dvs ds)(hx:gT CX X EK)
  (I:Inv X pins σ H s) (r:Vals vs us) (h:sp (vs++dvs) H Q (EK σ)):wpAny 1e6 X.A (call (.ref f) us) (EP X pins σ Q) X.xe s:=by
 have r2:Vals (vs++dvs) (us++ds):=r.append hd;have hl:(us++ds).length=ps.length:=by rw[<-r2.length];exact F.len _ _ _ _ h
 refine wpAny_call (codeAny_mono (F.run X.A X.stack s H ⟨us,[]⟩ (us++ds) (vs++dvs) Q (EK σ) hr I.aab (hb s us I.kIn hl) r2 h) λr s' hq=>?_);cases r with
 | error e=>exact hx pins σ H s e s' I hq
 | ok fl =>
  cases fl with
  | ret u=>exact I.after hq
  | _=>exact False.elim hq
theorem vP(F:DB X.prog X.w X.K X.mg X.base CX k f fd ps sp)(hr:mT k X.A)(hg:Gl X x)(hm:X.mg x=some (.ref f))(hk:PySem.W.keepIn X.K (.ref f)=true)(hb:Binds X.K fd ps ds)(hd:Vals dvs ds)(hx:gT CX X EK)
  (ha:PA X (e::es) t) (hdb:(x == ("__debug__" : Str))=false:=by decide) (he:starEach (e::es) X.env=(false,eval e X.env)::starEach es X.env:=by rfl) (hpl:(backTo pos (starEach es X.env)).any (·.1)=false:=by rfl) :
  PE X (.Call (.Name x p) (e::es) [] pos) (W2 sp dvs EK t):=by
 intro pins s σ H Q I h;refine wpAny_Call_Name_kw (qY I hg hm ?_ hdb);exact PySem.W.callWith_K (h₀:=X.base) I.ok.mod.kin hk (thn (ha pos pins s σ H _ I h) λus s1 ⟨vs,H1,I1,r,q⟩=>⟨I1.kIn,YV F hr hb hd hx I1 r q⟩) he hpl
theorem XU{pl:Sem Bool}(he:PE X o ta)(c:Cls X.K C)(hm:Meth X.K C m f)(F:DB X.prog X.w X.K X.mg X.base CX k f fd ps sp)(hr:mT k X.A)(hb:Binds X.K fd ps ds)(hd:Vals dvs ds)(hx:gT CX X EK)(ha:PA X (e::es) t)
  (hst:starEach (e::es) X.env=(false,eval e X.env)::starEach es X.env:=by rfl) (hpl:(backTo pos (starEach es X.env)).any (·.1)=false:=by rfl)
  (ht:eval (.Call (.Attribute o m apos) (e::es) [] pos) X.env=(do
   let ov <-eval o X.env
   standAt apos.atName
   let (f,first) <-holding [ov] (getMethod ov m pl)
   callWith pos f first (backTo pos (starEach (e::es) X.env)) (backToKw pos (keywordEach [] X.env))):=by rfl) :
  PE X (.Call (.Attribute o m apos) (e::es) [] pos) (UJ C m sp dvs EK ta t):=by
 intro pins s σ H Q I h;refine PySem.W.methodCall_KW (pl:=pl) (thn (he pins s σ H _ I h) λu s1 ⟨x,H1,I1,rx,a,dx,fs,ex,ea,l,q⟩=>?_) ht;subst ex;obtain rfl:u=Value.ref a:=rx;refine ID I1 ea c hm l ?_;exact PySem.W.callWith_K (first:=[.ref a]) (h₀:=X.base) I.ok.mod.kin hm.kp (thn (ha pos pins s1 σ H1 _ I1 q) λus s2 ⟨vs,H2,I2,r,q2⟩=>⟨I2.kIn,YV (us:=.ref a::us) (vs:=.ref a::vs) F hr hb hd hx I2 (.cons rfl r) q2⟩) hst hpl
theorem Vn{pl:Sem Bool}(he:PE X o ta)(c:Cls X.K C)(hm:Meth X.K C m f)(F:DB X.prog X.w X.K X.mg X.base CX k f fd ps sp)(hr:mT k X.A)(hb:Binds X.K fd ps ds)(hd:Vals dvs ds)(hx:gT CX X EK)
  (ht:eval (.Call (.Attribute o m apos) [] [] pos) X.env=(do
   let ov <-eval o X.env
   standAt apos.atName
   let (f,first) <-holding [ov] (getMethod ov m pl)
   callWith pos f first (backTo pos (starEach [] X.env)) (backToKw pos (keywordEach [] X.env))):=by rfl) :
  PE X (.Call (.Attribute o m apos) [] [] pos) (UJ C m sp dvs EK ta YK):=by
 intro pins s σ H Q I h;refine PySem.W.methodCall_KW (pl:=pl) (thn (he pins s σ H _ I h) λu s1 ⟨x,H1,I1,rx,a,dx,fs,ex,ea,l,q⟩=>?_) ht;subst ex;obtain rfl:u=Value.ref a:=rx;refine ID I1 ea c hm l ?_;exact PySem.W.callWith_K0 (first:=[.ref a]) I1.kIn hm.kp (YV (us:=[.ref a]) (vs:=[.ref a]) F hr hb hd hx I1 (.cons rfl .nil) q)
structure MkX(K:W.Frag)(C f:Addr):Prop where
 cls:∃ cd,h9 K C cd
 init:PySem.W.findIn K (.ref C) "__init__" = some (some (.ref f))
 fn:PySem.W.isFn K (.ref f)=true
 kp:PySem.W.keepIn K (.ref C)=true
theorem XW{pins:List (Addr×Obj)}{σ:St}{H:Hp}{s:Shared}{Q:VK}{us:List Value}{vs:List V}(M:MkX X.K C f)(F:DB X.prog X.w X.K X.mg X.base CX k f fd ps sp)(hr:mT (k+1) X.A)(hb:Binds X.K fd ps [])(hx:gT CX X EK)(hps:ps.length<=1000)
  (I:Inv X pins σ H s) (r:Vals vs us) (h:∀ ea,H ea=none->sp (.ref ea::vs) (upd H ea (exo true C ea none)) (λv H2=>v=.non/\Q (.ref ea) H2) (EK σ)) :
  wpAny 1e6 X.A (call (.ref C) us) (EP X pins σ Q) X.xe s:=by
 have hq:=h (s.heap.objs.size+1) (I.hok.fresh (apE _));obtain⟨cd,xc⟩:=M.cls;have r2:Vals (V.ref (s.heap.objs.size+1)::vs) (Value.ref (s.heap.objs.size+1)::us):=.cons rfl r;have hl:(Value.ref (s.heap.objs.size+1)::us).length=ps.length:=by rw[<-r2.length];exact F.len _ _ _ _ hq
 have hz:us.length<=sizeLine:=by rw[aoF]at hl;rw[sizeLine_eq];omega
 have I2:Inv X pins σ (upd H (s.heap.objs.size+1) (exo true C (s.heap.objs.size+1) none)) {s with heap:=tJ s.heap C us}:=by
  refine I.laid (t':=s.toks) (λb u q=>an8 _ (an8 _ q)) (apE _) (VV ⟨#[.ref s.heap.objs.size,.none,.none,.none,.bool false,.none],#[],s.heap.objs.size,?_,rfl,λ_=>rfl⟩);show(tJ s.heap C us).get? (s.heap.objs.size+1)=some (So C s.heap.objs.size);heap_get
 obtain⟨hh,g,d,tk,os⟩:=s;refine wpAny_call (Vm xc I.kIn M.init (beq_iff_eq.mp M.fn) hz (codeAny_mono (F.run _ X.stack _ _ ⟨Value.ref (hh.objs.size+1)::us,[]⟩ (Value.ref (hh.objs.size+1)::us) _ _ (EK σ) (hr.make C us []) (I2.aab.make C us [])
  (by have:=hb _ (Value.ref (hh.objs.size+1)::us) I2.kIn (by rw[aoT];exact hl);rw[aoT]at this;exact this) r2 hq) λr s' hq'=>?_))
 cases r with
 | error e=>exact hx pins σ _ _ e s' I2 hq'
 | ok fl =>
  cases fl with
  | ret u =>
   obtain⟨v,H',I3,rv,ev,q3⟩:=I2.after hq';subst ev;exact⟨rv,⟨V.ref (hh.objs.size+1),H',I3,rfl,q3⟩⟩
  | _=>exact False.elim hq'
theorem ZM(M:MkX X.K C f)(F:DB X.prog X.w X.K X.mg X.base CX k f fd ps sp)(hr:mT (k+1) X.A)(hg:Gl X x)(hm:X.mg x=some (.ref C))(hb:Binds X.K fd ps [])(hx:gT CX X EK)
  (ha:PA X (e::es) t) (hps:ps.length<=1000:=by decide) (hdb:(x == ("__debug__" : Str))=false:=by decide) (he:starEach (e::es) X.env=(false,eval e X.env)::starEach es X.env:=by rfl) (hpl:(backTo pos (starEach es X.env)).any (·.1)=false:=by rfl) :
  PE X (.Call (.Name x p) (e::es) [] pos) (ajl C sp EK t):=by
 intro pins s σ H Q I h;refine wpAny_Call_Name_kw (qY I hg hm ?_ hdb);exact PySem.W.callWith_K (h₀:=X.base) I.ok.mod.kin M.kp (thn (ha pos pins s σ H _ I h) λus s1 ⟨vs,H1,I1,r,q⟩=>⟨I1.kIn,XW M F hr hb hx hps I1 r q⟩) he hpl
end
theorem Vo{H:Hp}{a:Addr}{o:HO}(h:H a=some o):upd H a o=H:=by
 funext b
 by_cases e:b=a
 ·rw[e,ag,h]
 ·rw[af e]
section
variable{X:Cx}
noncomputable def tVe(K:W.Frag)(t:TA):TE:=λσ H Q=>t σ H λvs H1=>∃ ea C od r,vs=.ref ea::r/\r.length<=1000/\H1 ea=some (exo true C ea od)/\(∃ cd,h9 K C cd)/\Q .non H1
theorem ach{p apos pos:Pos}{e:Expr}{es:List Expr}{t:TA}{pl:Sem Bool}(hg:Gl X "ValueError")(hm:X.mg "ValueError" = none)(ha:PA X (e::es) t)
  (hst:starEach (e::es) X.env=(false,eval e X.env)::starEach es X.env:=by rfl) (hpl:(backTo pos (starEach es X.env)).any (·.1)=false:=by rfl)
  (ht:eval (.Call (.Attribute (.Name "ValueError" p) "__init__" apos) (e::es) [] pos) X.env=(do
   let ov <-eval (.Name "ValueError" p) X.env
   standAt apos.atName
   let (f,first) <-holding [ov] (getMethod ov "__init__" pl)
   callWith pos f first (backTo pos (starEach (e::es) X.env)) (backToKw pos (keywordEach [] X.env))):=by rfl) :
  PE X (.Call (.Attribute (.Name "ValueError" p) "__init__" apos) (e::es) [] pos) (tVe X.K t):=by
 intro pins s σ H Q I h;refine PySem.W.methodCall_KW (pl:=pl) (Jw I hg hm PyProof.Rows.Boot.«ValueError» ?_) ht;refine XT I.kIn ?_;refine PyProof.Rows.callWith_builtin1 (thn (ha pos pins _ σ H _ (I.tok _) h) λus s1 ⟨vs,H1,I1,r,ea,C,od,rr,ev,hl,h1,⟨cd,xc⟩,q⟩=>?_) hst hpl;subst ev;cases r with
 | @cons _ u _ us' r1 r2 =>
 obtain rfl:u=Value.ref ea:=r1;obtain⟨fs,sl,a0,z,ha,hf⟩:=NK I1.hok h1;have hz:us'.length<=sizeLine:=by rw[<-r2.length,sizeLine_eq];omega
 have I2:Inv X pins σ H1 {s1 with heap:=s1.heap.push (yS us')}:=I1.kept (t':=s1.toks) λb u q=>an8 _ q;have z2:=an8 (h:=s1.heap) (yS us') z;have hs0:0<fs.size:=(aoq.mp ha).1;have I3:Inv X pins σ (upd H1 ea (exo true C ea od)) {s1 with heap:=(s1.heap.push (yS us')).update ea (Obj.mapFields (·.setIfInBounds 0 (.ref s1.heap.objs.size)))}:=by
  refine I2.write (x:=ea) (e:=ea) (t':=s1.toks) (by rw[h1];exact True.intro) (.inl rfl) (λb u hb q=>(aoE _ _ (aol hb)).trans q) ⟨_,DD z2⟩ (VV ⟨_,_,s1.heap.objs.size,DD z2,by simp[hs0],λ_=>?_⟩)
  have:=hf rfl
  simpa using this
 rw[Vo h1]at I3;obtain⟨hh,g,d,tk,os⟩:=s1;exact Of xc I1.kIn z ha hz ⟨.non,H1,I3,rfl,q⟩
noncomputable abbrev TF:=St->Hp->(Hp->Prop)->Prop
noncomputable def PF(X:Cx)(e:Expr)(t:TF):Prop :=
 ∀(pins:List (Addr×Obj)) (s:Shared) (σ:St) (H:Hp) (Q:Hp->Prop),Inv X pins σ H s->t σ H Q->wpAny 1e6 X.A (eval e X.env) (λv s1=>∃ y tk H1,v=.str y tk/\y.length<=2000/\Inv X pins σ H1 s1/\Q H1) X.xe s
noncomputable def PFs(X:Cx)(es:List Expr)(t:TF):Prop :=
 ∀(out:Str) (pins:List (Addr×Obj)) (s:Shared) (σ:St) (H:Hp) (Q:V->Hp->Prop),out.length+2000*es.length<=100000->Inv X pins σ H s->t σ H (λH1=>∀ y,y.length<=100000->Q (.str y) H1) ->
  wpAny 1e6 X.A (joinParts out (evalEach es X.env)) (EP X pins σ Q) X.xe s
noncomputable def YW:TF:=λ_ H Q=>Q H
noncomputable def ang(te:TE):TF:=λσ H Q=>te σ H λv H1=>∃ i,v=.int i/\i.natAbs.log2<1920/\Q H1
noncomputable def ZN(t u:TF):TF:=λσ H Q=>t σ H λH1=>u σ H1 Q
theorem Qi:(100000:Nat)<=sizeLine:=by rw[sizeLine_eq];omega
theorem fq{x j pos}(hl:x.length<=2000:=by decide +kernel):PF X (.Constant (.str x) j pos) YW:=λ_ _ _ H _ I h=>Calls.Constant_str ⟨_,_,H,rfl,hl,I.tok _,h⟩
theorem jn{e:Expr}{te:TE}{pos:Pos}(he:PE X e te):PF X (.FormattedValue e (-1) none pos) (ang te):=by
 intro pins s σ H Q I h;refine FormattedValue_plain (thn (he pins s σ H _ I h) λu s1 ⟨v,H1,I1,r,i,ev,hi,q⟩=>?_);subst ev;obtain⟨t,rfl⟩:=(show ∃ t,u=Value.int i t from r);exact formatField_int_small hi ⟨_,_,H1,rfl,aou (int_text_len_1921 hi) 2e1,I1.tok _,q⟩
theorem iq:PFs X [] YW:=λout pins s σ H Q hl I h =>
 joinParts_nil ⟨.str out,H,I.tok _,⟨_,rfl⟩,h out (by simpa using hl)⟩ (aou (by simpa using hl) Qi)
theorem aQ{e:Expr}{es:List Expr}{t u:TF}(h1:PF X e t)(h2:PFs X es u):PFs X (e::es) (ZN t u):=by
 intro out pins s σ H Q hl I h;rw[aoF]at hl;refine joinParts_consE (joinParts_cons (thn (h1 pins s σ H _ I h) λv s1 ⟨y,tk,H1,ev,hy,I1,q⟩=>?_));subst ev;have hz:(out++y).length+2000*es.length<=100000:=by rw[strLen_append];omega
 exact⟨aou 1e1 Qi,h2 (out++y) pins s1 σ H1 Q hz I1 q⟩
noncomputable def aci(t:TF):TE:=λσ H Q=>t σ H λH1=>∀ y,y.length<=100000->Q (.str y) H1
theorem ir{e e':Expr}{es:List Expr}{t:TF}{pos:Pos}(h:PFs X (e::e'::es) t)(hl:2000*(e::e'::es).length<=100000:=by decide):PE X (.JoinedStr (e::e'::es) pos) (aci t) :=
 λpins s σ H Q I q=>JoinedStr_many (h Str.empty pins s σ H Q (by have z:Str.empty.length=0:=rfl;rw[z];omega) I q)
end
noncomputable abbrev Cx.FW(X:Cx)(pins:List (Addr×Obj))(E:Value->Shared->Prop):Cx:={X with xe:=E,pn:=X.pn++pins}
noncomputable abbrev Cx.pR(X:Cx)(ea:Addr):Cx:={X with A:=X.A.mark (some (.ref ea)),calm:=false,xe:=λ_ _=>False}
section
variable{X:Cx}{pins:List (Addr×Obj)}{σ:St}{H:Hp}{s:Shared}{E:Value->Shared->Prop}{ea:Addr}
theorem Inv.FW(I:Inv X pins σ H s)(E:Value->Shared->Prop):Inv (X.FW pins E) [] σ H s :=
 ⟨⟨I.ok.mod,I.ok.kind,I.ok.glob,I.ok.blt,I.ok.above,I.ok.inj,I.ok.has,I.ok.cab,I.ok.hd,I.ok.frames,I.ok.stk,I.ok.exf,I.ok.bs,I.ok.bsz,I.ok.SE,I.ok.US,I.ok.G5,I.ok.frf⟩,
  I.os,I.bare,I.base,I.loc,I.cell,I.free,I.sj,λp hp=>I.pin p (by simpa using hp),I.hok,I.len⟩
theorem Inv.pH{NT:List (Addr×Obj)}(I:Inv (X.FW pins E) NT σ H s):Inv X pins σ H s :=
 ⟨⟨I.ok.mod,I.ok.kind,I.ok.glob,I.ok.blt,I.ok.above,I.ok.inj,I.ok.has,I.ok.cab,I.ok.hd,I.ok.frames,I.ok.stk,I.ok.exf,I.ok.bs,I.ok.bsz,I.ok.SE,I.ok.US,I.ok.G5,I.ok.frf⟩,
  I.os,I.bare,I.base,I.loc,I.cell,I.free,I.sj,λp hp=>I.pin p (aoC _ hp),I.hok,I.len⟩
theorem Inv.pR(I:Inv X pins σ H s)(ea:Addr):Inv (X.pR ea) pins σ H s :=
 ⟨⟨I.ok.mod,I.ok.kind,I.ok.glob,I.ok.blt,I.ok.above,I.ok.inj,I.ok.has,I.ok.cab,(λz=>nomatch z),I.ok.frames,I.ok.stk,I.ok.exf,I.ok.bs,I.ok.bsz,I.ok.SE,I.ok.US,I.ok.G5,I.ok.frf⟩,
  I.os,I.bare,I.base,I.loc,I.cell,I.free,I.sj,I.pin,I.hok,I.len⟩
theorem Inv.uncaught{Y:Cx}(I:Inv (Y.pR ea) pins σ H s)(ok:Y.Ok):Inv Y pins σ H s:=⟨ok,I.os,I.bare,I.base,I.loc,I.cell,I.free,I.sj,I.pin,I.hok,I.len⟩
end
section
variable{X:Cx}
end
section
variable{X:Cx}
end
theorem aB.upd{H:Hp}{a:Addr}{o:HO}(h:H a=none):aB H (L2.upd H a o):=λb u q=>by rw[af λe=>by rw[e,h]at q;cases q];exact q
structure NL(K:W.Frag)(C:Addr):Prop where
 cls:∃ cd,h9 K C cd
 get:ane K C
 own:PySem.W.findIn K (.ref C) "__class__" = some (some (.builtin "object.__class__"))
noncomputable def yU(K:W.Frag):Sp:=λvs H Q _=>∃ ea C od x,vs=[.ref ea,x]/\H ea=some (exo true C ea od)/\(∃ cd,h9 K C cd)/\Q .non H
theorem aY{P:Program}{w:World}{X:Cx}:gT (CXE P w) X.nox (λ_ _ _ _=>False):=λ_ _ _ _ _ _ _ ⟨_,_,_,_,_,_,_,_,_,q⟩=>q.elim
theorem Lr{n:Int}(h:n.natAbs<2 ^ 1920):n.natAbs.log2<1920:=by
 by_cases z:n.natAbs=0
 ·rw[z];decide
 ·exact(Nat.log2_lt z).mpr h
theorem acj{P:Program}{w:World}{outer:List Env}{H:Hp}{s:Shared}{e:Value}{s':Shared}(h:CXE P w outer H s (λ_ _ _=>False) e s'):False:=by
 obtain⟨_,_,_,_,_,_,_,_,_,q⟩:=h;exact q
noncomputable def W3(xs ys:List V):Bool:=(List.range xs.length).all λj=>eqV (xs.getD j .non) (ys.getD j .non)
section
variable{X:Cx}
variable{o e value:Expr}{f:Str}{pos pos':Pos}{ta tv:TE}
structure YX(K:W.Frag)(C:Addr)(m:Str)(f:Addr):Prop where
 rd:PySem.W.readsIn K C (.type "type")=true
 fc:PySem.W.findCls K (.ref C) (.type "type") m=some (.val (.ref f))
 ga:PySem.W.specialIn K (.ref C) "__getattribute__" = some (some (.builtin "type.__getattribute__"))
 kp:PySem.W.keepIn K (.ref f)=true
theorem ZO{CX:CXT}{k:Nat}{f C:Addr}{fd:FuncData}{ps:List Str}{sp:Sp}{EK:St->XK}{x m:Str}{p apos pos:Pos}{e:Expr}{es:List Expr}{t:TA}{pl:Sem Bool}(hg:Gl X x)(hm:X.mg x=some (.ref C))(c:YX X.K C m f)(F:DB X.prog X.w X.K X.mg X.base CX k f fd ps sp)(hr:mT k X.A)(hb:Binds X.K fd ps [])
  (hx:gT CX X EK) (ha:PA X (e::es) t) (hdb:(x == ("__debug__" : Str))=false:=by decide) (hst:starEach (e::es) X.env=(false,eval e X.env)::starEach es X.env:=by rfl) (hpl:(backTo pos (starEach es X.env)).any (·.1)=false:=by rfl)
  (ht:eval (.Call (.Attribute (.Name x p) m apos) (e::es) [] pos) X.env=(do
   let ov <-eval (.Name x p) X.env
   standAt apos.atName
   let (f,first) <-holding [ov] (getMethod ov m pl)
   callWith pos f first (backTo pos (starEach (e::es) X.env)) (backToKw pos (keywordEach [] X.env))):=by rfl) :
  PE X (.Call (.Attribute (.Name x p) m apos) (e::es) [] pos) (W2 sp [] EK t):=by
 intro pins s σ H Q I h;refine PySem.W.methodCall_KW (pl:=pl) (qY I hg hm ?_ hdb) ht;refine PySem.W.method_cls I.kIn c.ga (PySem.W.cls_value I.kIn c.rd c.fc rfl ?_);exact PySem.W.callWith_K (first:=[]) (h₀:=X.base) I.ok.mod.kin c.kp (thn (ha pos pins _ σ H _ (I.tok _) h) λus s1 ⟨vs,H1,I1,r,q⟩=>⟨I1.kIn,YV F hr hb .nil hx I1 r q⟩) hst hpl
end
theorem C7{prog:Program}{w:World}{A:Around}{R:Result->Shared->Prop}{s:Shared}{elt target iter:Expr}{scope:Scope}{pos:Pos}{it acc:Value}{env:Env}(I:Nat->Shared->Prop)
  (turn:∀ n s,I n s->wpAny (model prog w) A (pyNext it) (λr s₁=>match r with
   | none=>R (.ok .next) s₁
   | some v=>wpAny 1e8 A (letOwnedTupleGo target it v) (λ_ s5=>wpAny 1e8 A (assign target env v) (λ_ s₂=>wpAny 1e8 A (eval elt env) (λx s₃ =>
     wpAny 1e8 A (call (.builtin "list.append") [acc,x]) (λ_ s₄=>∃ m,m<n/\I m s₄) (notedBy 1e8 A env λe s'=>R (.error e) s') s₃)
     (notedBy 1e8 A env λe s'=>R (.error e) s') s₂) (notedBy 1e8 A env λe s'=>R (.error e) s') s5) (notedBy 1e8 A env λe s'=>R (.error e) s') s₁) (notedBy 1e8 A env λe s'=>R (.error e) s') s)
  (n:Nat) (h:I n s):codeAny 1e8 A (.compLoop (.ListComp elt [⟨target,iter,[],0⟩] scope pos) 0 it acc env) R s:=by
 refine codeAny_loop rfl I (λn s hI=>?_) n h;show wpAny _ _ ((compTurn (.ListComp elt [⟨target,iter,[],0⟩] scope pos) 0 it acc env).onRaise (λx=>do noteFrame x env;theTreesLotGoes x)) _ _ s
 refine wpAny_noted ?_;rw[compTurn_list1];refine wpAny_bind (wpAny_standAt (wpAny_bind (wpAny_mono (turn n s hI) (λr s₁ h₁=>?_) λ_ _ h'=>h')));cases r with
 | none=>exact wpAny_pure h₁
 | some v =>
  refine wpAny_bind (wpAny_mono h₁ (λ_ s5 h5=>?_) λ_ _ h'=>h');exact wpAny_bind (wpAny_mono h5 (λ_ s₂ h₂=>wpAny_bind (wpAny_bind (wpAny_mono h₂ (λx s₃ h₃=>wpAny_bind (wpAny_mono h₃
   (λ_ s₄ h₄=>wpAny_pure (wpAny_pure ⟨rfl,h₄⟩)) λ_ _ h'=>h')) λ_ _ h'=>h'))) λ_ _ h'=>h')
noncomputable abbrev cxC(X:Cx)(scope:Scope)(cl:List (Str×Addr))(NC:List Str)(C:Addr)(fp:List Addr)(s₀:Shared)(H₀:Hp):Cx :=
 {X with N:=NC,s₀:=s₀,H₀:=H₀,env:=compEnvC scope cl C X.env,outer:=X.stack,ex:=fp,fn:=λ_=>false,pn:=[],xe:=λ_ _=>False}
noncomputable def AR(σ:St)(idx:List Nat):St:=idx.map λi=>(σ[i]?).getD none
structure GY(X:Cx)(scope:Scope)(cl:List (Str×Addr))(x:Str)(idx:List Nat)(NC:List Str):Prop where
 abL:closureFor scope X.env=pure cl
 sub:∀ y c,cl.lookup y=some c->X.env.cells.lookup y=some c
 has:∀ y,((relabel scope X.env).names.lookup y=some .cell\/(relabel scope X.env).names.lookup y=some .free)->∃ c,cl.lookup y=some c
 Sr:∀ y∈scope.names,y.2≠.cell
 kind:scope.kind=.function
 loc:∀ y∈scope.names,y.2=.local->scope.names.lookup y.1=some .local
 xl:scope.names.lookup x=some .local
 nc:NC=x::idx.map λi=>X.N.getD i x
 nd:NC.Nodup
 cap:∀ i∈idx,i<X.N.length/\((X.env.scope.names.lookup (X.N.getD i x)=some .cell\/X.env.scope.names.lookup (X.N.getD i x)=some .free)/\((relabel scope X.env).names.lookup (X.N.getD i x)=some .cell\/(relabel scope X.env).names.lookup (X.N.getD i x)=some .free))
section
variable{X:Cx}{scope:Scope}{cl:List (Str×Addr)}{x:Str}{idx:List Nat}{NC:List Str}{C:Addr}{fp:List Addr}{pins:List (Addr×Obj)}{σ:St}{H:Hp}{s:Shared}
theorem Jn{h1:Heap}{t':Nat}(c:GY X scope cl x idx NC)(I:Inv X pins σ H s)(hf:∀ b∈fp,G6 X pins H b)(hlt:∀ b∈fp,b<s.heap.objs.size)(ns:h1.Ns s.heap.objs.size (λ_=>none))
  (k:∀ b o,s.heap.get? b=some o->h1.get? b=some o):Inv (cxC X scope cl NC s.heap.objs.size fp s H) [] (none::AR σ idx) H {s with heap:=h1,toks:=t'}:=by
 have sub:∀ b,b∈frs X.stack->b∈X.env.locals::X.fs:=I.Dp;refine⟨⟨I.ok.mod,c.kind,I.ok.glob,I.ok.blt,aoa _,λy z a h1 h2=>I.ok.inj y z a (c.sub _ _ h1) (c.sub _ _ h2),c.has,λy a z=>(by cases z),I.ok.hd,I.ok.frames,.inl rfl,λb hb=>⟨aok (hlt b hb),λy a q=>(hf b hb).2.2.2.2.1 y a (c.sub _ _ q)⟩,
  λb o q=>I.bs b o q,aou I.ok.bsz I.sz,λb o q hb=>?_,λb hb z=>?_,I.stack,I.DA⟩,rfl,I.bare,Un.kept k,⟨_,ns,λi y v e1 e2 e3=>?_⟩,λy a q=>?_,I.hok.fresh (aoa _),λy a q=>I.sj _ _ (c.sub _ _ q),λp hp=>(by cases hp),I.hok.keeps λb u o _ q=>k b o q,?_⟩
 ·rcases(hf b hb).2.2.2.1 with z|z
  ·exact I.ok.SE b o q z
  ·exact absurd (aoi (aoe (I.ok.bs b o q).1) z) (ape _)
 ·rcases aop.mp (sub b z) with r|r
  ·exact(hf b hb).2.1 r
  ·exact(hf b hb).2.2.1 r
 ·cases i with
  | zero=>cases e2
  | succ j =>
   have e1':(idx.map λi=>X.N.getD i x)[j]?=some y:=by
    have:(cxC X scope cl NC s.heap.objs.size fp s H).N=NC:=rfl
    rw[this,c.nc]at e1;exact e1
   have e2':(AR σ idx)[j]?=some (some v):=e2;rw[aog]at e1';unfold AR at e2';rw[aog]at e2';cases ei:idx[j]? with
   | none=>rw[ei]at e1';cases e1'
   | some i =>
    rw[ei]at e1' e2';simp only[ao2,Option.some.injEq]at e1' e2';obtain⟨hi,h2,h3⟩:=c.cap i (an9 ei);rw[e1']at h2 h3;have hN:X.N[i]?=some y:=by
     rw[<-e1'];simp[List.getD,an4 hi]
    have hσ:σ[i]?=some (some v):=by
     cases q:σ[i]? with
     | none=>rw[q]at e2';cases e2'
     | some o=>rw[q]at e2';simp only[Option.getD_some]at e2';rw[e2']
    obtain⟨m,hn,hl⟩:=I.loc;obtain⟨u,r,l⟩:=hl i y v hN hσ (h2.elim (λz=>.inr (.inl z)) λz=>.inr (.inr z));refine⟨u,r,.inr ⟨h3,?_⟩⟩;rcases l with⟨l,_⟩|⟨_,a,ha,hc⟩
    ·exfalso
     have l':X.env.scope.names.lookup y=some .local:=l;rcases h2 with z|z<;>(rw[l']at z;cases z)
    ·obtain⟨a',ha'⟩:=c.has y h3
     have:=c.sub _ _ ha'
     rw[ha]at this;cases this;exact⟨a,ha',hc.keeps k⟩
 ·obtain⟨v,z⟩:=I.cell _ _ (c.sub _ _ q)
  exact⟨v,z.keeps k⟩
 ·show _=NC.length
  rw[c.nc];simp[AR]
noncomputable def NW(J:It)(D:Addr)(τ:St)(te:TE)(Q:VK)(H:Hp):Prop:=∃ W:Nat->Nat->List V->Hp->Prop,(∃ m,W 0 m [] H)/\∀ i m ys H2,W i m ys H2->H2 D=some (.lst ys) /\
 ((J.stop i H2/\Q (.ref D) H2)\/(J.go i H2/\ys.length<sizeLine/\∃ N:List V->Hp->Prop,(∀ zs H',N zs H'->∃ m',m'<m/\W (i+1) m' zs H')/\∀ y H3,J.yld i H2 y H3->te (some y::τ) H3 λv H4=>H4 D=some (.lst ys)/\N (ys++[v]) (upd H4 D (.lst (ys++[v])))))
noncomputable def YY(wi:TI)(idx:List Nat)(te:TE):TE:=λσ H Q=>wi σ H λJ H1=>∀ D,H1 D=none->NW J D (AR σ idx) te Q (upd H1 D (.lst []))
theorem Jo{X:Cx}{pins:List (Addr×Obj)}{σ:St}{H:Hp}{s:Shared}{D:Addr}{ys:List V}{v:V}{u:Value}(I:Inv X pins σ H s)(h:H D=some (.lst ys))(hz:ys.length<sizeLine)(r:RelV v u) :
  wpAny 1e6 X.A (call (.builtin "list.append") [.ref D,u]) (λ_ s'=>Inv X pins σ (upd H D (.lst (ys++[v]))) s') X.xe s:=by
 refine thn (yK pins s σ H (.ref D) [v] (.ref D) [u] (λ_ H'=>H'=upd H D (.lst (ys++[v]))) I rfl (.cons r .nil) ⟨D,ys,v,rfl,rfl,h,hz,rfl⟩) λw s' ⟨_,H',I',_,e⟩=>?_;rw[<-e];exact I'
theorem tK{elt iter:Expr}{px pos:Pos}{wi:TI}{te:TE}(c:GY X scope cl x idx NC)(hc:X.calm=true)(hi:PI X (.Name x px) iter wi)(he:∀ C fp s₀ H₀,PE (cxC X scope cl NC C fp s₀ H₀) elt te)
  (hs:∀ x,foldedSetIterable iter X.env x=pure x:=by intro _;rfl):PE X (.ListComp elt [⟨.Name x px,iter,[],0⟩] scope pos) (YY wi idx te):=by
 intro pins s σ H Q I h;rw[eval_ListComp];refine wpAny_comprehension_free (use:=none) rfl hs c.abL c.kind c.loc (thn (hi pins s σ H _ I h) λv s1 h1=>thn h1 λitv s2 h2=>?_);obtain⟨it,fp,tn,J,H2,rfl,I2,T,st2,f2,q⟩:=h2;refine wpAny_newObj_type (wpAny_newFunctionEnv c.Sr (by intro y hy;simp at hy) (λh₁ hns₁ hsb₁=>?_) c.kind);dsimp only at hns₁ hsb₁ ⊢;have I3:Inv X pins σ (upd H2 s2.heap.objs.size (.lst [])) {s2 with heap:=s2.heap.push {cls:=.type "list",data:=.seq ([]:List Value).toArray},toks:=s2.toks}:=I2.YN (ys:=[]) (its:=[]) .nil (aoL _);obtain⟨W,⟨m0,w0⟩,turn⟩:=q s2.heap.objs.size I2.fresh;generalize hD:s2.heap.objs.size=D at *;generalize hH:s2.heap.push {cls:=.type "list",data:=.seq ([]:List Value).toArray}=h3 at *;have SO:∀ b∈fp,b<D:=λb hb=>by
  obtain⟨o,e,_⟩:=T.obj _ _ st2 b hb;rw[<-hD];exact aoe e
 have hlt:∀ b∈fp,b<h3.objs.size:=λb hb=>by
  rw[<-hH,aps,hD];exact apF (SO b hb)
 have hf:∀ b∈fp,G6 X pins (upd H2 D (.lst [])) b:=λb hb=>⟨by rw[af (aok (SO b hb))];exact(f2 b hb).1,(f2 b hb).2⟩;have kp:∀ b o,h3.get? b=some o->h₁.get? b=some o:=λb o e=>hsb₁.extBut b o (aok (aoe e)) (an8 _ e);have I4:Inv 1e2 [] (none::AR σ idx) (upd H2 D (.lst [])) {s2 with heap:=h₁,toks:=s2.toks+([]:List (Str×Value)).length} :=
  Jn (s:={s2 with heap:=h3,toks:=s2.toks}) c I3 hf hlt hns₁ kp
 have G7:∀ {H':Hp},(∀ b∈fp,H' b=none)->∀ b∈fp,G6 1e2 [] H' b:=λhn b hb =>
  ⟨hn b hb,aok (hlt b hb),λz=>(aop.mp (I3.Dp b z)).elim (hf b hb).2.1 (hf b hb).2.2.1,.inl hb,λy a q=>(hf b hb).2.2.2.2.1 y a (c.sub _ _ q),λp hp=>(by cases hp)⟩
 have st1:tn 0 h₁:=T.keep 0 _ _ st2 λb hb o e=>kp b o (by rw[<-hH];exact an8 _ e);have loop:∀ s4:Shared,s4={s2 with heap:=h₁,toks:=s2.toks+([]:List (Str×Value)).length} ->
   codeAny 1e6 X.A (.compLoop (.ListComp elt [⟨.Name x px,iter,[],0⟩] scope pos) 0 (.ref it) (.ref D) (compEnvC scope cl h3.objs.size X.env)) (compPost 1e6 X.A X.xe none (EP X pins σ Q) (.ref D) h3.objs.size) s4:=by
  rintro s4 rfl;refine C7 (λn s'=>∃ i ys H' v0,Inv 1e2 [] (v0::AR σ idx) H' s'/\tn i s'.heap/\(∀ b∈fp,H' b=none)/\W i n ys H')
   ?_ m0 ⟨0,[],_,none,I4,st1,λb hb=>(hf b hb).1,w0⟩
  rintro n s5 ⟨i,ys,H5,v0,I5,st5,fr5,w5⟩;obtain⟨hDl,alt⟩:=turn i n ys H5 w5;rcases alt with⟨stop,qn⟩|⟨go,hz,N,hN,step⟩
  ·refine thn (T.done 1e2 rfl rfl rfl hc i [] s5 _ H5 _ I5 (G7 fr5) st5 stop) λr s6 ⟨hr,I6⟩=>?_
   subst hr;obtain⟨m,ns6,_⟩:=id I6.loc;refine⟨m,ns6,λh' hs'=>⟨.ref D,H5,?_,rfl,qn⟩⟩;have J6:Inv X pins σ H5 s6:=I3.K8 (ch:=fp) I6.os I6.base I6.hok I6.bare λb hb=>⟨(hf b hb).2.2.2.1,(hf b hb).2.1,(hf b hb).2.2.2.2.1,(hf b hb).2.2.2.2.2⟩;refine J6.turned (t':=s6.toks) (it:=h3.objs.size) (λb o hb e=>hs'.extBut b o hb e) I6.free (apd I3.lt) (.inr I3.sz) (λy a q z=>?_) (λp hp z=>?_)
   ·obtain⟨v,q'⟩:=I3.cell y a q
    exact absurd q'.lt (by rw[z];exact ape _)
   ·exact absurd (aoe (I3.pin p hp).1) (by rw[z];exact ape _)
  ·refine thn (T.item 1e2 rfl rfl rfl hc i [] s5 _ H5 _ I5 (G7 fr5) st5 go) λr s6 ⟨u,hr,h6⟩=>?_
   subst hr;refine thn h6 λ_ s7 ⟨y,H7,I7,r7,y7,st7,fr7⟩=>?_;have I7':=I7.pinned (G7 fr7) (T.obj _ _ st7);have hnl:(relabel scope X.env).names.lookup x=some .local:=lookup_relabel_local c.xl;refine wpAny_mono (aX (X:=cxC X scope cl NC h3.objs.size fp {s2 with heap:=h3,toks:=s2.toks} (upd H2 D (.lst []))) (i:=0) (x:=x) (pos:=px) c.nd (by show NC[0]?=some x;rw[c.nc];rfl) (.inl hnl) (.inr hnl) _ s7 _ H7 y u
    (λσ' H'=>σ'=some y::AR σ idx/\H'=H7) I7' r7 ⟨rfl,rfl⟩) (λ_ s8 ⟨σ8,H8,I8,e8,e8'⟩=>?_) λ_ _ z=>z.elim
   subst e8 e8';refine wpAny_mono (he _ _ _ _ _ s8 _ H8 _ I8 (step y H8 y7)) (λw s9 ⟨v,H9,I9,r9,hD9,n9⟩=>?_) λ_ _ z=>z.elim;obtain⟨m',hm,w9⟩:=hN _ _ n9;refine wpAny_mono (Jo (X:=1e2) I9 hD9 hz r9) (λ_ s10 I10=>?_) λ_ _ z=>z.elim;refine⟨m',hm,i+1,ys++[v],_,some y,I10.pF,T.keep _ _ _ st7 λb hb o e=>(I10.pin (b,o) (aod _ (aod _ (hZ hb e)))).1,λb hb=>?_,w9⟩;obtain⟨o,e,d⟩:=T.obj _ _ st7 b hb;exact(I10.pin (b,o) (aod _ (aod _ (hZ hb e)))).2.1
 exact codeAny_compStart_list (loop _ rfl) (T.self _ 0 _ _ _ st1 (loop _ rfl))
end
section
variable{X:Cx}
theorem JG{prog:Program}{w:World}{A:Around}{R:Result->Shared->Prop}{s:Shared}{elt target iter c:Expr}{scope:Scope}{pos:Pos}{it acc:Value}{env:Env}(I:Nat->Shared->Prop)
  (turn:∀ n s,I n s->wpAny (model prog w) A (pyNext it) (λr s₁=>match r with
   | none=>R (.ok .next) s₁
   | some v=>wpAny 1e8 A (letOwnedTupleGo target it v) (λ_ s5=>wpAny 1e8 A (assign target env v) (λ_ s₂=>wpAny 1e8 A (isTrue c env (eval c env)) (λok s6=>if ok=true then wpAny 1e8 A (eval elt env) (λx s₃ =>
     wpAny 1e8 A (call (.builtin "list.append") [acc,x]) (λ_ s₄=>∃ m,m<n/\I m s₄) (notedBy 1e8 A env λe s'=>R (.error e) s') s₃)
     (notedBy 1e8 A env λe s'=>R (.error e) s') s6 else ∃ m,m<n/\I m s6) (notedBy 1e8 A env λe s'=>R (.error e) s') s₂) (notedBy 1e8 A env λe s'=>R (.error e) s') s5) (notedBy 1e8 A env λe s'=>R (.error e) s') s₁) (notedBy 1e8 A env λe s'=>R (.error e) s') s)
  (n:Nat) (h:I n s):codeAny 1e8 A (.compLoop (.ListComp elt [⟨target,iter,[c],0⟩] scope pos) 0 it acc env) R s:=by
 refine codeAny_loop rfl I (λn s hI=>?_) n h;show wpAny _ _ ((compTurn (.ListComp elt [⟨target,iter,[c],0⟩] scope pos) 0 it acc env).onRaise (λx=>do noteFrame x env;theTreesLotGoes x)) _ _ s
 refine wpAny_noted ?_;rw[compTurn_list];refine wpAny_bind (wpAny_standAt (wpAny_bind (wpAny_mono (turn n s hI) (λr s₁ h₁=>?_) λ_ _ h'=>h')));cases r with
 | none=>exact wpAny_pure h₁
 | some v =>
  refine wpAny_bind (wpAny_mono h₁ (λ_ s5 h5=>?_) λ_ _ h'=>h');refine wpAny_bind (wpAny_mono h5 (λ_ s₂ h₂=>wpAny_bind (wpAny_mono (wpAny_tests_one h₂) (λok s₃ h₃=>?_) λ_ _ h'=>h')) λ_ _ h'=>h');cases ok with
  | false=>exact wpAny_pure ⟨rfl,h₃⟩
  | true =>
   exact wpAny_bind (wpAny_bind (wpAny_mono h₃ (λx s₄ h₄=>wpAny_bind (wpAny_mono h₄ (λ_ s₅ h₅=>wpAny_pure (wpAny_pure ⟨rfl,h₅⟩)) λ_ _ h'=>h')) λ_ _ h'=>h'))
variable{scope:Scope}{cl:List (Str×Addr)}{x:Str}{idx:List Nat}{NC:List Str}{C:Addr}{fp:List Addr}{pins:List (Addr×Obj)}{σ:St}{H:Hp}{s:Shared}
noncomputable def ZP(wi:TI)(idx:List Nat)(tc:TT)(te:TE):TE:=λσ H Q=>wi σ H λJ H1=>∀ D,H1 D=none->∃ W:Nat->Nat->List V->Hp->Prop,(∃ m,W 0 m [] (upd H1 D (.lst [])))/\∀ i m ys H2,W i m ys H2->H2 D=some (.lst ys) /\
 ((J.stop i H2/\Q (.ref D) H2)\/(J.go i H2/\ys.length<sizeLine/\∃ N:List V->Hp->Prop,(∀ zs H',N zs H'->∃ m',m'<m/\W (i+1) m' zs H')/\∀ y H3,J.yld i H2 y H3->tc (some y::AR σ idx) H3 λb H4=>if b=true then te (some y::AR σ idx) H4 λv H5=>H5 D=some (.lst ys)/\N (ys++[v]) (upd H5 D (.lst (ys++[v])))
  else N ys H4))
end
noncomputable def Ite(K:W.Frag)(a:Addr):It :=
 ⟨λi H=>∃ xs x,SqL K H a xs/\xs[i]?=some x,λi H y H'=>∃ t x,H t=none/\y=.ref t/\(∀ xs,SqL K H a xs->xs[i]?=some x)/\H'=upd H t (.tup [.int (i:Int),x]),λi H=>∃ xs,SqL K H a xs/\xs.length<=i⟩
theorem Ua{P:Program}{w:World}{K:W.Frag}{es:List Expr}{x1:Nat}{pos:Pos}(a it e:Addr)(hne:e≠it) :
  Turn P w K (.Tuple es x1 pos) (Ite K a) [e,it] e (λi h=>∃ old,IsEnum h e it i old/\h.IsListIter it a i) where
 mem:=by simp
 obj:=λi h st b hb=>by
  obtain⟨old,h1,o,q,c,d⟩:=st;rcases aop.mp hb with z|z
  ·rw[z]
   exact⟨_,h1,λv z=>by
    have z':Data.fields _=Data.cell v:=z;cases z'⟩
  ·rw[an7.mp z]
   exact⟨o,q,λv z=>by rw[d]at z;cases z⟩
 keep:=λi h h' st k=>by
  obtain⟨old,h1,h2⟩:=st;exact⟨old,k e (by simp) _ h1,h2.at λo q=>k it (by simp) o q⟩
 item:=by
  intro X hP hw hK hc i pins s σ H E I hf st hg;subst hP hw hK;obtain⟨xs,x,hq,hx⟩:=hg;obtain⟨its,rv,p,hz⟩:=I.list hq;obtain⟨u,hu,ru⟩:=rv.get hx;obtain⟨old,he,hit⟩:=st;have fr:H s.heap.objs.size=none:=I.hok.fresh (aoa _);refine wpAny_pyNext_enum_item he hit p.isList (x:=u) (by simpa using hu) hne λh1 heo hit1 ht1 hz1 hk1=>⟨_,rfl,wpAny_letOwnedTupleGo_enum heo λh2 he2 hs2=>?_⟩;replace hs2:Heap.SameBut e h1 h2:=hs2;have hel:e<s.heap.objs.size:=aoe he;have k2:∀ b o,b≠e->b≠it->s.heap.get? b=some o->h2.get? b=some o:=λb o z1 z2 q=>(hs2.2 b z1).trans (hk1 b o z1 z2 q);have ht2:h2.get? s.heap.objs.size=some {cls:=.type "tuple",data:=.seq #[.int i s.toks,u]}:=(hs2.2 _ (apd hel)).trans ht1;have anh:h2.IsListIter it a (i+1):=hit1.extBut hs2.extBut (aol hne);have nt:∀ b o,s.heap.get? b=some o->b≠s.heap.objs.size:=λb o q=>aok (aoe q);have nh:∀ b v,H b=some v->b≠s.heap.objs.size:=λb v q=>aq q fr;have ne':∀ b v,H b=some v->b≠e/\b≠it:=λb v q=>⟨aq q (hf e (by simp)).1,aq q (hf it (by simp)).1⟩;refine⟨.ref s.heap.objs.size,upd H s.heap.objs.size (.tup [.int (i:Int),x]),?_,rfl,⟨_,x,fr,rfl,λys hy=>by rw[I.P8 hy hq];exact hx,rfl⟩,⟨_,he2,anh⟩,λb hb=>?_⟩
  ·refine Inv.step (s:=s) (h':=h2) (t':=s.toks+1) (H:=H) (g':=s.gens) (d':=s.drawn) (ch:=[e,it]) I (λb hb=>⟨(hf b hb).2.2.2.1,(hf b hb).2.1,(hf b hb).2.2.2.2.1,(hf b hb).2.2.2.2.2⟩)
    (λb o _ _ z q _=>k2 b o (λy=>z (by simp[y])) (λy=>z (by simp[y])) q) (λb o _ _ z q _=>⟨o.slots,k2 b o (λy=>z (by simp[y])) (λy=>z (by simp[y])) q⟩)
    (λb o _ q n=>by rw[af (nt b o q)];exact n) (λb o z q=>⟨o,k2 b o (λy=>z (by simp[y])) (λy=>z (by simp[y])) q⟩)
    (λb xs q=>by rw[af (nh b _ q)];exact q) (λb o v q=>by rw[af (nh b _ q)];exact q) (λb ps q=>⟨#[],by rw[af (nh b _ q),q];simp⟩) (λm hm=>?_) (λb v q=>?_) I.bare
   ·obtain⟨o,es',ep,ho,r⟩:=hm
    exact⟨o,es',ep,k2 _ o (aol (hf e (by simp)).2.1) (aol (hf it (by simp)).2.1) ho,r⟩
   ·by_cases z:b=s.heap.objs.size
    ·subst z
     rw[ag]at q;cases q;exact⟨by show 2<=sizeLine;decide,[.int i s.toks,u],.cons ⟨_,rfl⟩ (.cons ru .nil),_,ht2,rfl,_,rfl⟩
    ·rw[af z]at q
     refine(I.hok b v q).Le (λc o hc w=>?_) (λc w=>by rw[af (nh c _ w)];exact w) λc xs w=>by rw[af (nh c _ w)];exact w
     rcases hc with y|y
     ·rw[y]at w ⊢
      exact k2 b o (ne' b v q).1 (ne' b v q).2 w
     ·exact k2 c o (ne' c _ y).1 (ne' c _ y).2 w
  ·have hb':b<s.heap.objs.size:=by
    rcases aop.mp hb with z|z
    ·rw[z];exact hel
    ·rw[an7.mp z]
     obtain⟨o,q,_⟩:=hit;exact aoe q
   rw[af (aok hb')];exact(hf b hb).1
 done:=by
  intro X hP hw hK hc i pins s σ H E I hf st hg;subst hP hw hK;obtain⟨xs,hq,hx⟩:=hg;obtain⟨its,rv,p,hz⟩:=I.list hq;obtain⟨f0,f1,f2,f3,f4,f5⟩:=hf it (by simp);have hl:=rv.length;obtain⟨old,he,hit⟩:=st;exact wpAny_pyNext_enum_end (I.ok.hd hc) he hit p.isList (by simp;omega) λh' eb=>⟨rfl,I.turned (t':=s.toks) (λb o hb q=>eb b o hb q) f0 f1 f3 f4 f5⟩
 self:=λA i s Q E st h=>by
  obtain⟨old,he,hit⟩:=st;exact wpAny_pyIter_enum he h
section
variable{X:Cx}{es:List Expr}{x1:Nat}{tp:Pos}
noncomputable def ack(K:W.Frag)(ta:TA):TI:=λσ H R=>ta σ H λvs H1=>∃ a,vs=[.ref a]/\(∃ xs,SqL K H1 a xs)/\R (Ite K a) H1
theorem vQ{a:Expr}{ta:TA}{p pos:Pos}(hg:Gl X "enumerate")(hm:X.mg "enumerate" = none)(ha:PA X [a] ta)(hs:starEach [a] X.env=[(false,eval a X.env)]:=by rfl):PI X (.Tuple es x1 tp) (.Call (.Name "enumerate" p) [a] [] pos) (ack X.K ta):=by
 intro pins s σ H R I h;refine Call_ (Jw I hg hm PyProof.Rows.Boot.«enumerate» (PyProof.Rows.callWith_type1 (thn (ha pos pins s σ H _ I h) λus s1 ⟨vs,H1,I1,r1,q1⟩=>?_) hs rfl));obtain⟨l,e,⟨xs,hq⟩,q⟩:=q1;subst e;cases r1 with
 | cons r rr =>
  cases rr;cases r;obtain⟨its,rv,pl,hz⟩:=I1.list hq;refine call_enumerate_list pl.isList λh' he hit hsz hk=>?_;refine wpAny_pyIter_enum he ?_;refine⟨s1.heap.objs.size+1,[s1.heap.objs.size+1,s1.heap.objs.size],_,_,H1,rfl,I1.kept (t':=s1.toks) hk,Ua l s1.heap.objs.size (s1.heap.objs.size+1) (Nat.succ_ne_self _),⟨_,he,hit⟩,λb hb=>?_,q⟩;have hb':s1.heap.objs.size<=b:=by
   rcases aop.mp hb with z|z
   ·rw[z];exact apE _
   ·rw[an7.mp z]
    exact aoa _
  exact I1.VN hb' (I1.hok.fresh hb')
end
theorem rD{K:W.Frag}{a:Addr}{xs:List V}{g:TG}{tb:TS}{D:Ends}{σ:St}{H:Hp}(Pv:Nat->St->Hp->Prop)(h0:Pv 0 σ H)(hl:∀ i σ H,i<=xs.length->Pv i σ H->SqL K H a xs)
  (hs:∀ i x σ H t,xs[i]?=some x->Pv i σ H->H t=none->g (.ref t) σ (upd H t (.tup [.int (i:Int),x])) λσ2 H2=>tb {D with nx:=Pv (i+1),ct:=Pv (i+1),bk:=D.nx} σ2 H2) (hd:∀ σ H,Pv xs.length σ H->D.nx σ H) :
  ∃ W:Nat->Nat->St->Hp->Prop,(∃ m,W 0 m σ H)/\∀ i m σ H,W i m σ H ->
   ((Ite K a).stop i H/\D.nx σ H)\/((Ite K a).go i H/\∃ N:St->Hp->Prop,(∀ σ' H',N σ' H'->∃ m',m'<m/\W (i+1) m' σ' H')/\∀ x H',(Ite K a).yld i H x H'->g x σ H' λσ2 H2=>tb {D with nx:=N,ct:=N,bk:=D.nx} σ2 H2):=by
 refine⟨λi m σ H=>m=xs.length-i/\i<=xs.length/\Pv i σ H,⟨xs.length,by simp,aoL _,h0⟩,?_⟩;rintro i m σ H ⟨rfl,hi,p⟩;by_cases hlt:i<xs.length
 ·refine .inr ⟨⟨xs,xs[i],hl i σ H hi p,an4 hlt⟩,Pv (i+1),λσ' H' p'=>⟨xs.length-(i+1),by omega,rfl,hlt,p'⟩,λx H' y=>?_⟩
  obtain⟨t,v,e1,e2,e3,e4⟩:=y;subst e2 e4;exact hs i v σ H t (e3 xs (hl i σ H hi p)) p e1
 ·have e:i=xs.length:=by omega
  subst e;exact .inl ⟨⟨xs,hl _ σ H hi p,aoa _⟩,hd σ H p⟩
end L2
namespace L2
open PySem
theorem IG{lo:Int}{n:Nat}{te:TE}{Q:VK}{D:Addr}{τ:St}{H:Hp}(Pv:Nat->List V->Hp->Prop)(h0:Pv 0 [] H)(hD:∀ i ys H,i<=n->Pv i ys H->H D=some (.lst ys)/\ys.length=i)(hn:n<=sizeLine)
  (hs:∀ i ys H,i<n->Pv i ys H->te (some (.int (lo+i))::τ) H λv H4=>H4 D=some (.lst ys)/\Pv (i+1) (ys++[v]) (upd H4 D (.lst (ys++[v])))) (hd:∀ ys H,Pv n ys H->Q (.ref D) H):NW (Itr lo n) D τ te Q H:=by
 refine⟨λi m ys H=>m=n-i/\i<=n/\Pv i ys H,⟨n,by simp,aoL _,h0⟩,?_⟩;rintro i m ys H2 ⟨rfl,hi,p⟩;obtain⟨hd1,hd2⟩:=hD i ys H2 hi p;refine⟨hd1,?_⟩;by_cases hlt:i<n
 ·refine .inr ⟨hlt,by omega,Pv (i+1),λzs H' p'=>⟨n-(i+1),by omega,rfl,hlt,p'⟩,λy H3 e=>?_⟩
  obtain⟨e1,e2⟩:=e;subst e1 e2;exact hs i ys _ hlt p
 ·have e:i=n:=by omega
  subst e;exact .inl ⟨aoa _,hd ys H2 p⟩
theorem lr{K:W.Frag}{a:Addr}{xs:List V}{te:TE}{Q:VK}{D:Addr}{τ:St}{H:Hp}(Pv:Nat->List V->Hp->Prop)(h0:Pv 0 [] H)(hD:∀ i ys H,i<=xs.length->Pv i ys H->H D=some (.lst ys)/\ys.length=i)(hl:∀ i ys H,i<=xs.length->Pv i ys H->SqL K H a xs)(hn:xs.length<=sizeLine)
  (hs:∀ i x ys H,xs[i]?=some x->Pv i ys H->te (some x::τ) H λv H4=>H4 D=some (.lst ys)/\Pv (i+1) (ys++[v]) (upd H4 D (.lst (ys++[v])))) (hd:∀ ys H,Pv xs.length ys H->Q (.ref D) H):NW (Itl K a) D τ te Q H:=by
 refine⟨λi m ys H=>m=xs.length-i/\i<=xs.length/\Pv i ys H,⟨xs.length,by simp,aoL _,h0⟩,?_⟩;rintro i m ys H2 ⟨rfl,hi,p⟩;obtain⟨hd1,hd2⟩:=hD i ys H2 hi p;refine⟨hd1,?_⟩;by_cases hlt:i<xs.length
 ·refine .inr ⟨⟨xs,xs[i],hl i ys H2 hi p,an4 hlt⟩,by omega,Pv (i+1),λzs H' p'=>⟨xs.length-(i+1),by omega,rfl,hlt,p'⟩,λy H3 e=>?_⟩
  obtain⟨e1,e2⟩:=e;subst e1;exact hs i y ys _ (e2 xs (hl i ys _ hi p)) p
 ·have e:i=xs.length:=by omega
  subst e;exact .inl ⟨⟨xs,hl _ ys H2 hi p,aoa _⟩,hd ys H2 p⟩
end L2
end
section
namespace L2
open PySem PySem.Spec PyProof.Rows LX
noncomputable def YZ(sc:Scope)(names:List (Str×NameKind)):List (Str×NameKind):=names.map λ(n,k)=>if(k == .free&&sc.kind == .function&&sc.names.lookup n == some .cell) then(n,.cell) else(n,k)
noncomputable def W5(sc scope:Scope)(x:Str)(ns N:List Str)(idx:List Nat):Prop :=
 (∀ y∈scope.names,y.2≠.cell)/\(∀ y∈scope.names,y.2=.local->scope.names.lookup y.1=some .local)/\scope.names.lookup x=some .local/\(∀ p∈YZ sc scope.names,p.2=.cell\/p.2=.free->p.1∈ns)/\(x::idx.map λi=>N.getD i x).Nodup /\
 ∀ i∈idx,i<N.length/\((sc.names.lookup (N.getD i x)=some .cell\/sc.names.lookup (N.getD i x)=some .free)/\((YZ sc scope.names).lookup (N.getD i x)=some .cell\/(YZ sc scope.names).lookup (N.getD i x)=some .free))
noncomputable instance (sc scope:Scope) (x:Str) (ns N:List Str) (idx:List Nat):Decidable (W5 sc scope x ns N idx):=by unfold W5;infer_instance
theorem Fv{y:Str}:∀ {cl:List (Str×Addr)},y∈cl.map (·.1)->∃ c,cl.lookup y=some c
 | [],h=>by simp at h
 | (n,c)::r,h=>by
  by_cases e:y=n
  ·exact⟨c,by simp[List.lookup,e]⟩
  ·have h':y∈r.map (·.1):=by
    rw[aov]at h;rcases aop.mp h with z|z
    ·exact absurd z e
    ·exact z
   obtain⟨c',q⟩:=Fv h';have hb:(y == n)=false:=beq_eq_false_iff_ne.mpr e;exact⟨c',by simp only[List.lookup,hb];exact q⟩
theorem lA{X:Cx}{sc scope:Scope}{cl:List (Str×Addr)}{x:Str}{ns N:List Str}{idx:List Nat}(hsc:X.env.scope=sc)(hN:X.N=N)(hk:scope.kind=.function)(p:W5 sc scope x ns N idx)(hn:cl.map (·.1)=ns)
  (acm:closureFor scope X.env=pure cl) (ani:∀ q∈cl,X.env.cells.lookup q.1=some q.2):GY X scope cl x idx (x::idx.map λi=>N.getD i x):=by
 obtain⟨p1,p2,p3,p4,p5,p6⟩:=p;have re:(relabel scope X.env).names=YZ sc scope.names:=by subst hsc;rfl
 subst hsc hN hn;refine⟨acm,λy c q=>ani (y,c) (aoP q),λy h=>?_,p1,hk,p2,p3,rfl,p5,λi hi=>?_⟩
 ·rw[re]at h
  refine Fv ?_;rcases h with h|h
  ·exact p4 (y,.cell) (aoP h) (.inl rfl)
  ·exact p4 (y,.free) (aoP h) (.inr rfl)
 ·rw[re]
  exact p6 i hi
theorem II{P:Program}{w:World}{X:Cx}:gT (CXE P w) X (λ_ _ _ _=>False):=λ_ _ _ _ _ _ _ ⟨_,_,_,_,_,_,_,_,_,q⟩=>q.elim
section
variable{X:Cx}{scope:Scope}{cl:List (Str×Addr)}{x:Str}{idx:List Nat}{NC:List Str}{pins:List (Addr×Obj)}{σ:St}{H:Hp}{s:Shared}
theorem NM{i:Nat}{y:Str}{elt iter:Expr}{px py pos SQ:Pos}{wi:TI}{te:TE}(hN:X.N.Nodup)(hi':X.N[i]?=some y)(hx:X.env.scope.names.lookup y=some .local)(c:GY X scope cl x idx NC)(hc:X.calm=true)(hi:PI X (.Name x px) iter wi)
  (he:∀ C fp s₀ H₀,PE (cxC X scope cl NC C fp s₀ H₀) elt te) (hsw:swapsWith (.ListComp elt [⟨.Name x px,iter,[],0⟩] scope pos) (some (.Name y py)) SQ.line X.env=pure true:=by rfl)
  (hs:∀ x,foldedSetIterable iter X.env x=pure x:=by intro _;rfl):PS X (.Assign [.Name y py] (.ListComp elt [⟨.Name x px,iter,[],0⟩] scope pos) SQ) (Xv (YY wi idx te) (tS i)):=by
 intro pins s σ H D0 I h;rw[exec_Assign_Name_used _ _ _ _ hsw];refine wpAny_bind (wpAny_standAt (wpAny_bind ?_));show wpAny _ _ (do let _ <-comprehension (.ListComp elt [⟨.Name x px,iter,[],0⟩] scope pos) scope X.env _ (newList []) false (eval iter X.env) (some (assign (.Name y py) X.env))) _ _ s
 refine wpAny_bind (wpAny_mono (wpAny_comprehension_free (use:=some (assign (.Name y py) X.env)) (Q:=λ_ s'=>SP X pins D0 .next s') rfl hs c.abL c.kind c.loc
  (thn (hi pins s σ H _ I h) λv s1 h1=>thn h1 λitv s2 h2=>?_)) (λ_ s' hq=>wpAny_pure (wpAny_pure hq)) λ_ _ e=>e)
 obtain⟨it,fp,tn,J,H2,rfl,I2,T,st2,f2,q⟩:=h2;refine wpAny_newObj_type (wpAny_newFunctionEnv c.Sr (by intro y hy;simp at hy) (λh₁ hns₁ hsb₁=>?_) c.kind);dsimp only at hns₁ hsb₁ ⊢;have I3:Inv X pins σ (upd H2 s2.heap.objs.size (.lst [])) {s2 with heap:=s2.heap.push {cls:=.type "list",data:=.seq ([]:List Value).toArray},toks:=s2.toks}:=I2.YN (ys:=[]) (its:=[]) .nil (aoL _);obtain⟨W,⟨m0,w0⟩,turn⟩:=q s2.heap.objs.size I2.fresh;generalize hD:s2.heap.objs.size=D at *;generalize hH:s2.heap.push {cls:=.type "list",data:=.seq ([]:List Value).toArray}=h3 at *;have SO:∀ b∈fp,b<D:=λb hb=>by
  obtain⟨o,e,_⟩:=T.obj _ _ st2 b hb;rw[<-hD];exact aoe e
 have hlt:∀ b∈fp,b<h3.objs.size:=λb hb=>by
  rw[<-hH,aps,hD];exact apF (SO b hb)
 have hf:∀ b∈fp,G6 X pins (upd H2 D (.lst [])) b:=λb hb=>⟨by rw[af (aok (SO b hb))];exact(f2 b hb).1,(f2 b hb).2⟩;have kp:∀ b o,h3.get? b=some o->h₁.get? b=some o:=λb o e=>hsb₁.extBut b o (aok (aoe e)) (an8 _ e);have I4:Inv 1e2 [] (none::AR σ idx) (upd H2 D (.lst [])) {s2 with heap:=h₁,toks:=s2.toks+([]:List (Str×Value)).length} :=
  Jn (s:={s2 with heap:=h3,toks:=s2.toks}) c I3 hf hlt hns₁ kp
 have G7:∀ {H':Hp},(∀ b∈fp,H' b=none)->∀ b∈fp,G6 1e2 [] H' b:=λhn b hb =>
  ⟨hn b hb,aok (hlt b hb),λz=>(aop.mp (I3.Dp b z)).elim (hf b hb).2.1 (hf b hb).2.2.1,.inl hb,λy a q=>(hf b hb).2.2.2.2.1 y a (c.sub _ _ q),λp hp=>(by cases hp)⟩
 have st1:tn 0 h₁:=T.keep 0 _ _ st2 λb hb o e=>kp b o (by rw[<-hH];exact an8 _ e);have loop:∀ s4:Shared,s4={s2 with heap:=h₁,toks:=s2.toks+([]:List (Str×Value)).length} ->
   codeAny 1e6 X.A (.compLoop (.ListComp elt [⟨.Name x px,iter,[],0⟩] scope pos) 0 (.ref it) (.ref D) (compEnvC scope cl h3.objs.size X.env)) (compPost 1e6 X.A X.xe (some (assign (.Name y py) X.env)) (λ_ s'=>SP X pins D0 .next s') (.ref D) h3.objs.size) s4:=by
  rintro s4 rfl;refine C7 (λn s'=>∃ i ys H' v0,Inv 1e2 [] (v0::AR σ idx) H' s'/\tn i s'.heap/\(∀ b∈fp,H' b=none)/\W i n ys H')
   ?_ m0 ⟨0,[],_,none,I4,st1,λb hb=>(hf b hb).1,w0⟩
  rintro n s5 ⟨i5,ys,H5,v0,I5,st5,fr5,w5⟩;obtain⟨hDl,alt⟩:=turn i5 n ys H5 w5;rcases alt with⟨stop,qn⟩|⟨go,hz,N,hN',step⟩
  ·refine thn (T.done 1e2 rfl rfl rfl hc i5 [] s5 _ H5 _ I5 (G7 fr5) st5 stop) λr s6 ⟨hr,I6⟩=>?_
   subst hr;obtain⟨m,ns6,_⟩:=id I6.loc;have J6:Inv X pins σ H5 s6:=I3.K8 (ch:=fp) I6.os I6.base I6.hok I6.bare λb hb=>⟨(hf b hb).2.2.2.1,(hf b hb).2.1,(hf b hb).2.2.2.2.1,(hf b hb).2.2.2.2.2⟩;have fC:G6 X pins H5 h3.objs.size:=I3.VN (aoa _) I6.free;obtain⟨o,es,ep,ho,rr⟩:=ns6;have od:∀ v,o.data≠.cell v:=λv z=>by
    rw[rr.1]at z;cases z
   show wpAny _ _ (assign (.Name y py) X.env (.ref D)) (λ_ s''=>∃ m,s''.heap.Ns h3.objs.size m/\∀ h',Heap.SameBut h3.objs.size s''.heap h'->SP X pins D0 .next {s'' with heap:=h'}) X.xe s6;have J7:=J6.pinned (fp:=[h3.objs.size]) (λb hb=>by rw[an7.mp hb];exact fC) (λb hb=>by rw[an7.mp hb];exact⟨o,ho,od⟩);refine wpAny_mono (aX (pos:=py) hN hi' (.inl hx) (.inr hx) _ s6 _ H5 (.ref D) (.ref D) D0.nx J7 rfl qn) (λ_ s7 ⟨σ7,H7,I7,q7⟩=>?_) (λ_ _ z=>z);have pC:=I7.pin (h3.objs.size,o) (aod _ (aod _ (hZ (an7.mpr rfl) ho)));refine⟨m,⟨o,es,ep,pC.1,rr⟩,λh' hs'=>⟨σ7,H7,?_,q7⟩⟩;exact I7.pF.turned (t':=s7.toks) (it:=h3.objs.size) (λb o hb e=>hs'.extBut b o hb e) pC.2.1 fC.2.1 fC.2.2.2.1 fC.2.2.2.2.1 fC.2.2.2.2.2
  ·refine thn (T.item 1e2 rfl rfl rfl hc i5 [] s5 _ H5 _ I5 (G7 fr5) st5 go) λr s6 ⟨u,hr,h6⟩=>?_
   subst hr;refine thn h6 λ_ s7 ⟨y,H7,I7,r7,y7,st7,fr7⟩=>?_;have I7':=I7.pinned (G7 fr7) (T.obj _ _ st7);have hnl:(relabel scope X.env).names.lookup x=some .local:=lookup_relabel_local c.xl;refine wpAny_mono (aX (X:=cxC X scope cl NC h3.objs.size fp {s2 with heap:=h3,toks:=s2.toks} (upd H2 D (.lst []))) (i:=0) (x:=x) (pos:=px) c.nd (by show NC[0]?=some x;rw[c.nc];rfl) (.inl hnl) (.inr hnl) _ s7 _ H7 y u
    (λσ' H'=>σ'=some y::AR σ idx/\H'=H7) I7' r7 ⟨rfl,rfl⟩) (λ_ s8 ⟨σ8,H8,I8,e8,e8'⟩=>?_) λ_ _ z=>z.elim
   subst e8 e8';refine wpAny_mono (he _ _ _ _ _ s8 _ H8 _ I8 (step y H8 y7)) (λw s9 ⟨v,H9,I9,r9,hD9,n9⟩=>?_) λ_ _ z=>z.elim;obtain⟨m',hm,w9⟩:=hN' _ _ n9;refine wpAny_mono (Jo (X:=1e2) I9 hD9 hz r9) (λ_ s10 I10=>?_) λ_ _ z=>z.elim;refine⟨m',hm,i5+1,ys++[v],_,some y,I10.pF,T.keep _ _ _ st7 λb hb o e=>(I10.pin (b,o) (aod _ (aod _ (hZ hb e)))).1,λb hb=>?_,w9⟩;obtain⟨o,e,d⟩:=T.obj _ _ st7 b hb;exact(I10.pin (b,o) (aod _ (aod _ (hZ hb e)))).2.1
 exact codeAny_compStart_list (loop _ rfl) (T.self _ 0 _ _ _ st1 (loop _ rfl))
noncomputable def anj(K:W.Frag):R2:=λx y H Q=>∃ a b xs ys,x=.ref a/\y=.ref b/\SqL K H a xs/\SqL K H b ys/\xs.length=ys.length/\xs.all mV=true/\ys.all mV=true/\Q (.bl (!W3 xs ys)) H
theorem ZQ{X:Cx}(hu:X.A.units<cLine):OpR X (compareOp .NotEq) (anj X.K):=by
 intro pins s σ H x y v u Q I rx ry h;obtain⟨a,b,xs,ys,rfl,rfl,ha,hb,hl,fx,fy,q⟩:=h;cases rx;cases ry;obtain⟨vs,r1,⟨o1,n1,e1,c1,_,g1⟩,_⟩:=I.list ha;obtain⟨ws,r2,⟨o2,n2,e2,c2,_,g2⟩,_⟩:=I.list hb;have l1:=r1.length;have l2:=r2.length;refine SeqAt.RcNeAt.lists (e:=λj=>eqV (xs.getD j .non) (ys.getD j .non)) ⟨o1,e1,c1,n1,g1⟩ ⟨o2,e2,c2,n2,g2⟩ (by simp only[aoc];omega) hu (λj h1 h2=>?_) _ _ _ _ ⟨.bl _,H,I,rfl,?_⟩
 ·simp only[aoc]at h1 h2
  obtain⟨w1,z1,rz1⟩:=r1.get (i:=j) (x:=xs[j]' 1e1) (an4 1e1);obtain⟨w2,z2,rz2⟩:=r2.get (i:=j) (x:=ys[j]' 1e1) (an4 1e1);have a1:vs.toArray[j]=w1:=by
   have:=(an5.mp z1).2
   simpa using this
  have a2:ws.toArray[j]=w2:=by
   have:=(an5.mp z2).2
   simpa using this
  rw[a1,a2];have d1:xs.getD j .non=xs[j]' 1e1:=by simp[List.getD,an4 (show j<xs.length by omega)]
  have d2:ys.getD j .non=ys[j]' 1e1:=by simp[List.getD,an4 (show j<ys.length by omega)]
  show SeqAt.EqAt _ _ _ _ (eqV (xs.getD j .non) (ys.getD j .non));rw[d1,d2];exact NU rz1 rz2 (api.mp fx _ (aoV _)) (api.mp fy _ (aoV _))
 ·have:vs.toArray.size=xs.length:=by simp only[aoc];omega
  rw[this];exact q
end
theorem SR:∀ {us:List Value} {ks:List Int},us.length=ks.length->(∀(j:Nat) (v:Value),us[j]?=some v->∃ t,v=Value.int (ks.getD j 0) t)->IntsAre us ks
 | [],[],_,_=>.nil
 | [],_::_,h,_=>by simp at h
 | _::_,[],h,_=>by simp at h
 | u::us,k::ks,h,f=>by
  obtain⟨t,e⟩:=f 0 u rfl;subst e;exact .cons k t (SR (by simpa using h) λj v q=>f (j+1) v q)
section
variable{X:Cx}
theorem Ls{P:Program}{w:World}{vs:List (Key×Value)}{ks:List Int}{acc:Array Value}(hk:vs.map (·.1)=ks.map Sum.inl)(ha:acc.size=vs.length)(h:∀(j:Nat) (v:Value),acc[j]?=some v->∃ k x,vs[j]?=some (k,x)/\(cA P w).is k v=true):IntsAre acc.toList ks:=by
 have hl:vs.length=ks.length:=by
  have:=congrArg List.length hk
  simpa using this
 refine SR (by rw[apM];omega) λj v e=>?_;obtain⟨k,x,h1,h2⟩:=h j v (by rw[<-Array.getElem?_toList];exact e);have h3:(vs.map (·.1))[j]?=some k:=by rw[aog,h1];rfl
 rw[hk,aog]at h3;obtain⟨i,hi,rfl⟩:=aoo.mp h3;have h4:u6 (.inl i) v=true:=h2;rcases cx h4 with⟨i',t,e1,e2⟩|⟨y,t,e1,_⟩
 ·injection e1 with e1
  subst e1;exact⟨t,by rw[e2];simp[List.getD,hi]⟩
 ·cases e1
end
theorem Lu{xs ys:List Int}(p:xs.Perm ys)(hx:xs.Pairwise (·<=·))(hy:ys.Pairwise (·<=·)):xs=ys :=
 p.eq_of_pairwise (λa b _ _ h1 h2=>Int.le_antisymm h1 h2) hx hy
theorem VW{v:V}(h:mV v=true):eqV v v=true:=by
 cases v with
 | non=>rfl
 | bl b=>cases b<;>rfl
 | int n=>simp[eqV]
 | str z=>simp[eqV]
 | _=>exact absurd (show false=true from h) aob
section
variable{X:Cx}
end
section
variable{X:Cx}{tg:Expr}
theorem PS.nox{st:Stmt}{t:TS}(h:PS X.nox st t):PS X st t:=λpins s σ H D I hw =>
 wpAny_mono (h pins s σ H D (I.JB _) hw) (λ_ _ q=>q.sD) λ_ _ z=>False.elim z
end
section
variable{X:Cx}{scope:Scope}{cl:List (Str×Addr)}{x:Str}{idx:List Nat}{NC:List Str}{pins:List (Addr×Obj)}{σ:St}{H:Hp}{s:Shared}
theorem Vp{i:Nat}{y:Str}{elt iter ct:Expr}{px py pos SQ:Pos}{wi:TI}{tc:TT}{te:TE}(hN:X.N.Nodup)(hi':X.N[i]?=some y)(hx:X.env.scope.names.lookup y=some .local)(c:GY X scope cl x idx NC)(hc:X.calm=true)(hi:PI X (.Name x px) iter wi)
  (ht:∀ C fp s₀ H₀,PT (cxC X scope cl NC C fp s₀ H₀) ct tc) (he:∀ C fp s₀ H₀,PE (cxC X scope cl NC C fp s₀ H₀) elt te) (hsw:swapsWith (.ListComp elt [⟨.Name x px,iter,[ct],0⟩] scope pos) (some (.Name y py)) SQ.line X.env=pure true:=by rfl)
  (hs:∀ x,foldedSetIterable iter X.env x=pure x:=by intro _;rfl):PS X (.Assign [.Name y py] (.ListComp elt [⟨.Name x px,iter,[ct],0⟩] scope pos) SQ) (Xv (ZP wi idx tc te) (tS i)):=by
 intro pins s σ H D0 I h;rw[exec_Assign_Name_used _ _ _ _ hsw];refine wpAny_bind (wpAny_standAt (wpAny_bind ?_));show wpAny _ _ (do let _ <-comprehension (.ListComp elt [⟨.Name x px,iter,[ct],0⟩] scope pos) scope X.env _ (newList []) false (eval iter X.env) (some (assign (.Name y py) X.env))) _ _ s
 refine wpAny_bind (wpAny_mono (wpAny_comprehension_free (use:=some (assign (.Name y py) X.env)) (Q:=λ_ s'=>SP X pins D0 .next s') rfl hs c.abL c.kind c.loc
  (thn (hi pins s σ H _ I h) λv s1 h1=>thn h1 λitv s2 h2=>?_)) (λ_ s' hq=>wpAny_pure (wpAny_pure hq)) λ_ _ e=>e)
 obtain⟨it,fp,tn,J,H2,rfl,I2,T,st2,f2,q⟩:=h2;refine wpAny_newObj_type (wpAny_newFunctionEnv c.Sr (by intro y hy;simp at hy) (λh₁ hns₁ hsb₁=>?_) c.kind);dsimp only at hns₁ hsb₁ ⊢;have I3:Inv X pins σ (upd H2 s2.heap.objs.size (.lst [])) {s2 with heap:=s2.heap.push {cls:=.type "list",data:=.seq ([]:List Value).toArray},toks:=s2.toks}:=I2.YN (ys:=[]) (its:=[]) .nil (aoL _);obtain⟨W,⟨m0,w0⟩,turn⟩:=q s2.heap.objs.size I2.fresh;generalize hD:s2.heap.objs.size=D at *;generalize hH:s2.heap.push {cls:=.type "list",data:=.seq ([]:List Value).toArray}=h3 at *;have SO:∀ b∈fp,b<D:=λb hb=>by
  obtain⟨o,e,_⟩:=T.obj _ _ st2 b hb;rw[<-hD];exact aoe e
 have hlt:∀ b∈fp,b<h3.objs.size:=λb hb=>by
  rw[<-hH,aps,hD];exact apF (SO b hb)
 have hf:∀ b∈fp,G6 X pins (upd H2 D (.lst [])) b:=λb hb=>⟨by rw[af (aok (SO b hb))];exact(f2 b hb).1,(f2 b hb).2⟩;have kp:∀ b o,h3.get? b=some o->h₁.get? b=some o:=λb o e=>hsb₁.extBut b o (aok (aoe e)) (an8 _ e);have I4:Inv 1e2 [] (none::AR σ idx) (upd H2 D (.lst [])) {s2 with heap:=h₁,toks:=s2.toks+([]:List (Str×Value)).length} :=
  Jn (s:={s2 with heap:=h3,toks:=s2.toks}) c I3 hf hlt hns₁ kp
 have G7:∀ {H':Hp},(∀ b∈fp,H' b=none)->∀ b∈fp,G6 1e2 [] H' b:=λhn b hb =>
  ⟨hn b hb,aok (hlt b hb),λz=>(aop.mp (I3.Dp b z)).elim (hf b hb).2.1 (hf b hb).2.2.1,.inl hb,λy a q=>(hf b hb).2.2.2.2.1 y a (c.sub _ _ q),λp hp=>(by cases hp)⟩
 have st1:tn 0 h₁:=T.keep 0 _ _ st2 λb hb o e=>kp b o (by rw[<-hH];exact an8 _ e);have loop:∀ s4:Shared,s4={s2 with heap:=h₁,toks:=s2.toks+([]:List (Str×Value)).length} ->
   codeAny 1e6 X.A (.compLoop (.ListComp elt [⟨.Name x px,iter,[ct],0⟩] scope pos) 0 (.ref it) (.ref D) (compEnvC scope cl h3.objs.size X.env)) (compPost 1e6 X.A X.xe (some (assign (.Name y py) X.env)) (λ_ s'=>SP X pins D0 .next s') (.ref D) h3.objs.size) s4:=by
  rintro s4 rfl;refine JG (λn s'=>∃ i ys H' v0,Inv 1e2 [] (v0::AR σ idx) H' s'/\tn i s'.heap/\(∀ b∈fp,H' b=none)/\W i n ys H')
   ?_ m0 ⟨0,[],_,none,I4,st1,λb hb=>(hf b hb).1,w0⟩
  rintro n s5 ⟨i5,ys,H5,v0,I5,st5,fr5,w5⟩;obtain⟨hDl,alt⟩:=turn i5 n ys H5 w5;rcases alt with⟨stop,qn⟩|⟨go,hz,N,hN',step⟩
  ·refine thn (T.done 1e2 rfl rfl rfl hc i5 [] s5 _ H5 _ I5 (G7 fr5) st5 stop) λr s6 ⟨hr,I6⟩=>?_
   subst hr;obtain⟨m,ns6,_⟩:=id I6.loc;have J6:Inv X pins σ H5 s6:=I3.K8 (ch:=fp) I6.os I6.base I6.hok I6.bare λb hb=>⟨(hf b hb).2.2.2.1,(hf b hb).2.1,(hf b hb).2.2.2.2.1,(hf b hb).2.2.2.2.2⟩;have fC:G6 X pins H5 h3.objs.size:=I3.VN (aoa _) I6.free;obtain⟨o,es,ep,ho,rr⟩:=ns6;have od:∀ v,o.data≠.cell v:=λv z=>by
    rw[rr.1]at z;cases z
   show wpAny _ _ (assign (.Name y py) X.env (.ref D)) (λ_ s''=>∃ m,s''.heap.Ns h3.objs.size m/\∀ h',Heap.SameBut h3.objs.size s''.heap h'->SP X pins D0 .next {s'' with heap:=h'}) X.xe s6;have J7:=J6.pinned (fp:=[h3.objs.size]) (λb hb=>by rw[an7.mp hb];exact fC) (λb hb=>by rw[an7.mp hb];exact⟨o,ho,od⟩);refine wpAny_mono (aX (pos:=py) hN hi' (.inl hx) (.inr hx) _ s6 _ H5 (.ref D) (.ref D) D0.nx J7 rfl qn) (λ_ s7 ⟨σ7,H7,I7,q7⟩=>?_) (λ_ _ z=>z);have pC:=I7.pin (h3.objs.size,o) (aod _ (aod _ (hZ (an7.mpr rfl) ho)));refine⟨m,⟨o,es,ep,pC.1,rr⟩,λh' hs'=>⟨σ7,H7,?_,q7⟩⟩;exact I7.pF.turned (t':=s7.toks) (it:=h3.objs.size) (λb o hb e=>hs'.extBut b o hb e) pC.2.1 fC.2.1 fC.2.2.2.1 fC.2.2.2.2.1 fC.2.2.2.2.2
  ·refine thn (T.item 1e2 rfl rfl rfl hc i5 [] s5 _ H5 _ I5 (G7 fr5) st5 go) λr s6 ⟨u,hr,h6⟩=>?_
   subst hr;refine thn h6 λ_ s7 ⟨y,H7,I7,r7,y7,st7,fr7⟩=>?_;have I7':=I7.pinned (G7 fr7) (T.obj _ _ st7);have hnl:(relabel scope X.env).names.lookup x=some .local:=lookup_relabel_local c.xl;refine wpAny_mono (aX (X:=cxC X scope cl NC h3.objs.size fp {s2 with heap:=h3,toks:=s2.toks} (upd H2 D (.lst []))) (i:=0) (x:=x) (pos:=px) c.nd (by show NC[0]?=some x;rw[c.nc];rfl) (.inl hnl) (.inr hnl) _ s7 _ H7 y u
    (λσ' H'=>σ'=some y::AR σ idx/\H'=H7) I7' r7 ⟨rfl,rfl⟩) (λ_ s8 ⟨σ8,H8,I8,e8,e8'⟩=>?_) λ_ _ z=>z.elim
   subst e8 e8';refine wpAny_mono (ht _ _ _ _ _ s8 _ H8 _ I8 (step y H8 y7)) (λbb s11 ⟨H11,I11,q11⟩=>?_) λ_ _ z=>z.elim;have fin:∀ {H12:Hp} {s12:Shared} {zs:List V} {m':Nat},Inv 1e2 ([]++JC fp s7.heap) (some y::AR σ idx) H12 s12->m'<n->W (i5+1) m' zs H12 ->
     ∃ m,m<n/\∃ i ys H' v0,Inv 1e2 [] (v0::AR σ idx) H' s12/\tn i s12.heap/\(∀ b∈fp,H' b=none)/\W i m ys H':=λ{H12 s12 zs m'} I12 hm w12=>by
    refine⟨m',hm,i5+1,zs,_,some y,I12.pF,T.keep _ _ _ st7 λb hb o e=>(I12.pin (b,o) (aod _ (aod _ (hZ hb e)))).1,λb hb=>?_,w12⟩;obtain⟨o,e,d⟩:=T.obj _ _ st7 b hb;exact(I12.pin (b,o) (aod _ (aod _ (hZ hb e)))).2.1
   cases bb with
   | false =>
    obtain⟨m',hm,w9⟩:=hN' _ _ q11;exact fin I11 hm w9
   | true =>
    refine wpAny_mono (he _ _ _ _ _ s11 _ H11 _ I11 q11) (λw s9 ⟨v,H9,I9,r9,hD9,n9⟩=>?_) λ_ _ z=>z.elim;obtain⟨m',hm,w9⟩:=hN' _ _ n9;refine wpAny_mono (Jo (X:=1e2) I9 hD9 hz r9) (λ_ s10 I10=>?_) λ_ _ z=>z.elim;exact fin I10 hm w9
 exact codeAny_compStart_list (loop _ rfl) (T.self _ 0 _ _ _ st1 (loop _ rfl))
noncomputable def SS(J:It)(D:Addr)(τ:St)(tc:TT)(te:TE)(Q:VK)(H:Hp):Prop:=∃ W:Nat->Nat->List V->Hp->Prop,(∃ m,W 0 m [] H)/\∀ i m ys H2,W i m ys H2->H2 D=some (.lst ys) /\
 ((J.stop i H2/\Q (.ref D) H2)\/(J.go i H2/\ys.length<sizeLine/\∃ N:List V->Hp->Prop,(∀ zs H',N zs H'->∃ m',m'<m/\W (i+1) m' zs H')/\∀ y H3,J.yld i H2 y H3->tc (some y::τ) H3 λb H4=>if b=true then te (some y::τ) H4 λv H5=>H5 D=some (.lst ys)/\N (ys++[v]) (upd H5 D (.lst (ys++[v])))
  else N ys H4))
noncomputable def ZR(wi:TI)(idx:List Nat)(tc:TT)(te:TE):TE:=λσ H Q=>wi σ H λJ H1=>∀ D,H1 D=none->SS J D (AR σ idx) tc te Q (upd H1 D (.lst []))
theorem Vq{i:Nat}{y:Str}{elt iter ct:Expr}{px py pos SQ:Pos}{wi:TI}{tc:TT}{te:TE}(hN:X.N.Nodup)(hi':X.N[i]?=some y)(hx:X.env.scope.names.lookup y=some .local)(c:GY X scope cl x idx NC)(hc:X.calm=true)(hi:PI X (.Name x px) iter wi)
  (ht:∀ C fp s₀ H₀,PT (cxC X scope cl NC C fp s₀ H₀) ct tc) (he:∀ C fp s₀ H₀,PE (cxC X scope cl NC C fp s₀ H₀) elt te) (hsw:swapsWith (.ListComp elt [⟨.Name x px,iter,[ct],0⟩] scope pos) (some (.Name y py)) SQ.line X.env=pure true:=by rfl)
  (hs:∀ x,foldedSetIterable iter X.env x=pure x:=by intro _;rfl):PS X (.Assign [.Name y py] (.ListComp elt [⟨.Name x px,iter,[ct],0⟩] scope pos) SQ) (Xv (ZR wi idx tc te) (tS i)) :=
 Vp hN hi' hx c hc hi ht he hsw hs
end
end L2
end
section
namespace L2
open PySem PySem.Spec PyProof.Rows LX
section
variable{P:Program}{w:World}{A:Around}{E:Value->Shared->Prop}{s:Shared}{a:Addr}{S:Int->Bool}{n:Nat}
end
end L2
end
section
namespace L2
open PySem PySem.Spec PyProof.Rows LX
section
variable{P:Program}{w:World}{A:Around}{R:Result->Shared->Prop}{I:Addr}{fp wr:List Addr}{G:Array GenState->Array GenState->Prop}{n:Nat}{p:Nat->Value->Prop}{St:Nat->Shared->Prop}
end
section
variable{P:Program}{w:World}{A:Around}{E:Value->Shared->Prop}{s:Shared}
end
section
variable{P:Program}{w:World}{A:Around}{E:Value->Shared->Prop}{s:Shared}{it a:Addr}{first:Value}{i n ep:Nat}
end
section
variable{P:Program}{w:World}{A:Around}{E:Value->Shared->Prop}{s:Shared}{it a:Addr}{first:Value}{i n ep:Nat}{es:Array (Int×Value)}{t:SetTable}
end
section
variable{P:Program}{w:World}{A:Around}{E:Value->Shared->Prop}{s:Shared}{I a:Addr}{ep:Nat}{es:Array (Int×Value)}{t:SetTable}{sl:Nat->Nat}{vs:List Value}
end
end L2
end
section
namespace L2
open PySem PySem.Spec PyProof.Rows LX PySem.W
section
variable{P:Program}{w:World}{A:Around}{E:Value->Shared->Prop}{s:Shared}{a:Addr}{ep:Nat}{es:Array (Int×Value)}{t:SetTable}
end
section
variable{P:Program}{w:World}{A:Around}{E:Value->Shared->Prop}{s:Shared}{a:Addr}{ep:Nat}{es:Array (Int×Value)}{t:SetTable}
end
section
variable{X:Cx}
end
end L2
end
section
namespace L2
open PySem PySem.Spec PyProof.Rows LX
section
variable{X:Cx}{pins:List (Addr×Obj)}{σ:St}{H:Hp}{s:Shared}{d:Addr}{kvs:List (Key×V)}
theorem Inv.frozen(I:Inv X pins σ H s)(hd:H d=some (.dK kvs)):∃ o,Inv X pins σ (upd H d (.frz o (.dK kvs))) s:=by
 obtain⟨hz,h0,vs,rel,o,es,ep,ho,r⟩:=WZ I.hok hd;have nn:∀ {b:Addr},H b=none->upd H d (.frz o (.dK kvs)) b=none:=λ{b} q=>by
  rw[af λz=>by rw[z,hd]at q;cases q];exact q
 have ns:∀ {b:Addr} {u:HO},H b=some u->u≠.dK kvs->upd H d (.frz o (.dK kvs)) b=some u:=λ{b u} q n=>by
  rw[af λz=>n (by rw[z,hd]at q;exact(aos q).symm)];exact q
 refine⟨o,I.ok,I.os,I.bare,⟨I.base.keep,I.base.slot,λb ob q n e=>nn (I.base.free b ob q n e),I.base.there,λb xs q=>ns (I.base.Lf b xs q) 1e0,λb ob u q=>ns (I.base.Jv b ob u q) 1e0,λb ps q=>?_⟩,I.loc,I.cell,nn I.free,λx c q=>nn (I.sj x c q),λp hp=>?_,λa u q=>?_,I.len⟩
 ·obtain⟨more,q'⟩:=I.base.Lg b ps q
  exact⟨more,ns q' 1e0⟩
 ·obtain⟨p1,p2,p3⟩:=I.pin p hp
  exact⟨p1,nn p2,p3⟩
 ·have st:∀ {a:Addr} {u:HO},i7 X.prog X.w H s.heap a u->i7 X.prog X.w (upd H d (.frz o (.dK kvs))) s.heap a u:=λx=>x.Le (λ_ _ _ z=>z) (λb z=>ns z (by intro y;cases y)) λb xs z=>ns z (by intro y;cases y)
  by_cases e:a=d
  ·subst e
   rw[ag]at q;cases q;exact⟨ho,st (I.hok a _ hd)⟩
  ·rw[af e]at q
   exact st (I.hok a u q)
noncomputable def ank(te:TE):TE:=λσ H Q=>te σ H λv H1=>∃ d kvs,H1 d=some (.dK kvs)/\∀ o,Q v (upd H1 d (.frz o (.dK kvs)))
theorem GZ{e:Expr}{te:TE}(h:PE X e te):PE X e (ank te):=by
 intro pins s σ H Q I t;refine wpAny_mono (h pins s σ H _ I t) (λu s1 ⟨v,H1,I1,r,q⟩=>?_) λ_ _ z=>z;obtain⟨d,kvs,hd,q⟩:=q;obtain⟨o,I2⟩:=I1.frozen hd;exact⟨v,_,I2,r,q o⟩
noncomputable def Itd(d:Addr)(o:Obj)(kvs:List (Key×V)):It :=
 ⟨λi H=>H d=some (.frz o (.dK kvs))/\i<kvs.length,λi H x H'=>H'=H/\∃ p,kvs[i]?=some p/\x=kV p.1,λi H=>H d=some (.frz o (.dK kvs))/\kvs.length<=i⟩
theorem ZS{P:Program}{w:World}{k:Key}{u:Value}(h:(cA P w).is k u=true):RelV (kV k) u:=by
 have h4:u6 k u=true:=h;rcases cx h4 with⟨i,t,e1,e2⟩|⟨y,t,e1,e2⟩
 ·subst e1 e2
  exact⟨t,rfl⟩
 ·subst e1 e2
  exact⟨t,rfl⟩
theorem Ss{o:Obj}(I:Inv X pins σ H s)(hd:H d=some (.frz o (.dK kvs))){es:Array DictEntry}{ep:Nat}(eo:o.data=.dict es ep):kvs.length<=sizeLine/\(d == sysModules)=false/\∃ vs,KV kvs vs/\s.heap.DictAt (cA X.prog X.w) d vs ep:=by
 obtain⟨ho,hz,h0,vs,rel,o',es',ep',ho',c1,c2,c3⟩:=(show i7 X.prog X.w H s.heap d (.frz o (.dK kvs)) from I.hok d _ hd);have e:o'=o:=aos (ho'.symm.trans ho);subst e;rw[eo]at c2;injection c2 with e1 e2;subst e1 e2;exact⟨hz,h0,vs,rel,o',es,ho',c1,eo,c3⟩
theorem Vr{o:Obj}(I:Inv X pins σ H s)(hd:H d=some (.frz o (.dK kvs))):∃ es ep,o.data=.dict es ep:=by
 obtain⟨ho,hz,h0,vs,rel,o',es',ep',ho',c1,c2,c3⟩:=(show i7 X.prog X.w H s.heap d (.frz o (.dK kvs)) from I.hok d _ hd);have e:o'=o:=aos (ho'.symm.trans ho);subst e;exact⟨es',ep',c2⟩
theorem VX:∀ {kvs:List (Key×V)} {vs:List (Key×Value)},KV kvs vs->∀ {i:Nat} {p:Key×V},kvs[i]?=some p->∃ x,vs[i]?=some (p.1,x)
 | _,_,.nil,_,_,h=>by simp at h
 | (k,v)::_,(k',x)::_,.cons a r,0,p,h=>by
  have h1:(k,v)=p:=by simpa using h
  subst h1;obtain⟨e,_⟩:=a;have e':k=k':=e;subst e';exact⟨x,rfl⟩
 | _::_,_::_,.cons _ r,i+1,p,h=>by
  have:=VX r (i:=i) (p:=p) (by simpa using h)
  simpa using this
theorem Ub{P:Program}{w:World}{K:W.Frag}{tg:Expr}(d it:Addr)(o:Obj)(kvs:List (Key×V))(ne:d≠it):Turn P w K tg (Itd d o kvs) [it] it (λi h=>∃ es ep,o.data=.dict es ep/\h.IsKeyIter it d i kvs.length ep) where
 mem:=by simp
 obj:=λi h st b hb=>by
  have e:b=it:=by simpa using hb
  subst e;obtain⟨es,ep,_,o,e,c,d⟩:=st;exact⟨o,e,λv z=>by rw[d]at z;cases z⟩
 keep:=λi h h' ⟨es,ep,eo,st⟩ k=>⟨es,ep,eo,st.at λo e=>k it (by simp) o e⟩
 item:=by
  rintro X hP hw hK hc i pins s σ H E I hf ⟨es,ep,eo,st⟩ ⟨hd,hi⟩;subst hP hw hK;obtain⟨hz,h0,vs,rel,hat⟩:=Ss I hd eo;have hl:=rel.length;obtain⟨x,hx⟩:=VX rel (an4 hi);obtain⟨f0,f1,f2,f3,f4,f5⟩:=hf it (by simp);rw[hl]at st;refine wpAny_pyNext_dict_item st hat hx λkey h' hk st' sb=>?_;have I1:Inv X pins σ H {s with heap:=h'}:=I.turned (t':=s.toks) (λb o hb e=>(sb.2 b hb).trans e) f0 f1 f3 f4 f5;exact⟨key,rfl,letGo_keyiter (s':={s with heap:=h'}) st' ⟨kV (kvs[i]'hi).1,H,I1,ZS hk,⟨rfl,_,an4 hi,rfl⟩,⟨es,ep,eo,by rw[hl];exact st'⟩,λb hb=>(hf b hb).1⟩⟩
 done:=by
  rintro X hP hw hK hc i pins s σ H E I hf ⟨es,ep,eo,st⟩ ⟨hd,hi⟩;subst hP hw hK;obtain⟨hz,h0,vs,rel,hat⟩:=Ss I hd eo;have hl:=rel.length;obtain⟨f0,f1,f2,f3,f4,f5⟩:=hf it (by simp);rw[hl]at st;exact wpAny_pyNext_dict_end (I.ok.hd hc) st hat (List.getElem?_eq_none 1e1) λh' eb=>⟨rfl,I.turned (t':=s.toks) (λb o hb e=>eb b o hb e) f0 f1 f3 f4 f5⟩
 self:=λ_ _ _ _ _ ⟨_,_,_,st⟩ h=>wpAny_pyIter_keyiter st h
noncomputable def acn(td:TE):TI:=λσ H R=>td σ H λx H1=>∃ d o kvs,x=.ref d/\H1 d=some (.frz o (.dK kvs))/\R (Itd d o kvs) H1
theorem yV{tg l:Expr}{tl:TE}(hl:PE X l tl):PI X tg l (acn tl):=by
 intro pins s σ H R I h;refine thn (hl pins s σ H _ I h) λv s1 ⟨x,H1,I1,r1,q1⟩=>?_;obtain⟨d,o,kvs,e,hd,q⟩:=q1;subst e;cases r1;obtain⟨es,ep,eo⟩:=Vr I1 hd;obtain⟨hz,h0,vs,rel,hat⟩:=Ss I1 hd eo;have hl:=rel.length;refine wpAny_pyIter_dict h0 hat ?_;rw[<-hl];refine⟨s1.heap.objs.size,[s1.heap.objs.size],_,_,H1,rfl,I1.kept (t':=s1.toks) λb o e=>an8 _ e,Ub d _ o kvs (aok hat.lt_size),⟨es,ep,eo,_,aoB _ rfl,rfl,rfl⟩,λb hb=>?_,q⟩;have e:b=s1.heap.objs.size:=by simpa using hb
 subst e;exact I1.VN (aoa _) (I1.hok.fresh (aoa _))
end
theorem Dt{d:Addr}{o:Obj}{kvs:List (Key×V)}{g:TG}{tb:TS}{D:Ends}{σ:St}{H:Hp}(Pv:Nat->St->Hp->Prop)(h0:Pv 0 σ H)(hl:∀ i σ H,i<=kvs.length->Pv i σ H->H d=some (.frz o (.dK kvs)))
  (hs:∀ i p σ H,kvs[i]?=some p->Pv i σ H->g (kV p.1) σ H λσ2 H2=>tb {D with nx:=Pv (i+1),ct:=Pv (i+1),bk:=D.nx} σ2 H2) (hd:∀ σ H,Pv kvs.length σ H->D.nx σ H) :
  ∃ W:Nat->Nat->St->Hp->Prop,(∃ m,W 0 m σ H)/\∀ i m σ H,W i m σ H ->
   ((Itd d o kvs).stop i H/\D.nx σ H)\/((Itd d o kvs).go i H/\∃ N:St->Hp->Prop,(∀ σ' H',N σ' H'->∃ m',m'<m/\W (i+1) m' σ' H')/\∀ x H',(Itd d o kvs).yld i H x H'->g x σ H' λσ2 H2=>tb {D with nx:=N,ct:=N,bk:=D.nx} σ2 H2):=by
 refine⟨λi m σ H=>m=kvs.length-i/\i<=kvs.length/\Pv i σ H,⟨kvs.length,by simp,aoL _,h0⟩,?_⟩;rintro i m σ H ⟨rfl,hi,p⟩;by_cases hlt:i<kvs.length
 ·refine .inr ⟨⟨hl i σ H hi p,hlt⟩,Pv (i+1),λσ' H' p'=>⟨kvs.length-(i+1),by omega,rfl,hlt,p'⟩,λx H' y=>?_⟩
  obtain⟨e1,q,e2,e3⟩:=y;subst e1 e3;exact hs i q σ _ e2 p
 ·have e:i=kvs.length:=by omega
  subst e;exact .inl ⟨⟨hl _ σ H hi p,aoa _⟩,hd σ H p⟩
section
variable{X:Cx}
end
section
variable{X:Cx}{pins:List (Addr×Obj)}{σ:St}{H:Hp}{s:Shared}
end
theorem Rg:∀ {ms ns:List Int},ms.length=ns.length->W3 (ms.map V.int) (ns.map V.int)=decide (ms=ns):=by
 intro ms ns hl;rw[apx,decide_eq_true_eq];unfold W3;rw[api];constructor
 ·intro h
  refine List.ext_getElem hl λj h1 h2=>?_
  have:=h j (by rw[an6];exact apj.mpr h1)
  simpa[List.getD,h1,h2,eqV] using this
 ·rintro rfl j hj
  rw[an6]at hj;have hj:=apj.mp hj;simp[List.getD,hj,eqV]
section
variable{X:Cx}
theorem Vs:∀ {x y:V} {us:List Value},Vals [x,y] us->∃ u v,us=[u,v]/\RelV x u/\RelV y v
 | _,_,_,.cons a (.cons b .nil)=>⟨_,_,rfl,a,b⟩
end
section
variable{X:Cx}
noncomputable def ZT:List V->Hp->VK->Prop:=λvs H Q=>∃(p:Addr) (kvs:List (Key×V)) (ks:List Int),vs=[.ref p]/\Rd H p (.dK kvs)/\kvs.map (·.1)=ks.map Sum.inl/\∀ l:Addr,H l=none->Q (.ref l) (upd H l (.lst (ks.map V.int)))
theorem IJ(hc:X.calm=true):yI X (.type "list") ZT:=by
 rintro pins s σ H xs us Q I r ⟨p,kvs,ks,rfl,hp,hk,q⟩;obtain⟨u,rfl,ru⟩:=r.one;cases (show u=Value.ref p from ru);obtain⟨hz,hd,vs,rel,dd⟩:=AQ I.hok hp;obtain⟨ep,hat⟩:=dd.dictAt;have hl:ks.length=kvs.length:=by
  have:=congrArg List.length hk
  simpa using this.symm
 refine PySem.W.kdl_call (PySem.W.kdl_dict (knd:=cA X.prog X.w) (kvs:=vs) (ep:=ep) hd) (I.ok.hd hc) hat (by rw[<-rel.length];exact hz) λh' tk acc c hkp hS hacc=>?_;have hI:IntsAre acc.toList ks:=Ls (by rw[<-rel.keys];exact hk) hacc.1 hacc.2;refine⟨.ref s.heap.objs.size,_,I.laid (a:=s.heap.objs.size) (o:=.lst (ks.map V.int)) (t':=tk) hkp (aoa _) ?_,rfl,q _ (I.hok.fresh (aoa _))⟩;refine⟨by rw[an6,hl];exact hz,acc.toList,c,tV hI,?_⟩;rw[hS]
end
section
variable{X:Cx}
end
theorem Rh{d:Addr}{o:Obj}{kvs:List (Key×V)}{tc:TT}{te:TE}{Q:VK}{D:Addr}{τ:St}{H:Hp}(Pv:Nat->List V->Hp->Prop)(h0:Pv 0 [] H)(hD:∀ i ys H,i<=kvs.length->Pv i ys H->H D=some (.lst ys)/\ys.length<=i)(hl:∀ i ys H,i<=kvs.length->Pv i ys H->H d=some (.frz o (.dK kvs)))(hn:kvs.length<=sizeLine)
  (hs:∀ i p ys H,kvs[i]?=some p->Pv i ys H->tc (some (kV p.1)::τ) H λb H4=>if b=true then te (some (kV p.1)::τ) H4 λv H5=>H5 D=some (.lst ys)/\Pv (i+1) (ys++[v]) (upd H5 D (.lst (ys++[v]))) else Pv (i+1) ys H4)
  (hd:∀ ys H,Pv kvs.length ys H->Q (.ref D) H):SS (Itd d o kvs) D τ tc te Q H:=by
 refine⟨λi m ys H=>m=kvs.length-i/\i<=kvs.length/\Pv i ys H,⟨kvs.length,by simp,aoL _,h0⟩,?_⟩;rintro i m ys H2 ⟨rfl,hi,p⟩;obtain⟨d1,d2⟩:=hD i ys H2 hi p;refine⟨d1,?_⟩;have hS:=hl i ys H2 hi p;by_cases hlt:i<kvs.length
 ·refine .inr ⟨⟨hS,hlt⟩,by omega,Pv (i+1),λzs H' p'=>⟨kvs.length-(i+1),by omega,rfl,hlt,p'⟩,λy H3 q=>?_⟩
  obtain⟨e1,q',e2,e3⟩:=q;subst e1 e3;exact hs i q' ys _ e2 p
 ·have e:i=kvs.length:=by omega
  subst e;exact .inl ⟨⟨hS,aoa _⟩,hd ys H2 p⟩
theorem Hg:typeLookup (Value.type "list") (Str.ofString "keys")=pure none:=am_miss_of_fast (by decide +kernel)
theorem list_getattr_none:typeLookup (Value.type "list") (Str.ofString "__getattr__")=pure none:=am_miss_of_fast (by decide +kernel)
section
variable{P:Program}{w:World}{A:Around}{E:Value->Shared->Prop}
theorem XX{h:Heap}{g:Array GenState}{d:Drawn}{t:Nat}{os:OsState}{a:Addr}{its:Array Value}{n:Nat}{u:Tok}{Q:PySem.Fin->Shared->Prop}(hx:h.get? a=some {cls:=.type "list",data:=.seq its n})(hA:A.handled=none)
  (q:∀(h':Heap) (tk:Nat) (e:Addr),h.NewAttrErr h' e (.ref a) (Str.ofString "keys")->E (.ref e) {heap:=h',gens:=g,drawn:=d,toks:=tk,os:=os}) :
  wpAny (model P w) A (Builtin.«object.__getattribute__» {pos:=[.ref a,.str (Str.ofString "keys") u]}) Q E {heap:=h,gens:=g,drawn:=d,toks:=t,os:=os}:=by
 have hT:Shared.TypeIs {heap:=h,gens:=g,drawn:=d,toks:=t,os:=os} (.ref a) "list" := ⟨_,hx,rfl⟩;have f1:=Hg;unfold Builtin.«object.__getattribute__»;wp_walk
 exact wpAny_raiseAttrError hA q (by decide +kernel)
theorem Uc{h:Heap}{g:Array GenState}{d:Drawn}{t:Nat}{os:OsState}{a:Addr}{its:Array Value}{n:Nat}{Q:Option Value->Shared->Prop}(hx:h.get? a=some {cls:=.type "list",data:=.seq its n})(hA:A.handled=none)
  (q:∀(h':Heap) (tk:Nat),(∀ b o,h.get? b=some o->h'.get? b=some o)->Q none {heap:=h',gens:=g,drawn:=d,toks:=tk,os:=os}) :
  wpAny (model P w) A (getAttr? (.ref a) (Str.ofString "keys")) Q E {heap:=h,gens:=g,drawn:=d,toks:=t,os:=os}:=by
 have hT:∀ t,Shared.TypeIs {heap:=h,gens:=g,drawn:=d,toks:=t,os:=os} (.ref a) "list" := λ_=>⟨_,hx,rfl⟩;have hT0:=hT t;have hT1:=hT (t+1);have f2:=PySem.F.slot_list_getattribute.lookup;have f3:=PySem.F.slot_list_getattribute.bind (Value.ref a);have f5:=list_getattr_none;have f1:=sub_AttributeError;unfold getAttr? getAttrBy?;wp_walk
 refine codeAny_call_builtin PySem.F.slot_list_getattribute.plain PySem.F.entry_list_ga (PySem.F.slot_list_getattribute.check _ _ _ _ (Value.ref a) [Value.str (Str.ofString "keys") t] [] _ hT1 (PySem.F.args_list_getattribute_2 _ _) (XX hx (by simp[hA]) λh' tk e he=>?_));obtain⟨t',u',hg⟩:=he.there;have hTe:Shared.TypeIs {heap:=h',gens:=g,drawn:=d,toks:=tk,os:=os} (.ref e) "AttributeError" := ⟨_,hg,rfl⟩;have q':=q h' tk he.keeps;show wpAny _ _ (getattributeRaised _ _ _ _ _ _ _) _ _ _;unfold getattributeRaised;wp_walk
 all_goals exact q'
end
theorem Lv:entryFor table "dict.update.loop" = some Builtin.«dict.update.loop» := entryFor_of_tree (by rfl)
theorem yM:plainId "dict.update.loop" = true:=by decide +kernel
section
variable{P:Program}{w:World}{A:Around}{R:Result->Shared->Prop}{KK:Type}[DecidableEq KK]{knd:KeyKind P w KK}
theorem stored_new{kvs:List (KK×Value)}{k:KK}{v:Value}(h:k∉kvs.map (·.1)):stored kvs k v=kvs++[(k,v)]:=by
 rw[stored.eq_1,if_neg];intro z;obtain⟨p,hp,e⟩:=List.any_eq_true.mp z;exact h (aoy.mpr ⟨p,hp,of_decide_eq_true e⟩)
theorem Lw{h h':Heap}{D:Addr}{kvs:List (KK×Value)}(d:Heap.DictOf knd h D kvs)(k:∀ o,h.get? D=some o->h'.get? D=some o):Heap.DictOf knd h' D kvs:=by
 obtain⟨o,es,ep,h1,h2⟩:=d;exact⟨o,es,ep,k o h1,h2⟩
theorem Ri{I l D:Addr}{items:Array Value}(hA:A.in1.handled=none)(hne:l≠I)(hDI:D≠I)(hDl:D≠l)(kv:List (KK×Value))(hn:kv.length=items.size)(nd:(kv.map (·.1)).Nodup)(hz:kv.length<=sizeLine) :
  ∀(k i:Nat) (s:Shared),items.size-i=k->i<=items.size->(s.heap.IsListIter I l i/\s.heap.IsList l items)->Heap.DictOf knd s.heap D (kv.take i) ->
  (∀ j (hj:j<kv.length),∃(b:Addr) (o:Obj) (kx:Value) (n:Nat),items[j]?=some (.ref b)/\s.heap.get? b=some o/\o.cls=.type "tuple" /\ o.data=.seq #[kx,kv[j].2] n/\knd.is kv[j].1 kx=true/\b≠D/\b≠I) ->
  (∀(h':Heap) (tk:Nat),Heap.DictOf knd h' D kv->(∀ b o,b≠D->b≠I->s.heap.get? b=some o->h'.get? b=some o)->R (.ok (.ret .none)) {s with heap:=h',toks:=tk}) ->
  codeAny (model P w) A (.builtin "dict.update.loop" ⟨[.ref D,.ref I,.int (i:Int) 0,.none],[]⟩) R s:=by
 have W:=Walks.list (prog:=P) (w:=w) hA I l hne items;intro k;induction k with
 | zero =>
  intro i s hk hi st hS ht q;have e:i=items.size:=by omega
  subst e;refine codeAny_builtin Lv ?_;rw[Around.under_plainId yM _];show wpAny _ A.in1 (pyNext (.ref I) >>= _) _ _ s;refine wpAny_bind (W.done s _ _ st λh' tk hm=>?_);rw[<-hn,aoh (aoa _)]at hS;wp_walk
  exact q h' tk (Lw hS λo z=>hm D o (by simpa using hDI) z) λb o _ nb z=>hm b o (by simpa using nb) z
 | succ k ih =>
  intro i s hk hi st hS ht q;have hlt:i<items.size:=by omega
  refine codeAny_builtin Lv ?_;rw[Around.under_plainId yM _];show wpAny _ A.in1 (pyNext (.ref I) >>= _) _ _ s;refine wpAny_bind (W.item i s _ _ hlt st λv h' tk hP st' hm=>?_);obtain⟨b,o,kx,n,hb,ho,hc,hd,hk1,nb1,nb2⟩:=ht i 1e1;have hv:v=.ref b:=by
   have hP:items[i]?=some v:=hP;rw[hb]at hP;exact(aos hP).symm
  subst hv;have ho':=hm b o (by simpa using nb2) ho;have hT:Shared.TypeIs {s with heap:=h',toks:=tk} (.ref b) "tuple" := ⟨_,ho',hc⟩;show wpAny _ A.in1 (holding [Value.ref b] _ >>= _) _ _ _;refine wpAny_bind (wpAny_holding (wpAny_bind (wpAny_tryCatch ?_)));unfold Builtin.Dict.pairItems;refine wpAny_bind (wpAny_typeOf hT ?_);rw[if_pos 2e1];refine wpAny_bind (wpAny_seqItems ho' hd (wpAny_pure ?_));show wpAny _ A.in1 (holding [kx,kv[i].2] (dictSet D kx kv[i].2)) _ _ _;have hS':=Lw (h':=h') hS λo z=>hm D o (by simpa using hDI) z;have hi':i<kv.length:=by omega
  have tk1:kv.take (i+1)=kv.take i++[kv[i]]:=aoz hi';have nk:kv[i].1∉(kv.take i).map (·.1):=λg=>by
   have h1:((kv.take i).map (·.1)++[kv[i].1]).Nodup:=by
    have e9:(kv.take (i+1)).map (·.1)=(kv.take i).map (·.1)++[kv[i].1]:=by
     rw[tk1,aon];rfl
    rw[<-e9];exact((List.take_sublist _ _).map _).nodup nd
   exact(ao0.mp h1).2.2 _ g _ (an7.mpr rfl) rfl
  refine wpAny_holding (wpAny_dictSet_pairs hk1 hS' (λh2 dd sb=>?_) (by rw[aoj];omega));rw[stored_new nk,show kv.take i++[(kv[i].1,kv[i].2)]=kv.take (i+1) from tk1.symm]at dd;refine wpAny_pure ⟨plainId_quiet yM _,?_⟩;show codeAny (model P w) A (.builtin "dict.update.loop" ⟨[.ref D,.ref I,.int ((i+1:Nat):Int) 0,.none],[]⟩) R _;have keep:∀ b o,b≠D->b≠I->s.heap.get? b=some o->h2.get? b=some o:=λb o n1 n2 z=>(sb.2 b n1).trans (hm b o (by simpa using n2) z);refine ih (i+1) _ 1e1 hlt (W.frame _ h' h2 st' λb hb' o z=>?_) dd (λj hj=>?_) λh3 tk3 d3 k3=>q h3 tk3 d3 λb o n1 n2 z=>k3 b o n1 n2 (keep b o n1 n2 z)
  ·rw[sb.2 b (λe:b=D=>?_)]
   ·exact z
   ·rw[e]at hb'
    rcases aop.mp hb' with g|g
    ·exact hDI g
    ·exact hDl (an7.mp g)
  ·obtain⟨b,o,kx,n,x1,x2,x3,x4,x5,x6,x7⟩:=ht j hj
   exact⟨b,o,kx,n,x1,keep b o x6 x7 x2,x3,x4,x5,x6,x7⟩
end
section
variable{P:Program}{w:World}{A:Around}{E:Value->Shared->Prop}{KK:Type}[DecidableEq KK]{knd:KeyKind P w KK}
theorem Rj{s:Shared}{l:Addr}{items:Array Value}{nl:Nat}{Q:Value->Shared->Prop}(hA:A.handled=none)(hl:s.heap.get? l=some {cls:=.type "list",data:=.seq items nl})(kv:List (KK×Value))(hn:kv.length=items.size)(nd:(kv.map (·.1)).Nodup)(hz:kv.length<=sizeLine)
  (ht:∀ j (hj:j<kv.length),∃(b:Addr) (o:Obj) (kx:Value) (n:Nat),items[j]?=some (.ref b)/\s.heap.get? b=some o/\o.cls=.type "tuple" /\ o.data=.seq #[kx,kv[j].2] n/\knd.is kv[j].1 kx=true)
  (q:∀(h':Heap) (tk:Nat),Heap.DictOf knd h' s.heap.objs.size kv->(∀ b o,s.heap.get? b=some o->h'.get? b=some o)->Q (.ref s.heap.objs.size) {s with heap:=h',toks:=tk}) :
  wpAny (model P w) A (call (.type "dict") [.ref l]) Q E s:=by
 obtain⟨h0,g,d,t,os⟩:=s;dsimp only at hl ht q;refine callType_codes PySem.F.kt_called_dict (PySem.F.kt_typeCall_dict_1 _) PySem.F.entry_dict_init (kt_code_dict_new (Q₁:=λv u=>v=.ref h0.objs.size/\u={heap:=h0.push {cls:=.type "dict",data:=.dict #[]},gens:=g,drawn:=d,toks:=t,os:=os}) _ ⟨rfl,rfl⟩) λobj s1 ⟨e1,e2⟩=>?_;subst e1 e2;have YQ:=Heap.DictOf.new (knd:=knd) h0;have hp:∀ b o,h0.get? b=some o->(h0.push {cls:=.type "dict",data:=.dict #[]}).get? b=some o:=λb o z=>an8 _ z;have hT:=YQ.typeIs (s:={heap:=h0.push {cls:=.type "dict",data:=.dict #[]},gens:=g,drawn:=d,toks:=t,os:=os});have hTl:Shared.TypeIs {heap:=h0.push {cls:=.type "dict",data:=.dict #[]},gens:=g,drawn:=d,toks:=t,os:=os} (.ref l) "list" := ⟨_,hp _ _ hl,rfl⟩;refine⟨hT,PySem.F.args_dict_init_2 _ _,?_⟩;unfold Builtin.«dict.__init__» Builtin.Dict.selfAndRest;refine wpAny_bind (wpAny_bind (wpAny_notOrdered_dict hT ?_));show wpAny _ _ (pure _) _ _ _;refine wpAny_pure ?_;show wpAny _ _ (Builtin.Dict.updateFrom _ _ _ _ _) _ _ _;unfold Builtin.Dict.updateFrom;refine wpAny_bind (wpAny_typeOf hTl ?_);dsimp only;rw[if_pos 2e1];refine wpAny_bind (Uc (hp _ _ hl) (by simp[hA]) λh1 tk1 k1=>?_)
 try dsimp only
 rw[if_pos (show(none:Option Value).isNone=true from rfl)];refine wpAny_bind (wpAny_rule ?_);have hl1:h1.IsList l items:=⟨_,k1 _ _ (hp _ _ hl),rfl,_,rfl⟩;refine wpAny_bind (wpAny_pyIter_list hl1 ?_);refine wpAny_pure ⟨plainId_quiet yM _,?_⟩;have l0:l<h0.objs.size:=aoe hl;obtain⟨oD,esD,epD,gD,aco⟩:=YQ;have gD1:=k1 _ _ gD;have s1:h0.objs.size<h1.objs.size:=aoe gD1;have up:∀ b o,h0.get? b=some o->(h1.push {cls:=Value.type "list_iterator",data:=Data.fields #[Value.ref l,Value.int 0 0]}).get? b=some o:=λb o z=>an8 _ (k1 _ _ (hp _ _ z));refine Ri (knd:=knd) (I:=h1.objs.size) (l:=l) (D:=h0.objs.size) (items:=items) (by simp[hA]) (aok (Nat.lt_trans l0 s1)) (aok s1) (apd l0) kv hn nd hz (items.size-0) 0 _ rfl (aoL _) ⟨⟨_,aoB _ rfl,rfl,rfl⟩,hl1.push _⟩ ?_ (λj hj=>?_) λh' tk dd kk=>?_
 ·exact⟨oD,esD,epD,an8 _ gD1,aco⟩
 ·obtain⟨b,o,kx,n,x1,x2,x3,x4,x5⟩:=ht j hj
  have b0:=aoe x2;exact⟨b,o,kx,n,x1,up _ _ x2,x3,x4,x5,aok b0,aok (Nat.lt_trans b0 s1)⟩
 ·refine⟨rfl,q h' tk dd λb o z=>?_⟩
  have b0:=aoe z;exact kk b o (aok b0) (aok (Nat.lt_trans b0 s1)) (up _ _ z)
end
section
variable{P:Program}{w:World}{A:Around}{E:Value->Shared->Prop}
end
section
variable{X:Cx}
theorem Qj{pins:List (Addr×Obj)}{σ:St}{H:Hp}{s:Shared}(I:Inv X pins σ H s):∀(xs:List Addr) (kvs:List (Key×V)),Paired (λx (p:Key×V)=>H x=some (.tup [kV p.1,p.2])) xs kvs ->
  ∃ vs:List (Key×Value),KV kvs vs/\vs.map (·.1)=kvs.map (·.1)/\vs.length=xs.length/\∀ j (h1:j<vs.length) (h2:j<xs.length),∃(o:Obj) (kx:Value) (n:Nat),s.heap.get? xs[j]=some o/\o.cls=.type "tuple" /\ o.data=.seq #[kx,vs[j].2] n/\(cA X.prog X.w).is vs[j].1 kx=true
 | _,_,.nil=>⟨[],.nil,rfl,rfl,λj h=>absurd h (apA _)⟩
 | x::xs,p::kvs,.cons h t=>by
  obtain⟨vs,r1,r2,r3,r4⟩:=Qj I xs kvs t;obtain⟨its,rv,⟨o,ho,hc,n,hd⟩,_⟩:=I.tuple (SqT.of h);obtain⟨u,v,rfl,ru,rv'⟩:=Vs rv;refine⟨(p.1,v)::vs,.cons ⟨rfl,rv'⟩ r1,by rw[aov,aov,r2],by rw[aoF,aoF,r3],λj h1 h2=>?_⟩;cases j with
  | zero=>exact⟨o,u,n,ho,hc,hd,FV ru⟩
  | succ j=>exact r4 j (Nat.lt_of_succ_lt_succ h1) (Nat.lt_of_succ_lt_succ h2)
theorem Qk:∀ {xs:List Addr} {its:List Value},Vals (xs.map V.ref) its->its=xs.map Value.ref
 | [],_,.nil=>rfl
 | x::xs,_,.cons r t=>by
  cases (show _=Value.ref x from r);rw[aov,<-Qk t]
noncomputable def ZU:List V->Hp->VK->Prop:=λvs H Q=>∃(p:Addr) (xs:List Addr) (kvs:List (Key×V)),vs=[.ref p]/\H p=some (.lst (xs.map V.ref))/\Paired (λx (p:Key×V)=>H x=some (.tup [kV p.1,p.2])) xs kvs/\(kvs.map (·.1)).Nodup/\∀ l:Addr,H l=none->Q (.ref l) (upd H l (.dK kvs))
theorem IK(hc:X.calm=true):yI X (.type "dict") ZU:=by
 rintro pins s σ H xs us Q I r ⟨p,xs,kvs,rfl,hp,hpr,nd,q⟩;obtain⟨u,rfl,ru⟩:=r.one;cases (show u=Value.ref p from ru);obtain⟨its,n,rv,ho,hz⟩:=I.lst hp;obtain⟨vs,r1,r2,r3,r4⟩:=Qj I xs kvs hpr;have ei:=Qk rv;subst ei;rw[an6]at hz;have hl:kvs.length=vs.length:=by
  have:=congrArg List.length r2
  simpa using this.symm
 refine Rj (knd:=cA X.prog X.w) (I.ok.hd hc) ho vs (by simp[r3]) (by rw[r2];exact nd) 1e1 (λj hj=>?_) λh' tk dd k=>?_
 ·obtain⟨o,kx,n,x1,x2,x3,x4⟩:=r4 j hj 1e1
  exact⟨xs[j],o,kx,n,by simp[show j<xs.length by omega],x1,x2,x3,x4⟩
 ·refine⟨.ref s.heap.objs.size,_,I.laid (a:=s.heap.objs.size) (o:=.dK kvs) (t':=tk) k (aoa _) ?_,rfl,q _ (I.hok.fresh (aoa _))⟩
  exact Sl 1e1 (beq_eq_false_iff_ne.mpr (aol (aok I.big))) r1 dd
end
noncomputable def Su(K:W.Frag)(Dc:Addr)(ts:TS)(D:Ends):St->XK:=λσ c _ H=>∃ C cd,c=.ref C/\h9 K C cd/\cd.mro.contains (.ref Dc)=true/\ts D σ H
noncomputable def acp(K:W.Frag)(Dc:Addr)(tb:(St->XK)->TS)(ts:TS):TS:=λD σ H=>tb (Su K Dc ts D) D σ H
section
variable{X:Cx}
theorem NN{body Rk:List Stmt}{b₀:Stmt}{x:Str}{np hpos pos:Pos}{Dc:Addr}{cdD:ClassData}{tb:(St->XK)->TS}{ts:TS}(hst:X.stack=X.env::X.outer)(hfr:X.env.frame=some X.env.locals)(hg:Gl X x)(hm:X.mg x=some (.ref Dc))
  (hD:h9 X.K Dc cdD)
  (hb:∀(pins:List (Addr×Obj)) (E:Value->Shared->Prop) (EK:St->XK),gT (CXE X.prog X.w) (X.FW pins E) EK->PSs (X.FW pins E) body (tb EK))
  (hs:∀ ea,PSs (X.pR ea) (b₀::Rk) ts) (hdb:(x == ("__debug__" : Str))=false:=by decide) :
  PS X (.Try body [.ExceptHandler (some (.Name x np)) none (b₀::Rk) hpos] [] [] pos) (acp X.K Dc tb ts):=by
 intro pins s σ H D I h;refine wpAny_Try_except ?_;refine wpAny_mono (hb pins (λe s₁=>∃ σ' H1 sc,Inv X pins σ' H1 sc/\CXE X.prog X.w X.stack H1 sc (Su X.K Dc ts D σ') e s₁) (Su X.K Dc ts D)
  (λNT σ' H1 sc e s' J q=>⟨σ',H1,sc,J.pH,q⟩) [] s σ H D (I.FW _) h) (λfl s1 q=>?_) λe s1 q=>?_
 ·cases fl with
  | next =>
   obtain⟨σ',H',J,q⟩:=q;exact wpAny_execs_nil ⟨σ',H',J.pH,q⟩
  | brk=>obtain⟨σ',H',J,q⟩:=q;exact⟨σ',H',J.pH,q⟩
  | cont=>obtain⟨σ',H',J,q⟩:=q;exact⟨σ',H',J.pH,q⟩
  | ret u=>obtain⟨v,σ',H',J,r,q⟩:=q;exact⟨v,σ',H',J.pH,r,q⟩
 ·obtain⟨σ',H1,sc,J,ea,Cv,T,od,fs,sl,H',rfl,l,C,cd,ec,xc,hmr,q⟩:=q
  cases ec;have hA:X.A.frames=some (X.env::X.outer):=by rw[J.ok.frames,hst]
  have hF:s1.heap.FunFrames X.base (X.env::X.outer):=by rw[<-hst];exact l.frames J
  have st:∀(m:Heap) (tk:Nat),Kept (dI X.stack) [ea,T] s1.heap m->Inv X pins σ' H' {s1 with heap:=m,toks:=tk}:=λm tk k=>by
   obtain⟨un,hok⟩:=l.on (t':=s1.toks) J k;exact J.K8 l.os un hok l.bare λb z=>absurd z (by simp)
  refine IF hA hF hfr l.at_ l.trail λm T' oc tsx z1 z2 z3 z4 z5=>?_;have Te:T'≠ea:=apd (aoi (aoe l.at_) z1);have f1:(fs.setIfInBounds 1 (Value.ref T'))[1]?=some (.ref T'):=by
   have:=l.trail.size
   simp[this]
  have k1:Kept (dI X.stack) [ea,T] s1.heap m:=by rw[hst];exact z2
  refine nZ (s:={s1 with heap:=m}) z3 f1 Te z4 (aoq.mp z5).1 λm' q1 q2 q3=>?_;have nT:∀ b o,s1.heap.get? b=some o->b≠T':=λb o q=>aok (aoi (aoe q) z1);have k2:Kept (dI X.stack) [ea,T] s1.heap m':=⟨λb o q hb hx=>q1 b o (nT b o q) (k1.plain b o q hb hx),λb o q hb hx=>by
   obtain⟨sm,r⟩:=k1.frame b o q hb hx;exact⟨sm,q1 b _ (nT b o q) r⟩⟩
  have J2:=st m' s1.toks k2;refine wpAny_handleBy_cons (codeAny_handlers_test ?_) 1e0;refine qY (X:=X.pR ea) (J2.pR ea) hg hm ?_ hdb;refine Og xc hD J2.kIn q3 ?_;rw[hmr];refine codeAny_handlers_suite ?_;cases q2 with
  | @some _ oc2 ts2 d2 sm2 y1 y2 y3 y4 =>
  refine nZ (s:={s1 with heap:=m'}) q3 y1 y2 y3 (aoq.mp y4).1 λm3 r1 r2 r3=>?_;have k3:Kept (dI X.stack) [ea,T] s1.heap m3:=⟨λb o q hb hx=>r1 b o (nT b o q) (k2.plain b o q hb hx),λb o q hb hx=>by
   obtain⟨sm,r⟩:=k2.frame b o q hb hx;exact⟨sm,r1 b _ (nT b o q) r⟩⟩
  have J3:=st m3 s1.toks k3;refine wpAny_mono (hs ea pins _ _ _ D (J3.pR ea) q) (λfl s6 w=>?_) λ_ _ z=>False.elim z;cases fl with
  | next=>obtain⟨σ6,H6,J6,w⟩:=w;exact⟨_,_,J6.uncaught J.ok,w⟩
  | brk=>obtain⟨σ6,H6,J6,w⟩:=w;exact⟨_,_,J6.uncaught J.ok,w⟩
  | cont=>obtain⟨σ6,H6,J6,w⟩:=w;exact⟨_,_,J6.uncaught J.ok,w⟩
  | ret u=>obtain⟨v,σ6,H6,J6,r,w⟩:=w;exact⟨v,_,_,J6.uncaught J.ok,r,w⟩
end
inductive Vl where
 | a (v:V)
 | l (xs:List Vl)
 | t (xs:List Vl)
noncomputable def Rp(H:Hp):Nat->V->Vl->Prop
 | 0,v,.a x=>v=x/\mV x=true
 | 0,_,.l _=>False
 | 0,_,.t _=>False
 | _+1,v,.a x=>v=x/\mV x=true
 | n+1,v,.l xs=>∃ p us,v=.ref p/\H p=some (.lst us)/\us.length=xs.length/\∀(i:Nat) (u:V) (x:Vl),us[i]?=some u->xs[i]?=some x->Rp H n u x
 | n+1,v,.t xs=>∃ p us,v=.ref p/\H p=some (.tup us)/\us.length=xs.length/\∀(i:Nat) (u:V) (x:Vl),us[i]?=some u->xs[i]?=some x->Rp H n u x
noncomputable def eqD:Nat->Vl->Vl->Bool
 | _,.a x,.a y=>eqV x y
 | n+1,.l xs,.l ys=>(List.range xs.length).all (λi=>match xs[i]?,ys[i]? with|some x,some y=>eqD n x y|_,_=>true)&&xs.length == ys.length
 | n+1,.t xs,.t ys=>(List.range xs.length).all (λi=>match xs[i]?,ys[i]? with|some x,some y=>eqD n x y|_,_=>true)&&xs.length == ys.length
 | _,_,_=>false
theorem Rp.Fx{H:Hp}{n:Nat}{v x:V}(h:Rp H n v (.a x)):v=x/\mV x=true:=by cases n<;>exact h
theorem Rp.keep{H H':Hp}:∀ {n:Nat} {v:V} {a:Vl},Rp H n v a->(∀ b u,H b=some (.lst u)->H' b=some (.lst u))->(∀ b u,H b=some (.tup u)->H' b=some (.tup u))->Rp H' n v a
 | 0,_,.a _,h,_,_=>h
 | 0,_,.l _,h,_,_=>h.elim
 | 0,_,.t _,h,_,_=>h.elim
 | _+1,_,.a _,h,_,_=>h
 | n+1,_,.l xs,⟨p,us,e,hp,hl,hi⟩,k1,k2=>⟨p,us,e,k1 _ _ hp,hl,λi u x h1 h2=>(hi i u x h1 h2).keep k1 k2⟩
 | n+1,_,.t xs,⟨p,us,e,hp,hl,hi⟩,k1,k2=>⟨p,us,e,k2 _ _ hp,hl,λi u x h1 h2=>(hi i u x h1 h2).keep k1 k2⟩
theorem Rp.same{H H':Hp}{n:Nat}{v:V}{a:Vl}(h:Rp H n v a)(s:aB H H'):Rp H' n v a:=h.keep (λ_ _ q=>s _ _ q) λ_ _ q=>s _ _ q
theorem NX{n:Nat}{x y:V}:eqD n (.a x) (.a y)=eqV x y:=by cases n<;>rfl
theorem VY{H:Hp}{n:Nat}{us:List V}{xs ys:List Vl}(lx:us.length=xs.length)(ly:us.length=ys.length)(h:∀(i:Nat) (x y:Vl),xs[i]?=some x->ys[i]?=some y->eqD n x y=true) :
  ((List.range xs.length).all (λi=>match xs[i]?,ys[i]? with|some x,some y=>eqD n x y|_,_=>true)&&xs.length == ys.length)=true:=by
 rw[apJ];refine⟨api.mpr λi hi=>?_,beq_iff_eq.mpr 1e1⟩;have hi:=apj.mp hi;have e1:xs[i]?=some xs[i]:=an4 hi;have e2:ys[i]?=some (ys[i]' 1e1):=an4 1e1;simp only[e1,e2];exact h i _ _ e1 e2
theorem uo{H:Hp}:∀ {n:Nat} {v:V} {a b:Vl},Rp H n v a->Rp H n v b->eqD n a b=true:=by
 intro n;induction n with
 | zero =>
  intro v a b ha hb;cases a with
  | a x =>
   cases b with
   | a y =>
    obtain⟨rfl,fx⟩:=ha.Fx;obtain⟨rfl,_⟩:=hb.Fx;rw[NX];exact VW fx
   | l ys=>exact hb.elim
   | t ys=>exact hb.elim
  | l xs=>exact ha.elim
  | t xs=>exact ha.elim
 | succ n ih =>
  intro v a b ha hb;cases a with
  | a x =>
   obtain⟨rfl,fx⟩:=ha.Fx;cases b with
   | a y =>
    obtain⟨rfl,_⟩:=hb.Fx;rw[NX];exact VW fx
   | l ys =>
    obtain⟨p,us,rfl,_⟩:=hb;exact absurd (show false=true from fx) aob
   | t ys =>
    obtain⟨p,us,rfl,_⟩:=hb;exact absurd (show false=true from fx) aob
  | l xs =>
   obtain⟨p,us,rfl,hp,hl,hi⟩:=ha;cases b with
   | a y =>
    obtain⟨e,fy⟩:=hb.Fx;rw[<-e]at fy;exact absurd (show false=true from fy) aob
   | l ys =>
    obtain⟨q,ws,e,hq,ml,mi⟩:=hb;cases e;rw[hp]at hq;cases hq;exact VY (H:=H) hl ml λi x y e1 e2=>by
     have hiu:i<us.length:=(by rw[hl];exact(an5.mp e1).1);exact ih (hi i _ x (an4 hiu) e1) (mi i _ y (an4 hiu) e2)
   | t ys =>
    obtain⟨q,ws,e,hq,ml,mi⟩:=hb;cases e;rw[hp]at hq;cases hq
  | t xs =>
   obtain⟨p,us,rfl,hp,hl,hi⟩:=ha;cases b with
   | a y =>
    obtain⟨e,fy⟩:=hb.Fx;rw[<-e]at fy;exact absurd (show false=true from fy) aob
   | t ys =>
    obtain⟨q,ws,e,hq,ml,mi⟩:=hb;cases e;rw[hp]at hq;cases hq;exact VY (H:=H) hl ml λi x y e1 e2=>by
     have hiu:i<us.length:=(by rw[hl];exact(an5.mp e1).1);exact ih (hi i _ x (an4 hiu) e1) (mi i _ y (an4 hiu) e2)
   | l ys =>
    obtain⟨q,ws,e,hq,ml,mi⟩:=hb;cases e;rw[hp]at hq;cases hq
structure RcB(A:Around)(s:Shared)(u v:Value)(b:Bool):Prop where
 eq:SeqAt.RcAt A s u v b
 ne:SeqAt.RcNeAt A s u v (!b)
theorem Lx{A:Around}{s:Shared}{y x:V}{u v:Value}(ry:RelV y u)(rx:RelV x v)(fy:mV y=true)(fx:mV x=true):RcB A s u v (eqV y x):=by
 cases y with
 | non =>
  cases ry;cases x with
  | non=>cases rx;exact⟨.none_none ,.none_none ⟩
  | bl b=>cases rx;exact⟨.none_bool b,.none_bool b⟩
  | int b=>obtain⟨t,rfl⟩:=rx;exact⟨.none_int b t,.none_int b t⟩
  | str b=>obtain⟨t,rfl⟩:=rx;exact⟨.none_str b t,.none_str b t⟩
  | _=>exact absurd (show false=true from fx) aob
 | bl a =>
  cases ry;cases x with
  | non=>cases rx;exact⟨.bool_none a,.bool_none a⟩
  | bl b=>cases rx;exact⟨.bool_bool a b,.bool_bool a b⟩
  | int b=>obtain⟨t,rfl⟩:=rx;exact⟨.bool_int a b t,.bool_int a b t⟩
  | str b=>obtain⟨t,rfl⟩:=rx;exact⟨.bool_str a b t,.bool_str a b t⟩
  | _=>exact absurd (show false=true from fx) aob
 | int a =>
  obtain⟨t',rfl⟩:=ry;cases x with
  | non=>cases rx;exact⟨.int_none a t',.int_none a t'⟩
  | bl b=>cases rx;exact⟨.int_bool a t' b,.int_bool a t' b⟩
  | int b=>obtain⟨t,rfl⟩:=rx;exact⟨.int_int a t' b t,.int_int a t' b t⟩
  | str b=>obtain⟨t,rfl⟩:=rx;exact⟨.int_str a t' b t,.int_str a t' b t⟩
  | _=>exact absurd (show false=true from fx) aob
 | str a =>
  obtain⟨t',rfl⟩:=ry;cases x with
  | non=>cases rx;exact⟨.str_none a t',.str_none a t'⟩
  | bl b=>cases rx;exact⟨.str_bool a t' b,.str_bool a t' b⟩
  | int b=>obtain⟨t,rfl⟩:=rx;exact⟨.str_int a t' b t,.str_int a t' b t⟩
  | str b=>obtain⟨t,rfl⟩:=rx;exact⟨.str_str a t' b t,.str_str a t' b t⟩
  | _=>exact absurd (show false=true from fx) aob
 | _=>exact absurd (show false=true from fy) aob
section
variable{X:Cx}{pins:List (Addr×Obj)}{σ:St}{H:Hp}{s:Shared}
theorem Ql{A:Around}{x:V}{u:Value}{l:Addr}{items:Array Value}(rx:RelV x u)(fx:mV x=true)(hl:s.heap.IsList l items)(hu:A.units<cLine):RcB A s u (.ref l) false/\RcB A s (.ref l) u false/\SeqAt.EqAt A s u (.ref l) false/\SeqAt.EqAt A s (.ref l) u false:=by
 cases x with
 | non=>cases rx;exact⟨⟨.none_list hl hu,.none_list hl hu⟩,⟨.list_none hl hu,.list_none hl hu⟩,.none_list hl hu,.list_none hl hu⟩
 | bl b=>cases rx;exact⟨⟨.bool_list _ hl hu,.bool_list _ hl hu⟩,⟨.list_bool _ hl hu,.list_bool _ hl hu⟩,.bool_list _ hl hu,.list_bool _ hl hu⟩
 | int n=>obtain⟨t,rfl⟩:=rx;exact⟨⟨.int_list _ _ hl hu,.int_list _ _ hl hu⟩,⟨.list_int _ _ hl hu,.list_int _ _ hl hu⟩,.int_list _ _ hl hu,.list_int _ _ hl hu⟩
 | str z=>obtain⟨t,rfl⟩:=rx;exact⟨⟨.str_list _ _ hl hu,.str_list _ _ hl hu⟩,⟨.list_str _ _ hl hu,.list_str _ _ hl hu⟩,.str_list _ _ hl hu,.list_str _ _ hl hu⟩
 | _=>exact absurd (show false=true from fx) aob
theorem Qm{A:Around}{x:V}{u:Value}{l:Addr}{items:Array Value}(rx:RelV x u)(fx:mV x=true)(hl:s.heap.IsTuple l items)(hu:A.units<cLine):RcB A s u (.ref l) false/\RcB A s (.ref l) u false/\SeqAt.EqAt A s u (.ref l) false/\SeqAt.EqAt A s (.ref l) u false:=by
 cases x with
 | non=>cases rx;exact⟨⟨.none_tuple hl hu,.none_tuple hl hu⟩,⟨.tuple_none hl hu,.tuple_none hl hu⟩,.none_tuple hl hu,.tuple_none hl hu⟩
 | bl b=>cases rx;exact⟨⟨.bool_tuple _ hl hu,.bool_tuple _ hl hu⟩,⟨.tuple_bool _ hl hu,.tuple_bool _ hl hu⟩,.bool_tuple _ hl hu,.tuple_bool _ hl hu⟩
 | int n=>obtain⟨t,rfl⟩:=rx;exact⟨⟨.int_tuple _ _ hl hu,.int_tuple _ _ hl hu⟩,⟨.tuple_int _ _ hl hu,.tuple_int _ _ hl hu⟩,.int_tuple _ _ hl hu,.tuple_int _ _ hl hu⟩
 | str z=>obtain⟨t,rfl⟩:=rx;exact⟨⟨.str_tuple _ _ hl hu,.str_tuple _ _ hl hu⟩,⟨.tuple_str _ _ hl hu,.tuple_str _ _ hl hu⟩,.str_tuple _ _ hl hu,.tuple_str _ _ hl hu⟩
 | _=>exact absurd (show false=true from fx) aob
theorem lst_is(I:Inv X pins σ H s){p:Addr}{us:List V}(h:H p=some (.lst us)):∃ vs,Vals us vs/\s.heap.IsList p vs.toArray:=by
 obtain⟨vs,r,⟨o,n,e,c,_,g⟩,_⟩:=I.list (SqL.of h);exact⟨vs,r,o,e,c,n,g⟩
theorem tup_is(I:Inv X pins σ H s){p:Addr}{us:List V}(h:H p=some (.tup us)):∃ vs,Vals us vs/\s.heap.IsTuple p vs.toArray:=by
 obtain⟨vs,r,t,_⟩:=I.tuple (SqT.of h);exact⟨vs,r,t⟩
theorem rcG(I:Inv X pins σ H s):∀ {n:Nat} {x y:V} {a b:Vl},Rp H n x a->Rp H n y b->∀ {A:Around} {u v:Value},RelV x u->RelV y v->A.units+n<cLine ->
  SeqAt.EqAt A s u v (eqD n a b)/\(¬((∃ z,a=.a z)/\∃ z,b=.a z)->RcB A s u v (eqD n a b)):=by
 intro n;induction n with
 | zero =>
  intro x y a b ha hb A u v rx ry hu;cases a with
  | a z =>
   cases b with
   | a z' =>
    obtain⟨rfl,fx⟩:=ha.Fx;obtain⟨rfl,fy⟩:=hb.Fx;rw[NX];exact⟨NU rx ry fx fy,λh=>(h ⟨⟨_,rfl⟩,_,rfl⟩).elim⟩
   | _=>exact hb.elim
  | _=>exact ha.elim
 | succ n ih =>
  intro x y a b ha hb A u v rx ry hu;have hu0:A.units<cLine:=by omega
  cases a with
  | a z =>
   obtain⟨rfl,fx⟩:=ha.Fx;cases b with
   | a z' =>
    obtain⟨rfl,fy⟩:=hb.Fx;rw[NX];exact⟨NU rx ry fx fy,λh=>(h ⟨⟨_,rfl⟩,_,rfl⟩).elim⟩
   | l ys =>
    obtain⟨q,ws,rfl,hq,_⟩:=hb;obtain⟨vs,_,hl⟩:=lst_is I hq;cases ry;obtain⟨h1,_,h3,_⟩:=Ql rx fx hl hu0;exact⟨h3,λ_=>h1⟩
   | t ys =>
    obtain⟨q,ws,rfl,hq,_⟩:=hb;obtain⟨vs,_,hl⟩:=tup_is I hq;cases ry;obtain⟨h1,_,h3,_⟩:=Qm rx fx hl hu0;exact⟨h3,λ_=>h1⟩
  | l xs =>
   have ha':=ha;obtain⟨p,us,rfl,hp,lx,hx⟩:=ha;obtain⟨vs,r1,hl⟩:=lst_is I hp;cases rx;cases b with
   | a z' =>
    obtain⟨rfl,fy⟩:=hb.Fx;obtain⟨_,h2,_,h4⟩:=Ql ry fy hl hu0;exact⟨h4,λ_=>h2⟩
   | l ys =>
    have hb':=hb;obtain⟨q,ws,rfl,hq,ly,hy⟩:=hb;obtain⟨vs2,r2,hl2⟩:=lst_is I hq;cases ry;have l1:=r1.length;have l2:=r2.length;have rc:RcB A s (.ref p) (.ref q) (eqD (n+1) (.l xs) (.l ys)):=by
     by_cases hs:xs.length=ys.length
     ·have he:∀ j (h1:j<vs.toArray.size) (h2:j<vs2.toArray.size),SeqAt.EqAt A.in1 s vs.toArray[j] vs2.toArray[j] (match xs[j]?,ys[j]? with|some x,some y=>eqD n x y|_,_=>true):=λj h1 h2=>by
       simp only[aoc]at h1 h2;obtain⟨w1,z1,rz1⟩:=r1.get (i:=j) (x:=us[j]' 1e1) (an4 1e1);obtain⟨w2,z2,rz2⟩:=r2.get (i:=j) (x:=ws[j]' 1e1) (an4 1e1);have a1:vs.toArray[j]=w1:=by
        have:=(an5.mp z1).2
        simpa using this
       have a2:vs2.toArray[j]=w2:=by
        have:=(an5.mp z2).2
        simpa using this
       rw[a1,a2];have e1:xs[j]?=some (xs[j]' 1e1):=an4 1e1;have e2:ys[j]?=some (ys[j]' 1e1):=an4 1e1;simp only[e1,e2];exact(ih (hx j _ _ (an4 1e1) e1) (hy j _ _ (an4 1e1) e2) rz1 rz2 (by rw[Around.in1_units];omega)).1
      have e:eqD (n+1) (.l xs) (.l ys)=(List.range vs.toArray.size).all (λi=>match xs[i]?,ys[i]? with|some x,some y=>eqD n x y|_,_=>true):=by
       show(_&&_)=_;rw[beq_iff_eq.mpr hs,Bool.and_true];simp only[aoc];rw[show vs.length=xs.length by omega]
      rw[e];exact⟨.lists hl hl2 (by simp only[aoc];omega) hu0 he,.lists hl hl2 (by simp only[aoc];omega) hu0 he⟩
     ·have e:eqD (n+1) (.l xs) (.l ys)=false:=by
       show(_&&_)=_;rw[beq_eq_false_iff_ne.mpr hs,apR]
      rw[e];exact⟨.lists_lengths hl hl2 (by simp only[aoc,bne_iff_ne,ne_eq];omega) hu0,.lists_lengths hl hl2 (by simp only[aoc,bne_iff_ne,ne_eq];omega) hu0⟩
    refine⟨?_,λ_=>rc⟩;by_cases e:p=q
    ·subst e
     rw[uo ha' hb'];exact .same _
    ·exact .of_refs e rc.eq
   | t ys =>
    obtain⟨q,ws,rfl,hq,ly,hy⟩:=hb;obtain⟨vs2,r2,hl2⟩:=tup_is I hq;cases ry;have ne:p≠q:=λe=>by rw[e,hq]at hp;cases hp
    exact⟨.of_refs ne (.list_tuple hl hl2 hu0),λ_=>⟨.list_tuple hl hl2 hu0,.list_tuple hl hl2 hu0⟩⟩
  | t xs =>
   have ha':=ha;obtain⟨p,us,rfl,hp,lx,hx⟩:=ha;obtain⟨vs,r1,hl⟩:=tup_is I hp;cases rx;cases b with
   | a z' =>
    obtain⟨rfl,fy⟩:=hb.Fx;obtain⟨_,h2,_,h4⟩:=Qm ry fy hl hu0;exact⟨h4,λ_=>h2⟩
   | l ys =>
    obtain⟨q,ws,rfl,hq,ly,hy⟩:=hb;obtain⟨vs2,r2,hl2⟩:=lst_is I hq;cases ry;have ne:p≠q:=λe=>by rw[e,hq]at hp;cases hp
    exact⟨.of_refs ne (.tuple_list hl hl2 hu0),λ_=>⟨.tuple_list hl hl2 hu0,.tuple_list hl hl2 hu0⟩⟩
   | t ys =>
    have hb':=hb;obtain⟨q,ws,rfl,hq,ly,hy⟩:=hb;obtain⟨vs2,r2,hl2⟩:=tup_is I hq;cases ry;have l1:=r1.length;have l2:=r2.length;have he:∀ j (h1:j<vs.toArray.size) (h2:j<vs2.toArray.size),SeqAt.EqAt A.in1 s vs.toArray[j] vs2.toArray[j] (match xs[j]?,ys[j]? with|some x,some y=>eqD n x y|_,_=>true):=λj h1 h2=>by
     simp only[aoc]at h1 h2;obtain⟨w1,z1,rz1⟩:=r1.get (i:=j) (x:=us[j]' 1e1) (an4 1e1);obtain⟨w2,z2,rz2⟩:=r2.get (i:=j) (x:=ws[j]' 1e1) (an4 1e1);have a1:vs.toArray[j]=w1:=by
      have:=(an5.mp z1).2
      simpa using this
     have a2:vs2.toArray[j]=w2:=by
      have:=(an5.mp z2).2
      simpa using this
     rw[a1,a2];have e1:xs[j]?=some (xs[j]' 1e1):=an4 1e1;have e2:ys[j]?=some (ys[j]' 1e1):=an4 1e1;simp only[e1,e2];exact(ih (hx j _ _ (an4 1e1) e1) (hy j _ _ (an4 1e1) e2) rz1 rz2 (by rw[Around.in1_units];omega)).1
    have e:eqD (n+1) (.t xs) (.t ys)=((List.range (min vs.toArray.size vs2.toArray.size)).all (λi=>match xs[i]?,ys[i]? with|some x,some y=>eqD n x y|_,_=>true)&&vs.toArray.size == vs2.toArray.size):=by
     show(_&&_)=_;simp only[aoc];by_cases hs:xs.length=ys.length
     ·rw[show min vs.length vs2.length=xs.length by omega,show(vs.length == vs2.length)=(xs.length == ys.length) by rw[show vs.length=xs.length by omega,show vs2.length=ys.length by omega]]
     ·rw[beq_eq_false_iff_ne.mpr hs,show(vs.length == vs2.length)=false from beq_eq_false_iff_ne.mpr 1e1,apR,apR]
    have rc:RcB A s (.ref p) (.ref q) (eqD (n+1) (.t xs) (.t ys)):=by
     rw[e];exact⟨.tuples hl hl2 hu0 he,.tuples hl hl2 hu0 he⟩
    refine⟨?_,λ_=>rc⟩;by_cases e:p=q
    ·subst e
     rw[uo ha' hb'];exact .same _
    ·exact .of_refs e rc.eq
end
noncomputable def anm(n:Nat):R2:=λx y H Q=>∃ a b,Rp H n x a/\Rp H n y b/\Q (.bl (eqD n a b)) H
noncomputable def ano(n:Nat):R2:=λx y H Q=>∃ a b,Rp H n x a/\Rp H n y b/\Q (.bl (!eqD n a b)) H
section
variable{X:Cx}
theorem Sv{n:Nat}(hu:X.A.units+n<cLine):OpR X (compareOp .Eq) (anm n):=by
 rintro pins s σ H x y v u Q I rx ry ⟨a,b,ha,hb,q⟩;by_cases h:(∃ z,a=.a z)/\∃ z,b=.a z
 ·obtain⟨⟨z,rfl⟩,z',rfl⟩:=h
  obtain⟨rfl,fx⟩:=ha.Fx;obtain⟨rfl,fy⟩:=hb.Fx;rw[NX]at q;exact(Lx rx ry fx fy).eq _ _ _ _ ⟨.bl _,H,I,rfl,q⟩
 ·exact((rcG I ha hb rx ry hu).2 h).eq _ _ _ _ ⟨.bl _,H,I,rfl,q⟩
theorem VZ{n:Nat}(hu:X.A.units+n<cLine):OpR X (compareOp .NotEq) (ano n):=by
 rintro pins s σ H x y v u Q I rx ry ⟨a,b,ha,hb,q⟩;by_cases h:(∃ z,a=.a z)/\∃ z,b=.a z
 ·obtain⟨⟨z,rfl⟩,z',rfl⟩:=h
  obtain⟨rfl,fx⟩:=ha.Fx;obtain⟨rfl,fy⟩:=hb.Fx;rw[NX]at q;exact(Lx rx ry fx fy).ne _ _ _ _ ⟨.bl _,H,I,rfl,q⟩
 ·exact((rcG I ha hb rx ry hu).2 h).ne _ _ _ _ ⟨.bl _,H,I,rfl,q⟩
end
section
variable{X:Cx}{pins:List (Addr×Obj)}{σ:St}{H:Hp}{s:Shared}{d:Addr}{o:Obj}{u:HO}
theorem Inv.abM(I:Inv X pins σ H s)(hd:H d=some (.frz o u))(h0:∀ o u,X.H₀ d≠some (.frz o u))(nt:∀ xs,u≠.tup xs)(no:∀ x,u≠.own x)(nb:∀ ps,u≠.tbl ps):Inv X pins σ (upd H d u) s:=by
 have nn:∀ {b:Addr},H b=none->upd H d u b=none:=λ{b} q=>by
  rw[af λz=>by rw[z,hd]at q;cases q];exact q
 have ns:∀ {b:Addr} {v:HO},H b=some v->(∀ o w,v≠.frz o w)->upd H d u b=some v:=λ{b v} q n=>by
  rw[af λz=>n o u (by rw[z,hd]at q;exact(aos q).symm)];exact q
 refine⟨I.ok,I.os,I.bare,⟨I.base.keep,I.base.slot,λb ob q n e=>nn (I.base.free b ob q n e),I.base.there,λb xs q=>ns (I.base.Lf b xs q) (by intro _ _ z;cases z),λb ob w q=>?_,λb ps q=>?_⟩,I.loc,I.cell,nn I.free,λx c q=>nn (I.sj x c q),λp hp=>?_,λa w q=>?_,I.len⟩
 ·have q':=I.base.Jv b ob w q
  rw[af λz=>h0 ob w (by rw[<-z];exact q)];exact q'
 ·obtain⟨more,q'⟩:=I.base.Lg b ps q
  exact⟨more,ns q' (by intro _ _ z;cases z)⟩
 ·obtain⟨p1,p2,p3⟩:=I.pin p hp
  exact⟨p1,nn p2,p3⟩
 ·have st:∀ {a:Addr} {w:HO},i7 X.prog X.w H s.heap a w->i7 X.prog X.w (upd H d u) s.heap a w:=λx=>x.Le (λ_ _ _ z=>z) (λb z=>ns z (by intro _ _ y;cases y)) λb xs z=>ns z (by intro _ _ y;cases y)
  by_cases e:a=d
  ·subst e
   rw[ag]at q;cases q;exact st (I.hok a _ hd).2
  ·rw[af e]at q
   exact st (I.hok a w q)
noncomputable def anp(H₀:Hp)(te:TE):TE:=λσ H Q=>te σ H λv H1=>∃ d o kvs,H1 d=some (.frz o (.dK kvs))/\(∀ o u,H₀ d≠some (.frz o u))/\Q v (upd H1 d (.dK kvs))
theorem V0{e:Expr}{te:TE}(h:PE X e te):PE X e (anp X.H₀ te):=by
 intro pins s σ H Q I t;refine wpAny_mono (h pins s σ H _ I t) (λu s1 ⟨v,H1,I1,r,q⟩=>?_) λ_ _ z=>z;obtain⟨d,o,kvs,hd,h0,q⟩:=q;exact⟨v,_,I1.abM hd h0 (by intro _ z;cases z) (by intro _ z;cases z) (by intro _ z;cases z),r,q⟩
noncomputable def anq(H₀:Hp)(t:TS):TS:=λD σ H=>∃ d o kvs,H d=some (.frz o (.dK kvs))/\(∀ o u,H₀ d≠some (.frz o u))/\t D σ (upd H d (.dK kvs))
theorem V1{st:Stmt}{t:TS}(h:PS X st t):PS X st (anq X.H₀ t):=by
 intro pins s σ H D I q;obtain⟨d,o,kvs,hd,h0,q⟩:=q;exact h pins s σ _ D (I.abM hd h0 (by intro _ z;cases z) (by intro _ z;cases z) (by intro _ z;cases z)) q
theorem Y0:∀ {ns:List Int} {us:List Value},Vals (ns.map V.int) us->∃ ps:List (Int×Tok),us=ps.map (λp=>Value.int p.1 p.2)/\ps.map (·.1)=ns
 | [],_,.nil=>⟨[],rfl,rfl⟩
 | n::r,_,.cons h t=>by
  obtain⟨k,rfl⟩:=h;obtain⟨ps,e,e2⟩:=Y0 t;exact⟨(n,k)::ps,by rw[e];rfl,by rw[aov,e2]⟩
noncomputable def acq(K:W.Frag):List V->Hp->VK->Prop:=λvs H Q=>∃(p:Addr) (ns:List Int),vs=[.ref p]/\SqL K H p (ns.map V.int)/\Q (.int ns.sum) H
theorem Ud(hc:X.calm=true):yI X (.builtin "sum") (acq X.K):=by
 rintro pins s σ H xs us Q I r ⟨p,ns,rfl,hq,q⟩;obtain⟨u,rfl,ru⟩:=r.one;cases (show u=Value.ref p from ru);obtain⟨its,rv,⟨o,n,e1,e2,e3,e4⟩,hz⟩:=I.list hq;obtain⟨ps,e,ee⟩:=Y0 rv;have hl:s.heap.IsList p (intItems ps.toArray):=by
  refine⟨o,e1,e2,n,?_⟩;rw[e4,e];simp[intItems]
 have hs:preSum (numAt ps.toArray) ps.toArray.size=ns.sum:=by
  rw[preSum_eq];simp only[aoc];rw[ee,aoh (by rw[<-ee,an6];exact aoa _)]
 refine sum_intListG (I.ok.hd hc) hl λh' tk t' hk=>⟨.int ns.sum,H,I.kept (t':=tk) hk,⟨t',by rw[hs]⟩,q⟩
end
theorem Ue{d:Addr}{o:Obj}{kvs:List (Key×V)}{te:TE}{Q:VK}{D:Addr}{τ:St}{H:Hp}(Pv:Nat->List V->Hp->Prop)(h0:Pv 0 [] H)(hD:∀ i ys H,i<=kvs.length->Pv i ys H->H D=some (.lst ys)/\ys.length=i)(hl:∀ i ys H,i<=kvs.length->Pv i ys H->H d=some (.frz o (.dK kvs)))(hn:kvs.length<=sizeLine)
  (hs:∀ i p ys H,kvs[i]?=some p->Pv i ys H->te (some (kV p.1)::τ) H λv H4=>H4 D=some (.lst ys)/\Pv (i+1) (ys++[v]) (upd H4 D (.lst (ys++[v])))) (hd:∀ ys H,Pv kvs.length ys H->Q (.ref D) H):NW (Itd d o kvs) D τ te Q H:=by
 refine⟨λi m ys H=>m=kvs.length-i/\i<=kvs.length/\Pv i ys H,⟨kvs.length,by simp,aoL _,h0⟩,?_⟩;rintro i m ys H2 ⟨rfl,hi,p⟩;obtain⟨d1,d2⟩:=hD i ys H2 hi p;refine⟨d1,?_⟩;have hS:=hl i ys H2 hi p;by_cases hlt:i<kvs.length
 ·refine .inr ⟨⟨hS,hlt⟩,by omega,Pv (i+1),λzs H' p'=>⟨kvs.length-(i+1),by omega,rfl,hlt,p'⟩,λy H3 q=>?_⟩
  obtain⟨e1,q',e2,e3⟩:=q;subst e1 e3;exact hs i q' ys _ e2 p
 ·have e:i=kvs.length:=by omega
  subst e;exact .inl ⟨⟨hS,aoa _⟩,hd ys H2 p⟩
noncomputable def W6:Option Key->Value->Bool
 | none,.none=>true
 | none,_=>false
 | some k,v=>u6 k v
theorem ja{v:Value}(h:W6 none v=true):v=.none:=by
 cases v<;>first|rfl|cases h
noncomputable def anr(w:World):Option Key->Int
 | none=>reduceHash 0xFCA86420
 | some k=>acO w k
theorem Ug{prog:Program}{w:World}{A:Around}{E:Value->Shared->Prop}{s:Shared}{Q:Int->Shared->Prop}(h:Q (reduceHash 0xFCA86420) {s with toks:=s.toks+1}):wpAny 1e8 A (pyHash .none) Q E s:=by
 show wpAny _ _ (pyHashByItsType .none) Q E s;exact PySem.W.pyHash_slot (T := "NoneType") rfl F.slot_NoneType_hash F.entry_NoneType_hash (F.args_NoneType_hash_1 _) (beq_builtin_none _) (.inl rfl) (wpAny_bind (wpAny_pure (wpAny_bind (wpAny_mkInt (wpAny_pure ⟨_,_,rfl,h⟩)))))
noncomputable def optKind(prog:Program)(w:World):PySem.KeyKind prog w (Option Key) where
 is:=W6
 hash:=anr w
 inj:=λv a b ha hb=>by
  cases a with
  | none =>
   obtain rfl:=ja ha;cases b with
   | none=>rfl
   | some k=>rcases cx (show u6 k .none=true from hb) with⟨_,_,_,e⟩|⟨_,_,_,e⟩<;>exact nomatch e
  | some k =>
   cases b with
   | none =>
    obtain rfl:=ja hb;rcases cx (show u6 k .none=true from ha) with⟨_,_,_,e⟩|⟨_,_,_,e⟩<;>exact nomatch e
   | some k'=>rw[(cA prog w).inj v k k' ha hb]
 byValue:=λk v h=>by
  cases k with
  | none=>obtain rfl:=ja h;rfl
  | some k=>exact(cA prog w).byValue k v h
 pyHash:=λ{A E s k v Q} hv h=>by
  cases k with
  | none=>obtain rfl:=ja hv;exact Ug h
  | some k=>exact(cA prog w).pyHash (k:=k) hv h
 eqBool:=λ{A E s a b u v Q} hu hv h=>by
  cases a with
  | none =>
   obtain rfl:=ja hu;cases b with
   | none=>obtain rfl:=ja hv;exact SeqAt.EqAt.same _ _ _ _ _ h
   | some k =>
    rw[decide_eq_false 1e0]at h;rcases cx (show u6 k v=true from hv) with⟨i,t,_,rfl⟩|⟨x,t,_,rfl⟩
    ·exact SeqAt.EqAt.none_int i t _ _ _ _ h
    ·exact SeqAt.EqAt.none_str x t _ _ _ _ h
  | some k =>
   cases b with
   | none =>
    obtain rfl:=ja hv;rw[decide_eq_false 1e0]at h;rcases cx (show u6 k u=true from hu) with⟨i,t,_,rfl⟩|⟨x,t,_,rfl⟩
    ·exact SeqAt.EqAt.int_none i t _ _ _ _ h
    ·exact SeqAt.EqAt.str_none x t _ _ _ _ h
   | some k' =>
    refine(cA prog w).eqBool (a:=k) (b:=k') hu hv ?_;have e:decide (some k=some k')=decide (k=k'):=by
     by_cases c:k=k'
     ·subst c;simp
     ·rw[decide_eq_false c,decide_eq_false (by intro z;exact c (aos z))]
    rw[<-e];exact h
 «strs» := λk x t v h=>by
  cases k with
  | none=>exact nomatch ja h
  | some k=>exact(cA prog w).strs k x t v h
theorem XY{prog:Program}{w:World}{h:Heap}{a:Addr}{kvs:List (Key×Value)}(hd:h.DictOf (cA prog w) a kvs):h.MapOf (optKind prog w) a (λk=>k.bind λk=>valueAt kvs k):=by
 obtain⟨o,es,ep,ho,hc,ans,hk,hf⟩:=hd.mapOf;refine⟨o,es,ep,ho,hc,ans,λe he=>?_,λk=>?_⟩
 ·obtain⟨k,h1,h2⟩:=hk e he
  exact⟨some k,h1,h2⟩
 ·cases k with
  | none =>
   show(es.find? λe=>W6 none e.key).map (·.val)=none;rw[Array.find?_eq_none.mpr λe he=>?_]
   ·rfl
   ·obtain⟨k,h1,_⟩:=hk e he
    intro z
    have:=ja z
    rw[this]at h1;rcases cx (show u6 k .none=true from h1) with⟨_,_,_,e⟩|⟨_,_,_,e⟩<;>exact nomatch e
  | some k=>exact hf k
noncomputable def inO(kvs:List (Key×V)):Option Key->Bool
 | none=>false
 | some k=>(ie kvs k).isSome
noncomputable def abN:Option Key->V
 | none=>.non
 | some k=>kV k
section
variable{X:Cx}{i o:Expr}{ty td:TE}
noncomputable def acr(ty td:TE):TE:=λσ H Q=>ty σ H λy H1=>td σ H1 λx H2=>∃ a kvs k,x=.ref a/\y=abN k/\Rd H2 a (.dK kvs)/\Q (.bl (inO kvs k)) H2
theorem ZV{P:Program}{w:World}{k:Option Key}{u:Value}(r:RelV (abN k) u):(optKind P w).is k u=true:=by
 cases k with
 | none=>cases r;rfl
 | some k=>exact FV (P:=P) (w:=w) r
theorem XZ(hi:PE X i ty)(ho:PE X o td):PC X .In i o (acr ty td):=by
 intro pins s σ H Q I h;refine thn (hi pins s σ H _ I h) λiv s1 ⟨y,H1,I1,ry,q1⟩=>thn (ho pins s1 σ H1 _ I1 q1) λu s2 ⟨x,H2,I2,rx,a,kvs,k,ex,ey,g,q2⟩=>?_;subst ex ey;cases (show u=Value.ref a from rx);obtain⟨z,hd,vs,rel,dd⟩:=AQ I2.hok g;refine wpAny_in_of (ZV (P:=X.prog) (w:=X.w) ry) hd (XY dd) ?_;have e:(k.bind λk=>valueAt vs k).isSome=inO kvs k:=by
  cases k with
  | none=>rfl
  | some k=>exact(rel.val k).qR.symm
 rw[e];exact⟨.bl (inO kvs k),H2,I2.tok _,rfl,q2⟩
end
section
variable{X:Cx}{K:W.Frag}
theorem X0{e:Expr}{f:Str}{pos:Pos}{ta:TE}(hK:X.K=K)(he:PE X e ta)(hb:attributeBase e f X.env (eval e X.env)=eval e X.env):PE X (.Attribute e f pos) (acV K ta f):=by
 subst hK;exact aH he hb
noncomputable def acs(K:W.Frag):List V->Hp->VK->Prop:=λxs H Q=>∃ p ys,xs=[V.ref p]/\(SqL K H p ys\/SqT K H p ys)/\Q (.int (ys.length:Int)) H
theorem Uh(hK:X.K=K):yI X (.builtin "len") (acs K):=by
 subst hK;exact a9
end
section
variable{X:Cx}{o:Expr}{ta:TE}
end
end L2
end
section
namespace L2
open PySem PySem.Spec PyProof.Rows LX
theorem Ly:∀(f n r:Nat),n<=f->r<=1->minRun' f n r<=max 64 (n+r)
 | 0,n,r,_,_=>Nat.le_max_right _ _
 | f+1,n,r,h,hr=>by
  rw[minRun'_succ];by_cases c:n<64
  ·rw[if_pos c];exact Nat.le_max_right _ _
  ·rw[if_neg c]
   have:=Ly f (n/2) (max r (n%2)) 1e1 1e1
   omega
theorem Oh{n:Nat}:¬n<minRun' n n 0:=by
 by_cases c:n<64
 ·cases n with
  | zero=>show ¬0<0+0;omega
  | succ f=>rw[minRun'_succ,if_pos c];omega
 ·have:=Ly n n 0 (aoa _) 1e1
  omega
section
variable{prog:Program}{w:World}{A:Around}{E:Value->Shared->Prop}{s:Shared}{a₀:Array Keyed}
theorem Oi{st:SortSt}{m:Nat}{Q:Option Nat->SortSt->Prop}(ik:IntKeys a₀)(h:m<=a₀.size)(h1:1<=m)(B:SBase a₀ st)(up:SortedTo (arrOf st) m)(q:Q (some m) st):wpS 1e8 A E s (countRun' 0 m) Q st:=by
 rw[countRun0_eq];refine wpS_bind (wpS_ascLoop ik h (aoa 1) h1 B (λi j a b=>up i j a 1e1) λn n1 n2 _ o=>?_);have e:n=m:=by
  rcases o with o|o
  ·exact o
  ·by_cases c:n=m
   ·exact c
   ·have:=up (n-1) n 1e1 1e1
    omega
 subst e;dsimp only;rw[if_pos (by simp)];exact wpS_pure q
theorem Rl{st:SortSt}{Q:Unit->SortSt->Prop}(ik:IntKeys a₀)(B:SBase a₀ st)(n2:2<=a₀.size)(up:SortedTo (arrOf st) a₀.size)
  (q:∀ st',(arrOf st').Perm a₀->failedOf st'=none->SortedTo (arrOf st') a₀.size->Q () st'):wpS 1e8 A E s sortRuns' Q st:=by
 rw[sortRuns'_eq];refine wpS_bind (wpS_get ?_);dsimp only;have mr:¬a₀.size<minRun' a₀.size a₀.size 0:=Oh;simp only[B.size];refine wpS_bind (wpS_mono (wpS_forRange (I:=λx c st'=>(x=0/\c=(none,0)/\st'=st)\/(1<=x/\c=(none,a₀.size)/\SDone a₀ st')) (Q:=λc st'=>c=(none,a₀.size)/\SDone a₀ st') ?one ?all (.inl ⟨rfl,rfl,rfl⟩)) ?rest)
 case all =>
  rintro c st' (⟨z,_,_⟩|⟨_,hc,d⟩)
  ·omega
  ·exact⟨hc,d⟩
 case one =>
  rintro x c st' _ hx (⟨rfl,rfl,rfl⟩|⟨_,rfl,d⟩)
  ·dsimp only
   rw[if_neg 1e1];simp only[Nat.sub_zero,Nat.zero_add];refine wpS_bind (Oi ik (aoa _) 1e1 B up ?_);dsimp only;rw[if_neg mr];refine wpS_bind (wpS_get ?_);rw[show(pendingOf st').back?=none by rw[B.pend];rfl];dsimp only;exact wpS_bind (wpS_modify (wpS_pure (.inr ⟨by omega,rfl,B.done up⟩)))
  ·dsimp only
   rw[if_pos (aoa _)];exact wpS_pure ⟨rfl,d⟩
 case rest =>
  rintro c st' ⟨rfl,d⟩;dsimp only;refine wpS_bind (wpS_mono (wpS_forRange (I:=λ_ c st2=>st2=st'/\c=(none,())) (Q:=λc st2=>st2=st'/\c=(none,())) ?_ (λ_ _ z=>z) ⟨rfl,rfl⟩) ?_)
  ·rintro x c st2 _ _ ⟨rfl,rfl⟩
   refine wpS_bind (wpS_get ?_);rw[if_pos (show(pendingOf st2).size<=1 by rw[d.2.2.1];exact aoa 1)];exact wpS_pure ⟨rfl,rfl⟩
  ·rintro c st2 ⟨rfl,rfl⟩
   exact wpS_pure (q _ d.1 d.2.1 d.2.2.2)
theorem SU:∀ {vs:List Value} {ns:List Int},IntsAre vs ns->∀(i:Nat) (h:i<vs.length) (h':i<ns.length),numOf vs[i]=ns[i]
 | _,_,.nil,i,h,_=>absurd h (apA _)
 | _,_,.cons k t r,0,_,_=>rfl
 | _,_,.cons k t r,i+1,h,h'=>SU r i (Nat.lt_of_succ_lt_succ h) (Nat.lt_of_succ_lt_succ h')
theorem Vt{vs:List Value}{ns:List Int}(hI:IntsAre vs ns)(up:ns.Pairwise (·<=·)):SortedTo (pairsOf vs) (pairsOf vs).size:=by
 intro i j ij hj;have hl:=hI.length;have hs:=pairsOf_size vs;rw[K_eq 1e1,K_eq 1e1];have hi2:i<ns.length:=by omega
 have hj2:j<ns.length:=by omega
 have e:∀(k:Nat) (h:k<(pairsOf vs).size) (h':k<ns.length),numOf (pairsOf vs)[k].1=ns[k]:=λk h h'=>by
  have:(pairsOf vs)[k].1=vs[k]' 1e1:=by simp[pairsOf]
  rw[this];exact SU hI k 1e1 h'
 rw[e i 1e1 hi2,e j 1e1 hj2];rcases aoZ i j with c|c
 ·exact ao7.mp up i j hi2 hj2 c
 ·have:i=j:=by omega
  subst this;exact aoQ _
theorem C8{a:Addr}{vs:List Value}{ns:List Int}{n:Nat}{P:Fin->Shared->Prop}(ho:s.heap.get? a=some (seqObj "list" vs.toArray n))(hI:IntsAre vs ns)(few:vs.length<=20000)(up:ns.Pairwise (·<=·))
  (h:∀(out:Array Value) (ns':List Int),IntsAre out.toList ns'->ns'.Perm ns->ns'.Pairwise (·<=·)->P (.done (.ret .none)) {s with heap:=sortedHeap s.heap a vs out}):wpAny 1e8 A (Builtin.«list.sort» ⟨[.ref a],[]⟩) P E s:=by
 have hz:vs.length<=sizeLine:=apO (aoY few 2e1);rw[list_sort_plain];have la:a<s.heap.objs.size:=aoe ho;refine wpAny_bind (listItems_at ho rfl (wpAny_bind (listUpdate_at ho rfl ?_ (by rw[aoc];exact hz) (aoL _))));obtain⟨e1,g1⟩:∃ e1,(s.heap.update a (Obj.mapSeq λ_=>#[])).get? a=some (seqObj "list" #[] e1):=⟨_,get?_update_seq ho (λ_=>#[])⟩;refine wpAny_bind (seqEpoch_at g1 rfl (wpAny_bind (wpAny_newTuple (wpAny_bind (wpAny_newList (wpAny_holding ?_) (aoL _))) (by show vs.length<=_;exact hz))));have g6:(((s.heap.update a (Obj.mapSeq λ_=>#[])).push (seqObj "tuple" vs.toArray 0)).push (seqObj "list" #[] 0)).get? a=some (seqObj "list" #[] e1):=an8 _ (an8 _ g1);show wpAny 1e8 A _ P E {s with heap:=((s.heap.update a (Obj.mapSeq λ_=>#[])).push (seqObj "tuple" vs.toArray 0)).push (seqObj "list" #[] 0)};dsimp only;have zs:(pairsOf vs).size=vs.length:=pairsOf_size vs;have fin:∀ st':SortSt,(arrOf st').Perm (pairsOf vs)->SortedTo (arrOf st') (pairsOf vs).size->P (.done (.ret .none)) {s with heap:=sortedHeap s.heap a vs ((arrOf st').map (·.2))}:=λst' hp hs=>by
  obtain⟨ns',q1,q2,q3⟩:=sorted_out hI hp hs;exact h _ ns' q1 q2 q3
 have up0:=Vt hI up;by_cases c:vs.toArray.size<2
 ·rw[if_pos c,if_pos c]
  refine wpAny_bind (wpAny_pure ?_);rw[StateT.run_pure];refine wpAny_bind (wpAny_pure ?_);dsimp only;refine wpAny_bind (seqEpoch_at g6 rfl (wpAny_bind (listUpdate_at g6 rfl ?_ (hsz2:=by rw[Array.size_map];show(pairsOf vs).size<=_;rw[zs];omega))));simp only[bne_self_eq_false,aoG,if_false];exact wpAny_pure (fin (SortSt.mk' general' (vs.toArray.zip vs.toArray) #[] 7 none) (Array.Perm.refl _) up0)
 ·rw[if_neg c,if_neg c]
  obtain⟨v1,v2,r,rfl⟩:∃ v1 v2 r,vs=v1::v2::r:=by
   match vs,c with
   | [],c=>simp at c
   | [_],c=>simp at c
   | v1::v2::r,_=>exact⟨v1,v2,r,rfl⟩
  rw[keyKind_ints hI];refine wpAny_bind (wpAny_pure (wpAny_bind (wpAny_mono (Rl (a₀:=pairsOf (v1::v2::r)) (st:=SortSt.mk' oneType' ((v1::v2::r).toArray.zip (v1::v2::r).toArray) #[] 7 none)
   (Q:=λ_ st'=>(arrOf st').Perm (pairsOf (v1::v2::r))/\failedOf st'=none/\SortedTo (arrOf st') (pairsOf (v1::v2::r)).size) hI.intKeys ⟨Array.Perm.refl _,rfl,rfl,rfl⟩ (by rw[zs];simp) up0 λst' a1 a2 a3=>⟨a1,a2,a3⟩) ?_ λ_ _ e=>e)))
  rintro⟨⟨⟩,st'⟩ s' ⟨rfl,hp,hf,hs⟩;dsimp only;refine wpAny_bind (seqEpoch_at g6 rfl (wpAny_bind (listUpdate_at g6 rfl ?_ (hsz2:=aou (Nat.le_of_eq ((Array.size_map ..).trans (hp.size_eq.trans zs))) (Nat.le_succ_of_le hz)))));rw[hf];simp only[bne_self_eq_false,aoG,if_false];exact wpAny_pure (fin st' hp hs)
end
section
variable{X:Cx}
noncomputable def Vu:List V->Hp->VK->Prop:=λvs H Q=>∃(p:Addr) (kvs:List (Key×V)) (ks:List Int),vs=[.ref p]/\Rd H p (.dK kvs)/\kvs.map (·.1)=ks.map Sum.inl/\ks.length<=20000/\ks.Pairwise (·<=·)/\∀(l:Addr),H l=none->Q (.ref l) (upd H l (.lst (ks.map V.int)))
theorem LS(hc:X.calm=true):yI X (.builtin "sorted") Vu:=by
 rintro pins s σ H xs us Q I r ⟨p,kvs,ks,rfl,hp,hk,few,up,q⟩;obtain⟨u,rfl,ru⟩:=r.one;cases (show u=Value.ref p from ru);obtain⟨hz,hd,vs,rel,dd⟩:=AQ I.hok hp;obtain⟨ep,hat⟩:=dd.dictAt;have hh:=I.ok.hd hc;have hl:ks.length=kvs.length:=by
  have:=congrArg List.length hk
  simpa using this.symm
 refine Calls.call_function_entry kind_sorted plain_sorted entry_sorted (args_sorted1 _) ?_;unfold Builtin.«sorted»;refine wpAny_bind (m:=checkCount "sorted" 1 1 _) (wpAny_pure ?_);refine wpAny_bind (PySem.W.kdu_collect (A:=X.A.in1) (PySem.W.kdl_dict (knd:=cA X.prog X.w) (kvs:=vs) (ep:=ep) hd) hh hat (by rw[<-rel.length];exact hz) λh' tk acc hkp hacc=>?_);have hI:IntsAre acc.toList ks:=Ls (by rw[<-rel.keys];exact hk) hacc.1 hacc.2;have hlen:=hI.length;have I1:Inv X pins σ H {s with heap:=h',toks:=tk}:=I.kept (t':=tk) hkp;refine wpAny_bind (wpAny_newList ?_ (by show acc.toList.length<=sizeLine;rw[hlen,hl];exact hz));have hoL:(h'.push (seqObj "list" acc.toList.toArray 0)).get? h'.objs.size=some (seqObj "list" acc.toList.toArray 0):=aoB _ rfl;show wpAny _ _ _ _ _ {s with heap:=h'.push (seqObj "list" acc.toList.toArray 0),toks:=tk};refine wpAny_bind (wpAny_holding (wpAny_call_entry slot_list_sort ⟨_,hoL,rfl⟩ entry_list_sort (C8 hoL hI 1e1 up λout ns' a1 a2 a3=>⟨_,rfl,?_⟩) (args_list_sort _)));refine wpAny_pure ⟨_,rfl,?_⟩;cases Lu a2 a3 up;obtain⟨e,he⟩:=sortedHeap_at (out:=out) hoL;refine⟨.ref h'.objs.size,_,I1.laid (a:=h'.objs.size) (o:=.lst (ks.map V.int)) (t':=tk) (λb o hb=>?_) (aoa _) ?_,rfl,q _ (I1.hok.fresh (aoa _))⟩
 ·have hlt:=aoe hb
  rw[sortedHeap_old (aok hlt) (by rw[size_push'];exact apF hlt),Heap.get?_push_ne _ _ _ (aok hlt)];exact hb
 ·refine⟨by rw[an6,hl];exact hz,out.toList,e,tV a1,?_⟩
  rw[he]
noncomputable def X2(K:W.Frag):List V->Hp->VK->Prop:=λvs H Q=>∃(p:Addr) (ns:List Int),vs=[.ref p]/\SqL K H p (ns.map V.int)/\ns.length<=20000/\ns.Pairwise (·<=·)/\∀(l:Addr),H l=none->Q (.ref l) (upd H l (.lst (ns.map V.int)))
theorem Oj:yI X (.builtin "sorted") (X2 X.K):=by
 rintro pins s σ H xs us Q I r ⟨p,ns,rfl,hq,few,up,q⟩;obtain⟨u,rfl,ru⟩:=r.one;cases (show u=Value.ref p from ru);obtain⟨its,rv,pl,hz⟩:=I.list hq;have hI:=intsAre_of rv;have hlen:=rv.length;rw[an6]at hlen hz;refine Calls.call_function_entry kind_sorted plain_sorted entry_sorted (args_sorted1 _) ?_;unfold Builtin.«sorted»;refine wpAny_bind (m:=checkCount "sorted" 1 1 _) (wpAny_pure ?_);have iz:its.length<=sizeLine:=by omega
 refine wpAny_bind (collect_list pl.isList ?_ iz);refine wpAny_bind (wpAny_newList ?_ iz);have sz:((s.heap.push (seqObj "list" #[] 0)).update s.heap.objs.size (Obj.mapSeq (·++its.toArray))).objs.size=s.heap.objs.size+1:=by rw[Heap.size_update,size_push']
 have hoL:(((s.heap.push (seqObj "list" #[] 0)).update s.heap.objs.size (Obj.mapSeq (·++its.toArray))).push (seqObj "list" its.toArray 0)).get? (s.heap.objs.size+1)=some (seqObj "list" its.toArray 0):=by rw[<-sz];exact aoB _ rfl
 show wpAny _ _ _ _ _ {s with heap:=((s.heap.push (seqObj "list" #[] 0)).update s.heap.objs.size (Obj.mapSeq (·++its.toArray))).push (seqObj "list" its.toArray 0)};rw[sz];refine wpAny_bind (wpAny_holding (wpAny_call_entry slot_list_sort ⟨_,hoL,rfl⟩ entry_list_sort (C8 hoL hI 1e1 up λout ns' a1 a2 a3=>⟨_,rfl,?_⟩) (args_list_sort _)));refine wpAny_pure ⟨_,rfl,?_⟩;cases Lu a2 a3 up;obtain⟨e,he⟩:=sortedAll_at s.heap its out;refine⟨.ref (s.heap.objs.size+1),_,I.laid (a:=s.heap.objs.size+1) (o:=.lst (ns.map V.int)) (t':=s.toks) (λ_ _=>sortedAll_old) (apE _) ?_,rfl,q _ (I.hok.fresh (apE _))⟩;refine⟨by rw[an6];exact hz,out.toList,e,tV a1,?_⟩;show(sortedAll s.heap its out).get? _=_;rw[he]
end
end L2
end
section
namespace K38
open PySem L2 LX
noncomputable abbrev jB:Stmt:=inClass (top 2) 0
noncomputable abbrev qx:Stmt:=top 20
noncomputable abbrev sF:Stmt:=top 21
noncomputable abbrev yN:Stmt:=top 22
noncomputable abbrev AS:Stmt:=top 23
noncomputable abbrev mY:Stmt:=top 24
noncomputable abbrev qy:Stmt:=top 25
noncomputable abbrev qz:Stmt:=top 26
noncomputable abbrev ph:Stmt:=top 27
noncomputable abbrev mZ:Stmt:=top 28
noncomputable abbrev va:Stmt:=top 30
noncomputable abbrev AU:Stmt:=top 31
noncomputable abbrev AV:Stmt:=top 32
noncomputable abbrev wZ:Stmt:=top 33
noncomputable abbrev sG:Stmt:=top 34
noncomputable abbrev pj:Stmt:=top 35
noncomputable abbrev qA:Stmt:=top 36
noncomputable abbrev ux:Stmt:=top 38
noncomputable abbrev jK:Stmt:=top 39
noncomputable abbrev lG:Stmt:=top 40
noncomputable abbrev md:Stmt:=top 41
noncomputable abbrev ng:Stmt:=top 42
noncomputable abbrev jC:Stmt:=top 43
noncomputable abbrev kh:Stmt:=top 44
noncomputable abbrev Ff:Stmt:=top 45
noncomputable abbrev w8:Stmt:=top 46
noncomputable abbrev nj:Stmt:=inClass (top 48) 0
noncomputable abbrev pk:Stmt:=inClass (top 48) 1
noncomputable abbrev lH:Stmt:=inClass (top 48) 2
noncomputable abbrev xa:Stmt:=inClass (top 48) 3
noncomputable abbrev uy:Stmt:=inClass (top 48) 4
noncomputable abbrev qB:Stmt:=inClass (top 48) 5
noncomputable abbrev uz:Stmt:=inClass (top 48) 6
noncomputable abbrev sI:Stmt:=inClass (top 48) 7
noncomputable abbrev uA:Stmt:=inClass (top 48) 8
noncomputable abbrev lI:Stmt:=inClass (top 48) 9
noncomputable abbrev jD:Stmt:=inClass (top 51) 0
noncomputable abbrev nr:Stmt:=inClass (top 51) 1
noncomputable abbrev kG:Stmt:=inClass (top 51) 4
noncomputable abbrev uB:Stmt:=top 53
noncomputable abbrev jE:Stmt:=inClass (top 55) 0
noncomputable abbrev nv:Stmt:=inClass (top 55) 1
noncomputable abbrev lJ:Stmt:=inClass (top 55) 2
noncomputable abbrev jj:Stmt:=inClass (top 55) 3
noncomputable abbrev iV:Stmt:=inClass (top 55) 4
noncomputable abbrev pq:Stmt:=inClass (top 57) 0
noncomputable abbrev nz:Stmt:=inClass (top 57) 1
noncomputable abbrev xb:Stmt:=inClass (top 57) 2
noncomputable abbrev uC:Stmt:=inClass (top 57) 3
noncomputable abbrev xg:Stmt:=inClass (top 57) 4
noncomputable abbrev xh:Stmt:=inClass (top 57) 5
noncomputable abbrev sJ:Stmt:=inClass (top 57) 6
noncomputable abbrev xi:Stmt:=inClass (top 57) 7
noncomputable abbrev lK:Stmt:=inClass (top 57) 8
noncomputable abbrev xj:Stmt:=inClass (top 57) 9
noncomputable abbrev iW:Stmt:=inClass (top 57) 10
noncomputable abbrev sL:Stmt:=inClass (top 57) 11
noncomputable abbrev kj:Stmt:=inClass (top 57) 12
noncomputable abbrev iX:Stmt:=inClass (top 57) 15
noncomputable abbrev iu:Stmt:=inClass (top 57) 16
noncomputable abbrev sM:Stmt:=top 58
noncomputable abbrev jF:Stmt:=inClass (top 60) 0
noncomputable abbrev nA:Stmt:=inClass (top 60) 1
noncomputable abbrev nB:Stmt:=inClass (top 60) 2
noncomputable abbrev nC:Stmt:=inClass (top 60) 4
noncomputable abbrev lL:Stmt:=inClass (top 60) 5
noncomputable abbrev kH:Stmt:=inClass (top 60) 6
noncomputable abbrev nD:Stmt:=inClass (top 60) 7
noncomputable abbrev nE:Stmt:=inClass (top 60) 8
noncomputable abbrev lM:Stmt:=inClass (top 60) 9
noncomputable abbrev lN:Stmt:=inClass (top 60) 10
noncomputable abbrev pw:Stmt:=inClass (top 60) 11
noncomputable abbrev jG:Stmt:=inClass (top 60) 12
noncomputable abbrev lO:Stmt:=inClass (top 60) 13
noncomputable abbrev lP:Stmt:=inClass (top 60) 14
noncomputable abbrev kI:Stmt:=inClass (top 60) 15
noncomputable abbrev jk:Stmt:=inClass (top 60) 16
noncomputable abbrev lQ:Stmt:=inClass (top 60) 22
noncomputable abbrev lR:Stmt:=inClass (top 62) 0
noncomputable abbrev sN:Stmt:=inClass (top 62) 1
noncomputable abbrev xk:Stmt:=inClass (top 62) 2
noncomputable abbrev uD:Stmt:=inClass (top 62) 3
noncomputable abbrev gR:Stmt:=inClass (top 62) 5
noncomputable abbrev xm:Stmt:=top 64
noncomputable abbrev uE:Stmt:=top 65
noncomputable abbrev qC:Stmt:=top 66
noncomputable abbrev xn:Stmt:=top 67
noncomputable abbrev uF:Stmt:=top 68
noncomputable abbrev xo:Stmt:=top 69
noncomputable abbrev sO:Stmt:=top 70
noncomputable abbrev sP:Stmt:=top 71
noncomputable abbrev ka:Stmt:=top 72
noncomputable abbrev sQ:Stmt:=top 73
noncomputable abbrev xq:Stmt:=top 74
noncomputable abbrev xt:Stmt:=top 75
noncomputable abbrev uG:Stmt:=top 76
noncomputable abbrev nF:Stmt:=top 77
noncomputable abbrev xu:Stmt:=top 78
noncomputable abbrev nG:Stmt:=top 79
noncomputable abbrev xv:Stmt:=top 80
noncomputable abbrev Xa:Stmt:=top 81
set_option genInjectivity false in
structure Ad where
 aK:Addr
 dz:Addr
 br:Addr
 fQ:Addr
 fR:Addr
 aZ:Addr
 cF:Addr
 iR:Addr
 kS:Addr
 jx:Addr
 jy:Addr
 a6:Addr
 aL:Addr
 aD:Addr
 a7:Addr
 ab:Addr
 bK:Addr
 ao:Addr
 aw:FuncData
 dN:Addr
 jL:FuncData
 cJ:Addr
 gc:FuncData
 eC:Addr
 hX:FuncData
 gC:Addr
 kT:FuncData
 cc:Addr
 gg:FuncData
 bj:Addr
 cG:FuncData
 cX:Addr
 iN:FuncData
 cH:Addr
 gE:FuncData
 cM:Addr
 iw:FuncData
 jb:Addr
 ra:FuncData
 fS:Addr
 jV:FuncData
 jc:Addr
 rb:FuncData
 gp:Addr
 kW:FuncData
 eN:Addr
 kq:FuncData
 c5:Addr
 jd:FuncData
 dO:Addr
 jM:FuncData
 fU:Addr
 mC:FuncData
 dP:Addr
 jN:FuncData
 ck:Addr
 gK:FuncData
 dQ:Addr
 jO:FuncData
 cN:Addr
 iy:FuncData
 bw:Addr
 eO:FuncData
 bG:Addr
 fL:FuncData
 jz:Addr
 qS:FuncData
 g4:Addr
 oz:FuncData
 de:Addr
 iA:FuncData
 bX:Addr
 dW:FuncData
 bL:Addr
 dE:FuncData
 fu:Addr
 iZ:FuncData
 gU:Addr
 mD:FuncData
 ft:Addr
 jP:FuncData
 fg:Addr
 i4:FuncData
 gi:Addr
 kr:FuncData
 gW:Addr
 mE:FuncData
 ba:Addr
 cn:FuncData
 bP:Addr
 eP:FuncData
 di:Addr
 iB:FuncData
 cB:Addr
 gv:FuncData
 fV:Addr
 mF:FuncData
 bQ:Addr
 eQ:FuncData
 dq:Addr
 iC:FuncData
 cS:Addr
 gL:FuncData
 bF:Addr
 d8:FuncData
 cC:Addr
 gx:FuncData
 cI:Addr
 je:FuncData
 cf:Addr
 iD:FuncData
 fz:Addr
 kX:FuncData
 fi:Addr
 mG:FuncData
 fA:Addr
 kY:FuncData
 fB:Addr
 kZ:FuncData
 dJ:Addr
 ku:FuncData
 gq:Addr
 oA:FuncData
 bM:Addr
 gM:FuncData
 g7:Addr
 sk:FuncData
 bB:Addr
 gy:FuncData
 cZ:Addr
 jo:FuncData
 bo:Addr
 fM:FuncData
 bc:Addr
 eG:FuncData
 bt:Addr
 eK:FuncData
 eS:Addr
 kz:FuncData
 bR:Addr
 eT:FuncData
 dr:Addr
 iE:FuncData
 dt:Addr
 iF:FuncData
 du:Addr
 iG:FuncData
 cT:Addr
 gN:FuncData
 cD:Addr
 gz:FuncData
 dv:Addr
 iH:FuncData
 dw:Addr
 iI:FuncData
 bN:Addr
 dF:FuncData
 cU:Addr
 gO:FuncData
 dX:Addr
 jf:FuncData
 bS:Addr
 eU:FuncData
 cp:Addr
 fF:FuncData
 cq:Addr
 fG:FuncData
 bC:Addr
 c6:FuncData
 aP:Addr
 bh:FuncData
 cV:Addr
 gP:FuncData
 cW:Addr
 gQ:FuncData
 eV:Addr
 jq:FuncData
 dB:Addr
 gr:FuncData
 gX:Addr
 mI:FuncData
 aU:Addr
 bU:FuncData
 fD:Addr
 jS:FuncData
 c7:Addr
 gY:FuncData
 dR:Addr
 jQ:FuncData
 g8:Addr
 oB:FuncData
 fW:Addr
 mJ:FuncData
 g9:Addr
 oE:FuncData
 eW:Addr
 kA:FuncData
 eX:Addr
 kB:FuncData
 fX:Addr
 mK:FuncData
 eY:Addr
 kC:FuncData
 hG:Addr
 oH:FuncData
 hJ:Addr
 oJ:FuncData
 fY:Addr
 mL:FuncData
 cO:Addr
 iJ:FuncData
 hR:Addr
 oK:FuncData
 cP:Addr
 iK:FuncData
 hU:Addr
 oO:FuncData
 Lb:Addr
 Rm:FuncData
 IL:Tok
 pW:Tok
 oe:Tok
 pX:Tok
 pY:Tok
 pZ:Tok
 me:Tok
structure Txt(K:W.Frag)(mg:Str->Option Value)(D:Ad):Prop where
 h:∃ cd,h9 K D.aK cd
 mH:mg "HeapError" = some (.ref D.aK)
 oQ:mg "BadCount" = some (.ref D.dz)
 xw:NL K D.dz
 oV:MkX K D.dz D.ao
 Ys:PySem.W.kitOne K (.ref D.dz) (.type "ValueError")=some true
 LU:∃ cd,h9 K D.dz cd/\cd.mro.contains (.ref D.aK)=true
 vc:mg "BadHand" = some (.ref D.br)
 og:NL K D.br
 AW:MkX K D.br D.ao
 Y1:PySem.W.kitOne K (.ref D.br) (.type "ValueError")=some true
 Fy:∃ cd,h9 K D.br cd/\cd.mro.contains (.ref D.aK)=true
 Rn:mg "BadName" = some (.ref D.fQ)
 IM:NL K D.fQ
 Ro:MkX K D.fQ D.ao
 Y2:PySem.W.kitOne K (.ref D.fQ) (.type "ValueError")=some true
 Ol:∃ cd,h9 K D.fQ cd/\cd.mro.contains (.ref D.aK)=true
 Fz:mg "BadField" = some (.ref D.fR)
 FA:NL K D.fR
 Om:MkX K D.fR D.ao
 Yt:PySem.W.kitOne K (.ref D.fR) (.type "ValueError")=some true
 C9:∃ cd,h9 K D.fR cd/\cd.mro.contains (.ref D.aK)=true
 jr:mg "BadAddress" = some (.ref D.aZ)
 gj:NL K D.aZ
 oi:MkX K D.aZ D.ao
 V2:PySem.W.kitOne K (.ref D.aZ) (.type "ValueError")=some true
 Hh:∃ cd,h9 K D.aZ cd/\cd.mro.contains (.ref D.aK)=true
 FY:mg "TooManyWords" = some (.ref D.cF)
 FZ:NL K D.cF
 F5:MkX K D.cF D.ao
 UK:PySem.W.kitOne K (.ref D.cF) (.type "ValueError")=some true
 DE:∃ cd,h9 K D.cF cd/\cd.mro.contains (.ref D.aK)=true
 Rq:mg "BadView" = some (.ref D.iR)
 Rr:NL K D.iR
 Rt:MkX K D.iR D.ao
 Y3:PySem.W.kitOne K (.ref D.iR) (.type "ValueError")=some true
 Yu:∃ cd,h9 K D.iR cd/\cd.mro.contains (.ref D.aK)=true
 Ui:mg "NoRoom" = some (.ref D.kS)
 Uj:NL K D.kS
 Uk:MkX K D.kS D.ao
 Z3:PySem.W.kitOne K (.ref D.kS) (.type "ValueError")=some true
 Ru:∃ cd,h9 K D.kS cd/\cd.mro.contains (.ref D.aK)=true
 Rw:mg "RoundOn" = some (.ref D.jx)
 Rx:NL K D.jx
 Rz:MkX K D.jx D.ao
 Y4:PySem.W.kitOne K (.ref D.jx) (.type "ValueError")=some true
 Oo:∃ cd,h9 K D.jx cd/\cd.mro.contains (.ref D.aK)=true
 RA:mg "NoRound" = some (.ref D.jy)
 RB:NL K D.jy
 RC:MkX K D.jy D.ao
 Y5:PySem.W.kitOne K (.ref D.jy) (.type "ValueError")=some true
 Oq:∃ cd,h9 K D.jy cd/\cd.mro.contains (.ref D.aK)=true
 Vv:mg "Hands" = some (.ref D.a6)
 aV:Cls K D.a6
 Jp:Mk K D.a6 D.de
 cE:eL K D.a6 "words_held"
 iL:Meth K D.a6 "word_in" D.bX
 kJ:Meth K D.a6 "all_words" D.bL
 qa:Meth K D.a6 "put" D.fu
 JH:Meth K D.a6 "copy" D.gU
 F6:Meth K D.a6 "number" D.ft
 sR:Meth K D.a6 "kind" D.fg
 Hi:Meth K D.a6 "value" D.gi
 JI:Meth K D.a6 "same" D.gW
 gA:Meth K D.a6 "thing_due" D.ba
 LV:mg "WordTable" = some (.ref D.aL)
 c0:Cls K D.aL
 uH:Mk K D.aL D.bP
 bH:eL K D.aL "words_borne"
 lB:eL K D.aL "words_said"
 Bd:Meth K D.aL "bear" D.di
 xV:Meth K D.aL "settle" D.cB
 LW:mg "NameTable" = some (.ref D.aD)
 dM:Cls K D.aD
 uI:Mk K D.aD D.bQ
 bV:eL K D.aD "things_named"
 Be:Meth K D.aD "name" D.dq
 zu:Meth K D.aD "named" D.cS
 tY:Meth K D.aD "all_named" D.bF
 xW:Meth K D.aD "settle" D.cC
 X3:mg "Heap" = some (.ref D.a7)
 abR:Cls K D.a7
 SV:Mk K D.a7 D.cI
 QY:eL K D.a7 "makes_young"
 UL:eL K D.a7 "in_hands"
 Sd:eL K D.a7 "weak_names"
 Se:eL K D.a7 "last_words"
 QZ:eL K D.a7 "fields_held"
 Qn:eL K D.a7 "young_things"
 Sf:eL K D.a7 "next_thing"
 Sg:Meth K D.a7 "add_thing" D.cf
 Xi:Meth K D.a7 "load" D.fz
 V3:Meth K D.a7 "store" D.fi
 Xj:Meth K D.a7 "copy" D.fA
 Xk:Meth K D.a7 "drop" D.fB
 UZ:Meth K D.a7 "number" D.dJ
 Xl:Meth K D.a7 "name" D.gq
 Q0:Meth K D.a7 "read_thing" D.bM
 Xm:Meth K D.a7 "word" D.g7
 Qo:Meth K D.a7 "small_round" D.bB
 U0:Meth K D.a7 "let_go" D.cZ
 NY:Meth K D.a7 "look_at_held" D.bo
 Qp:Meth K D.a7 "words_among" D.bc
 Sh:Meth K D.a7 "led_among" D.bt
 X4:YX K D.a7 "__init__" D.cI
 LY:mg "IdealHeap" = some (.ref D.ab)
 ae:Cls K D.ab
 uJ:Mk K D.ab D.bR
 ic:eL K D.ab "makes_young"
 aA:eL K D.ab "in_hands"
 dD:eL K D.ab "weak_names"
 iS:eL K D.ab "last_words"
 aC:eL K D.ab "fields_held"
 bA:eL K D.ab "young_things"
 iT:eL K D.ab "next_thing"
 lC:eL K D.ab "young_room"
 rF:eL K D.ab "limit"
 bp:eL K D.ab "doomed_things"
 da:eL K D.ab "in_round"
 tZ:Meth K D.ab "add_thing" D.cf
 rG:Meth K D.ab "load" D.fz
 zw:Meth K D.ab "store" D.fi
 rH:Meth K D.ab "copy" D.fA
 rJ:Meth K D.ab "drop" D.fB
 xX:Meth K D.ab "number" D.dJ
 Bf:Meth K D.ab "name" D.gq
 tq:Meth K D.ab "read_thing" D.bM
 Si:Meth K D.ab "word" D.g7
 rU:Meth K D.ab "small_round" D.bB
 pI:Meth K D.ab "let_go" D.cZ
 rf:Meth K D.ab "look_at_held" D.bo
 ko:Meth K D.ab "words_among" D.bc
 iU:Meth K D.ab "led_among" D.bt
 Bg:Meth K D.ab "make" D.dr
 Bh:Meth K D.ab "read" D.dt
 Bi:Meth K D.ab "kind" D.du
 zA:Meth K D.ab "value" D.cT
 xY:Meth K D.ab "fields" D.cD
 rK:Meth K D.ab "same" D.dv
 Bj:Meth K D.ab "held" D.dw
 kK:Meth K D.ab "small" D.bN
 zC:Meth K D.ab "begin" D.cU
 DF:Meth K D.ab "end" D.dX
 vk:Meth K D.ab "round_on" D.bS
 qk:Meth K D.ab "hands" D.cp
 ql:Meth K D.ab "names" D.cq
 fN:Meth K D.ab "things" D.bC
 cK:Meth K D.ab "fields_of" D.aP
 zD:Meth K D.ab "spare" D.cV
 Ul:mg "Memory" = some (.ref D.bK)
 bZ:Cls K D.bK
 Fg:Mk K D.bK D.cW
 iO:eL K D.bK "cells"
 wO:Meth K D.bK "size" D.eV
 gZ:Meth K D.bK "at" D.dB
 JJ:Meth K D.bK "put" D.gX
 jW:Meth K D.bK "look_at_address" D.aU
 Hj:mg "number_value" = some (.ref D.dN)
 qD:PySem.W.keepIn K (.ref D.dN)=true
 oj:mg "thing_value" = some (.ref D.cJ)
 js:PySem.W.keepIn K (.ref D.cJ)=true
 qT:mg "kind_of" = some (.ref D.eC)
 lD:PySem.W.keepIn K (.ref D.eC)=true
 AX:mg "words_of" = some (.ref D.gC)
 rg:PySem.W.keepIn K (.ref D.gC)=true
 tL:mg "look_at_number" = some (.ref D.cc)
 jX:PySem.W.keepIn K (.ref D.cc)=true
 gB:mg "look_at_hand" = some (.ref D.bj)
 dS:PySem.W.keepIn K (.ref D.bj)=true
 wQ:mg "look_at_name" = some (.ref D.cX)
 mh:PySem.W.keepIn K (.ref D.cX)=true
 ve:mg "look_at_field" = some (.ref D.cH)
 kE:PySem.W.keepIn K (.ref D.cH)=true
 DG:mg "look_at_limits" = some (.ref D.cM)
 nI:PySem.W.keepIn K (.ref D.cM)=true
 RD:mg "thing_at" = some (.ref D.jb)
 AY:PySem.W.keepIn K (.ref D.jb)=true
 vg:mg "resolved" = some (.ref D.fS)
 oo:PySem.W.keepIn K (.ref D.fS)=true
 RE:mg "field_at" = some (.ref D.jc)
 AZ:PySem.W.keepIn K (.ref D.jc)=true
 FC:mg "fields_at" = some (.ref D.gp)
 so:PySem.W.keepIn K (.ref D.gp)=true
 JK:mg "fields_told" = some (.ref D.eN)
 sS:PySem.W.keepIn K (.ref D.eN)=true
 F7:mg "field_address" = some (.ref D.c5)
 pz:PySem.W.keepIn K (.ref D.c5)=true
 Hk:mg "look_at_room" = some (.ref D.dO)
 qE:PySem.W.keepIn K (.ref D.dO)=true
 LZ:mg "is_picture" = some (.ref D.fU)
 uK:PySem.W.keepIn K (.ref D.fU)=true
 Hl:mg "first_unlike" = some (.ref D.dP)
 qF:PySem.W.keepIn K (.ref D.dP)=true
 Bk:mg "first_misplaced" = some (.ref D.ck)
 lS:PySem.W.keepIn K (.ref D.ck)=true
 wR:mg "addresses_of" = some (.ref D.dQ)
 mj:PySem.W.keepIn K (.ref D.dQ)=true
 DH:mg "first_headless" = some (.ref D.cN)
 nJ:PySem.W.keepIn K (.ref D.cN)=true
 vT:mg "first_unlike_field" = some (.ref D.bw)
 jH:PySem.W.keepIn K (.ref D.bw)=true
 pJ:mg "first_unlike_word" = some (.ref D.bG)
 ia:PySem.W.keepIn K (.ref D.bG)=true
 Lz:mg "is_like" = some (.ref D.jz)
 yO:PySem.W.keepIn K (.ref D.jz)=true
 Ot:mg "place_met" = some (.ref D.g4)
 xx:PySem.W.keepIn K (.ref D.g4)=true
 L0:mg "last_steps" = some (.ref D.fV)
 uL:PySem.W.keepIn K (.ref D.fV)=true
 yW:mg "thing_among" = some (.ref D.eS)
 oq:PySem.W.keepIn K (.ref D.eS)=true
 xy:mg "_law_cell" = some (.ref D.fD)
 oW:PySem.W.keepIn K (.ref D.fD)=true
 i6:mg "_law_mixed" = some (.ref D.c7)
 fZ:PySem.W.keepIn K (.ref D.c7)=true
 Hm:mg "_law_numbers" = some (.ref D.dR)
 qG:PySem.W.keepIn K (.ref D.dR)=true
 Ou:mg "_law_deed" = some (.ref D.g8)
 xC:PySem.W.keepIn K (.ref D.g8)=true
 L1:mg "_law_round" = some (.ref D.fW)
 uM:PySem.W.keepIn K (.ref D.fW)=true
 Ov:mg "_law_heap" = some (.ref D.g9)
 xD:PySem.W.keepIn K (.ref D.g9)=true
 JL:mg "_law_places" = some (.ref D.eW)
 sT:PySem.W.keepIn K (.ref D.eW)=true
 yX:mg "_law_spoken" = some (.ref D.eX)
 ot:PySem.W.keepIn K (.ref D.eX)=true
 L4:mg "_law_model" = some (.ref D.fX)
 uN:PySem.W.keepIn K (.ref D.fX)=true
 JM:mg "_law_memory" = some (.ref D.eY)
 sU:PySem.W.keepIn K (.ref D.eY)=true
 Ow:mg "_law_seen" = some (.ref D.hG)
 xE:PySem.W.keepIn K (.ref D.hG)=true
 Ox:mg "_law_told" = some (.ref D.hJ)
 xG:PySem.W.keepIn K (.ref D.hJ)=true
 De:mg "_law_where" = some (.ref D.fY)
 qb:PySem.W.keepIn K (.ref D.fY)=true
 tM:mg "_law_alike_now" = some (.ref D.cO)
 jY:PySem.W.keepIn K (.ref D.cO)=true
 Oy:mg "_law_load" = some (.ref D.hR)
 xI:PySem.W.keepIn K (.ref D.hR)=true
 DI:mg "_law_load_here" = some (.ref D.cP)
 nK:PySem.W.keepIn K (.ref D.cP)=true
 Oz:mg "_law_both" = some (.ref D.hU)
 xJ:PySem.W.keepIn K (.ref D.hU)=true
 an0:mg "law" = some (.ref D.Lb)
 Y6:PySem.W.keepIn K (.ref D.Lb)=true
 kU:mg "len" = none
 pK:mg "range" = none
 yY:mg "list" = none
 Du:mg "sorted" = none
 Xb:mg "sum" = none
 Xc:mg "abs" = none
 hV:mg "enumerate" = none
 uO:mg "ValueError" = none
 NZ:mg "dict" = none
 IP:mg "HANDS" = some (.int 8 D.IL)
 qc:mg "WEAK_NAMES" = some (.int 8 D.pW)
 sV:mg "MOST_FIELDS" = some (.int 6 D.oe)
 qd:mg "LEAST_ROOM" = some (.int 7 D.pX)
 uP:mg "MOST_YOUNG" = some (.int 64 D.pY)
 uQ:mg "MOST_LIMIT" = some (.int 400 D.pZ)
 mz:mg "MOST_BEARERS" = some (.int 12 D.me)
structure Ok(P:Program)(w:World)(K:W.Frag)(mg:Str->Option Value)(base:Heap)(n:Nat)(f:Addr)(fd:FuncData)(ps:List Str)(sp:Sp):Prop where
 g:DB P w K mg base (CXE P w) n f fd ps sp
 b:Binds K fd ps []
section
variable{X:Cx}{n k:Nat}{f C:Addr}{fd:FuncData}{ps:List Str}{sp:Sp}{EK:St->XK}{x mn:Str}{p apos pos:Pos}{ex o:Expr}{es:List Expr}{t:TA}{ta:TE}
theorem Ok.c(G:Ok X.prog X.w X.K X.mg X.base n f fd ps sp)(hr:mT k X.A)(hm:X.mg x=some (.ref f))(hk:PySem.W.keepIn X.K (.ref f)=true)(hx:gT (CXE X.prog X.w) X EK)(ha:PA X (ex::es) t)(hn:n<=k:=by decide)(hg:Gl X x:=by exact rfl)(hdb:(x == ("__debug__" : Str))=false:=by decide)(he:starEach (ex::es) X.env=(false,eval ex X.env)::starEach es X.env:=by rfl)(hpl:(backTo pos (starEach es X.env)).any (·.1)=false:=by rfl):PE X (.Call (.Name x p) (ex::es) [] pos) (W2 sp [] EK t):=vP G.g (hr.mono hn) hg hm hk G.b .nil hx ha hdb he hpl
theorem Ok.m{pl:Sem Bool}(G:Ok X.prog X.w X.K X.mg X.base n f fd ps sp)(hr:mT k X.A)(he:PE X o ta)(c:Cls X.K C)(hm:Meth X.K C mn f)(hx:gT (CXE X.prog X.w) X EK)(ha:PA X (ex::es) t)(hn:n<=k:=by decide)(hst:starEach (ex::es) X.env=(false,eval ex X.env)::starEach es X.env:=by rfl)(hpl:(backTo pos (starEach es X.env)).any (·.1)=false:=by rfl)
  (ht:eval (.Call (.Attribute o mn apos) (ex::es) [] pos) X.env=(do let ov <-eval o X.env;standAt apos.atName;let (f,first) <-holding [ov] (getMethod ov mn pl);callWith pos f first (backTo pos (starEach (ex::es) X.env)) (backToKw pos (keywordEach [] X.env))):=by rfl):PE X (.Call (.Attribute o mn apos) (ex::es) [] pos) (UJ C mn sp [] EK ta t):=XU he c hm G.g (hr.mono hn) G.b .nil hx ha hst hpl ht
theorem Ok.m0{pl:Sem Bool}(G:Ok X.prog X.w X.K X.mg X.base n f fd ps sp)(hr:mT k X.A)(he:PE X o ta)(c:Cls X.K C)(hm:Meth X.K C mn f)(hx:gT (CXE X.prog X.w) X EK)(hn:n<=k:=by decide)
  (ht:eval (.Call (.Attribute o mn apos) [] [] pos) X.env=(do let ov <-eval o X.env;standAt apos.atName;let (f,first) <-holding [ov] (getMethod ov mn pl);callWith pos f first (backTo pos (starEach [] X.env)) (backToKw pos (keywordEach [] X.env))):=by rfl):PE X (.Call (.Attribute o mn apos) [] [] pos) (UJ C mn sp [] EK ta YK):=Vn he c hm G.g (hr.mono hn) G.b .nil hx ht
theorem Ok.e(G:Ok X.prog X.w X.K X.mg X.base n f fd ps sp)(hr:mT k X.A)(M:MkX X.K C f)(hm:X.mg x=some (.ref C))(hx:gT (CXE X.prog X.w) X EK)(ha:PA X (ex::es) t)(hn:n+1<=k:=by decide)(hg:Gl X x:=by exact rfl)(hps:ps.length<=1000:=by decide)(hdb:(x == ("__debug__" : Str))=false:=by decide)(he:starEach (ex::es) X.env=(false,eval ex X.env)::starEach es X.env:=by rfl)(hpl:(backTo pos (starEach es X.env)).any (·.1)=false:=by rfl):PE X (.Call (.Name x p) (ex::es) [] pos) (ajl C sp EK t):=ZM M G.g (hr.mono hn) hg hm G.b hx ha hps hdb he hpl
end
section
variable{P:Program}{w:World}{K:W.Frag}{mg:Str->Option Value}{base:Heap}{x qual:Str}{st:Stmt}{f:Addr}{fd:FuncData}{N ps:List Str}{k:Nat}{sp:Sp}
theorem _root_.L2.Fun.oa(F:Fun K x qual st f fd)(S:av N ps (ar st))(B:Binds K fd ps [])
  (Q9:∀(cdv:Value) (A:Around) (outer:List Env) (s:Shared) (H:Hp) (vs:List V) (Q:VK) (E:XK),mT k (A.deeper (PyProof.Rows.envOfC qual (ar st) s.heap.objs.size f cdv))->sp vs H Q E->∃ t,PSs (cxE P w K mg base N qual (ar st) f cdv A outer s H E) (jU st) t/\t {nx:=λ_ H'=>Q .non H',rt:=Q} (start N vs) H)
  (len:∀ vs H Q E,sp vs H Q E->vs.length=ps.length:=by(intro vs H Q E h;repeat (first|(obtain⟨rfl,_⟩:=h;rfl)|obtain⟨_,h⟩:=h))):9e7 (k+1) f fd ps sp:=⟨F.okE S len Q9,B⟩
theorem fsc{N P:List Str}{sc:Scope}(h1:sc.kind=.function:=by exact rfl)(h2:sc.isCoroutine=false:=by exact rfl)(h3:sc.isGenerator=false:=by exact rfl)(h4:N.Nodup:=by decide +kernel)(h5:N.take P.length=P:=by exact rfl)(h6:∀ x∈P,sc.names.lookup x=some .local\/sc.names.lookup x=some .cell:=by decide +kernel)(h7:∀ y∈sc.names,y.2≠.free:=by decide +kernel):av N P sc:=⟨h1,h2,h3,h4,h5,h6,h7⟩
theorem _root_.L2.Fun.b1{p0:Str}(F:Fun K x qual st f fd)(h:∀(kV doc pm:Value) (an:Option Addr) (cdv ct:Value) (u0:Value),bindArgs (PySem.W.fnOf x qual (lq st) (jU st) (ar st) .none kV doc pm an cdv ct) ⟨[u0],[]⟩=pure (([p0]:List Str).zip [u0]):=by intros;rfl):Binds K fd [p0] []:=F.binds (ps:=[p0]) λkV doc pm an cdv ct us hl=>match us,hl with|[u0],_=>h kV doc pm an cdv ct u0
theorem _root_.L2.Fun.b2{p0 p1:Str}(F:Fun K x qual st f fd)(h:∀(kV doc pm:Value) (an:Option Addr) (cdv ct:Value) (u0 u1:Value),bindArgs (PySem.W.fnOf x qual (lq st) (jU st) (ar st) .none kV doc pm an cdv ct) ⟨[u0,u1],[]⟩=pure (([p0,p1]:List Str).zip [u0,u1]):=by intros;rfl):Binds K fd [p0,p1] []:=F.binds (ps:=[p0,p1]) λkV doc pm an cdv ct us hl=>match us,hl with|[u0,u1],_=>h kV doc pm an cdv ct u0 u1
theorem _root_.L2.Fun.b3{p0 p1 p2:Str}(F:Fun K x qual st f fd)(h:∀(kV doc pm:Value) (an:Option Addr) (cdv ct:Value) (u0 u1 u2:Value),bindArgs (PySem.W.fnOf x qual (lq st) (jU st) (ar st) .none kV doc pm an cdv ct) ⟨[u0,u1,u2],[]⟩=pure (([p0,p1,p2]:List Str).zip [u0,u1,u2]):=by intros;rfl):Binds K fd [p0,p1,p2] []:=F.binds (ps:=[p0,p1,p2]) λkV doc pm an cdv ct us hl=>match us,hl with|[u0,u1,u2],_=>h kV doc pm an cdv ct u0 u1 u2
theorem _root_.L2.Fun.b4{p0 p1 p2 p3:Str}(F:Fun K x qual st f fd)(h:∀(kV doc pm:Value) (an:Option Addr) (cdv ct:Value) (u0 u1 u2 u3:Value),bindArgs (PySem.W.fnOf x qual (lq st) (jU st) (ar st) .none kV doc pm an cdv ct) ⟨[u0,u1,u2,u3],[]⟩=pure (([p0,p1,p2,p3]:List Str).zip [u0,u1,u2,u3]):=by intros;rfl):Binds K fd [p0,p1,p2,p3] []:=F.binds (ps:=[p0,p1,p2,p3]) λkV doc pm an cdv ct us hl=>match us,hl with|[u0,u1,u2,u3],_=>h kV doc pm an cdv ct u0 u1 u2 u3
theorem _root_.L2.Fun.b5{p0 p1 p2 p3 p4:Str}(F:Fun K x qual st f fd)(h:∀(kV doc pm:Value) (an:Option Addr) (cdv ct:Value) (u0 u1 u2 u3 u4:Value),bindArgs (PySem.W.fnOf x qual (lq st) (jU st) (ar st) .none kV doc pm an cdv ct) ⟨[u0,u1,u2,u3,u4],[]⟩=pure (([p0,p1,p2,p3,p4]:List Str).zip [u0,u1,u2,u3,u4]):=by intros;rfl):Binds K fd [p0,p1,p2,p3,p4] []:=F.binds (ps:=[p0,p1,p2,p3,p4]) λkV doc pm an cdv ct us hl=>match us,hl with|[u0,u1,u2,u3,u4],_=>h kV doc pm an cdv ct u0 u1 u2 u3 u4
end
theorem px{P:Program}{w:World}{K:W.Frag}{mg:Str->Option Value}{base:Heap}{N:List Str}{qual:Str}{sc:Scope}{f:Addr}{cdv:Value}{A:Around}{outer:List Env}{s:Shared}{H:Hp}{E:XK}:gT (CXE P w) (cxE P w K mg base N qual sc f cdv A outer s H E) (λ_=>E):=Passes.x (UI λ_ _ _ q=>q)
inductive Wd where
 | no
 | num (x:Int)
 | th (t:Int)
 deriving DecidableEq
noncomputable def Wd.kind:Wd->Str
 | .no => "none"
 | .num _ => "number"
 | .th _ => "thing"
noncomputable def Wd.vl:Wd->Vl
 | .no=>.a .non
 | .num x=>.t [.a (.str "number"),.a (.int x)]
 | .th t=>.t [.a (.str "thing"),.a (.int t)]
noncomputable def WV(H:Hp)(v:V):Wd->Prop
 | .no=>v=.non
 | .num x=>∃ t,v=.ref t/\H t=some (.tup [.str "number",.int x])
 | .th x=>∃ t,v=.ref t/\H t=some (.tup [.str "thing",.int x])
noncomputable def b7(H H':Hp):Prop:=∀ t us,H t=some (.tup us)->H' t=some (.tup us)
theorem b7.of{H H':Hp}(s:aB H H'):b7 H H':=λt us q=>s _ _ q
theorem b7.trans{H H1 H2:Hp}(a:b7 H H1)(b:b7 H1 H2):b7 H H2:=λt us q=>b t us (a t us q)
theorem b7.set{H:Hp}{c:Addr}{u o:HO}(h:H c=some u)(n:∀ xs,u≠.tup xs):b7 H (upd H c o):=λt us q=>by
 rw[af λe=>by rw[e,h]at q;exact n us (aos q)];exact q
theorem WV.keep{H H':Hp}{v:V}{w:Wd}(h:WV H v w)(s:b7 H H'):WV H' v w:=by
 cases w with
 | no=>exact h
 | num n=>obtain⟨t,e,q⟩:=h;exact⟨t,e,s _ _ q⟩
 | th n=>obtain⟨t,e,q⟩:=h;exact⟨t,e,s _ _ q⟩
theorem yZ{H:Hp}{t:Addr}{z:Str}{n:Int}(h:H t=some (.tup [.str z,.int n])):Rp H 1 (.ref t) (.t [.a (.str z),.a (.int n)]):=by
 refine⟨t,_,rfl,h,rfl,λi u x h1 h2=>?_⟩
 match i,h1,h2 with
 | 0,h1,h2=>cases h1;cases h2;exact⟨rfl,rfl⟩
 | 1,h1,h2=>cases h1;cases h2;exact⟨rfl,rfl⟩
 | i+2,h1,_=>simp at h1
theorem WV.rp{H:Hp}{v:V}{w:Wd}(h:WV H v w):Rp H 1 v w.vl:=by
 cases w with
 | no=>exact⟨h,rfl⟩
 | num n=>obtain⟨t,rfl,q⟩:=h;exact yZ q
 | th n=>obtain⟨t,rfl,q⟩:=h;exact yZ q
theorem IQ(x y:Int):(x == y)=decide (x=y):=by
 by_cases h:x=y
 ·subst h;simp
 ·rw[decide_eq_false h];exact beq_eq_false_iff_ne.mpr h
theorem acu(a b:Wd):eqD 1 a.vl b.vl=decide (a=b):=by
 have n1:eqV (.str "number") (.str "thing")=false:=by decide +kernel
 have n2:eqV (.str "thing") (.str "number")=false:=by decide +kernel
 have e1:eqV (.str "number") (.str "number")=true:=by decide +kernel
 have e2:eqV (.str "thing") (.str "thing")=true:=by decide +kernel
 cases a with
 | no=>cases b<;>simp[Wd.vl,eqD,eqV]
 | num x =>
  cases b with
  | no=>simp[Wd.vl,eqD]
  | num y=>simp[Wd.vl,eqD,aoU,e1,eqV];exact IQ x y
  | th y=>simp[Wd.vl,eqD,aoU,n1]
 | th x =>
  cases b with
  | no=>simp[Wd.vl,eqD]
  | num y=>simp[Wd.vl,eqD,aoU,n2]
  | th y=>simp[Wd.vl,eqD,aoU,e2,eqV];exact IQ x y
noncomputable def Rel(H:Hp)(xs:List V)(ws:List Wd):Prop:=xs.length=ws.length/\∀(i:Nat) (v:V) (w:Wd),xs[i]?=some v->ws[i]?=some w->WV H v w
theorem Rel.keep{H H':Hp}{xs:List V}{ws:List Wd}(h:Rel H xs ws)(s:b7 H H'):Rel H' xs ws:=⟨h.1,λi v w a b=>(h.2 i v w a b).keep s⟩
theorem Rel.get{H:Hp}{xs:List V}{ws:List Wd}(h:Rel H xs ws){i:Nat}(hi:i<ws.length):∃ v,xs[i]?=some v/\WV H v ws[i] :=
 ⟨_,an4 (by rw[h.1];exact hi),h.2 i _ _ (an4 (by rw[h.1];exact hi)) (an4 hi)⟩
theorem Rel.set{H:Hp}{xs:List V}{ws:List Wd}{i:Nat}{v:V}{w:Wd}(h:Rel H xs ws)(hv:WV H v w):Rel H (xs.set i v) (ws.set i w):=by
 refine⟨by rw[aoD,aoD];exact h.1,λj u y a b=>?_⟩;rw[apT]at a b;by_cases e:i=j
 ·subst e
  simp only[if_true]at a b;split at a
  ·split at b
   ·cases a;cases b;exact hv
   ·cases b
  ·cases a
 ·rw[if_neg e]at a b
  exact h.2 j u y a b
theorem Rel.nil{H:Hp}{n:Nat}:Rel H (List.replicate n .non) (List.replicate n .no):=⟨by simp,λi v w a b=>by
 rw[aoS (an9 a),aoS (an9 b)];rfl⟩
noncomputable def nmV:Option Int->V
 | none=>.non
 | some t=>.int t
structure HS where
 my:Bool
 aW:List Wd
 names:List (Option Int)
 cu:List (Int×Int)
 wU:List Int
 aT:List (Int×List Wd)
 yng:List Int
 nxt:Int
 room:Int
 limit:Int
 dU:List Int
 rnd:Bool
structure HA where
 dx:Addr
 hd:Addr
 hdx:Addr
 hl:Addr
 hx:List V
 nt:Addr
 ntx:Addr
 nl:Addr
 wt:Addr
 wtx:Addr
 wb:Addr
 wl:Addr
 fh:Addr
 fa:Int->Addr
 fx:Int->List V
 yg:Addr
 dm:Addr
noncomputable def atts(A:HA)(s:HS):List (Str×V):=[("makes_young",.bl s.my),("in_hands",.ref A.hd),("weak_names",.ref A.nt),("last_words",.ref A.wt),("fields_held",.ref A.fh),("young_things",.ref A.yg),("next_thing",.int s.nxt),("young_room",.int s.room),("limit",.int s.limit),("doomed_things",.ref A.dm),("in_round",.bl s.rnd)]
theorem Y7{A:HA}{s:HS}:(atts A s).lookup ("makes_young" : Str)=some (.bl s.my):=by kernel_rfl
theorem pA{A:HA}{s:HS}:(atts A s).lookup ("in_hands" : Str)=some (.ref A.hd):=by kernel_rfl
theorem UM{A:HA}{s:HS}:(atts A s).lookup ("weak_names" : Str)=some (.ref A.nt):=by kernel_rfl
theorem Y8{A:HA}{s:HS}:(atts A s).lookup ("last_words" : Str)=some (.ref A.wt):=by kernel_rfl
theorem tT{A:HA}{s:HS}:(atts A s).lookup ("fields_held" : Str)=some (.ref A.fh):=by kernel_rfl
theorem RF{A:HA}{s:HS}:(atts A s).lookup ("young_things" : Str)=some (.ref A.yg):=by kernel_rfl
theorem acv{A:HA}{s:HS}:(atts A s).lookup ("next_thing" : Str)=some (.int s.nxt):=by kernel_rfl
theorem acw{A:HA}{s:HS}:(atts A s).lookup ("young_room" : Str)=some (.int s.room):=by kernel_rfl
theorem acx{A:HA}{s:HS}:(atts A s).lookup ("limit" : Str)=some (.int s.limit):=by kernel_rfl
theorem RG{A:HA}{s:HS}:(atts A s).lookup ("doomed_things" : Str)=some (.ref A.dm):=by kernel_rfl
theorem Xd{A:HA}{s:HS}:(atts A s).lookup ("in_round" : Str)=some (.bl s.rnd):=by kernel_rfl
theorem acy{A:HA}{s:HS}{n:Int}:i8 "next_thing" (.int n) (atts A s)=atts A {s with nxt:=n}:=by kernel_rfl
theorem acz{A:HA}{s:HS}{b:Bool}:i8 "in_round" (.bl b) (atts A s)=atts A {s with rnd:=b}:=by kernel_rfl
theorem acA{A:HA}{s:HS}{a:Addr}:i8 "young_things" (.ref a) (atts A s)=atts {A with yg:=a} s:=by kernel_rfl
theorem acB{A:HA}{s:HS}{a:Addr}:i8 "doomed_things" (.ref a) (atts A s)=atts {A with dm:=a} s:=by kernel_rfl
noncomputable def bkv(p:Int×Int):Key×V:=(Sum.inl p.1,.int p.2)
noncomputable def tkv(t:Int):Key×V:=(Sum.inl t,.bl true)
noncomputable def fkv(A:HA)(p:Int×List Wd):Key×V:=(Sum.inl p.1,.ref (A.fa p.1))
structure IH(D:Ad)(H:Hp)(x:Addr)(A:HA)(s:HS):Prop where
 ax:H x=some (.ins D.ab A.dx (atts A s))
 ahd:H A.hd=some (.ins D.a6 A.hdx [("words_held",.ref A.hl)])
 ahl:H A.hl=some (.lst A.hx)
 rhl:Rel H A.hx s.aW
 ant:H A.nt=some (.ins D.aD A.ntx [("things_named",.ref A.nl)])
 anl:H A.nl=some (.lst (s.names.map nmV))
 awt:H A.wt=some (.ins D.aL A.wtx [("words_borne",.ref A.wb),("words_said",.ref A.wl)])
 awb:H A.wb=some (.dK (s.cu.map bkv))
 awl:H A.wl=some (.lst (s.wU.map V.int))
 afh:H A.fh=some (.dK (s.aT.map (fkv A)))
 afl:∀ t ws,(t,ws)∈s.aT->H (A.fa t)=some (.lst (A.fx t))/\Rel H (A.fx t) ws
 ayg:H A.yg=some (.dK (s.yng.map tkv))
 adm:H A.dm=some (.dK (s.dU.map tkv))
 nhn:A.hd≠A.nt
 l1:A.hl≠A.nl
 l2:A.hl≠A.wl
 l3:A.nl≠A.wl
 l4:∀ t ws,(t,ws)∈s.aT->A.fa t≠A.hl/\A.fa t≠A.nl/\A.fa t≠A.wl
 l5:∀ t ws t' ws',(t,ws)∈s.aT->(t',ws')∈s.aT->A.fa t=A.fa t'->t=t'
 d1:A.wb≠A.fh
 d2:A.wb≠A.yg
 d3:A.wb≠A.dm
 d4:A.fh≠A.yg
 d5:A.fh≠A.dm
 d6:A.yg≠A.dm
inductive bD(x:Addr)(A:HA)(s:HS):Addr->Prop where
 | x:bD x A s x
 | hd:bD x A s A.hd
 | hl:bD x A s A.hl
 | nt:bD x A s A.nt
 | nl:bD x A s A.nl
 | wt:bD x A s A.wt
 | wb:bD x A s A.wb
 | wl:bD x A s A.wl
 | fh:bD x A s A.fh
 | yg:bD x A s A.yg
 | dm:bD x A s A.dm
 | fl {t:Int} {ws:List Wd}:(t,ws)∈s.aT->bD x A s (A.fa t)
theorem k6{C d C' d':Addr}{fs gs:List (Str×V)}(h:fs.length≠gs.length):HO.ins C d fs≠HO.ins C' d' gs:=λe=>by
 injection e with _ _ e;exact h (congrArg List.length e)
section
variable{D:Ad}{H H' H1 H2:Hp}{x:Addr}{A A':HA}{s s':HS}
theorem IH.is(J:IH D H x A s){b:Addr}(f:bD x A s b):∃ u,H b=some u/\∀ xs,u≠.tup xs:=by
 cases f with
 | x=>exact⟨_,J.ax,λ_ z=>nomatch z⟩
 | hd=>exact⟨_,J.ahd,λ_ z=>nomatch z⟩
 | hl=>exact⟨_,J.ahl,λ_ z=>nomatch z⟩
 | nt=>exact⟨_,J.ant,λ_ z=>nomatch z⟩
 | nl=>exact⟨_,J.anl,λ_ z=>nomatch z⟩
 | wt=>exact⟨_,J.awt,λ_ z=>nomatch z⟩
 | wb=>exact⟨_,J.awb,λ_ z=>nomatch z⟩
 | wl=>exact⟨_,J.awl,λ_ z=>nomatch z⟩
 | fh=>exact⟨_,J.afh,λ_ z=>nomatch z⟩
 | yg=>exact⟨_,J.ayg,λ_ z=>nomatch z⟩
 | dm=>exact⟨_,J.adm,λ_ z=>nomatch z⟩
 | fl m=>exact⟨_,(J.afl _ _ m).1,λ_ z=>nomatch z⟩
theorem IH.keep(J:IH D H x A s)(k:∀ b u,bD x A s b->H b=some u->H' b=some u)(t:b7 H H'):IH D H' x A s :=
 ⟨k _ _ .x J.ax,k _ _ .hd J.ahd,k _ _ .hl J.ahl,J.rhl.keep t,k _ _ .nt J.ant,k _ _ .nl J.anl,k _ _ .wt J.awt,k _ _ .wb J.awb,k _ _ .wl J.awl,k _ _ .fh J.afh,λu ws m=>⟨k _ _ (.fl m) (J.afl _ _ m).1,(J.afl _ _ m).2.keep t⟩,k _ _ .yg J.ayg,k _ _ .dm J.adm,
  J.nhn,J.l1,J.l2,J.l3,J.l4,J.l5,J.d1,J.d2,J.d3,J.d4,J.d5,J.d6⟩
theorem IH.same(J:IH D H x A s)(k:aB H H'):IH D H' x A s:=J.keep (λ_ _ _ q=>k _ _ q) (b7.of k)
structure Fr(F:Addr->Prop)(H:Hp)(F':Addr->Prop)(H':Hp):Prop where
 ext:∀ b u,¬F b->H b=some u->H' b=some u
 grow:∀ b,F' b->F b\/H b=none
 all:∀ b u,H b=some u->∃ u',H' b=some u'
 tup:b7 H H'
variable{F F' F1 F2:Addr->Prop}
theorem Fr.trans(a:Fr F H F1 H1)(b:Fr F1 H1 F2 H2):Fr F H F2 H2 where
 ext:=λc u n q=>b.ext c u (λf=>(a.grow c f).elim n λe=>by rw[e]at q;cases q) (a.ext c u n q)
 grow:=λc f=>(b.grow c f).elim (λf1=>a.grow c f1) λe=>by
  cases q:H c with
  | none=>exact .inr rfl
  | some u=>obtain⟨u',q'⟩:=a.all c u q;rw[e]at q';cases q'
 all:=λc u q=>by obtain⟨u',q'⟩:=a.all c u q;exact b.all c u' q'
 tup:=a.tup.trans b.tup
theorem Fr.same(k:aB H H'):Fr F H F H':=⟨λ_ _ _ q=>k _ _ q,λ_ f=>.inl f,λb u q=>⟨u,k _ _ q⟩,b7.of k⟩
theorem Fr.refl:Fr F H F H:=Fr.same λ_ _ q=>q
theorem Fr.none(a:Fr F H F' H'){b:Addr}(h:H' b=none):H b=none:=by
 cases q:H b with
 | none=>rfl
 | some u=>obtain⟨u',q'⟩:=a.all b u q;rw[h]at q';cases q'
theorem Fr.set{b:Addr}{u o:HO}(f:F b)(hb:H b=some u)(n:∀ xs,u≠.tup xs)(g:∀ c,F' c->F c):Fr F H F' (upd H b o) where
 ext:=λc v nf q=>by rw[af λe=>nf (by rw[e];exact f)];exact q
 grow:=λc f=>.inl (g c f)
 all:=λc v q=>by
  by_cases e:c=b
  ·exact⟨o,by rw[e];exact ag⟩
  ·exact⟨v,by rw[af e];exact q⟩
 tup:=b7.set hb n
theorem Fr.out(a:Fr F H F' H'){b:Addr}{u:HO}(n:¬F b)(q:H b=some u):H' b=some u/\¬F' b:=⟨a.ext b u n q,λf=>(a.grow b f).elim n λe=>by rw[e]at q;cases q⟩
theorem IH.UX(J:IH D H x A s){xs:List V}{ws:List Wd}(r:Rel H xs ws):IH D (upd H A.hl (.lst xs)) x {A with hx:=xs} {s with aW:=ws}/\Fr (bD x A s) H (bD x {A with hx:=xs} {s with aW:=ws}) (upd H A.hl (.lst xs)):=by
 have tk:b7 H (upd H A.hl (.lst xs)):=b7.set J.ahl 2e0;refine⟨⟨(by rw[af (az J.ax J.ahl 1e0)];exact J.ax),(by rw[af (az J.ahd J.ahl 1e0)];exact J.ahd),ag,r.keep tk,(by rw[af (az J.ant J.ahl 1e0)];exact J.ant),(by rw[af (aol J.l1)];exact J.anl),(by rw[af (az J.awt J.ahl 1e0)];exact J.awt),(by rw[af (az J.awb J.ahl 1e0)];exact J.awb),(by rw[af (aol J.l2)];exact J.awl),(by rw[af (az J.afh J.ahl 1e0)];exact J.afh),(λt ws m=>⟨by rw[af (J.l4 _ _ m).1];exact(J.afl _ _ m).1,(J.afl _ _ m).2.keep tk⟩),(by rw[af (az J.ayg J.ahl 1e0)];exact J.ayg),(by rw[af (az J.adm J.ahl 1e0)];exact J.adm),J.nhn,J.l1,J.l2,J.l3,J.l4,J.l5,J.d1,J.d2,J.d3,J.d4,J.d5,J.d6⟩,Fr.set .hl J.ahl 2e0 (λc f=>?_)⟩;cases f with
 | x=>exact .x
 | hd=>exact .hd
 | hl=>exact .hl
 | nt=>exact .nt
 | nl=>exact .nl
 | wt=>exact .wt
 | wb=>exact .wb
 | wl=>exact .wl
 | fh=>exact .fh
 | yg=>exact .yg
 | dm=>exact .dm
 | fl m=>exact .fl m
theorem IH.anu(J:IH D H x A s){ns:List (Option Int)}:IH D (upd H A.nl (.lst (ns.map nmV))) x A {s with names:=ns}/\Fr (bD x A s) H (bD x A {s with names:=ns}) (upd H A.nl (.lst (ns.map nmV))):=by
 have tk:b7 H (upd H A.nl (.lst (ns.map nmV))):=b7.set J.anl 2e0;refine⟨⟨(by rw[af (az J.ax J.anl 1e0)];exact J.ax),(by rw[af (az J.ahd J.anl 1e0)];exact J.ahd),(by rw[af J.l1];exact J.ahl),J.rhl.keep tk,(by rw[af (az J.ant J.anl 1e0)];exact J.ant),ag,(by rw[af (az J.awt J.anl 1e0)];exact J.awt),(by rw[af (az J.awb J.anl 1e0)];exact J.awb),(by rw[af (aol J.l3)];exact J.awl),(by rw[af (az J.afh J.anl 1e0)];exact J.afh),(λt ws m=>⟨by rw[af (J.l4 _ _ m).2.1];exact(J.afl _ _ m).1,(J.afl _ _ m).2.keep tk⟩),(by rw[af (az J.ayg J.anl 1e0)];exact J.ayg),(by rw[af (az J.adm J.anl 1e0)];exact J.adm),J.nhn,J.l1,J.l2,J.l3,J.l4,J.l5,J.d1,J.d2,J.d3,J.d4,J.d5,J.d6⟩,Fr.set .nl J.anl 2e0 (λc f=>?_)⟩;cases f with
 | x=>exact .x
 | hd=>exact .hd
 | hl=>exact .hl
 | nt=>exact .nt
 | nl=>exact .nl
 | wt=>exact .wt
 | wb=>exact .wb
 | wl=>exact .wl
 | fh=>exact .fh
 | yg=>exact .yg
 | dm=>exact .dm
 | fl m=>exact .fl m
theorem IH.ajm(J:IH D H x A s){bs:List (Int×Int)}:IH D (upd H A.wb (.dK (bs.map bkv))) x A {s with cu:=bs}/\Fr (bD x A s) H (bD x A {s with cu:=bs}) (upd H A.wb (.dK (bs.map bkv))):=by
 have tk:b7 H (upd H A.wb (.dK (bs.map bkv))):=b7.set J.awb 2e0;refine⟨⟨(by rw[af (az J.ax J.awb 1e0)];exact J.ax),(by rw[af (az J.ahd J.awb 1e0)];exact J.ahd),(by rw[af (az J.ahl J.awb 1e0)];exact J.ahl),J.rhl.keep tk,(by rw[af (az J.ant J.awb 1e0)];exact J.ant),(by rw[af (az J.anl J.awb 1e0)];exact J.anl),(by rw[af (az J.awt J.awb 1e0)];exact J.awt),ag,(by rw[af (az J.awl J.awb 1e0)];exact J.awl),(by rw[af (aol J.d1)];exact J.afh),(λt ws m=>⟨by rw[af (az (J.afl _ _ m).1 J.awb 1e0)];exact(J.afl _ _ m).1,(J.afl _ _ m).2.keep tk⟩),(by rw[af (aol J.d2)];exact J.ayg),(by rw[af (aol J.d3)];exact J.adm),J.nhn,J.l1,J.l2,J.l3,J.l4,J.l5,J.d1,J.d2,J.d3,J.d4,J.d5,J.d6⟩,Fr.set .wb J.awb 2e0 (λc f=>?_)⟩;cases f with
 | x=>exact .x
 | hd=>exact .hd
 | hl=>exact .hl
 | nt=>exact .nt
 | nl=>exact .nl
 | wt=>exact .wt
 | wb=>exact .wb
 | wl=>exact .wl
 | fh=>exact .fh
 | yg=>exact .yg
 | dm=>exact .dm
 | fl m=>exact .fl m
theorem IH.anv(J:IH D H x A s){zs:List Int}:IH D (upd H A.wl (.lst (zs.map V.int))) x A {s with wU:=zs}/\Fr (bD x A s) H (bD x A {s with wU:=zs}) (upd H A.wl (.lst (zs.map V.int))):=by
 have tk:b7 H (upd H A.wl (.lst (zs.map V.int))):=b7.set J.awl 2e0;refine⟨⟨(by rw[af (az J.ax J.awl 1e0)];exact J.ax),(by rw[af (az J.ahd J.awl 1e0)];exact J.ahd),(by rw[af J.l2];exact J.ahl),J.rhl.keep tk,(by rw[af (az J.ant J.awl 1e0)];exact J.ant),(by rw[af J.l3];exact J.anl),(by rw[af (az J.awt J.awl 1e0)];exact J.awt),(by rw[af (az J.awb J.awl 1e0)];exact J.awb),ag,(by rw[af (az J.afh J.awl 1e0)];exact J.afh),(λt ws m=>⟨by rw[af (J.l4 _ _ m).2.2];exact(J.afl _ _ m).1,(J.afl _ _ m).2.keep tk⟩),(by rw[af (az J.ayg J.awl 1e0)];exact J.ayg),(by rw[af (az J.adm J.awl 1e0)];exact J.adm),J.nhn,J.l1,J.l2,J.l3,J.l4,J.l5,J.d1,J.d2,J.d3,J.d4,J.d5,J.d6⟩,Fr.set .wl J.awl 2e0 (λc f=>?_)⟩;cases f with
 | x=>exact .x
 | hd=>exact .hd
 | hl=>exact .hl
 | nt=>exact .nt
 | nl=>exact .nl
 | wt=>exact .wt
 | wb=>exact .wb
 | wl=>exact .wl
 | fh=>exact .fh
 | yg=>exact .yg
 | dm=>exact .dm
 | fl m=>exact .fl m
theorem IH.anw(J:IH D H x A s){ts:List Int}:IH D (upd H A.yg (.dK (ts.map tkv))) x A {s with yng:=ts}/\Fr (bD x A s) H (bD x A {s with yng:=ts}) (upd H A.yg (.dK (ts.map tkv))):=by
 have tk:b7 H (upd H A.yg (.dK (ts.map tkv))):=b7.set J.ayg 2e0;refine⟨⟨(by rw[af (az J.ax J.ayg 1e0)];exact J.ax),(by rw[af (az J.ahd J.ayg 1e0)];exact J.ahd),(by rw[af (az J.ahl J.ayg 1e0)];exact J.ahl),J.rhl.keep tk,(by rw[af (az J.ant J.ayg 1e0)];exact J.ant),(by rw[af (az J.anl J.ayg 1e0)];exact J.anl),(by rw[af (az J.awt J.ayg 1e0)];exact J.awt),(by rw[af J.d2];exact J.awb),(by rw[af (az J.awl J.ayg 1e0)];exact J.awl),(by rw[af J.d4];exact J.afh),(λt ws m=>⟨by rw[af (az (J.afl _ _ m).1 J.ayg 1e0)];exact(J.afl _ _ m).1,(J.afl _ _ m).2.keep tk⟩),ag,(by rw[af (aol J.d6)];exact J.adm),J.nhn,J.l1,J.l2,J.l3,J.l4,J.l5,J.d1,J.d2,J.d3,J.d4,J.d5,J.d6⟩,Fr.set .yg J.ayg 2e0 (λc f=>?_)⟩;cases f with
 | x=>exact .x
 | hd=>exact .hd
 | hl=>exact .hl
 | nt=>exact .nt
 | nl=>exact .nl
 | wt=>exact .wt
 | wb=>exact .wb
 | wl=>exact .wl
 | fh=>exact .fh
 | yg=>exact .yg
 | dm=>exact .dm
 | fl m=>exact .fl m
theorem IH.ajn(J:IH D H x A s){ts:List Int}:IH D (upd H A.dm (.dK (ts.map tkv))) x A {s with dU:=ts}/\Fr (bD x A s) H (bD x A {s with dU:=ts}) (upd H A.dm (.dK (ts.map tkv))):=by
 have tk:b7 H (upd H A.dm (.dK (ts.map tkv))):=b7.set J.adm 2e0;refine⟨⟨(by rw[af (az J.ax J.adm 1e0)];exact J.ax),(by rw[af (az J.ahd J.adm 1e0)];exact J.ahd),(by rw[af (az J.ahl J.adm 1e0)];exact J.ahl),J.rhl.keep tk,(by rw[af (az J.ant J.adm 1e0)];exact J.ant),(by rw[af (az J.anl J.adm 1e0)];exact J.anl),(by rw[af (az J.awt J.adm 1e0)];exact J.awt),(by rw[af J.d3];exact J.awb),(by rw[af (az J.awl J.adm 1e0)];exact J.awl),(by rw[af J.d5];exact J.afh),(λt ws m=>⟨by rw[af (az (J.afl _ _ m).1 J.adm 1e0)];exact(J.afl _ _ m).1,(J.afl _ _ m).2.keep tk⟩),(by rw[af J.d6];exact J.ayg),ag,J.nhn,J.l1,J.l2,J.l3,J.l4,J.l5,J.d1,J.d2,J.d3,J.d4,J.d5,J.d6⟩,Fr.set .dm J.adm 2e0 (λc f=>?_)⟩;cases f with
 | x=>exact .x
 | hd=>exact .hd
 | hl=>exact .hl
 | nt=>exact .nt
 | nl=>exact .nl
 | wt=>exact .wt
 | wb=>exact .wb
 | wl=>exact .wl
 | fh=>exact .fh
 | yg=>exact .yg
 | dm=>exact .dm
 | fl m=>exact .fl m
theorem IH.anx(J:IH D H x A s){n:Int}:IH D (upd H x (.ins D.ab A.dx (i8 "next_thing" (.int n) (atts A s)))) x A {s with nxt:=n}/\Fr (bD x A s) H (bD x A {s with nxt:=n}) (upd H x (.ins D.ab A.dx (i8 "next_thing" (.int n) (atts A s)))):=by
 have tk:b7 H (upd H x (.ins D.ab A.dx (i8 "next_thing" (.int n) (atts A s)))):=b7.set J.ax 2e0;refine⟨⟨(by rw[ag,acy]),(by rw[af (az J.ahd J.ax (k6 (show(1:Nat)≠11 by decide)))];exact J.ahd),(by rw[af (az J.ahl J.ax 1e0)];exact J.ahl),J.rhl.keep tk,(by rw[af (az J.ant J.ax (k6 (show(1:Nat)≠11 by decide)))];exact J.ant),(by rw[af (az J.anl J.ax 1e0)];exact J.anl),(by rw[af (az J.awt J.ax (k6 (show(2:Nat)≠11 by decide)))];exact J.awt),(by rw[af (az J.awb J.ax 1e0)];exact J.awb),(by rw[af (az J.awl J.ax 1e0)];exact J.awl),(by rw[af (az J.afh J.ax 1e0)];exact J.afh),(λt ws m=>⟨by rw[af (az (J.afl _ _ m).1 J.ax 1e0)];exact(J.afl _ _ m).1,(J.afl _ _ m).2.keep tk⟩),(by rw[af (az J.ayg J.ax 1e0)];exact J.ayg),(by rw[af (az J.adm J.ax 1e0)];exact J.adm),J.nhn,J.l1,J.l2,J.l3,J.l4,J.l5,J.d1,J.d2,J.d3,J.d4,J.d5,J.d6⟩,Fr.set .x J.ax 2e0 (λc f=>?_)⟩;cases f with
 | x=>exact .x
 | hd=>exact .hd
 | hl=>exact .hl
 | nt=>exact .nt
 | nl=>exact .nl
 | wt=>exact .wt
 | wb=>exact .wb
 | wl=>exact .wl
 | fh=>exact .fh
 | yg=>exact .yg
 | dm=>exact .dm
 | fl m=>exact .fl m
theorem IH.ajo(J:IH D H x A s){n:Bool}:IH D (upd H x (.ins D.ab A.dx (i8 "in_round" (.bl n) (atts A s)))) x A {s with rnd:=n}/\Fr (bD x A s) H (bD x A {s with rnd:=n}) (upd H x (.ins D.ab A.dx (i8 "in_round" (.bl n) (atts A s)))):=by
 have tk:b7 H (upd H x (.ins D.ab A.dx (i8 "in_round" (.bl n) (atts A s)))):=b7.set J.ax 2e0;refine⟨⟨(by rw[ag,acz]),(by rw[af (az J.ahd J.ax (k6 (show(1:Nat)≠11 by decide)))];exact J.ahd),(by rw[af (az J.ahl J.ax 1e0)];exact J.ahl),J.rhl.keep tk,(by rw[af (az J.ant J.ax (k6 (show(1:Nat)≠11 by decide)))];exact J.ant),(by rw[af (az J.anl J.ax 1e0)];exact J.anl),(by rw[af (az J.awt J.ax (k6 (show(2:Nat)≠11 by decide)))];exact J.awt),(by rw[af (az J.awb J.ax 1e0)];exact J.awb),(by rw[af (az J.awl J.ax 1e0)];exact J.awl),(by rw[af (az J.afh J.ax 1e0)];exact J.afh),(λt ws m=>⟨by rw[af (az (J.afl _ _ m).1 J.ax 1e0)];exact(J.afl _ _ m).1,(J.afl _ _ m).2.keep tk⟩),(by rw[af (az J.ayg J.ax 1e0)];exact J.ayg),(by rw[af (az J.adm J.ax 1e0)];exact J.adm),J.nhn,J.l1,J.l2,J.l3,J.l4,J.l5,J.d1,J.d2,J.d3,J.d4,J.d5,J.d6⟩,Fr.set .x J.ax 2e0 (λc f=>?_)⟩;cases f with
 | x=>exact .x
 | hd=>exact .hd
 | hl=>exact .hl
 | nt=>exact .nt
 | nl=>exact .nl
 | wt=>exact .wt
 | wb=>exact .wb
 | wl=>exact .wl
 | fh=>exact .fh
 | yg=>exact .yg
 | dm=>exact .dm
 | fl m=>exact .fl m
noncomputable def wV(fs:List (Int×List Wd))(t:Int)(ws:List Wd):List (Int×List Wd):=fs.map λp=>if p.1=t then(t,ws) else p
theorem Dv{fs:List (Int×List Wd)}{t t':Int}{ws ws':List Wd}(m:(t',ws')∈wV fs t ws):∃ w0,(t',w0)∈fs/\t'=t':=by
 obtain⟨q,mq,e⟩:=aoy.mp m;by_cases c:q.1=t
 ·rw[if_pos c]at e
  cases e;exact⟨q.2,by rw[<-c];exact mq,rfl⟩
 ·rw[if_neg c]at e
  subst e;exact⟨_,mq,rfl⟩
theorem Vw{A:HA}{fs:List (Int×List Wd)}{t:Int}{ws:List Wd}{xs:Int->List V}:(wV fs t ws).map (fkv {A with fx:=xs})=fs.map (fkv A):=by
 unfold wV;rw[aoM];refine ao3 λp hp=>?_;show fkv {A with fx:=xs} (if p.1=t then(t,ws) else p)=fkv A p;by_cases c:p.1=t
 ·rw[if_pos c];unfold fkv;rw[c]
 ·rw[if_neg c];rfl
theorem IH.anz(J:IH D H x A s){t:Int}{w0:List Wd}(m:(t,w0)∈s.aT){xs:List V}{ws:List Wd}(r:Rel H xs ws):IH D (upd H (A.fa t) (.lst xs)) x {A with fx:=λu=>if u=t then xs else A.fx u} {s with aT:=wV s.aT t ws}/\Fr (bD x A s) H (bD x {A with fx:=λu=>if u=t then xs else A.fx u} {s with aT:=wV s.aT t ws}) (upd H (A.fa t) (.lst xs)):=by
 have tk:b7 H (upd H (A.fa t) (.lst xs)):=b7.set (J.afl _ _ m).1 2e0;refine⟨⟨(by rw[af (aol (az (J.afl _ _ m).1 J.ax 1e0))];exact J.ax),(by rw[af (aol (az (J.afl _ _ m).1 J.ahd 1e0))];exact J.ahd),(by rw[af (aol (J.l4 _ _ m).1)];exact J.ahl),J.rhl.keep tk,(by rw[af (aol (az (J.afl _ _ m).1 J.ant 1e0))];exact J.ant),(by rw[af (aol (J.l4 _ _ m).2.1)];exact J.anl),(by rw[af (aol (az (J.afl _ _ m).1 J.awt 1e0))];exact J.awt),(by rw[af (aol (az (J.afl _ _ m).1 J.awb 1e0))];exact J.awb),(by rw[af (aol (J.l4 _ _ m).2.2)];exact J.awl),(by rw[af (aol (az (J.afl _ _ m).1 J.afh 1e0)),Vw];exact J.afh),(λt' ws' m'=>by
  obtain⟨q,mq,e⟩:=aoy.mp m';by_cases c:q.1=t
  ·rw[if_pos c]at e
   cases e;dsimp only;rw[if_pos rfl];exact⟨ag,r.keep tk⟩
  ·rw[if_neg c]at e
   subst e;dsimp only;rw[if_neg c];exact⟨by rw[af λz=>c (J.l5 _ _ _ _ mq m z)];exact(J.afl _ _ mq).1,(J.afl _ _ mq).2.keep tk⟩),(by rw[af (aol (az (J.afl _ _ m).1 J.ayg 1e0))];exact J.ayg),(by rw[af (aol (az (J.afl _ _ m).1 J.adm 1e0))];exact J.adm),J.nhn,J.l1,J.l2,J.l3,(λt' ws' m'=>by obtain⟨q,mq,e1⟩:=Dv m';rw[<-e1];exact J.l4 _ _ mq),(λt1 w1 t2 w2 m1 m2 z=>by obtain⟨q1,mq1,e1⟩:=Dv m1;obtain⟨q2,mq2,e2⟩:=Dv m2;rw[<-e1,<-e2]at z ⊢;exact J.l5 _ _ _ _ mq1 mq2 z),J.d1,J.d2,J.d3,J.d4,J.d5,J.d6⟩,Fr.set (.fl m) (J.afl _ _ m).1 2e0 (λc f=>?_)⟩
 cases f with
 | x=>exact .x
 | hd=>exact .hd
 | hl=>exact .hl
 | nt=>exact .nt
 | nl=>exact .nl
 | wt=>exact .wt
 | wb=>exact .wb
 | wl=>exact .wl
 | fh=>exact .fh
 | yg=>exact .yg
 | dm=>exact .dm
 | fl m'=>obtain⟨w0,m0,_⟩:=Dv m';exact .fl m0
theorem IH.fresh(J:IH D H x A s){b:Addr}(h:H b=none):¬bD x A s b:=λf=>by
 obtain⟨u,q,_⟩:=J.is f;rw[h]at q;cases q
theorem IH.acC(J:IH D H x A s){t:Int}{b:Addr}{xs:List V}{ws:List Wd}(hb:H b=none)(hn:∀ w,(t,w)∉s.aT)(r:Rel H xs ws) :
  IH D (upd (upd H b (.lst xs)) A.fh (.dK (s.aT.map (fkv A)++[(Sum.inl t,.ref b)]))) x {A with fa:=λu=>if u=t then b else A.fa u,fx:=λu=>if u=t then xs else A.fx u} {s with aT:=s.aT++[(t,ws)]} /\
  Fr (bD x A s) H (bD x {A with fa:=λu=>if u=t then b else A.fa u,fx:=λu=>if u=t then xs else A.fx u} {s with aT:=s.aT++[(t,ws)]}) (upd (upd H b (.lst xs)) A.fh (.dK (s.aT.map (fkv A)++[(Sum.inl t,.ref b)]))):=by
 have s1:aB H (upd H b (.lst xs)):=aB.upd hb;have nb:∀ {c:Addr} {u:HO},H c=some u->c≠b:=λq=>aq q hb;have J1:=J.same s1;have tk:b7 (upd H b (.lst xs)) (upd (upd H b (.lst xs)) A.fh (.dK (s.aT.map (fkv A)++[(Sum.inl t,.ref b)]))):=b7.set J1.afh 2e0;have tk0:b7 H (upd (upd H b (.lst xs)) A.fh (.dK (s.aT.map (fkv A)++[(Sum.inl t,.ref b)]))):=(b7.of s1).trans tk;have kt:∀ {t':Int} {w:List Wd},(t',w)∈s.aT->t'≠t:=λm e=>hn _ (by rw[<-e];exact m);have mm:∀ {t':Int} {w:List Wd},(t',w)∈s.aT++[(t,ws)]->(t',w)∈s.aT\/(t'=t/\w=ws):=λm=>by
  rcases aot.mp m with m|m
  ·exact .inl m
  ·cases an7.mp m;exact .inr ⟨rfl,rfl⟩
 have bf:b≠A.fh:=aol (nb J.afh);have fk:(s.aT++[(t,ws)]).map (fkv {A with fa:=λu=>if u=t then b else A.fa u,fx:=λu=>if u=t then xs else A.fx u})=s.aT.map (fkv A)++[(Sum.inl t,.ref b)]:=by
  rw[aon];congr 1
  ·refine ao3 λp hp=>?_
   unfold fkv;simp only;rw[if_neg (kt (t':=p.1) (w:=p.2) hp)]
  ·simp only[aov,apG,fkv,if_true]
 refine⟨⟨(by rw[af (az J.ax J.afh 1e0)];exact J1.ax),(by rw[af (az J.ahd J.afh 1e0)];exact J1.ahd),(by rw[af (az J.ahl J.afh 1e0)];exact J1.ahl),J.rhl.keep tk0,(by rw[af (az J.ant J.afh 1e0)];exact J1.ant),(by rw[af (az J.anl J.afh 1e0)];exact J1.anl),(by rw[af (az J.awt J.afh 1e0)];exact J1.awt),(by rw[af J.d1];exact J1.awb),(by rw[af (az J.awl J.afh 1e0)];exact J1.awl),(by rw[fk];exact ag),(λt' w m=>by
  rcases mm m with m|⟨e1,e2⟩
  ·show _=_/\_
   simp only[if_neg (kt m)];exact⟨by rw[af (az (J.afl _ _ m).1 J.afh 1e0)];exact s1 _ _ (J.afl _ _ m).1,(J.afl _ _ m).2.keep tk0⟩
  ·subst e1 e2
   simp only[if_true];exact⟨by rw[af bf];exact ag,r.keep tk0⟩),(by rw[af (aol J.d4)];exact J1.ayg),(by rw[af (aol J.d5)];exact J1.adm),J.nhn,J.l1,J.l2,J.l3,(λt' w m=>by
  rcases mm m with m|⟨e1,e2⟩
  ·simp only[if_neg (kt m)]
   exact J.l4 _ _ m
  ·subst e1
   simp only[if_true];exact⟨aol (nb J.ahl),aol (nb J.anl),aol (nb J.awl)⟩),(λt1 w1 t2 w2 m1 m2 z=>by
  simp only at z;rcases mm m1 with m1|⟨e1,_⟩
  ·rw[if_neg (kt m1)]at z
   rcases mm m2 with m2|⟨e2,_⟩
   ·rw[if_neg (kt m2)]at z
    exact J.l5 _ _ _ _ m1 m2 z
   ·rw[if_pos e2]at z
    exact absurd z (nb (J.afl _ _ m1).1)
  ·rw[if_pos e1]at z
   rcases mm m2 with m2|⟨e2,_⟩
   ·rw[if_neg (kt m2)]at z
    exact absurd z.symm (nb (J.afl _ _ m2).1)
   ·rw[e1,e2]),J.d1,J.d2,J.d3,J.d4,J.d5,J.d6⟩,?_⟩
 refine⟨λc u nf q=>?_,λc f=>?_,λc u q=>?_,tk0⟩
 ·rw[af λe=>nf (by rw[e];exact .fh)]
  exact s1 _ _ q
 ·cases f with
  | x=>exact .inl .x
  | hd=>exact .inl .hd
  | hl=>exact .inl .hl
  | nt=>exact .inl .nt
  | nl=>exact .inl .nl
  | wt=>exact .inl .wt
  | wb=>exact .inl .wb
  | wl=>exact .inl .wl
  | fh=>exact .inl .fh
  | yg=>exact .inl .yg
  | dm=>exact .inl .dm
  | @fl t' w m =>
   rcases mm m with m|⟨e,_⟩
   ·refine .inl ?_
    show bD x A s (if t'=t then b else A.fa t');rw[if_neg (kt m)];exact .fl m
   ·refine .inr ?_
    show H (if t'=t then b else A.fa t')=none;rw[if_pos e];exact hb
 ·by_cases e:c=A.fh
  ·exact⟨_,by rw[e];exact ag⟩
  ·exact⟨u,by rw[af e];exact s1 _ _ q⟩
end
section
variable{P:Program}{w:World}{K:W.Frag}{mg:Str->Option Value}{base:Heap}{D:Ad}
theorem SW{t u:TS}{D:Ends}{σ:St}{H:Hp}(h:∀ N:St->Hp->Prop,(∀ σ' H',u D σ' H'->N σ' H')->t {D with nx:=N} σ H):NG t u D σ H:=h (u D) (λ_ _ q=>q)
theorem V4{P:Program}{w:World}{X:Cx}:Passes (CXE P w) X (λ_ _ _=>False):=λ_ _ _ _ _ _ _ ⟨_,_,_,_,_,_,_,_,_,q⟩=>q.elim
theorem bE{H0 H:Hp}{K:W.Frag}{E E2:XK}{C:Addr}{y:Str}(ec:NL K C)(h0:∀ b,H b=none->H0 b=none)(k:∀ H',aB H H'->E (.ref C) none H')(ea:Addr)(hea:H ea=none) :
  yU K [.ref ea,.str y] (upd H ea (exo true C ea none)) (λv H2=>v=.non/\(λ(v:V) (H1:Hp)=>∃ ea C od,v=.ref ea/\H1 ea=some (exo true C ea od)/\(∃ cd,h9 K C cd)/\H0 ea=none/\E (.ref C) od (del H1 ea)) (.ref ea) H2) E2:=by
 refine⟨ea,C,none,.str y,rfl,ag,ec.cls,rfl,ea,C,none,rfl,ag,ec.cls,h0 _ hea,k _ λb o q=>?_⟩;have nb:b≠ea:=λe=>by rw[e,hea]at q;cases q
 rw[yT nb,af nb];exact q
noncomputable def Bad(C:Addr)(H:Hp)(E:XK):Prop:=∀ H',aB H H'->E (.ref C) none H'
theorem Bad.same{C:Addr}{H H1:Hp}{E:XK}(k:Bad C H E)(s:aB H H1):Bad C H1 E:=λH' s'=>k H' (s.trans s')
noncomputable def Sm(n:Int):Prop:=n.natAbs.log2<1920
theorem Sm.of{n:Int}(h0:-1000000<=n)(h1:n<=1000000):Sm n:=Lr (Nat.lt_trans (show n.natAbs<2000000 by omega) 2e1)
noncomputable def wat(ws:List Wd)(h:Int):Option Wd:=if 0<=h/\h<8 then ws[h.toNat]? else none
theorem uq{ws:List Wd}{h:Int}{wd:Wd}(e:wat ws h=some wd):0<=h/\h<8/\ws[h.toNat]?=some wd:=by
 unfold wat at e;by_cases g:0<=h/\h<8
 ·rw[if_pos g]at e;exact⟨g.1,g.2,e⟩
 ·rw[if_neg g]at e;cases e
theorem Vx{ws:List Wd}{h:Int}(l:ws.length=8)(e:wat ws h=none):¬(0<=h/\h<8):=λg=>by
 unfold wat at e;rw[if_pos g,an4 1e1]at e;cases e
theorem Dq{xs:List V}{a:Int}{v:V}(h0:0<=a)(h:xs[a.toNat]?=some v):atI xs a=some v:=by
 have e:a=(a.toNat:Int):=by omega
 rw[e];exact yR h
theorem A5{n:Nat}{a:Int}(h0:0<=a)(h1:a<n):ixN n a=some a.toNat:=by
 unfold ixN;rw[if_pos h0,if_pos h1]
structure Hn(D:Ad)(H:Hp)(hd hdx hl:Addr)(xs:List V)(ws:List Wd):Prop where
 i:H hd=some (.ins D.a6 hdx [("words_held",.ref hl)])
 l:H hl=some (.lst xs)
 r:Rel H xs ws
 n:ws.length=8
theorem Hn.same{D:Ad}{H H':Hp}{hd hdx hl:Addr}{xs:List V}{ws:List Wd}(h:Hn D H hd hdx hl xs ws)(s:aB H H'):Hn D H' hd hdx hl xs ws:=⟨s _ _ h.i,s _ _ h.l,h.r.keep (b7.of s),h.n⟩
theorem Hn.at_{D:Ad}{H:Hp}{hd hdx hl:Addr}{xs:List V}{ws:List Wd}(N:Hn D H hd hdx hl xs ws){h:Int}{wd:Wd}(e:wat ws h=some wd):∃ v,xs[h.toNat]?=some v/\WV H v wd:=by
 obtain⟨h0,h1,e⟩:=uq e;have hi:h.toNat<ws.length:=by rw[N.n];omega
 obtain⟨v,e1,e2⟩:=N.r.get hi;rw[an4 hi]at e;cases e;exact⟨v,e1,e2⟩
theorem Hn.ix{D:Ad}{H:Hp}{hd hdx hl:Addr}{xs:List V}{ws:List Wd}(N:Hn D H hd hdx hl xs ws){h:Int}(g:0<=h/\h<8):ixN xs.length h=some h.toNat:=A5 g.1 (by rw[N.r.1,N.n];exact g.2)
noncomputable abbrev vU:List Str:=["self","text"]
theorem vm:av vU ["self","text"] (ar jB):=fsc
theorem vo(F:Fun K "__init__" "HeapError.__init__" jB D.ao D.aw)(T:Txt K mg D):9e7 1 D.ao D.aw ["self","text"] (yU K):=by
 refine F.oa vm F.b2 λcdv A' outer s' H vs Q E hr h=>?_;obtain⟨ea,C,od,x,rfl,h1,hc,k⟩:=h;refine⟨_,(ai (aI (ach rfl T.uO (aa (pv 0) 1e9)))),?_⟩;exact⟨_,rfl,_,rfl,ea,C,od,[x],rfl,(by show 1<=1000;decide),h1,hc,k⟩
noncomputable def N0:Sp:=λvs H Q _=>∃ v wd,vs=[v]/\WV H v wd/\Q (.str wd.kind) H
noncomputable abbrev Um:List Str:=["value"]
theorem IS:av Um ["value"] (ar yN):=fsc
theorem RH(F:Fun K "kind_of" "kind_of" yN D.eC D.hX)(T:Txt K mg D):9e7 1 D.eC D.hX ["value"] (N0):=by
 refine F.oa IS F.b1 λcdv A' outer s' H vs Q E hr h=>?_;obtain⟨v,wd,rfl,hv,k⟩:=h;refine⟨_,(ai (aG (rC (aJ pP (pv 0) c8 (aS _)) cR (bT cY (pv 0) au 1e7)))),?_⟩;cases wd with
 | no =>
  obtain rfl:v=.non:=hv;exact⟨_,rfl,rfl,_,rfl,dH (λ_=>k) (λh=>absurd (by simp) h)⟩
 | num n =>
  obtain⟨t,rfl,ht⟩:=hv;exact⟨_,rfl,rfl,_,rfl,dH (λh=>by simp at h) (λ_=>⟨_,rfl,t,_,0,_,rfl,rfl,SqT.of ht,rfl,k⟩)⟩
 | th n =>
  obtain⟨t,rfl,ht⟩:=hv;exact⟨_,rfl,rfl,_,rfl,dH (λh=>by simp at h) (λ_=>⟨_,rfl,t,_,0,_,rfl,rfl,SqT.of ht,rfl,k⟩)⟩
noncomputable def dY(D:Ad):Sp:=λvs H Q E=>∃ n:Int,vs=[.int n]/\Sm n/\(if 0<=n/\n<8 then Q .non H else Bad D.br H E)
noncomputable abbrev Ho:List Str:=["h"]
theorem F9:av Ho ["h"] (ar qy):=fsc
theorem Ga(F:Fun K "look_at_hand" "look_at_hand" qy D.bj D.cG)(T:Txt K mg D)
  (ah:9e7 1 D.ao D.aw ["self","text"] (yU K)):9e7 3 D.bj D.cG ["h"] (dY D):=by
 refine F.oa F9 F.b1 λcdv A' outer s' H vs Q E hr h=>?_;obtain⟨n,rfl,hb,k⟩:=h;refine⟨_,(ai (bI (mR (mU yJ u7 au (pv 0) (mW (v:=.int 8) rfl T.IP ⟨_,rfl⟩)))
   (ai (eE rfl jA (ah.e hr T.AW T.vc px (aa (ir (aQ (jn (pv 0)) (aQ fq iq))) aj))))
   aO)),?_⟩
 by_cases g:0<=n/\n<8
 ·rw[if_pos g]at k
  refine⟨_,rfl,0,n,rfl,rfl,_,rfl,dH (λ_=>⟨n,8,rfl,rfl,_,rfl,dH (λh2=>absurd h2 (by rw[decide_eq_true g.2];decide)) (λ_=>k)⟩) (λh1=>absurd (decide_eq_true g.1) h1)⟩
 ·rw[if_neg g]at k
  by_cases g0:0<=n
  ·have g1:¬n<8:=λz=>g ⟨g0,z⟩
   refine⟨_,rfl,0,n,rfl,rfl,_,rfl,dH (λ_=>⟨n,8,rfl,rfl,_,rfl,dH (λ_=>⟨_,rfl,n,rfl,hb,λy hy ea hea=>bE T.og (λ_ q=>q) k ea hea⟩) (λh2=>absurd (by rw[decide_eq_false g1];rfl) h2)⟩) (λh1=>absurd (decide_eq_true g0) h1)⟩
  ·refine⟨_,rfl,0,n,rfl,rfl,_,rfl,dH (λh1=>absurd (of_decide_eq_true h1) g0) (λ_=>⟨_,rfl,u9 ⟨_,rfl,n,rfl,hb,λy hy ea hea=>bE T.og (λ_ q=>q) k ea hea⟩⟩)⟩
noncomputable def pB(D:Ad):Sp:=λvs H Q E=>∃ n:Int,vs=[.int n]/\Sm n/\(if 0<=n/\n<8 then Q .non H else Bad D.fQ H E)
noncomputable abbrev Hq:List Str:=["w"]
theorem Gb:av Hq ["w"] (ar qz):=fsc
theorem Ge(F:Fun K "look_at_name" "look_at_name" qz D.cX D.iN)(T:Txt K mg D)
  (ah:9e7 1 D.ao D.aw ["self","text"] (yU K)):9e7 3 D.cX D.iN ["w"] (pB D):=by
 refine F.oa Gb F.b1 λcdv A' outer s' H vs Q E hr h=>?_;obtain⟨n,rfl,hb,k⟩:=h;refine⟨_,(ai (bI (mR (mU yJ u7 au (pv 0) (mW (v:=.int 8) rfl T.qc ⟨_,rfl⟩)))
   (ai (eE rfl jA (ah.e hr T.Ro T.Rn px (aa (ir (aQ (jn (pv 0)) (aQ fq iq))) aj))))
   aO)),?_⟩
 by_cases g:0<=n/\n<8
 ·rw[if_pos g]at k
  refine⟨_,rfl,0,n,rfl,rfl,_,rfl,dH (λ_=>⟨n,8,rfl,rfl,_,rfl,dH (λh2=>absurd h2 (by rw[decide_eq_true g.2];decide)) (λ_=>k)⟩) (λh1=>absurd (decide_eq_true g.1) h1)⟩
 ·rw[if_neg g]at k
  by_cases g0:0<=n
  ·have g1:¬n<8:=λz=>g ⟨g0,z⟩
   refine⟨_,rfl,0,n,rfl,rfl,_,rfl,dH (λ_=>⟨n,8,rfl,rfl,_,rfl,dH (λ_=>⟨_,rfl,n,rfl,hb,λy hy ea hea=>bE T.IM (λ_ q=>q) k ea hea⟩) (λh2=>absurd (by rw[decide_eq_false g1];rfl) h2)⟩) (λh1=>absurd (decide_eq_true g0) h1)⟩
  ·refine⟨_,rfl,0,n,rfl,rfl,_,rfl,dH (λh1=>absurd (of_decide_eq_true h1) g0) (λ_=>⟨_,rfl,u9 ⟨_,rfl,n,rfl,hb,λy hy ea hea=>bE T.IM (λ_ q=>q) k ea hea⟩⟩)⟩
noncomputable def sr(D:Ad):Sp:=λvs H Q E=>∃ n:Int,vs=[.int n]/\Sm n/\(if 0<=n/\n<=6 then Q (.int (n+1)) H else Bad D.dz H E)
noncomputable abbrev RI:List Str:=["fields"]
theorem OA:av RI ["fields"] (ar AS):=fsc
theorem OB(F:Fun K "words_of" "words_of" AS D.gC D.kT)(T:Txt K mg D)
  (ah:9e7 1 D.ao D.aw ["self","text"] (yU K)):9e7 3 D.gC D.kT ["fields"] (sr D):=by
 refine F.oa OA F.b1 λcdv A' outer s' H vs Q E hr h=>?_;obtain⟨n,rfl,hb,k⟩:=h;refine⟨_,(ak (bI (mR (mU yJ yJ au (pv 0) (mW (v:=.int 6) rfl T.sV ⟨_,rfl⟩)))
   (ai (eE rfl jA (ah.e hr T.oV T.oQ px (aa (ir (aQ (jn (pv 0)) (aQ fq iq))) aj))))
   aO)
  (ai (aG (aF bO (pv 0) au)))),?_⟩
 by_cases g:0<=n/\n<=6
 ·rw[if_pos g]at k
  refine⟨_,rfl,0,n,rfl,rfl,_,rfl,dH (λ_=>⟨n,6,rfl,rfl,_,rfl,dH (λh2=>absurd h2 (by rw[decide_eq_true g.2];decide)) (λ_=>⟨_,rfl,n,1,rfl,rfl,k⟩)⟩) (λh1=>absurd (decide_eq_true g.1) h1)⟩
 ·rw[if_neg g]at k
  by_cases g0:0<=n
  ·have g1:¬n<=6:=λz=>g ⟨g0,z⟩
   refine⟨_,rfl,0,n,rfl,rfl,_,rfl,dH (λ_=>⟨n,6,rfl,rfl,_,rfl,dH (λ_=>⟨_,rfl,n,rfl,hb,λy hy ea hea=>bE T.xw (λ_ q=>q) k ea hea⟩) (λh2=>absurd (by rw[decide_eq_false g1];rfl) h2)⟩) (λh1=>absurd (decide_eq_true g0) h1)⟩
  ·refine⟨_,rfl,0,n,rfl,rfl,_,rfl,dH (λh1=>absurd (of_decide_eq_true h1) g0) (λ_=>⟨_,rfl,u9 ⟨_,rfl,n,rfl,hb,λy hy ea hea=>bE T.xw (λ_ q=>q) k ea hea⟩⟩)⟩
noncomputable def nL(D:Ad):Sp:=λvs H Q E=>∃ n m:Int,vs=[.int n,.int m]/\Sm n/\Sm m/\(if 0<=n/\n<m then Q .non H else Bad D.fR H E)
noncomputable abbrev Gf:List Str:=["k","fields"]
theorem DJ:av Gf ["k","fields"] (ar ph):=fsc
theorem DK(F:Fun K "look_at_field" "look_at_field" ph D.cH D.gE)(T:Txt K mg D)
  (ah:9e7 1 D.ao D.aw ["self","text"] (yU K)):9e7 3 D.cH D.gE ["k","fields"] (nL D):=by
 refine F.oa DJ F.b2 λcdv A' outer s' H vs Q E hr h=>?_;obtain⟨n,m,rfl,hb,hm,k⟩:=h;refine⟨_,(ai (bI (mR (mU yJ u7 au (pv 0) (pv 1)))
   (ai (eE rfl jA (ah.e hr T.Om T.Fz px (aa (ir (aQ fq (aQ (jn (pv 1)) (aQ fq (aQ (jn (pv 0)) iq))))) aj))))
   aO)),?_⟩
 by_cases g:0<=n/\n<m
 ·rw[if_pos g]at k
  refine⟨_,rfl,0,n,rfl,rfl,_,rfl,dH (λ_=>⟨_,rfl,n,m,rfl,rfl,_,rfl,dH (λh2=>absurd h2 (by rw[decide_eq_true g.2];decide)) (λ_=>k)⟩) (λh1=>absurd (decide_eq_true g.1) h1)⟩
 ·rw[if_neg g]at k
  by_cases g0:0<=n
  ·have g1:¬n<m:=λz=>g ⟨g0,z⟩
   refine⟨_,rfl,0,n,rfl,rfl,_,rfl,dH (λ_=>⟨_,rfl,n,m,rfl,rfl,_,rfl,dH (λ_=>⟨_,rfl,m,rfl,hm,_,rfl,n,rfl,hb,λy hy ea hea=>bE T.FA (λ_ q=>q) k ea hea⟩) (λh2=>absurd (by rw[decide_eq_false g1];rfl) h2)⟩) (λh1=>absurd (decide_eq_true g0) h1)⟩
  ·refine⟨_,rfl,0,n,rfl,rfl,_,rfl,dH (λh1=>absurd (of_decide_eq_true h1) g0) (λ_=>⟨_,rfl,u9 ⟨_,rfl,m,rfl,hm,_,rfl,n,rfl,hb,λy hy ea hea=>bE T.FA (λ_ q=>q) k ea hea⟩⟩)⟩
noncomputable def Num(x:Int):Prop:=-(10 ^ 60)<=x/\x<=10 ^ 60
noncomputable instance {x:Int}:Decidable (Num x):=inferInstanceAs (Decidable (_/\_))
noncomputable def lT(D:Ad):Sp:=λvs H Q E=>∃ x:Int,vs=[.int x]/\Sm x/\(if Num x then Q .non H else Bad D.dz H E)
noncomputable abbrev DL:List Str:=["x"]
theorem Bl:av DL ["x"] (ar mY):=fsc
theorem Bn(F:Fun K "look_at_number" "look_at_number" mY D.cc D.gg)(T:Txt K mg D)
  (ah:9e7 1 D.ao D.aw ["self","text"] (yU K)):9e7 3 D.cc D.gg ["x"] (lT D):=by
 refine F.oa Bl F.b1 λcdv A' outer s' H vs Q E hr h=>?_;obtain⟨x,rfl,hb,k⟩:=h;refine⟨_,(ai (bI (aJ Q3 (cz Vb rfl T.Xc PyProof.Rows.Boot.«abs» (aa (pv 0) aj)) (aF yQ au au) (aS _))
   (ai (eE rfl jA (ah.e hr T.oV T.oQ px (aa (ir (aQ (jn (pv 0)) (aQ fq iq))) aj))))
   aO)),?_⟩
 have e60:((10:Int) ^ (60:Int).toNat)=10 ^ 60:=rfl;by_cases g:Num x
 ·rw[if_pos g]at k
  refine⟨_,rfl,x,rfl,10,60,rfl,rfl,⟨by decide,by decide,by decide⟩,_,_,rfl,rfl,_,rfl,dH (λh=>absurd (of_decide_eq_true h) ?_) (λ_=>k)⟩
  have:=g.1
  have:=g.2
  rw[e60];split<;>omega
 ·rw[if_neg g]at k
  refine⟨_,rfl,x,rfl,10,60,rfl,rfl,⟨by decide,by decide,by decide⟩,_,_,rfl,rfl,_,rfl,dH (λ_=>⟨_,rfl,x,rfl,hb,λy hy ea hea=>bE T.xw (λ_ q=>q) k ea hea⟩) (λh=>absurd (decide_eq_true ?_) h)⟩;unfold Num at g;rw[e60];split<;>omega
noncomputable def vh(D:Ad):Sp:=λvs H Q E=>∃ x:Int,vs=[.int x]/\Sm x/\(if Num x then ∀ t H',aB H H'->H' t=some (.tup [.str "number",.int x])->Q (.ref t) H' else Bad D.dz H E)
noncomputable abbrev Hr:List Str:=["x"]
theorem Gg:av Hr ["x"] (ar qx):=fsc
theorem Gh(F:Fun K "number_value" "number_value" qx D.dN D.jL)(T:Txt K mg D)
  (gk:9e7 3 D.cc D.gg ["x"] (lT D)):9e7 4 D.dN D.jL ["x"] (vh D):=by
 refine F.oa Gg F.b1 λcdv A' outer s' H vs Q E hr h=>?_;obtain⟨x,rfl,hb,k⟩:=h;refine⟨_,(ak (aI (gk.c hr T.tL T.jX px (aa (pv 0) aj)))
  (ai (aG (fE (aa cR (aa (pv 0) aj)))))),?_⟩
 refine⟨_,rfl,x,rfl,hb,?_⟩;by_cases g:Num x
 ·rw[if_pos g]at k ⊢
  exact⟨_,rfl,by show 2<=sizeLine;decide,λt ht=>k t _ (aB.upd ht) ag⟩
 ·rw[if_neg g]at k ⊢
  exact k
noncomputable def jR:Sp:=λvs H Q E=>∃ x:Int,vs=[.int x]/\0<=x/\∀ t H',aB H H'->H' t=some (.tup [.str "thing",.int x])->Q (.ref t) H'
noncomputable abbrev JN:List Str:=["t"]
theorem Hs:av JN ["t"] (ar sF):=fsc
theorem Ht(F:Fun K "thing_value" "thing_value" sF D.cJ D.gc)(T:Txt K mg D)
  (ah:9e7 1 D.ao D.aw ["self","text"] (yU K)):9e7 3 D.cJ D.gc ["t"] (jR):=by
 refine F.oa Hs F.b1 λcdv A' outer s' H vs Q E hr h=>?_;obtain⟨x,rfl,h0,k⟩:=h;refine⟨_,(ak (bI (aJ u7 (pv 0) au (aS _))
   (ai (eE rfl jA (ah.e hr T.oV T.oQ px (aa (ir (aQ (jn (pv 0)) (aQ fq iq))) aj))))
   aO)
  (ai (aG (fE (aa cR (aa (pv 0) aj)))))),?_⟩
 exact⟨_,rfl,x,0,rfl,rfl,_,rfl,dH (λh=>absurd (of_decide_eq_true h) 1e1) (λ_=>⟨_,rfl,by show 2<=sizeLine;decide,λt ht=>k t _ (aB.upd ht) ag⟩)⟩
noncomputable def rL:Sp:=λvs H Q E=>∃ y l:Int,vs=[.int y,.int l]/\(y=0\/(7<=y/\y<=64))/\7<=l/\l<=400/\Q .non H
noncomputable abbrev DM:List Str:=["young","limit"]
theorem Bo:av DM ["young","limit"] (ar mZ):=fsc
theorem Bp(F:Fun K "look_at_limits" "look_at_limits" mZ D.cM D.iw)(T:Txt K mg D)
  (ah:9e7 1 D.ao D.aw ["self","text"] (yU K)):9e7 3 D.cM D.iw ["young","limit"] (rL):=by
 refine F.oa Bo F.b2 λcdv A' outer s' H vs Q E hr h=>?_;obtain⟨y,l,rfl,hy,l0,l1,k⟩:=h;refine⟨_,(ak (bI (PW.pt (pw_and (aJ K9 (pv 0) au (aS _)) (pw_and1 (mR (mU yJ yJ (mW (v:=.int 7) rfl T.qd ⟨_,rfl⟩) (pv 0) (mW (v:=.int 64) rfl T.uP ⟨_,rfl⟩))))))
   (ai (eE rfl jA (ah.e hr T.oV T.oQ px (aa (ir (aQ (jn (pv 0)) (aQ fq iq))) aj))))
   aO)
  (ai (bI (mR (mU yJ yJ (mW (v:=.int 7) rfl T.qd ⟨_,rfl⟩) (pv 1) (mW (v:=.int 400) rfl T.uQ ⟨_,rfl⟩)))
   (ai (eE rfl jA (ah.e hr T.oV T.oQ px (aa (ir (aQ (jn (pv 1)) (aQ fq iq))) aj))))
   aO))),?_⟩
 refine SW λN hN=>?_;have rest:N [some (.int y),some (.int l)] H:=by
  refine hN _ _ ?_;exact⟨_,rfl,7,l,rfl,rfl,_,rfl,dH (λ_=>⟨l,400,rfl,rfl,_,rfl,dH (λh2=>absurd h2 (by rw[decide_eq_true l1];decide)) (λ_=>k)⟩) (λh1=>absurd (decide_eq_true l0) h1)⟩
 rcases hy with rfl|⟨y0,y1⟩
 ·exact⟨_,rfl,rfl,_,rfl,dH (λh=>absurd h 2e1) (λ_=>tW rest)⟩
 ·refine⟨_,rfl,rfl,_,rfl,dH (λ_=>?_) (λh=>absurd (show(!decide (V.int y=V.int 0))=true from ?_) h)⟩
  ·exact⟨_,rfl,7,y,rfl,rfl,_,rfl,dH (λ_=>⟨y,64,rfl,rfl,_,rfl,dH (λh2=>absurd h2 (by rw[decide_eq_true y1];decide)) (λ_=>rest)⟩) (λh1=>absurd (decide_eq_true y0) h1)⟩
  ·rw[decide_eq_false (by intro z;injection z with z;omega)];rfl
noncomputable def But(m:Addr)(H H':Hp):Prop:=∀ b u,b≠m->H b=some u->H' b=some u
theorem But.upd{m a:Addr}{H:Hp}{o:HO}(h:H a=none):But m H (L2.upd H a o):=λb u _ q=>by rw[af (aq q h)];exact q
theorem But.self{m:Addr}{H:Hp}{o:HO}:But m H (L2.upd H m o):=λb u n q=>by rw[af n];exact q
theorem But.trans{m:Addr}{H H1 H2:Hp}(a:But m H H1)(b:But m H1 H2):But m H H2:=λc u n q=>b c u n (a c u n q)
theorem aB.none{H H':Hp}(s:aB H H'){b:Addr}(h:H' b=none):H b=none:=by
 cases q:H b with
 | none=>rfl
 | some u=>rw[s _ _ q]at h;cases h
theorem ajp:(List.replicate (8:Int).toNat [V.non]).flatten=List.replicate 8 .non:=rfl
theorem lookup_some{α:Type}{bs:List (Int×α)}{t:Int}{v:α}(h:bs.lookup t=some v):(t,v)∈bs:=by
 induction bs with
 | nil=>cases h
 | cons p r ih =>
  obtain⟨a,b⟩:=p;rw[ao5]at h;by_cases e:t == a
  ·rw[e]at h
   rw[beq_iff_eq]at e;subst e;cases h;exact aow
  ·rw[Bool.not_eq_true]at e
   rw[e]at h;exact aox _ (ih h)
theorem lookup_none{α:Type}{bs:List (Int×α)}{t:Int}(h:bs.lookup t=none):∀ p∈bs,p.1≠t:=by
 induction bs with
 | nil=>intro p hp;cases hp
 | cons p r ih =>
  obtain⟨a,b⟩:=p;rw[ao5]at h;by_cases e:t == a
  ·rw[e]at h;cases h
  ·rw[Bool.not_eq_true]at e
   rw[e]at h;intro q hq;rcases aop.mp hq with rfl|hq
   ·exact λz=>by rw[beq_eq_false_iff_ne]at e;exact e z.symm
   ·exact ih h q hq
theorem IT{α:Type}{f:Int×α->Key×V}{bs:List (Int×α)}{t:Int}(hf:∀ p,(f p).1=Sum.inl p.1):ie (bs.map f) (Sum.inl t)=(bs.lookup t).map λv=>(f (t,v)).2:=by
 induction bs with
 | nil=>rfl
 | cons p r ih =>
  obtain⟨a,b⟩:=p;rw[aov,ao5];by_cases e:t=a
  ·subst e
   rw[fK (hf (t,b)),beq_self_eq_true];rfl
  ·rw[fe (by rw[hf (a,b)];exact λz=>e (Sum.inl.inj z).symm),beq_eq_false_iff_ne.mpr e,ih]
theorem abO{bs:List (Int×Int)}{t:Int}:ie (bs.map bkv) (Sum.inl t)=(bs.lookup t).map V.int:=IT λ_=>rfl
noncomputable def LA(bs:List (Int×Int))(t x:Int):List (Int×Int):=if(bs.lookup t).isSome=true then bs.map (λp=>if p.1=t then(t,x) else p) else bs++[(t,x)]
theorem Qq{bs:List (Int×Int)}{t x:Int}:(LA bs t x).map bkv=putK (bs.map bkv) (Sum.inl t) (.int x):=by
 unfold LA putK;rw[uk,abO,apb];by_cases e:(bs.lookup t).isSome=true
 ·rw[if_pos e,if_pos e,aoM,aoM]
  refine ao3 λp hp=>?_;show bkv (if p.1=t then(t,x) else p)=if(bkv p).1=Sum.inl t then((bkv p).1,V.int x) else bkv p;by_cases c:p.1=t
  ·rw[if_pos c,if_pos (by show Sum.inl p.1=Sum.inl t;rw[c])];unfold bkv;rw[c]
  ·rw[if_neg c,if_neg (show ¬(bkv p).1=Sum.inl t from λz=>c (Sum.inl.inj (show(Sum.inl p.1:Key)=Sum.inl t from z)))]
 ·rw[if_neg e,if_neg e,aon]
  rfl
structure Nt(D:Ad)(H:Hp)(nt ntx nl:Addr)(xs:List V):Prop where
 i:H nt=some (.ins D.aD ntx [("things_named",.ref nl)])
 l:H nl=some (.lst xs)
 n:xs.length=8
structure Wt(D:Ad)(H:Hp)(wt wtx wb wl:Addr)(bs:List (Int×Int))(zs:List Int):Prop where
 i:H wt=some (.ins D.aL wtx [("words_borne",.ref wb),("words_said",.ref wl)])
 b:H wb=some (.dK (bs.map bkv))
 l:H wl=some (.lst (zs.map V.int))
noncomputable def y8(D:Ad):Sp:=λvs H Q _=>∃ m dx,vs=[.ref m]/\H m=some (.ins D.a6 dx [])/\∀ c H',But m H H'->H c=none->H' c=some (.lst (List.replicate 8 .non))->H' m=some (.ins D.a6 dx [("words_held",.ref c)])->Q .non H'
noncomputable abbrev DN:List Str:=["self"]
theorem Bq:av DN ["self"] (ar nj):=fsc
theorem Br(F:Fun K "__init__" "Hands.__init__" nj D.de D.iA)(T:Txt K mg D):9e7 1 D.de D.iA ["self"] (y8 D):=by
 refine F.oa Bq F.b1 λcdv A' outer s' H vs Q E hr h=>?_;obtain⟨m,dx,rfl,hm,k⟩:=h;refine⟨_,(ai (iM (pv 0) (aF JF (pQ (aa c8 aj)) (mW (v:=.int 8) rfl T.IP ⟨_,rfl⟩)) rfl)),?_⟩;refine⟨by show 1<=sizeLine;decide,λp hp=>⟨p,8,_,rfl,rfl,ag,by decide,by decide,by show 1*8<=sizeLine;decide,λq hq=>?_⟩⟩;have np:m≠p:=aq hm hp;have hm1:upd H p (.lst [.non]) m=some (.ins D.a6 dx []):=by rw[af np];exact hm
 have nq:m≠q:=aq hm1 hq;have qp:q≠p:=λe=>by rw[e,ag]at hq;cases hq
 have hq0:H q=none:=by rw[af qp]at hq;exact hq
 refine⟨_,rfl,m,D.a6,dx,[],rfl,(by rw[af nq];exact hm1),T.aV,T.cE,by decide,?_⟩;refine k q _ (((But.upd hp).trans (But.upd hq)).trans But.self) hq0 ?_ ag;rw[af (aol nq),ag,ajp]
noncomputable def rM(D:Ad):Sp:=λvs H Q _=>∃ m dx,vs=[.ref m]/\H m=some (.ins D.aD dx [])/\∀ c H',But m H H'->H c=none->H' c=some (.lst (List.replicate 8 .non))->H' m=some (.ins D.aD dx [("things_named",.ref c)])->Q .non H'
noncomputable abbrev vV:List Str:=["self"]
theorem vp:av vV ["self"] (ar jE):=fsc
theorem vq(F:Fun K "__init__" "NameTable.__init__" jE D.bQ D.eQ)(T:Txt K mg D):9e7 1 D.bQ D.eQ ["self"] (rM D):=by
 refine F.oa vp F.b1 λcdv A' outer s' H vs Q E hr h=>?_;obtain⟨m,dx,rfl,hm,k⟩:=h;refine⟨_,(ai (iM (pv 0) (aF JF (pQ (aa c8 aj)) (mW (v:=.int 8) rfl T.qc ⟨_,rfl⟩)) rfl)),?_⟩;refine⟨by show 1<=sizeLine;decide,λp hp=>⟨p,8,_,rfl,rfl,ag,by decide,by decide,by show 1*8<=sizeLine;decide,λq hq=>?_⟩⟩;have np:m≠p:=aq hm hp;have hm1:upd H p (.lst [.non]) m=some (.ins D.aD dx []):=by rw[af np];exact hm
 have nq:m≠q:=aq hm1 hq;have qp:q≠p:=λe=>by rw[e,ag]at hq;cases hq
 have hq0:H q=none:=by rw[af qp]at hq;exact hq
 refine⟨_,rfl,m,D.aD,dx,[],rfl,(by rw[af nq];exact hm1),T.dM,T.bV,by decide,?_⟩;refine k q _ (((But.upd hp).trans (But.upd hq)).trans But.self) hq0 ?_ ag;rw[af (aol nq),ag,ajp]
noncomputable def rh(D:Ad):Sp:=λvs H Q E=>∃ hd hdx hl xs ws,∃ h:Int,vs=[.ref hd,.int h]/\Hn D H hd hdx hl xs ws/\Sm h/\(match wat ws h with|some wd=>∀ v,xs[h.toNat]?=some v->WV H v wd->Q v H|none=>Bad D.br H E)
noncomputable abbrev Gi:List Str:=["self","h"]
theorem DO:av Gi ["self","h"] (ar pk):=fsc
theorem DP(F:Fun K "word_in" "Hands.word_in" pk D.bX D.dW)(T:Txt K mg D)
  (aM:9e7 3 D.bj D.cG ["h"] (dY D)):9e7 4 D.bX D.dW ["self","h"] (rh D):=by
 refine F.oa DO F.b2 λcdv A' outer s' H vs Q E hr h=>?_;obtain⟨hd,hdx,hl,xs,ws,h,rfl,N,hb,k⟩:=h;refine⟨_,(ak (aI (aM.c hr T.gB T.dS px 1e9))
  (ai (aG (bT dC 1e5 (pv 1) 1e7)))),?_⟩
 refine⟨_,rfl,h,rfl,hb,?_⟩;cases e:wat ws h with
 | none =>
  rw[if_neg (Vx N.n e)];rw[e]at k;exact k
 | some wd =>
  obtain⟨h0,h1,_⟩:=uq e;obtain⟨v,hv,wv⟩:=N.at_ e;rw[if_pos ⟨h0,h1⟩];rw[e]at k;exact⟨_,rfl,hd,D.a6,hdx,_,.ref hl,rfl,N.i,T.aV,T.cE,rfl,_,rfl,hl,xs,h,v,rfl,rfl,SqL.of N.l,Dq h0 hv,k v hv wv⟩
noncomputable def y9(D:Ad):Sp:=λvs H Q E=>∃ hd hdx hl xs ws v,∃ h:Int,vs=[.ref hd,.int h,v]/\Hn D H hd hdx hl xs ws/\Sm h/\(if 0<=h/\h<8 then Q .non (upd H hl (.lst (xs.set h.toNat v))) else Bad D.br H E)
noncomputable abbrev OC:List Str:=["self","h","word"]
theorem L5:av OC ["self","h","word"] (ar xa):=fsc
theorem L6(F:Fun K "put" "Hands.put" xa D.fu D.iZ)(T:Txt K mg D)
  (aM:9e7 3 D.bj D.cG ["h"] (dY D)):9e7 4 D.fu D.iZ ["self","h","word"] (y9 D):=by
 refine F.oa L5 F.b3 λcdv A' outer s' H vs Q E hr h=>?_;obtain⟨hd,hdx,hl,xs,ws,v,h,rfl,N,hb,k⟩:=h;refine⟨_,(ak (aI (aM.c hr T.gB T.dS px 1e9))
  (ai (mS (pv 2) (pO 1e5 (pv 1) set_list)))),?_⟩
 refine⟨_,rfl,h,rfl,hb,?_⟩;by_cases g:0<=h/\h<8
 ·rw[if_pos g]at k ⊢
  exact⟨_,rfl,_,rfl,hd,D.a6,hdx,_,.ref hl,rfl,N.i,T.aV,T.cE,rfl,_,rfl,hl,xs,h,h.toNat,rfl,rfl,N.l,N.ix g,k⟩
 ·rw[if_neg g]at k ⊢
  exact k
noncomputable def Qr(D:Ad):Sp:=λvs H Q E=>∃ hd hdx hl xs ws,∃ h g:Int,vs=[.ref hd,.int h,.int g]/\Hn D H hd hdx hl xs ws/\Sm h/\Sm g/\(if 0<=h/\h<8 then(match wat ws g with|some wd=>∀ v,WV H v wd->Q .non (upd H hl (.lst (xs.set h.toNat v)))|none=>Bad D.br H E) else Bad D.br H E)
noncomputable abbrev L7:List Str:=["self","h","g"]
theorem JO:av L7 ["self","h","g"] (ar uy):=fsc
theorem JP(F:Fun K "copy" "Hands.copy" uy D.gU D.mD)(T:Txt K mg D)
  (aM:9e7 3 D.bj D.cG ["h"] (dY D))
  (bz:9e7 4 D.bX D.dW ["self","h"] (rh D)):9e7 5 D.gU D.mD ["self","h","g"] (Qr D):=by
 refine F.oa JO F.b3 λcdv A' outer s' H vs Q E hr h=>?_;obtain⟨hd,hdx,hl,xs,ws,h,g,rfl,N,hb,hg,k⟩:=h;refine⟨_,(ak (aI (aM.c hr T.gB T.dS px 1e9))
  (ai (mS (bz.m hr (pv 0) T.aV T.iL px (aa (pv 2) aj)) (pO 1e5 (pv 1) set_list)))),?_⟩
 refine⟨_,rfl,h,rfl,hb,?_⟩;by_cases c:0<=h/\h<8
 ·rw[if_pos c]at k ⊢
  refine⟨_,rfl,hd,hdx,_,rfl,N.i,rfl,_,rfl,hd,hdx,hl,xs,ws,g,rfl,N,hg,?_⟩;cases e:wat ws g with
  | none =>
   rw[e]at k;exact k
  | some wd =>
   rw[e]at k;exact λv hv wv=>⟨_,rfl,hd,D.a6,hdx,_,.ref hl,rfl,N.i,T.aV,T.cE,rfl,_,rfl,hl,xs,h,h.toNat,rfl,rfl,N.l,N.ix c,k v wv⟩
 ·rw[if_neg c]at k ⊢
  exact k
noncomputable def IU(D:Ad):Sp:=λvs H Q E=>∃ hd hdx hl xs ws,∃ h x:Int,vs=[.ref hd,.int h,.int x]/\Hn D H hd hdx hl xs ws/\Sm h/\Sm x/\(if 0<=h/\h<8 then(if Num x then ∀ t H',aB H H'->H' t=some (.tup [.str "number",.int x])->Q .non (upd H' hl (.lst (xs.set h.toNat (.ref t)))) else Bad D.dz H E) else Bad D.br H E)
noncomputable abbrev Hu:List Str:=["self","h","x"]
theorem Gj:av Hu ["self","h","x"] (ar qB):=fsc
theorem Gk(F:Fun K "number" "Hands.number" qB D.ft D.jP)(T:Txt K mg D)
  (aM:9e7 3 D.bj D.cG ["h"] (dY D))
  (qH:9e7 4 D.dN D.jL ["x"] (vh D)):9e7 5 D.ft D.jP ["self","h","x"] (IU D):=by
 refine F.oa Gj F.b3 λcdv A' outer s' H vs Q E hr h=>?_;obtain⟨hd,hdx,hl,xs,ws,h,x,rfl,N,hb,hx,k⟩:=h;refine⟨_,(ak (aI (aM.c hr T.gB T.dS px 1e9))
  (ai (mS (qH.c hr T.Hj T.qD px (aa (pv 2) aj)) (pO 1e5 (pv 1) set_list)))),?_⟩
 refine⟨_,rfl,h,rfl,hb,?_⟩;by_cases c:0<=h/\h<8
 ·rw[if_pos c]at k ⊢
  refine⟨_,rfl,x,rfl,hx,?_⟩;by_cases g:Num x
  ·rw[if_pos g]at k ⊢
   intro t H' sH ht;have N':=N.same sH;exact⟨_,rfl,hd,D.a6,hdx,_,.ref hl,rfl,N'.i,T.aV,T.cE,rfl,_,rfl,hl,xs,h,h.toNat,rfl,rfl,N'.l,N'.ix c,k t H' sH ht⟩
  ·rw[if_neg g]at k ⊢
   exact k
 ·rw[if_neg c]at k ⊢
  exact k
noncomputable def Dw(D:Ad):Sp:=λvs H Q E=>∃ hd hdx hl xs ws,∃ h:Int,vs=[.ref hd,.int h]/\Hn D H hd hdx hl xs ws/\Sm h/\(match wat ws h with|some wd=>∀ H',aB H H'->Q (.str wd.kind) H'|none=>Bad D.br H E)
noncomputable abbrev L8:List Str:=["self","h","kind"]
theorem za:av L8 ["self","h"] (ar uz):=fsc
theorem JQ(F:Fun K "kind" "Hands.kind" uz D.fg D.i4)(T:Txt K mg D)
  (kn:9e7 1 D.eC D.hX ["value"] (N0))
  (bz:9e7 4 D.bX D.dW ["self","h"] (rh D)):9e7 5 D.fg D.i4 ["self","h"] (Dw D):=by
 refine F.oa za F.b2 λcdv A' outer s' H vs Q E hr h=>?_;obtain⟨hd,hdx,hl,xs,ws,h,rfl,N,hb,k⟩:=h;refine⟨_,(ak (aN (i:=2) za.nd rfl 1e4 (kn.c hr T.qT T.lD px (aa (bz.m hr (pv 0) T.aV T.iL px 1e9) aj)))
  (ai (aG (rC (aJ Lm (pv 2) (fE (aa cR (aa cR aj))) (by with_unfolding_all rfl)) (pv 2) cR)))),?_⟩
 refine⟨_,rfl,hd,hdx,_,rfl,N.i,rfl,_,rfl,hd,hdx,hl,xs,ws,h,rfl,N,hb,?_⟩;cases e:wat ws h with
 | none =>
  rw[e]at k;exact k
 | some wd =>
  rw[e]at k;intro v hv wv;refine⟨v,wd,rfl,wv,?_⟩;cases wd with
  | no=>exact⟨_,rfl,by show 2<=sizeLine;decide,λt ht=>⟨t,_,rfl,.inr (SqT.of ag),rfl,rfl,_,rfl,dH (λ_=>⟨_,rfl,k _ (aB.upd ht)⟩) (λh=>absurd 1e3 h)⟩⟩
  | num n=>exact⟨_,rfl,by show 2<=sizeLine;decide,λt ht=>⟨t,_,rfl,.inr (SqT.of ag),rfl,rfl,_,rfl,dH (λ_=>⟨_,rfl,k _ (aB.upd ht)⟩) (λh=>absurd 1e3 h)⟩⟩
  | th n=>exact⟨_,rfl,by show 2<=sizeLine;decide,λt ht=>⟨t,_,rfl,.inr (SqT.of ag),rfl,rfl,_,rfl,dH (λh=>absurd h (aoK.mp 1e3)) (λ_=>k _ (aB.upd ht))⟩⟩
noncomputable def Qs(D:Ad):Sp:=λvs H Q E=>∃ hd hdx hl xs ws,∃ h:Int,vs=[.ref hd,.int h]/\Hn D H hd hdx hl xs ws/\Sm h/\(match wat ws h with|some (.num x)=>∀ H',aB H H'->Q (.int x) H'|_=>Bad D.br H E)
noncomputable abbrev JR:List Str:=["self","h"]
theorem Hv:av JR ["self","h"] (ar sI):=fsc
theorem Hw(F:Fun K "value" "Hands.value" sI D.gi D.kr)(T:Txt K mg D)
  (ah:9e7 1 D.ao D.aw ["self","text"] (yU K))
  (f7:9e7 5 D.fg D.i4 ["self","h"] (Dw D)):9e7 6 D.gi D.kr ["self","h"] (Qs D):=by
 refine F.oa Hv F.b2 λcdv A' outer s' H vs Q E hr h=>?_;obtain⟨hd,hdx,hl,xs,ws,h,rfl,N,hb,k⟩:=h;refine⟨_,(ak (bI (aJ K9 (f7.m hr (pv 0) T.aV T.sR px 1e9) cR (aS _))
   (ai (eE rfl jA (ah.e hr T.AW T.vc px (aa (ir (aQ fq (aQ (jn (pv 1)) (aQ fq iq)))) aj))))
   aO)
  (ai (aG (bT cY (bT dC 1e5 (pv 1) 1e7) au 1e7)))),?_⟩
 refine⟨_,rfl,hd,hdx,_,rfl,N.i,rfl,_,rfl,hd,hdx,hl,xs,ws,h,rfl,N,hb,?_⟩;cases e:wat ws h with
 | none =>
  rw[e]at k;exact k
 | some wd =>
  rw[e]at k;cases wd with
  | no=>exact λH1 s1=>⟨rfl,_,rfl,dH (λ_=>⟨_,rfl,h,rfl,hb,λy hy ea hea=>bE T.og (λ_ q=>aB.none s1 q) (Bad.same k s1) ea hea⟩) (λh=>absurd 1e3 h)⟩
  | num n =>
   intro H1 s1;have N1:=N.same s1;obtain⟨v,hv,wv⟩:=N1.at_ e;obtain⟨h0,h1,_⟩:=uq e;obtain⟨t,rfl,ht⟩:=wv;exact⟨rfl,_,rfl,dH (λh=>absurd h (aoK.mp 1e3)) (λ_=>⟨_,rfl,hd,D.a6,hdx,_,.ref hl,rfl,N1.i,T.aV,T.cE,rfl,_,rfl,hl,xs,h,.ref t,rfl,rfl,SqL.of N1.l,Dq h0 hv,t,_,1,.int n,rfl,rfl,SqT.of ht,rfl,k H1 s1⟩)⟩
  | th n =>
   exact λH1 s1=>⟨rfl,_,rfl,dH (λ_=>⟨_,rfl,h,rfl,hb,λy hy ea hea=>bE T.og (λ_ q=>aB.none s1 q) (Bad.same k s1) ea hea⟩) (λh=>absurd 1e3 h)⟩
noncomputable def kc(D:Ad):Sp:=λvs H Q E=>∃ hd hdx hl xs ws,∃ h:Int,vs=[.ref hd,.int h]/\Hn D H hd hdx hl xs ws/\Sm h/\(match wat ws h with|some (.th x)=>∀ H',aB H H'->Q (.int x) H'|_=>Bad D.br H E)
noncomputable abbrev Bs:List Str:=["self","h"]
theorem zE:av Bs ["self","h"] (ar lI):=fsc
theorem zF(F:Fun K "thing_due" "Hands.thing_due" lI D.ba D.cn)(T:Txt K mg D)
  (ah:9e7 1 D.ao D.aw ["self","text"] (yU K))
  (f7:9e7 5 D.fg D.i4 ["self","h"] (Dw D)):9e7 6 D.ba D.cn ["self","h"] (kc D):=by
 refine F.oa zE F.b2 λcdv A' outer s' H vs Q E hr h=>?_;obtain⟨hd,hdx,hl,xs,ws,h,rfl,N,hb,k⟩:=h;refine⟨_,(ak (bI (aJ K9 (f7.m hr (pv 0) T.aV T.sR px 1e9) cR (aS _))
   (ai (eE rfl jA (ah.e hr T.AW T.vc px (aa (ir (aQ fq (aQ (jn (pv 1)) (aQ fq iq)))) aj))))
   aO)
  (ai (aG (bT cY (bT dC 1e5 (pv 1) 1e7) au 1e7)))),?_⟩
 refine⟨_,rfl,hd,hdx,_,rfl,N.i,rfl,_,rfl,hd,hdx,hl,xs,ws,h,rfl,N,hb,?_⟩;cases e:wat ws h with
 | none =>
  rw[e]at k;exact k
 | some wd =>
  rw[e]at k;cases wd with
  | no=>exact λH1 s1=>⟨rfl,_,rfl,dH (λ_=>⟨_,rfl,h,rfl,hb,λy hy ea hea=>bE T.og (λ_ q=>aB.none s1 q) (Bad.same k s1) ea hea⟩) (λh=>absurd 1e3 h)⟩
  | num n =>
   exact λH1 s1=>⟨rfl,_,rfl,dH (λ_=>⟨_,rfl,h,rfl,hb,λy hy ea hea=>bE T.og (λ_ q=>aB.none s1 q) (Bad.same k s1) ea hea⟩) (λh=>absurd 1e3 h)⟩
  | th n =>
   intro H1 s1;have N1:=N.same s1;obtain⟨v,hv,wv⟩:=N1.at_ e;obtain⟨h0,h1,_⟩:=uq e;obtain⟨t,rfl,ht⟩:=wv;exact⟨rfl,_,rfl,dH (λh=>absurd h (aoK.mp 1e3)) (λ_=>⟨_,rfl,hd,D.a6,hdx,_,.ref hl,rfl,N1.i,T.aV,T.cE,rfl,_,rfl,hl,xs,h,.ref t,rfl,rfl,SqL.of N1.l,Dq h0 hv,t,_,1,.int n,rfl,rfl,SqT.of ht,rfl,k H1 s1⟩)⟩
noncomputable def Qt(D:Ad):Sp:=λvs H Q E=>∃ hd hdx hl xs ws,∃ h g:Int,vs=[.ref hd,.int h,.int g]/\Hn D H hd hdx hl xs ws/\Sm h/\Sm g/\(match wat ws h,wat ws g with|some a,some b=>Q (.bl (decide (a=b))) H|_,_=>Bad D.br H E)
noncomputable abbrev L9:List Str:=["self","h","g"]
theorem JS:av L9 ["self","h","g"] (ar uA):=fsc
theorem JT(F:Fun K "same" "Hands.same" uA D.gW D.mE)(T:Txt K mg D)
  (bz:9e7 4 D.bX D.dW ["self","h"] (rh D)):9e7 5 D.gW D.mE ["self","h","g"] (Qt D):=by
 refine F.oa JS F.b3 λcdv A' outer s' H vs Q E hr h=>?_;obtain⟨hd,hdx,hl,xs,ws,h,g,rfl,N,hb,hg,k⟩:=h;refine⟨_,(ai (aG (tI (Sv (n:=1) (i9 hr)) (bz.m hr (pv 0) T.aV T.iL px 1e9) (bz.m hr (pv 0) T.aV T.iL px (aa (pv 2) aj)) (aS _)))),?_⟩;refine⟨_,rfl,hd,hdx,_,rfl,N.i,rfl,_,rfl,hd,hdx,hl,xs,ws,h,rfl,N,hb,?_⟩;cases e:wat ws h with
 | none =>
  rw[e]at k;exact k
 | some wd =>
  rw[e]at k;intro v hv wv;refine⟨_,rfl,hd,hdx,_,rfl,N.i,rfl,_,rfl,hd,hdx,hl,xs,ws,g,rfl,N,hg,?_⟩;cases e2:wat ws g with
  | none =>
   rw[e2]at k;exact k
  | some wd2 =>
   rw[e2]at k;intro v2 hv2 wv2;refine⟨wd.vl,wd2.vl,wv.rp,wv2.rp,?_⟩;rw[acu];exact k
noncomputable def qe(D:Ad):Sp:=λvs H Q E=>∃ hd hdx hl xs ws,vs=[.ref hd]/\Hn D H hd hdx hl xs ws/\∀ p H',aB H H'->H p=none->H' p=some (.lst xs)->Q (.ref p) H'
noncomputable abbrev Bt:List Str:=["self"]
theorem zG:av Bt ["self"] (ar lH):=fsc
theorem zH(F:Fun K "all_words" "Hands.all_words" lH D.bL D.dE)(T:Txt K mg D):9e7 1 D.bL D.dE ["self"] (qe D):=by
 refine F.oa zG F.b1 λcdv A' outer s' H vs Q E hr h=>?_;obtain⟨hd,hdx,hl,xs,ws,rfl,N,k⟩:=h;refine⟨_,(ai (aG (ll pV rfl T.yY PyProof.Rows.Boot.«list» (aa 1e5 aj)))),?_⟩;exact⟨_,rfl,hd,D.a6,hdx,_,.ref hl,rfl,N.i,T.aV,T.cE,rfl,hl,xs,rfl,.inl (SqL.of N.l),λp hp=>k p _ (aB.upd hp) hp ag⟩
noncomputable def Qu(D:Ad):Sp:=λvs H Q E=>∃ nt ntx nl xs v,∃ w:Int,vs=[.ref nt,.int w,v]/\Nt D H nt ntx nl xs/\Sm w/\(if 0<=w/\w<8 then Q .non (upd H nl (.lst (xs.set w.toNat v))) else Bad D.fQ H E)
noncomputable abbrev DQ:List Str:=["self","w","t"]
theorem Bu:av DQ ["self","w","t"] (ar nv):=fsc
theorem Bv(F:Fun K "name" "NameTable.name" nv D.dq D.iC)(T:Txt K mg D)
  (iP:9e7 3 D.cX D.iN ["w"] (pB D)):9e7 4 D.dq D.iC ["self","w","t"] (Qu D):=by
 refine F.oa Bu F.b3 λcdv A' outer s' H vs Q E hr h=>?_;obtain⟨nt,ntx,nl,xs,v,w,rfl,N,hb,k⟩:=h;refine⟨_,(ak (aI (iP.c hr T.wQ T.mh px 1e9))
  (ai (mS (pv 2) (pO 1e5 (pv 1) set_list)))),?_⟩
 refine⟨_,rfl,w,rfl,hb,?_⟩;by_cases g:0<=w/\w<8
 ·rw[if_pos g]at k ⊢
  exact⟨_,rfl,_,rfl,nt,D.aD,ntx,_,.ref nl,rfl,N.i,T.dM,T.bV,rfl,_,rfl,nl,xs,w,w.toNat,rfl,rfl,N.l,A5 g.1 (by rw[N.n];exact g.2),k⟩
 ·rw[if_neg g]at k ⊢
  exact k
noncomputable def Qv(D:Ad):Sp:=λvs H Q E=>∃ nt ntx nl xs,∃ w:Int,vs=[.ref nt,.int w]/\Nt D H nt ntx nl xs/\Sm w/\(if 0<=w/\w<8 then ∀ v,xs[w.toNat]?=some v->Q v H else Bad D.fQ H E)
noncomputable abbrev Bw:List Str:=["self","w"]
theorem zI:av Bw ["self","w"] (ar lJ):=fsc
theorem zJ(F:Fun K "named" "NameTable.named" lJ D.cS D.gL)(T:Txt K mg D)
  (iP:9e7 3 D.cX D.iN ["w"] (pB D)):9e7 4 D.cS D.gL ["self","w"] (Qv D):=by
 refine F.oa zI F.b2 λcdv A' outer s' H vs Q E hr h=>?_;obtain⟨nt,ntx,nl,xs,w,rfl,N,hb,k⟩:=h;refine⟨_,(ak (aI (iP.c hr T.wQ T.mh px 1e9))
  (ai (aG (bT dC 1e5 (pv 1) 1e7)))),?_⟩
 refine⟨_,rfl,w,rfl,hb,?_⟩;by_cases g:0<=w/\w<8
 ·rw[if_pos g]at k ⊢
  have hv:xs[w.toNat]?=some (xs[w.toNat]'(by rw[N.n];omega)):=an4 _;exact⟨_,rfl,nt,D.aD,ntx,_,.ref nl,rfl,N.i,T.dM,T.bV,rfl,_,rfl,nl,xs,w,_,rfl,rfl,SqL.of N.l,Dq g.1 hv,k _ hv⟩
 ·rw[if_neg g]at k ⊢
  exact k
noncomputable def rN(D:Ad):Sp:=λvs H Q _=>∃ m dx,vs=[.ref m]/\H m=some (.ins D.aL dx [])/\∀ b c H',But m H H'->H b=none->H c=none->Wt D H' m dx b c [] []->Q .non H'
noncomputable abbrev vW:List Str:=["self"]
theorem vt:av vW ["self"] (ar jD):=fsc
theorem vv(F:Fun K "__init__" "WordTable.__init__" jD D.bP D.eP)(T:Txt K mg D):9e7 1 D.bP D.eP ["self"] (rN D):=by
 refine F.oa vt F.b1 λcdv A' outer s' H vs Q E hr h=>?_;obtain⟨m,dx,rfl,hm,k⟩:=h;refine⟨_,(ak (iM (pv 0) kg rfl)
  (ai (iM (pv 0) (pQ aj) rfl))),?_⟩
 intro p hp;have np:m≠p:=aq hm hp;refine⟨_,rfl,m,D.aL,dx,[],rfl,(by rw[af np];exact hm),T.c0,T.bH,by decide,?_⟩;refine⟨by show 0<=sizeLine;decide,λq hq=>?_⟩;have nq:m≠q:=aq ag hq;have qp:q≠p:=λe=>by rw[e,af (aol np),ag]at hq;cases hq
 have hq0:H q=none:=by rw[af (aol nq),af qp]at hq;exact hq
 refine⟨_,rfl,m,D.aL,dx,_,rfl,(by rw[af nq];exact ag),T.c0,T.lB,by show 1<1000;decide,?_⟩;refine k p q _ ((((But.upd hp).trans But.self).trans (λb u n h=>by rw[af λe=>by rw[e]at h;rw[h]at hq;cases hq];exact h)).trans But.self) hp hq0 ⟨ag,?_,?_⟩
 ·rw[af (aol np),af (aol qp),af (aol np),ag]
  rfl
 ·rw[af (aol nq),ag]
  rfl
noncomputable def SY(D:Ad):Sp:=λvs H Q E=>∃ wt wtx wb wl bs zs,∃ t x:Int,vs=[.ref wt,.int t,.int x]/\Wt D H wt wtx wb wl bs zs/\bs.length<=12/\(if bs.lookup t=none/\12<=bs.length then Bad D.cF H E else Q .non (upd H wb (.dK ((LA bs t x).map bkv))))
noncomputable abbrev DR:List Str:=["self","t","x"]
theorem Bx:av DR ["self","t","x"] (ar nr):=fsc
theorem By(F:Fun K "bear" "WordTable.bear" nr D.di D.iB)(T:Txt K mg D)
  (ah:9e7 1 D.ao D.aw ["self","text"] (yU K)):9e7 3 D.di D.iB ["self","t","x"] (SY D):=by
 refine F.oa Bx F.b3 λcdv A' outer s' H vs Q E hr h=>?_;obtain⟨wt,wtx,wb,wl,bs,zs,t,x,rfl,N,hn,k⟩:=h;have hu:=i9 hr;refine⟨_,(ak (bI (PW.pt (pw_and (ui (oy hu (pv 1) 1e5) (by with_unfolding_all rfl)) (pw_and1 (aJ YI (cz Lq rfl T.kU PyProof.Rows.Boot.«len» (aa 1e5 aj)) (mW (v:=.int 12) rfl T.mz ⟨_,rfl⟩) (aS _)))))
   (ai (eE rfl jA (ah.e hr T.F5 T.FY px (aa (ir (aQ (jn (mW (v:=.int 12) rfl T.mz ⟨_,rfl⟩)) (aQ fq iq))) aj))))
   aO)
  (ai (pG hu 1e5 (pv 1) (pv 2) rfl))),?_⟩
 have hu:=i9 hr;refine⟨_,rfl,_,rfl,wt,D.aL,wtx,_,.ref wb,rfl,N.i,T.c0,T.bH,rfl,wb,_,rfl,tX.k (k:=Sum.inl t) N.b,_,rfl,?_⟩;rw[abO,apb];cases e:bs.lookup t with
 | some v =>
  rw[if_neg (λz=>by rw[e]at z;cases z.1)]at k;exact tW ⟨_,rfl,_,rfl,wt,D.aL,wtx,_,.ref wb,rfl,N.i,T.c0,T.bH,rfl,_,rfl,wb,_,rfl,G9.k (k:=Sum.inl t) N.b (by rw[an6];exact aoY hn 2e1),by rw[Qq]at k;exact k⟩
 | none =>
  refine u9 ⟨_,rfl,wt,D.aL,wtx,_,.ref wb,rfl,N.i,T.c0,T.bH,rfl,wb,_,rfl,N.b,_,_,rfl,rfl,_,rfl,dH (λh=>?_) (λh=>?_)⟩
  ·rw[an6]at h
   have h:=of_decide_eq_true h;rw[if_pos ⟨e,by omega⟩]at k;exact⟨12,rfl,Sm.of 2e1 2e1,λy hy ea hea=>bE T.FZ (λ_ q=>q) k ea hea⟩
  ·rw[an6]at h
   have h:¬((12:Int)<=(bs.length:Int)):=λz=>h (decide_eq_true z);rw[if_neg (λz=>h (by have:=z.2;omega))]at k;exact⟨_,rfl,_,rfl,wt,D.aL,wtx,_,.ref wb,rfl,N.i,T.c0,T.bH,rfl,_,rfl,wb,_,rfl,G9.k (k:=Sum.inl t) N.b (by rw[an6];exact aoY hn 2e1),by rw[Qq]at k;exact k⟩
noncomputable def fld(s:HS)(t:Int):List Wd:=(s.aT.lookup t).getD []
structure Good(s:HS):Prop where
 h8:s.aW.length=8
 n8:s.names.length=8
 asc:(s.aT.map (·.1)).Pairwise (·< ·)
 lt:∀ t ws,(t,ws)∈s.aT->0<=t/\t<s.nxt
 f6:∀ t ws,(t,ws)∈s.aT->ws.length<=6
 hh:∀ t,Wd.th t∈s.aW->∃ ws,(t,ws)∈s.aT
 ff:∀ u ws t,(u,ws)∈s.aT->Wd.th t∈ws->∃ ws',(t,ws')∈s.aT
 nn:∀ t,some t∈s.names->∃ ws,(t,ws)∈s.aT
 b12:s.cu.length<=12
 bk:∀ t x,(t,x)∈s.cu->∃ ws,(t,ws)∈s.aT
 bnd:(s.cu.map (·.1)).Nodup
 n0:0<=s.nxt
 nx:s.nxt<=10000
 sd:(s.wU.length:Int)+s.aT.length<=s.nxt
 yk:∀ t∈s.yng,∃ ws,(t,ws)∈s.aT
 Ha:s.yng.Pairwise (·< ·)
 dk:∀ t∈s.dU,∃ ws,(t,ws)∈s.aT
 IV:s.dU.Pairwise (·< ·)
theorem mem_lookup{α:Type}{fs:List (Int×α)}{t:Int}{w:α}(asc:(fs.map (·.1)).Nodup)(m:(t,w)∈fs):fs.lookup t=some w:=by
 induction fs with
 | nil=>cases m
 | cons p r ih =>
  obtain⟨a,b⟩:=p;rw[aov,apl]at asc;rw[ao5];rcases aop.mp m with e|m
  ·cases e
   rw[beq_self_eq_true]
  ·have ne:t≠a:=λe=>asc.1 (by rw[<-e];exact aoy.mpr ⟨_,m,rfl⟩)
   rw[beq_eq_false_iff_ne.mpr ne];exact ih asc.2 m
theorem t5{l:List Int}(h:l.Pairwise (·< ·)):l.Nodup:=h.imp λh=>Int.ne_of_lt h
theorem Good.get{s:HS}(g:Good s){t:Int}{ws:List Wd}(m:(t,ws)∈s.aT):s.aT.lookup t=some ws:=mem_lookup (t5 g.asc) m
theorem Good.fld{s:HS}(g:Good s){t:Int}{ws:List Wd}(m:(t,ws)∈s.aT):fld s t=ws:=by unfold K38.fld;rw[g.get m];rfl
theorem Good.hand{s:HS}(g:Good s){h t:Int}(e:wat s.aW h=some (.th t)):(t,K38.fld s t)∈s.aT:=by
 obtain⟨_,_,e⟩:=uq e;obtain⟨ws,m⟩:=g.hh t (an9 e);rw[g.fld m];exact m
theorem Good.few{s:HS}(g:Good s):s.aT.length<=10000:=by
 have:=g.sd
 have:=g.nx
 omega
theorem ur{n:Nat}(h:n<=20000):n<sizeLine:=aoY h 2e1
theorem Dr{n:Nat}(h:n<=20000):n<=sizeLine:=apO (ur h)
inductive Er where
 | hand|name|field|count|room|words|on|no
noncomputable def Ad.er(D:Ad):Er->Addr
 | .hand=>D.br
 | .name=>D.fQ
 | .field=>D.fR
 | .count=>D.dz
 | .room=>D.kS
 | .words=>D.cF
 | .on=>D.jx
 | .no=>D.jy
noncomputable abbrev Re:=Option Er×HS
noncomputable def Fin(D:Ad)(x:Addr)(A:HA)(s:HS)(H:Hp)(r:Re)(Q:VK)(E:XK):Prop:=∀ A' H',IH D H' x A' r.2->Fr (bD x A s) H (bD x A' r.2) H'->(match r.1 with|none=>Q .non H'|some e=>E (.ref (D.er e)) none H')
theorem Fin.bad{D:Ad}{x:Addr}{A:HA}{s:HS}{H:Hp}{e:Er}{Q:VK}{E:XK}(k:Fin D x A s H (some e,s) Q E)(J:IH D H x A s):Bad (D.er e) H E:=λH' s'=>k A H' (J.same s') (Fr.same s')
noncomputable abbrev ok8(h:Int):Prop:=0<=h/\h<8
noncomputable def oZ(s:HS)(h:Int)(w:Wd):HS:={s with aW:=s.aW.set h.toNat w}
noncomputable def jg(s:HS)(h g k:Int):Re:=if ok8 h then(match wat s.aW g with|some (.th t)=>if 0<=k/\k<((fld s t).length:Int) then(none,oZ s h ((fld s t).getD k.toNat .no)) else(some .field,s)|_=>(some .hand,s)) else(some .hand,s)
noncomputable def ke(s:HS)(g k h:Int):Re:=match wat s.aW g with|some (.th t)=>(match wat s.aW h with|some w=>if 0<=k/\k<((fld s t).length:Int) then(none,{s with aT:=wV s.aT t ((fld s t).set k.toNat w)}) else(some .field,s)|none=>(some .hand,s))|_=>(some .hand,s)
noncomputable def tU(s:HS)(h g:Int):Re:=if ok8 h then(match wat s.aW g with|some w=>(none,oZ s h w)|none=>(some .hand,s)) else(some .hand,s)
noncomputable def yP(s:HS)(h:Int):Re:=if ok8 h then(none,oZ s h .no) else(some .hand,s)
noncomputable def lE(s:HS)(h x:Int):Re:=if ok8 h then(if Num x then(none,oZ s h (.num x)) else(some .count,s)) else(some .hand,s)
noncomputable def sv(s:HS)(w h:Int):Re:=match wat s.aW h with|some (.th t)=>if ok8 w then(none,{s with names:=s.names.set w.toNat (some t)}) else(some .name,s)|_=>(some .hand,s)
noncomputable def nmW:Option Int->Wd
 | none=>.no
 | some t=>.th t
noncomputable def qf(s:HS)(h x:Int):Re:=match wat s.aW h with|some (.th t)=>(if Num x then(if s.cu.lookup t=none/\12<=s.cu.length then(some .words,s) else(none,{s with cu:=LA s.cu t x})) else(some .count,s))|_=>(some .hand,s)
noncomputable def RJ(s:HS)(h n:Int):HS:={s with nxt:=s.nxt+1,aT:=s.aT++[(s.nxt,List.replicate n.toNat .no)],yng:=if s.my=true then s.yng++[s.nxt] else s.yng,aW:=s.aW.set h.toNat (.th s.nxt)}
noncomputable def wsum(s:HS)(ts:List Int):Int:=(ts.map λt=>((fld s t).length:Int)+1).sum
section
variable{D:Ad}{H:Hp}{x:Addr}{A:HA}{s:HS}
theorem IH.hn(J:IH D H x A s)(g:Good s):Hn D H A.hd A.hdx A.hl A.hx s.aW:=⟨J.ahd,J.ahl,J.rhl,g.h8⟩
theorem IH.ntb(J:IH D H x A s)(g:Good s):Nt D H A.nt A.ntx A.nl (s.names.map nmV):=⟨J.ant,J.anl,by rw[an6];exact g.n8⟩
theorem IH.wtb(J:IH D H x A s):Wt D H A.wt A.wtx A.wb A.wl s.cu s.wU:=⟨J.awt,J.awb,J.awl⟩
theorem V5{A:HA}{fs:List (Int×List Wd)}{t:Int}:ie (fs.map (fkv A)) (Sum.inl t)=(fs.lookup t).map λ_=>V.ref (A.fa t):=IT λ_=>rfl
theorem IH.Y9(J:IH D H x A s)(g:Good s){t:Int}{ws:List Wd}(m:(t,ws)∈s.aT):tX H A.fh (.int t) (some (.ref (A.fa t))):=by
 have:=tX.k (k:=Sum.inl t) J.afh
 rw[V5,g.get m]at this;exact this
end
noncomputable def NO(D:Ad):Sp:=λvs H Q E=>∃ x A s,∃ h g:Int,vs=[.ref x,.int h,.int g]/\IH D H x A s/\Good s/\Sm h/\Sm g/\Fin D x A s H (tU s h g) Q E
noncomputable abbrev OD:List Str:=["self","h","g"]
theorem Ma:av OD ["self","h","g"] (ar xg):=fsc
theorem Mb(F:Fun K "copy" "Heap.copy" xg D.fA D.kY)(T:Txt K mg D)
  (uR:9e7 5 D.gU D.mD ["self","h","g"] (Qr D)):9e7 6 D.fA D.kY ["self","h","g"] (NO D):=by
 refine F.oa Ma F.b3 λcdv A' outer s' H vs Q E hr h=>?_;obtain⟨x,A,s,h,g,rfl,J,G,hh,hg,k⟩:=h;refine⟨_,(ai (aI (uR.m hr 1e5 T.aV T.JH px (aa (pv 1) (aa (pv 2) aj))))),?_⟩;refine⟨_,rfl,x,D.ab,_,_,.ref A.hd,rfl,J.ax,T.ae,T.aA,pA,A.hd,A.hdx,_,rfl,J.ahd,rfl,_,rfl,_,rfl,A.hd,A.hdx,A.hl,A.hx,s.aW,h,g,rfl,J.hn G,hh,hg,?_⟩;by_cases c:ok8 h
 ·rw[if_pos c]
  cases e:wat s.aW g with
  | none =>
   rw[show tU s h g=(some .hand,s) by simp only[tU,if_pos c,e]]at k;exact k.bad J
  | some wd =>
   rw[show tU s h g=(none,oZ s h wd) by simp only[tU,if_pos c,e]]at k;exact λv wv=>let w:=J.UX (J.rhl.set (i:=h.toNat) wv);k _ _ w.1 w.2
 ·rw[if_neg c]
  rw[show tU s h g=(some .hand,s) by simp only[tU,if_neg c]]at k;exact k.bad J
noncomputable def NP(D:Ad):Sp:=λvs H Q E=>∃ x A s,∃ h:Int,vs=[.ref x,.int h]/\IH D H x A s/\Good s/\Sm h/\Fin D x A s H (yP s h) Q E
noncomputable abbrev OE:List Str:=["self","h"]
theorem Mc:av OE ["self","h"] (ar xh):=fsc
theorem Md(F:Fun K "drop" "Heap.drop" xh D.fB D.kZ)(T:Txt K mg D)
  (eD:9e7 4 D.fu D.iZ ["self","h","word"] (y9 D)):9e7 5 D.fB D.kZ ["self","h"] (NP D):=by
 refine F.oa Mc F.b2 λcdv A' outer s' H vs Q E hr h=>?_;obtain⟨x,A,s,h,rfl,J,G,hh,k⟩:=h;refine⟨_,(ai (aI (eD.m hr 1e5 T.aV T.qa px (aa (pv 1) (aa c8 aj))))),?_⟩;refine⟨_,rfl,x,D.ab,_,_,.ref A.hd,rfl,J.ax,T.ae,T.aA,pA,A.hd,A.hdx,_,rfl,J.ahd,rfl,_,rfl,A.hd,A.hdx,A.hl,A.hx,s.aW,.non,h,rfl,J.hn G,hh,?_⟩;by_cases c:ok8 h
 ·rw[if_pos c]
  rw[show yP s h=(none,oZ s h .no) by simp only[yP,if_pos c]]at k;exact let w:=J.UX (J.rhl.set (i:=h.toNat) (show WV H .non .no from rfl));k _ _ w.1 w.2
 ·rw[if_neg c]
  rw[show yP s h=(some .hand,s) by simp only[yP,if_neg c]]at k;exact k.bad J
noncomputable def LB(D:Ad):Sp:=λvs H Q E=>∃ x A s,∃ h z:Int,vs=[.ref x,.int h,.int z]/\IH D H x A s/\Good s/\Sm h/\Sm z/\Fin D x A s H (lE s h z) Q E
noncomputable abbrev JU:List Str:=["self","h","x"]
theorem HB:av JU ["self","h","x"] (ar sJ):=fsc
theorem HC(F:Fun K "number" "Heap.number" sJ D.dJ D.ku)(T:Txt K mg D)
  (qI:9e7 5 D.ft D.jP ["self","h","x"] (IU D)):9e7 6 D.dJ D.ku ["self","h","x"] (LB D):=by
 refine F.oa HB F.b3 λcdv A' outer s' H vs Q E hr h=>?_;obtain⟨x,A,s,h,z,rfl,J,G,hh,hz,k⟩:=h;refine⟨_,(ai (aI (qI.m hr 1e5 T.aV T.F6 px (aa (pv 1) (aa (pv 2) aj))))),?_⟩;refine⟨_,rfl,x,D.ab,_,_,.ref A.hd,rfl,J.ax,T.ae,T.aA,pA,A.hd,A.hdx,_,rfl,J.ahd,rfl,_,rfl,_,rfl,A.hd,A.hdx,A.hl,A.hx,s.aW,h,z,rfl,J.hn G,hh,hz,?_⟩;by_cases c:ok8 h
 ·rw[if_pos c]
  by_cases g:Num z
  ·rw[if_pos g]
   rw[show lE s h z=(none,oZ s h (.num z)) by simp only[lE,if_pos c,if_pos g]]at k;exact λt H1 s1 ht=>let J1:=J.same s1;let w:=J1.UX (J1.rhl.set (i:=h.toNat) (show WV H1 (.ref t) (.num z) from⟨t,rfl,ht⟩));k _ _ w.1 ((Fr.same s1).trans w.2)
  ·rw[if_neg g]
   rw[show lE s h z=(some .count,s) by simp only[lE,if_pos c,if_neg g]]at k;exact k.bad J
 ·rw[if_neg c]
  rw[show lE s h z=(some .hand,s) by simp only[lE,if_neg c]]at k;exact k.bad J
noncomputable def S0(D:Ad):Sp:=λvs H Q E=>∃ x A s,∃ w h:Int,vs=[.ref x,.int w,.int h]/\IH D H x A s/\Good s/\Sm w/\Sm h/\Fin D x A s H (sv s w h) Q E
noncomputable abbrev OF:List Str:=["self","w","h","t"]
theorem Df:av OF ["self","w","h"] (ar xi):=fsc
theorem Me(F:Fun K "name" "Heap.name" xi D.gq D.oA)(T:Txt K mg D)
  (aR:9e7 6 D.ba D.cn ["self","h"] (kc D))
  (nM:9e7 4 D.dq D.iC ["self","w","t"] (Qu D)):9e7 7 D.gq D.oA ["self","w","h"] (S0 D):=by
 refine F.oa Df F.b3 λcdv A' outer s' H vs Q E hr h=>?_;obtain⟨x,A,s,w,h,rfl,J,G,hw,hh,k⟩:=h;refine⟨_,(ak (aN (i:=3) Df.nd rfl 1e4 (aR.m hr 1e5 T.aV T.gA px (aa (pv 2) aj)))
  (ai (aI (nM.m hr 1e5 T.dM T.Be px (aa (pv 1) (aa (pv 3) aj)))))),?_⟩
 refine⟨_,rfl,x,D.ab,_,_,.ref A.hd,rfl,J.ax,T.ae,T.aA,pA,A.hd,A.hdx,_,rfl,J.ahd,rfl,_,rfl,A.hd,A.hdx,A.hl,A.hx,s.aW,h,rfl,J.hn G,hh,?_⟩;cases e:wat s.aW h with
 | none =>
  rw[show sv s w h=(some .hand,s) by simp only[sv,e]]at k;exact k.bad J
 | some wd =>
  cases wd with
  | no =>
   rw[show sv s w h=(some .hand,s) by simp only[sv,e]]at k;exact k.bad J
  | num n =>
   rw[show sv s w h=(some .hand,s) by simp only[sv,e]]at k;exact k.bad J
  | th t =>
   intro H1 s1;have J1:=J.same s1;refine⟨_,rfl,x,D.ab,_,_,.ref A.nt,rfl,J1.ax,T.ae,T.dD,UM,A.nt,A.ntx,_,rfl,J1.ant,rfl,_,rfl,_,rfl,A.nt,A.ntx,A.nl,_,.int t,w,rfl,J1.ntb G,hw,?_⟩;by_cases c:ok8 w
   ·rw[if_pos c]
    rw[show sv s w h=(none,{s with names:=s.names.set w.toNat (some t)}) by simp only[sv,e,if_pos c]]at k;have w1:=J1.anu (ns:=s.names.set w.toNat (some t));rw[List.map_set]at w1;exact k _ _ w1.1 ((Fr.same s1).trans w1.2)
   ·rw[if_neg c]
    rw[show sv s w h=(some .name,s) by simp only[sv,e,if_neg c]]at k;exact Bad.same (k.bad J) s1
noncomputable def X5(D:Ad):Sp:=λvs H Q E=>∃ x A s,∃ h z:Int,vs=[.ref x,.int h,.int z]/\IH D H x A s/\Good s/\Sm h/\Sm z/\Fin D x A s H (qf s h z) Q E
noncomputable abbrev OG:List Str:=["self","h","x","t"]
theorem Dh:av OG ["self","h","x"] (ar xj):=fsc
theorem Mf(F:Fun K "word" "Heap.word" xj D.g7 D.sk)(T:Txt K mg D)
  (aR:9e7 6 D.ba D.cn ["self","h"] (kc D))
  (gk:9e7 3 D.cc D.gg ["x"] (lT D))
  (nN:9e7 3 D.di D.iB ["self","t","x"] (SY D)):9e7 7 D.g7 D.sk ["self","h","x"] (X5 D):=by
 refine F.oa Dh F.b3 λcdv A' outer s' H vs Q E hr h=>?_;obtain⟨x,A,s,h,z,rfl,J,G,hh,hz,k⟩:=h;refine⟨_,(ak (aN (i:=3) Dh.nd rfl 1e4 (aR.m hr 1e5 T.aV T.gA px 1e9))
  (ak (aI (gk.c hr T.tL T.jX px (aa (pv 2) aj)))
  (ai (aI (nN.m hr 1e5 T.c0 T.Bd px (aa (pv 3) (aa (pv 2) aj))))))),?_⟩
 refine⟨_,rfl,x,D.ab,_,_,.ref A.hd,rfl,J.ax,T.ae,T.aA,pA,A.hd,A.hdx,_,rfl,J.ahd,rfl,_,rfl,A.hd,A.hdx,A.hl,A.hx,s.aW,h,rfl,J.hn G,hh,?_⟩;cases e:wat s.aW h with
 | none =>
  rw[show qf s h z=(some .hand,s) by simp only[qf,e]]at k;exact k.bad J
 | some wd =>
  cases wd with
  | no =>
   rw[show qf s h z=(some .hand,s) by simp only[qf,e]]at k;exact k.bad J
  | num n =>
   rw[show qf s h z=(some .hand,s) by simp only[qf,e]]at k;exact k.bad J
  | th t =>
   intro H1 s1;have J1:=J.same s1;refine⟨_,rfl,z,rfl,hz,?_⟩;by_cases g:Num z
   ·rw[if_pos g]
    refine⟨_,rfl,x,D.ab,_,_,.ref A.wt,rfl,J1.ax,T.ae,T.iS,Y8,A.wt,A.wtx,_,rfl,J1.awt,rfl,_,rfl,_,rfl,A.wt,A.wtx,A.wb,A.wl,s.cu,s.wU,t,z,rfl,J1.wtb,G.b12,?_⟩;by_cases c:s.cu.lookup t=none/\12<=s.cu.length
    ·rw[if_pos c]
     rw[show qf s h z=(some .words,s) by simp only[qf,e,if_pos g,if_pos c]]at k;exact Bad.same (k.bad J) s1
    ·rw[if_neg c]
     rw[show qf s h z=(none,{s with cu:=LA s.cu t z}) by simp only[qf,e,if_pos g,if_neg c]]at k;have w1:=J1.ajm (bs:=LA s.cu t z);exact k _ _ w1.1 ((Fr.same s1).trans w1.2)
   ·rw[if_neg g]
    rw[show qf s h z=(some .count,s) by simp only[qf,e,if_neg g]]at k;exact Bad.same (k.bad J) s1
noncomputable def NQ(D:Ad):Sp:=λvs H Q E=>∃ x A s,∃ h g kk:Int,vs=[.ref x,.int h,.int g,.int kk]/\IH D H x A s/\Good s/\Sm h/\Sm g/\Sm kk/\Fin D x A s H (jg s h g kk) Q E
noncomputable abbrev OH:List Str:=["self","h","g","k","fields"]
theorem Di:av OH ["self","h","g","k"] (ar xb):=fsc
theorem Mg(F:Fun K "load" "Heap.load" xb D.fz D.kX)(T:Txt K mg D)
  (aM:9e7 3 D.bj D.cG ["h"] (dY D))
  (aR:9e7 6 D.ba D.cn ["self","h"] (kc D))
  (gF:9e7 3 D.cH D.gE ["k","fields"] (nL D))
  (eD:9e7 4 D.fu D.iZ ["self","h","word"] (y9 D)):9e7 7 D.fz D.kX ["self","h","g","k"] (NQ D):=by
 refine F.oa Di F.b4 λcdv A' outer s' H vs Q E hr h=>?_;obtain⟨x,A,s,h,g,kk,rfl,J,G,hh,hg,hk,k⟩:=h;have hu:=i9 hr;refine⟨_,(ak (aI (aM.c hr T.gB T.dS px 1e9))
  (ak (aN (i:=4) Di.nd rfl 1e4 (ip hu 1e5 (aR.m hr 1e5 T.aV T.gA px (aa (pv 2) aj)) 1e7))
  (ak (aI (gF.c hr T.ve T.kE px (aa (pv 3) (aa (cz a9 rfl T.kU PyProof.Rows.Boot.«len» (aa (pv 4) aj)) aj))))
  (ai (aI (eD.m hr 1e5 T.aV T.qa px (aa (pv 1) (aa (bT dC (pv 4) (pv 3) 1e7) aj)))))))),?_⟩
 refine⟨_,rfl,h,rfl,hh,?_⟩;by_cases c:ok8 h
 ·rw[if_pos c]
  refine⟨_,rfl,x,D.ab,_,_,.ref A.fh,rfl,J.ax,T.ae,T.aC,tT,_,rfl,x,D.ab,_,_,.ref A.hd,rfl,J.ax,T.ae,T.aA,pA,A.hd,A.hdx,_,rfl,J.ahd,rfl,_,rfl,A.hd,A.hdx,A.hl,A.hx,s.aW,g,rfl,J.hn G,hg,?_⟩;cases e:wat s.aW g with
  | none =>
   rw[show jg s h g kk=(some .hand,s) by simp only[jg,e,if_pos c]]at k;exact k.bad J
  | some wd =>
   cases wd with
   | no =>
    rw[show jg s h g kk=(some .hand,s) by simp only[jg,e,if_pos c]]at k;exact k.bad J
   | num n =>
    rw[show jg s h g kk=(some .hand,s) by simp only[jg,e,if_pos c]]at k;exact k.bad J
   | th t =>
    intro H1 s1;have J1:=J.same s1;have m:=G.hand e;obtain⟨hl,rl⟩:=J1.afl _ _ m;refine⟨A.fh,_,rfl,J1.Y9 G m,?_⟩;have f6:=G.f6 _ _ m;have ln:((A.fx t).length:Int)=(fld s t).length:=(by rw[rl.1]);refine⟨_,rfl,_,rfl,A.fa t,_,rfl,.inl (SqL.of hl),kk,_,rfl,hk,Sm.of 1e1 1e1,?_⟩;rw[ln];by_cases c2:0<=kk/\kk<((fld s t).length:Int)
    ·rw[if_pos c2]
     rw[show jg s h g kk=(none,oZ s h ((fld s t).getD kk.toNat .no)) by simp only[jg,if_pos c,e,if_pos c2]]at k;have hi:kk.toNat<(fld s t).length:=1e1;obtain⟨v,hv,wv⟩:=rl.get hi;have gd:(fld s t).getD kk.toNat .no=(fld s t)[kk.toNat]:=(by simp[List.getD,hi]);rw[gd]at k;refine⟨_,rfl,x,D.ab,_,_,.ref A.hd,rfl,J1.ax,T.ae,T.aA,pA,A.hd,A.hdx,_,rfl,J1.ahd,rfl,_,rfl,_,rfl,_,rfl,A.fa t,_,kk,v,rfl,rfl,SqL.of hl,Dq c2.1 hv,A.hd,A.hdx,A.hl,A.hx,s.aW,v,h,rfl,J1.hn G,hh,?_⟩;rw[if_pos c];exact let w:=J1.UX (J1.rhl.set (i:=h.toNat) wv);k _ _ w.1 ((Fr.same s1).trans w.2)
    ·rw[if_neg c2]
     rw[show jg s h g kk=(some .field,s) by simp only[jg,if_pos c,e,if_neg c2]]at k;exact Bad.same (k.bad J) s1
 ·rw[if_neg c]
  rw[show jg s h g kk=(some .hand,s) by simp only[jg,if_neg c]]at k;exact k.bad J
noncomputable def Qw(D:Ad):Sp:=λvs H Q E=>∃ x A s,∃ g kk h:Int,vs=[.ref x,.int g,.int kk,.int h]/\IH D H x A s/\Good s/\Sm g/\Sm kk/\Sm h/\Fin D x A s H (ke s g kk h) Q E
noncomputable abbrev Mh:List Str:=["self","g","k","h","fields","value"]
theorem sW:av Mh ["self","g","k","h"] (ar uC):=fsc
theorem JV(F:Fun K "store" "Heap.store" uC D.fi D.mG)(T:Txt K mg D)
  (aR:9e7 6 D.ba D.cn ["self","h"] (kc D))
  (bz:9e7 4 D.bX D.dW ["self","h"] (rh D))
  (gF:9e7 3 D.cH D.gE ["k","fields"] (nL D)):9e7 7 D.fi D.mG ["self","g","k","h"] (Qw D):=by
 refine F.oa sW F.b4 λcdv A' outer s' H vs Q E hr h=>?_;obtain⟨x,A,s,g,kk,h,rfl,J,G,hg,hk,hh,k⟩:=h;have hu:=i9 hr;refine⟨_,(ak (aN (i:=4) sW.nd rfl 1e4 (ip hu 1e5 (aR.m hr 1e5 T.aV T.gA px 1e9) 1e7))
  (ak (aN (i:=5) sW.nd rfl 1e4 (bz.m hr 1e5 T.aV T.iL px (aa (pv 3) aj)))
  (ak (aI (gF.c hr T.ve T.kE px (aa (pv 2) (aa (cz a9 rfl T.kU PyProof.Rows.Boot.«len» (aa (pv 4) aj)) aj))))
  (ai (mS (pv 5) (pO (pv 4) (pv 2) set_list)))))),?_⟩
 refine⟨_,rfl,x,D.ab,_,_,.ref A.fh,rfl,J.ax,T.ae,T.aC,tT,_,rfl,x,D.ab,_,_,.ref A.hd,rfl,J.ax,T.ae,T.aA,pA,A.hd,A.hdx,_,rfl,J.ahd,rfl,_,rfl,A.hd,A.hdx,A.hl,A.hx,s.aW,g,rfl,J.hn G,hg,?_⟩;cases e:wat s.aW g with
 | none =>
  rw[show ke s g kk h=(some .hand,s) by simp only[ke,e]]at k;exact k.bad J
 | some wd =>
  cases wd with
  | no =>
   rw[show ke s g kk h=(some .hand,s) by simp only[ke,e]]at k;exact k.bad J
  | num n =>
   rw[show ke s g kk h=(some .hand,s) by simp only[ke,e]]at k;exact k.bad J
  | th t =>
   intro H1 s1;have J1:=J.same s1;have m:=G.hand e;obtain⟨hl,rl⟩:=J1.afl _ _ m;refine⟨A.fh,_,rfl,J1.Y9 G m,?_⟩;refine⟨_,rfl,x,D.ab,_,_,.ref A.hd,rfl,J1.ax,T.ae,T.aA,pA,A.hd,A.hdx,_,rfl,J1.ahd,rfl,_,rfl,A.hd,A.hdx,A.hl,A.hx,s.aW,h,rfl,J1.hn G,hh,?_⟩;cases e2:wat s.aW h with
   | none =>
    rw[show ke s g kk h=(some .hand,s) by simp only[ke,e,e2]]at k;exact Bad.same (k.bad J) s1
   | some wd =>
    intro v hv wv;have f6:=G.f6 _ _ m;have ln:((A.fx t).length:Int)=(fld s t).length:=(by rw[rl.1]);refine⟨_,rfl,_,rfl,A.fa t,_,rfl,.inl (SqL.of hl),kk,_,rfl,hk,Sm.of 1e1 1e1,?_⟩;rw[ln];by_cases c2:0<=kk/\kk<((fld s t).length:Int)
    ·rw[if_pos c2]
     rw[show ke s g kk h=(none,{s with aT:=wV s.aT t ((fld s t).set kk.toNat wd)}) by simp only[ke,e,e2,if_pos c2]]at k;refine⟨_,rfl,_,rfl,_,rfl,A.fa t,_,kk,kk.toNat,rfl,rfl,hl,A5 c2.1 1e1,?_⟩;exact let w:=J1.anz m (rl.set (i:=kk.toNat) wv);k _ _ w.1 ((Fr.same s1).trans w.2)
    ·rw[if_neg c2]
     rw[show ke s g kk h=(some .field,s) by simp only[ke,e,e2,if_neg c2]]at k;exact Bad.same (k.bad J) s1
theorem f9{b:Bool}{A B:Prop}(h:b=false)(k:B):if b=true then A else B:=by rw[h];exact k
theorem iY{b:Bool}{A B:Prop}(h:b=true)(k:A):if b=true then A else B:=by rw[h];exact k
theorem X6(k:Nat):(List.replicate k [V.non]).flatten=List.replicate k .non:=by
 induction k with
 | zero=>rfl
 | succ k ih=>rw[aoJ,apa,ih,aoJ];rfl
noncomputable def keys(s:HS):List Int:=s.aT.map (·.1)
noncomputable def held(s:HS):Int:=wsum s (keys s)
structure Raw(D:Ad)(H:Hp)(x dx:Addr)(my:Bool)(hd hdx hl nt ntx nl wt wtx wb wl fh yg:Addr):Prop where
 ax:H x=some (.ins D.ab dx [("makes_young",.bl my),("in_hands",.ref hd),("weak_names",.ref nt),("last_words",.ref wt),("fields_held",.ref fh),("young_things",.ref yg),("next_thing",.int 0)])
 ahd:H hd=some (.ins D.a6 hdx [("words_held",.ref hl)])
 ahl:H hl=some (.lst (List.replicate 8 .non))
 ant:H nt=some (.ins D.aD ntx [("things_named",.ref nl)])
 anl:H nl=some (.lst (List.replicate 8 .non))
 awt:Wt D H wt wtx wb wl [] []
 afh:H fh=some (.dK [])
 ayg:H yg=some (.dK [])
 n1:hd≠nt
 n2:hl≠nl
 n3:hl≠wl
 n4:nl≠wl
 n5:wb≠fh
 n6:wb≠yg
 n7:fh≠yg
noncomputable def s0(my:Bool)(room limit:Int):HS:=⟨my,List.replicate 8 .no,List.replicate 8 none,[],[],[],[],0,room,limit,[],false⟩
theorem good0{my:Bool}{room limit:Int}:Good (s0 my room limit) :=
 ⟨rfl,rfl,List.Pairwise.nil,(λ_ _ m=>by cases m),(λ_ _ m=>by cases m),(λt m=>by have:=aoS m;cases this),(λ_ _ _ m=>by cases m),(λt m=>by have:=aoS m;cases this),by show 0<=12;decide,(λ_ _ m=>by cases m),List.nodup_nil,by show(0:Int)<=0;decide,by show(0:Int)<=10000;decide,by show((0:Nat):Int)+((0:Nat):Int)<=0;decide,(λ_ m=>by cases m),List.Pairwise.nil,(λ_ m=>by cases m),List.Pairwise.nil⟩
noncomputable def Dj(D:Ad):Sp:=λvs H Q E=>∃ x dx,∃ my:Bool,vs=[.ref x,.bl my]/\H x=some (.ins D.ab dx [])/\∀ hd hdx hl nt ntx nl wt wtx wb wl fh yg H',Raw D H' x dx my hd hdx hl nt ntx nl wt wtx wb wl fh yg->But x H H'->(∀ b,b=hd\/b=hl\/b=nt\/b=nl\/b=wt\/b=wb\/b=wl\/b=fh\/b=yg->H b=none)->Q .non H'
noncomputable abbrev Gn:List Str:=["self","makes_young"]
theorem DS:av Gn ["self","makes_young"] (ar pq):=fsc
theorem DT(F:Fun K "__init__" "Heap.__init__" pq D.cI D.je)(T:Txt K mg D)
  (jZ:9e7 1 D.de D.iA ["self"] (y8 D))
  (gG:9e7 1 D.bQ D.eQ ["self"] (rM D))
  (gH:9e7 1 D.bP D.eP ["self"] (rN D)):9e7 3 D.cI D.je ["self","makes_young"] (Dj D):=by
 refine F.oa DS F.b2 λcdv A' outer s' H vs Q E hr h=>?_;obtain⟨x,dx,my,rfl,hx,k⟩:=h;refine⟨_,(ak (iM (pv 0) (pv 1) rfl)
  (ak (iM (pv 0) (Jk T.Jp jZ.g (hr.mono 2e1) rfl T.Vv jZ.b .nil (UI λ_ _ _ q=>q)) rfl)
  (ak (iM (pv 0) (Jk T.uI gG.g (hr.mono 2e1) rfl T.LW gG.b .nil (UI λ_ _ _ q=>q)) rfl)
  (ak (iM (pv 0) (Jk T.uH gH.g (hr.mono 2e1) rfl T.LV gH.b .nil (UI λ_ _ _ q=>q)) rfl)
  (ak (iM (pv 0) kg rfl)
  (ak (iM (pv 0) kg rfl)
  (ai (iM (pv 0) au rfl)))))))),?_⟩
 have bk:∀ {H':Hp} {b:Addr} {u:HO},H' x=some u->But x H H'->H' b=none->H b=none:=λ{H' b u} hx' B h=>by
  cases q:H b with
  | none=>rfl
  | some v =>
   by_cases e:b=x
   ·rw[e,hx']at h;cases h
   ·rw[B b v e q]at h;cases h
 have mk:∀ {H1 H2:Hp} {m mdx C:Addr},H1 m=none->H1 mdx=none->But m (upd (upd H1 mdx (.own m)) m (.ins C mdx [])) H2->aB H1 H2:=λh1 h2 B b u q=>B b u (aq q h1) (by rw[af (aq q h1),af (aq q h2)];exact q);have fr:∀ {H1:Hp} {m mdx C c:Addr},H1 m=none->H1 mdx=none->upd (upd H1 mdx (.own m)) m (.ins C mdx []) c=none->H1 c=none:=λ{H1 m mdx C c} h1 h2 h=>by
  cases q:H1 c with
  | none=>rfl
  | some v=>rw[af (aq q h1),af (aq q h2),q]at h;cases h
 refine⟨_,rfl,_,rfl,x,D.ab,dx,_,rfl,hx,T.ae,T.ic,by show 0<1000;decide,?_⟩;obtain⟨H1,e1⟩:∃ H1,upd H x (.ins D.ab dx (i8 "makes_young" (.bl my) []))=H1:=⟨_,rfl⟩;have x1:H1 x=some (.ins D.ab dx [("makes_young",.bl my)]):=by rw[<-e1];exact ag
 have B1:But x H H1:=by rw[<-e1];exact But.self
 show NG _ _ _ _ (upd H x (.ins D.ab dx (i8 "makes_young" (.bl my) [])));rw[e1];clear e1;intro hd hdx hm1 hm2 hm3;refine⟨hd,hdx,rfl,ag,λhl G1 b1 hc hcl hci=>⟨rfl,?_⟩⟩;have S1:=mk hm1 hm2 b1;have hl1:=fr hm1 hm2 hc;refine⟨_,rfl,x,D.ab,dx,_,rfl,S1 _ _ x1,T.ae,T.aA,by show 1<1000;decide,?_⟩;obtain⟨H2,e2⟩:∃ H2,upd G1 x (.ins D.ab dx (i8 "in_hands" (.ref hd) [("makes_young",.bl my)]))=H2:=⟨_,rfl⟩;have x2:H2 x=some (.ins D.ab dx [("makes_young",.bl my),("in_hands",.ref hd)]):=by rw[<-e2];exact ag
 have P2:But x G1 H2:=by rw[<-e2];exact But.self
 have B2:But x H H2:=(B1.trans λb u _ q=>S1 b u q).trans P2;show NG _ _ _ _ (upd G1 x (.ins D.ab dx (i8 "in_hands" (.ref hd) [("makes_young",.bl my)])));rw[e2];clear e2;have nhd:hd≠x:=aol (aq x1 hm1);have nhl:hl≠x:=aol (aq x1 hl1);have a2:=P2 _ _ nhd hci;have l2:=P2 _ _ nhl hcl;intro nt ntx nm1 nm2 nm3;refine⟨nt,ntx,rfl,ag,λnl G2 b2 nc ncl nci=>⟨rfl,?_⟩⟩;have S2:=mk nm1 nm2 b2;have nl2:=fr nm1 nm2 nc;refine⟨_,rfl,x,D.ab,dx,_,rfl,S2 _ _ x2,T.ae,T.dD,by show 2<1000;decide,?_⟩;obtain⟨H3,e3⟩:∃ H3,upd G2 x (.ins D.ab dx (i8 "weak_names" (.ref nt) [("makes_young",.bl my),("in_hands",.ref hd)]))=H3:=⟨_,rfl⟩;have x3:H3 x=some (.ins D.ab dx [("makes_young",.bl my),("in_hands",.ref hd),("weak_names",.ref nt)]):=by rw[<-e3];exact ag
 have P3:But x G2 H3:=by rw[<-e3];exact But.self
 have B3:But x H H3:=(B2.trans λb u _ q=>S2 b u q).trans P3;show NG _ _ _ _ (upd G2 x (.ins D.ab dx (i8 "weak_names" (.ref nt) [("makes_young",.bl my),("in_hands",.ref hd)])));rw[e3];clear e3;have nnt:nt≠x:=aol (aq x2 nm1);have nnl:nl≠x:=aol (aq x2 nl2);have a3:=P3 _ _ nhd (S2 _ _ a2);have l3:=P3 _ _ nhl (S2 _ _ l2);have t3:=P3 _ _ nnt nci;have m3:=P3 _ _ nnl ncl;intro wt wtx wm1 wm2 wm3;refine⟨wt,wtx,rfl,ag,λwb wl G3 b3 wc1 wc2 W=>⟨rfl,?_⟩⟩;have S3:=mk wm1 wm2 b3;have wb3:=fr wm1 wm2 wc1;have wl3:=fr wm1 wm2 wc2;refine⟨_,rfl,x,D.ab,dx,_,rfl,S3 _ _ x3,T.ae,T.iS,by show 3<1000;decide,?_⟩;obtain⟨H4,e4⟩:∃ H4,upd G3 x (.ins D.ab dx (i8 "last_words" (.ref wt) [("makes_young",.bl my),("in_hands",.ref hd),("weak_names",.ref nt)]))=H4:=⟨_,rfl⟩;have x4:H4 x=some (.ins D.ab dx [("makes_young",.bl my),("in_hands",.ref hd),("weak_names",.ref nt),("last_words",.ref wt)]):=by rw[<-e4];exact ag
 have P4:But x G3 H4:=by rw[<-e4];exact But.self
 have B4:But x H H4:=(B3.trans λb u _ q=>S3 b u q).trans P4;show NG _ _ _ _ (upd G3 x (.ins D.ab dx (i8 "last_words" (.ref wt) [("makes_young",.bl my),("in_hands",.ref hd),("weak_names",.ref nt)])));rw[e4];clear e4;have nwt:wt≠x:=aol (aq x3 wm1);have nwb:wb≠x:=aol (aq x3 wb3);have nwl:wl≠x:=aol (aq x3 wl3);have W4:Wt D H4 wt wtx wb wl [] []:=⟨P4 _ _ nwt W.i,P4 _ _ nwb W.b,P4 _ _ nwl W.l⟩;have a4:=P4 _ _ nhd (S3 _ _ a3);have l4:=P4 _ _ nhl (S3 _ _ l3);have t4:=P4 _ _ nnt (S3 _ _ t3);have m4:=P4 _ _ nnl (S3 _ _ m3);intro fh hfh;have nfh:fh≠x:=aol (aq x4 hfh);refine⟨_,rfl,x,D.ab,dx,_,rfl,aB.upd hfh _ _ x4,T.ae,T.aC,by show 4<1000;decide,?_⟩;obtain⟨H5,e5⟩:∃ H5,upd (upd H4 fh (.dK [])) x (.ins D.ab dx (i8 "fields_held" (.ref fh) [("makes_young",.bl my),("in_hands",.ref hd),("weak_names",.ref nt),("last_words",.ref wt)]))=H5:=⟨_,rfl⟩;have x5:H5 x=some (.ins D.ab dx [("makes_young",.bl my),("in_hands",.ref hd),("weak_names",.ref nt),("last_words",.ref wt),("fields_held",.ref fh)]):=by rw[<-e5];exact ag
 have P5:But x H4 H5:=by rw[<-e5];exact(But.upd hfh).trans But.self
 have f5:H5 fh=some (.dK []):=by rw[<-e5,af nfh];exact ag
 show NG _ _ _ _ (upd (upd H4 fh (.dK [])) x (.ins D.ab dx (i8 "fields_held" (.ref fh) [("makes_young",.bl my),("in_hands",.ref hd),("weak_names",.ref nt),("last_words",.ref wt)])));rw[e5];clear e5;intro yg hyg;have nyg:yg≠x:=aol (aq x5 hyg);refine⟨_,rfl,x,D.ab,dx,_,rfl,aB.upd hyg _ _ x5,T.ae,T.bA,by show 5<1000;decide,?_⟩;obtain⟨H6,e6⟩:∃ H6,upd (upd H5 yg (.dK [])) x (.ins D.ab dx (i8 "young_things" (.ref yg) [("makes_young",.bl my),("in_hands",.ref hd),("weak_names",.ref nt),("last_words",.ref wt),("fields_held",.ref fh)]))=H6:=⟨_,rfl⟩;have x6:H6 x=some (.ins D.ab dx [("makes_young",.bl my),("in_hands",.ref hd),("weak_names",.ref nt),("last_words",.ref wt),("fields_held",.ref fh),("young_things",.ref yg)]):=by rw[<-e6];exact ag
 have P6:But x H5 H6:=by rw[<-e6];exact(But.upd hyg).trans But.self
 have y6:H6 yg=some (.dK []):=by rw[<-e6,af nyg];exact ag
 skip
 rw[e6];clear e6;have B5:But x H H5:=B4.trans P5;have B6:But x H H6:=B5.trans P6;have P7:∀ {o:HO},But x H6 (upd H6 x o):=But.self;have P47:∀ {o:HO} {b:Addr} {u:HO},b≠x->H4 b=some u->upd H6 x o b=some u:=λn q=>P7 _ _ n (P6 _ _ n (P5 _ _ n q));refine⟨_,rfl,x,D.ab,dx,_,rfl,x6,T.ae,T.iT,by show 6<1000;decide,k hd hdx hl nt ntx nl wt wtx wb wl fh yg _ ⟨ag,P47 nhd a4,P47 nhl l4,P47 nnt t4,P47 nnl m4,⟨P47 nwt W4.i,P47 nwb W4.b,P47 nwl W4.l⟩,P7 _ _ nfh (P6 _ _ nfh f5),P7 _ _ nyg y6,aq a2 nm1,aq l2 nl2,aq l3 wl3,aq m3 wl3,aq W4.b hfh,aq (P5 _ _ nwb W4.b) hyg,aq f5 hyg⟩ (B6.trans But.self) (λb hb=>?_)⟩;rcases hb with rfl|rfl|rfl|rfl|rfl|rfl|rfl|rfl|rfl
 ·exact bk x1 B1 hm1
 ·exact bk x1 B1 hl1
 ·exact bk x2 B2 nm1
 ·exact bk x2 B2 nl2
 ·exact bk x3 B3 wm1
 ·exact bk x3 B3 wb3
 ·exact bk x3 B3 wl3
 ·exact bk x4 B4 hfh
 ·exact bk x5 B5 hyg
noncomputable def ze(D:Ad):Sp:=λvs H Q E=>∃ x dx,∃ y l:Int,vs=[.ref x,.int y,.int l]/\H x=some (.ins D.ab dx [])/\(y=0\/(7<=y/\y<=64))/\7<=l/\l<=400/\∀ A H',IH D H' x A (s0 (decide (y>0)) y l)->But x H H'->(∀ b,bD x A (s0 (decide (y>0)) y l) b->b=x\/H b=none)->Q .non H'
noncomputable abbrev vX:List Str:=["self","young","limit"]
theorem vw:av vX ["self","young","limit"] (ar jF):=fsc
theorem vx(F:Fun K "__init__" "IdealHeap.__init__" jF D.bR D.eT)(T:Txt K mg D)
  (nO:9e7 3 D.cM D.iw ["young","limit"] (rL))
  (kF:9e7 3 D.cI D.je ["self","makes_young"] (Dj D)):9e7 4 D.bR D.eT ["self","young","limit"] (ze D):=by
 refine F.oa vw F.b3 λcdv A' outer s' H vs Q E hr h=>?_;obtain⟨x,dx,y,l,rfl,hx,hy,l0,l1,k⟩:=h;refine⟨_,(ak (aI (nO.c hr T.DG T.nI px (aa (pv 1) (aa (pv 2) aj))))
  (ak (aI (ZO rfl T.X3 T.X4 kF.g (hr.mono 2e1) kF.b px (aa (pv 0) (aa (tI Q3 (pv 1) au (aS _)) aj))))
  (ak (iM (pv 0) (pv 1) rfl)
  (ak (iM (pv 0) (pv 2) rfl)
  (ak (iM (pv 0) kg rfl)
  (ai (iM (pv 0) pe rfl))))))),?_⟩
 refine⟨_,rfl,_,rfl,y,l,rfl,hy,l0,l1,?_⟩;refine⟨_,rfl,_,rfl,y,0,rfl,rfl,x,dx,_,rfl,hx,λhd hdx hl nt ntx nl wt wtx wb wl fh yg H1 R B1 fr=>?_⟩;obtain⟨my,emy⟩:∃ my:Bool,decide (y>0)=my:=⟨_,rfl⟩;rw[emy]at R k;have nx:∀ b,H b=none->b≠x:=λb h e=>by rw[e,hx]at h;cases h
 refine⟨_,rfl,_,rfl,x,D.ab,dx,_,rfl,R.ax,T.ae,T.lC,by show 7<1000;decide,?_⟩;refine⟨_,rfl,_,rfl,x,D.ab,dx,_,rfl,ag,T.ae,T.rF,by show 8<1000;decide,?_⟩;intro dm hdm;have ndm:dm≠x:=λe=>by rw[e,ag]at hdm;cases hdm
 have V6:H1 dm=none:=by rw[af ndm,af ndm]at hdm;exact hdm
 refine⟨_,rfl,x,D.ab,dx,_,rfl,(by rw[af (aol ndm)];exact ag),T.ae,T.bp,by show 9<1000;decide,?_⟩;refine⟨_,rfl,x,D.ab,dx,_,rfl,ag,T.ae,T.da,by show 10<1000;decide,?_⟩;have anA:H dm=none:=by
  cases q:H dm with
  | none=>rfl
  | some u=>rw[B1 _ _ ndm q]at V6;cases V6
 have P:∀ {o1 o2 o3 o4:HO},But x H1 (upd (upd (upd (upd (upd H1 x o1) x o2) dm (.dK [])) x o3) x o4):=λ{o1 o2 o3 o4}=>(((But.self.trans But.self).trans (But.upd (by rw[af ndm,af ndm];exact V6))).trans But.self).trans But.self;have d2:∀ {o1 o2 o3 o4:HO},upd (upd (upd (upd (upd H1 x o1) x o2) dm (.dK [])) x o3) x o4 dm=some (.dK []):=λ{o1 o2 o3 o4}=>by rw[af ndm,af ndm];exact ag
 have f:=λ(b:Addr) (h:b=hd\/b=hl\/b=nt\/b=nl\/b=wt\/b=wb\/b=wl\/b=fh\/b=yg)=>nx b (fr b h);have n1:=f hd (.inl rfl);have n2:=f hl (.inr (.inl rfl));have n3:=f nt (.inr (.inr (.inl rfl)));have n4:=f nl (.inr (.inr (.inr (.inl rfl))));have n5:=f wt (.inr (.inr (.inr (.inr (.inl rfl)))));have n6:=f wb (.inr (.inr (.inr (.inr (.inr (.inl rfl))))));have n7:=f wl (.inr (.inr (.inr (.inr (.inr (.inr (.inl rfl)))))));have n8:=f fh (.inr (.inr (.inr (.inr (.inr (.inr (.inr (.inl rfl))))))));have n9:=f yg (.inr (.inr (.inr (.inr (.inr (.inr (.inr (.inr rfl))))))));refine k ⟨dx,hd,hdx,hl,List.replicate 8 .non,nt,ntx,nl,wt,wtx,wb,wl,fh,λ_=>0,λ_=>[],yg,dm⟩ _ ⟨ag,P _ _ n1 R.ahd,P _ _ n2 R.ahl,Rel.nil,P _ _ n3 R.ant,P _ _ n4 R.anl,P _ _ n5 R.awt.i,P _ _ n6 R.awt.b,P _ _ n7 R.awt.l,P _ _ n8 R.afh,(λ_ _ m=>by cases m),P _ _ n9 R.ayg,d2,R.n1,R.n2,R.n3,R.n4,(λ_ _ m=>by cases m),(λ_ _ _ _ m=>by cases m),R.n5,R.n6,aq R.awt.b V6,R.n7,aq R.afh V6,aq R.ayg V6⟩ (B1.trans P) (λb hb=>?_);cases hb with
 | x=>exact .inl rfl
 | hd=>exact .inr (fr hd (.inl rfl))
 | hl=>exact .inr (fr hl (.inr (.inl rfl)))
 | nt=>exact .inr (fr nt (.inr (.inr (.inl rfl))))
 | nl=>exact .inr (fr nl (.inr (.inr (.inr (.inl rfl)))))
 | wt=>exact .inr (fr wt (.inr (.inr (.inr (.inr (.inl rfl))))))
 | wb=>exact .inr (fr wb (.inr (.inr (.inr (.inr (.inr (.inl rfl)))))))
 | wl=>exact .inr (fr wl (.inr (.inr (.inr (.inr (.inr (.inr (.inl rfl))))))))
 | fh=>exact .inr (fr fh (.inr (.inr (.inr (.inr (.inr (.inr (.inr (.inl rfl)))))))))
 | yg=>exact .inr (fr yg (.inr (.inr (.inr (.inr (.inr (.inr (.inr (.inr rfl)))))))))
 | dm=>exact .inr anA
 | fl m=>cases m
theorem V7{fs:List (Key×V)}{t:Int}{v:V}(h:ie fs (Sum.inl t)=none):putK fs (Sum.inl t) v=fs++[(Sum.inl t,v)]:=xU v h
theorem ajq{ts:List Int}{t:Int}:(ie (ts.map tkv) (Sum.inl t)).isSome=decide (t∈ts):=by
 induction ts with
 | nil=>rfl
 | cons a r ih =>
  rw[aov];by_cases e:a=t
  ·subst e
   rw[fK (p:=tkv a) (k:=Sum.inl a) rfl];simp
  ·rw[fe (p:=tkv a) (λz=>e (Sum.inl.inj z)),ih]
   have:(t∈a::r)↔t∈r:=by
    rw[aop];exact⟨λh=>h.elim (λz=>absurd z.symm e) id,.inr⟩
   simp only[this]
theorem Good.Xe{s:HS}(g:Good s):∀ w,(s.nxt,w)∉s.aT:=λw m=>by have:=(g.lt _ _ m).2;omega
noncomputable def V8(D:Ad):Sp:=λvs H Q E=>∃ x A s,∃ h n:Int,vs=[.ref x,.int h,.int n]/\IH D H x A s/\Good s/\ok8 h/\0<=n/\n<=6/\∀ A' H',IH D H' x A' (RJ s h n)->Fr (bD x A s) H (bD x A' (RJ s h n)) H'->Q .non H'
theorem Sw:∀(n:Nat) (l:List Int) (a:Int),l.Pairwise (·< ·)->(∀ t∈l,a<=t/\t<a+n)->l.length<=n
 | _,[],_,_,_=>aoL _
 | 0,b::r,a,_,h=>by have:=h b aow;omega
 | n+1,b::r,a,p,h=>by
  have hb:=h b aow
  have:=Sw n r (a+1) (List.pairwise_cons.mp p).2 λt m=>by
   have h1:=(List.pairwise_cons.mp p).1 t m;have h2:=h t (aox _ m);omega
  rw[aoF];omega
theorem JW{s:HS}(g:Good s):s.yng.length<=10000:=by
 refine Sw 10000 s.yng 0 g.Ha λt m=>?_;obtain⟨ws,m⟩:=g.yk t m
 have:=g.lt _ _ m
 have:=g.nx
 omega
theorem Ta{s:HS}(g:Good s):s.dU.length<=10000:=by
 refine Sw 10000 s.dU 0 g.IV λt m=>?_;obtain⟨ws,m⟩:=g.dk t m
 have:=g.lt _ _ m
 have:=g.nx
 omega
noncomputable abbrev DU:List Str:=["self","h","n","t"]
theorem rO:av DU ["self","h","n"] (ar nz):=fsc
theorem Bz(F:Fun K "add_thing" "Heap.add_thing" nz D.cf D.iD)(T:Txt K mg D)
  (cL:9e7 3 D.cJ D.gc ["t"] (jR))
  (eD:9e7 4 D.fu D.iZ ["self","h","word"] (y9 D)):9e7 5 D.cf D.iD ["self","h","n"] (V8 D):=by
 refine F.oa rO F.b3 λcdv A' outer s' H vs Q E hr h=>?_;obtain⟨x,A,s,h,n,rfl,J,G,c,n0,n6,k⟩:=h;have hu:=i9 hr;refine⟨_,(ak (aN (i:=3) rO.nd rfl 1e4 1e5)
  (ak (iM (pv 0) (aF bO (pv 3) au) rfl)
  (ak (pG hu 1e5 (pv 3) (aF JF (pQ (aa c8 aj)) (pv 2)) rfl)
  (ak (bI (uj 1e5)
   (ai (pG hu 1e5 (pv 3) pe rfl))
   aO)
  (ai (aI (eD.m hr 1e5 T.aV T.qa px (aa (pv 1) (aa (cL.c hr T.oj T.js px (aa (pv 3) aj)) aj))))))))),?_⟩
 refine⟨_,rfl,x,D.ab,_,_,.int s.nxt,rfl,J.ax,T.ae,T.iT,acv,?_⟩;refine⟨_,rfl,s.nxt,1,rfl,rfl,_,rfl,x,D.ab,A.dx,_,rfl,J.ax,T.ae,T.iT,by show 11<1000;decide,?_⟩;have w1:=J.anx (n:=s.nxt+1);obtain⟨H1,e1⟩:∃ H1,upd H x (.ins D.ab A.dx (i8 "next_thing" (.int (s.nxt+1)) (atts A s)))=H1:=⟨_,rfl⟩;rw[e1]at w1;show NG _ _ _ _ (upd H x (.ins D.ab A.dx (i8 "next_thing" (.int (s.nxt+1)) (atts A s))));rw[e1];clear e1;obtain⟨J1,F1⟩:=w1;refine⟨by show 1<=sizeLine;decide,λp hp=>⟨_,rfl,p,n,_,rfl,rfl,ag,by omega,by omega,Dr (by show 1*n.toNat<=20000;omega),λq hq=>?_⟩⟩;rw[X6];have s2:aB H1 (upd H1 p (.lst [.non])):=aB.upd hp;have J2:=J1.same s2;have w2:=J2.acC (t:=s.nxt) (xs:=List.replicate n.toNat .non) (ws:=List.replicate n.toNat .no) hq G.Xe Rel.nil;obtain⟨J3,F3⟩:=w2;have J2':=J2.same (aB.upd (o:=.lst (List.replicate n.toNat .non)) hq);have vn:ie (s.aT.map (fkv A)) (Sum.inl s.nxt)=none:=by
  rw[V5];cases e:s.aT.lookup s.nxt with
  | none=>rfl
  | some w=>exact absurd (lookup_some e) (G.Xe w)
 have dp:=G9.k (k:=Sum.inl s.nxt) (v:=.ref q) J2'.afh (by rw[an6];exact ur (aou G.few 2e1));rw[show putK ((({s with nxt:=s.nxt+1}:HS).aT).map (fkv A)) (Sum.inl s.nxt) (.ref q)=s.aT.map (fkv A)++[(Sum.inl s.nxt,.ref q)] from V7 vn]at dp;refine⟨_,rfl,x,D.ab,_,_,.ref A.fh,rfl,J2'.ax,T.ae,T.aC,tT,_,rfl,A.fh,_,rfl,dp,?_⟩;have F03:=(F1.trans (Fr.same s2)).trans F3;obtain⟨A3,eA⟩:∃ A3:HA,{A with fa:=λu=>if u=s.nxt then q else A.fa u,fx:=λu=>if u=s.nxt then List.replicate n.toNat V.non else A.fx u}=A3:=⟨_,rfl⟩;obtain⟨H3,e3⟩:∃ H3,upd (upd (upd H1 p (.lst [.non])) q (.lst (List.replicate n.toNat .non))) A.fh (.dK (s.aT.map (fkv A)++[(Sum.inl s.nxt,.ref q)]))=H3:=⟨_,rfl⟩;have J3:IH D H3 x A3 {s with nxt:=s.nxt+1,aT:=s.aT++[(s.nxt,List.replicate n.toNat .no)]}:=by rw[<-e3,<-eA];exact J3
 have F03:Fr (bD x A s) H (bD x A3 {s with nxt:=s.nxt+1,aT:=s.aT++[(s.nxt,List.replicate n.toNat .no)]}) H3:=by rw[<-e3,<-eA];exact F03
 show NG _ _ _ _ (upd (upd (upd H1 p (.lst [.non])) q (.lst (List.replicate n.toNat .non))) A.fh (.dK (s.aT.map (fkv A)++[(Sum.inl s.nxt,.ref q)])));rw[e3];clear e3 eA dp J2';have fin:∀(A4:HA) (H4:Hp) (ys:List Int),IH D H4 x A4 {s with nxt:=s.nxt+1,aT:=s.aT++[(s.nxt,List.replicate n.toNat .no)],yng:=ys}->Fr (bD x A s) H (bD x A4 {s with nxt:=s.nxt+1,aT:=s.aT++[(s.nxt,List.replicate n.toNat .no)],yng:=ys}) H4->(if s.my=true then s.yng++[s.nxt] else s.yng)=ys->∀(t:Addr) (H5:Hp),aB H4 H5->H5 t=some (.tup [.str "thing",.int s.nxt])->y9 D [.ref A4.hd,.int h,.ref t] H5 (λ_ H'=>Q .non H') E:=by
  intro A4 H4 ys J4 F4 ey t H5 s5 ht;have J5:=J4.same s5;refine⟨A4.hd,A4.hdx,A4.hl,A4.hx,s.aW,.ref t,h,rfl,⟨J5.ahd,J5.ahl,J5.rhl,G.h8⟩,Sm.of 1e1 1e1,?_⟩;rw[if_pos c];have w:=J5.UX (J5.rhl.set (i:=h.toNat) (show WV H5 (.ref t) (.th s.nxt) from⟨t,rfl,ht⟩));have e:RJ s h n={s with nxt:=s.nxt+1,aT:=s.aT++[(s.nxt,List.replicate n.toNat .no)],yng:=ys,aW:=s.aW.set h.toNat (.th s.nxt)}:=by unfold RJ;rw[ey]
  rw[e]at k;exact k _ _ w.1 ((F4.trans (Fr.same s5)).trans w.2)
 refine⟨_,rfl,x,D.ab,_,_,_,rfl,J3.ax,T.ae,T.ic,Y7,_,rfl,?_⟩;by_cases my:s.my=true
 ·refine iY my ⟨_,rfl,x,D.ab,_,_,_,rfl,J3.ax,T.ae,T.bA,RF,_,rfl,A3.yg,_,rfl,G9.k (k:=Sum.inl s.nxt) J3.ayg (by rw[an6];exact ur (aou (show s.yng.length<=10000 from JW G) 2e1)),?_⟩
  have vy:ie (s.yng.map tkv) (Sum.inl s.nxt)=none:=by
   have:=ajq (ts:=s.yng) (t:=s.nxt)
   rw[decide_eq_false (λm=>by obtain⟨ws,m⟩:=G.yk _ m;exact G.Xe ws m)]at this;cases q:ie (s.yng.map tkv) (Sum.inl s.nxt) with
   | none=>rfl
   | some v=>rw[q]at this;cases this
  have w4:=J3.anw (ts:=s.yng++[s.nxt]);rw[aon]at w4;rw[show putK ((({s with nxt:=s.nxt+1,aT:=s.aT++[(s.nxt,List.replicate n.toNat .no)]}:HS).yng).map tkv) (Sum.inl s.nxt) (.bl true)=s.yng.map tkv++[s.nxt].map tkv from V7 vy];obtain⟨J4,F4⟩:=w4;refine⟨_,rfl,x,D.ab,_,_,_,rfl,J4.ax,T.ae,T.aA,pA,A3.hd,A3.hdx,_,rfl,J4.ahd,rfl,_,rfl,_,rfl,s.nxt,rfl,G.n0,λt H5 s5 ht=>?_⟩;exact fin _ _ _ J4 (F03.trans F4) (by rw[if_pos my]) t H5 s5 ht
 ·refine f9 (aoK.mpr my) ?_
  refine⟨_,rfl,x,D.ab,_,_,_,rfl,J3.ax,T.ae,T.aA,pA,A3.hd,A3.hdx,_,rfl,J3.ahd,rfl,_,rfl,_,rfl,s.nxt,rfl,G.n0,λt H5 s5 ht=>?_⟩;exact fin _ _ _ J3 F03 (by rw[if_neg my]) t H5 s5 ht
noncomputable def Qx(D:Ad):Sp:=λvs H Q E=>∃ x A s,∃ h w:Int,vs=[.ref x,.int h,.int w]/\IH D H x A s/\Good s/\Sm h/\Sm w/\(if ok8 h then(if ok8 w then ∀ A' H',IH D H' x A' (oZ s h (nmW (s.names.getD w.toNat none)))->Fr (bD x A s) H (bD x A' (oZ s h (nmW (s.names.getD w.toNat none)))) H'->Q (nmV (s.names.getD w.toNat none)) H' else Bad D.fQ H E) else Bad D.br H E)
noncomputable abbrev BA:List Str:=["self","h","w","t"]
theorem qm:av BA ["self","h","w"] (ar lK):=fsc
theorem zK(F:Fun K "read_thing" "Heap.read_thing" lK D.bM D.gM)(T:Txt K mg D)
  (aM:9e7 3 D.bj D.cG ["h"] (dY D))
  (lU:9e7 4 D.cS D.gL ["self","w"] (Qv D))
  (eD:9e7 4 D.fu D.iZ ["self","h","word"] (y9 D))
  (cL:9e7 3 D.cJ D.gc ["t"] (jR)):9e7 5 D.bM D.gM ["self","h","w"] (Qx D):=by
 refine F.oa qm F.b3 λcdv A' outer s' H vs Q E hr h=>?_;obtain⟨x,A,s,h,w,rfl,J,G,hh,hw,k⟩:=h;refine⟨_,(ak (aI (aM.c hr T.gB T.dS px 1e9))
  (ak (aN (i:=3) qm.nd rfl 1e4 (lU.m hr 1e5 T.dM T.zu px (aa (pv 2) aj)))
  (ak (aI (eD.m hr 1e5 T.aV T.qa px (aa (pv 1) (aa (rC (aJ pP (pv 3) c8 (aS _)) c8 (cL.c hr T.oj T.js px (aa (pv 3) aj))) aj))))
  (ai (aG (pv 3)))))),?_⟩
 refine⟨_,rfl,h,rfl,hh,?_⟩;by_cases c:ok8 h
 ·rw[if_pos c]at k ⊢
  refine⟨_,rfl,x,D.ab,_,_,.ref A.nt,rfl,J.ax,T.ae,T.dD,UM,A.nt,A.ntx,_,rfl,J.ant,rfl,_,rfl,A.nt,A.ntx,A.nl,_,w,rfl,J.ntb G,hw,?_⟩;by_cases c2:ok8 w
  ·rw[if_pos c2]at k ⊢
   intro v hv;have hi:w.toNat<s.names.length:=(by rw[G.n8];omega);rw[aog,an4 hi]at hv;obtain rfl:nmV s.names[w.toNat]=v:=aos hv;have gd:s.names.getD w.toNat none=s.names[w.toNat]:=(by simp[List.getD,hi]);rw[gd]at k;have mm:s.names[w.toNat]∈s.names:=aoV hi;obtain⟨z,ez⟩:∃ z,s.names[w.toNat]=z:=⟨_,rfl⟩;rw[ez]at k mm ⊢;refine⟨_,rfl,x,D.ab,_,_,.ref A.hd,rfl,J.ax,T.ae,T.aA,pA,A.hd,A.hdx,_,rfl,J.ahd,rfl,_,rfl,?_⟩;cases z with
   | none =>
    refine⟨_,rfl,rfl,_,rfl,dH (λ_=>?_) (λh=>absurd (by simp[nmV]) h)⟩;refine⟨A.hd,A.hdx,A.hl,A.hx,s.aW,.non,h,rfl,J.hn G,hh,?_⟩;rw[if_pos c];exact⟨_,rfl,let w:=J.UX (J.rhl.set (i:=h.toNat) (show WV H .non .no from rfl));k _ _ w.1 w.2⟩
   | some t =>
    obtain⟨ws,m⟩:=G.nn t mm;refine⟨_,rfl,rfl,_,rfl,dH (λh=>by simp[nmV]at h) (λ_=>?_)⟩;refine⟨_,rfl,t,rfl,(G.lt _ _ m).1,λp H1 s1 hp=>?_⟩;have J1:=J.same s1;refine⟨A.hd,A.hdx,A.hl,A.hx,s.aW,.ref p,h,rfl,J1.hn G,hh,?_⟩;rw[if_pos c];exact⟨_,rfl,let w:=J1.UX (J1.rhl.set (i:=h.toNat) (show WV H1 (.ref p) (.th t) from⟨p,rfl,hp⟩));k _ _ w.1 ((Fr.same s1).trans w.2)⟩
  ·rw[if_neg c2]at k ⊢
   exact k
 ·rw[if_neg c]at k ⊢
  exact k
noncomputable def Jq(D:Ad):Sp:=λvs H Q E=>∃ x A s d kvs ts,vs=[.ref x,.ref d]/\IH D H x A s/\Good s/\H d=some (.dK kvs)/\kvs.map (·.1)=ts.map Sum.inl/\(∀ t∈ts,∃ ws,(t,ws)∈s.aT)/\ts.length<=10000/\∀ H',aB H H'->Q (.int (wsum s ts)) H'
noncomputable abbrev qo:List Str:=["self","things"]
theorem xZ:av qo ["self","things"] (ar iX):=fsc
theorem x8(F:Fun K "words_among" "Heap.words_among" iX D.bc D.eG)(T:Txt K mg D)
  (jh:9e7 3 D.gC D.kT ["fields"] (sr D)):9e7 4 D.bc D.eG ["self","things"] (Jq D):=by
 refine F.oa xZ F.b2 λcdv A' outer s' H vs Q E hr h=>?_;obtain⟨x,A,s,d,kvs,ts,rfl,J,G,hd,hk,ht,hz,k⟩:=h;have hu:=i9 hr;refine⟨_,(ai (aG (V0 (cz (Ud rfl) rfl T.Xb PyProof.Rows.Boot.«sum» (aa (tK (cl:=[("self",s'.heap.objs.size+1)]) (x := "t") (idx:=[0]) (NC:=["t","self"]) ?co1 rfl (yV (GZ (pv 1))) (λC fp s₀ H₀=>(jh.c hr T.AX T.rg II (aa (cz (Uh rfl) rfl T.kU PyProof.Rows.Boot.«len» (aa (ip hu (X0 rfl (pv 1) rfl) (pv 0) 1e7) aj)) aj)))) aj))))),?_⟩
 case co1 =>
  exact lA (sc:=ar iX) (N:=qo) (ns:=["self"]) rfl rfl rfl (by decide +kernel) rfl rfl (by
   intro q hq;rw[an7.mp hq];rfl)
 have lk:kvs.length=ts.length:=by have:=congrArg List.length hk;simpa using this
 refine⟨_,rfl,d,kvs,hd,λo=>?_⟩;refine⟨d,o,kvs,rfl,ag,λL hL=>?_⟩;obtain⟨Hf,ef⟩:∃ Hf,upd H d (.frz o (.dK kvs))=Hf:=⟨_,rfl⟩;rw[ef]at hL ⊢;have fd:Hf d=some (.frz o (.dK kvs)):=by rw[<-ef];exact ag
 have fo:∀ b u,b≠d->H b=some u->Hf b=some u:=λb u n q=>by rw[<-ef,af n];exact q
 have xd:x≠d:=az J.ax hd 1e0;have dg:∀ {Hc:Hp},aB Hf Hc->∀ {t:Int} {ws:List Wd},(t,ws)∈s.aT->tX Hc A.fh (.int t) (some (.ref (A.fa t))):=λ{Hc} sc {t ws} m=>by
  have e:ie (s.aT.map (fkv A)) (Sum.inl t)=some (.ref (A.fa t)):=by rw[V5,G.get m];rfl
  by_cases c:A.fh=d
  ·have ek:kvs=s.aT.map (fkv A):=by
    have:=J.afh
    rw[c,hd]at this;injection this with this;injection this
   exact .inl ⟨kvs,Sum.inl t,.inr ⟨o,by rw[c];exact sc _ _ fd⟩,rfl,by rw[ek,e]⟩
  ·exact .inl ⟨_,Sum.inl t,.inl (sc _ _ (fo _ _ c J.afh)),rfl,e.symm⟩
 refine Ue (d:=d) (o:=o) (kvs:=kvs) (λi ys Hc=>ys=((ts.take i).map λt=>V.int (((fld s t).length:Int)+1))/\aB Hf Hc/\Hc L=some (.lst ys)) ⟨rfl,aB.upd hL,ag⟩ (λi ys Hc hi ⟨e,_,z⟩=>⟨z,by rw[e,an6,aoj];omega⟩) (λi ys Hc _ ⟨_,sc,_⟩=>sc _ _ fd) (Dr 1e1) (λi p ys Hc hi ⟨e,sc,z⟩=>?_) (λys Hc ⟨e,sc,z⟩=>?_)
 ·have hik:i<kvs.length:=(an5.mp hi).1
  have hit:i<ts.length:=by omega
  have ep:p.1=Sum.inl ts[i]:=by
   have h1:=congrArg (λl=>l[i]?) hk;simp only[aog,hi,an4 hit,ao2,Option.some.injEq]at h1;exact h1
  have hkv:kV p.1=.int ts[i]:=by rw[ep];rfl
  obtain⟨t,et⟩:∃ t,ts[i]=t:=⟨_,rfl⟩;obtain⟨ws,m⟩:=ht t (by rw[<-et];exact aoV hit);have fm:=G.fld m;obtain⟨hl,rl⟩:=J.afl _ _ m;have f6:=G.f6 _ _ m;have ln:=rl.1;have nld:A.fa t≠d:=az hl hd 1e0;have hlc:=sc _ _ (fo _ _ nld hl);refine⟨_,rfl,x,D.ab,_,_,.ref A.fh,rfl,sc _ _ (fo _ _ xd J.ax),T.ae,T.aC,tT,_,rfl,A.fh,.ref (A.fa t),rfl,(by rw[hkv,et];exact dg sc m),A.fa t,_,rfl,.inl (SqL.of hlc),((A.fx t).length:Int),rfl,Sm.of 1e1 1e1,?_⟩;rw[if_pos ⟨by omega,by omega⟩];refine⟨z,?_,λb u q=>by rw[af (aq q hL)];exact sc b u q,ag⟩;rw[e,aoz hit,aon,et];simp only[aov,apG];rw[fm,ln]
 ·rw[lk,aoh (aoa _)]at e
  refine⟨L,ts.map λt=>((fld s t).length:Int)+1,rfl,SqL.of (by rw[z,e,aoM];rfl),d,o,kvs,sc _ _ fd,(λo' u' z=>by have z:H d=some (.frz o' u'):=z;rw[hd]at z;cases z),?_⟩;refine k _ λb u q=>?_;by_cases c:b=d
  ·subst c
   rw[hd]at q;cases q;exact ag
  ·rw[af c]
   exact sc _ _ (fo _ _ c q)
noncomputable def Tb(D:Ad):Sp:=λvs H Q E=>∃ x A s,vs=[.ref x]/\IH D H x A s/\Good s/\∀ H',aB H H'->Q (.int (held s)) H'
noncomputable abbrev DV:List Str:=["self"]
theorem BB:av DV ["self"] (ar nE):=fsc
theorem BC(F:Fun K "held" "IdealHeap.held" nE D.dw D.iI)(T:Txt K mg D)
  (eI:9e7 4 D.bc D.eG ["self","things"] (Jq D)):9e7 5 D.dw D.iI ["self"] (Tb D):=by
 refine F.oa BB F.b1 λcdv A' outer s' H vs Q E hr h=>?_;obtain⟨x,A,s,rfl,J,G,k⟩:=h;refine⟨_,(ai (aG (eI.m hr (pv 0) T.ae T.ko px (aa 1e5 aj)))),?_⟩;exact⟨_,rfl,x,_,_,rfl,J.ax,1e3,_,rfl,x,D.ab,_,_,.ref A.fh,rfl,J.ax,T.ae,T.aC,tT,x,A,s,A.fh,_,keys s,rfl,J,G,J.afh,by rw[aoM];unfold keys;rw[aoM];rfl,(λt m=>by obtain⟨p,hp,rfl⟩:=aoy.mp m;exact⟨p.2,hp⟩),by unfold keys;rw[an6];exact G.few,k⟩
noncomputable def Qy(D:Ad):Sp:=λvs H Q E=>∃ x A s,∃ h:Int,vs=[.ref x,.int h]/\IH D H x A s/\Good s/\Sm h/\(match wat s.aW h with|some wd=>∀ H',aB H H'->Q (.str wd.kind) H'|none=>Bad D.br H E)
noncomputable abbrev DW:List Str:=["self","h"]
theorem BD:av DW ["self","h"] (ar nC):=fsc
theorem BE(F:Fun K "kind" "IdealHeap.kind" nC D.du D.iG)(T:Txt K mg D)
  (f7:9e7 5 D.fg D.i4 ["self","h"] (Dw D)):9e7 6 D.du D.iG ["self","h"] (Qy D):=by
 refine F.oa BD F.b2 λcdv A' outer s' H vs Q E hr h=>?_;obtain⟨x,A,s,h,rfl,J,G,hh,k⟩:=h;have hu:=i9 hr;refine⟨_,(ai (aG (f7.m hr 1e5 T.aV T.sR px 1e9))),?_⟩;exact⟨_,rfl,x,D.ab,_,_,.ref A.hd,rfl,J.ax,T.ae,T.aA,pA,A.hd,A.hdx,_,rfl,J.ahd,rfl,_,rfl,A.hd,A.hdx,A.hl,A.hx,s.aW,h,rfl,J.hn G,hh,k⟩
noncomputable def LC(D:Ad):Sp:=λvs H Q E=>∃ x A s,∃ h:Int,vs=[.ref x,.int h]/\IH D H x A s/\Good s/\Sm h/\(match wat s.aW h with|some (.num x)=>∀ H',aB H H'->Q (.int x) H'|_=>Bad D.br H E)
noncomputable abbrev BF:List Str:=["self","h"]
theorem zM:av BF ["self","h"] (ar lL):=fsc
theorem zN(F:Fun K "value" "IdealHeap.value" lL D.cT D.gN)(T:Txt K mg D)
  (sX:9e7 6 D.gi D.kr ["self","h"] (Qs D)):9e7 7 D.cT D.gN ["self","h"] (LC D):=by
 refine F.oa zM F.b2 λcdv A' outer s' H vs Q E hr h=>?_;obtain⟨x,A,s,h,rfl,J,G,hh,k⟩:=h;have hu:=i9 hr;refine⟨_,(ai (aG (sX.m hr 1e5 T.aV T.Hi px 1e9))),?_⟩;exact⟨_,rfl,x,D.ab,_,_,.ref A.hd,rfl,J.ax,T.ae,T.aA,pA,A.hd,A.hdx,_,rfl,J.ahd,rfl,_,rfl,A.hd,A.hdx,A.hl,A.hx,s.aW,h,rfl,J.hn G,hh,k⟩
noncomputable def Qz(D:Ad):Sp:=λvs H Q E=>∃ x A s,∃ h g:Int,vs=[.ref x,.int h,.int g]/\IH D H x A s/\Good s/\Sm h/\Sm g/\(match wat s.aW h,wat s.aW g with|some a,some b=>Q (.bl (decide (a=b))) H|_,_=>Bad D.br H E)
noncomputable abbrev DX:List Str:=["self","h","g"]
theorem BG:av DX ["self","h","g"] (ar nD):=fsc
theorem BH(F:Fun K "same" "IdealHeap.same" nD D.dv D.iH)(T:Txt K mg D)
  (uS:9e7 5 D.gW D.mE ["self","h","g"] (Qt D)):9e7 6 D.dv D.iH ["self","h","g"] (Qz D):=by
 refine F.oa BG F.b3 λcdv A' outer s' H vs Q E hr h=>?_;obtain⟨x,A,s,h,g,rfl,J,G,hh,hg,k⟩:=h;have hu:=i9 hr;refine⟨_,(ai (aG (uS.m hr 1e5 T.aV T.JI px (aa (pv 1) (aa (pv 2) aj))))),?_⟩;exact⟨_,rfl,x,D.ab,_,_,.ref A.hd,rfl,J.ax,T.ae,T.aA,pA,A.hd,A.hdx,_,rfl,J.ahd,rfl,_,rfl,_,rfl,A.hd,A.hdx,A.hl,A.hx,s.aW,h,g,rfl,J.hn G,hh,hg,k⟩
noncomputable def IW(D:Ad):Sp:=λvs H Q E=>∃ x A s,∃ h:Int,vs=[.ref x,.int h]/\IH D H x A s/\Good s/\Sm h/\(match wat s.aW h with|some (.th t)=>∀ H',aB H H'->Q (.int (fld s t).length) H'|_=>Bad D.br H E)
noncomputable abbrev zO:List Str:=["self","h"]
theorem x9:av zO ["self","h"] (ar kH):=fsc
theorem ya(F:Fun K "fields" "IdealHeap.fields" kH D.cD D.gz)(T:Txt K mg D)
  (aR:9e7 6 D.ba D.cn ["self","h"] (kc D)):9e7 7 D.cD D.gz ["self","h"] (IW D):=by
 refine F.oa x9 F.b2 λcdv A' outer s' H vs Q E hr h=>?_;obtain⟨x,A,s,h,rfl,J,G,hh,k⟩:=h;have hu:=i9 hr;refine⟨_,(ai (aG (cz a9 rfl T.kU PyProof.Rows.Boot.«len» (aa (ip hu 1e5 (aR.m hr 1e5 T.aV T.gA px 1e9) 1e7) aj)))),?_⟩;refine⟨_,rfl,x,D.ab,_,_,.ref A.fh,rfl,J.ax,T.ae,T.aC,tT,_,rfl,x,D.ab,_,_,.ref A.hd,rfl,J.ax,T.ae,T.aA,pA,A.hd,A.hdx,_,rfl,J.ahd,rfl,_,rfl,A.hd,A.hdx,A.hl,A.hx,s.aW,h,rfl,J.hn G,hh,?_⟩;cases e:wat s.aW h with
 | none=>rw[e]at k;exact k
 | some wd =>
  rw[e]at k;cases wd with
  | no=>exact k
  | num n=>exact k
  | th t =>
   intro H1 s1;have J1:=J.same s1;have m:=G.hand e;obtain⟨hl,rl⟩:=J1.afl _ _ m;refine⟨A.fh,_,rfl,J1.Y9 G m,A.fa t,_,rfl,.inl (SqL.of hl),?_⟩;rw[rl.1];exact k H1 s1
theorem Fh{F F':Addr->Prop}{H:Hp}{p b:Addr}{u o o':HO}(hp:H p=none)(f:F b)(hb:H b=some u)(n:∀ xs,u≠.tup xs)(g:∀ c,F' c->F c\/c=p):Fr F H F' (upd (upd H p o) b o') where
 ext:=λc v nf q=>by rw[af λe=>nf (by rw[e];exact f),af (aq q hp)];exact q
 grow:=λc f'=>(g c f').imp id λe=>by rw[e];exact hp
 all:=λc v q=>by
  by_cases e:c=b
  ·exact⟨o',by rw[e];exact ag⟩
  ·exact⟨v,by rw[af e,af (aq q hp)];exact q⟩
 tup:=(b7.of (aB.upd hp)).trans (b7.set (aB.upd hp _ _ hb) n)
section
variable{D:Ad}{H H':Hp}{x:Addr}{A A':HA}{s s':HS}
theorem IH.anB(J:IH D H x A s){p:Addr}(hp:H p=none):IH D (upd (upd H p (.dK [])) x (.ins D.ab A.dx (i8 "young_things" (.ref p) (atts A s)))) x {A with yg:=p} {s with yng:=[]}/\Fr (bD x A s) H (bD x {A with yg:=p} {s with yng:=[]}) (upd (upd H p (.dK [])) x (.ins D.ab A.dx (i8 "young_things" (.ref p) (atts A s)))):=by
 have s1:aB H (upd H p (.dK [])):=aB.upd hp;have nf:¬bD x A s p:=J.fresh hp;have pp:upd H p (.dK []) p=some (.dK []):=ag;refine⟨?_,Fh hp (.x) J.ax 2e0 (λc f=>?_)⟩
 ·have J:=J.same s1
  have tk:b7 (upd H p (.dK [])) (upd (upd H p (.dK [])) x (.ins D.ab A.dx (i8 "young_things" (.ref p) (atts A s)))):=b7.set J.ax 2e0;exact⟨(by rw[ag,acA];rfl),(by rw[af (az J.ahd J.ax (k6 (show(1:Nat)≠11 by decide)))];exact J.ahd),(by rw[af (az J.ahl J.ax 1e0)];exact J.ahl),J.rhl.keep tk,(by rw[af (az J.ant J.ax (k6 (show(1:Nat)≠11 by decide)))];exact J.ant),(by rw[af (az J.anl J.ax 1e0)];exact J.anl),(by rw[af (az J.awt J.ax (k6 (show(2:Nat)≠11 by decide)))];exact J.awt),(by rw[af (az J.awb J.ax 1e0)];exact J.awb),(by rw[af (az J.awl J.ax 1e0)];exact J.awl),(by rw[af (az J.afh J.ax 1e0)];exact J.afh),(λt ws m=>⟨by rw[af (az (J.afl _ _ m).1 J.ax 1e0)];exact(J.afl _ _ m).1,(J.afl _ _ m).2.keep tk⟩),(by show upd _ _ _ p=_;rw[af λe=>nf (by rw[e];exact .x)];exact pp),(by rw[af (az J.adm J.ax 1e0)];exact J.adm),J.nhn,J.l1,J.l2,J.l3,J.l4,J.l5,J.d1,(λ(e:A.wb=p)=>nf (by rw[<-e];exact .wb)),J.d3,(λ(e:A.fh=p)=>nf (by rw[<-e];exact .fh)),J.d5,(λ(e:p=A.dm)=>nf (by rw[e];exact .dm))⟩
 ·cases f with
  | x=>exact .inl .x
  | hd=>exact .inl .hd
  | hl=>exact .inl .hl
  | nt=>exact .inl .nt
  | nl=>exact .inl .nl
  | wt=>exact .inl .wt
  | wb=>exact .inl .wb
  | wl=>exact .inl .wl
  | fh=>exact .inl .fh
  | yg=>exact .inr rfl
  | dm=>exact .inl .dm
  | fl m=>exact .inl (.fl m)
theorem IH.anC(J:IH D H x A s){p:Addr}(hp:H p=none):IH D (upd (upd H p (.dK [])) x (.ins D.ab A.dx (i8 "doomed_things" (.ref p) (atts A s)))) x {A with dm:=p} {s with dU:=[]}/\Fr (bD x A s) H (bD x {A with dm:=p} {s with dU:=[]}) (upd (upd H p (.dK [])) x (.ins D.ab A.dx (i8 "doomed_things" (.ref p) (atts A s)))):=by
 have s1:aB H (upd H p (.dK [])):=aB.upd hp;have nf:¬bD x A s p:=J.fresh hp;have pp:upd H p (.dK []) p=some (.dK []):=ag;refine⟨?_,Fh hp (.x) J.ax 2e0 (λc f=>?_)⟩
 ·have J:=J.same s1
  have tk:b7 (upd H p (.dK [])) (upd (upd H p (.dK [])) x (.ins D.ab A.dx (i8 "doomed_things" (.ref p) (atts A s)))):=b7.set J.ax 2e0;exact⟨(by rw[ag,acB];rfl),(by rw[af (az J.ahd J.ax (k6 (show(1:Nat)≠11 by decide)))];exact J.ahd),(by rw[af (az J.ahl J.ax 1e0)];exact J.ahl),J.rhl.keep tk,(by rw[af (az J.ant J.ax (k6 (show(1:Nat)≠11 by decide)))];exact J.ant),(by rw[af (az J.anl J.ax 1e0)];exact J.anl),(by rw[af (az J.awt J.ax (k6 (show(2:Nat)≠11 by decide)))];exact J.awt),(by rw[af (az J.awb J.ax 1e0)];exact J.awb),(by rw[af (az J.awl J.ax 1e0)];exact J.awl),(by rw[af (az J.afh J.ax 1e0)];exact J.afh),(λt ws m=>⟨by rw[af (az (J.afl _ _ m).1 J.ax 1e0)];exact(J.afl _ _ m).1,(J.afl _ _ m).2.keep tk⟩),(by rw[af (az J.ayg J.ax 1e0)];exact J.ayg),(by show upd _ _ _ p=_;rw[af λe=>nf (by rw[e];exact .x)];exact pp),J.nhn,J.l1,J.l2,J.l3,J.l4,J.l5,J.d1,J.d2,(λ(e:A.wb=p)=>nf (by rw[<-e];exact .wb)),J.d4,(λ(e:A.fh=p)=>nf (by rw[<-e];exact .fh)),(λ(e:A.yg=p)=>nf (by rw[<-e];exact .yg))⟩
 ·cases f with
  | x=>exact .inl .x
  | hd=>exact .inl .hd
  | hl=>exact .inl .hl
  | nt=>exact .inl .nt
  | nl=>exact .inl .nl
  | wt=>exact .inl .wt
  | wb=>exact .inl .wb
  | wl=>exact .inl .wl
  | fh=>exact .inl .fh
  | yg=>exact .inl .yg
  | dm=>exact .inr rfl
  | fl m=>exact .inl (.fl m)
theorem IH.anD(J:IH D H x A s){ns:List (Option Int)}{p:Addr}(hp:H p=none):IH D (upd (upd H p (.lst (ns.map nmV))) A.nt (.ins D.aD A.ntx [("things_named",.ref p)])) x {A with nl:=p} {s with names:=ns}/\Fr (bD x A s) H (bD x {A with nl:=p} {s with names:=ns}) (upd (upd H p (.lst (ns.map nmV))) A.nt (.ins D.aD A.ntx [("things_named",.ref p)])):=by
 have s1:aB H (upd H p (.lst (ns.map nmV))):=aB.upd hp;have nf:¬bD x A s p:=J.fresh hp;have pp:upd H p (.lst (ns.map nmV)) p=some (.lst (ns.map nmV)):=ag;refine⟨?_,Fh hp (.nt) J.ant 2e0 (λc f=>?_)⟩
 ·have J:=J.same s1
  have tk:b7 (upd H p (.lst (ns.map nmV))) (upd (upd H p (.lst (ns.map nmV))) A.nt (.ins D.aD A.ntx [("things_named",.ref p)])):=b7.set J.ant 2e0;exact⟨(by rw[af (az J.ax J.ant (k6 (show(11:Nat)≠1 by decide)))];exact J.ax),(by rw[af J.nhn];exact J.ahd),(by rw[af (az J.ahl J.ant 1e0)];exact J.ahl),J.rhl.keep tk,ag,(by show upd _ _ _ p=_;rw[af λe=>nf (by rw[e];exact .nt)];exact pp),(by rw[af (az J.awt J.ant (k6 (show(2:Nat)≠1 by decide)))];exact J.awt),(by rw[af (az J.awb J.ant 1e0)];exact J.awb),(by rw[af (az J.awl J.ant 1e0)];exact J.awl),(by rw[af (az J.afh J.ant 1e0)];exact J.afh),(λt ws m=>⟨by rw[af (az (J.afl _ _ m).1 J.ant 1e0)];exact(J.afl _ _ m).1,(J.afl _ _ m).2.keep tk⟩),(by rw[af (az J.ayg J.ant 1e0)];exact J.ayg),(by rw[af (az J.adm J.ant 1e0)];exact J.adm),J.nhn,(λ(e:A.hl=p)=>nf (by rw[<-e];exact .hl)),J.l2,(λ(e:p=A.wl)=>nf (by rw[e];exact .wl)),(λt ws m=>⟨(J.l4 _ _ m).1,(λ(e:A.fa t=p)=>nf (by rw[<-e];exact .fl m)),(J.l4 _ _ m).2.2⟩),J.l5,J.d1,J.d2,J.d3,J.d4,J.d5,J.d6⟩
 ·cases f with
  | x=>exact .inl .x
  | hd=>exact .inl .hd
  | hl=>exact .inl .hl
  | nt=>exact .inl .nt
  | nl=>exact .inr rfl
  | wt=>exact .inl .wt
  | wb=>exact .inl .wb
  | wl=>exact .inl .wl
  | fh=>exact .inl .fh
  | yg=>exact .inl .yg
  | dm=>exact .inl .dm
  | fl m=>exact .inl (.fl m)
noncomputable def A8(fs:List (Int×List Wd))(t:Int):List (Int×List Wd):=fs.filter λp=>decide (p.1≠t)
theorem t6{fs:List (Int×List Wd)}{t t':Int}{ws:List Wd}:(t',ws)∈A8 fs t↔(t',ws)∈fs/\t'≠t:=by unfold A8;rw[aoN];simp
theorem X7{fs:List (Int×List Wd)}{A:HA}{t:Int}:vS (fs.map (fkv A)) (Sum.inl t)=(A8 fs t).map (fkv A):=by
 unfold vS A8;rw[apY];congr 1
 refine ao1 λp _=>?_;show decide (Sum.inl p.1≠(Sum.inl t:Key))=decide (p.1≠t);simp
theorem IH.acD(J:IH D H x A s){t:Int}:IH D (upd H A.fh (.dK ((A8 s.aT t).map (fkv A)))) x A {s with aT:=A8 s.aT t}/\Fr (bD x A s) H (bD x A {s with aT:=A8 s.aT t}) (upd H A.fh (.dK ((A8 s.aT t).map (fkv A)))):=by
 have tk:b7 H (upd H A.fh (.dK ((A8 s.aT t).map (fkv A)))):=b7.set J.afh 2e0;refine⟨⟨(by rw[af (az J.ax J.afh 1e0)];exact J.ax),(by rw[af (az J.ahd J.afh 1e0)];exact J.ahd),(by rw[af (az J.ahl J.afh 1e0)];exact J.ahl),J.rhl.keep tk,(by rw[af (az J.ant J.afh 1e0)];exact J.ant),(by rw[af (az J.anl J.afh 1e0)];exact J.anl),(by rw[af (az J.awt J.afh 1e0)];exact J.awt),(by rw[af J.d1];exact J.awb),(by rw[af (az J.awl J.afh 1e0)];exact J.awl),ag,(λu ws m'=>by have m:=(t6.mp m').1;exact⟨by rw[af (az (J.afl _ _ m).1 J.afh 1e0)];exact(J.afl _ _ m).1,(J.afl _ _ m).2.keep tk⟩),(by rw[af (aol J.d4)];exact J.ayg),(by rw[af (aol J.d5)];exact J.adm),J.nhn,J.l1,J.l2,J.l3,(λu ws m=>J.l4 _ _ (t6.mp m).1),(λu ws v w m m' e=>J.l5 _ _ _ _ (t6.mp m).1 (t6.mp m').1 e),J.d1,J.d2,J.d3,J.d4,J.d5,J.d6⟩,Fr.set .fh J.afh 2e0 (λc f=>?_)⟩;cases f with
 | x=>exact .x
 | hd=>exact .hd
 | hl=>exact .hl
 | nt=>exact .nt
 | nl=>exact .nl
 | wt=>exact .wt
 | wb=>exact .wb
 | wl=>exact .wl
 | fh=>exact .fh
 | yg=>exact .yg
 | dm=>exact .dm
 | fl m=>exact .fl (t6.mp m).1
end
inductive Led(rs:List Wd)(F:Int->List Wd)(S:List Int):Int->Prop where
 | root {t:Int}:Wd.th t∈rs->t∈S->Led rs F S t
 | step {u t:Int}:Led rs F S u->Wd.th t∈F u->t∈S->Led rs F S t
theorem Led.mem{rs:List Wd}{F:Int->List Wd}{S:List Int}{t:Int}(h:Led rs F S t):t∈S:=by cases h<;>assumption
noncomputable def amg(S:List Int):Wd->Option Int
 | .th t=>if t∈S then some t else none
 | _=>none
theorem uu{S:List Int}{w:Wd}{t:Int}:amg S w=some t↔w=.th t/\t∈S:=by
 cases w with
 | no=>exact⟨(λh=>by cases h),(λh=>by cases h.1)⟩
 | num n=>exact⟨(λh=>by cases h),(λh=>by cases h.1)⟩
 | th u =>
  show(if u∈S then some u else none)=some t↔_;by_cases c:u∈S
  ·rw[if_pos c]
   exact⟨(λh=>by cases h;exact⟨rfl,c⟩),(λh=>by cases h.1;rfl)⟩
  ·rw[if_neg c]
   exact⟨(λh=>by cases h),(λh=>by cases h.1;exact absurd h.2 c)⟩
inductive Rc(rs:List (Option Int))(F:Int->List (Option Int)):Int->Prop where
 | root {t:Int}:some t∈rs->Rc rs F t
 | step {u t:Int}:Rc rs F u->some t∈F u->Rc rs F t
theorem ZW{rs:List Wd}{F:Int->List Wd}{S:List Int}{t:Int}:Rc (rs.map (amg S)) (λu=>(F u).map (amg S)) t↔Led rs F S t:=by
 constructor
 ·intro h
  induction h with
  | root m =>
   obtain⟨w,mw,e⟩:=aoy.mp m;obtain⟨rfl,c⟩:=uu.mp e;exact .root mw c
  | step _ m ih =>
   obtain⟨w,mw,e⟩:=aoy.mp m;obtain⟨rfl,c⟩:=uu.mp e;exact .step ih mw c
 ·intro h
  induction h with
  | root m c=>exact .root (aoy.mpr ⟨_,m,uu.mpr ⟨rfl,c⟩⟩)
  | step _ m c ih=>exact .step ih (aoy.mpr ⟨_,m,uu.mpr ⟨rfl,c⟩⟩)
theorem uv:∀ {ms ks:List Int},ms.Nodup->(∀ m∈ms,m∈ks)->ms.length<=ks.length
 | [],_,_,_=>aoL _
 | a::r,ks,nd,h=>by
  rw[apl]at nd;have ha:=h a aow
  have:=uv (ms:=r) (ks:=ks.erase a) nd.2 λm hm=>(List.mem_erase_of_ne (λe=>nd.1 (by rw[<-e];exact hm))).mpr (h m (aox _ hm))
  rw[List.length_erase_of_mem ha]at this
  have:0<ks.length:=List.length_pos_of_mem ha
  rw[aoF];omega
noncomputable def Kys(kvs:List (Key×V))(ms:List Int):Prop:=kvs.map (·.1)=ms.map Sum.inl
theorem Kys.len{kvs:List (Key×V)}{ms:List Int}(k:Kys kvs ms):kvs.length=ms.length:=by have:=congrArg List.length k;simpa using this
theorem Kys.isS{kvs:List (Key×V)}{ms:List Int}(k:Kys kvs ms){t:Int}:(ie kvs (Sum.inl t)).isSome=decide (t∈ms):=by
 induction kvs generalizing ms with
 | nil=>cases ms with
  | nil=>rfl
  | cons a r=>cases k
 | cons p r ih=>cases ms with
  | nil=>cases k
  | cons a ms =>
   unfold Kys at k;rw[aov,aov]at k;injection k with k1 k2;by_cases e:a=t
   ·subst e
    rw[fK k1];simp
   ·rw[fe (λz=>e (Sum.inl.inj (k1.symm.trans z))),ih k2]
    have:(t∈a::ms)↔t∈ms:=by
     rw[aop];exact⟨λh=>h.elim (λz=>absurd z.symm e) id,.inr⟩
    simp only[this]
theorem Kys.non{kvs:List (Key×V)}{ms:List Int}(k:Kys kvs ms){t:Int}(h:t∉ms):ie kvs (Sum.inl t)=none:=by
 have:=k.isS (t:=t)
 rw[decide_eq_false h]at this;cases q:ie kvs (Sum.inl t) with
 | none=>rfl
 | some v=>rw[q]at this;cases this
theorem Kys.snoc{kvs:List (Key×V)}{ms:List Int}(k:Kys kvs ms){t:Int}{v:V}(h:t∉ms):Kys (putK kvs (Sum.inl t) v) (ms++[t]):=by
 rw[xU v (k.non h)];unfold Kys at k ⊢;rw[aon,aon,k];rfl
theorem Kys.at_{kvs:List (Key×V)}{ms:List Int}(k:Kys kvs ms){i:Nat}{p:Key×V}(h:kvs[i]?=some p):∃ t,ms[i]?=some t/\kV p.1=.int t/\p.1=Sum.inl t:=by
 have h1:=congrArg (λl=>l[i]?) k;simp only[aog,h,ao2]at h1;obtain⟨t,e1,e2⟩:=aoo.mp h1.symm;exact⟨t,e1,by rw[<-e2];rfl,e2.symm⟩
theorem IX(ts:List Int):Kys (ts.map tkv) ts:=by unfold Kys;rw[aoM];rfl
theorem UN(s:HS)(A:HA):Kys (s.aT.map (fkv A)) (keys s):=by unfold Kys keys;rw[aoM,aoM];rfl
noncomputable def drG(fs:List (Int×List Wd))(gs:List Int):List (Int×List Wd):=fs.filter λp=>decide (p.1∉gs)
noncomputable def nmG(gs:List Int)(n:Option Int):Option Int:=match n with|none=>none|some t=>if t∈gs then none else some t
noncomputable def brG(bs:List (Int×Int))(gs:List Int):List (Int×Int):=bs.filter λp=>decide (p.1∉gs)
noncomputable def sdG(bs:List (Int×Int))(gs:List Int):List Int:=gs.filterMap λt=>bs.lookup t
noncomputable def letGo(s:HS)(gs:List Int):HS:={s with aT:=drG s.aT gs,names:=s.names.map (nmG gs),cu:=brG s.cu gs,wU:=s.wU++sdG s.cu gs}
theorem kD{fs:List (Int×List Wd)}{gs:List Int}{t:Int}{ws:List Wd}:(t,ws)∈drG fs gs↔(t,ws)∈fs/\t∉gs:=by unfold drG;rw[aoN];simp
theorem Vy{fs:List (Int×List Wd)}{gs:List Int}{t:Int}:drG fs (gs++[t])=A8 (drG fs gs) t:=by
 unfold drG A8;rw[List.filter_filter];refine ao1 λp _=>?_;simp[aot,not_or,Bool.and_comm]
theorem Tc{fs:List (Int×List Wd)}:drG fs []=fs:=by unfold drG;simp
theorem QA{bs:List (Int×Int)}{gs:List Int}{t:Int}:brG bs (gs++[t])=(brG bs gs).filter λp=>decide (p.1≠t):=by
 unfold brG;rw[List.filter_filter];refine ao1 λp _=>?_;simp[aot,not_or,Bool.and_comm]
theorem RK{bs:List (Int×Int)}{gs:List Int}{t:Int}(h:t∉gs):(brG bs gs).lookup t=bs.lookup t:=by
 unfold brG;induction bs with
 | nil=>rfl
 | cons p r ih =>
  obtain⟨a,b⟩:=p;rw[List.filter_cons];by_cases c:a∈gs
  ·rw[if_neg (by simpa using c),ih,ao5]
   rw[show(t == a)=false from beq_eq_false_iff_ne.mpr λe=>h (by rw[e];exact c)]
  ·rw[if_pos (by simpa using c),ao5,ao5,ih]
theorem X8{bs:List (Int×Int)}{t:Int}:vS (bs.map bkv) (Sum.inl t)=(bs.filter λp=>decide (p.1≠t)).map bkv:=by
 unfold vS;rw[apY];congr 1
 refine ao1 λp _=>?_;show decide (Sum.inl p.1≠(Sum.inl t:Key))=decide (p.1≠t);simp
theorem filter_none{bs:List (Int×Int)}{t:Int}(h:bs.lookup t=none):(bs.filter λp=>decide (p.1≠t))=bs:=List.filter_eq_self.mpr λp hp=>by simpa using lookup_none h p hp
theorem QB{bs:List (Int×Int)}{gs:List Int}{t:Int}:sdG bs (gs++[t])=sdG bs gs++(match bs.lookup t with|some v=>[v]|none=>[]):=by
 unfold sdG;rw[List.filterMap_append];congr 1
 cases e:bs.lookup t with
 | none=>simp[e]
 | some v=>simp[e]
structure Wk(H H4:Hp)(st mt:Addr)(rs:List (Option Int))(F:Int->List (Option Int))(S:List Int)(kvs:List (Key×V))(ms:List Int):Prop where
 sm:aB H H4
 hs:H4 st=some (.dK kvs)
 ky:Kys kvs ms
 nd:ms.Nodup
 sub:∀ m∈ms,m∈S
 snd:∀ m∈ms,Rc rs F m
 hm:H4 mt=some (.lst (ms.map V.int))
 rts:∀ t,some t∈rs->t∈ms
theorem Wk.same{H H4 H5:Hp}{st mt:Addr}{rs:List (Option Int)}{F:Int->List (Option Int)}{S:List Int}{kvs:List (Key×V)}{ms:List Int}(w:Wk H H4 st mt rs F S kvs ms)(k:aB H4 H5):Wk H H5 st mt rs F S kvs ms :=
 ⟨w.sm.trans k,k _ _ w.hs,w.ky,w.nd,w.sub,w.snd,k _ _ w.hm,w.rts⟩
theorem Wk.put{H H4:Hp}{st mt:Addr}{rs:List (Option Int)}{F:Int->List (Option Int)}{S:List Int}{kvs:List (Key×V)}{ms:List Int}(w:Wk H H4 st mt rs F S kvs ms)(h1:H st=none)(h2:H mt=none){n:Int}{v:V}(hn:n∉ms)(hS:n∈S)(hr:Rc rs F n) :
  Wk H (upd (upd H4 st (.dK (putK kvs (Sum.inl n) v))) mt (.lst (ms.map V.int++[.int n]))) st mt rs F S (putK kvs (Sum.inl n) v) (ms++[n]):=by
 have ne:st≠mt:=az w.hs w.hm 1e0;refine⟨λb u q=>?_,?_,w.ky.snoc hn,?_,λm h=>?_,λm h=>?_,?_,λt h=>aoC _ (w.rts t h)⟩
 ·rw[af (aq q h2),af (aq q h1)]
  exact w.sm b u q
 ·rw[af ne]
  exact ag
 ·rw[ao0]
  exact⟨w.nd,by simp,λa ha b hb=>by rw[an7.mp hb];exact λe=>hn (by rw[<-e];exact ha)⟩
 ·rcases aot.mp h with g|g
  ·exact w.sub m g
  ·rw[an7.mp g];exact hS
 ·rcases aot.mp h with g|g
  ·exact w.snd m g
  ·rw[an7.mp g];exact hr
 ·rw[aon]
  exact ag
theorem Vz{ms:List Int}{n:Int}(nd:ms.Nodup)(hn:n∉ms):(ms++[n]).Nodup:=by
 rw[ao0];exact⟨nd,by simp,λa ha b hb=>by rw[an7.mp hb];exact λe=>hn (by rw[<-e];exact ha)⟩
theorem ZX{rs:List (Option Int)}{F:Int->List (Option Int)}{ms:List Int}(h0:∀ t,some t∈rs->t∈ms)(h1:∀ u∈ms,∀ t,some t∈F u->t∈ms){t:Int}(h:Rc rs F t):t∈ms:=by
 induction h with
 | root m=>exact h0 _ m
 | step _ m ih=>exact h1 _ ih _ m
noncomputable def QC:Sp:=λvs H Q _=>∃(v r d:Addr) (rs:List (Option Int)) (S:List Int) (F:Int->List (Option Int)) (ad:Int->Addr),vs=[.ref v]/\H v=some (.tup [.ref r,.ref d])/\H r=some (.lst (rs.map nmV))/\H d=some (.dK (S.map λt=>(Sum.inl t,.ref (ad t))))/\(∀ t∈S,H (ad t)=some (.lst ((F t).map nmV)))/\(∀ t,some t∈rs->t∈S)/\(∀ u∈S,∀ t,some t∈F u->t∈S)/\S.length<=10000/\∀ st kvs ms H',aB H H'->H st=none->H' st=some (.dK kvs)->Kys kvs ms->ms.Nodup->(∀ t,t∈ms↔Rc rs F t)->Q (.ref st) H'
noncomputable abbrev Mi:List Str:=["view","steps","place","thing","met","done"]
theorem eZ:av Mi ["view"] (ar uB):=fsc
theorem JX(F:Fun K "last_steps" "last_steps" uB D.fV D.mF)(T:Txt K mg D):9e7 1 D.fV D.mF ["view"] (QC):=by
 refine F.oa eZ F.b1 λcdv A' outer s' H vs Q E hr h=>?_;obtain⟨v,r,d,rs,S,F,ad,rfl,ht,hrs,hd,UY,hrt,hcl,XD,k⟩:=h;have hu:=i9 hr;refine⟨_,(PSs.nox (ak (aN (i:=1) eZ.nd rfl 1e4 kg)
  (ak (fP aom rfl (vQ rfl T.hV (aa (bT cY (pv 0) au 1e7) aj)) (vR rfl (dG (aX (i:=2) eZ.nd rfl 1e4) (dG (aX (i:=3) eZ.nd rfl 1e4) qZ)))
   (ai (bI (PW.pt (pw_and (aJ NH (pv 3) c8 (aS _)) (pw_and1 (ui (oy hu (pv 3) (pv 1)) (by with_unfolding_all rfl)))))
    (ai (pG hu (pv 1) (pv 3) (fE (aa c8 (aa (pv 2) aj))) rfl))
    aO)))
  (ak (aN (i:=4) eZ.nd rfl 1e4 (ll (IJ rfl) rfl T.yY PyProof.Rows.Boot.«list» 1e9))
  (ak (aN (i:=5) eZ.nd rfl 1e4 au)
  (ak (Jj aom (aJ u7 (pv 5) (cz a9 rfl T.kU PyProof.Rows.Boot.«len» (aa (pv 4) aj)) (aS _))
   (ak (fP aom rfl (vQ rfl T.hV (aa (ip hu (bT cY (pv 0) au 1e7) (bT dC (pv 4) (pv 5) 1e7) 1e7) aj)) (vR rfl (dG (aX (i:=2) eZ.nd rfl 1e4) (dG (aX (i:=3) eZ.nd rfl 1e4) qZ)))
    (ai (bI (PW.pt (pw_and (aJ NH (pv 3) c8 (aS _)) (pw_and1 (ui (oy hu (pv 3) (pv 1)) (by with_unfolding_all rfl)))))
     (ak (pG hu (pv 1) (pv 3) (fE (aa (bT dC (pv 4) (pv 5) 1e7) (aa (pv 2) aj))) rfl)
     (ai (aI (Rb PySem.F.plainAttrs_list PySem.F.slot_list_append PySem.F.type_list_append yK (pv 4) (aa (pv 3) aj)))))
     aO)))
   (ai (Zp (i:=5) eZ.nd rfl 1e4 au Zq))))
  (ai (aG (pv 1))))))))),?_⟩
 refine λst hst=>?_;have s0:aB H (upd H st (.dK [])):=aB.upd hst;have kyS:Kys (S.map λt=>((Sum.inl t:Key),V.ref (ad t))) S:=by unfold Kys;rw[aoM];rfl
 have dgS:∀ {Hc:Hp},aB H Hc->∀ {t:Int},t∈S->tX Hc d (.int t) (some (.ref (ad t))):=λ{Hc} sc {t} m=>by
  have e:ie (S.map λt=>((Sum.inl t:Key),V.ref (ad t))) (Sum.inl t)=some (.ref (ad t)):=by
   clear kyS XD hcl hrt UY hd;induction S with
   | nil=>cases m
   | cons a r ih =>
    rw[aov];by_cases c:a=t
    ·rw[fK (by show Sum.inl a=Sum.inl t;rw[c]),c]
    ·rw[fe (λz=>c (Sum.inl.inj z))]
     exact ih ((aop.mp m).resolve_left λz=>c z.symm)
  exact .inl ⟨_,Sum.inl t,.inl (sc _ _ hd),rfl,e.symm⟩
 have few:∀ {kvs:List (Key×V)} {ms:List Int},Kys kvs ms->ms.Nodup->(∀ m∈ms,m∈S)->kvs.length<sizeLine:=λk nd h=>by rw[k.len];exact ur (aou (uv nd h) 1e1)
 refine⟨_,rfl,v,_,0,.ref r,rfl,rfl,SqT.of (s0 _ _ ht),rfl,r,rfl,⟨_,SqL.of (s0 _ _ hrs)⟩,rD (K:=K) (a:=r) (xs:=rs.map nmV) (λi σ H2=>∃(v2 v3:Option V) (kvs:List (Key×V)) (ms:List Int),σ=[some (.ref v),some (.ref st),v2,v3,none,none]/\aB H H2/\H2 st=some (.dK kvs)/\Kys kvs ms/\ms.Nodup/\(∀ m∈ms,m∈S)/\(∀ m∈ms,Rc rs F m)/\∀(j:Nat) t,j<i->rs[j]?=some (some t)->t∈ms)
  ⟨none,none,[],[],rfl,s0,ag,rfl,List.nodup_nil,(λt h=>nomatch h),(λt h=>nomatch h),(λj t h=>absurd h (apA _))⟩ (λi σ H2 _ ⟨_,_,_,_,_,s2,_⟩=>SqL.of (s2 _ _ hrs)) ?_ ?_⟩
 ·rintro i x σ H2 t hx ⟨v2,v3,kvs,ms,rfl,s2,hs,ky,nd,sub,snd,G8⟩ htt
  have hi:i<rs.length:=by have:=(an5.mp hx).1;rwa[an6]at this
  have ri:rs[i]?=some rs[i]:=an4 hi;have hxe:x=nmV rs[i]:=by
   rw[aog,ri]at hx;exact(aos hx).symm
  subst hxe;have s3:aB H2 (upd H2 t (.tup [.int (i:Int),nmV rs[i]])):=aB.upd htt;refine⟨t,_,rfl,SqT.of ag,rfl,_,_,rfl,_,_,rfl,rfl,?_⟩;cases hc:rs[i] with
  | none =>
   rw[hc]at s3 ri;refine⟨_,rfl,rfl,_,rfl,tW (tW ⟨_,_,kvs,ms,rfl,s2.trans s3,s3 _ _ hs,ky,nd,sub,snd,λj t hj e=>?_⟩)⟩;rcases aoZ j i with z|z
   ·exact G8 j t z e
   ·rw[show j=i by omega,ri]at e
    cases e
  | some n =>
   rw[hc]at s3 ri;have mr:=an9 ri;refine⟨_,rfl,rfl,_,rfl,u9 ⟨_,rfl,_,rfl,st,_,rfl,tX.k (k:=Sum.inl n) (s3 _ _ hs),_,rfl,?_⟩⟩;rw[ky.isS];by_cases hin:n∈ms
   ·rw[decide_eq_true hin]
    refine tW ⟨_,_,kvs,ms,rfl,s2.trans s3,s3 _ _ hs,ky,nd,sub,snd,λj t hj e=>?_⟩;rcases aoZ j i with z|z
    ·exact G8 j t z e
    ·rw[show j=i by omega,ri]at e
     cases e;exact hin
   ·rw[decide_eq_false hin]
    refine u9 ⟨_,rfl,by show 2<=sizeLine;decide,λu hu'=>?_⟩;have s4:=aB.upd (o:=.tup [V.non,V.int (i:Int)]) hu';refine⟨_,rfl,_,rfl,st,_,rfl,G9.k (k:=Sum.inl n) (s4 _ _ (s3 _ _ hs)) (few ky nd sub),_,_,putK kvs (Sum.inl n) (.ref u),ms++[n],rfl,λc u' g=>by rw[af (aq g hst)];exact s4 _ _ (s3 _ _ (s2 c u' g)),ag,ky.snoc hin,Vz nd hin,λm h=>?_,λm h=>?_,λj t hj e=>?_⟩
    ·rcases aot.mp h with g|g
     ·exact sub m g
     ·rw[an7.mp g];exact hrt n mr
    ·rcases aot.mp h with g|g
     ·exact snd m g
     ·rw[an7.mp g];exact .root mr
    ·rcases aoZ j i with z|z
     ·exact aoC _ (G8 j t z e)
     ·rw[show j=i by omega,ri]at e
      cases e;exact aod _ aow
 ·rintro σ H2 ⟨v2,v3,kvs,ms,rfl,s2,hs,ky,nd,sub,snd,G8⟩
  refine⟨_,rfl,st,_,ms,rfl,.inl hs,ky,λmt hmt=>?_⟩;have s3:=aB.upd (o:=.lst (ms.map V.int)) hmt;have anE:H mt=none:=aB.none s2 hmt;refine⟨λm σ H4=>∃(dn:Nat) (v2 v3:Option V) (kvs:List (Key×V)) (ms:List Int),m=S.length+1-dn/\σ=[some (.ref v),some (.ref st),v2,v3,some (.ref mt),some (.int (dn:Int))]/\Wk H H4 st mt rs F S kvs ms/\(∀ u∈ms.take dn,∀ t,some t∈F u->t∈ms)/\dn<=ms.length,⟨_,0,v2,v3,kvs,ms,rfl,rfl,⟨s2.trans s3,s3 _ _ hs,ky,nd,sub,snd,ag,λt h=>?_⟩,(λu h=>nomatch h),aoL _⟩,?_⟩
  ·obtain⟨j,hj⟩:=apn.mp h
   exact G8 j t (by rw[an6];exact(an5.mp hj).1) hj
  clear hs ky nd sub snd G8 s3 s2;rintro m σ H4 ⟨dn,v2,v3,kvs,ms,rfl,rfl,W,don,hdl⟩;have ml:=uv W.nd W.sub;refine⟨_,rfl,_,rfl,mt,_,rfl,.inl (SqL.of W.hm),_,_,rfl,rfl,_,rfl,dH (λh=>?_) (λh=>?_)⟩
  ·have hd1:dn<ms.length:=by
    have h1:(dn:Int)<((ms.map V.int).length:Int):=(by simpa using h);rw[an6]at h1;omega
   refine⟨λσ' H'=>∃ m',m'<S.length+1-dn/\∃(dn:Nat) (v2 v3:Option V) (kvs:List (Key×V)) (ms:List Int),m'=S.length+1-dn/\σ'=[some (.ref v),some (.ref st),v2,v3,some (.ref mt),some (.int (dn:Int))]/\Wk H H' st mt rs F S kvs ms/\(∀ u∈ms.take dn,∀ t,some t∈F u->t∈ms)/\dn<=ms.length,λ_ _ h=>h,?_⟩;have tk:ms.take (dn+1)=ms.take dn++[ms[dn]]:=aoz hd1;obtain⟨t,et⟩:∃ t,ms[dn]=t:=⟨_,rfl⟩;obtain⟨pre,X9⟩:∃ pre,ms.take dn=pre:=⟨_,rfl⟩;rw[et,X9]at tk;rw[X9]at don;have anF:pre.length=dn:=(by rw[<-X9,aoj];omega);have htm:t∈ms:=(by rw[<-et];exact aoV hd1);have hin:t∈S:=W.sub t htm;have at_:∀ {ns:List Int},ns.take (dn+1)=pre++[t]->ns[dn]?=some t:=λ{ns} e=>by
    have:(ns.take (dn+1))[dn]?=some t:=by rw[e,aoI 1e1,anF,apP];rfl
    rwa[List.getElem?_take_of_lt (apI _)]at this
   have hat:∀ {ns:List Int},ns.take (dn+1)=pre++[t]->atI (ns.map V.int) (dn:Int)=some (.int t):=λe=>yR (by rw[aog,at_ e];rfl);have rw_:=UY t hin;refine⟨_,rfl,v,_,1,.ref d,rfl,rfl,SqT.of (W.sm _ _ ht),rfl,_,rfl,_,rfl,mt,_,_,.int t,rfl,rfl,SqL.of W.hm,hat tk,d,_,rfl,dgS W.sm hin,ad t,rfl,⟨_,SqL.of (W.sm _ _ rw_)⟩,
    rD (K:=K) (a:=ad t) (xs:=(F t).map nmV) (λj σ H6=>∃(v2 v3:Option V) (kvs:List (Key×V)) (ms:List Int),σ=[some (.ref v),some (.ref st),v2,v3,some (.ref mt),some (.int (dn:Int))]/\Wk H H6 st mt rs F S kvs ms/\ms.take (dn+1)=pre++[t]/\dn<ms.length/\(∀ u∈pre,∀ t,some t∈F u->t∈ms)/\∀(q:Nat) n,q<j->(F t)[q]?=some (some n)->n∈ms)
    ⟨v2,v3,kvs,ms,rfl,W,tk,hd1,don,(λq n h=>absurd h (apA _))⟩ (λj σ H6 _ ⟨_,_,_,_,_,w6,_⟩=>SqL.of (w6.sm _ _ rw_)) ?_ ?_⟩
   ·clear W don hdl ml hd1 tk et X9 htm
    rintro j x σ H6 u hx ⟨v2,v3,kvs,ms,rfl,W,tk,hd1,don,G8⟩ hut;have hlj:j<(F t).length:=(by have:=(an5.mp hx).1;rwa[an6]at this);have fj:(F t)[j]?=some (F t)[j]:=an4 hlj;have hxe:x=nmV (F t)[j]:=by
     rw[aog,fj]at hx;exact(aos hx).symm
    subst hxe;have htm:t∈ms:=an9 (at_ tk);refine⟨u,_,rfl,SqT.of ag,rfl,_,_,rfl,_,_,rfl,rfl,?_⟩;cases hc:(F t)[j] with
    | none =>
     rw[hc]at fj;have s7:=aB.upd (o:=.tup [.int (j:Int),nmV none]) hut;refine⟨_,rfl,rfl,_,rfl,tW (tW ⟨_,_,kvs,ms,rfl,W.same s7,tk,hd1,don,λq n hq e=>?_⟩)⟩;rcases aoZ q j with z|z
     ·exact G8 q n z e
     ·rw[show q=j by omega,fj]at e
      cases e
    | some n =>
     rw[hc]at fj;have mf:=an9 fj;have hk:n∈S:=hcl t hin n mf;have s7:=aB.upd (o:=.tup [.int (j:Int),nmV (some n)]) hut;have W7:=W.same s7;refine⟨_,rfl,rfl,_,rfl,u9 ⟨_,rfl,_,rfl,st,_,rfl,tX.k (k:=Sum.inl n) W7.hs,_,rfl,?_⟩⟩;rw[W7.ky.isS];by_cases hn6:n∈ms
     ·rw[decide_eq_true hn6]
      refine tW ⟨_,_,kvs,ms,rfl,W7,tk,hd1,don,λq n' hq e=>?_⟩;rcases aoZ q j with z|z
      ·exact G8 q n' z e
      ·rw[show q=j by omega,fj]at e
       cases e;exact hn6
     ·rw[decide_eq_false hn6]
      refine u9 ⟨_,rfl,_,rfl,mt,_,_,.int t,rfl,rfl,SqL.of W7.hm,hat tk,_,rfl,by show 2<=sizeLine;decide,λu2 hu2=>?_⟩;have s8:=aB.upd (o:=.tup [V.int t,V.int (j:Int)]) hu2;have W8:=W7.same s8;have W9:=W8.put (v:=.ref u2) hst anE hn6 hk (.step (W.snd t htm) mf);have nms:mt≠st:=az W8.hm W8.hs 1e0;have zm9:upd (upd (upd H6 u (.tup [.int (j:Int),nmV (some n)])) u2 (.tup [V.int t,V.int (j:Int)])) st (.dK (putK kvs (Sum.inl n) (.ref u2))) mt=some (.lst (ms.map V.int)):=(by rw[af nms];exact W8.hm);refine⟨_,rfl,_,rfl,st,_,rfl,G9.k (k:=Sum.inl n) W8.hs (few W8.ky W8.nd W8.sub),?_⟩;refine⟨_,rfl,.inl ⟨rfl,_,SqL.of zm9⟩,_,rfl,mt,_,_,rfl,rfl,zm9,by rw[an6];exact ur (aou (uv W8.nd W8.sub) 1e1),?_⟩;refine⟨_,_,_,ms++[n],rfl,W9,by rw[List.take_append_of_le_length 1e1];exact tk,by rw[aof];omega,λu h t' e=>aoC _ (don u h t' e),λq n' hq e=>?_⟩;rcases aoZ q j with z|z
      ·exact aoC _ (G8 q n' z e)
      ·rw[show q=j by omega,fj]at e
       cases e;exact aod _ aow
   ·clear W don hdl ml hd1 tk et X9 htm
    rintro σ H6 ⟨v2,v3,kvs,ms,rfl,W,tk,hd1,don,G8⟩;rw[an6]at G8;have ml:=uv W.nd W.sub;refine⟨_,rfl,_,1,rfl,rfl,S.length+1-(dn+1),by omega,dn+1,v2,v3,kvs,ms,rfl,rfl,W,λu h t' e=>?_,hd1⟩;rw[tk]at h;rcases aot.mp h with g|g
    ·exact don u g t' e
    ·rw[an7.mp g]at e
     obtain⟨q,hq⟩:=apn.mp e;exact G8 q t' (an5.mp hq).1 hq
  ·have hge:ms.length<=dn:=by
    have h1:¬(dn:Int)<((ms.map V.int).length:Int):=(by simpa using h);rw[an6]at h1;omega
   rw[aoh hge]at don;exact⟨_,rfl,k st kvs ms H4 W.sm hst W.hs W.ky W.nd λt=>⟨W.snd t,ZX W.rts don⟩⟩
end
end K38
end
section
namespace L2
open PySem PySem.Spec PyProof.Rows LX
section
variable{X:Cx}
noncomputable def anG(H₀:Hp)(t:TS):TS:=λD σ H=>t {D with nx:=λσ1 H1=>∃ d o kvs,H1 d=some (.frz o (.dK kvs))/\(∀ o u,H₀ d≠some (.frz o u))/\D.nx σ1 (upd H1 d (.dK kvs))} σ H
theorem Yb{st:Stmt}{t:TS}(h:PS X st t):PS X st (anG X.H₀ t):=by
 intro pins s σ H D I q;refine thn (h pins s σ H _ I q) λf s1 z=>?_;cases f with
 | next =>
  obtain⟨σ1,H1,I1,d,o,kvs,hd,h0,q⟩:=z;exact⟨σ1,_,I1.abM hd h0 (by intro _ z;cases z) (by intro _ z;cases z) (by intro _ z;cases z),q⟩
 | ret v=>exact z
 | brk=>exact z
 | cont=>exact z
theorem acE{n:Option Int}{zs:List Int}{f:Option Int->V}(hf:f none=.non)(hs:∀ t,f (some t)=.int t):inV (f n) (zs.map V.int)=(match n with|none=>false|some t=>decide (t∈zs)):=by
 unfold inV;cases n with
 | none =>
  rw[hf];show _=false;rw[List.any_map];refine List.any_eq_false.mpr λz _=>?_;simp[eqV]
 | some t =>
  rw[hs,List.any_map];show _=decide (t∈zs);induction zs with
  | nil=>rfl
  | cons a r ih =>
   rw[apz,ih];by_cases e:a=t
   ·subst e
    simp[eqV]
   ·have:(t∈a::r)↔t∈r:=by
     rw[aop];exact⟨λh=>h.elim (λz=>absurd z.symm e) id,.inr⟩
    simp[eqV,e,this]
end
end L2
end
section
namespace K38
open PySem L2 LX
section
variable{P:Program}{w:World}{K:W.Frag}{mg:Str->Option Value}{base:Heap}{D:Ad}
theorem Td{H:Hp}{xs:List V}{ws:List Wd}(r:Rel H xs ws){i:Nat}{x:V}(h:xs[i]?=some x):∃ w,ws[i]?=some w/\WV H x w:=by
 have hi:=(an5.mp h).1;have hw:i<ws.length:=by rw[<-r.1];exact hi
 obtain⟨v,hv,wv⟩:=r.get hw;rw[hv]at h;cases h;exact⟨_,an4 hw,wv⟩
noncomputable def Za:Sp:=λvs H Q _=>∃ v w d kvs S,vs=[v,.ref d]/\WV H v w/\Rd H d (.dK kvs)/\Kys kvs S/\Q (nmV (amg S w)) H
noncomputable abbrev JY:List Str:=["value","things"]
theorem HD:av JY ["value","things"] (ar sM):=fsc
theorem HE(F:Fun K "thing_among" "thing_among" sM D.eS D.kz)(T:Txt K mg D)
  (kn:9e7 1 D.eC D.hX ["value"] (N0)):9e7 2 D.eS D.kz ["value","things"] (Za):=by
 refine F.oa HD F.b2 λcdv A' outer s' H vs Q E hr h=>?_;obtain⟨v,w,d,kvs,S,rfl,wv,hd,hk,k⟩:=h;have hu:=i9 hr;refine⟨_,(PSs.nox (ak (bI (PW.pt (pw_and (aJ nY (kn.c hr T.qT T.lD aY (aa (pv 0) aj)) cR (aS _)) (pw_and1 (ui (VS hu (bT cY (pv 0) au 1e7) (pv 1)) (by with_unfolding_all rfl)))))
   (ai (aG (bT cY (pv 0) au 1e7)))
   aO)
  (ai (aG c8)))),?_⟩
 refine⟨_,rfl,v,w,rfl,wv,?_⟩;cases w with
 | no=>exact⟨rfl,_,rfl,dH (λh=>absurd h (aoK.mp 1e3)) (λ_=>tW k)⟩
 | num n=>exact⟨rfl,_,rfl,dH (λh=>absurd h (aoK.mp 1e3)) (λ_=>tW k)⟩
 | th t =>
  obtain⟨a,rfl,ht⟩:=wv;refine⟨rfl,_,rfl,dH (λ_=>?_) (λh=>absurd 1e3 h)⟩;refine⟨_,rfl,a,_,1,.int t,rfl,rfl,SqT.of ht,rfl,_,rfl,d,_,rfl,.inl ⟨kvs,Sum.inl t,hd,rfl,rfl⟩,_,rfl,?_⟩;rw[hk.isS];by_cases c:t∈S
  ·rw[decide_eq_true c]
   rw[show amg S (.th t)=some t from if_pos c]at k;exact u9 ⟨_,rfl,a,_,1,.int t,rfl,rfl,SqT.of ht,rfl,k⟩
  ·rw[decide_eq_false c]
   rw[show amg S (.th t)=none from if_neg c]at k;exact tW k
noncomputable def N2(D:Ad):Sp:=λvs H Q _=>∃ x A s l xs ws d kvs S,vs=[.ref x,.ref l,.ref d]/\IH D H x A s/\Good s/\H l=some (.lst xs)/\Rel H xs ws/\ws.length<=100000/\H d=some (.dK kvs)/\Kys kvs S/\(∀ t∈S,∃ ws,(t,ws)∈s.aT)/\S.Nodup/\S.length<=10000/\∀ st kv ms H',aB H H'->H st=none->H' st=some (.dK kv)->Kys kv ms->ms.Nodup->(∀ t,t∈ms↔Led ws (fld s) S t)->Q (.ref st) H'
noncomputable abbrev nP:List Str:=["self","leads","things","fields","t"]
theorem lV:av nP ["self","leads","things"] (ar iu):=fsc
theorem BI(F:Fun K "led_among" "Heap.led_among" iu D.bt D.eK)(T:Txt K mg D)
  (ou:9e7 2 D.eS D.kz ["value","things"] (Za))
  (uT:9e7 1 D.fV D.mF ["view"] (QC)):9e7 3 D.bt D.eK ["self","leads","things"] (N2 D):=by
 refine F.oa lV F.b3 λcdv A' outer s' H vs Q E hr h=>?_;obtain⟨x,A,s,l,xs,ws,d,kvs,S,rfl,J,G,hl,rx,hw,hd,hk,hin,hnd,XD,k⟩:=h;have hu:=i9 hr;refine⟨_,(PSs.nox (ak (aN (i:=3) lV.nd rfl 1e4 kg)
  (ak (fP aom rfl (yV (GZ (pv 2))) (aX (i:=4) lV.nd rfl 1e4)
   (ai (pG hu (pv 3) (pv 4) (tK (cl:=[("things",s'.heap.objs.size+1)]) (x := "value") (idx:=[2]) (NC:=["value","things"]) ?co2 rfl (gS (ip hu 1e5 (pv 4) 1e7)) (λC fp s₀ H₀=>(ou.c hr T.yW T.oq II (aa (pv 0) 1e9)))) rfl)))
  (ai (aG (V0 (uT.c hr T.L0 T.uL aY (aa (fE (aa (tK (cl:=[("things",s'.heap.objs.size+1)]) (x := "value") (idx:=[2]) (NC:=["value","things"]) ?co1 rfl (gS (pv 1)) (λC fp s₀ H₀=>(ou.c hr T.yW T.oq II (aa (pv 0) 1e9)))) (aa (pv 3) aj))) aj)))))))),?_⟩
 case co1 =>
  exact lA (sc:=ar iu) (N:=nP) (ns:=["things"]) rfl rfl rfl (by decide +kernel) rfl rfl (by
   intro q hq;rw[an7.mp hq];rfl)
 case co2 =>
  exact lA (sc:=ar iu) (N:=nP) (ns:=["things"]) rfl rfl rfl (by decide +kernel) rfl rfl (by
   intro q hq;rw[an7.mp hq];rfl)
 intro fa hfa;have s1:=aB.upd (o:=.dK []) hfa;refine⟨_,rfl,d,kvs,s1 _ _ hd,λo=>?_⟩;have nfd:fa≠d:=aol (aq hd hfa);have xd:x≠d:=az J.ax hd 1e0;have ld:l≠d:=az hl hd 1e0;have okH:∀ Hc:Hp,((∀ b u,b≠d->H b=some u->Hc b=some u)/\Hc d=some (.frz o (.dK kvs)))->b7 H Hc:=λHc oc b us q=>oc.1 b _ (az q hd 1e0) q;have dg:∀ {Hc:Hp},((∀ b u,b≠d->H b=some u->Hc b=some u)/\Hc d=some (.frz o (.dK kvs)))->∀ {t:Int} {ws:List Wd},(t,ws)∈s.aT->tX Hc A.fh (.int t) (some (.ref (A.fa t))):=λ{Hc} oc {t ws} m=>by
  have e:ie (s.aT.map (fkv A)) (Sum.inl t)=some (.ref (A.fa t)):=by rw[V5,G.get m];rfl
  by_cases c:A.fh=d
  ·have ek:kvs=s.aT.map (fkv A):=by
    have:=J.afh
    rw[c,hd]at this;injection this with this;injection this
   exact .inl ⟨kvs,Sum.inl t,.inr ⟨o,by rw[c];exact oc.2⟩,rfl,by rw[ek,e]⟩
  ·exact .inl ⟨_,Sum.inl t,.inl (oc.1 _ _ c J.afh),rfl,e.symm⟩
 have lk:=hk.len;refine⟨d,o,kvs,rfl,ag,Dt (d:=d) (o:=o) (kvs:=kvs) (λi σ Hc=>∃(v4:Option V) (ad:Int->Addr),σ=[some (.ref x),some (.ref l),some (.ref d),some (.ref fa),v4]/\((∀ b u,b≠d->H b=some u->Hc b=some u)/\Hc d=some (.frz o (.dK kvs)))/\Hc fa=some (.dK ((S.take i).map λt=>(Sum.inl t,.ref (ad t))))/\∀ t∈S.take i,Hc (ad t)=some (.lst (((fld s t).map (amg S)).map nmV)))
  ⟨none,λ_=>0,rfl,⟨λb u n q=>by rw[af n];exact s1 b u q,ag⟩,by rw[af nfd];exact ag,(λt h=>nomatch h)⟩ (λi σ Hc _ ⟨_,_,_,oc,_⟩=>oc.2) ?_ ?_⟩
 ·rintro i p σ Hc hi ⟨v4,ad,rfl,oc,hf,UY⟩
  obtain⟨t,ht,ekv,ep⟩:=hk.at_ hi;have hlt:i<S.length:=(an5.mp ht).1;have et:S[i]=t:=(an5.mp ht).2;have mt:t∈S:=an9 ht;obtain⟨w0,m⟩:=hin t mt;obtain⟨hl0,rl⟩:=J.afl _ _ m;have tc:=okH Hc oc;have fm:=G.fld m;rw[<-fm]at rl;have nl:A.fa t≠d:=az hl0 hd 1e0;have hlc:=oc.1 _ _ nl hl0;have f6:=G.f6 _ _ m;rw[<-fm]at f6;have lz:(fld s t).length<=sizeLine:=Dr 1e1;refine⟨_,rfl,x,D.ab,_,_,.ref A.fh,rfl,oc.1 _ _ xd J.ax,T.ae,T.aC,tT,_,rfl,A.fh,.ref (A.fa t),rfl,(by rw[ekv];exact dg oc m),A.fa t,rfl,⟨_,SqL.of hlc⟩,λL hL=>?_⟩;refine lr (K:=K) (a:=A.fa t) (xs:=A.fx t) (λi ys H2=>ys=((fld s t).take i).map (λw=>nmV (amg S w))/\aB Hc H2/\H2 L=some (.lst ys)) ⟨rfl,aB.upd hL,ag⟩ (λi ys H2 hi ⟨e,_,z⟩=>⟨z,by rw[e,an6,aoj,<-rl.1];omega⟩) (λi ys H2 hi ⟨_,s2,_⟩=>SqL.of (s2 _ _ hlc)) (by rw[rl.1];exact lz) (λi y ys H2 hi ⟨e,s2,z⟩=>?_) (λys H2 ⟨e,s2,z⟩=>?_)
  ·obtain⟨wd,hw,wv⟩:=Td rl hi
   refine⟨_,rfl,_,rfl,y,wd,d,kvs,S,rfl,wv.keep (tc.trans (b7.of s2)),.inr ⟨o,s2 _ _ oc.2⟩,hk,z,?_,λb u q=>by rw[af (aq q hL)];exact s2 b u q,ag⟩;have hlt:i<(fld s t).length:=(an5.mp hw).1;rw[aoz hlt,aon,e,(an5.mp hw).2];rfl
  ·rw[rl.1,aoh (aoa _)]at e
   have zf:H2 fa=some (.dK ((S.take i).map λt=>(Sum.inl t,.ref (ad t)))):=s2 _ _ hf;have kyf:Kys ((S.take i).map λt=>((Sum.inl t:Key),V.ref (ad t))) (S.take i):=(by unfold Kys;rw[aoM];rfl);have ni:t∉S.take i:=λz=>by
    have:=ao0.mp (show(S.take i++S.drop i).Nodup by rw[apH];exact hnd)
    exact this.2.2 t z t (by rw[apt hlt,et];exact aow) rfl
   have nLf:L≠fa:=aol (aq hf hL);refine⟨_,rfl,_,rfl,fa,_,rfl,(by rw[ekv];exact G9.k (k:=Sum.inl t) zf (by rw[an6,aoj];exact ur 1e1)),?_⟩;rw[xU _ (kyf.non ni)];refine⟨_,λu=>if u=t then L else ad u,rfl,⟨λb u n q=>?_,?_⟩,?_,λu hu'=>?_⟩
   ·rw[af (aq q hfa)]
    exact s2 _ _ (oc.1 b u n q)
   ·rw[af (aol nfd)]
    exact s2 _ _ oc.2
   ·rw[ag,aoz hlt,aon,et]
    congr 3
    ·refine ao3 λu hu'=>?_
     dsimp only;rw[if_neg λz=>ni (by rw[<-z];exact hu')]
    ·simp only[aov,apG,if_true]
   ·rw[aoz hlt,et]at hu'
    dsimp only;by_cases c:u=t
    ·subst c
     rw[if_pos rfl,af nLf,z,e,aoM];rfl
    ·rw[if_neg c]
     have mu:u∈S.take i:=(aot.mp hu').resolve_right λz=>c (an7.mp z);have q:=UY u mu;rw[af (λz=>by rw[z,hf]at q;cases q)];exact s2 _ _ q
 ·rintro σ Hc ⟨v4,ad,rfl,oc,hf,UY⟩
  rw[lk,aoh (aoa _)]at hf UY;have tc:=okH Hc oc;have hlc:=oc.1 _ _ ld hl;have lz:ws.length<=sizeLine:=aou hw 2e1;have rl:=rx;refine⟨_,rfl,l,rfl,⟨_,SqL.of hlc⟩,λL hL=>?_⟩;refine lr (K:=K) (a:=l) (xs:=xs) (λi ys H2=>ys=(ws.take i).map (λw=>nmV (amg S w))/\aB Hc H2/\H2 L=some (.lst ys)) ⟨rfl,aB.upd hL,ag⟩ (λi ys H2 hi ⟨e,_,z⟩=>⟨z,by rw[e,an6,aoj,<-rl.1];omega⟩) (λi ys H2 hi ⟨_,s2,_⟩=>SqL.of (s2 _ _ hlc)) (by rw[rl.1];exact lz) (λi y ys H2 hi ⟨e,s2,z⟩=>?_) (λys H2 ⟨e,s2,z⟩=>?_)
  ·obtain⟨wd,hw,wv⟩:=Td rl hi
   refine⟨_,rfl,_,rfl,y,wd,d,kvs,S,rfl,wv.keep (tc.trans (b7.of s2)),.inr ⟨o,s2 _ _ oc.2⟩,hk,z,?_,λb u q=>by rw[af (aq q hL)];exact s2 b u q,ag⟩;have hlt:i<ws.length:=(an5.mp hw).1;rw[aoz hlt,aon,e,(an5.mp hw).2];rfl
  ·rw[rl.1,aoh (aoa _)]at e
   refine⟨_,rfl,by show 2<=sizeLine;decide,λv hv=>?_⟩;have s3:=aB.upd (o:=.tup [V.ref L,V.ref fa]) hv;have s4:=s2.trans s3;have bk:∀ {b:Addr},upd H2 v (.tup [V.ref L,V.ref fa]) b=none->H b=none:=λ{b} q=>by
    cases z:H b with
    | none=>rfl
    | some u =>
     by_cases c:b=d
     ·rw[c,s4 _ _ oc.2]at q;cases q
     ·rw[s4 _ _ (oc.1 b u c z)]at q;cases q
   refine⟨v,L,fa,ws.map (amg S),S,λt=>(fld s t).map (amg S),ad,rfl,ag,by rw[s3 _ _ z,e,aoM];rfl,s4 _ _ hf,λt m=>s4 _ _ (UY t m),λt m=>?_,λu _ t m=>?_,XD,λst kv ms H5 s5 hst h5 k5 n5 m5=>?_⟩
   ·obtain⟨w,_,ew⟩:=aoy.mp m
    exact(uu.mp ew).2
   ·obtain⟨w,_,ew⟩:=aoy.mp m
    exact(uu.mp ew).2
   ·have fd5:=s5 _ _ (s4 _ _ oc.2)
    refine⟨d,o,kvs,fd5,(λo' u' q=>by have q:H d=some (.frz o' u'):=q;rw[hd]at q;cases q),?_⟩;have nst:st≠d:=λq=>by rw[q,fd5]at h5;cases h5
    refine k st kv ms _ (λb u q=>?_) (bk hst) (by rw[af nst];exact h5) k5 n5 λt=>(m5 t).trans ZW;by_cases c:b=d
    ·subst c
     rw[hd]at q;cases q;exact ag
    ·rw[af c]
     exact s5 _ _ (s4 _ _ (oc.1 b u c q))
theorem lookup_mem{α:Type}{fs:List (Int×α)}{t:Int}{w:α}(m:(t,w)∈fs):∃ v,fs.lookup t=some v:=by
 cases e:fs.lookup t with
 | some v=>exact⟨v,rfl⟩
 | none=>exact absurd rfl (lookup_none e _ m)
theorem Uo(gs:List Int):(gs.map V.int).all mV=true:=api.mpr λv hv=>by obtain⟨n,_,rfl⟩:=aoy.mp hv;rfl
theorem Yc(n:Option Int):mV (nmV n)=true:=by cases n<;>rfl
theorem Sz{gs:List Int}(h:gs.Pairwise (·< ·)){i:Nat}{t:Int}(e:gs[i]?=some t):t∉gs.take i:=λm=>by
 have hlt:=(an5.mp e).1;have et:=(an5.mp e).2
 have:=apL.mp (show(gs.take i++gs.drop i).Pairwise (·< ·) by rw[apH];exact h)
 have:=this.2.2 t m t (by rw[apt hlt,et];exact aow)
 omega
theorem take_snoc{α:Type}{gs:List α}{i:Nat}{t:α}(e:gs[i]?=some t):gs.take (i+1)=gs.take i++[t]:=by rw[aoz (an5.mp e).1,(an5.mp e).2]
theorem V9(bs:List (Int×Int))(gs:List Int):(sdG bs gs).length<=gs.length:=List.length_filterMap_le _ _
noncomputable def Tf(D:Ad):Sp:=λvs H Q _=>∃ x A s g gs,vs=[.ref A.nt,.ref g]/\IH D H x A s/\s.names.length=8/\H g=some (.lst (gs.map V.int))/\∀ A' H',IH D H' x A' {s with names:=s.names.map (nmG gs)}->Fr (bD x A s) H (bD x A' {s with names:=s.names.map (nmG gs)}) H'->Q .non H'
noncomputable abbrev qq:List Str:=["self","things"]
theorem yc:av qq ["self","things"] (ar iV):=fsc
theorem yd(F:Fun K "settle" "NameTable.settle" iV D.cC D.gx)(T:Txt K mg D):9e7 1 D.cC D.gx ["self","things"] (Tf D):=by
 refine F.oa yc F.b2 λcdv A' outer s' H vs Q E hr h=>?_;obtain⟨x,A,s,g,gs,rfl,J,h8,hg,k⟩:=h;refine⟨_,(PSs.nox (ai (iM (pv 0) (tK (cl:=[("things",s'.heap.objs.size+1)]) (x := "t") (idx:=[1]) (NC:=["t","things"]) ?co1 rfl (gS 1e5) (λC fp s₀ H₀=>(rC (aJ (r:=rIn K false) Lm (pv 0) (pv 1) (by with_unfolding_all rfl)) c8 (pv 0)))) rfl))),?_⟩
 case co1 =>
  exact lA (sc:=ar iV) (N:=qq) (ns:=["things"]) rfl rfl rfl (by decide +kernel) rfl rfl (by
   intro q hq;rw[an7.mp hq];rfl)
 refine⟨_,rfl,A.nt,D.aD,A.ntx,_,.ref A.nl,rfl,J.ant,T.dM,T.bV,rfl,A.nl,rfl,⟨_,SqL.of J.anl⟩,λL hL=>?_⟩;refine lr (K:=K) (a:=A.nl) (xs:=s.names.map nmV) (λi zs H2=>zs=((s.names.take i).map (nmG gs)).map nmV/\aB H H2/\H2 L=some (.lst zs)) ⟨rfl,aB.upd hL,ag⟩ (λi zs H2 hi ⟨e,_,z⟩=>⟨z,by rw[an6]at hi;rw[e,an6,an6,aoj];omega⟩) (λi zs H2 hi ⟨_,s2,_⟩=>SqL.of (s2 _ _ J.anl)) (by rw[an6,h8];decide) (λi y zs H2 hi ⟨e,s2,z⟩=>?_) (λzs H2 ⟨e,s2,z⟩=>?_)
 ·rw[aog]at hi
  obtain⟨n,hn,rfl⟩:=aoo.mp hi;have tk:=take_snoc hn;refine⟨_,rfl,_,rfl,g,_,rfl,.inl (SqL.of (s2 _ _ hg)),Yc n,Uo gs,_,rfl,?_⟩;have sm:∀ {o:HO},aB H (upd H2 L o):=λb u q=>by rw[af (aq q hL)];exact s2 b u q
  show if inV (nmV n) (gs.map V.int)=true then _ else _;rw[acE (f:=nmV) rfl (λ_=>rfl),tk,e];cases n with
  | none =>
   refine tW ⟨_,rfl,z.trans (by rw[e]),?_,sm,ag⟩;rw[aon,aon];rfl
  | some t =>
   show if decide (t∈gs)=true then _ else _;by_cases c:t∈gs
   ·rw[decide_eq_true c]
    refine u9 ⟨z.trans (by rw[e]),?_,sm,ag⟩;rw[aon,aon];simp[nmG,c,nmV]
   ·rw[decide_eq_false c]
    refine tW ⟨_,rfl,z.trans (by rw[e]),?_,sm,ag⟩;rw[aon,aon];simp[nmG,c,nmV]
 ·rw[an6,aoh (aoa _)]at e
  rw[e]at z;refine⟨_,rfl,A.nt,D.aD,A.ntx,_,rfl,s2 _ _ J.ant,T.dM,T.bV,by show 1<1000;decide,?_⟩;have w:=J.anD (ns:=s.names.map (nmG gs)) hL;have sm:aB (upd (upd H L (.lst ((s.names.map (nmG gs)).map nmV))) A.nt (.ins D.aD A.ntx [("things_named",.ref L)])) (upd H2 A.nt (.ins D.aD A.ntx [("things_named",.ref L)])):=λb u q=>by
   by_cases c:b=A.nt
   ·rw[c,ag]at q ⊢;exact q
   ·rw[af c]at q ⊢
    by_cases c2:b=L
    ·rw[c2,ag]at q;rw[c2,z];exact q
    ·rw[af c2]at q;exact s2 b u q
  exact k _ _ (w.1.same sm) (w.2.trans (Fr.same sm))
noncomputable def wsF(s:HS)(gs:List Int):HS:={s with cu:=brG s.cu gs,wU:=s.wU++sdG s.cu gs}
theorem Tg{s:HS}:wsF s []=s:=by cases s;simp[wsF,brG,sdG]
noncomputable def Th(D:Ad):Sp:=λvs H Q _=>∃ x A s g gs,vs=[.ref A.wt,.ref g]/\IH D H x A s/\H g=some (.lst (gs.map V.int))/\gs.Pairwise (·< ·)/\gs.length<=10000/\s.wU.length<=10000/\∀ A' H',IH D H' x A' (wsF s gs)->Fr (bD x A s) H (bD x A' (wsF s gs)) H'->Q .non H'
noncomputable abbrev zP:List Str:=["self","things","t"]
theorem pL:av zP ["self","things"] (ar kG):=fsc
theorem ye(F:Fun K "settle" "WordTable.settle" kG D.cB D.gv)(T:Txt K mg D):9e7 1 D.cB D.gv ["self","things"] (Th D):=by
 refine F.oa pL F.b2 λcdv A' outer s' H vs Q E hr h=>?_;obtain⟨x,A,s,g,gs,rfl,J,hg,asc,hn,hsd,k⟩:=h;have hu:=i9 hr;refine⟨_,(PSs.nox (ai (fP aom rfl (gS (cz Oj rfl T.Du PyProof.Rows.Boot.«sorted» 1e9)) (aX (i:=2) pL.nd rfl 1e4)
   (ai (bI (ui (VS hu (pv 2) 1e5) (by with_unfolding_all rfl))
    (ai (aI (Rb PySem.F.plainAttrs_list PySem.F.slot_list_append PySem.F.type_list_append yK 1e5 (aa (Jl 1e5 (pv 2) ⟨rfl,rfl,rfl,rfl⟩) aj))))
    aO))))),?_⟩
 refine⟨_,rfl,g,gs,rfl,SqL.of hg,by omega,asc.imp λh=>Int.le_of_lt h,λp hp=>?_⟩;have s1:=aB.upd (o:=.lst (gs.map V.int)) hp;have J1:=J.same s1;have nfp:¬bD x A s p:=J.fresh hp;refine⟨p,rfl,⟨_,SqL.of ag⟩,kR (K:=K) (a:=p) (xs:=gs.map V.int) (λi σ H2=>∃ v2,σ=[some (.ref A.wt),some (.ref g),v2]/\IH D H2 x A (wsF s (gs.take i))/\Fr (bD x A s) (upd H p (.lst (gs.map V.int))) (bD x A (wsF s (gs.take i))) H2)
  ⟨none,rfl,(by rw[apk,Tg];exact J1),(by rw[apk,Tg];exact Fr.refl)⟩ (λi σ H2 _ ⟨_,_,_,fr⟩=>SqL.of (fr.out nfp ag).1) ?_ ?_⟩
 ·rintro i y σ H2 hi ⟨v2,rfl,J2,fr⟩
  rw[aog]at hi;obtain⟨t,ht,rfl⟩:=aoo.mp hi;have ni:=Sz asc ht;have tk:=take_snoc ht;have hi':=(an5.mp ht).1;have lk:(brG s.cu (gs.take i)).lookup t=s.cu.lookup t:=RK ni;have vb:ie ((wsF s (gs.take i)).cu.map bkv) (Sum.inl t)=(s.cu.lookup t).map V.int:=by rw[abO];show((brG s.cu (gs.take i)).lookup t).map V.int=_;rw[lk]
  refine⟨_,rfl,_,rfl,A.wt,D.aL,A.wtx,_,.ref A.wb,rfl,J2.awt,T.c0,T.bH,rfl,A.wb,_,rfl,tX.k (k:=Sum.inl t) J2.awb,_,rfl,?_⟩;rw[vb,apb];cases e:s.cu.lookup t with
  | none =>
   have es:wsF s (gs.take (i+1))=wsF s (gs.take i):=by
    unfold wsF;rw[tk,QA,QB,e,filter_none (by rw[lk];exact e)];simp
   rw[es];exact tW ⟨_,rfl,J2,fr⟩
  | some v =>
   have es:wsF s (gs.take (i+1))={wsF s (gs.take i) with cu:=(brG s.cu (gs.take i)).filter λp=>decide (p.1≠t),wU:=(s.wU++sdG s.cu (gs.take i))++[v]}:=by
    unfold wsF;rw[tk,QA,QB,e];simp
   rw[es];rw[e]at vb;refine u9 ⟨_,rfl,A.wt,D.aL,A.wtx,_,.ref A.wl,rfl,J2.awt,T.c0,T.lB,rfl,.inl ⟨rfl,_,SqL.of J2.awl⟩,?_⟩;refine⟨_,rfl,A.wt,D.aL,A.wtx,_,.ref A.wb,rfl,J2.awt,T.c0,T.bH,rfl,A.wb,rfl,.inl ⟨_,.inl J2.awb⟩,_,rfl,_,Sum.inl t,.int v,J2.awb,rfl,vb,?_⟩;rw[show vS ((wsF s (gs.take i)).cu.map bkv) (Sum.inl t)=((brG s.cu (gs.take i)).filter λp=>decide (p.1≠t)).map bkv from X8];have w1:=J2.ajm (bs:=(brG s.cu (gs.take i)).filter λp=>decide (p.1≠t));have w2:=w1.1.anv (zs:=(s.wU++sdG s.cu (gs.take i))++[v]);refine⟨A.wl,_,.int v,rfl,rfl,w1.1.awl,ur ?_,?_⟩
   ·have:=V9 s.cu (gs.take i)
    rw[aoj]at this;show((s.wU++sdG s.cu (gs.take i)).map V.int).length<=20000;rw[an6,aof];omega
   ·rw[aon]at w2
    exact⟨_,rfl,w2.1,(fr.trans w1.2).trans w2.2⟩
 ·rintro σ H2 ⟨v2,rfl,J2,fr⟩
  rw[an6,aoh (aoa _)]at J2 fr;exact k _ _ J2 ((Fr.same s1).trans fr)
noncomputable def Jr(D:Ad):Sp:=λvs H Q _=>∃ x A s g gs,vs=[.ref x,.ref g]/\IH D H x A s/\s.names.length=8/\¬bD x A s g/\H g=some (.lst (gs.map V.int))/\gs.Pairwise (·< ·)/\gs.length<=10000/\s.wU.length<=10000/\(∀ t∈gs,∃ ws,(t,ws)∈s.aT)/\∀ A' H',IH D H' x A' (letGo s gs)->Fr (bD x A s) H (bD x A' (letGo s gs)) H'->Q .non H'
noncomputable abbrev JZ:List Str:=["self","gone","t"]
theorem wW:av JZ ["self","gone"] (ar sL):=fsc
theorem HF(F:Fun K "let_go" "Heap.let_go" sL D.cZ D.jo)(T:Txt K mg D)
  (kL:9e7 1 D.cC D.gx ["self","things"] (Tf D))
  (kM:9e7 1 D.cB D.gv ["self","things"] (Th D)):9e7 2 D.cZ D.jo ["self","gone"] (Jr D):=by
 refine F.oa wW F.b2 λcdv A' outer s' H vs Q E hr h=>?_;obtain⟨x,A,s,g,gs,rfl,J,h8,nfg,hg,asc,hn,hsd,hin,k⟩:=h;refine⟨_,(PSs.nox (ak (fP aom rfl (gS (pv 1)) (aX (i:=2) wW.nd rfl 1e4)
   (ai (aI (Jl 1e5 (pv 2) ⟨rfl,rfl,rfl,rfl⟩))))
  (ak (aI (kL.m hr 1e5 T.dM T.xW aY 1e9))
  (ai (aI (kM.m hr 1e5 T.c0 T.xV aY 1e9)))))),?_⟩
 refine⟨_,rfl,g,rfl,⟨_,SqL.of hg⟩,kR (K:=K) (a:=g) (xs:=gs.map V.int) (λi σ H2=>∃ v2,σ=[some (.ref x),some (.ref g),v2]/\IH D H2 x A {s with aT:=drG s.aT (gs.take i)}/\Fr (bD x A s) H (bD x A {s with aT:=drG s.aT (gs.take i)}) H2)
  ⟨none,rfl,(by rw[apk,Tc];exact J),(by rw[apk,Tc];exact Fr.refl)⟩ (λi σ H2 _ ⟨_,_,_,fr⟩=>SqL.of (fr.out nfg hg).1) ?_ ?_⟩
 ·rintro i y σ H2 hi ⟨v2,rfl,J2,fr⟩
  rw[aog]at hi;obtain⟨t,ht,rfl⟩:=aoo.mp hi;have ni:=Sz asc ht;have tk:=take_snoc ht;obtain⟨ws,m⟩:=hin t (an9 ht);obtain⟨v,hv⟩:=lookup_mem (kD.mpr ⟨m,ni⟩);have vf:ie ((drG s.aT (gs.take i)).map (fkv A)) (Sum.inl t)=some (.ref (A.fa t)):=by rw[V5,hv];rfl
  refine⟨_,rfl,x,D.ab,_,_,.ref A.fh,rfl,J2.ax,T.ae,T.aC,tT,A.fh,rfl,.inl ⟨_,.inl J2.afh⟩,_,rfl,_,Sum.inl t,_,J2.afh,rfl,vf,?_⟩;have w:=J2.acD (t:=t);rw[X7];rw[tk,Vy];exact⟨_,rfl,w.1,fr.trans w.2⟩
 ·rintro σ H2 ⟨v2,rfl,J2,fr⟩
  rw[an6,aoh (aoa _)]at J2 fr;obtain⟨hg2,nf2⟩:=fr.out nfg hg;refine⟨_,rfl,x,D.ab,_,_,.ref A.nt,rfl,J2.ax,T.ae,T.dD,UM,A.nt,A.ntx,_,rfl,J2.ant,rfl,_,rfl,x,A,_,g,gs,rfl,J2,h8,hg2,λA3 H3 J3 fr3=>?_⟩;obtain⟨hg3,nf3⟩:=fr3.out nf2 hg2;refine⟨_,rfl,x,D.ab,_,_,.ref A3.wt,rfl,J3.ax,T.ae,T.iS,Y8,A3.wt,A3.wtx,_,rfl,J3.awt,rfl,_,rfl,x,A3,_,g,gs,rfl,J3,hg3,asc,hn,hsd,λA4 H4 J4 fr4=>?_⟩;exact k A4 H4 J4 ((fr.trans fr3).trans fr4)
noncomputable def QD(fs:List (Int×List Wd))(yn:List Int):List Wd:=fs.flatMap λq=>if q.1∈yn then[] else q.2
noncomputable def Lc(s:HS):List Wd:=s.aW++QD s.aT s.yng
theorem LD{fs:List (Int×List Wd)}{q:Int×List Wd}{yn:List Int}:QD (fs++[q]) yn=QD fs yn++(if q.1∈yn then[] else q.2):=by unfold QD;rw[List.flatMap_append];simp
theorem Ti{fs:List (Int×List Wd)}{yn:List Int}(h:∀ t ws,(t,ws)∈fs->ws.length<=6):(QD fs yn).length<=6*fs.length:=by
 induction fs with
 | nil=>exact aoa _
 | cons q r ih =>
  have i:=ih λt ws m=>h t ws (aox _ m)
  have:=h q.1 q.2 aow
  show((if q.1∈yn then[] else q.2)++QD r yn).length<=6*(r.length+1);rw[aof];by_cases c:q.1∈yn
  ·rw[if_pos c];simp;omega
  ·rw[if_neg c];omega
theorem VA{fs:List (Int×List Wd)}{yn:List Int}{w:Wd}:w∈QD fs yn↔∃ t ws,(t,ws)∈fs/\t∉yn/\w∈ws:=by
 unfold QD;rw[List.mem_flatMap];constructor
 ·rintro⟨q,mq,h⟩
  by_cases c:q.1∈yn
  ·rw[if_pos c]at h;cases h
  ·rw[if_neg c]at h;exact⟨q.1,q.2,mq,c,h⟩
 ·rintro⟨t,ws,m,c,h⟩
  exact⟨(t,ws),m,by rw[if_neg c];exact h⟩
open Classical in
noncomputable def pS(s:HS):List Int:=s.yng.filter λt=>decide (¬Led (Lc s) (fld s) s.yng t)
noncomputable def pT(s:HS):HS:=letGo {s with yng:=[]} (pS s)
open Classical in
noncomputable def Ld(s:HS):List Int:=(keys s).filter λt=>decide (¬Led s.aW (fld s) (keys s) t)
noncomputable def Yd(s:HS):HS:={s with rnd:=true,dU:=Ld s}
noncomputable def G0(s:HS):Re:=if s.rnd=true then(some .on,s) else(none,Yd (pT s))
noncomputable def Zb(s:HS):HS:=letGo {s with rnd:=false,dU:=[]} s.dU
noncomputable def Wa(s:HS):Re:=if s.rnd=true then(none,Zb s) else(some .no,s)
open Classical in
noncomputable def uw(s:HS)(t:Int):HS:={s with dU:=s.dU.filter λu=>decide (¬Led [.th t] (fld s) s.dU u)}
noncomputable def rdR(s:HS)(n:Option Int):HS:=match n with|some t=>if t∈s.dU then uw s t else s|none=>s
noncomputable def qU(s:HS)(h w:Int):Re:=if ok8 h then(if ok8 w then(none,rdR (oZ s h (nmW (s.names.getD w.toNat none))) (s.names.getD w.toNat none)) else(some .name,s)) else(some .hand,s)
noncomputable def mkR(s:HS)(n:Int):HS:=if s.my=true/\wsum s s.yng+(n+1)>s.room then pT s else s
noncomputable def qV(s:HS)(h n:Int):Re:=if ok8 h then(if 0<=n/\n<=6 then(if held (mkR s n)+(n+1)>s.limit then(some .room,mkR s n) else(none,RJ (mkR s n) h n)) else(some .count,s)) else(some .hand,s)
theorem qJ{l ms:List Int}{p:Int->Bool}(h:∀ t∈l,(p t=true↔t∉ms)):l.filter p=l.filter λt=>decide (t∉ms):=ao1 λt m=>by
 have:=h t m
 by_cases c:t∈ms
 ·simp only[c,not_true,decide_false]
  cases e:p t with
  | false=>rfl
  | true=>exact absurd (this.mp e) (by simp[c])
 ·simp only[c,not_false_eq_true,decide_true]
  exact this.mpr c
open Classical in
theorem Up{s:HS}{ms:List Int}(h:∀ t,t∈ms↔Led (Lc s) (fld s) s.yng t):(s.yng.filter λt=>decide (t∉ms))=pS s:=by
 unfold pS;refine(qJ λt _=>?_).symm;rw[decide_eq_true_iff,h]
open Classical in
theorem VB{s:HS}{ms:List Int}(h:∀ t,t∈ms↔Led s.aW (fld s) (keys s) t):((keys s).filter λt=>decide (t∉ms))=Ld s:=by
 unfold Ld;refine(qJ λt _=>?_).symm;rw[decide_eq_true_iff,h]
open Classical in
theorem VC{s:HS}{t:Int}{ms:List Int}(h:∀ u,u∈ms↔Led [.th t] (fld s) s.dU u):{s with dU:=s.dU.filter λu=>decide (u∉ms)}=uw s t:=by
 unfold uw;congr 1
 refine(qJ λu _=>?_).symm;rw[decide_eq_true_iff,h]
theorem Ye{H:Hp}{xs ys:List V}{ws zs:List Wd}(a:Rel H xs ws)(b:Rel H ys zs):Rel H (xs++ys) (ws++zs):=by
 refine⟨by rw[aof,aof,a.1,b.1],λi v w h1 h2=>?_⟩;by_cases c:i<xs.length
 ·rw[aoO c]at h1
  rw[aoO (by rw[<-a.1];exact c)]at h2;exact a.2 i v w h1 h2
 ·rw[aoI 1e1]at h1
  rw[aoI (by rw[<-a.1];omega),<-a.1]at h2;exact b.2 _ v w h1 h2
structure Gd(s:HS):Prop where
 g:Good s
 dy:∀ t∈s.dU,t∉s.yng
 dh:∀ t,Wd.th t∈s.aW->t∉s.dU
 df:∀ u ws t,(u,ws)∈s.aT->u∉s.dU->Wd.th t∈ws->t∉s.dU
 rd:s.rnd=false->s.dU=[]
theorem mem_keys{s:HS}{t:Int}:t∈keys s↔∃ ws,(t,ws)∈s.aT:=by
 unfold keys;rw[aoy];exact⟨λ⟨p,m,e⟩=>⟨p.2,by rw[<-e];exact m⟩,λ⟨ws,m⟩=>⟨_,m,rfl⟩⟩
theorem Yg{fs:List (Int×List Wd)}{gs:List Int}(nd:gs.Nodup)(h:∀ t∈gs,∃ ws,(t,ws)∈fs):(drG fs gs).length+gs.length<=fs.length:=by
 have e:fs.length=(fs.filter λp=>decide (p.1∉gs)).length+(fs.filter λp=>!decide (p.1∉gs)).length:=by
  clear h;induction fs with
  | nil=>rfl
  | cons p r ih =>
   rw[List.filter_cons,List.filter_cons];by_cases c:p.1∈gs
   ·simp[c]at ih ⊢;omega
   ·simp[c]at ih ⊢;omega
 have le:gs.length<=((fs.filter λp=>!decide (p.1∉gs)).map (·.1)).length:=uv nd λt m=>by
  obtain⟨ws,mw⟩:=h t m;exact aoy.mpr ⟨(t,ws),aoN.mpr ⟨mw,by simp[m]⟩,rfl⟩
 rw[an6]at le;unfold drG;omega
theorem Good.letGo{s:HS}(g:Good s){gs:List Int}(asc:gs.Pairwise (·< ·))(hin:∀ t∈gs,∃ ws,(t,ws)∈s.aT)(hh:∀ t,Wd.th t∈s.aW->t∉gs)(hf:∀ u ws t,(u,ws)∈s.aT->u∉gs->Wd.th t∈ws->t∉gs)(hy:∀ t∈s.yng,t∉gs)(hd:∀ t∈s.dU,t∉gs):Good (letGo s gs) where
 h8:=g.h8
 n8:=by show(s.names.map (nmG gs)).length=8;rw[an6];exact g.n8
 asc:=apo (List.Sublist.map _ apg) g.asc
 lt:=λt ws m=>g.lt t ws (kD.mp m).1
 f6:=λt ws m=>g.f6 t ws (kD.mp m).1
 hh:=λt m=>by obtain⟨ws,q⟩:=g.hh t m;exact⟨ws,kD.mpr ⟨q,hh t m⟩⟩
 ff:=λu ws t m h=>by obtain⟨w',q⟩:=g.ff u ws t (kD.mp m).1 h;exact⟨w',kD.mpr ⟨q,hf u ws t (kD.mp m).1 (kD.mp m).2 h⟩⟩
 nn:=λt m=>by
  obtain⟨n,mn,e⟩:=aoy.mp (show some t∈s.names.map (nmG gs) from m);cases n with
  | none=>cases e
  | some u =>
   have e:(if u∈gs then none else some u)=some t:=e;by_cases c:u∈gs
   ·rw[if_pos c]at e;cases e
   ·rw[if_neg c]at e
    cases e;obtain⟨ws,q⟩:=g.nn t mn;exact⟨ws,kD.mpr ⟨q,c⟩⟩
 b12:=aou (ao6 _ _) g.b12
 bk:=λt z m=>by
  have m:=aoN.mp (show(t,z)∈brG s.cu gs from m);obtain⟨ws,q⟩:=g.bk t z m.1;exact⟨ws,kD.mpr ⟨q,by simpa using m.2⟩⟩
 bnd:=apo (List.Sublist.map _ apg) g.bnd
 n0:=g.n0
 nx:=g.nx
 sd:=by
  have h1:=g.sd;have h2:=Yg (t5 asc) hin;have h3:=V9 s.cu gs;show((s.wU++sdG s.cu gs).length:Int)+(drG s.aT gs).length<=s.nxt;rw[aof];omega
 yk:=λt m=>by obtain⟨ws,q⟩:=g.yk t m;exact⟨ws,kD.mpr ⟨q,hy t m⟩⟩
 Ha:=g.Ha
 dk:=λt m=>by obtain⟨ws,q⟩:=g.dk t m;exact⟨ws,kD.mpr ⟨q,hd t m⟩⟩
 IV:=g.IV
theorem Good.noY{s:HS}(g:Good s):Good {s with yng:=[]}:=⟨g.h8,g.n8,g.asc,g.lt,g.f6,g.hh,g.ff,g.nn,g.b12,g.bk,g.bnd,g.n0,g.nx,g.sd,(λt m=>nomatch m),List.Pairwise.nil,g.dk,g.IV⟩
theorem Good.noD{s:HS}(g:Good s){b:Bool}:Good {s with rnd:=b,dU:=[]}:=⟨g.h8,g.n8,g.asc,g.lt,g.f6,g.hh,g.ff,g.nn,g.b12,g.bk,g.bnd,g.n0,g.nx,g.sd,g.yk,g.Ha,(λt m=>nomatch m),List.Pairwise.nil⟩
theorem Good.anH{s:HS}(g:Good s){b:Bool}{ds:List Int}(h:∀ t∈ds,∃ ws,(t,ws)∈s.aT)(a:ds.Pairwise (·< ·)):Good {s with rnd:=b,dU:=ds}:=⟨g.h8,g.n8,g.asc,g.lt,g.f6,g.hh,g.ff,g.nn,g.b12,g.bk,g.bnd,g.n0,g.nx,g.sd,g.yk,g.Ha,h,a⟩
theorem ji{s:HS}{t:Int}:t∈pS s↔t∈s.yng/\¬Led (Lc s) (fld s) s.yng t:=by unfold pS;rw[aoN];simp
theorem IY{s:HS}(g:Good s):(pS s).Pairwise (·< ·):=apo apg g.Ha
theorem LF{s:HS}(g:Good s):∀ t∈pS s,∃ ws,(t,ws)∈s.aT:=λt m=>g.yk t (ji.mp m).1
theorem Yh{s:HS}{t:Int}(h:Wd.th t∈s.aW):t∉pS s:=λm=>(ji.mp m).2 (.root (aoC _ h) (ji.mp m).1)
theorem ZY{s:HS}(g:Good s){u t:Int}{ws:List Wd}(m:(u,ws)∈s.aT)(hu:u∉pS s)(h:Wd.th t∈ws):t∉pS s:=λmt=>by
 by_cases c:u∈s.yng
 ·have lu:Led (Lc s) (fld s) s.yng u:=apu λz=>hu (ji.mpr ⟨c,z⟩)
  exact(ji.mp mt).2 (.step lu (by rw[g.fld m];exact h) (ji.mp mt).1)
 ·exact(ji.mp mt).2 (.root (aod _ (VA.mpr ⟨u,ws,m,c,h⟩)) (ji.mp mt).1)
theorem Gd.small{s:HS}(d:Gd s):Gd (pT s) where
 g:=d.g.noY.letGo (IY d.g) (LF d.g) (λt h=>Yh h) (λu ws t m hu h=>ZY d.g m hu h) (λt m=>nomatch m) (λt m z=>d.dy t m (ji.mp z).1)
 dy:=λt _ m=>nomatch m
 dh:=d.dh
 df:=λu ws t m hu h=>d.df u ws t (kD.mp m).1 hu h
 rd:=d.rd
theorem qW{s:HS}{t:Int}:t∈Ld s↔t∈keys s/\¬Led s.aW (fld s) (keys s) t:=by unfold Ld;rw[aoN];simp
theorem Gd.beg{s:HS}(d:Gd s)(hy:s.yng=[]):Gd (Yd s) where
 g:=d.g.anH (λt m=>mem_keys.mp (qW.mp m).1) (apo apg d.g.asc)
 dy:=λt _ m=>by rw[show(Yd s).yng=[] from hy]at m;cases m
 dh:=λt h m=>(qW.mp m).2 (.root h (qW.mp m).1)
 df:=λu ws t m hu h mt=>by
  have lu:Led s.aW (fld s) (keys s) u:=apu λz=>hu (qW.mpr ⟨mem_keys.mpr ⟨ws,m⟩,z⟩);exact(qW.mp mt).2 (.step lu (by rw[d.g.fld m];exact h) (qW.mp mt).1)
 rd:=λh=>by cases h
theorem Gd.fin{s:HS}(d:Gd s):Gd (Zb s) where
 g:=d.g.noD.letGo d.g.IV d.g.dk (λt h=>d.dh t h) (λu ws t m hu h=>d.df u ws t m hu h) (λt m z=>d.dy t z m) (λt m=>nomatch m)
 dy:=λt m=>nomatch m
 dh:=λt _ m=>nomatch m
 df:=λu ws t _ _ _ m=>nomatch m
 rd:=λ_=>rfl
theorem t7{s:HS}{t u:Int}:u∈(uw s t).dU↔u∈s.dU/\¬Led [.th t] (fld s) s.dU u:=by unfold uw;rw[aoN];simp
structure GdN(s:HS):Prop where
 g:Good s
 dy:∀ t∈s.dU,t∉s.yng
 df:∀ u ws t,(u,ws)∈s.aT->u∉s.dU->Wd.th t∈ws->t∉s.dU
 rd:s.rnd=false->s.dU=[]
theorem Good.acF{s:HS}(g:Good s){ds:List Int}(h:ds.Sublist s.dU):Good {s with dU:=ds}:=⟨g.h8,g.n8,g.asc,g.lt,g.f6,g.hh,g.ff,g.nn,g.b12,g.bk,g.bnd,g.n0,g.nx,g.sd,g.yk,g.Ha,(λt m=>g.dk t (h.subset m)),g.IV.sublist h⟩
theorem Gd.acG{s:HS}(d:GdN s){t:Int}(ht:t∈s.dU)(hh:∀ u,Wd.th u∈s.aW->u=t\/u∉s.dU):Gd (uw s t) where
 g:=d.g.acF apg
 dy:=λu m=>d.dy u (t7.mp m).1
 dh:=λu h m=>by
  rcases hh u h with e|e
  ·exact(t7.mp m).2 (by rw[e];exact .root aow ht)
  ·exact e (t7.mp m).1
 df:=λu ws v m hu h mv=>by
  obtain⟨v1,v2⟩:=t7.mp mv;by_cases c:u∈s.dU
  ·have lu:Led [.th t] (fld s) s.dU u:=apu λz=>hu (t7.mpr ⟨c,z⟩)
   exact v2 (.step lu (by rw[d.g.fld m];exact h) v1)
  ·exact d.df u ws v m c h v1
 rd:=λh=>by
  have:=d.rd h
  show s.dU.filter _=[];rw[this];rfl
theorem Tj{s:HS}{n:Int}:(mkR s n).limit=s.limit:=by unfold mkR;split<;>rfl
theorem DY{s:HS}{n:Int}:(mkR s n).nxt=s.nxt:=by unfold mkR;split<;>rfl
theorem Gd.mkd{s:HS}(d:Gd s){n:Int}:Gd (mkR s n):=by
 unfold mkR;split
 ·exact d.small
 ·exact d
noncomputable def LG(D:Ad):Sp:=λvs H Q _=>∃ x A s,vs=[.ref x]/\IH D H x A s/\Good s/\∀ v A' H',IH D H' x A' (pT s)->Fr (bD x A s) H (bD x A' (pT s)) H'->Q v H'
noncomputable abbrev qr:List Str:=["self","leads","t","kept","gone"]
theorem fO:av qr ["self"] (ar iW):=fsc
theorem yh(F:Fun K "small_round" "Heap.small_round" iW D.bB D.gy)(T:Txt K mg D)
  (cv:9e7 1 D.bL D.dE ["self"] (qe D))
  (cQ:9e7 3 D.bt D.eK ["self","leads","things"] (N2 D))
  (jt:9e7 2 D.cZ D.jo ["self","gone"] (Jr D)):9e7 4 D.bB D.gy ["self"] (LG D):=by
 refine F.oa fO F.b1 λcdv A' outer s' H vs Q E hr h=>?_;obtain⟨x,A,s,rfl,J,G,k⟩:=h;have hu:=i9 hr;refine⟨_,(PSs.nox (ak (aN (i:=1) fO.nd rfl 1e4 (cv.m0 hr 1e5 T.aV T.kJ aY))
  (ak (fP aom rfl (yV (GZ 1e5)) (aX (i:=2) fO.nd rfl 1e4)
   (ai (bI (ui (oy hu (pv 2) 1e5) (by with_unfolding_all rfl))
    (ai (aI (Rb PySem.F.plainAttrs_list PySem.F.slot_list_extend PySem.F.type_list_extend T3 (pv 1) (aa (ip hu 1e5 (pv 2) 1e7) aj))))
    aO)))
  (ak (V1 (aN (i:=3) fO.nd rfl (Or.inr rfl) (cQ.m hr (pv 0) T.ae T.iU aY (aa (pv 1) (aa 1e5 aj)))))
  (ak (Vq (cl:=[("kept",s'.heap.objs.size+1)]) (x := "t") (idx:=[3]) (NC:=["t","kept"]) (i:=4) fO.nd rfl rfl ?co1 rfl (yV (GZ 1e5)) (λC fp s₀ H₀=>(ui (oy hu (pv 0) (pv 1)) (by with_unfolding_all rfl))) (λC fp s₀ H₀=>(pv 0)))
  (ak (V1 (iM (pv 0) kg rfl))
  (ak (aI (jt.m hr (pv 0) T.ae T.pI aY (aa (pv 4) aj)))
  (ai (aG (pv 4)))))))))),?_⟩
 case co1 =>
  exact lA (sc:=ar iW) (N:=qr) (ns:=["kept"]) rfl rfl rfl (by decide +kernel) rfl rfl (by
   intro q hq;rw[an7.mp hq];rfl)
 refine⟨_,rfl,x,D.ab,_,_,.ref A.hd,rfl,J.ax,T.ae,T.aA,pA,A.hd,A.hdx,_,rfl,J.ahd,rfl,A.hd,A.hdx,A.hl,A.hx,s.aW,rfl,J.hn G,λp H1 s1 hp z1=>?_⟩;have J1:=J.same s1;have nfp:¬bD x A s p:=J.fresh hp;refine⟨_,rfl,x,D.ab,_,_,.ref A.fh,rfl,J1.ax,T.ae,T.aC,tT,A.fh,_,J1.afh,λo=>?_⟩;have yf:A.yg≠A.fh:=aol J.d4;have pf:p≠A.fh:=λe=>nfp (by rw[e];exact .fh);have py:p≠A.yg:=λe=>nfp (by rw[e];exact .yg);have lk:(s.aT.map (fkv A)).length=s.aT.length:=an6 _;refine⟨A.fh,o,_,rfl,ag,Dt (d:=A.fh) (o:=o) (kvs:=s.aT.map (fkv A)) (λi σ Hc=>∃ v2,σ=[some (.ref x),some (.ref p),v2,none,none]/\((∀ b u,b≠A.fh->b≠p->H1 b=some u->Hc b=some u)/\Hc A.fh=some (.frz o (.dK (s.aT.map (fkv A)))))/\∃ ys,Hc p=some (.lst ys)/\Rel Hc ys (s.aW++QD (s.aT.take i) s.yng))
  ⟨none,rfl,⟨λb u n _ q=>by rw[af n];exact q,ag⟩,A.hx,by rw[af pf];exact z1,by rw[apk,show QD [] s.yng=[] from rfl,aoT];exact J1.rhl.keep (b7.set J1.afh 2e0)⟩ (λi σ Hc _ ⟨_,_,oc,_⟩=>oc.2) ?_ ?_⟩
 ·rintro i q σ Hc hi ⟨v2,rfl,oc,ys,hy,ry⟩
  rw[aog]at hi;obtain⟨⟨t,ws⟩,ht,rfl⟩:=aoo.mp hi;have m:=an9 ht;have tk:=take_snoc ht;obtain⟨hl,rl⟩:=J1.afl _ _ m;have nlf:A.fa t≠A.fh:=az hl J1.afh 1e0;have nlp:A.fa t≠p:=λe=>nfp (by rw[<-e];exact .fl m);have hlc:=oc.1 _ _ nlf nlp hl;have tc:b7 H1 Hc:=λb us q=>oc.1 b _ (az q J1.afh 1e0) (az q z1 1e0) q;have xf:x≠A.fh:=az J1.ax J1.afh 1e0;have xp:x≠p:=λe=>nfp (by rw[<-e];exact .x);have axc:=oc.1 _ _ xf xp J1.ax;have ygc:=oc.1 _ _ yf (aol py) J1.ayg;refine⟨_,rfl,_,rfl,x,D.ab,_,_,.ref A.yg,rfl,axc,T.ae,T.bA,RF,A.yg,_,rfl,tX.k (k:=Sum.inl t) ygc,_,rfl,?_⟩;rw[(IX s.yng).isS];by_cases c:t∈s.yng
  ·rw[decide_eq_true c]
   refine tW ⟨_,rfl,oc,ys,hy,?_⟩;rw[tk,LD,if_pos c,aoT];exact ry
  ·rw[decide_eq_false c]
   have fl:=Ti (fs:=s.aT.take i) (yn:=s.yng) λt ws m=>G.f6 t ws (ao9 m);have f6:=G.f6 _ _ m;have fw:=G.few;have ly:ys.length<=60100:=(by rw[ry.1,aof,G.h8];rw[aoj]at fl;omega);refine u9 ⟨_,rfl,.inl ⟨rfl,_,SqL.of hy⟩,_,rfl,x,D.ab,_,_,.ref A.fh,rfl,axc,T.ae,T.aC,tT,_,rfl,A.fh,.ref (A.fa t),rfl,.inl ⟨_,Sum.inl t,.inr ⟨o,oc.2⟩,rfl,by rw[V5,G.get m];rfl⟩,p,A.fa t,ys,A.fx t,rfl,rfl,hy,hlc,?_,?_⟩
   ·have:=rl.1
    exact aou (show ys.length+(A.fx t).length<=70000 by omega) 2e1
   ·refine⟨_,rfl,⟨λb u n1 n2 q=>by rw[af n2];exact oc.1 b u n1 n2 q,by rw[af (aol pf)];exact oc.2⟩,_,ag,?_⟩
    rw[tk,LD,if_neg c,<-apq];exact((Ye ry (rl.keep tc)).keep (b7.set hy 2e0))
 ·rintro σ Hc ⟨v2,rfl,oc,ys,hy,ry⟩
  rw[lk,aoh (aoa _)]at ry;refine⟨A.fh,o,_,oc.2,(λo' u' q=>by have q:H A.fh=some (.frz o' u'):=q;rw[J.afh]at q;cases q),?_⟩;have kp:∀ b u,b≠p->H1 b=some u->upd Hc A.fh (.dK (s.aT.map (fkv A))) b=some u:=λb u n q=>by
   by_cases c:b=A.fh
   ·subst c
    rw[J1.afh]at q;cases q;exact ag
   ·rw[af c];exact oc.1 b u c n q
  have hy2:upd Hc A.fh (.dK (s.aT.map (fkv A))) p=some (.lst ys):=by rw[af pf];exact hy
  have ry2:Rel (upd Hc A.fh (.dK (s.aT.map (fkv A)))) ys (Lc s):=ry.keep (λb us q=>by rw[af λe=>by rw[e,oc.2]at q;cases q];exact q);obtain⟨H2,e2⟩:∃ H2,upd Hc A.fh (.dK (s.aT.map (fkv A)))=H2:=⟨_,rfl⟩;rw[e2]at kp hy2 ry2 ⊢;clear e2 ry hy oc;have t2:b7 H1 H2:=λb us q=>kp b _ (az q z1 1e0) q;have J2:IH D H2 x A s:=J1.keep (λb u f q=>kp b u (λe=>nfp (by rw[<-e];exact f)) q) t2;have fr2:Fr (bD x A s) H (bD x A s) H2:=⟨λb u n q=>kp b u (aq q hp) (s1 _ _ q),λ_ f=>.inl f,λb u q=>⟨u,kp b u (aq q hp) (s1 _ _ q)⟩,(b7.of s1).trans t2⟩;have fl:=Ti (fs:=s.aT) (yn:=s.yng) G.f6;have fw:=G.few;refine⟨_,rfl,x,_,_,rfl,J2.ax,1e3,_,rfl,_,rfl,x,D.ab,_,_,.ref A.yg,rfl,J2.ax,T.ae,T.bA,RF,x,A,s,p,ys,Lc s,A.yg,_,s.yng,rfl,J2,G,hy2,ry2,by unfold Lc;rw[aof,G.h8];omega,J2.ayg,IX _,G.yk,t5 G.Ha,JW G,λst kv ms H3 s3 hst h3 k3 n3 m3=>?_⟩;have J3:=J2.same s3;refine⟨_,rfl,x,D.ab,_,_,.ref A.yg,rfl,J3.ax,T.ae,T.bA,RF,A.yg,_,J3.ayg,λo2=>?_⟩;refine⟨A.yg,o2,_,rfl,ag,λL hL=>?_⟩;have nsy:st≠A.yg:=λe=>by rw[e,J2.ayg]at hst;cases hst
  have st3:upd H3 A.yg (.frz o2 (.dK (s.yng.map tkv))) st=some (.dK kv):=by rw[af nsy];exact h3
  refine Rh (d:=A.yg) (o:=o2) (kvs:=s.yng.map tkv) (λi zs Hc=>zs=((s.yng.take i).filter λt=>decide (t∉ms)).map V.int/\aB (upd H3 A.yg (.frz o2 (.dK (s.yng.map tkv)))) Hc/\Hc L=some (.lst zs)) ⟨rfl,aB.upd hL,ag⟩ (λi zs Hc hi ⟨e,_,z⟩=>⟨z,by rw[e,an6];exact aou (ao6 _ _) (by rw[aoj];omega)⟩) (λi zs Hc _ ⟨_,sc,_⟩=>sc _ _ ag) (by rw[an6];exact Dr (aou (JW G) 2e1)) (λi q zs Hc hi ⟨e,sc,z⟩=>?_) (λzs Hc ⟨e,sc,z⟩=>?_)
  ·obtain⟨t,ht,ekv,ep⟩:=(IX s.yng).at_ hi
   have tk:=take_snoc ht;rw[ekv];refine⟨_,rfl,_,rfl,st,_,rfl,tX.k (k:=Sum.inl t) (sc _ _ st3),_,rfl,?_⟩;rw[k3.isS];by_cases c:t∈ms
   ·rw[decide_eq_true c]
    refine tW ⟨?_,sc,z⟩;rw[tk,apB,e];simp[c]
   ·rw[decide_eq_false c]
    refine u9 ⟨_,rfl,z,?_,λb u q=>by rw[af (aq q hL)];exact sc b u q,ag⟩;rw[tk,apB,e];simp[c]
  ·rw[an6,aoh (aoa _)]at e
   have eg:(s.yng.filter λt=>decide (t∉ms))=pS s:=Up m3;rw[eg]at e;subst e;refine⟨A.yg,o2,_,sc _ _ ag,(λo' u' q=>by have q:H A.yg=some (.frz o' u'):=q;rw[J.ayg]at q;cases q),?_⟩;have sm:aB H3 (upd Hc A.yg (.dK (s.yng.map tkv))):=λb u q=>by
    by_cases c:b=A.yg
    ·subst c
     rw[J3.ayg]at q;cases q;exact ag
    ·rw[af c];exact sc b u (by rw[af c];exact q)
   have nLy:L≠A.yg:=λe=>by rw[e,ag]at hL;cases hL
   have zL:upd Hc A.yg (.dK (s.yng.map tkv)) L=some (.lst ((pS s).map V.int)):=(by rw[af nLy];exact z);have hL3:H3 L=none:=(by rw[af nLy]at hL;exact hL);have anI:=J3.fresh hL3;obtain⟨H4,e4⟩:∃ H4,upd Hc A.yg (.dK (s.yng.map tkv))=H4:=⟨_,rfl⟩;rw[e4]at sm zL ⊢;clear e4;have J4:=J3.same sm;intro p2 hp2;have w:=J4.anB hp2;have xp2:x≠p2:=aq J4.ax hp2;refine⟨_,rfl,x,D.ab,A.dx,_,rfl,(by rw[af xp2];exact J4.ax),T.ae,T.bA,by show 11<1000;decide,?_⟩;obtain⟨J5,fr5⟩:=w;have oL:=fr5.out anI zL;refine⟨_,rfl,x,_,_,rfl,J5.ax,1e3,_,rfl,x,_,_,L,pS s,rfl,J5,G.n8,oL.2,oL.1,IY G,aou (ao6 _ _) (JW G),(by have:=G.sd;have:=G.nx;show s.wU.length<=10000;omega),LF G,λA6 H6 J6 fr6=>⟨_,rfl,k _ A6 H6 J6 ((((fr2.trans (Fr.same s3)).trans (Fr.same sm)).trans fr5).trans fr6)⟩⟩
noncomputable def Dx(D:Ad):Sp:=λvs H Q _=>∃ x A s,vs=[.ref x]/\IH D H x A s/\Good s/\∀ A' H',IH D H' x A' (pT s)->Fr (bD x A s) H (bD x A' (pT s)) H'->Q .non H'
noncomputable abbrev BJ:List Str:=["self"]
theorem zQ:av BJ ["self"] (ar lM):=fsc
theorem zR(F:Fun K "small" "IdealHeap.small" lM D.bN D.dF)(T:Txt K mg D)
  (kN:9e7 4 D.bB D.gy ["self"] (LG D)):9e7 5 D.bN D.dF ["self"] (Dx D):=by
 refine F.oa zQ F.b1 λcdv A' outer s' H vs Q E hr h=>?_;obtain⟨x,A,s,rfl,J,G,k⟩:=h;refine⟨_,(PSs.nox (ai (aI (kN.m0 hr (pv 0) T.ae T.rU aY)))),?_⟩;exact⟨_,rfl,x,_,_,rfl,J.ax,1e3,x,A,s,rfl,J,G,λv A' H' J' fr=>k A' H' J' fr⟩
noncomputable def Wb(D:Ad):Sp:=λvs H Q E=>∃ x A s,vs=[.ref x]/\IH D H x A s/\Gd s/\Fin D x A s H (G0 s) Q E
theorem IH.anJ{D:Ad}{H:Hp}{x:Addr}{A:HA}{s:HS}(J:IH D H x A s){b:Addr}(f:bD x A s b)(o:Obj)(u:HO):H b≠some (.frz o u):=by
 intro q;cases f with
 | x=>rw[J.ax]at q;cases q
 | hd=>rw[J.ahd]at q;cases q
 | hl=>rw[J.ahl]at q;cases q
 | nt=>rw[J.ant]at q;cases q
 | nl=>rw[J.anl]at q;cases q
 | wt=>rw[J.awt]at q;cases q
 | wb=>rw[J.awb]at q;cases q
 | wl=>rw[J.awl]at q;cases q
 | fh=>rw[J.afh]at q;cases q
 | yg=>rw[J.ayg]at q;cases q
 | dm=>rw[J.adm]at q;cases q
 | fl m=>rw[(J.afl _ _ m).1]at q;cases q
noncomputable abbrev BK:List Str:=["self","kept","t"]
theorem kO:av BK ["self"] (ar lN):=fsc
theorem zS(F:Fun K "begin" "IdealHeap.begin" lN D.cU D.gO)(T:Txt K mg D)
  (ah:9e7 1 D.ao D.aw ["self","text"] (yU K))
  (cw:9e7 5 D.bN D.dF ["self"] (Dx D))
  (cv:9e7 1 D.bL D.dE ["self"] (qe D))
  (cQ:9e7 3 D.bt D.eK ["self","leads","things"] (N2 D)):9e7 6 D.cU D.gO ["self"] (Wb D):=by
 refine F.oa kO F.b1 λcdv A' outer s' H vs Q E hr h=>?_;obtain⟨x,A,s,rfl,J,Gs,k⟩:=h;have hu:=i9 hr;refine⟨_,(ak (bI (uj 1e5)
   (ai (eE rfl jA (ah.e hr T.Rz T.Rw px (aa cR aj))))
   aO)
  (ak (aI (cw.m0 hr (pv 0) T.ae T.kK px))
  (ak (iM (pv 0) pe rfl)
  (ak (aN (i:=1) kO.nd rfl 1e4 (cQ.m hr (pv 0) T.ae T.iU px (aa (cv.m0 hr 1e5 T.aV T.kJ px) (aa 1e5 aj))))
  (ai (PS.nox (Yb (fP aom rfl (yV (GZ 1e5)) (aX (i:=2) kO.nd rfl 1e4)
   (ai (bI (ui (oy hu (pv 2) (pv 1)) (by with_unfolding_all rfl))
    (ai (pG hu 1e5 (pv 2) pe rfl))
    aO)))))))))),?_⟩
 refine⟨_,rfl,x,D.ab,_,_,.bl s.rnd,rfl,J.ax,T.ae,T.da,Xd,_,rfl,?_⟩;by_cases c:s.rnd=true
 ·rw[show G0 s=(some .on,s) from if_pos c]at k
  exact iY c (λea hea=>bE T.Rx (λ_ q=>q) (k.bad J) ea hea)
 ·rw[show G0 s=(none,Yd (pT s)) from if_neg c]at k
  refine f9 (aoK.mpr c) ?_;refine⟨_,rfl,x,_,_,rfl,J.ax,1e3,x,A,s,rfl,J,Gs.g,λA1 H1 J1 fr1=>?_⟩;have G1:=Gs.small;have d0:(pT s).dU=[]:=Gs.rd (aoK.mpr c);obtain⟨s1,es⟩:∃ s1,pT s=s1:=⟨_,rfl⟩;rw[es]at J1 fr1 G1 k d0;refine⟨_,rfl,x,D.ab,A1.dx,_,rfl,J1.ax,T.ae,T.da,by show 11<1000;decide,?_⟩;have w2:=J1.ajo (n:=true);obtain⟨H2,e2⟩:∃ H2,upd H1 x (.ins D.ab A1.dx (i8 "in_round" (.bl true) (atts A1 s1)))=H2:=⟨_,rfl⟩;rw[e2]at w2;show NG _ _ _ _ (upd H1 x (.ins D.ab A1.dx (i8 "in_round" (.bl true) (atts A1 s1))));rw[e2];clear e2;obtain⟨J2,fr2⟩:=w2;have G2:Good {s1 with rnd:=true}:=⟨G1.g.h8,G1.g.n8,G1.g.asc,G1.g.lt,G1.g.f6,G1.g.hh,G1.g.ff,G1.g.nn,G1.g.b12,G1.g.bk,G1.g.bnd,G1.g.n0,G1.g.nx,G1.g.sd,G1.g.yk,G1.g.Ha,G1.g.dk,G1.g.IV⟩;refine⟨_,rfl,x,_,_,rfl,J2.ax,1e3,_,rfl,x,D.ab,_,_,.ref A1.hd,rfl,J2.ax,T.ae,T.aA,pA,A1.hd,A1.hdx,_,rfl,J2.ahd,rfl,A1.hd,A1.hdx,A1.hl,A1.hx,s1.aW,rfl,J2.hn G2,λp H3 s3 hp z3=>?_⟩;have J3:=J2.same s3;refine⟨_,rfl,x,D.ab,_,_,.ref A1.fh,rfl,J3.ax,T.ae,T.aC,tT,x,A1,_,p,A1.hx,s1.aW,A1.fh,_,keys s1,rfl,J3,G2,z3,J3.rhl,by rw[G1.g.h8];decide,J3.afh,UN s1 A1,(λt m=>mem_keys.mp m),t5 G1.g.asc,by unfold keys;rw[an6];exact G1.g.few,λst kv ms H4 s4 hst h4 k4 n4 m4=>?_⟩;have J4:=J3.same s4;have fr4:=((fr1.trans fr2).trans (Fr.same s3)).trans (Fr.same s4);refine⟨_,rfl,x,D.ab,_,_,.ref A1.fh,rfl,J4.ax,T.ae,T.aC,tT,A1.fh,_,J4.afh,λo=>?_⟩;have df:A1.dm≠A1.fh:=aol J4.d5;have sf:st≠A1.fh:=aq J3.afh hst |>.symm;have sd:st≠A1.dm:=aq J3.adm hst |>.symm;have xf:x≠A1.fh:=az J4.ax J4.afh 1e0;have xd:x≠A1.dm:=az J4.ax J4.adm 1e0;have anK:H4 A1.dm=some (.dK []):=by have:=J4.adm;rw[show({s1 with rnd:=true}:HS).dU=[] from d0]at this;exact this
  refine⟨A1.fh,o,_,rfl,ag,Dt (d:=A1.fh) (o:=o) (kvs:=s1.aT.map (fkv A1)) (λi σ Hc=>∃ v2,σ=[some (.ref x),some (.ref st),v2]/\((∀ b u,b≠A1.fh->b≠A1.dm->H4 b=some u->Hc b=some u)/\Hc A1.fh=some (.frz o (.dK (s1.aT.map (fkv A1)))))/\Hc A1.dm=some (.dK ((((keys s1).take i).filter λt=>decide (t∉ms)).map tkv)))
   ⟨none,rfl,⟨λb u n _ q=>by rw[af n];exact q,ag⟩,by rw[af df];exact anK⟩ (λi σ Hc _ ⟨_,_,oc,_⟩=>oc.2) ?_ ?_⟩
  ·rintro i q σ Hc hi ⟨v2,rfl,oc,hdm⟩
   obtain⟨t,ht,ekv,ep⟩:=(UN s1 A1).at_ hi;have tk:=take_snoc ht;rw[ekv];refine⟨_,rfl,_,rfl,st,_,rfl,tX.k (k:=Sum.inl t) (oc.1 _ _ sf sd h4),_,rfl,?_⟩;rw[k4.isS];by_cases c2:t∈ms
   ·rw[decide_eq_true c2]
    refine tW ⟨_,rfl,oc,?_⟩;rw[tk,apB,hdm];simp[c2]
   ·rw[decide_eq_false c2]
    have ni:t∉((keys s1).take i).filter λt=>decide (t∉ms):=λz=>Sz (show(keys s1).Pairwise (·< ·) from G1.g.asc) ht (aoN.mp z).1;have lz:((((keys s1).take i).filter λt=>decide (t∉ms)).map tkv).length<sizeLine:=by
     rw[an6];refine ur (aou (ao6 _ _) ?_)
     have:=G1.g.few
     rw[aoj];unfold keys;rw[an6];omega
    refine u9 ⟨_,rfl,x,D.ab,_,_,.ref A1.dm,rfl,oc.1 _ _ xf xd J4.ax,T.ae,T.bp,RG,_,rfl,A1.dm,_,rfl,G9.k (k:=Sum.inl t) hdm lz,?_⟩;refine⟨_,rfl,⟨λb u n1 n2 q=>by rw[af n2];exact oc.1 b u n1 n2 q,by rw[af (aol df)];exact oc.2⟩,?_⟩;rw[ag,xU _ ((IX _).non ni),tk,apB,aon];simp[c2,tkv]
  ·rintro σ Hc ⟨v2,rfl,oc,hdm⟩
   rw[an6,aoh (by unfold keys;rw[an6];exact aoa _),VB (show ∀ t,t∈ms↔Led s1.aW (fld s1) (keys s1) t from m4)]at hdm;refine⟨A1.fh,o,_,oc.2,(λo' u' q=>?_),?_⟩
   ·have q:H A1.fh=some (.frz o' u'):=q
    rcases(fr1.grow A1.fh .fh) with f|f
    ·obtain⟨u,hu1,_⟩:=J.is f
     rw[q]at hu1;cases hu1;obtain⟨u2,hu2,_⟩:=J.is f;exact absurd q (J.anJ f o' u')
    ·rw[f]at q;cases q
   ·have w5:=J4.ajn (ts:=Ld s1)
    have sm:aB (upd H4 A1.dm (.dK ((Ld s1).map tkv))) (upd Hc A1.fh (.dK (s1.aT.map (fkv A1)))):=λb u q=>by
     by_cases c3:b=A1.fh
     ·rw[c3,af (aol df)]at q
      rw[c3,ag];exact J4.afh.symm.trans q
     ·rw[af c3]
      by_cases c4:b=A1.dm
      ·rw[c4,ag]at q
       rw[c4,hdm];exact q
      ·rw[af c4]at q
       exact oc.1 b u c3 c4 q
    exact k A1 _ (w5.1.same sm) ((fr4.trans w5.2).trans (Fr.same sm))
noncomputable def Wc(D:Ad):Sp:=λvs H Q E=>∃ x A s,vs=[.ref x]/\IH D H x A s/\Gd s/\Fin D x A s H (Wa s) Q E
noncomputable abbrev Gp:List Str:=["self","gone"]
theorem tN:av Gp ["self"] (ar pw):=fsc
theorem DZ(F:Fun K "end" "IdealHeap.end" pw D.dX D.jf)(T:Txt K mg D)
  (ah:9e7 1 D.ao D.aw ["self","text"] (yU K))
  (jt:9e7 2 D.cZ D.jo ["self","gone"] (Jr D)):9e7 4 D.dX D.jf ["self"] (Wc D):=by
 refine F.oa tN F.b1 λcdv A' outer s' H vs Q E hr h=>?_;obtain⟨x,A,s,rfl,J,Gs,k⟩:=h;refine⟨_,(ak (bI (mR (uj 1e5))
   (ai (eE rfl jA (ah.e hr T.RC T.RA px (aa cR aj))))
   aO)
  (ak (iM (pv 0) pe rfl)
  (ak (aN (i:=1) tN.nd rfl 1e4 (ll (IJ rfl) rfl T.yY PyProof.Rows.Boot.«list» (aa 1e5 aj)))
  (ak (iM (pv 0) kg rfl)
  (ai (aI (jt.m hr (pv 0) T.ae T.pI px 1e9))))))),?_⟩
 refine⟨_,rfl,x,D.ab,_,_,.bl s.rnd,rfl,J.ax,T.ae,T.da,Xd,_,rfl,?_⟩;by_cases c:s.rnd=true
 ·rw[show Wa s=(none,Zb s) from if_pos c]at k
  refine f9 (by rw[c];rfl) ?_;refine⟨_,rfl,x,D.ab,A.dx,_,rfl,J.ax,T.ae,T.da,by show 11<1000;decide,?_⟩;have w2:=J.ajo (n:=false);obtain⟨H2,e2⟩:∃ H2,upd H x (.ins D.ab A.dx (i8 "in_round" (.bl false) (atts A s)))=H2:=⟨_,rfl⟩;rw[e2]at w2;show NG _ _ _ _ (upd H x (.ins D.ab A.dx (i8 "in_round" (.bl false) (atts A s))));rw[e2];clear e2;obtain⟨J2,fr2⟩:=w2;refine⟨_,rfl,x,D.ab,_,_,.ref A.dm,rfl,J2.ax,T.ae,T.bp,RG,A.dm,_,s.dU,rfl,.inl J2.adm,IX _,λL hL=>?_⟩;have s3:=aB.upd (o:=.lst (s.dU.map V.int)) hL;have J3:=J2.same s3;have nfL:=J2.fresh hL;intro p2 hp2;have w:=J3.anC hp2;have xp2:x≠p2:=aq J3.ax hp2;refine⟨_,rfl,x,D.ab,A.dx,_,rfl,(by rw[af xp2];exact J3.ax),T.ae,T.bp,by show 11<1000;decide,?_⟩;obtain⟨J5,fr5⟩:=w;have oL:=fr5.out nfL ag;refine⟨_,rfl,x,_,_,rfl,J5.ax,1e3,_,rfl,x,_,_,L,s.dU,rfl,J5,Gs.g.n8,oL.2,oL.1,Gs.g.IV,Ta Gs.g,(by have:=Gs.g.sd;have:=Gs.g.nx;show s.wU.length<=10000;omega),Gs.g.dk,λA6 H6 J6 fr6=>k A6 H6 J6 (((fr2.trans (Fr.same s3)).trans fr5).trans fr6)⟩
 ·rw[show Wa s=(some .no,s) from if_neg c]at k
  refine iY (by rw[aoK.mpr c];rfl) ?_;exact λea hea=>bE T.RB (λ_ q=>q) (k.bad J) ea hea
noncomputable def We(D:Ad):Sp:=λvs H Q _=>∃ x A s,vs=[.ref x]/\IH D H x A s/\Q (.bl s.rnd) H
noncomputable abbrev vY:List Str:=["self"]
theorem vz:av vY ["self"] (ar jG):=fsc
theorem vA(F:Fun K "round_on" "IdealHeap.round_on" jG D.bS D.eU)(T:Txt K mg D):9e7 1 D.bS D.eU ["self"] (We D):=by
 refine F.oa vz F.b1 λcdv A' outer s' H vs Q E hr h=>?_;obtain⟨x,A,s,rfl,J,k⟩:=h;refine⟨_,(PSs.nox (ai (aG 1e5))),?_⟩;exact⟨_,rfl,x,D.ab,_,_,.bl s.rnd,rfl,J.ax,T.ae,T.da,Xd,k⟩
theorem acH{ts:List Int}{n:Option Int}:inO (ts.map tkv) (n.map Sum.inl)=(match n with|some t=>decide (t∈ts)|none=>false):=by
 cases n with
 | none=>rfl
 | some t=>exact ajq
theorem ZZ(z:Option Int):nmV z=abN (z.map Sum.inl):=by cases z<;>rfl
noncomputable def QE(D:Ad):Sp:=λvs H Q _=>∃ x A s,∃ t:Int,vs=[.ref x,.int t]/\IH D H x A s/\Good s/\0<=t/\∀ A' H',IH D H' x A' (uw s t)->Fr (bD x A s) H (bD x A' (uw s t)) H'->Q .non H'
theorem VD{ts:List Int}{t:Int}{v:V}(h:ie (ts.map tkv) (Sum.inl t)=some v):v=.bl true:=by
 unfold ie at h;obtain⟨p,hp,e⟩:=aoo.mp h;obtain⟨u,_,rfl⟩:=aoy.mp (List.mem_of_find?_eq_some hp);exact e.symm
theorem Yi{ts:List Int}{t:Int}:vS (ts.map tkv) (Sum.inl t)=(ts.filter λp=>decide (p≠t)).map tkv:=by
 unfold vS;rw[apY];congr 1
 refine ao1 λp _=>?_;show decide (Sum.inl p≠(Sum.inl t:Key))=decide (p≠t);simp
noncomputable abbrev BL:List Str:=["self","t","spared","other"]
theorem kP:av BL ["self","t"] (ar lQ):=fsc
theorem zU(F:Fun K "spare" "IdealHeap.spare" lQ D.cV D.gP)(T:Txt K mg D)
  (cL:9e7 3 D.cJ D.gc ["t"] (jR))
  (cQ:9e7 3 D.bt D.eK ["self","leads","things"] (N2 D)):9e7 4 D.cV D.gP ["self","t"] (QE D):=by
 refine F.oa kP F.b2 λcdv A' outer s' H vs Q E hr h=>?_;obtain⟨x,A,s,t,rfl,J,G,t0,k⟩:=h;refine⟨_,(PSs.nox (ak (aN (i:=2) kP.nd rfl 1e4 (cQ.m hr (pv 0) T.ae T.iU aY (aa (pQ (aa (cL.c hr T.oj T.js aY 1e9) aj)) (aa 1e5 aj))))
  (ai (fP aom rfl (yV (GZ (pv 2))) (aX (i:=3) kP.nd rfl 1e4)
   (ai (aI (Jl 1e5 (pv 3) ⟨rfl,rfl,rfl,rfl⟩))))))),?_⟩
 refine⟨_,rfl,x,_,_,rfl,J.ax,1e3,_,rfl,t,rfl,t0,λtp H1 s1 hp=>⟨by show 1<=sizeLine;decide,λl hl=>?_⟩⟩;have s2:=aB.upd (o:=.lst [V.ref tp]) hl;have J2:=(J.same s1).same s2;have rl:Rel (upd H1 l (.lst [V.ref tp])) [.ref tp] [.th t]:=⟨rfl,λi v w h1 h2=>by
  cases i with
  | zero=>cases h1;cases h2;exact⟨tp,rfl,s2 _ _ hp⟩
  | succ i=>cases h1⟩
 refine⟨_,rfl,x,D.ab,_,_,.ref A.dm,rfl,J2.ax,T.ae,T.bp,RG,x,A,s,l,_,[.th t],A.dm,_,s.dU,rfl,J2,G,ag,rl,by show 1<=100000;decide,J2.adm,IX _,G.dk,t5 G.IV,Ta G,λst kv ms H3 s3 hst h3 k3 n3 m3=>?_⟩;have J3:=J2.same s3;have fr3:=((Fr.same (F:=bD x A s) s1).trans (Fr.same s2)).trans (Fr.same s3);have nfs:=J2.fresh hst;refine⟨_,rfl,st,kv,h3,λo=>?_⟩;have sub:∀ u∈ms,u∈s.dU:=λu m=>((m3 u).mp m).mem;have H4s:∀ b u,b≠st->H3 b=some u->upd H3 st (.frz o (.dK kv)) b=some u:=λb u n q=>by rw[af n];exact q
 have t4:b7 H3 (upd H3 st (.frz o (.dK kv))):=b7.set h3 2e0;have J4:IH D (upd H3 st (.frz o (.dK kv))) x A s:=J3.keep (λb u f q=>H4s b u (λe=>nfs (by rw[<-e];exact f)) q) t4;have bk:H st=none:=aB.none s1 (aB.none s2 hst);have fr4:Fr (bD x A s) H (bD x A s) (upd H3 st (.frz o (.dK kv))):=⟨λb u n q=>H4s b u (aq q bk) (fr3.ext b u n q),λ_ f=>.inl f,λb u q=>by obtain⟨u',q'⟩:=fr3.all b u q;exact⟨u',H4s b u' (aq q bk) q'⟩,fr3.tup.trans t4⟩;refine⟨st,o,kv,rfl,ag,Dt (d:=st) (o:=o) (kvs:=kv) (λi σ Hc=>∃ v3,σ=[some (.ref x),some (.int t),some (.ref st),v3]/\IH D Hc x A {s with dU:=s.dU.filter λu=>decide (u∉ms.take i)}/\Fr (bD x A s) H (bD x A {s with dU:=s.dU.filter λu=>decide (u∉ms.take i)}) Hc/\Hc st=some (.frz o (.dK kv)))
  ⟨none,rfl,(by rw[apk,show(s.dU.filter λu=>decide (u∉([]:List Int)))=s.dU by simp];exact J4),(by rw[apk,show(s.dU.filter λu=>decide (u∉([]:List Int)))=s.dU by simp];exact fr4),ag⟩ (λi σ Hc _ ⟨_,_,_,_,z⟩=>z) ?_ ?_⟩
 ·rintro i q σ Hc hi ⟨v3,rfl,Jc,frc,z⟩
  obtain⟨u,hu',ekv,ep⟩:=k3.at_ hi;have tk:=take_snoc hu';have ni:u∉ms.take i:=λm=>by
   have:=ao0.mp (show(ms.take i++ms.drop i).Nodup by rw[apH];exact n3)
   have hlt:=(an5.mp hu').1;exact this.2.2 u m u (by rw[apt hlt,(an5.mp hu').2];exact aow) rfl
  have mu:u∈s.dU.filter λu=>decide (u∉ms.take i):=aoN.mpr ⟨sub u (an9 hu'),by simpa using ni⟩;have vd:ie ((s.dU.filter λu=>decide (u∉ms.take i)).map tkv) (Sum.inl u)=some (.bl true):=by
   have h1:=(IX (s.dU.filter λu=>decide (u∉ms.take i))).isS (t:=u);rw[decide_eq_true mu]at h1;obtain⟨v,hv⟩:=apw.mp h1;rw[hv,VD hv]
  rw[ekv];refine⟨_,rfl,x,D.ab,_,_,.ref A.dm,rfl,Jc.ax,T.ae,T.bp,RG,A.dm,rfl,.inl ⟨_,.inl Jc.adm⟩,_,rfl,_,Sum.inl u,_,Jc.adm,rfl,vd,?_⟩;have w:=Jc.ajn (ts:=(s.dU.filter λu=>decide (u∉ms.take i)).filter λv=>decide (v≠u));rw[show vS (({s with dU:=s.dU.filter λu=>decide (u∉ms.take i)}:HS).dU.map tkv) (Sum.inl u)=((s.dU.filter λu=>decide (u∉ms.take i)).filter λv=>decide (v≠u)).map tkv from Yi];have ef:((s.dU.filter λu=>decide (u∉ms.take i)).filter λv=>decide (v≠u))=s.dU.filter λv=>decide (v∉ms.take (i+1)):=by
   rw[List.filter_filter,tk];refine ao1 λv _=>?_;simp[aot,not_or,Bool.and_comm]
  rw[ef]at w ⊢;have nsd:st≠A.dm:=λe=>by rw[e,Jc.adm]at z;cases z
  exact⟨_,rfl,w.1,frc.trans w.2,by rw[af nsd];exact z⟩
 ·rintro σ Hc ⟨v3,rfl,Jc,frc,z⟩
  rw[k3.len,aoh (aoa _),VC m3]at Jc frc;exact k _ _ Jc frc
noncomputable def QF(D:Ad):Sp:=λvs H Q E=>∃ x A s,∃ h n:Int,vs=[.ref x,.int h,.int n]/\IH D H x A s/\Gd s/\s.nxt<10000/\Sm h/\Sm n/\Fin D x A s H (qV s h n) Q E
noncomputable abbrev D3:List Str:=["self","h","n","size"]
theorem rP:av D3 ["self","h","n"] (ar nA):=fsc
theorem BM(F:Fun K "make" "IdealHeap.make" nA D.dr D.iE)(T:Txt K mg D)
  (ah:9e7 1 D.ao D.aw ["self","text"] (yU K))
  (aM:9e7 3 D.bj D.cG ["h"] (dY D))
  (jh:9e7 3 D.gC D.kT ["fields"] (sr D))
  (eI:9e7 4 D.bc D.eG ["self","things"] (Jq D))
  (cw:9e7 5 D.bN D.dF ["self"] (Dx D))
  (nQ:9e7 5 D.dw D.iI ["self"] (Tb D))
  (nR:9e7 5 D.cf D.iD ["self","h","n"] (V8 D)):9e7 8 D.dr D.iE ["self","h","n"] (QF D):=by
 refine F.oa rP F.b3 λcdv A' outer s' H vs Q E hr h=>?_;obtain⟨x,A,s,h,n,rfl,J,Gs,hnx,hh,hn,k⟩:=h;refine⟨_,(ak (aI (aM.c hr T.gB T.dS px 1e9))
  (ak (aN (i:=3) rP.nd rfl 1e4 (jh.c hr T.AX T.rg px (aa (pv 2) aj)))
  (ak (bI (PW.pt (pw_and (uj 1e5) (pw_and1 (aJ Q3 (aF bO (eI.m hr (pv 0) T.ae T.ko px (aa 1e5 aj)) (pv 3)) 1e5 (aS _)))))
   (ai (aI (cw.m0 hr (pv 0) T.ae T.kK px)))
   aO)
  (ak (bI (aJ Q3 (aF bO (nQ.m0 hr (pv 0) T.ae T.Bj px) (pv 3)) 1e5 (aS _))
   (ai (eE rfl jA (ah.e hr T.Uk T.Ui px (aa (ir (aQ (jn (pv 3)) (aQ fq iq))) aj))))
   aO)
  (ai (aI (nR.m hr (pv 0) T.ae T.tZ px (aa (pv 1) (aa (pv 2) aj))))))))),?_⟩
 refine⟨_,rfl,h,rfl,hh,?_⟩;by_cases c:ok8 h
 ·rw[if_pos c]
  refine⟨_,rfl,n,rfl,hn,?_⟩;by_cases c2:0<=n/\n<=6
  ·rw[if_pos c2]
   have G:=Gs.g;have kk:Fin D x A s H (if held (mkR s n)+(n+1)>s.limit then(some .room,mkR s n) else(none,RJ (mkR s n) h n)) Q E:=by
    rw[show qV s h n=_ from by unfold qV;rw[if_pos c,if_pos c2]]at k;exact k
   have G2:Gd (mkR s n):=Gs.mkd;simp only[tS];refine SW λN hN=>?_;have fin:∀(A2:HA) (H2:Hp),IH D H2 x A2 (mkR s n)->Fr (bD x A s) H (bD x A2 (mkR s n)) H2->N [some (.ref x),some (.int h),some (.int n),some (.int (n+1))] H2:=by
    intro A2 H2 J2 fr2;refine hN _ _ ?_;refine⟨_,rfl,x,_,_,rfl,J2.ax,1e3,x,A2,_,rfl,J2,G2.g,λH3 s3=>?_⟩;have J3:=J2.same s3;have fr3:=fr2.trans (Fr.same s3);refine⟨_,rfl,held (mkR s n),n+1,rfl,rfl,_,rfl,x,D.ab,_,_,.int (mkR s n).limit,rfl,J3.ax,T.ae,T.rF,acx,_,_,rfl,rfl,_,rfl,dH (λg=>?_) (λg=>?_)⟩
    ·have g:=of_decide_eq_true g
     rw[Tj]at g;rw[if_pos g]at kk;exact⟨_,rfl,n+1,rfl,Sm.of 1e1 1e1,λy hy ea hea=>bE T.Uj (λb q=>fr3.none q) (λH' s'=>kk A2 H' (J3.same s') (fr3.trans (Fr.same s'))) ea hea⟩
    ·have g:¬(held (mkR s n)+(n+1)>s.limit):=λz=>g (decide_eq_true (by rw[Tj];exact z))
     rw[if_neg g]at kk;exact⟨_,rfl,x,_,_,rfl,J3.ax,1e3,_,rfl,_,rfl,x,A2,_,h,n,rfl,J3,G2.g,c,c2.1,c2.2,λA' H' J' fr=>kk A' H' J' (fr3.trans fr)⟩
   refine⟨_,rfl,x,D.ab,_,_,.bl s.my,rfl,J.ax,T.ae,T.ic,Y7,_,rfl,?_⟩;by_cases my:s.my=true
   ·refine iY my ⟨_,rfl,x,_,_,rfl,J.ax,1e3,_,rfl,x,D.ab,_,_,.ref A.yg,rfl,J.ax,T.ae,T.bA,RF,x,A,s,A.yg,_,s.yng,rfl,J,G,J.ayg,IX _,G.yk,JW G,λH1 s1=>?_⟩
    have J1:=J.same s1;refine⟨_,rfl,wsum s s.yng,n+1,rfl,rfl,_,rfl,x,D.ab,_,_,.int s.room,rfl,J1.ax,T.ae,T.lC,acw,_,_,rfl,rfl,_,rfl,dH (λg=>?_) (λg=>?_)⟩
    ·have g:=of_decide_eq_true g
     have em:mkR s n=pT s:=if_pos ⟨my,g⟩;rw[em]at fin;exact⟨_,rfl,x,_,_,rfl,J1.ax,1e3,x,A,s,rfl,J1,G,λA2 H2 J2 fr2=>fin A2 H2 J2 ((Fr.same s1).trans fr2)⟩
    ·have em:mkR s n=s:=if_neg λz=>g (decide_eq_true z.2)
     rw[em]at fin;exact fin A H1 J1 (Fr.same s1)
   ·have em:mkR s n=s:=if_neg λz=>my z.1
    rw[em]at fin;exact f9 (aoK.mpr my) (tW (fin A H J Fr.refl))
  ·rw[if_neg c2]
   rw[show qV s h n=(some .count,s) by simp only[qV,if_pos c,if_neg c2]]at k;exact k.bad J
 ·rw[if_neg c]
  rw[show qV s h n=(some .hand,s) by simp only[qV,if_neg c]]at k;exact k.bad J
noncomputable def QG(D:Ad):Sp:=λvs H Q E=>∃ x A s,∃ h w:Int,vs=[.ref x,.int h,.int w]/\IH D H x A s/\Good s/\Sm h/\Sm w/\Fin D x A s H (qU s h w) Q E
theorem rE{α:Type}{l:List α}{i:Nat}{a b:α}(h:b∈l.set i a):b∈l\/b=a:=by
 rw[apr]at h;obtain⟨j,hj,e⟩:=h;rw[List.getElem_set]at e;split at e
 ·exact .inr e.symm
 ·exact .inl (by rw[<-e];exact aoV _)
theorem Good.put{s:HS}(g:Good s){h:Int}{w:Wd}(c:∀ t,w=.th t->∃ ws,(t,ws)∈s.aT):Good (oZ s h w) :=
 ⟨by show(s.aW.set _ _).length=8;rw[aoD];exact g.h8,g.n8,g.asc,g.lt,g.f6,(λt m=>(rE m).elim (λq=>g.hh t q) λe=>c t e.symm),g.ff,g.nn,g.b12,g.bk,g.bnd,g.n0,g.nx,g.sd,g.yk,g.Ha,g.dk,g.IV⟩
noncomputable abbrev D4:List Str:=["self","h","w","t"]
theorem rQ:av D4 ["self","h","w"] (ar nB):=fsc
theorem BN(F:Fun K "read" "IdealHeap.read" nB D.dt D.iF)(T:Txt K mg D)
  (lW:9e7 5 D.bM D.gM ["self","h","w"] (Qx D))
  (lX:9e7 4 D.cV D.gP ["self","t"] (QE D)):9e7 7 D.dt D.iF ["self","h","w"] (QG D):=by
 refine F.oa rQ F.b3 λcdv A' outer s' H vs Q E hr h=>?_;obtain⟨x,A,s,h,w,rfl,J,G,hh,hw,k⟩:=h;refine⟨_,(ak (aN (i:=3) rQ.nd rfl 1e4 (lW.m hr (pv 0) T.ae T.tq px (aa (pv 1) (aa (pv 2) aj))))
  (ai (bI (ui (XZ (pv 3) 1e5) (by with_unfolding_all rfl))
   (ai (aI (lX.m hr (pv 0) T.ae T.zD px (aa (pv 3) aj))))
   aO))),?_⟩
 refine⟨_,rfl,x,_,_,rfl,J.ax,1e3,_,rfl,_,rfl,x,A,s,h,w,rfl,J,G,hh,hw,?_⟩;by_cases c:ok8 h
 ·rw[if_pos c]
  by_cases c2:ok8 w
  ·rw[if_pos c2]
   rw[show qU s h w=(none,rdR (oZ s h (nmW (s.names.getD w.toNat none))) (s.names.getD w.toNat none)) by simp only[qU,if_pos c,if_pos c2]]at k;have hi:w.toNat<s.names.length:=(by rw[G.n8];omega);have gd:s.names.getD w.toNat none=s.names[w.toNat]:=(by simp[List.getD,hi]);have mm:s.names[w.toNat]∈s.names:=aoV hi;obtain⟨z,ez⟩:∃ z,s.names.getD w.toNat none=z:=⟨_,rfl⟩;rw[ez]at k ⊢;rw[<-gd,ez]at mm;intro A1 H1 J1 fr;refine⟨_,rfl,_,rfl,x,D.ab,_,_,_,rfl,J1.ax,T.ae,T.bp,RG,A1.dm,_,z.map Sum.inl,rfl,ZZ z,.inl J1.adm,_,rfl,?_⟩;rw[acH];cases z with
   | none=>exact tW (k A1 H1 J1 fr)
   | some t =>
    show if decide (t∈s.dU)=true then _ else _;obtain⟨ws,m⟩:=G.nn t mm;by_cases c3:t∈s.dU
    ·rw[decide_eq_true c3]
     rw[show rdR (oZ s h (nmW (some t))) (some t)=uw (oZ s h (nmW (some t))) t from if_pos c3]at k;have G2:Good (oZ s h (nmW (some t))):=G.put λu e=>by cases e;exact⟨ws,m⟩
     exact u9 ⟨_,rfl,x,_,_,rfl,J1.ax,1e3,_,rfl,x,A1,_,t,rfl,J1,G2,(G.lt _ _ m).1,λA2 H2 J2 fr2=>k A2 H2 J2 (fr.trans fr2)⟩
    ·rw[decide_eq_false c3]
     rw[show rdR (oZ s h (nmW (some t))) (some t)=oZ s h (nmW (some t)) from if_neg c3]at k;exact tW (k A1 H1 J1 fr)
  ·rw[if_neg c2]
   rw[show qU s h w=(some .name,s) by simp only[qU,if_pos c,if_neg c2]]at k;exact k.bad J
 ·rw[if_neg c]
  rw[show qU s h w=(some .hand,s) by simp only[qU,if_neg c]]at k;exact k.bad J
inductive Dd where
 | make (h n:Int)|store (g k h:Int)|load (h g k:Int)|copy (h g:Int)|drop (h:Int)|number (h x:Int)|name (w h:Int)|read (h w:Int)|word (h x:Int)|small|turn
noncomputable abbrev In8(h:Int):Prop:=0<=h/\h<8
noncomputable def Dd.ok:Dd->Prop
 | .make h n=>In8 h/\0<=n/\n<=6
 | .store g k h=>In8 g/\0<=k/\k<=6/\In8 h
 | .load h g k=>In8 h/\In8 g/\0<=k/\k<=6
 | .copy h g=>In8 h/\In8 g
 | .drop h=>In8 h
 | .number h x=>In8 h/\-10000000<=x/\x<=10000000
 | .name w h=>In8 w/\In8 h
 | .read h w=>In8 h/\In8 w
 | .word h x=>In8 h/\-10000000<=x/\x<=10000000
 | .small=>True
 | .turn=>True
theorem m8(n d:Int):0<=n/d%8/\n/d%8<8:=⟨aoA _ 2e1,aor _ 2e1⟩
noncomputable def RL(s:HS):Re:=if s.rnd=true then Wa s else G0 s
noncomputable def dDo(s:HS):Dd->Re
 | .make h n=>qV s h n
 | .store g k h=>ke s g k h
 | .load h g k=>jg s h g k
 | .copy h g=>tU s h g
 | .drop h=>yP s h
 | .number h x=>lE s h x
 | .name w h=>sv s w h
 | .read h w=>qU s h w
 | .word h x=>qf s h x
 | .small=>(none,pT s)
 | .turn=>RL s
theorem Good.names{s:HS}(g:Good s){w:Nat}{t:Int}{ws:List Wd}(m:(t,ws)∈s.aT):Good {s with names:=s.names.set w (some t)} :=
 ⟨g.h8,by show(s.names.set _ _).length=8;rw[aoD];exact g.n8,g.asc,g.lt,g.f6,g.hh,g.ff,λu m'=>(rE m').elim (g.nn u) (λe=>by injection e with e;rw[e];exact⟨ws,m⟩),g.b12,g.bk,g.bnd,g.n0,g.nx,g.sd,g.yk,g.Ha,g.dk,g.IV⟩
theorem Uq{bs:List (Int×Int)}{t x:Int}:(LA bs t x).map (·.1)=if(bs.lookup t).isSome=true then bs.map (·.1) else bs.map (·.1)++[t]:=by
 unfold LA;by_cases c:(bs.lookup t).isSome=true
 ·rw[if_pos c,if_pos c,aoM]
  refine ao3 λp hp=>?_;show(if p.1=t then(t,x) else p).1=p.1;by_cases e:p.1=t
  ·rw[if_pos e];exact e.symm
  ·rw[if_neg e]
 ·rw[if_neg c,if_neg c,aon]
  rfl
theorem Good.cu{s:HS}(g:Good s){t x:Int}{ws:List Wd}(m:(t,ws)∈s.aT)(c:¬(s.cu.lookup t=none/\12<=s.cu.length)):Good {s with cu:=LA s.cu t x}:=by
 have kl:=Uq (bs:=s.cu) (t:=t) (x:=x);have ln:=congrArg List.length kl;have mm:∀ u,u∈(LA s.cu t x).map (·.1)->u∈s.cu.map (·.1)\/u=t:=λu h=>by
  rw[kl]at h;split at h
  ·exact .inl h
  ·rcases aot.mp h with h|h
   ·exact .inl h
   ·exact .inr (an7.mp h)
 refine⟨g.h8,g.n8,g.asc,g.lt,g.f6,g.hh,g.ff,g.nn,?_,λu y h=>?_,?_,g.n0,g.nx,g.sd,g.yk,g.Ha,g.dk,g.IV⟩
 ·show(LA s.cu t x).length<=12
  rw[an6]at ln;rw[ln];by_cases q:(s.cu.lookup t).isSome=true
  ·rw[if_pos q,an6];exact g.b12
  ·rw[if_neg q,aof,an6,aoH]
   have:s.cu.lookup t=none:=by
    cases e:s.cu.lookup t with
    | none=>rfl
    | some v=>rw[e]at q;exact absurd rfl q
   have:¬12<=s.cu.length:=λz=>c ⟨this,z⟩
   omega
 ·rcases mm u (aoy.mpr ⟨_,h,rfl⟩) with h|rfl
  ·obtain⟨p,hp,rfl⟩:=aoy.mp h
   exact g.bk p.1 p.2 hp
  ·exact⟨ws,m⟩
 ·show((LA s.cu t x).map (·.1)).Nodup
  rw[kl];by_cases q:(s.cu.lookup t).isSome=true
  ·rw[if_pos q];exact g.bnd
  ·rw[if_neg q,ao0]
   refine⟨g.bnd,apC _ _,λa ma b mb e=>?_⟩;rw[an7.mp mb]at e;subst e;obtain⟨p,hp,rfl⟩:=aoy.mp ma;refine q ?_;rw[mem_lookup (w:=p.2) g.bnd hp];rfl
theorem LH{fs:List (Int×List Wd)}{t:Int}{ws:List Wd}:(wV fs t ws).map (·.1)=fs.map (·.1):=by
 unfold wV;rw[aoM];refine ao3 λp hp=>?_;show(if p.1=t then(t,ws) else p).1=p.1;by_cases e:p.1=t
 ·rw[if_pos e];exact e.symm
 ·rw[if_neg e]
theorem VE{fs:List (Int×List Wd)}{t u:Int}{ws w:List Wd}(m:(u,w)∈fs):∃ w',(u,w')∈wV fs t ws:=by
 have:u∈(wV fs t ws).map (·.1):=by rw[LH];exact aoy.mpr ⟨_,m,rfl⟩
 obtain⟨p,hp,rfl⟩:=aoy.mp this;exact⟨p.2,hp⟩
theorem Dy{fs:List (Int×List Wd)}{t u:Int}{ws w:List Wd}(m:(u,w)∈wV fs t ws):(u,w)∈fs\/(w=ws/\∃ w0,(u,w0)∈fs):=by
 obtain⟨p,hp,e⟩:=aoy.mp m;by_cases c:p.1=t
 ·rw[if_pos c]at e
  cases e;exact .inr ⟨rfl,p.2,by rw[<-c];exact hp⟩
 ·rw[if_neg c]at e
  subst e;exact .inl hp
theorem Good.wV{s:HS}(g:Good s){t:Int}{ws:List Wd}(l6:ws.length<=6)(c:∀ u,Wd.th u∈ws->∃ w,(u,w)∈s.aT):Good {s with aT:=wV s.aT t ws}:=by
 have hs:∀ u,(∃ w,(u,w)∈s.aT)->∃ w,(u,w)∈K38.wV s.aT t ws:=λu ⟨w,m⟩=>VE m;refine⟨g.h8,g.n8,by show((K38.wV s.aT t ws).map (·.1)).Pairwise _;rw[LH];exact g.asc,λu w m=>?_,λu w m=>?_,λu m=>hs u (g.hh u m),λu w v m mv=>?_,λu m=>hs u (g.nn u m),g.b12,λu y m=>hs u (g.bk u y m),g.bnd,g.n0,g.nx,?_,λu m=>hs u (g.yk u m),g.Ha,λu m=>hs u (g.dk u m),g.IV⟩
 ·rcases Dy m with m|⟨_,w0,m⟩
  ·exact g.lt u w m
  ·exact g.lt u w0 m
 ·rcases Dy m with m|⟨rfl,w0,m⟩
  ·exact g.f6 u w m
  ·exact l6
 ·rcases Dy m with m|⟨rfl,w0,m⟩
  ·exact hs v (g.ff u w v m mv)
  ·exact hs v (c v mv)
 ·show(s.wU.length:Int)+((K38.wV s.aT t ws).length:Int)<=s.nxt
  unfold K38.wV;rw[an6];exact g.sd
theorem Good.anL{s:HS}(g:Good s){h n:Int}(n6:n<=6)(few:s.nxt<10000):Good (RJ s h n):=by
 have hs:∀ u,(∃ w,(u,w)∈s.aT)->∃ w,(u,w)∈s.aT++[(s.nxt,List.replicate n.toNat Wd.no)]:=λu ⟨w,m⟩=>⟨w,aoC _ m⟩;have mm:∀ {u:Int} {w:List Wd},(u,w)∈s.aT++[(s.nxt,List.replicate n.toNat Wd.no)]->(u,w)∈s.aT\/(u=s.nxt/\w=List.replicate n.toNat Wd.no):=λm=>by
  rcases aot.mp m with m|m
  ·exact .inl m
  ·cases an7.mp m;exact .inr ⟨rfl,rfl⟩
 have my:∀ u∈(RJ s h n).yng,u∈s.yng\/u=s.nxt:=λu m=>by
  have m:u∈(if s.my=true then s.yng++[s.nxt] else s.yng):=m;split at m
  ·exact(aot.mp m).imp id λz=>an7.mp z
  ·exact .inl m
 refine⟨by show(s.aW.set _ _).length=8;rw[aoD];exact g.h8,g.n8,?_,λu w m=>?_,λu w m=>?_,λu m=>?_,λu w v m mv=>?_,λu m=>hs u (g.nn u m),g.b12,λu y m=>hs u (g.bk u y m),g.bnd,by show 0<=s.nxt+1;have:=g.n0;omega,by show s.nxt+1<=10000;omega,?_,λu m=>?_,?_,λu m=>hs u (g.dk u m),g.IV⟩
 ·show((s.aT++[(s.nxt,List.replicate n.toNat Wd.no)]).map (·.1)).Pairwise _
  rw[aon,apL];refine⟨g.asc,apC _ _,λa ma b mb=>?_⟩;obtain⟨p,hp,rfl⟩:=aoy.mp ma;obtain rfl:b=s.nxt:=by simpa using mb
  exact(g.lt p.1 p.2 hp).2
 ·show 0<=u/\u<s.nxt+1
  have:=g.n0
  rcases mm m with m|⟨e,_⟩
  ·have:=g.lt u w m;omega
  ·omega
 ·rcases mm m with m|⟨_,e⟩
  ·exact g.f6 u w m
  ·rw[e,aoR];omega
 ·rcases rE m with m|e
  ·exact hs u (g.hh u m)
  ·injection e with e
   exact⟨_,aod _ (an7.mpr (by rw[e]))⟩
 ·rcases mm m with m|⟨_,e⟩
  ·exact hs v (g.ff u w v m mv)
  ·rw[e]at mv
   cases aoS mv
 ·show(s.wU.length:Int)+((s.aT++[(s.nxt,List.replicate n.toNat Wd.no)]).length:Int)<=s.nxt+1
  rw[aof,aoH]
  have:=g.sd
  omega
 ·rcases my u m with m|e
  ·exact hs u (g.yk u m)
  ·exact⟨_,aod _ (an7.mpr (by rw[e]))⟩
 ·show(if s.my=true then s.yng++[s.nxt] else s.yng).Pairwise _
  split
  ·rw[apL]
   refine⟨g.Ha,apC _ _,λa ma b mb=>?_⟩;obtain rfl:b=s.nxt:=(by simpa using mb);obtain⟨ws,m⟩:=g.yk a ma;exact(g.lt a ws m).2
  ·exact g.Ha
theorem Gd.put{s:HS}(d:Gd s){h:Int}{w:Wd}(c:∀ t,w=.th t->(∃ ws,(t,ws)∈s.aT)/\t∉s.dU):Gd (oZ s h w) :=
 ⟨d.g.put λt e=>(c t e).1,d.dy,λt m=>(rE m).elim (d.dh t) (λe=>(c t e.symm).2),d.df,d.rd⟩
theorem Gd.add{s:HS}(d:Gd s){h n:Int}(n6:n<=6)(few:s.nxt<10000):Gd (RJ s h n) where
 g:=d.g.anL n6 few
 dy:=λt m=>by
  obtain⟨ws,mt⟩:=d.g.dk t m;have lt:=(d.g.lt t ws mt).2;show t∉(if s.my=true then s.yng++[s.nxt] else s.yng);split
  ·intro z
   rcases aot.mp z with z|z
   ·exact d.dy t m z
   ·have:=an7.mp z;omega
  ·exact d.dy t m
 dh:=λt m=>(rE m).elim (d.dh t) λe=>by
  injection e with e;intro z;obtain⟨ws,mt⟩:=d.g.dk t z
  have:=(d.g.lt t ws mt).2
  omega
 df:=λu ws t m hu h=>by
  rcases aot.mp m with m|m
  ·exact d.df u ws t m hu h
  ·cases an7.mp m
   cases aoS h
 rd:=d.rd
theorem Gd.wV{s:HS}(d:Gd s){t:Int}{ws:List Wd}(l6:ws.length<=6)(c:∀ u,Wd.th u∈ws->(∃ w,(u,w)∈s.aT)/\u∉s.dU):Gd {s with aT:=wV s.aT t ws} where
 g:=d.g.wV l6 λu m=>(c u m).1
 dy:=d.dy
 dh:=d.dh
 df:=λu w v m hu h=>by
  rcases Dy m with m|⟨e,_⟩
  ·exact d.df u w v m hu h
  ·rw[e]at h;exact(c v h).2
 rd:=d.rd
theorem Gd.hnd{s:HS}(d:Gd s){h:Int}{w:Wd}(e:wat s.aW h=some w):∀ t,w=.th t->(∃ ws,(t,ws)∈s.aT)/\t∉s.dU:=λt z=>by
 have m:=an9 (uq e).2.2;rw[z]at m;exact⟨d.g.hh t m,d.dh t m⟩
theorem Tn{s:HS}{n:Option Int}:(rdR s n).nxt=s.nxt:=by
 unfold rdR;split
 ·split<;>rfl
 ·rfl
theorem UO{s:HS}(d:Gd s)(few:s.nxt<10000){dd:Dd}(ok:dd.ok):Gd (dDo s dd).2/\s.nxt<=(dDo s dd).2.nxt/\(dDo s dd).2.nxt<=s.nxt+1:=by
 have same:Gd s/\s.nxt<=s.nxt/\s.nxt<=s.nxt+1:=⟨d,aoQ _,by omega⟩;cases dd with
 | make h n =>
  show Gd (qV s h n).2/\s.nxt<=(qV s h n).2.nxt/\(qV s h n).2.nxt<=s.nxt+1;unfold qV;split
  ·split
   ·split
    ·exact⟨d.mkd,by rw[DY];exact aoQ _,by rw[DY];omega⟩
    ·exact⟨d.mkd.add ok.2.2 (by rw[DY];exact few),by show s.nxt<=(mkR s n).nxt+1;rw[DY];omega,by show(mkR s n).nxt+1<=s.nxt+1;rw[DY];exact aoQ _⟩
   ·exact same
  ·exact same
 | store g k h =>
  show Gd (ke s g k h).2/\s.nxt<=(ke s g k h).2.nxt/\(ke s g k h).2.nxt<=s.nxt+1;unfold ke;split
  ·rename_i t e
   split
   ·rename_i w e2
    split
    ·rename_i c
     have m:=d.g.hand e;refine⟨d.wV (by rw[aoD];exact d.g.f6 _ _ m) (λu hu=>?_),aoQ _,by show s.nxt<=s.nxt+1;omega⟩;rcases rE hu with hu|hu
     ·exact⟨d.g.ff _ _ _ m hu,d.df _ _ _ m ((d.hnd e t rfl).2) hu⟩
     ·exact d.hnd e2 u hu.symm
    ·exact same
   ·exact same
  ·exact same
 | load h g k =>
  show Gd (jg s h g k).2/\s.nxt<=(jg s h g k).2.nxt/\(jg s h g k).2.nxt<=s.nxt+1;unfold jg;split
  ·split
   ·rename_i t e
    split
    ·rename_i c
     have m:=d.g.hand e;refine⟨d.put λu hu=>?_,aoQ _,by show s.nxt<=s.nxt+1;omega⟩;have hi:k.toNat<(fld s t).length:=1e1;have hm:Wd.th u∈fld s t:=(by rw[<-hu,ao4,an4 hi];exact aoV hi);exact⟨d.g.ff _ _ _ m hm,d.df _ _ _ m ((d.hnd e t rfl).2) hm⟩
    ·exact same
   ·exact same
  ·exact same
 | copy h g =>
  show Gd (tU s h g).2/\s.nxt<=(tU s h g).2.nxt/\(tU s h g).2.nxt<=s.nxt+1;unfold tU;split
  ·split
   ·rename_i w e
    exact⟨d.put (d.hnd e),aoQ _,by show s.nxt<=s.nxt+1;omega⟩
   ·exact same
  ·exact same
 | drop h =>
  show Gd (yP s h).2/\s.nxt<=(yP s h).2.nxt/\(yP s h).2.nxt<=s.nxt+1;unfold yP;split
  ·exact⟨d.put (λt e=>by cases e),aoQ _,by show s.nxt<=s.nxt+1;omega⟩
  ·exact same
 | number h x =>
  show Gd (lE s h x).2/\s.nxt<=(lE s h x).2.nxt/\(lE s h x).2.nxt<=s.nxt+1;unfold lE;split
  ·split
   ·exact⟨d.put (λt e=>by cases e),aoQ _,by show s.nxt<=s.nxt+1;omega⟩
   ·exact same
  ·exact same
 | name w h =>
  show Gd (sv s w h).2/\s.nxt<=(sv s w h).2.nxt/\(sv s w h).2.nxt<=s.nxt+1;unfold sv;split
  ·rename_i t e
   split
   ·exact⟨⟨d.g.names (d.g.hand e),d.dy,d.dh,d.df,d.rd⟩,aoQ _,by show s.nxt<=s.nxt+1;omega⟩
   ·exact same
  ·exact same
 | read h w =>
  show Gd (qU s h w).2/\s.nxt<=(qU s h w).2.nxt/\(qU s h w).2.nxt<=s.nxt+1;unfold qU;split
  ·split
   ·rename_i c2
    refine⟨?_,by rw[Tn];exact aoQ _,by rw[Tn];show s.nxt<=s.nxt+1;omega⟩;have hi:w.toNat<s.names.length:=(by rw[d.g.n8];omega);have gd:s.names.getD w.toNat none=s.names[w.toNat]:=(by simp[List.getD,hi]);have mm:s.names[w.toNat]∈s.names:=aoV hi;rw[<-gd]at mm;cases e:s.names.getD w.toNat none with
    | none=>exact d.put (λt e=>by cases e)
    | some t =>
     rw[e]at mm;obtain⟨ws,m⟩:=d.g.nn t mm;show Gd (if t∈(oZ s h (.th t)).dU then uw (oZ s h (.th t)) t else oZ s h (.th t));have g2:Good (oZ s h (.th t)):=d.g.put λu z=>by cases z;exact⟨ws,m⟩
     by_cases c:t∈s.dU
     ·rw[if_pos (show t∈(oZ s h (.th t)).dU from c)]
      refine Gd.acG ⟨g2,d.dy,d.df,d.rd⟩ c λu hu=>?_;rcases rE hu with hu|hu
      ·exact .inr (d.dh u hu)
      ·injection hu with hu;exact .inl hu
     ·rw[if_neg (show ¬t∈(oZ s h (.th t)).dU from c)]
      exact d.put λu z=>by cases z;exact⟨⟨ws,m⟩,c⟩
   ·exact same
  ·exact same
 | word h x =>
  show Gd (qf s h x).2/\s.nxt<=(qf s h x).2.nxt/\(qf s h x).2.nxt<=s.nxt+1;unfold qf;split
  ·rename_i t e
   split
   ·split
    ·exact same
    ·rename_i c
     exact⟨⟨d.g.cu (d.g.hand e) c,d.dy,d.dh,d.df,d.rd⟩,aoQ _,by show s.nxt<=s.nxt+1;omega⟩
   ·exact same
  ·exact same
 | small=>exact⟨d.small,aoQ _,by show s.nxt<=s.nxt+1;omega⟩
 | turn =>
  show Gd (RL s).2/\s.nxt<=(RL s).2.nxt/\(RL s).2.nxt<=s.nxt+1;unfold RL;split
  ·rename_i c
   rw[show Wa s=(none,Zb s) from if_pos c];exact⟨d.fin,aoQ _,by show s.nxt<=s.nxt+1;omega⟩
  ·rename_i c
   rw[show G0 s=(none,Yd (pT s)) from if_neg c];exact⟨d.small.beg rfl,aoQ _,by show s.nxt<=s.nxt+1;omega⟩
theorem gd0{my:Bool}{room limit:Int}:Gd (s0 my room limit):=⟨good0,(λt m=>nomatch m),(λt _ m=>nomatch m),(λu ws t m=>nomatch m),λ_=>rfl⟩
noncomputable def UP(K:W.Frag):Sp:=λvs H Q _=>∃(a:Addr) (ns:List Int),vs=[.ref a]/\SqL K H a (ns.map V.int)/\ns.length<=63/\∀ H',Q (.bl true) H'
open Classical in
noncomputable def Fi(D:Ad):Sp:=λvs H Q _=>∃ x A s,vs=[.ref x]/\IH D H x A s/\Good s/\(∀ p H',aB H H'->H p=none->H' p=some (.lst A.hx)->Q (.ref p) H')
noncomputable abbrev BO:List Str:=["self"]
theorem zV:av BO ["self"] (ar lO):=fsc
theorem zW(F:Fun K "hands" "IdealHeap.hands" lO D.cp D.fF)(T:Txt K mg D)
  (cv:9e7 1 D.bL D.dE ["self"] (qe D)):9e7 2 D.cp D.fF ["self"] (Fi D):=by
 refine F.oa zV F.b1 λcdv A' outer s' H vs Q E hr h=>?_;obtain⟨x,A,s,rfl,J,G,k⟩:=h;refine⟨_,(PSs.nox (ai (aG (cv.m0 hr 1e5 T.aV T.kJ aY)))),?_⟩;exact⟨_,rfl,x,D.ab,_,_,.ref A.hd,rfl,J.ax,T.ae,T.aA,pA,A.hd,A.hdx,_,rfl,J.ahd,rfl,A.hd,A.hdx,A.hl,A.hx,s.aW,rfl,J.hn G,k⟩
noncomputable def To(D:Ad):Sp:=λvs H Q _=>∃ nt ntx nl xs,vs=[.ref nt]/\Nt D H nt ntx nl xs/\∀ p H',aB H H'->H p=none->H' p=some (.lst xs)->Q (.ref p) H'
noncomputable abbrev vB:List Str:=["self"]
theorem t8:av vB ["self"] (ar jj):=fsc
theorem t9(F:Fun K "all_named" "NameTable.all_named" jj D.bF D.d8)(T:Txt K mg D):9e7 1 D.bF D.d8 ["self"] (To D):=by
 refine F.oa t8 F.b1 λcdv A' outer s' H vs Q E hr h=>?_;obtain⟨nt,ntx,nl,xs,rfl,N,k⟩:=h;refine⟨_,(PSs.nox (ai (aG (ll pV rfl T.yY PyProof.Rows.Boot.«list» (aa 1e5 aj))))),?_⟩;exact⟨_,rfl,nt,D.aD,ntx,_,.ref nl,rfl,N.i,T.dM,T.bV,rfl,nl,xs,rfl,.inl (SqL.of N.l),λp hp=>k p _ (aB.upd hp) hp ag⟩
noncomputable def Fj(D:Ad):Sp:=λvs H Q _=>∃ x A s,vs=[.ref x]/\IH D H x A s/\Good s/\(∀ p H',aB H H'->H p=none->H' p=some (.lst (s.names.map nmV))->Q (.ref p) H')
noncomputable abbrev BP:List Str:=["self"]
theorem zX:av BP ["self"] (ar lP):=fsc
theorem zY(F:Fun K "names" "IdealHeap.names" lP D.cq D.fG)(T:Txt K mg D)
  (jm:9e7 1 D.bF D.d8 ["self"] (To D)):9e7 2 D.cq D.fG ["self"] (Fj D):=by
 refine F.oa zX F.b1 λcdv A' outer s' H vs Q E hr h=>?_;obtain⟨x,A,s,rfl,J,G,k⟩:=h;refine⟨_,(PSs.nox (ai (aG (jm.m0 hr 1e5 T.dM T.tY aY)))),?_⟩;exact⟨_,rfl,x,D.ab,_,_,.ref A.nt,rfl,J.ax,T.ae,T.dD,UM,A.nt,A.ntx,_,rfl,J.ant,rfl,A.nt,A.ntx,A.nl,_,rfl,J.ntb G,k⟩
noncomputable def vi(D:Ad):Sp:=λvs H Q _=>∃ x A s,vs=[.ref x]/\IH D H x A s/\Good s/\(∀ p H',aB H H'->H p=none->H' p=some (.lst ((keys s).map V.int))->Q (.ref p) H')
noncomputable abbrev zZ:List Str:=["self"]
theorem yi:av zZ ["self"] (ar kI):=fsc
theorem yj(F:Fun K "things" "IdealHeap.things" kI D.bC D.c6)(T:Txt K mg D):9e7 1 D.bC D.c6 ["self"] (vi D):=by
 refine F.oa yi F.b1 λcdv A' outer s' H vs Q E hr h=>?_;obtain⟨x,A,s,rfl,J,G,k⟩:=h;refine⟨_,(PSs.nox (ai (aG (cz (LS rfl) rfl T.Du PyProof.Rows.Boot.«sorted» (aa 1e5 aj))))),?_⟩;exact⟨_,rfl,x,D.ab,_,_,.ref A.fh,rfl,J.ax,T.ae,T.aC,tT,A.fh,_,keys s,rfl,.inl J.afh,UN s A,(by unfold keys;rw[an6];exact aou G.few 2e1),G.asc.imp (λh=>Int.le_of_lt h),λp hp=>k p _ (aB.upd hp) hp ag⟩
noncomputable def Wf(D:Ad):Sp:=λvs H Q E=>∃ x A s,∃ t:Int,vs=[.ref x,.int t]/\IH D H x A s/\Good s/\Sm t/\(t∈keys s->Q .non H)/\(t∉keys s->Bad D.iR H E)
noncomputable abbrev yl:List Str:=["self","t"]
theorem vZ:av yl ["self","t"] (ar kj):=fsc
theorem wa(F:Fun K "look_at_held" "Heap.look_at_held" kj D.bo D.fM)(T:Txt K mg D)
  (ah:9e7 1 D.ao D.aw ["self","text"] (yU K)):9e7 3 D.bo D.fM ["self","t"] (Wf D):=by
 refine F.oa vZ F.b2 λcdv A' outer s' H vs Q E hr h=>?_;obtain⟨x,A,s,t,rfl,J,G,ht,k,kb⟩:=h;have hu:=i9 hr;refine⟨_,(ai (bI (ui (oy hu (pv 1) 1e5) (by with_unfolding_all rfl))
   (ai (eE rfl jA (ah.e hr T.Rt T.Rq px (aa (ir (aQ (jn (pv 1)) (aQ fq iq))) aj))))
   aO)),?_⟩
 refine⟨_,rfl,_,rfl,x,D.ab,_,_,.ref A.fh,rfl,J.ax,T.ae,T.aC,tT,A.fh,_,rfl,tX.k (k:=Sum.inl t) J.afh,_,rfl,?_⟩;rw[(UN s A).isS];by_cases c:t∈keys s
 ·rw[decide_eq_true c]
  exact tW (k c)
 ·rw[decide_eq_false c]
  exact u9 ⟨_,rfl,t,rfl,ht,λy hy ea hea=>bE T.Rr (λ_ q=>q) (kb c) ea hea⟩
noncomputable def zg(D:Ad):Sp:=λvs H Q E=>∃ x A s,∃ t:Int,vs=[.ref x,.int t]/\IH D H x A s/\Good s/\Sm t/\(t∈keys s->∀ p H',aB H H'->H p=none->H' p=some (.lst (A.fx t))->Q (.ref p) H')/\(t∉keys s->Bad D.iR H E)
noncomputable abbrev vC:List Str:=["self","t"]
theorem ua:av vC ["self","t"] (ar jk):=fsc
theorem ub(F:Fun K "fields_of" "IdealHeap.fields_of" jk D.aP D.bh)(T:Txt K mg D)
  (km:9e7 3 D.bo D.fM ["self","t"] (Wf D)):9e7 4 D.aP D.bh ["self","t"] (zg D):=by
 refine F.oa ua F.b2 λcdv A' outer s' H vs Q E hr h=>?_;obtain⟨x,A,s,t,rfl,J,G,ht,k,kb⟩:=h;have hu:=i9 hr;refine⟨_,(ak (aI (km.m hr (pv 0) T.ae T.rf px 1e9))
  (ai (aG (ll pV rfl T.yY PyProof.Rows.Boot.«list» (aa (ip hu 1e5 (pv 1) 1e7) aj))))),?_⟩
 refine⟨_,rfl,x,_,_,rfl,J.ax,1e3,_,rfl,x,A,s,t,rfl,J,G,ht,λm=>?_,kb⟩;obtain⟨ws,mw⟩:=mem_keys.mp m;exact⟨_,rfl,x,D.ab,_,_,.ref A.fh,rfl,J.ax,T.ae,T.aC,tT,_,rfl,A.fh,_,rfl,J.Y9 G mw,A.fa t,_,rfl,.inl (SqL.of (J.afl _ _ mw).1),λp hp=>k m p _ (aB.upd hp) hp ag⟩
end
end K38
end
section
namespace L2
open PySem PySem.Spec PyProof.Rows LX
section
variable{P:Program}{w:World}{K:W.Frag}{mg:Str->Option Value}{base:Heap}{N:List Str}{qual:Str}{scope:Scope}{f:Addr}{cdv:Value}{A:Around}{outer:List Env}{s₀:Shared}{H₀:Hp}{E₀:XK}
noncomputable def XO(P:Program)(w:World)(qual:Str)(scope:Scope)(f:Addr)(cdv:Value)(A:Around)(outer:List Env)(s₀:Shared)(H₀:Hp)(E₀:XK)(base:Heap)(e:Value)(s:Shared):Prop :=
 ∃(ea:Addr) (c:Value) (od:Option Addr) (fs:Array Value) (sl:Array (Option Value)) (T0:Option Addr),e=.ref ea/\(A.deeper (envOfC qual scope s₀.heap.objs.size f cdv)).frames=some (envOfC qual scope s₀.heap.objs.size f cdv::outer)/\s.heap.FunFrames base (envOfC qual scope s₀.heap.objs.size f cdv::outer)/\s.heap.get? ea=some (eM c od fs sl)/\yL s.heap ea fs T0 /\
  ∀(m:Heap) (T:Addr) (fs':Array Value),s.heap.objs.size<=T->Kept (dI (envOfC qual scope s₀.heap.objs.size f cdv::outer)) (ea::T0.toList) s.heap m->m.get? ea=some (eM c od fs' sl)->fs'[0]?=fs[0]?->yL m ea fs' (some T)->CXE P w outer H₀ s₀ E₀ (.ref ea) {s with heap:=m}
noncomputable def XN(P:Program)(w:World)(outer:List Env)(s₀:Shared)(H₀:Hp)(E₀:XK)(L:Addr)(e:Value)(s:Shared):Prop :=
 ∃(ea T:Addr) (c oc:Value) (od d:Option Addr) (fs ts:Array Value) (sl sm:Array (Option Value)),e=.ref ea/\s.heap.get? ea=some (eM c od fs sl)/\fs[1]?=some (.ref T)/\T≠ea/\s.heap.get? T=some (eM oc d ts sm)/\ts[3]?=some (rawInt L) /\
  ∀ m:Heap,(∀ b o,b≠T->s.heap.get? b=some o->m.get? b=some o)->yL m ea fs (some T)->m.get? ea=some (eM c od fs sl)->CXE P w outer H₀ s₀ E₀ (.ref ea) {s with heap:=m}
noncomputable def XR(P:Program)(w:World)(qual:Str)(scope:Scope)(f:Addr)(cdv:Value)(A:Around)(outer:List Env)(s₀:Shared)(H₀:Hp)(E₀:XK)(base:Heap)(e:Value)(s:Shared):Prop :=
 XO P w qual scope f cdv A outer s₀ H₀ E₀ base e s\/XN P w outer s₀ H₀ E₀ s₀.heap.objs.size e s
theorem VF{pins:List (Addr×Obj)}{σ:St}{H H':Hp}{s s':Shared}{ea C T:Addr}{od:Option Addr}{fs:Array Value}{sl:Array (Option Value)}(I:Inv (cxE P w K mg base N qual scope f cdv A outer s₀ H₀ E₀) pins σ H s)
  (l:Lies P w (cxE P w K mg base N qual scope f cdv A outer s₀ H₀ E₀).stack H H' s ea C T od fs sl s') (hE:E₀ (.ref C) od H'):XO P w qual scope f cdv A outer s₀ H₀ E₀ base (.ref ea) s':=by
 refine⟨ea,_,_,_,_,_,rfl,I.ok.frames,Lies.frames I l,l.at_,l.trail,λm T' fs' z1 z2 z3 z4 z5=>?_⟩;obtain⟨un,hok⟩:=l.on (t':=s'.toks) I z2;have J:Inv (cxE P w K mg base N qual scope f cdv A outer s₀ H₀ E₀) pins σ H' {s' with heap:=m}:=I.K8 l.os un hok l.bare (λb z=>absurd z (by simp));have old:∀ b o,s₀.heap.get? b=some o->∃ o',s.heap.get? b=some o':=λb o z=>I.base.there b o z (apv);have e0:s₀.heap.get? ea=none:=by
  cases q:s₀.heap.get? ea with
  | none=>rfl
  | some o =>
   obtain⟨o',z⟩:=old ea o q;rw[l.abK]at z;cases z
 have t0:s₀.heap.get? T'=none:=by
  cases q:s₀.heap.get? T' with
  | none=>rfl
  | some o =>
   obtain⟨o1,y1⟩:=old T' o q;obtain⟨o2,y2⟩:=l.un.there T' o1 y1 (by simp);exact absurd (aoe y2) (Nat.not_lt.mpr z1)
 obtain⟨a0,ha⟩:=l.args;exact⟨ea,C,T',od,fs',sl,H',rfl,⟨J.os,J.bare,J.base,J.hok,e0,t0,l.W0,l.hok.fresh z1,z3,⟨a0,by rw[z4];exact ha⟩,z5⟩,hE⟩
theorem XR.xe{e:Value}{s:Shared}(h:XR P w qual scope f cdv A outer s₀ H₀ E₀ base e s):(cxE P w K mg base N qual scope f cdv A outer s₀ H₀ E₀).xe e s:=by
 rcases h with⟨ea,c,od,fs,sl,T0,rfl,hA,F,he,t,k⟩|⟨ea,T,c,oc,od,d,fs,ts,sl,sm,rfl,he,h1,ne,hT,h3,k⟩
 ·exact Sq hA F rfl he t k
 ·have h3s:3<ts.size:=(aoq.mp h3).1
  show wpAny _ _ (leaving _ (.ref ea)) _ _ s;unfold leaving noteFrame;refine wpAny_bind ?_;show wpAny _ _ (field (.ref ea) 1 >>= _) _ _ s;refine wpAny_bind (wpAny_field he rfl h1 ?_);rw[if_pos (show(Value.ref T != Value.none)=true by simp)];refine wpAny_bind (wpAny_field hT rfl h3 ?_);rw[if_pos (by simp)];exact wpAny_pure (nZ he h1 ne hT h3s k)
theorem RM:PassesOwn (model P w) (A.deeper (envOfC qual scope s₀.heap.objs.size f cdv)) (envOfC qual scope s₀.heap.objs.size f cdv) (XR P w qual scope f cdv A outer s₀ H₀ E₀ base):=by
 intro e s h;have ajr:∀ {s1:Shared},XN P w outer s₀ H₀ E₀ s₀.heap.objs.size e s1->cameBackBy (model P w) (A.deeper (envOfC qual scope s₀.heap.objs.size f cdv)) (envOfC qual scope s₀.heap.objs.size f cdv) (XR P w qual scope f cdv A outer s₀ H₀ E₀ base) e s1:=by
  rintro s1 ⟨ea,T,c,oc,od,d,fs,ts,sl,sm,rfl,he,h1,ne,hT,h3,k⟩;have h3s:3<ts.size:=(aoq.mp h3).1;unfold cameBackBy setFlight;refine wpAny_bind (wpAny_field he rfl h1 ?_);dsimp only;rw[if_neg (by simp)];refine wpAny_bind (wpAny_field he rfl h1 ?_);rw[if_pos (show(Value.ref T != Value.none)=true by simp)];refine wpAny_setField hT rfl h3s ?_;have oth:∀ b o,b≠T->s1.heap.get? b=some o->(s1.heap.update T (Obj.mapFields (·.setIfInBounds 3 (rawInt s₀.heap.objs.size)))).get? b=some o:=λb o hb q=>(aoE _ _ (aol hb)).trans q;exact .inr ⟨ea,T,c,oc,od,d,fs,ts.setIfInBounds 3 (rawInt s₀.heap.objs.size),sl,sm,rfl,oth _ _ (aol ne) he,h1,ne,DD hT,by simp[h3s],λm q1 q2 q3=>k m (λb o hb q=>q1 b o hb (oth b o hb q)) q2 q3⟩
 rcases h with⟨ea,c,od,fs,sl,T0,rfl,hA,F,he,t,k⟩|⟨ea,T,c,oc,od,d,fs,ts,sl,sm,rfl,he,h1,ne,hT,h3,k⟩
 ·refine IF hA F rfl he t λm T oc ts z1 z2 z3 z4 z5=>ajr ?_
  have Te:T≠ea:=apd (aoi (aoe he) z1);have f1:(fs.setIfInBounds 1 (Value.ref T))[1]?=some (.ref T):=by
   have:=t.size
   simp[this]
  refine⟨ea,T,c,oc,od,none,_,ts,sl,#[],rfl,z3,f1,Te,z4,z5,λm' q1 q2 q3=>k m' T _ z1 ⟨λb o q hb hx=>?_,λb o q hb hx=>?_⟩ q3 (by simp) q2⟩
  ·exact q1 b o (aok (aoi (aoe q) z1)) (z2.plain b o q hb hx)
  ·obtain⟨sm,r⟩:=z2.frame b o q hb hx
   exact⟨sm,q1 b _ (aok (aoi (aoe q) z1)) r⟩
 ·have h3s:3<ts.size:=(aoq.mp h3).1
  show wpAny _ _ (noteFrame (.ref ea) _) _ _ s;unfold noteFrame;show wpAny _ _ (field (.ref ea) 1 >>= _) _ _ s;refine wpAny_bind (wpAny_field he rfl h1 ?_);rw[if_pos (show(Value.ref T != Value.none)=true by simp)];refine wpAny_bind (wpAny_field hT rfl h3 ?_);rw[if_pos (by simp)];exact wpAny_pure (ajr ⟨ea,T,c,oc,od,d,fs,ts,sl,sm,rfl,he,h1,ne,hT,h3,k⟩)
noncomputable abbrev cxR(P:Program)(w:World)(K:W.Frag)(mg:Str->Option Value)(base:Heap)(N:List Str)(qual:Str)(scope:Scope)(f:Addr)(cdv:Value)(A:Around)(outer:List Env)(s₀:Shared)(H₀:Hp)(E₀:XK):Cx :=
 (cxE P w K mg base N qual scope f cdv A outer s₀ H₀ E₀).JB (XR P w qual scope f cdv A outer s₀ H₀ E₀ base)
theorem PSs.xr{st:List Stmt}{t:TS}(h:PSs (cxR P w K mg base N qual scope f cdv A outer s₀ H₀ E₀) st t):PSs (cxE P w K mg base N qual scope f cdv A outer s₀ H₀ E₀) st t:=λpins s σ H D I hw =>
 wpAny_mono (h pins s σ H D (I.JB _) hw) (λ_ _ q=>q.sD) λ_ _ z=>z.xe
theorem Xf{E:XK}(hE:∀ c od H',E c od H'->E₀ c od H'):gT (CXE P w) (cxR P w K mg base N qual scope f cdv A outer s₀ H₀ E₀) (λ_=>E):=λpins σ H s e s' I h=>by
 obtain⟨ea,C,T,od,fs,sl,H',rfl,l,q⟩:=h;exact .inl (VF I.sD l (hE _ _ _ q))
theorem anM:PassesOwn (model P w) (cxR P w K mg base N qual scope f cdv A outer s₀ H₀ E₀).A (cxR P w K mg base N qual scope f cdv A outer s₀ H₀ E₀).env (cxR P w K mg base N qual scope f cdv A outer s₀ H₀ E₀).xe:=RM
end
end L2
end
section
namespace K38
open PySem L2 LX
section
variable{P:Program}{w:World}{K:W.Frag}{mg:Str->Option Value}{base:Heap}{D:Ad}
theorem But.same{m:Addr}{H H1:Hp}(s:aB H H1):But m H H1:=λb u _ q=>s b u q
inductive Mw where
 | no
 | num (n:Int)
 | ad (a:Int)
 | hd (t n:Int)
 | mv (a n:Int)
noncomputable def Mw.its:Mw->List V
 | .no=>[]
 | .num n=>[.str "number",.int n]
 | .ad a=>[.str "at",.int a]
 | .hd t n=>[.str "head",.int t,.int n]
 | .mv a n=>[.str "moved",.int a,.int n]
noncomputable def Mw.kind:Mw->Str
 | .no => "none"
 | .num _ => "number"
 | .ad _ => "at"
 | .hd _ _ => "head"
 | .mv _ _ => "moved"
noncomputable def MV(H:Hp)(v:V)(w:Mw):Prop:=(w=.no/\v=.non)\/(w≠.no/\∃ t,v=.ref t/\H t=some (.tup w.its))
theorem MV.keep{H H':Hp}{v:V}{w:Mw}(h:MV H v w)(s:b7 H H'):MV H' v w:=by
 rcases h with h|⟨n,t,e,q⟩
 ·exact .inl h
 ·exact .inr ⟨n,t,e,s _ _ q⟩
noncomputable def MR(H:Hp)(xs:List V)(ws:List Mw):Prop:=xs.length=ws.length/\∀(i:Nat) (v:V) (w:Mw),xs[i]?=some v->ws[i]?=some w->MV H v w
theorem MR.keep{H H':Hp}{xs:List V}{ws:List Mw}(h:MR H xs ws)(s:b7 H H'):MR H' xs ws:=⟨h.1,λi v w a b=>(h.2 i v w a b).keep s⟩
theorem MR.get{H:Hp}{xs:List V}{ws:List Mw}(h:MR H xs ws){i:Nat}{w:Mw}(hw:ws[i]?=some w):∃ v,xs[i]?=some v/\MV H v w:=by
 have hi:i<xs.length:=by rw[h.1];exact(an5.mp hw).1
 exact⟨_,an4 hi,h.2 i _ _ (an4 hi) hw⟩
theorem MR.set{H:Hp}{xs:List V}{ws:List Mw}{i:Nat}{v:V}{w:Mw}(h:MR H xs ws)(hv:MV H v w):MR H (xs.set i v) (ws.set i w):=by
 refine⟨by rw[aoD,aoD];exact h.1,λj u y a b=>?_⟩;by_cases e:i=j
 ·subst e
  rw[apT]at a b;simp only[if_true]at a b;split at a
  ·split at b
   ·cases a;cases b;exact hv
   ·cases b
  ·cases a
 ·rw[ao8 e]at a b
  exact h.2 j u y a b
theorem MR.rep{H:Hp}{n:Nat}:MR H (List.replicate n .non) (List.replicate n .no):=⟨by rw[aoR,aoR],λi v w a b=>by
 rw[apf]at a b;split at a
 ·rename_i c
  rw[if_pos c]at b;cases a;cases b;exact .inl ⟨rfl,rfl⟩
 ·cases a⟩
structure Mm(D:Ad)(H:Hp)(m mx c:Addr)(xs:List V)(ws:List Mw):Prop where
 i:H m=some (.ins D.bK mx [("cells",.ref c)])
 l:H c=some (.lst xs)
 r:MR H xs ws
 z:ws.length<=10000
section
variable{D:Ad}{H H':Hp}{m mx c:Addr}{xs:List V}{ws:List Mw}
theorem Mm.same(M:Mm D H m mx c xs ws)(s:aB H H'):Mm D H' m mx c xs ws:=⟨s _ _ M.i,s _ _ M.l,M.r.keep (b7.of s),M.z⟩
theorem Mm.mc(M:Mm D H m mx c xs ws):m≠c:=az M.i M.l 1e0
theorem Mm.set(M:Mm D H m mx c xs ws){i:Nat}{v:V}{w:Mw}(hv:MV H v w):Mm D (upd H c (.lst (xs.set i v))) m mx c (xs.set i v) (ws.set i w) :=
 ⟨by rw[af M.mc];exact M.i,ag,(M.r.set hv).keep (b7.set M.l (by intro z y;cases y)),by rw[aoD];exact M.z⟩
end
theorem QH(n:Nat):(List.replicate n [V.non]).flatten=List.replicate n .non:=by
 induction n with
 | zero=>rfl
 | succ n ih=>rw[aoJ,apa,ih,aoJ];rfl
noncomputable def thg(ws:List Mw)(a:Int):Option (Int×Int):=if 0<=a then(match ws[a.toNat]? with|some (.hd t n)=>if a+n<ws.length then some (t,n) else none|_=>none) else none
theorem QI{ws:List Mw}{a t n:Int}(h:thg ws a=some (t,n)):0<=a/\ws[a.toNat]?=some (.hd t n)/\a+n<ws.length:=by
 unfold thg at h;split at h
 ·rename_i h0
  split at h
  ·rename_i t' n' e
   split at h
   ·rename_i hl
    cases h;exact⟨h0,e,hl⟩
   ·cases h
  ·cases h
 ·cases h
structure Gm(ws:List Mw):Prop where
 hd:∀ t n,Mw.hd t n∈ws->0<=n/\n<=1000
 mv:∀ a n,Mw.mv a n∈ws->Sm a
inductive Rv(ws:List Mw):Nat->Int->Option Int->Prop where
 | out {a:Int}:¬(0<=a/\a<ws.length)->Rv ws 0 a none
 | stop {a:Int} {w:Mw}:0<=a->ws[a.toNat]?=some w->(∀ b n,w≠.mv b n)->Rv ws 0 a (some a)
 | step {k:Nat} {a b n:Int} {r:Option Int}:0<=a->ws[a.toNat]?=some (.mv b n)->Rv ws k b r->Rv ws (k+1) a r
noncomputable def N3(ws:List Mw)(a n:Nat):List Mw:=(ws.drop (a+1)).take n
noncomputable def QJ(D:Ad):Sp:=λvs H Q _=>∃ m dx,∃ n:Int,vs=[.ref m,.int n]/\H m=some (.ins D.bK dx [])/\0<=n/\n<=10000/\∀ c H',But m H H'->H c=none->Mm D H' m dx c (List.replicate n.toNat .non) (List.replicate n.toNat .no)->Q .non H'
noncomputable abbrev BQ:List Str:=["self","size"]
theorem z0:av BQ ["self","size"] (ar lR):=fsc
theorem Aa(F:Fun K "__init__" "Memory.__init__" lR D.cW D.gQ)(T:Txt K mg D):9e7 1 D.cW D.gQ ["self","size"] (QJ D):=by
 refine F.oa z0 F.b2 λcdv A' outer s' H vs Q E hr h=>?_;obtain⟨m,dx,n,rfl,hm,n0,n1,k⟩:=h;refine⟨_,(ai (iM (pv 0) (aF JF (pQ (aa c8 aj)) (pv 1)) rfl)),?_⟩;refine⟨by show 1<=sizeLine;decide,λp hp=>⟨_,rfl,p,n,_,rfl,rfl,ag,by omega,by omega,by show 1*n.toNat<=sizeLine;exact aou (show 1*n.toNat<=10000 by omega) 2e1,λq hq=>?_⟩⟩;have np:m≠p:=aq hm hp;have hm1:upd H p (.lst [.non]) m=some (.ins D.bK dx []):=by rw[af np];exact hm
 have nq:m≠q:=aq hm1 hq;have qp:q≠p:=λe=>by rw[e,ag]at hq;cases hq
 have hq0:H q=none:=by rw[af qp]at hq;exact hq
 refine⟨_,rfl,m,D.bK,dx,[],rfl,(by rw[af nq];exact hm1),T.bZ,T.iO,by decide,?_⟩;refine k q _ (((But.upd hp).trans (But.upd hq)).trans But.self) hq0 ⟨ag,?_,MR.rep,by rw[aoR];omega⟩;rw[af (aol nq),ag,QH]
noncomputable def Js(D:Ad):Sp:=λvs H Q _=>∃ m mx c xs ws,vs=[.ref m]/\Mm D H m mx c xs ws/\Q (.int ws.length) H
noncomputable abbrev J9:List Str:=["self"]
theorem HG:av J9 ["self"] (ar sN):=fsc
theorem HH(F:Fun K "size" "Memory.size" sN D.eV D.jq)(T:Txt K mg D):9e7 1 D.eV D.jq ["self"] (Js D):=by
 refine F.oa HG F.b1 λcdv A' outer s' H vs Q E hr h=>?_;obtain⟨m,mx,c,xs,ws,rfl,M,k⟩:=h;refine⟨_,(PSs.nox (ai (aG (cz a9 rfl T.kU PyProof.Rows.Boot.«len» (aa 1e5 aj))))),?_⟩;refine⟨_,rfl,m,D.bK,mx,_,.ref c,rfl,M.i,T.bZ,T.iO,rfl,c,_,rfl,.inl (SqL.of M.l),?_⟩;rw[M.r.1];exact k
noncomputable def Jt(D:Ad):Sp:=λvs H Q E=>∃ m mx c xs ws,∃ a:Int,vs=[.ref m,.int a]/\Mm D H m mx c xs ws/\Sm a/\(if 0<=a/\a<ws.length then Q .non H else Bad D.aZ H E)
noncomputable abbrev rV:List Str:=["self","a"]
theorem rj:av rV ["self","a"] (ar gR):=fsc
theorem rk(F:Fun K "look_at_address" "Memory.look_at_address" gR D.aU D.bU)(T:Txt K mg D)
  (ah:9e7 1 D.ao D.aw ["self","text"] (yU K)):9e7 3 D.aU D.bU ["self","a"] (Jt D):=by
 refine F.oa rj F.b2 λcdv A' outer s' H vs Q E hr h=>?_;obtain⟨m,mx,c,xs,ws,a,rfl,M,ha,k⟩:=h;refine⟨_,(ai (bI (mR (mU yJ u7 au (pv 1) (cz a9 rfl T.kU PyProof.Rows.Boot.«len» (aa 1e5 aj))))
   (ai (eE rfl jA (ah.e hr T.oi T.jr px (aa (ir (aQ fq (aQ (jn (pv 1)) iq))) aj))))
   aO)),?_⟩
 have el:=M.r.1;by_cases g:0<=a/\a<(ws.length:Int)
 ·rw[if_pos g]at k
  refine⟨_,rfl,0,a,rfl,rfl,_,rfl,dH (λ_=>⟨_,rfl,m,D.bK,mx,_,.ref c,rfl,M.i,T.bZ,T.iO,rfl,c,_,rfl,.inl (SqL.of M.l),a,_,rfl,rfl,_,rfl,dH (λh2=>absurd h2 (by rw[el,decide_eq_true g.2];decide)) (λ_=>k)⟩) (λh1=>absurd (decide_eq_true g.1) h1)⟩
 ·rw[if_neg g]at k
  by_cases g0:0<=a
  ·have g1:¬a<(ws.length:Int):=λz=>g ⟨g0,z⟩
   refine⟨_,rfl,0,a,rfl,rfl,_,rfl,dH (λ_=>⟨_,rfl,m,D.bK,mx,_,.ref c,rfl,M.i,T.bZ,T.iO,rfl,c,_,rfl,.inl (SqL.of M.l),a,_,rfl,rfl,_,rfl,dH (λ_=>⟨_,rfl,a,rfl,ha,λy hy ea hea=>bE T.gj (λ_ q=>q) k ea hea⟩) (λh2=>absurd (by rw[el,decide_eq_false g1];rfl) h2)⟩) (λh1=>absurd (decide_eq_true g0) h1)⟩
  ·refine⟨_,rfl,0,a,rfl,rfl,_,rfl,dH (λh1=>absurd (of_decide_eq_true h1) g0) (λ_=>⟨_,rfl,u9 ⟨_,rfl,a,rfl,ha,λy hy ea hea=>bE T.gj (λ_ q=>q) k ea hea⟩⟩)⟩
noncomputable def zi(D:Ad):Sp:=λvs H Q E=>∃ m mx c xs ws,∃ a:Int,vs=[.ref m,.int a]/\Mm D H m mx c xs ws/\Sm a/\(if 0<=a/\a<ws.length then ∀ v w,xs[a.toNat]?=some v->ws[a.toNat]?=some w->MV H v w->Q v H else Bad D.aZ H E)
noncomputable abbrev OI:List Str:=["self","a"]
theorem Mj:av OI ["self","a"] (ar xk):=fsc
theorem Ml(F:Fun K "at" "Memory.at" xk D.dB D.gr)(T:Txt K mg D)
  (bW:9e7 3 D.aU D.bU ["self","a"] (Jt D)):9e7 4 D.dB D.gr ["self","a"] (zi D):=by
 refine F.oa Mj F.b2 λcdv A' outer s' H vs Q E hr h=>?_;obtain⟨m,mx,c,xs,ws,a,rfl,M,ha,k⟩:=h;refine⟨_,(ak (aI (bW.m hr (pv 0) T.bZ T.jW px 1e9))
  (ai (aG (bT dC 1e5 (pv 1) 1e7)))),?_⟩
 have el:=M.r.1;refine⟨_,rfl,m,_,_,rfl,M.i,1e3,_,rfl,m,mx,c,xs,ws,a,rfl,M,ha,?_⟩;by_cases g:0<=a/\a<(ws.length:Int)
 ·rw[if_pos g]at k ⊢
  have hw:ws[a.toNat]?=some (ws[a.toNat]' 1e1):=an4 _;obtain⟨v,hv,mv⟩:=M.r.get hw;exact⟨_,rfl,m,D.bK,mx,_,.ref c,rfl,M.i,T.bZ,T.iO,rfl,_,rfl,c,xs,a,v,rfl,rfl,SqL.of M.l,Dq g.1 hv,k v _ hv hw mv⟩
 ·rw[if_neg g]at k ⊢
  exact k
noncomputable def Tp(D:Ad):Sp:=λvs H Q E=>∃ m mx c xs ws,∃(a:Int) (v:V) (w:Mw),vs=[.ref m,.int a,v]/\Mm D H m mx c xs ws/\Sm a/\MV H v w/\(if 0<=a/\a<ws.length then(Mm D (upd H c (.lst (xs.set a.toNat v))) m mx c (xs.set a.toNat v) (ws.set a.toNat w)->Q .non (upd H c (.lst (xs.set a.toNat v)))) else Bad D.aZ H E)
noncomputable abbrev Mn:List Str:=["self","a","word"]
theorem Ka:av Mn ["self","a","word"] (ar uD):=fsc
theorem Kb(F:Fun K "put" "Memory.put" uD D.gX D.mI)(T:Txt K mg D)
  (bW:9e7 3 D.aU D.bU ["self","a"] (Jt D)):9e7 4 D.gX D.mI ["self","a","word"] (Tp D):=by
 refine F.oa Ka F.b3 λcdv A' outer s' H vs Q E hr h=>?_;obtain⟨m,mx,c,xs,ws,a,v,w,rfl,M,ha,hv,k⟩:=h;refine⟨_,(ak (aI (bW.m hr (pv 0) T.bZ T.jW px 1e9))
  (ai (mS (pv 2) (pO 1e5 (pv 1) set_list)))),?_⟩
 have el:=M.r.1;refine⟨_,rfl,m,_,_,rfl,M.i,1e3,_,rfl,m,mx,c,xs,ws,a,rfl,M,ha,?_⟩;by_cases g:0<=a/\a<(ws.length:Int)
 ·rw[if_pos g]at k ⊢
  exact⟨_,rfl,_,rfl,m,D.bK,mx,_,.ref c,rfl,M.i,T.bZ,T.iO,rfl,_,rfl,c,xs,a,a.toNat,rfl,rfl,M.l,A5 g.1 (by rw[el];exact g.2),k (M.set hv)⟩
 ·rw[if_neg g]at k ⊢
  exact k
noncomputable def IZ:Sp:=λvs H Q _=>∃ v w,vs=[v]/\MV H v w/\Q (.str w.kind) H
theorem OJ(F:Fun K "kind_of" "kind_of" yN D.eC D.hX)(T:Txt K mg D):9e7 1 D.eC D.hX ["value"] (IZ):=by
 refine F.oa IS F.b1 λcdv A' outer s' H vs Q E hr h=>?_;obtain⟨v,w,rfl,hv,k⟩:=h;refine⟨_,(PSs.nox (ai (aG (rC (aJ pP (pv 0) c8 (aS _)) cR (bT cY (pv 0) au 1e7))))),?_⟩;rcases hv with⟨rfl,rfl⟩|⟨n,t,rfl,ht⟩
 ·exact⟨_,rfl,rfl,_,rfl,dH (λ_=>k) (λh=>absurd (by simp) h)⟩
 ·refine⟨_,rfl,rfl,_,rfl,dH (λh=>by simp at h) (λ_=>⟨_,rfl,t,_,0,.str w.kind,rfl,rfl,SqT.of ht,?_,k⟩)⟩
  cases w with
  | no=>exact absurd rfl n
  | _=>rfl
noncomputable def Tq(D:Ad):Sp:=λvs H Q E=>∃ m mx c xs ws,∃ a n:Int,vs=[.ref m,.int a,.int n]/\Mm D H m mx c xs ws/\Sm a/\Sm n/\(if 0<=a/\a+n<ws.length then Q .non H else Bad D.aZ H E)
noncomputable abbrev HI:List Str:=["memory","a","fields"]
theorem Gq:av HI ["memory","a","fields"] (ar qA):=fsc
theorem Gr(F:Fun K "look_at_room" "look_at_room" qA D.dO D.jM)(T:Txt K mg D)
  (ju:9e7 1 D.eV D.jq ["self"] (Js D))
  (ah:9e7 1 D.ao D.aw ["self","text"] (yU K)):9e7 3 D.dO D.jM ["memory","a","fields"] (Tq D):=by
 refine F.oa Gq F.b3 λcdv A' outer s' H vs Q E hr h=>?_;obtain⟨m,mx,c,xs,ws,a,n,rfl,M,ha,hn,k⟩:=h;refine⟨_,(ai (bI (PW.pt (pw_or (aJ u7 (pv 1) au (aS _)) (pw_or1 (aJ YI (aF bO (pv 1) (pv 2)) (ju.m0 hr (pv 0) T.bZ T.wO px) (aS _)))))
   (ai (eE rfl jA (ah.e hr T.oi T.jr px (aa (ir (aQ fq (aQ (jn (pv 2)) (aQ fq (aQ (jn (pv 1)) iq))))) aj))))
   aO)),?_⟩
 by_cases g0:a<0
 ·rw[if_neg (λz=>by have:=z.1;omega)]at k
  exact⟨_,rfl,a,0,rfl,rfl,_,rfl,iY (decide_eq_true g0) (u9 ⟨_,rfl,n,rfl,hn,_,rfl,a,rfl,ha,λy hy ea hea=>bE T.gj (λ_ q=>q) k ea hea⟩)⟩
 ·refine⟨_,rfl,a,0,rfl,rfl,_,rfl,f9 (decide_eq_false g0) ⟨_,rfl,_,rfl,a,n,rfl,rfl,_,rfl,m,_,_,rfl,M.i,1e3,m,mx,c,xs,ws,rfl,M,_,_,rfl,rfl,_,rfl,?_⟩⟩
  by_cases g:0<=a/\a+n<(ws.length:Int)
  ·rw[if_pos g]at k
   exact f9 (decide_eq_false 1e1) k
  ·rw[if_neg g]at k
   exact iY (decide_eq_true 1e1) ⟨_,rfl,n,rfl,hn,_,rfl,a,rfl,ha,λy hy ea hea=>bE T.gj (λ_ q=>q) k ea hea⟩
noncomputable def QK(D:Ad):Sp:=λvs H Q E=>∃ m mx c xs ws,∃(a:Int) (kd:Addr),vs=[.ref m,.int a,.ref kd]/\Mm D H m mx c xs ws/\Gm ws/\Sm a/\H kd=some (.tup [.str "head"])/\(match thg ws a with|some (_,n)=>Q (.int n) H|none=>Bad D.aZ H E)
noncomputable abbrev Kc:List Str:=["memory","a","kinds","word"]
theorem wX:av Kc ["memory","a","kinds"] (ar sG):=fsc
theorem HJ(F:Fun K "fields_told" "fields_told" sG D.eN D.kq)(T:Txt K mg D)
  (bq:9e7 4 D.dB D.gr ["self","a"] (zi D))
  (fT:9e7 1 D.eC D.hX ["value"] (IZ))
  (qK:9e7 3 D.dO D.jM ["memory","a","fields"] (Tq D))
  (ah:9e7 1 D.ao D.aw ["self","text"] (yU K)):9e7 5 D.eN D.kq ["memory","a","kinds"] (QK D):=by
 refine F.oa wX F.b3 λcdv A' outer s' H vs Q E hr h=>?_;obtain⟨m,mx,c,xs,ws,a,kd,rfl,M,gm,ha,hkd,k⟩:=h;refine⟨_,(ak (aN (i:=3) wX.nd rfl 1e4 (bq.m hr (pv 0) T.bZ T.gZ px 1e9))
  (ak (bI (PW.pt (pw_or (aJ LR (vP fT.g (hr.mono 2e1) rfl T.qT T.lD fT.b .nil px (aa (pv 3) aj)) (pv 2) (by with_unfolding_all rfl)) (pw_or1 (aJ u7 (bT cY (pv 3) au 1e7) au (aS _)))))
   (ai (eE rfl jA (ah.e hr T.oi T.jr px (aa (ir (aQ fq (aQ (jn (pv 1)) iq))) aj))))
   aO)
  (ak (aI (qK.c hr T.Hk T.qE px (aa (pv 0) (aa (pv 1) (aa (bT cY (pv 3) au 1e7) aj)))))
  (ai (aG (bT cY (pv 3) au 1e7)))))),?_⟩
 refine⟨_,rfl,m,_,_,rfl,M.i,1e3,_,rfl,m,mx,c,xs,ws,a,rfl,M,ha,?_⟩;by_cases g:0<=a/\a<(ws.length:Int)
 ·rw[if_pos g]
  intro v wd hv hw mv;refine⟨_,rfl,v,wd,rfl,mv,_,rfl,kd,_,rfl,.inr (SqT.of hkd),rfl,rfl,_,rfl,?_⟩;have nh:(∀ t n,wd≠.hd t n)->thg ws a=none:=λh=>by
   unfold thg;rw[if_pos g.1,hw];cases wd with
   | hd t n=>exact absurd rfl (h t n)
   | _=>rfl
  have bad:(∀ t n,wd≠.hd t n)->(!inV (V.str wd.kind) [V.str "head"])=true:=λh=>by
   cases wd with
   | hd t n=>exact absurd rfl (h t n)
   | _=>kernel_rfl
  by_cases hh:∃ t n,wd=.hd t n
  ·obtain⟨t,n,rfl⟩:=hh
   have hn:=gm.hd t n (an9 hw);obtain⟨_,p,rfl,hp⟩:=mv.resolve_left (λz=>by cases z.1);refine f9 1e3 ⟨_,rfl,p,_,2,.int n,rfl,rfl,SqT.of hp,rfl,n,0,rfl,rfl,_,rfl,f9 (decide_eq_false 1e1) ?_⟩;refine⟨_,rfl,_,rfl,_,rfl,p,_,2,.int n,rfl,rfl,SqT.of hp,rfl,m,mx,c,xs,ws,a,n,rfl,M,ha,Sm.of 1e1 1e1,?_⟩;by_cases l:a+n<(ws.length:Int)
   ·rw[if_pos ⟨g.1,l⟩]
    rw[show thg ws a=some (t,n) by unfold thg;rw[if_pos g.1,hw];exact if_pos l]at k;exact⟨_,rfl,p,_,2,.int n,rfl,rfl,SqT.of hp,rfl,k⟩
   ·rw[if_neg (λz=>l z.2)]
    rw[show thg ws a=none by unfold thg;rw[if_pos g.1,hw];exact if_neg l]at k;exact k
  ·have h:∀ t n,wd≠.hd t n:=λt n e=>hh ⟨t,n,e⟩
   rw[nh h]at k;exact iY (bad h) (u9 ⟨_,rfl,a,rfl,ha,λy hy ea hea=>bE T.gj (λ_ q=>q) k ea hea⟩)
 ·rw[if_neg g]
  have:thg ws a=none:=by
   unfold thg;by_cases h0:0<=a
   ·rw[if_pos h0,List.getElem?_eq_none_iff.mpr 1e1]
   ·rw[if_neg h0]
  rw[this]at k;exact k
noncomputable def SA(D:Ad):Sp:=λvs H Q E=>∃ m mx c xs ws,∃ a:Int,vs=[.ref m,.int a]/\Mm D H m mx c xs ws/\Gm ws/\Sm a/\(match thg ws a with|some (_,n)=>∀ H',aB H H'->Q (.int n) H'|none=>Bad D.aZ H E)
noncomputable abbrev OK:List Str:=["memory","a"]
theorem Mo:av OK ["memory","a"] (ar wZ):=fsc
theorem Mp(F:Fun K "fields_at" "fields_at" wZ D.gp D.kW)(T:Txt K mg D)
  (sY:9e7 5 D.eN D.kq ["memory","a","kinds"] (QK D)):9e7 6 D.gp D.kW ["memory","a"] (SA D):=by
 refine F.oa Mo F.b2 λcdv A' outer s' H vs Q E hr h=>?_;obtain⟨m,mx,c,xs,ws,a,rfl,M,gm,ha,k⟩:=h;refine⟨_,(ai (aG (sY.c hr T.JK T.sS px (aa (pv 0) (aa (pv 1) (aa (fE (aa cR aj)) aj)))))),?_⟩;refine⟨_,rfl,_,rfl,by show 1<=sizeLine;decide,λkd hkd=>?_⟩;have s1:=aB.upd (o:=.tup [V.str "head"]) hkd;refine⟨m,mx,c,xs,ws,a,kd,rfl,M.same s1,gm,ha,ag,?_⟩;cases e:thg ws a with
 | none=>rw[e]at k;exact k.same s1
 | some z=>rw[e]at k;exact k _ s1
noncomputable def Wg(D:Ad):Sp:=λvs H Q E=>∃ m mx c xs ws,∃ a:Int,vs=[.ref m,.int a]/\Mm D H m mx c xs ws/\Gm ws/\Sm a/\(match thg ws a with|some (t,n)=>∀ p l ys H',aB H H'->H l=none->H' p=some (.tup [.int t,.ref l])->H' l=some (.lst ys)->MR H' ys (N3 ws a.toNat n.toNat)->Q (.ref p) H'|none=>Bad D.aZ H E)
noncomputable abbrev I0:List Str:=["memory","a","fields"]
theorem FD:av I0 ["memory","a"] (ar va):=fsc
theorem OL(F:Fun K "thing_at" "thing_at" va D.jb D.ra)(T:Txt K mg D)
  (k7:9e7 6 D.gp D.kW ["memory","a"] (SA D))
  (bq:9e7 4 D.dB D.gr ["self","a"] (zi D)):9e7 7 D.jb D.ra ["memory","a"] (Wg D):=by
 refine F.oa FD F.b2 λcdv A' outer s' H vs Q E hr h=>?_;obtain⟨m,mx,c,xs,ws,a,rfl,M,gm,ha,k⟩:=h;refine⟨_,(ak (aN (i:=2) FD.nd rfl 1e4 (k7.c hr T.FC T.so px (aa (pv 0) 1e9)))
  (ai (aG (fE (aa (bT cY (bq.m hr (pv 0) T.bZ T.gZ px 1e9) au 1e7) (aa (tK (cl:=[("memory",s'.heap.objs.size+1),("a",s'.heap.objs.size+2)]) (x := "k") (idx:=[1,0]) (NC:=["k","a","memory"]) ?co1 rfl (lj rfl T.pK (aa (pv 2) aj)) (λC fp s₀ H₀=>(bq.m hr (pv 2) T.bZ T.gZ II (aa (aF bO (aF bO (pv 1) au) (pv 0)) aj)))) aj)))))),?_⟩
 case co1 =>
  exact lA (sc:=ar va) (N:=I0) (ns:=["memory","a"]) rfl rfl rfl (by decide +kernel) rfl rfl (by
   intro q hq;rcases aop.mp hq with rfl|hq
   ·rfl
   rw[an7.mp hq];rfl)
 have el:=M.r.1;refine⟨_,rfl,_,rfl,m,mx,c,xs,ws,a,rfl,M,gm,ha,?_⟩;cases e:thg ws a with
 | none=>rw[e]at k;exact k
 | some z =>
  obtain⟨t,n⟩:=z;rw[e]at k;obtain⟨a0,hw,al⟩:=QI e;have hn:=gm.hd t n (an9 hw);intro H1 s1;have M1:=M.same s1;refine⟨_,rfl,m,_,_,rfl,M1.i,1e3,_,rfl,m,mx,c,xs,ws,a,rfl,M1,ha,?_⟩;rw[if_pos ⟨a0,by omega⟩];intro v w2 hv hw2 mv;rw[hw]at hw2;cases hw2;obtain⟨_,p,rfl,hp⟩:=mv.resolve_left (λz=>by cases z.1);have z:=M.z;obtain⟨n,rfl⟩:∃ j:Nat,n=(j:Int):=⟨n.toNat,by omega⟩;simp only[Int.toNat_natCast]at k;refine⟨p,_,1,.int t,rfl,rfl,SqT.of hp,rfl,_,rfl,n,rfl,by omega,by omega,λL hL=>?_⟩;refine IG (lo:=0) (n:=n) (λi ys Hc=>ys=(xs.drop (a.toNat+1)).take i/\aB H1 Hc/\Hc L=some (.lst ys)) ⟨rfl,aB.upd hL,ag⟩ (λi ys Hc hi ⟨e,_,z⟩=>⟨z,by rw[e,aoj,aph];omega⟩) (by exact aou (show n<=10000 by omega) 2e1) (λi ys Hc hi ⟨e,sc,z⟩=>?_) (λys Hc ⟨e,sc,z⟩=>?_)
  ·have M2:=M1.same sc
   have hx:ws[(a+1+(0+(i:Int))).toNat]?=some (ws[(a+1+(0+(i:Int))).toNat]' 1e1):=an4 _;refine⟨_,rfl,m,_,_,rfl,M2.i,1e3,_,rfl,a,1,rfl,rfl,_,rfl,_,_,rfl,rfl,m,mx,c,xs,ws,_,rfl,M2,Sm.of 1e1 1e1,?_⟩;rw[if_pos ⟨by omega,by omega⟩];intro v w2 hv2 _ _;refine⟨z,?_,λb u q=>by rw[af (aq q hL)];exact sc b u q,ag⟩;have hd:(xs.drop (a.toNat+1))[i]?=some v:=by
    rw[apQ,<-hv2];congr 1
    omega
   rw[e,List.take_succ,hd];rfl
  ·refine⟨by show 2<=sizeLine;decide,λq hq=>?_⟩
   have s3:=aB.upd (o:=.tup [V.int t,V.ref L]) hq;refine k q L _ _ ((s1.trans sc).trans s3) (aB.none s1 hL) ag (by rw[s3 _ _ z,e]) ⟨by unfold N3;rw[aoj,aoj,aph,aph,el],λi v w2 g1 g2=>?_⟩;unfold N3 at g2;rw[List.getElem?_take]at g1 g2;split at g1
   ·rename_i ci
    rw[if_pos ci,apQ]at g2;rw[apQ]at g1;exact(M.r.2 _ _ _ g1 g2).keep ((b7.of s1).trans ((b7.of sc).trans (b7.of s3)))
   ·cases g1
noncomputable def Kd(D:Ad):Sp:=λvs H Q E=>∃ m mx c xs ws,∃(a:Int) (j:Nat) (r:Option Int),vs=[.ref m,.int a]/\Mm D H m mx c xs ws/\Gm ws/\Sm a/\Rv ws j a r/\(match r with|some z=>Q (.int z) H|none=>Bad D.aZ H E)
noncomputable abbrev RN:List Str:=["memory","a","word"]
theorem sA:av RN ["memory","a"] (ar AU):=fsc
theorem OM(F:Fun K "resolved" "resolved" AU D.fS D.jV)(T:Txt K mg D)
  (bq:9e7 4 D.dB D.gr ["self","a"] (zi D))
  (fT:9e7 1 D.eC D.hX ["value"] (IZ)):9e7 5 D.fS D.jV ["memory","a"] (Kd D):=by
 refine F.oa sA F.b2 λcdv A' outer s' H vs Q E hr h=>?_;obtain⟨m,mx,c,xs,ws,a,j,r,rfl,M,gm,ha,hr',k⟩:=h;refine⟨_,(PSs.xr (ak (aN (i:=2) sA.nd rfl 1e4 (bq.m hr (pv 0) T.bZ T.gZ (Xf λ_ _ _ q=>q) 1e9))
  (ak (Jj anM (aJ nY (vP fT.g (hr.mono 2e1) rfl T.qT T.lD fT.b .nil (Xf λ_ _ _ q=>q) (aa (pv 2) aj)) cR (aS _))
   (ak (aN (i:=1) sA.nd rfl 1e4 (bT cY (pv 2) au 1e7))
   (ai (aN (i:=2) sA.nd rfl 1e4 (bq.m hr (pv 0) T.bZ T.gZ (Xf λ_ _ _ q=>q) 1e9)))))
  (ai (aG (pv 1)))))),?_⟩
 have at_:∀(Q':VK) (a:Int) (j:Nat),Sm a->Rv ws j a r->(∀ v w,xs[a.toNat]?=some v->ws[a.toNat]?=some w->MV H v w->0<=a->a<ws.length->Q' v H)->zi D [.ref m,.int a] H Q' E:=λQ' a j ha hr' q=>by
  refine⟨m,mx,c,xs,ws,a,rfl,M,ha,?_⟩;by_cases g:0<=a/\a<(ws.length:Int)
  ·rw[if_pos g]
   exact λv w h1 h2 h3=>q v w h1 h2 h3 g.1 g.2
  ·rw[if_neg g]
   cases hr' with
   | out _=>exact k
   | stop h0 hw _=>exact absurd ⟨h0,by have:=(an5.mp hw).1;omega⟩ g
   | step h0 hw _=>exact absurd ⟨h0,by have:=(an5.mp hw).1;omega⟩ g
 refine⟨_,rfl,m,_,_,rfl,M.i,1e3,_,rfl,at_ _ a j ha hr' λv w hv hw mv a0 al=>?_⟩;refine⟨λn σ Hx=>∃(a:Int) (v:V) (w:Mw),σ=[some (.ref m),some (.int a),some v]/\Hx=H/\Rv ws n a r/\MV H v w/\ws[a.toNat]?=some w/\0<=a/\a<ws.length,⟨j,a,v,w,rfl,rfl,hr',mv,hw,a0,al⟩,?_⟩;rintro n σ Hx ⟨a,v,w,rfl,rfl,hr2,mv,hw,a0,al⟩;refine⟨_,rfl,v,w,rfl,mv,rfl,_,rfl,?_⟩;by_cases hm:∃ b z,w=.mv b z
 ·obtain⟨b,z,rfl⟩:=hm
  obtain⟨_,p,rfl,hp⟩:=mv.resolve_left (λz=>by cases z.1);refine iY 1e3 ?_;cases hr2 with
  | out h=>exact absurd ⟨a0,al⟩ h
  | stop _ h2 h3=>rw[hw]at h2;cases h2;exact absurd rfl (h3 b z)
  | @step n' _ b' _ _ _ h2 h3 =>
   rw[hw]at h2;cases h2;have sb:=gm.mv b z (an9 hw);refine⟨λσ' H'=>∃ m',m'<n'+1/\∃(a:Int) (v:V) (w:Mw),σ'=[some (.ref m),some (.int a),some v]/\H'=Hx/\Rv ws m' a r/\MV Hx v w/\ws[a.toNat]?=some w/\0<=a/\a<ws.length,λ_ _ h=>h,?_⟩;refine⟨_,rfl,p,_,1,.int b,rfl,rfl,SqT.of hp,rfl,?_⟩;exact⟨_,rfl,m,_,_,rfl,M.i,1e3,_,rfl,at_ _ b n' sb h3 λv w hv hw mv a0 al=>⟨n',apI _,b,v,w,rfl,rfl,h3,mv,hw,a0,al⟩⟩
 ·have nm:∀ b z,w≠.mv b z:=λb z e=>hm ⟨b,z,e⟩
  refine f9 ?_ ?_
  ·cases w with
   | mv b z=>exact absurd rfl (nm b z)
   | _=>kernel_rfl
  ·cases hr2 with
   | out h=>exact absurd ⟨a0,al⟩ h
   | stop _ _ _=>exact⟨_,rfl,k⟩
   | step _ h2 _=>rw[hw]at h2;cases h2;exact absurd rfl (nm _ _)
noncomputable def Lk(ws:List Mw)(kv:List (Key×V)):Wd->Mw->Prop
 | .no,w=>w=.no
 | .num n,w=>w=.num n
 | .th t,w=>∃(a:Int) (j:Nat) (z:Int),w=.ad a/\Sm a/\Rv ws j a (some z)/\ie kv (Sum.inl t)=some (.int z)
noncomputable def QL(D:Ad):Sp:=λvs H Q _=>∃ m mx c xs ws,∃(a:Int) (j:Nat) (z:Int),vs=[.ref m,.int a]/\Mm D H m mx c xs ws/\Gm ws/\Sm a/\Rv ws j a (some z)/\Q (.int z) H
noncomputable abbrev ON:List Str:=["memory","a"]
theorem Mq:av ON ["memory","a"] (ar w8):=fsc
theorem Mr(F:Fun K "place_met" "place_met" w8 D.g4 D.oz)(T:Txt K mg D)
  (e7:9e7 5 D.fS D.jV ["memory","a"] (Kd D)):9e7 6 D.g4 D.oz ["memory","a"] (QL D):=by
 refine F.oa Mq F.b2 λcdv A' outer s' H vs Q E hr h=>?_;obtain⟨m,mx,c,xs,ws,a,j,z,rfl,M,gm,ha,hr',k⟩:=h;obtain⟨cdT,xT⟩:=T.gj.cls;refine⟨_,(ai (NN rfl rfl rfl T.jr xT (λpins E' EK hp=>ai (aG (vP e7.g (hr.mono 2e1) rfl T.vg T.oo e7.b .nil hp (aa (pv 0) 1e9)))) (λea=>ai (aG c8)))),?_⟩;exact⟨_,rfl,_,rfl,m,mx,c,xs,ws,a,j,some z,rfl,M,gm,ha,hr',k⟩
noncomputable def NR(D:Ad):Sp:=λvs H Q _=>∃ m mx c xs ws,∃(v y:V) (wd:Wd) (mw:Mw) (dd:Addr) (kv:List (Key×V)),vs=[v,.ref m,y,.ref dd]/\Mm D H m mx c xs ws/\Gm ws/\WV H v wd/\MV H y mw/\H dd=some (.dK kv)/\Lk ws kv wd mw/\Q (.bl true) H
noncomputable abbrev Ur:List Str:=["value","memory","word","stands"]
theorem RO:av Ur ["value","memory","word","stands"] (ar Ff):=fsc
theorem RP(F:Fun K "is_like" "is_like" Ff D.jz D.qS)(T:Txt K mg D)
  (kn:9e7 1 D.eC D.hX ["value"] (N0))
  (fT:9e7 1 D.eC D.hX ["value"] (IZ))
  (xK:9e7 6 D.g4 D.oz ["memory","a"] (QL D)):9e7 7 D.jz D.qS ["value","memory","word","stands"] (NR D):=by
 refine F.oa RO F.b4 λcdv A' outer s' H vs Q E hr h=>?_;obtain⟨m,mx,c,xs,ws,v,y,wd,mw,dd,kv,rfl,M,gm,hv,hy,hd,lk,k⟩:=h;have hu:=i9 hr;refine⟨_,(PSs.nox (ak (bI (aJ K9 (kn.c hr T.qT T.lD aY (aa (pv 0) aj)) cR (aS _))
   (ai (aG (tI (Sv (n:=1) hu) (pv 2) (pv 0) (aS _))))
   aO)
  (ai (aG (Zo (tI nY (vP fT.g (hr.mono 2e1) rfl T.qT T.lD fT.b .nil aY (aa (pv 2) aj)) cR (aS _)) (Zn (tI nY (xK.c hr T.Ot T.xx aY (aa (pv 1) (aa (bT cY (pv 2) au 1e7) aj))) (ip hu (pv 3) (bT cY (pv 0) au 1e7) 1e7) (aS _)))))))),?_⟩
 cases wd with
 | no =>
  have hv:v=.non:=hv;subst hv;have lk:mw=.no:=lk;subst lk;obtain⟨_,rfl⟩:=hy.resolve_right (λz=>z.1 rfl);have r1:Rp H 1 V.non (.a .non):=⟨rfl,rfl⟩;refine⟨_,rfl,_,.no,rfl,rfl,rfl,_,rfl,iY 1e3 ⟨_,rfl,_,rfl,_,_,r1,r1,?_⟩⟩;rw[uo r1 r1];exact k
 | num n =>
  obtain⟨t,rfl,ht⟩:=hv;have lk:mw=.num n:=lk;subst lk;obtain⟨_,p,rfl,hp⟩:=hy.resolve_left (λz=>by cases z.1);have r1:Rp H 1 (V.ref t) (.t [.a (.str "number"),.a (.int n)]):=⟨t,_,rfl,ht,rfl,(λj u x h1 h2=>by match j,h1,h2 with|0,h1,h2=>cases h1;cases h2;exact⟨rfl,rfl⟩|1,h1,h2=>cases h1;cases h2;exact⟨rfl,rfl⟩|j+2,h1,_=>cases h1)⟩
  have r2:Rp H 1 (V.ref p) (.t [.a (.str "number"),.a (.int n)]):=⟨p,_,rfl,hp,rfl,(λj u x h1 h2=>by match j,h1,h2 with|0,h1,h2=>cases h1;cases h2;exact⟨rfl,rfl⟩|1,h1,h2=>cases h1;cases h2;exact⟨rfl,rfl⟩|j+2,h1,_=>cases h1)⟩
  refine⟨_,rfl,_,.num n,rfl,⟨t,rfl,ht⟩,rfl,_,rfl,iY 1e3 ⟨_,rfl,_,rfl,_,_,r2,r1,?_⟩⟩;rw[uo r1 r1];exact k
 | th t =>
  obtain⟨q,rfl,hq⟩:=hv;obtain⟨a,j,z,rfl,sa,rv,hk⟩:=lk;obtain⟨nn,p,rfl,hp⟩:=hy.resolve_left (λz=>by cases z.1);refine⟨_,rfl,_,.th t,rfl,⟨q,rfl,hq⟩,rfl,_,rfl,f9 1e3 ?_⟩;refine⟨_,rfl,_,.ad a,rfl,.inr ⟨nn,p,rfl,hp⟩,rfl,_,rfl,iY 1e3 ?_⟩;refine⟨_,rfl,_,rfl,p,_,1,.int a,rfl,rfl,SqT.of hp,rfl,m,mx,c,xs,ws,a,j,z,rfl,M,gm,sa,rv,?_⟩;refine⟨_,rfl,_,rfl,q,_,1,.int t,rfl,rfl,SqT.of hq,rfl,dd,.int z,rfl,.inl ⟨kv,Sum.inl t,.inl hd,rfl,hk.symm⟩,rfl,?_⟩;simpa using k
noncomputable def Pr(H:Hp)(ps:List V)(ks:List Int)(g:Int->Int):Prop:=ps.length=ks.length/\∀(i:Nat) (u:V) (t:Int),ps[i]?=some u->ks[i]?=some t->∃ q,u=.ref q/\H q=some (.tup [.int t,.int (g t)])
theorem Pr.keep{H H':Hp}{ps:List V}{ks:List Int}{g:Int->Int}(p:Pr H ps ks g)(s:b7 H H'):Pr H' ps ks g:=⟨p.1,λi u t a b=>by obtain⟨q,e,h⟩:=p.2 i u t a b;exact⟨q,e,s _ _ h⟩⟩
noncomputable def kvG(ks:List Int)(g:Int->Int):List (Key×V):=ks.map λt=>(Sum.inl t,V.int (g t))
theorem NS{g:Int->Int}{t:Int}:∀ {ks:List Int},t∈ks->ie (kvG ks g) (Sum.inl t)=some (.int (g t))
 | [],m=>nomatch m
 | a::ks,m=>by
  by_cases e:a=t
  ·subst e;exact fK rfl
  ·show ie ((Sum.inl a,V.int (g a))::kvG ks g) _=_
   rw[fe (λz=>e (Sum.inl.inj z))];exact NS ((aop.mp m).resolve_left (aol e))
theorem Pr.dict{H:Hp}{g:Int->Int}:∀ {ps:List V} {ks:List Int},Pr H ps ks g->∃ xs:List Addr,ps=xs.map V.ref/\Paired (λx (p:Key×V)=>H x=some (.tup [kV p.1,p.2])) xs (kvG ks g)
 | [],[],_=>⟨[],rfl,.nil⟩
 | [],_::_,h=>by cases h.1
 | _::_,[],h=>by cases h.1
 | u::ps,t::ks,h=>by
  obtain⟨xs,e,p⟩:=Pr.dict (ps:=ps) (ks:=ks) ⟨Nat.succ.inj h.1,λi v y a b=>h.2 (i+1) v y a b⟩;obtain⟨q,rfl,hq⟩:=h.2 0 u t rfl rfl;exact⟨q::xs,by rw[e];rfl,.cons hq p⟩
theorem LI{ks:List Int}{g:Int->Int}(h:ks.Nodup):((kvG ks g).map (·.1)).Nodup:=by
 unfold kvG;rw[aoM];exact List.pairwise_map.mpr (h.imp λn e=>n (Sum.inl.inj e))
structure Pic(ws:List Mw)(s:HS)(g:Int->Int):Prop where
 hd:∀ t wd,(t,wd)∈s.aT->0<=g t/\g t+(wd.length:Int)<ws.length/\ws[(g t).toNat]?=some (.hd t wd.length)/\∀(i:Nat) (w:Wd),wd[i]?=some w->∃ mw,ws[(g t).toNat+1+i]?=some mw/\Lk ws (kvG (keys s) g) w mw
 dj:∀ t wd t' wd',(t,wd)∈s.aT->(t',wd')∈s.aT->t≠t'->g t+(wd.length:Int)<g t'\/g t'+(wd'.length:Int)<g t
theorem keys_nodup{s:HS}(G:Good s):(keys s).Nodup:=G.asc.imp λh=>Int.ne_of_lt h
structure RQ(D:Ad)(H:Hp)(x:Addr)(A:HA)(s:HS)(m mx c:Addr)(xs:List V)(ws:List Mw)(b:Addr)(ps:List V)(g:Int->Int):Prop where
 J:IH D H x A s
 G:Good s
 M:Mm D H m mx c xs ws
 gm:Gm ws
 P:Pic ws s g
 hb:H b=some (.lst ps)
 pr:Pr H ps (keys s) g
 nx:s.nxt<10000
theorem RQ.same{D:Ad}{H H':Hp}{x:Addr}{A:HA}{s:HS}{m mx c:Addr}{xs:List V}{ws:List Mw}{b:Addr}{ps:List V}{g:Int->Int}(S:RQ D H x A s m mx c xs ws b ps g)(e:aB H H'):RQ D H' x A s m mx c xs ws b ps g:=⟨S.J.same e,S.G,S.M.same e,S.gm,S.P,e _ _ S.hb,S.pr.keep (b7.of e),S.nx⟩
theorem RQ.at{D:Ad}{H:Hp}{x:Addr}{A:HA}{s:HS}{m mx c:Addr}{xs:List V}{ws:List Mw}{b:Addr}{ps:List V}{g:Int->Int}(S:RQ D H x A s m mx c xs ws b ps g){i:Nat}{v:V}(hi:ps[i]?=some v):∃ t q wd,v=.ref q/\H q=some (.tup [.int t,.int (g t)])/\t∈keys s/\(keys s)[i]?=some t/\(t,wd)∈s.aT:=by
 have hl:i<(keys s).length:=by rw[<-S.pr.1];exact(an5.mp hi).1
 have hk:(keys s)[i]?=some (keys s)[i]:=an4 hl;obtain⟨q,e,h⟩:=S.pr.2 i v _ hi hk;obtain⟨wd,mw⟩:=mem_keys.mp (an9 hk);exact⟨_,q,wd,e,h,an9 hk,hk,mw⟩
noncomputable def QM(D:Ad):Sp:=λvs H Q _=>∃ m mx c xs ws,∃(kd:Str) (tl wl b:Addr) (us ys ps:List V) (ks:List Int) (g:Int->Int),vs=[.str kd,.ref tl,.ref m,.ref wl,.ref b]/\Mm D H m mx c xs ws/\Gm ws/\H tl=some (.lst us)/\H wl=some (.lst ys)/\us.length=ys.length/\(∀(i:Nat) (v y:V),us[i]?=some v->ys[i]?=some y->∃ wd mw,WV H v wd/\MV H y mw/\Lk ws (kvG ks g) wd mw)/\H b=some (.lst ps)/\Pr H ps ks g/\ks.Nodup/\∀ H',aB H H'->Q .non H'
noncomputable abbrev ym:List Str:=["kind","told","memory","words","book","stands","i","value"]
theorem gI:av ym ["kind","told","memory","words","book"] (ar kh):=fsc
theorem wc(F:Fun K "first_unlike_word" "first_unlike_word" kh D.bG D.fL)(T:Txt K mg D)
  (qX:9e7 7 D.jz D.qS ["value","memory","word","stands"] (NR D)):9e7 8 D.bG D.fL ["kind","told","memory","words","book"] (QM D):=by
 refine F.oa gI F.b5 λcdv A' outer s' H vs Q E hr h=>?_;obtain⟨m,mx,c,xs,ws,kd,tl,wl,b,us,ys,ps,ks,g,rfl,M,gm,ht,hw,lu,hl,hb,pr,nd,k⟩:=h;refine⟨_,(PSs.nox (ak (aN (i:=5) gI.nd rfl 1e4 (ll (IK rfl) rfl T.NZ PyProof.Rows.Boot.«dict» (aa (pv 4) aj)))
  (ak (fP aom rfl (vQ rfl T.hV 1e9) (vR rfl (dG (aX (i:=6) gI.nd rfl 1e4) (dG (aX (i:=7) gI.nd rfl 1e4) qZ)))
   (ai (bI (mR (uj (qX.c hr T.Lz T.yO aY (aa (pv 7) (aa (pv 2) (aa (bT dC (pv 3) (pv 6) 1e7) (aa (pv 5) aj)))))))
    (ai (aG (fE (aa (pv 0) (aa (pv 6) aj)))))
    aO)))
  (ai (aG c8))))),?_⟩
 obtain⟨bs,rfl,pd⟩:=pr.dict;refine⟨_,rfl,b,bs,kvG ks g,rfl,hb,pd,LI nd,λdd hdd=>?_⟩;have s1:=aB.upd (o:=.dK (kvG ks g)) hdd;refine⟨_,rfl,tl,rfl,⟨_,SqL.of (s1 _ _ ht)⟩,rD (K:=K) (a:=tl) (xs:=us) (λi σ Hx=>∃ v6 v7,σ=[some (.str kd),some (.ref tl),some (.ref m),some (.ref wl),some (.ref b),some (.ref dd),v6,v7]/\aB (upd H dd (.dK (kvG ks g))) Hx) ⟨none,none,rfl,aB.refl _⟩ (λi σ Hx _ ⟨_,_,_,sx⟩=>SqL.of (sx _ _ (s1 _ _ ht))) ?_ ?_⟩
 ·rintro i v σ Hx tp hi ⟨v6,v7,rfl,sx⟩ htp
  have t1:=aB.upd (o:=.tup [.int (i:Int),v]) htp;have S:=(s1.trans sx).trans t1;obtain⟨y,hy⟩:∃ y,ys[i]?=some y:=⟨ys[i]'(by rw[<-lu];exact(an5.mp hi).1),an4 _⟩;obtain⟨wd,mw,h1,h2,h3⟩:=hl i v y hi hy;refine⟨tp,_,rfl,SqT.of ag,rfl,_,_,rfl,_,_,rfl,rfl,?_⟩;exact⟨_,rfl,_,rfl,_,rfl,_,rfl,wl,ys,_,y,rfl,rfl,SqL.of (S _ _ hw),yR hy,_,rfl,m,mx,c,xs,ws,v,y,wd,mw,dd,_,rfl,M.same S,gm,h1.keep (b7.of S),h2.keep (b7.of S),t1 _ _ (sx _ _ ag),h3,true,rfl,f9 rfl ⟨_,_,rfl,sx.trans t1⟩⟩
 ·rintro σ Hx ⟨v6,v7,rfl,sx⟩
  exact k _ (s1.trans sx)
noncomputable def LJ(D:Ad):Sp:=λvs H Q _=>∃ x A s m mx c xs ws b ps g,vs=[.ref x,.ref m,.ref b]/\RQ D H x A s m mx c xs ws b ps g/\∀ H',aB H H'->Q .non H'
noncomputable abbrev we:List Str:=["ideal","memory","book","stands","pair","k","value"]
theorem eB:av we ["ideal","memory","book"] (ar jC):=fsc
theorem vD(F:Fun K "first_unlike_field" "first_unlike_field" jC D.bw D.eO)(T:Txt K mg D)
  (qX:9e7 7 D.jz D.qS ["value","memory","word","stands"] (NR D))
  (aE:9e7 4 D.aP D.bh ["self","t"] (zg D))
  (bq:9e7 4 D.dB D.gr ["self","a"] (zi D)):9e7 8 D.bw D.eO ["ideal","memory","book"] (LJ D):=by
 refine F.oa eB F.b3 λcdv A' outer s' H vs Q E hr h=>?_;obtain⟨x,A,s,m,mx,c,xs,ws,b,ps,g,rfl,S,k⟩:=h;refine⟨_,(PSs.nox (ak (aN (i:=3) eB.nd rfl 1e4 (ll (IK rfl) rfl T.NZ PyProof.Rows.Boot.«dict» (aa (pv 2) aj)))
  (ak (fP aom rfl (gS (pv 2)) (aX (i:=4) eB.nd rfl 1e4)
   (ai (fP aom rfl (vQ rfl T.hV (aa (aE.m hr (pv 0) T.ae T.cK aY (aa (bT cY (pv 4) au 1e7) aj)) aj)) (vR rfl (dG (aX (i:=5) eB.nd rfl 1e4) (dG (aX (i:=6) eB.nd rfl 1e4) qZ)))
    (ai (bI (mR (uj (qX.c hr T.Lz T.yO aY (aa (pv 6) (aa (pv 1) (aa (bq.m hr (pv 1) T.bZ T.gZ aY (aa (aF bO (aF bO (bT cY (pv 4) au 1e7) au) (pv 5)) aj)) (aa (pv 3) aj)))))))
     (ai (aG (fE (aa cR (aa (bT cY (pv 4) au 1e7) (aa (pv 5) aj))))))
     aO)))))
  (ai (aG c8))))),?_⟩
 have z:=S.M.z;obtain⟨bs,eb,pd⟩:=S.pr.dict;refine⟨_,rfl,b,bs,kvG (keys s) g,rfl,by rw[<-eb];exact S.hb,pd,LI (keys_nodup S.G),λdd hdd=>?_⟩;have s1:=aB.upd (o:=.dK (kvG (keys s) g)) hdd;refine⟨_,rfl,b,rfl,⟨_,SqL.of (s1 _ _ S.hb)⟩,kR (K:=K) (a:=b) (xs:=ps) (λi σ Hx=>∃ v4 v5 v6,σ=[some (.ref x),some (.ref m),some (.ref b),some (.ref dd),v4,v5,v6]/\aB (upd H dd (.dK (kvG (keys s) g))) Hx) ⟨none,none,none,rfl,aB.refl _⟩ (λi σ Hx _ ⟨_,_,_,_,sx⟩=>SqL.of (sx _ _ (s1 _ _ S.hb))) ?_ ?_⟩
 ·rintro i v σ Hx hi ⟨v4,v5,v6,rfl,sx⟩
  have S1:=S.same (s1.trans sx);obtain⟨t,q,wd,rfl,hq,mk,_,mw⟩:=S1.at hi;obtain⟨t0,t1⟩:=S.G.lt t wd mw;obtain⟨g0,g1,_,gw⟩:=S.P.hd t wd mw;have nx:=S.nx;refine⟨_,rfl,x,_,_,rfl,S1.J.ax,1e3,_,rfl,q,_,0,.int t,rfl,rfl,SqT.of hq,rfl,x,A,s,t,rfl,S1.J,S.G,Sm.of 1e1 1e1,(λ_ p H1 sp hp zp=>?_),(λn=>absurd mk n)⟩;refine⟨p,rfl,⟨_,SqL.of zp⟩,rD (K:=K) (a:=p) (xs:=A.fx t) (λj σ Hy=>∃ v5 v6,σ=[some (.ref x),some (.ref m),some (.ref b),some (.ref dd),some (.ref q),v5,v6]/\aB H1 Hy) ⟨_,_,rfl,aB.refl _⟩ (λi σ Hy _ ⟨_,_,_,sy⟩=>SqL.of (sy _ _ zp)) ?_ ?_⟩
  ·rintro j v σ Hy tp hj ⟨v5,v6,rfl,sy⟩ htp
   have t2:=aB.upd (o:=.tup [.int (j:Int),v]) htp;have e2:=(sp.trans sy).trans t2;have S2:=S1.same e2;have R:=(S1.J.afl t wd mw).2;have jl:j<wd.length:=(by rw[<-R.1];exact(an5.mp hj).1);obtain⟨w',hw'⟩:∃ w',wd[j]?=some w':=⟨_,an4 jl⟩;obtain⟨mw',hmw,lk⟩:=gw j w' hw';refine⟨tp,_,rfl,SqT.of ag,rfl,_,_,rfl,_,_,rfl,rfl,?_⟩;refine⟨_,rfl,_,rfl,_,rfl,m,_,_,rfl,S2.M.i,1e3,_,rfl,q,_,1,.int (g t),rfl,rfl,SqT.of (e2 _ _ hq),rfl,_,1,rfl,rfl,_,rfl,_,_,rfl,rfl,m,mx,c,xs,ws,_,rfl,S2.M,Sm.of 1e1 1e1,?_⟩;rw[if_pos ⟨by omega,by omega⟩];intro y w2 hy hw2 mv;rw[show(g t+1+(j:Int)).toNat=(g t).toNat+1+j by omega,hmw]at hw2;cases hw2;exact⟨_,rfl,m,mx,c,xs,ws,v,y,w',mw',dd,_,rfl,S2.M,S.gm,(R.2 j v w' hj hw').keep (b7.of e2),mv,e2 _ _ (sx _ _ ag),lk,true,rfl,f9 rfl ⟨_,_,rfl,sy.trans t2⟩⟩
  ·rintro σ Hy ⟨v5,v6,rfl,sy⟩
   exact⟨_,_,_,rfl,sx.trans (sp.trans sy)⟩
 ·rintro σ Hx ⟨v4,v5,v6,rfl,sx⟩
  exact k _ (s1.trans sx)
noncomputable def QN(D:Ad):Sp:=λvs H Q _=>∃ x A s m mx c xs ws b ps g,vs=[.ref x,.ref m,.ref b]/\RQ D H x A s m mx c xs ws b ps g/\∀ H',aB H H'->Q .non H'
noncomputable abbrev D5:List Str:=["ideal","memory","book","pair"]
theorem rR:av D5 ["ideal","memory","book"] (ar ng):=fsc
theorem BR(F:Fun K "first_headless" "first_headless" ng D.cN D.iy)(T:Txt K mg D)
  (aE:9e7 4 D.aP D.bh ["self","t"] (zg D))
  (bq:9e7 4 D.dB D.gr ["self","a"] (zi D)):9e7 5 D.cN D.iy ["ideal","memory","book"] (QN D):=by
 refine F.oa rR F.b3 λcdv A' outer s' H vs Q E hr h=>?_;obtain⟨x,A,s,m,mx,c,xs,ws,b,ps,g,rfl,S,k⟩:=h;have hu:=i9 hr;refine⟨_,(PSs.nox (ak (fP aom rfl (gS (pv 2)) (aX (i:=3) rR.nd rfl 1e4)
   (ai (bI (aJ (VZ (n:=1) hu) (bq.m hr (pv 1) T.bZ T.gZ aY (aa (bT cY (pv 3) au 1e7) aj)) (fE (aa cR (aa (bT cY (pv 3) au 1e7) (aa (cz a9 rfl T.kU PyProof.Rows.Boot.«len» (aa (aE.m hr (pv 0) T.ae T.cK aY (aa (bT cY (pv 3) au 1e7) aj)) aj)) aj)))) (aS _))
    (ai (aG (fE (aa cR (aa (bT cY (pv 3) au 1e7) aj)))))
    aO)))
  (ai (aG c8)))),?_⟩
 have z:=S.M.z;have nx:=S.nx;refine⟨_,rfl,b,rfl,⟨_,SqL.of S.hb⟩,kR (K:=K) (a:=b) (xs:=ps) (λi σ Hx=>∃ v3,σ=[some (.ref x),some (.ref m),some (.ref b),v3]/\aB H Hx) ⟨none,rfl,aB.refl _⟩ (λi σ Hx _ ⟨_,_,sx⟩=>SqL.of (sx _ _ S.hb)) ?_ ?_⟩
 ·rintro i v σ Hx hi ⟨v3,rfl,sx⟩
  have S1:=S.same sx;obtain⟨t,q,wd,rfl,hq,mk,_,mw⟩:=S1.at hi;obtain⟨t0,t1⟩:=S.G.lt t wd mw;obtain⟨g0,g1,gh,_⟩:=S.P.hd t wd mw;have R:=(S1.J.afl t wd mw).2;refine⟨_,rfl,m,_,_,rfl,S1.M.i,1e3,_,rfl,q,_,1,.int (g t),rfl,rfl,SqT.of hq,rfl,m,mx,c,xs,ws,g t,rfl,S1.M,Sm.of 1e1 1e1,?_⟩;rw[if_pos ⟨g0,by omega⟩];intro y w2 hy hw2 mv;rw[gh]at hw2;cases hw2;obtain⟨_,p1,rfl,hp1⟩:=mv.resolve_left (λz=>by cases z.1);refine⟨_,rfl,q,_,0,.int t,rfl,rfl,SqT.of hq,rfl,_,rfl,x,_,_,rfl,S1.J.ax,1e3,_,rfl,q,_,0,.int t,rfl,rfl,SqT.of hq,rfl,x,A,s,t,rfl,S1.J,S1.G,Sm.of 1e1 1e1,(λ_ p H1 sp hp zp=>?_),(λn=>absurd mk n)⟩;refine⟨p,_,rfl,.inl (SqL.of zp),by show 3<=sizeLine;decide,λr hr'=>?_⟩;have t3:=aB.upd (o:=.tup [V.str "head",V.int t,V.int (A.fx t).length]) hr';have e1:((A.fx t).length:Int)=wd.length:=by rw[R.1]
  have r1:Rp (upd H1 r (.tup [V.str "head",V.int t,V.int (A.fx t).length])) 1 (V.ref p1) (.t [.a (.str "head"),.a (.int t),.a (.int wd.length)]):=⟨p1,_,rfl,t3 _ _ (sp _ _ hp1),rfl,(λj u x h1 h2=>by match j,h1,h2 with|0,h1,h2=>cases h1;cases h2;exact⟨rfl,rfl⟩|1,h1,h2=>cases h1;cases h2;exact⟨rfl,rfl⟩|2,h1,h2=>cases h1;cases h2;exact⟨rfl,rfl⟩|j+3,h1,_=>cases h1)⟩
  have r2:Rp (upd H1 r (.tup [V.str "head",V.int t,V.int (A.fx t).length])) 1 (V.ref r) (.t [.a (.str "head"),.a (.int t),.a (.int wd.length)]):=⟨r,_,rfl,by rw[ag,e1],rfl,(λj u x h1 h2=>by match j,h1,h2 with|0,h1,h2=>cases h1;cases h2;exact⟨rfl,rfl⟩|1,h1,h2=>cases h1;cases h2;exact⟨rfl,rfl⟩|2,h1,h2=>cases h1;cases h2;exact⟨rfl,rfl⟩|j+3,h1,_=>cases h1)⟩
  refine⟨_,_,r1,r2,_,rfl,f9 (by rw[uo r1 r1];rfl) ⟨_,rfl,(sx.trans sp).trans t3⟩⟩
 ·rintro σ Hx ⟨v3,rfl,sx⟩
  exact k _ sx
noncomputable def QO(D:Ad):Sp:=λvs H Q _=>∃ x A s q,∃(t a:Int) (wd:List Wd),vs=[.ref x,.ref q]/\IH D H x A s/\Good s/\s.nxt<10000/\H q=some (.tup [.int t,.int a])/\(t,wd)∈s.aT/\∀ p H',aB H H'->H p=none->H' p=some (.lst (((List.range (wd.length+1)).map λi:Nat=>a+(i:Int)).map V.int))->Q (.ref p) H'
noncomputable abbrev wY:List Str:=["ideal","pair"]
theorem Gu:av wY ["ideal","pair"] (ar md):=fsc
theorem Gv(F:Fun K "addresses_of" "addresses_of" md D.dQ D.jO)(T:Txt K mg D)
  (aE:9e7 4 D.aP D.bh ["self","t"] (zg D))
  (jh:9e7 3 D.gC D.kT ["fields"] (sr D)):9e7 5 D.dQ D.jO ["ideal","pair"] (QO D):=by
 refine F.oa Gu F.b2 λcdv A' outer s' H vs Q E hr h=>?_;obtain⟨x,A,s,q,t,a,wd,rfl,J,G,nx,hq,mw,k⟩:=h;refine⟨_,(PSs.nox (ai (aG (tK (cl:=[("pair",s'.heap.objs.size+1)]) (x := "i") (idx:=[1]) (NC:=["i","pair"]) ?co1 rfl (lj rfl T.pK (aa (jh.c hr T.AX T.rg aY (aa (cz a9 rfl T.kU PyProof.Rows.Boot.«len» (aa (aE.m hr (pv 0) T.ae T.cK aY (aa (bT cY (pv 1) au 1e7) aj)) aj)) aj)) aj)) (λC fp s₀ H₀=>(aF bO (bT (r:=YM K) cY (pv 1) au 1e7) (pv 0))))))),?_⟩
 case co1 =>
  exact lA (sc:=ar md) (N:=wY) (ns:=["pair"]) rfl rfl rfl (by decide +kernel) rfl rfl (by
   intro q hq;rw[an7.mp hq];rfl)
 have mk:t∈keys s:=mem_keys.mpr ⟨wd,mw⟩;obtain⟨t0,t1⟩:=G.lt t wd mw;have f6:=G.f6 t wd mw;have R:=(J.afl t wd mw).2;have e0:(A.fx t).length=wd.length:=R.1;refine⟨_,rfl,x,_,_,rfl,J.ax,1e3,_,rfl,q,_,0,.int t,rfl,rfl,SqT.of hq,rfl,x,A,s,t,rfl,J,G,Sm.of 1e1 1e1,(λ_ p H1 sp hp zp=>?_),(λn=>absurd mk n)⟩;refine⟨p,_,rfl,.inl (SqL.of zp),_,rfl,Sm.of 1e1 1e1,?_⟩;rw[if_pos ⟨by omega,by omega⟩];refine⟨_,rfl,by omega,by omega,λL hL=>?_⟩;rw[show(((A.fx t).length:Int)+1).toNat=wd.length+1 by omega];refine IG (lo:=0) (n:=wd.length+1) (λi ys Hc=>ys=((List.range i).map λi:Nat=>a+(i:Int)).map V.int/\aB H1 Hc/\Hc L=some (.lst ys)) ⟨rfl,aB.upd hL,ag⟩ (λi ys Hc hi ⟨e,_,z⟩=>⟨z,by rw[e,an6,an6,apc]⟩) (Dr 1e1) (λi ys Hc hi ⟨e,sc,z⟩=>?_) (λys Hc ⟨e,sc,z⟩=>?_)
 ·refine⟨_,rfl,q,_,1,.int a,rfl,rfl,SqT.of (sc _ _ (sp _ _ hq)),rfl,_,rfl,_,_,rfl,rfl,z,?_,λb u y=>by rw[af (aq y hL)];exact sc b u y,ag⟩
  rw[aoU,aon,aon,e];simp
 ·exact k L _ (sp.trans sc) (aB.none sp hL) (by rw[z,e])
noncomputable def adr(s:HS)(g:Int->Int)(ts:List Int):List Int:=ts.flatMap λt=>(List.range ((fld s t).length+1)).map λi:Nat=>g t+(i:Int)
noncomputable def Dz(as:List Int):List (Key×V):=as.map λa=>(Sum.inl a,V.int 1)
theorem Fl{a:Int}:∀ {as:List Int},a∉as->ie (Dz as) (Sum.inl a)=none
 | [],_=>rfl
 | b::as,m=>by
  show ie ((Sum.inl b,V.int 1)::Dz as) _=_;rw[fe (λz=>m (by rw[Sum.inl.inj z];exact aow))];exact Fl λz=>m (aox _ z)
theorem LL{a:Int}:∀ {as:List Int},a∈as->ie (Dz as) (Sum.inl a)=some (.int 1)
 | [],m=>nomatch m
 | b::as,m=>by
  by_cases e:b=a
  ·subst e;exact fK rfl
  ·show ie ((Sum.inl b,V.int 1)::Dz as) _=_
   rw[fe (λz=>e (Sum.inl.inj z))];exact LL ((aop.mp m).resolve_left (aol e))
theorem Us{a:Int}{as:List Int}(h:a∉as):putK (Dz as) (Sum.inl a) (.int 1)=Dz (as++[a]):=by
 rw[xU _ (Fl h)];unfold Dz;rw[aon];rfl
theorem Tr{s:HS}{g:Int->Int}{ts:List Int}{a:Int}:a∈adr s g ts↔∃ t∈ts,∃ k:Nat,k<(fld s t).length+1/\a=g t+(k:Int):=by
 unfold adr;rw[List.mem_flatMap];constructor
 ·rintro⟨t,m,h⟩
  obtain⟨k,hk,e⟩:=aoy.mp h;exact⟨t,m,k,apj.mp hk,e.symm⟩
 ·rintro⟨t,m,k,hk,e⟩
  exact⟨t,m,aoy.mpr ⟨k,apj.mpr hk,e.symm⟩⟩
theorem VG{s:HS}{g:Int->Int}{ts:List Int}{t:Int}:adr s g (ts++[t])=adr s g ts++(List.range ((fld s t).length+1)).map λi:Nat=>g t+(i:Int):=by
 unfold adr;rw[List.flatMap_append];simp
theorem Ts{s:HS}{g:Int->Int}(G:Good s):∀ {ts:List Int},(∀ t∈ts,t∈keys s)->(adr s g ts).length<=7*ts.length
 | [],_=>aoa _
 | t::ts,h=>by
  have e:adr s g (t::ts)=((List.range ((fld s t).length+1)).map λi:Nat=>g t+(i:Int))++adr s g ts:=rfl;obtain⟨wd,mw⟩:=mem_keys.mp (h t aow);have f6:=G.f6 t wd mw;rw[<-G.fld mw]at f6;rw[e,aof,an6,apc,aoF]
  have:=Ts (g:=g) G λt m=>h t (aox _ m)
  omega
theorem Yj{s:HS}{g:Int->Int}{ws:List Mw}(G:Good s)(P:Pic ws s g){i:Nat}{t:Int}{wd:List Wd}(ht:(keys s)[i]?=some t)(mw:(t,wd)∈s.aT){k:Nat}(hk:k<wd.length+1):g t+(k:Int)∉adr s g ((keys s).take i):=λm=>by
 obtain⟨u,mu,k',hk',e⟩:=Tr.mp m;have nu:t≠u:=λe=>by
  subst e;obtain⟨j,hj,ej⟩:=apr.mp mu;rw[aoj]at hj;rw[apU]at ej;have hi:=(an5.mp ht)
  have:=ao7.mp (show(keys s).Pairwise (·< ·) from G.asc) j i 1e1 hi.1 1e1
  rw[ej,hi.2]at this;omega
 obtain⟨wu,mwu⟩:=mem_keys.mp (ao9 mu);rw[G.fld mwu]at hk';rcases P.dj t wd u wu mw mwu nu with h|h<;>omega
noncomputable def Wh(D:Ad):Sp:=λvs H Q _=>∃ x A s m mx c xs ws b ps g,vs=[.ref x,.ref m,.ref b]/\RQ D H x A s m mx c xs ws b ps g/\∀ H',aB H H'->Q .non H'
noncomputable abbrev BS:List Str:=["ideal","memory","book","uses","pair","a"]
theorem eJ:av BS ["ideal","memory","book"] (ar lG):=fsc
theorem Ab(F:Fun K "first_misplaced" "first_misplaced" lG D.ck D.gK)(T:Txt K mg D)
  (mB:9e7 5 D.dQ D.jO ["ideal","pair"] (QO D))
  (ju:9e7 1 D.eV D.jq ["self"] (Js D)):9e7 6 D.ck D.gK ["ideal","memory","book"] (Wh D):=by
 refine F.oa eJ F.b3 λcdv A' outer s' H vs Q E hr h=>?_;obtain⟨x,A,s,m,mx,c,xs,ws,b,ps,g,rfl,S,k⟩:=h;have hu:=i9 hr;refine⟨_,(PSs.nox (ak (aN (i:=3) eJ.nd rfl 1e4 kg)
  (ak (fP aom rfl (gS (pv 2)) (aX (i:=4) eJ.nd rfl 1e4)
   (ai (fP aom rfl (gS (mB.c hr T.wR T.mj aY (aa (pv 0) (aa (pv 4) aj)))) (aX (i:=5) eJ.nd rfl 1e4)
    (ai (pG hu (pv 3) (pv 5) (aF bO (Vj hu (pv 3) (pv 5) au ⟨rfl,rfl,rfl,rfl⟩) au) rfl)))))
  (ak (fP aom rfl (gS (pv 2)) (aX (i:=4) eJ.nd rfl 1e4)
   (ai (fP aom rfl (gS (mB.c hr T.wR T.mj aY (aa (pv 0) (aa (pv 4) aj)))) (aX (i:=5) eJ.nd rfl 1e4)
    (ai (bI (PW.pt (pw_or (mR (mU yJ u7 au (pv 5) (ju.m0 hr (pv 1) T.bZ T.wO aY))) (pw_or1 (aJ Q3 (ip hu (pv 3) (pv 5) 1e7) au (aS _)))))
     (ai (aG (fE (aa cR (aa (bT cY (pv 4) au 1e7) aj)))))
     aO)))))
  (ai (aG c8)))))),?_⟩
 have z:=S.M.z;have nx:=S.nx;have lt:(keys s).length<=10000:=by unfold keys;rw[an6];exact S.G.few
 intro dd hdd;have s1:=aB.upd (o:=.dK []) hdd;refine⟨_,rfl,b,rfl,⟨_,SqL.of (s1 _ _ S.hb)⟩,kR (K:=K) (a:=b) (xs:=ps) (λi σ Hx=>∃ v4 v5,σ=[some (.ref x),some (.ref m),some (.ref b),some (.ref dd),v4,v5]/\aB H Hx/\Hx dd=some (.dK (Dz (adr s g ((keys s).take i))))) ⟨none,none,rfl,s1,ag⟩ (λi σ Hx _ ⟨_,_,_,sx,_⟩=>SqL.of (sx _ _ S.hb)) ?_ ?_⟩
 ·rintro i v σ Hx hi ⟨v4,v5,rfl,sx,hd⟩
  have S1:=S.same sx;obtain⟨t,q,wd,rfl,hq,mk,ki,mw⟩:=S1.at hi;have ef:=S.G.fld mw;have f6:=S.G.f6 t wd mw;have al:=Ts (g:=g) S.G (ts:=(keys s).take i) λt m=>ao9 m;have tl:((keys s).take i).length<=(keys s).length:=by rw[aoj];omega
  refine⟨_,rfl,_,rfl,x,A,s,q,t,g t,wd,rfl,S1.J,S.G,nx,hq,mw,λp H1 sp hp zp=>?_⟩;refine⟨p,rfl,⟨_,SqL.of zp⟩,kR (K:=K) (a:=p) (xs:=((List.range (wd.length+1)).map λi:Nat=>g t+(i:Int)).map V.int) (λj σ Hy=>∃ v5,σ=[some (.ref x),some (.ref m),some (.ref b),some (.ref dd),some (.ref q),v5]/\aB H Hy/\Hy p=some (.lst (((List.range (wd.length+1)).map λi:Nat=>g t+(i:Int)).map V.int))/\Hy dd=some (.dK (Dz (adr s g ((keys s).take i)++(List.range j).map λi:Nat=>g t+(i:Int))))) ⟨_,rfl,sx.trans sp,zp,by rw[show((List.range 0).map λi:Nat=>g t+(i:Int))=[] from rfl,aoT];exact sp _ _ hd⟩ (λj σ Hy _ ⟨_,_,_,y,_⟩=>SqL.of y) ?_ ?_⟩
  ·rintro j v σ Hy hj ⟨v5,rfl,sy,hy,hyd⟩
   have jl:j<wd.length+1:=(by have:=(an5.mp hj).1;rw[an6,an6,apc]at this;exact this);rw[aog,aog,List.getElem?_range jl]at hj;cases hj;have na:g t+(j:Int)∉adr s g ((keys s).take i)++(List.range j).map λi:Nat=>g t+(i:Int):=λy=>by
    rcases aot.mp y with y|y
    ·exact Yj S.G S.P ki mw jl y
    ·obtain⟨k',hk',e⟩:=aoy.mp y
     have:=apj.mp hk'
     omega
   refine⟨_,rfl,dd,rfl,.inl ⟨_,.inl hyd⟩,_,rfl,_,tX.k (k:=Sum.inl (g t+(j:Int))) hyd,0,1,(by rw[Fl na];rfl),rfl,_,rfl,_,rfl,dd,_,rfl,G9.k (k:=Sum.inl (g t+(j:Int))) hyd (by unfold Dz;rw[an6,aof,an6,apc];exact aoY (show(adr s g ((keys s).take i)).length+j<=80000 by omega) 2e1),?_⟩;refine⟨_,rfl,λb u y=>by rw[af (aq y hdd)];exact sy b u y,by rw[af (az hy hyd (by intro y;cases y))];exact hy,?_⟩;rw[ag,show((λi j=>V.int (i+j)) 0 1:V)=.int 1 from rfl,Us na,apq,aoU,aon];rfl
  ·rintro σ Hy ⟨v5,rfl,sy,hy,hyd⟩
   refine⟨_,_,rfl,sy,?_⟩;rw[an6,an6,apc]at hyd;rw[take_snoc ki,VG,ef];exact hyd
 ·rintro σ Hx ⟨v4,v5,rfl,sx,hd⟩
  rw[S.pr.1,aoh (aoa _)]at hd;refine⟨_,rfl,b,rfl,⟨_,SqL.of (sx _ _ S.hb)⟩,kR (K:=K) (a:=b) (xs:=ps) (λi σ Hy=>∃ v4 v5,σ=[some (.ref x),some (.ref m),some (.ref b),some (.ref dd),v4,v5]/\aB Hx Hy) ⟨_,_,rfl,aB.refl _⟩ (λi σ Hy _ ⟨_,_,_,sy⟩=>SqL.of (sy _ _ (sx _ _ S.hb))) ?_ ?_⟩
  ·rintro i v σ Hy hi ⟨v4,v5,rfl,sy⟩
   have S1:=S.same (sx.trans sy);obtain⟨t,q,wd,rfl,hq,mk,ki,mw⟩:=S1.at hi;have ef:=S.G.fld mw;obtain⟨g0,g1,_,_⟩:=S.P.hd t wd mw;refine⟨_,rfl,_,rfl,x,A,s,q,t,g t,wd,rfl,S1.J,S.G,nx,hq,mw,λp H1 sp hp zp=>?_⟩;refine⟨p,rfl,⟨_,SqL.of zp⟩,kR (K:=K) (a:=p) (xs:=((List.range (wd.length+1)).map λi:Nat=>g t+(i:Int)).map V.int) (λj σ Hz=>∃ v5,σ=[some (.ref x),some (.ref m),some (.ref b),some (.ref dd),some (.ref q),v5]/\aB H1 Hz) ⟨_,rfl,aB.refl _⟩ (λj σ Hz _ ⟨_,_,sz⟩=>SqL.of (sz _ _ zp)) ?_ ?_⟩
   ·rintro j v σ Hz hj ⟨v5,rfl,sz⟩
    have jl:j<wd.length+1:=(by have:=(an5.mp hj).1;rw[an6,an6,apc]at this;exact this);rw[aog,aog,List.getElem?_range jl]at hj;cases hj;have S2:=S1.same (sp.trans sz);have ma:g t+(j:Int)∈adr s g (keys s):=Tr.mpr ⟨t,mk,j,by rw[ef];exact jl,rfl⟩;refine⟨_,rfl,0,g t+(j:Int),rfl,rfl,_,rfl,iY (decide_eq_true 1e1) ?_⟩;refine⟨_,rfl,m,_,_,rfl,S2.M.i,1e3,m,mx,c,xs,ws,rfl,S2.M,_,_,rfl,rfl,_,rfl,f9 (by rw[decide_eq_true (show g t+(j:Int)<(ws.length:Int) by omega)];rfl) ?_⟩;exact⟨_,rfl,_,rfl,dd,.int 1,rfl,.inl ⟨_,Sum.inl (g t+(j:Int)),.inl (sz _ _ (sp _ _ (sy _ _ hd))),rfl,(LL ma).symm⟩,1,1,rfl,rfl,_,rfl,f9 rfl ⟨_,rfl,sz⟩⟩
   ·rintro σ Hz ⟨v5,rfl,sz⟩
    exact⟨_,_,rfl,sy.trans (sp.trans sz)⟩
  ·rintro σ Hy ⟨v4,v5,rfl,sy⟩
   exact k _ (sx.trans sy)
noncomputable def Xg(D:Ad):Sp:=λvs H Q _=>∃ x A s m mx c xs ws b ps g,∃(hl nl:Addr) (ys zs:List V),vs=[.ref x,.ref m,.ref hl,.ref nl,.ref b]/\RQ D H x A s m mx c xs ws b ps g/\H hl=some (.lst ys)/\H nl=some (.lst zs)/\ys.length=8/\zs.length=8/\(∀(i:Nat) (w:Wd) (y:V),s.aW[i]?=some w->ys[i]?=some y->∃ mw,MV H y mw/\Lk ws (kvG (keys s) g) w mw)/\(∀(i:Nat) (n:Option Int) (y:V),s.names[i]?=some n->zs[i]?=some y->∃ mw,MV H y mw/\Lk ws (kvG (keys s) g) (nmW n) mw)/\∀ H',aB H H'->Q .non H'
noncomputable abbrev qL:List Str:=["ideal","memory","hands","names","book","unlike","named"]
theorem fJ:av qL ["ideal","memory","hands","names","book"] (ar jK):=fsc
theorem Gw(F:Fun K "first_unlike" "first_unlike" jK D.dP D.jN)(T:Txt K mg D)
  (bg:9e7 1 D.bC D.c6 ["self"] (vi D))
  (lY:9e7 6 D.ck D.gK ["ideal","memory","book"] (Wh D))
  (nS:9e7 5 D.cN D.iy ["ideal","memory","book"] (QN D))
  (jI:9e7 8 D.bw D.eO ["ideal","memory","book"] (LJ D))
  (ib:9e7 8 D.bG D.fL ["kind","told","memory","words","book"] (QM D))
  (fH:9e7 2 D.cp D.fF ["self"] (Fi D))
  (fI:9e7 2 D.cq D.fG ["self"] (Fj D))
  (cL:9e7 3 D.cJ D.gc ["t"] (jR)):9e7 9 D.dP D.jN ["ideal","memory","hands","names","book"] (Xg D):=by
 refine F.oa fJ F.b5 λcdv A' outer s' H vs Q E hr h=>?_;obtain⟨x,A,s,m,mx,c,xs,ws,b,ps,g,hl,nl,ys,zs,rfl,S,hy,hz,l8,n8,hH,hN,k⟩:=h;refine⟨_,(PSs.nox (ak (bI (aJ (ZQ hr.Zv) (tK (cl:=[]) (x := "pair") (idx:=[]) (NC:=["pair"]) ?co2 rfl (gS (pv 4)) (λC fp s₀ H₀=>(bT (r:=YM K) cY (pv 0) au 1e7))) (bg.m0 hr (pv 0) T.ae T.fN aY) (aS _))
   (ai (aG (fE (aa cR aj))))
   aO)
  (ak (aN (i:=5) fJ.nd rfl 1e4 (lY.c hr T.Bk T.lS aY (aa (pv 0) (aa (pv 1) (aa (pv 4) aj)))))
  (ak (bI (aJ pP (pv 5) c8 (aS _))
   (ai (aN (i:=5) fJ.nd rfl 1e4 (nS.c hr T.DH T.nJ aY (aa (pv 0) (aa (pv 1) (aa (pv 4) aj))))))
   aO)
  (ak (bI (aJ pP (pv 5) c8 (aS _))
   (ai (aN (i:=5) fJ.nd rfl 1e4 (jI.c hr T.vT T.jH aY (aa (pv 0) (aa (pv 1) (aa (pv 4) aj))))))
   aO)
  (ak (bI (aJ pP (pv 5) c8 (aS _))
   (ai (aN (i:=5) fJ.nd rfl 1e4 (ib.c hr T.pJ T.ia aY (aa cR (aa (fH.m0 hr (pv 0) T.ae T.qk aY) (aa (pv 1) (aa (pv 2) (aa (pv 4) aj))))))))
   aO)
  (ak (bI (aJ pP (pv 5) c8 (aS _))
   (ak (NM (cl:=[]) (x := "t") (idx:=[]) (NC:=["t"]) (i:=6) fJ.nd rfl rfl ?co1 rfl (gS (fI.m0 hr (pv 0) T.ae T.ql aY)) (λC fp s₀ H₀=>(rC (aJ pP (pv 0) c8 (aS _)) c8 (cL.c hr T.oj T.js II (aa (pv 0) aj)))))
   (ai (aN (i:=5) fJ.nd rfl 1e4 (ib.c hr T.pJ T.ia aY (aa cR (aa (pv 6) (aa (pv 1) (aa (pv 3) (aa (pv 4) aj)))))))))
   aO)
  (ai (aG (pv 5)))))))))),?_⟩
 case co1 =>
  exact lA (sc:=ar jK) (N:=qL) (ns:=[]) rfl rfl rfl (by decide +kernel) rfl rfl (by
   intro q hq;cases hq)
 case co2 =>
  exact lA (sc:=ar jK) (N:=qL) (ns:=[]) rfl rfl rfl (by decide +kernel) rfl rfl (by
   intro q hq;cases hq)
 have lp:=S.pr.1;have lk:(keys s).length<=10000:=by unfold keys;rw[an6];exact S.G.few
 refine⟨_,rfl,b,rfl,⟨_,SqL.of S.hb⟩,λL hL=>?_⟩;refine lr (K:=K) (a:=b) (xs:=ps) (λi us Hc=>us=((keys s).take i).map V.int/\aB H Hc/\Hc L=some (.lst us)) ⟨rfl,aB.upd hL,ag⟩ (λi us Hc hi ⟨e,_,z⟩=>⟨z,by rw[e,an6,aoj];omega⟩) (λi us Hc _ ⟨_,sc,_⟩=>SqL.of (sc _ _ S.hb)) (Dr 1e1) (λi v us Hc hi ⟨e,sc,z⟩=>?_) (λus H1 ⟨e,s1,z1⟩=>?_)
 ·obtain⟨t,q,wd,rfl,hq,mk,ki,mw⟩:=S.at hi
  refine⟨_,rfl,q,_,0,.int t,rfl,rfl,SqT.of (sc _ _ hq),rfl,z,?_,λb u y=>by rw[af (aq y hL)];exact sc b u y,ag⟩;rw[take_snoc ki,aon,e];rfl
 ·rw[lp,aoh (aoa _)]at e
  subst e;have S1:=S.same s1;refine⟨_,rfl,x,_,_,rfl,S1.J.ax,1e3,x,A,s,rfl,S1.J,S.G,λp2 H2 s2 hp2 z2=>?_⟩;have fl:((keys s).map V.int).all mV=true:=by rw[List.all_map];exact api.mpr λ_ _=>rfl
  refine⟨L,p2,_,_,rfl,rfl,SqL.of (s2 _ _ z1),SqL.of z2,rfl,fl,fl,_,rfl,f9 (by rw[Rg rfl,decide_eq_true rfl];rfl) ?_⟩;have S2:=S1.same s2;refine⟨_,rfl,_,rfl,_,rfl,x,A,s,m,mx,c,xs,ws,b,ps,g,rfl,S2,λH3 s3=>?_⟩;have S3:=S2.same s3;refine⟨_,rfl,rfl,_,rfl,iY (decide_eq_true rfl) ⟨_,rfl,_,rfl,_,rfl,x,A,s,m,mx,c,xs,ws,b,ps,g,rfl,S3,λH4 s4=>?_⟩⟩;have S4:=S3.same s4;refine⟨_,rfl,rfl,_,rfl,iY (decide_eq_true rfl) ⟨_,rfl,_,rfl,_,rfl,x,A,s,m,mx,c,xs,ws,b,ps,g,rfl,S4,λH5 s5=>?_⟩⟩;have S5:=S4.same s5;have E5:=((s1.trans s2).trans s3).trans (s4.trans s5);refine⟨_,rfl,rfl,_,rfl,iY (decide_eq_true rfl) ⟨_,rfl,x,_,_,rfl,S5.J.ax,1e3,x,A,s,rfl,S5.J,S.G,λp6 H6 s6 hp6 z6=>?_⟩⟩;have S6:=S5.same s6;have E6:=E5.trans s6;refine⟨_,rfl,_,rfl,_,rfl,m,mx,c,xs,ws, "hand",p6,hl,b,A.hx,ys,ps,keys s,g,rfl,S6.M,S.gm,z6,E6 _ _ hy,by rw[S6.J.rhl.1,S.G.h8,l8],λi v y h1 h2=>?_,S6.hb,S6.pr,keys_nodup S.G,λH7 s7=>?_⟩
  ·obtain⟨w',hw'⟩:∃ w',s.aW[i]?=some w':=⟨s.aW[i]'(by rw[<-S6.J.rhl.1];exact(an5.mp h1).1),an4 _⟩
   obtain⟨mw',e1,e2⟩:=hH i w' y hw' h2;exact⟨w',mw',S6.J.rhl.2 i v w' h1 hw',e1.keep (b7.of E6),e2⟩
  have S7:=S6.same s7;have E7:=E6.trans s7;refine⟨_,rfl,rfl,_,rfl,iY (decide_eq_true rfl) ⟨_,rfl,x,_,_,rfl,S7.J.ax,1e3,x,A,s,rfl,S7.J,S.G,λp8 H8 s8 hp8 z8=>?_⟩⟩;refine⟨p8,rfl,⟨_,SqL.of z8⟩,λL2 hL2=>?_⟩;refine lr (K:=K) (a:=p8) (xs:=s.names.map nmV) (λi us Hc=>us.length=i/\aB H8 Hc/\Hc L2=some (.lst us)/\∀(j:Nat) (u:V) (n:Option Int),us[j]?=some u->s.names[j]?=some n->WV Hc u (nmW n)) ⟨rfl,aB.upd hL2,ag,(λj u n h=>by cases h)⟩ (λi us Hc _ ⟨e,_,z,_⟩=>⟨z,e⟩) (λi us Hc _ ⟨_,sc,_⟩=>SqL.of (sc _ _ z8)) (by rw[an6,S.G.n8];decide) (λi v us Hc hi ⟨e,sc,z,hq⟩=>?_) (λus H9 ⟨e,s9,z9,hq⟩=>?_)
  ·rw[aog]at hi
   obtain⟨n,hn,rfl⟩:=aoo.mp hi;have fin:∀(u:V) (Hd:Hp),aB Hc Hd->WV Hd u (nmW n)->Hd L2=some (.lst us)/\(us++[u]).length=i+1/\aB H8 (upd Hd L2 (.lst (us++[u])))/\upd Hd L2 (.lst (us++[u])) L2=some (.lst (us++[u]))/\∀(j:Nat) (u':V) (n:Option Int),(us++[u])[j]?=some u'->s.names[j]?=some n->WV (upd Hd L2 (.lst (us++[u]))) u' (nmW n):=λu Hd sd wu=>by
    have zd:=sd _ _ z;refine⟨zd,by rw[aof,e];rfl,λb v y=>by rw[af (aq y hL2)];exact sd _ _ (sc b v y),ag,λj u' n' h1 h2=>?_⟩;have tu:b7 Hd (upd Hd L2 (.lst (us++[u]))):=b7.set zd (by intro z y;cases y);rcases aoZ j us.length with cj|cj
    ·rw[aoO cj]at h1
     exact((hq j u' n' h1 h2).keep (b7.of sd)).keep tu
    ·have ej:j=us.length:=by have:=(an5.mp h1).1;rw[aof,aoH]at this;omega
     rw[ej,aoI (aoa _),apP]at h1;cases h1;rw[ej,e,hn]at h2;cases h2;exact wu.keep tu
   cases n with
   | none=>exact⟨_,rfl,rfl,_,rfl,iY (decide_eq_true rfl) (fin .non Hc (aB.refl _) rfl)⟩
   | some t =>
    obtain⟨wt,mwt⟩:=S.G.nn t (an9 hn);refine⟨_,rfl,rfl,_,rfl,f9 (decide_eq_false 1e0) ⟨_,rfl,t,rfl,(S.G.lt t wt mwt).1,λtp Hd sd hd=>?_⟩⟩;exact fin (.ref tp) Hd sd ⟨tp,rfl,hd⟩
  ·have S9:=(S7.same s8).same s9
   have E9:=(E7.trans s8).trans s9;rw[an6]at e;refine⟨_,rfl,_,rfl,_,rfl,_,rfl,m,mx,c,xs,ws, "name",L2,nl,b,us,zs,ps,keys s,g,rfl,S9.M,S.gm,z9,E9 _ _ hz,by rw[e,S.G.n8,n8],λi v y h1 h2=>?_,S9.hb,S9.pr,keys_nodup S.G,λH10 s10=>?_⟩
   ·obtain⟨n',hn'⟩:∃ n',s.names[i]?=some n':=⟨s.names[i]'(by rw[<-e];exact(an5.mp h1).1),an4 _⟩
    obtain⟨mw',e1,e2⟩:=hN i n' y hn' h2;exact⟨nmW n',mw',hq i v n' h1 hn',e1.keep (b7.of E9),e2⟩
   ·exact⟨_,rfl,k _ (E9.trans s10)⟩
noncomputable def QP(D:Ad):Sp:=λvs H Q E=>Xg D vs H (λ_ H'=>Q (.bl true) H') E
noncomputable abbrev Ms:List Str:=["ideal","memory","hands","names","book"]
theorem Ke:av Ms ["ideal","memory","hands","names","book"] (ar ux):=fsc
theorem Kf(F:Fun K "is_picture" "is_picture" ux D.fU D.mC)(T:Txt K mg D)
  (qM:9e7 9 D.dP D.jN ["ideal","memory","hands","names","book"] (Xg D)):9e7 10 D.fU D.mC ["ideal","memory","hands","names","book"] (QP D):=by
 refine F.oa Ke F.b5 λcdv A' outer s' H vs Q E hr h=>?_;obtain⟨x,A,s,m,mx,c,xs,ws,b,ps,g,hl,nl,ys,zs,rfl,S,hy,hz,l8,n8,hH,hN,k⟩:=h;refine⟨_,(PSs.nox (ai (aG (tI pP (qM.c hr T.Hl T.qF aY (aa (pv 0) (aa (pv 1) (aa (pv 2) (aa (pv 3) (aa (pv 4) aj)))))) c8 (aS _))))),?_⟩;exact⟨_,rfl,_,rfl,_,rfl,_,rfl,_,rfl,x,A,s,m,mx,c,xs,ws,b,ps,g,hl,nl,ys,zs,rfl,S,hy,hz,l8,n8,hH,hN,λH' s'=>⟨rfl,k _ s'⟩⟩
theorem Sm.of7{n:Int}(h0:-100000000<=n)(h1:n<=100000000):Sm n:=Lr (Nat.lt_trans (show n.natAbs<200000000 by omega) 2e1)
theorem acI{a b:Int}(y:decide (V.int a=V.int b)=true):a=b:=by
 have:=of_decide_eq_true y
 injection this
theorem Z0{a b:Int}(y:¬decide (V.int a=V.int b)=true):¬a=b:=λz=>y (decide_eq_true (by rw[z]))
noncomputable def Ja(K:W.Frag):Sp:=λvs H Q _=>∃(a:Addr) (ns:List Int) (j:Int),vs=[.ref a,.int j]/\SqL K H a (ns.map V.int)/\0<=j/\Q (.int (ns.getD j.toNat 0)) H
noncomputable abbrev OP:List Str:=["script","k"]
theorem Mt:av OP ["script","k"] (ar xm):=fsc
theorem Mu(F:Fun K "_law_cell" "_law_cell" xm D.fD D.jS)(T:Txt K mg D):9e7 1 D.fD D.jS ["script","k"] (Ja K):=by
 refine F.oa Mt F.b2 λcdv A' outer s' H vs Q E hr h=>?_;obtain⟨a,ns,j,rfl,hS,j0,k⟩:=h;refine⟨_,(PSs.nox (ak (bI (aJ u7 (pv 1) (cz a9 rfl T.kU PyProof.Rows.Boot.«len» (aa (pv 0) aj)) (aS _))
   (ai (aG (bT dC (pv 0) (pv 1) 1e7)))
   aO)
  (ai (aG au)))),?_⟩
 refine⟨_,rfl,_,rfl,a,_,rfl,.inl hS,j,_,rfl,rfl,_,rfl,dH (λh=>?_) (λh=>?_)⟩
 case refine_2 =>
  have hl:ns.length<=j.toNat:=by
   have h:=of_decide_eq_false (aoK.mpr h);rw[an6]at h;omega
  rw[ao4,List.getElem?_eq_none_iff.mpr hl]at k;exact k
 have hl:j.toNat<ns.length:=by
  have:=of_decide_eq_true h
  rw[an6]at this;omega
 exact⟨_,rfl,_,rfl,a,_,j,.int ns[j.toNat],rfl,rfl,hS,Dq j0 (by rw[aog,an4 hl];rfl),by rw[ao4,an4 hl]at k;exact k⟩
noncomputable def yo:Sp:=λvs H Q _=>∃ c j:Int,vs=[.int c,.int j]/\0<=j/\j<=1000/\∀ r:Int,0<=r->r<=300000000->Q (.int r) H
noncomputable abbrev Mv:List Str:=["cell","k","first","second"]
theorem sZ:av Mv ["cell","k"] (ar uE):=fsc
theorem Kg(F:Fun K "_law_mixed" "_law_mixed" uE D.c7 D.gY)(T:Txt K mg D):9e7 1 D.c7 D.gY ["cell","k"] (yo):=by
 refine F.oa sZ F.b2 λcdv A' outer s' H vs Q E hr h=>?_;obtain⟨c,j,rfl,j0,j1,k⟩:=h;refine⟨_,(PSs.nox (ak (aN (i:=2) sZ.nd rfl 1e4 (aF eF (aF j9 (aF bO (aF bO (pv 0) (aF j9 au (pv 1))) au) au) au))
  (ak (aN (i:=3) sZ.nd rfl 1e4 (aF eF (aF bO (aF bO (aF j9 (pv 2) (pv 2)) (aF j9 au (pv 1))) au) au))
  (ai (aG (aF jT (aF eF (aF j9 (pv 3) (pv 3)) au) au)))))),?_⟩
 refine⟨_,rfl,_,rfl,7919,j,rfl,rfl,.inl ⟨by decide,by decide⟩,c,_,rfl,rfl,_,1,rfl,rfl,_,48271,rfl,rfl,.inr ⟨by decide,by decide⟩,_,2147483647,rfl,rfl,(by show(0:Int)<2147483647;decide),?_⟩;have q0:=aoA ((c+7919*j+1)*48271) (show(2147483647:Int)≠0 by decide);have q1:=aor ((c+7919*j+1)*48271) (show(0:Int)<2147483647 by decide);obtain⟨n2,en2⟩:∃ n2:Int,(c+7919*j+1)*48271%2147483647=n2:=⟨_,rfl⟩;rw[en2]at q0 q1;simp only[en2,tS];refine⟨_,rfl,_,rfl,n2,n2,rfl,rfl,.inl ⟨by omega,by omega⟩,_,rfl,40692,j,rfl,rfl,.inl ⟨by decide,by decide⟩,_,_,rfl,rfl,_,3,rfl,rfl,_,2147483629,rfl,rfl,(by show(0:Int)<2147483629;decide),?_⟩;have q2:=aoA (n2*n2+40692*j+3) (show(2147483629:Int)≠0 by decide);have q3:=aor (n2*n2+40692*j+3) (show(0:Int)<2147483629 by decide);obtain⟨n3,en3⟩:∃ n3:Int,(n2*n2+40692*j+3)%2147483629=n3:=⟨_,rfl⟩;rw[en3]at q2 q3;simp only[en3,tS];refine⟨_,rfl,_,rfl,n3,n3,rfl,rfl,.inl ⟨by omega,by omega⟩,_,2147483587,rfl,rfl,(by show(0:Int)<2147483587;decide),_,8,rfl,rfl,⟨by decide,by decide⟩,?_⟩;have q4:=aoA (n3*n3) (show(2147483587:Int)≠0 by decide);have q5:=aor (n3*n3) (show(0:Int)<2147483587 by decide);exact k _ (Int.ediv_nonneg q4 2e1) (by generalize n3*n3%2147483587=y at q4 q5;show y/8<=_;omega)
noncomputable def Wi(D:Ad):Sp:=λvs H Q E=>∃ x A s,∃ w:Int,vs=[.ref x,.int w]/\IH D H x A s/\Gd s/\(w=14\/s.rnd=true)/\∀ dd,dd.ok->Fin D x A s H (dDo s dd) Q E
noncomputable abbrev My:List Str:=["heap","way"]
theorem Kh:av My ["heap","way"] (ar uF):=fsc
theorem Ki(F:Fun K "_law_round" "_law_round" uF D.fW D.mJ)(T:Txt K mg D)
  (cw:9e7 5 D.bN D.dF ["self"] (Dx D))
  (pD:9e7 4 D.dX D.jf ["self"] (Wc D)):9e7 9 D.fW D.mJ ["heap","way"] (Wi D):=by
 refine F.oa Kh F.b2 λcdv A' outer s' H vs Q E hr h=>?_;obtain⟨x,A,s,w,rfl,J,Gs,hw,k⟩:=h;refine⟨_,(ai (bI (aJ nY (pv 1) au (aS _))
   (ai (aI (cw.m0 hr (pv 0) T.ae T.kK px)))
   (ai (aI (pD.m0 hr (pv 0) T.ae T.DF px))))),?_⟩
 refine⟨_,rfl,rfl,_,rfl,dH (λy=>⟨_,rfl,x,_,_,rfl,J.ax,1e3,x,A,s,rfl,J,Gs.g,k .small trivial⟩) (λy=>?_)⟩;have q:=hw.resolve_left (Z0 y);refine⟨_,rfl,x,_,_,rfl,J.ax,1e3,x,A,s,rfl,J,Gs,?_⟩;have k:=k .turn trivial;rw[show dDo s .turn=Wa s from if_pos q]at k;exact k
noncomputable def QQ(D:Ad):Sp:=λvs H Q E=>∃ x A s,∃ n:Int,vs=[.ref x,.int n]/\IH D H x A s/\Gd s/\s.nxt<10000/\∀ dd,dd.ok->Fin D x A s H (dDo s dd) Q E
noncomputable abbrev OQ:List Str:=["heap","number","way","h","g","k"]
theorem mM:av OQ ["heap","number"] (ar xn):=fsc
theorem Mz(F:Fun K "_law_deed" "_law_deed" xn D.g8 D.oB)(T:Txt K mg D)
  (nU:9e7 8 D.dr D.iE ["self","h","n"] (QF D))
  (uU:9e7 7 D.fi D.mG ["self","g","k","h"] (Qw D))
  (k8:9e7 7 D.fz D.kX ["self","h","g","k"] (NQ D))
  (k9:9e7 6 D.fA D.kY ["self","h","g"] (NO D))
  (lg:9e7 5 D.fB D.kZ ["self","h"] (NP D))
  (tf:9e7 6 D.dJ D.ku ["self","h","x"] (LB D))
  (xM:9e7 7 D.gq D.oA ["self","w","h"] (S0 D))
  (nV:9e7 7 D.dt D.iF ["self","h","w"] (QG D))
  (jJ:9e7 1 D.bS D.eU ["self"] (We D))
  (uV:9e7 9 D.fW D.mJ ["heap","way"] (Wi D))
  (lZ:9e7 6 D.cU D.gO ["self"] (Wb D)):9e7 10 D.g8 D.oB ["heap","number"] (QQ D):=by
 refine F.oa mM F.b2 λcdv A' outer s' H vs Q E hr h=>?_;obtain⟨x,A,s,n,rfl,J,Gs,hnx,k⟩:=h;refine⟨_,(ak (aN (i:=2) mM.nd rfl 1e4 (aF eF (pv 1) au))
  (ak (aN (i:=3) mM.nd rfl 1e4 (aF eF (aF jT (pv 1) au) au))
  (ak (aN (i:=4) mM.nd rfl 1e4 (aF eF (aF jT (pv 1) au) au))
  (ak (aN (i:=5) mM.nd rfl 1e4 (aF eF (aF jT (pv 1) au) au))
  (ai (bI (aJ u7 (pv 2) au (aS _))
   (ai (aI (nU.m hr (pv 0) T.ae T.Bg px (aa (pv 3) (aa (aF eF (aF jT (pv 1) au) au) aj)))))
   (ai (bI (aJ u7 (pv 2) au (aS _))
    (ai (aI (uU.m hr (pv 0) T.ae T.zw px (aa (pv 4) (aa (pv 5) (aa (pv 3) aj))))))
    (ai (bI (aJ nY (pv 2) au (aS _))
     (ai (aI (k8.m hr (pv 0) T.ae T.rG px (aa (pv 3) (aa (pv 4) (aa (pv 5) aj))))))
     (ai (bI (aJ nY (pv 2) au (aS _))
      (ai (aI (k9.m hr (pv 0) T.ae T.rH px (aa (pv 3) (aa (pv 4) aj)))))
      (ai (bI (aJ nY (pv 2) au (aS _))
       (ai (aI (lg.m hr (pv 0) T.ae T.rJ px (aa (pv 3) aj))))
       (ai (bI (aJ nY (pv 2) au (aS _))
        (ai (aI (tf.m hr (pv 0) T.ae T.xX px (aa (pv 3) (aa (aF Zs (aF eF (aF jT (pv 1) au) (aF yQ au au)) au) aj)))))
        (ai (bI (aJ nY (pv 2) au (aS _))
         (ai (aI (xM.m hr (pv 0) T.ae T.Bf px (aa (pv 5) (aa (pv 3) aj)))))
         (ai (bI (aJ nY (pv 2) au (aS _))
          (ai (aI (nV.m hr (pv 0) T.ae T.Bh px (aa (pv 3) (aa (pv 5) aj)))))
          (ai (bI (PW.pt (pw_or (aJ nY (pv 2) au (aS _)) (pw_or1 (uj (jJ.m0 hr (pv 0) T.ae T.vk px)))))
           (ai (aI (uV.c hr T.L1 T.uM px (aa (pv 0) (aa (pv 2) aj)))))
           (ai (aI (lZ.m0 hr (pv 0) T.ae T.zC px))))))))))))))))))))))))),?_⟩
 have G:=Gs.g;have b1:=m8 n 16;have b2:=m8 n 128;have b4:0<=n/1024%7/\n/1024%7<7:=⟨aoA _ 2e1,aor _ 2e1⟩;have b5:0<=n/7168%7/\n/7168%7<7:=⟨aoA _ 2e1,aor _ 2e1⟩;have b6:0<=n/7168%(10 ^ Int.toNat 7)/\n/7168%(10 ^ Int.toNat 7)<10000000:=⟨aoA _ 2e1,aor _ 2e1⟩;refine⟨_,rfl,n,16,rfl,rfl,(by show(0:Int)<16;decide),?_⟩;refine⟨_,rfl,n,16,rfl,rfl,⟨by decide,by decide⟩,_,8,rfl,rfl,(by show(0:Int)<8;decide),?_⟩;refine⟨_,rfl,n,128,rfl,rfl,⟨by decide,by decide⟩,_,8,rfl,rfl,(by show(0:Int)<8;decide),?_⟩;refine⟨_,rfl,n,1024,rfl,rfl,⟨by decide,by decide⟩,_,7,rfl,rfl,(by show(0:Int)<7;decide),?_⟩;refine⟨_,rfl,_,5,rfl,rfl,_,rfl,dH (λy=>?_) (λy=>?_)⟩
 ·exact⟨_,rfl,x,_,_,rfl,J.ax,1e3,_,rfl,_,rfl,n,7168,rfl,rfl,⟨by decide,by decide⟩,_,7,rfl,rfl,(by show(0:Int)<7;decide),x,A,s,(n/16%8),(n/7168%7),rfl,J,Gs,hnx,Sm.of7 1e1 1e1,Sm.of7 1e1 1e1,k (.make (n/16%8) (n/7168%7)) ⟨b1,by omega,by omega⟩⟩
 refine⟨_,rfl,_,8,rfl,rfl,_,rfl,dH (λy=>?_) (λy=>?_)⟩
 ·exact⟨_,rfl,x,_,_,rfl,J.ax,1e3,_,rfl,_,rfl,_,rfl,x,A,s,(n/128%8),(n/1024%7),(n/16%8),rfl,J,G,Sm.of7 1e1 1e1,Sm.of7 1e1 1e1,Sm.of7 1e1 1e1,k (.store (n/128%8) (n/1024%7) (n/16%8)) ⟨b2,by omega,by omega,b1⟩⟩
 refine⟨_,rfl,rfl,_,rfl,dH (λy=>?_) (λy=>?_)⟩
 ·exact⟨_,rfl,x,_,_,rfl,J.ax,1e3,_,rfl,_,rfl,_,rfl,x,A,s,(n/16%8),(n/128%8),(n/1024%7),rfl,J,G,Sm.of7 1e1 1e1,Sm.of7 1e1 1e1,Sm.of7 1e1 1e1,k (.load (n/16%8) (n/128%8) (n/1024%7)) ⟨b1,b2,by omega,by omega⟩⟩
 refine⟨_,rfl,rfl,_,rfl,dH (λy=>?_) (λy=>?_)⟩
 ·exact⟨_,rfl,x,_,_,rfl,J.ax,1e3,_,rfl,_,rfl,x,A,s,(n/16%8),(n/128%8),rfl,J,G,Sm.of7 1e1 1e1,Sm.of7 1e1 1e1,k (.copy (n/16%8) (n/128%8)) ⟨b1,b2⟩⟩
 refine⟨_,rfl,rfl,_,rfl,dH (λy=>?_) (λy=>?_)⟩
 ·exact⟨_,rfl,x,_,_,rfl,J.ax,1e3,_,rfl,x,A,s,(n/16%8),rfl,J,G,Sm.of7 1e1 1e1,k (.drop (n/16%8)) b1⟩
 refine⟨_,rfl,rfl,_,rfl,dH (λy=>?_) (λy=>?_)⟩
 ·exact⟨_,rfl,x,_,_,rfl,J.ax,1e3,_,rfl,_,rfl,n,7168,rfl,rfl,⟨by decide,by decide⟩,10,7,rfl,rfl,⟨by decide,by decide⟩,_,_,rfl,rfl,(by show(0:Int)<10 ^ Int.toNat 7;decide +kernel),_,400,rfl,rfl,x,A,s,(n/16%8),(n/7168%(10 ^ Int.toNat 7)-400),rfl,J,G,Sm.of7 1e1 1e1,Sm.of7 1e1 1e1,k (.number (n/16%8) (n/7168%(10 ^ Int.toNat 7)-400)) ⟨b1,by omega,by omega⟩⟩
 refine⟨_,rfl,rfl,_,rfl,dH (λy=>?_) (λy=>?_)⟩
 ·exact⟨_,rfl,x,_,_,rfl,J.ax,1e3,_,rfl,_,rfl,x,A,s,(n/1024%7),(n/16%8),rfl,J,G,Sm.of7 1e1 1e1,Sm.of7 1e1 1e1,k (.name (n/1024%7) (n/16%8)) ⟨⟨by omega,by omega⟩,b1⟩⟩
 refine⟨_,rfl,rfl,_,rfl,dH (λy=>?_) (λy=>?_)⟩
 ·exact⟨_,rfl,x,_,_,rfl,J.ax,1e3,_,rfl,_,rfl,x,A,s,(n/16%8),(n/1024%7),rfl,J,G,Sm.of7 1e1 1e1,Sm.of7 1e1 1e1,k (.read (n/16%8) (n/1024%7)) ⟨b1,⟨by omega,by omega⟩⟩⟩
 refine⟨_,rfl,rfl,_,rfl,dH (λy=>u9 ?_) (λy=>?_)⟩
 ·exact⟨_,rfl,_,rfl,x,A,s,_,rfl,J,Gs,.inl (acI y),k⟩
 refine⟨_,rfl,x,_,_,rfl,J.ax,1e3,x,A,s,rfl,J,_,rfl,dH (λq=>?_) (λq=>?_)⟩
 ·exact⟨_,rfl,_,rfl,x,A,s,_,rfl,J,Gs,.inr q,k⟩
 ·have k:=k .turn trivial
  rw[show dDo s .turn=G0 s from if_neg q]at k;exact⟨_,rfl,x,_,_,rfl,J.ax,1e3,x,A,s,rfl,J,Gs,k⟩
theorem VH(ns:List Int)(lo hi:Option Int):∃ cs:List Int,VQ (ns.map V.int) lo hi=cs.map V.int/\cs.length<=ns.length/\(∀ c∈cs,c∈ns)/\∀ m,hi=some m->0<=m->cs.length<=m.toNat:=by
 refine⟨(ns.drop (HT.sIx ns.length 0 lo)).take (HT.sIx ns.length ns.length hi-HT.sIx ns.length 0 lo),?_,?_,λc hc=>List.mem_of_mem_drop (ao9 hc),λm e m0=>?_⟩
 ·unfold VQ
  rw[an6,List.map_take,List.map_drop]
 ·rw[aoj,aph]
  omega
 ·subst e
  rw[aoj]
  have:HT.sIx ns.length ns.length (some m)<=m.toNat:=by
   show(if m<0 then(m+(ns.length:Int)).toNat else min m.toNat ns.length)<=_;rw[if_neg 1e1];omega
  omega
noncomputable def Tt(K:W.Frag):Sp:=λvs H Q _=>∃(a:Addr) (ns:List Int) (mo:Int),vs=[.ref a,.int mo]/\SqL K H a (ns.map V.int)/\ns.length<=63/\0<=mo/\∀(p:Addr) (zs:List Int) (H':Hp),aB H H'->H p=none->H' p=some (.lst (zs.map V.int))->zs.length<=mo.toNat->Q (.ref p) H'
noncomputable abbrev HK:List Str:=["script","most","numbers","way","k","cell","rest","turn"]
theorem dZ:av HK ["script","most"] (ar qC):=fsc
theorem Gx(F:Fun K "_law_numbers" "_law_numbers" qC D.dR D.jQ)(T:Txt K mg D)
  (hW:9e7 1 D.fD D.jS ["script","k"] (Ja K))
  (bJ:9e7 1 D.c7 D.gY ["cell","k"] (yo)):9e7 2 D.dR D.jQ ["script","most"] (Tt K):=by
 refine F.oa dZ F.b2 λcdv A' outer s' H vs Q E hr h=>?_;obtain⟨a,ns,mo,rfl,hS,hlen,m0,k⟩:=h;have hu:=i9 hr;refine⟨_,(PSs.nox (ak (aN (i:=2) dZ.nd rfl 1e4 (pQ (aa au (aa (aF bO (aF j9 au au) (aF j9 au au)) (aa (aF bO (aF j9 au au) (aF j9 au au)) aj)))))
  (ak (aN (i:=3) dZ.nd rfl 1e4 (aF eF (hW.c hr T.xy T.oW aY (aa (pv 0) (aa au aj))) au))
  (ak (fP aom rfl (vQ rfl T.hV (aa (pv 0) aj)) (vR rfl (dG (aX (i:=4) dZ.nd rfl 1e4) (dG (aX (i:=5) dZ.nd rfl 1e4) qZ)))
   (ak (aN (i:=6) dZ.nd rfl 1e4 (aF eF (pv 5) (aF yQ au au)))
   (ai (fP aom rfl (lj rfl T.pK (aa (aF bO au (aF eF (pv 6) au)) aj)) (aX (i:=7) dZ.nd rfl 1e4)
    (ak (aI (Rb PySem.F.plainAttrs_list PySem.F.slot_list_append PySem.F.type_list_append yK (pv 2) (aa (aF eF (bT dC (pQ (aa (aF jT (pv 6) au) (aa (bJ.c hr T.i6 T.fZ aY (aa (pv 6) (aa (aF bO (aF j9 au (pv 4)) (pv 7)) aj))) aj))) (pv 3) 1e7) (aF yQ au au)) aj)))
    (ai (aN (i:=6) dZ.nd rfl 1e4 (aF jT (pv 6) (aF yQ au au)))))))))
  (ai (aG (Ve XC (pv 2) Xz (XA (pv 1))))))))),?_⟩
 refine⟨16,1,rfl,rfl,.inl ⟨by decide,by decide⟩,3,7168,rfl,rfl,.inl ⟨by decide,by decide⟩,_,_,rfl,rfl,16,2,rfl,rfl,.inl ⟨by decide,by decide⟩,2,7168,rfl,rfl,.inl ⟨by decide,by decide⟩,_,_,rfl,rfl,by show 3<=sizeLine;decide,λp hp=>?_⟩;have s1:=aB.upd (o:=.lst (([0,16*1+3*7168,16*2+2*7168]:List Int).map V.int)) hp;refine⟨_,rfl,a,ns,0,rfl,s1.seq hS,by decide,_,2,rfl,rfl,(by show(0:Int)<2;decide),?_⟩;have w0:=aoA (ns.getD (Int.toNat 0) 0) (show(2:Int)≠0 by decide);have w1:=aor (ns.getD (Int.toNat 0) 0) (show(0:Int)<2 by decide);obtain⟨wv,ew⟩:∃ wv:Int,ns.getD (Int.toNat 0) 0%2=wv:=⟨_,rfl⟩;show tS 3 (V.int (ns.getD (Int.toNat 0) 0%2)) _ _ _;rw[ew]at w0 w1 ⊢;refine⟨_,rfl,a,rfl,⟨_,s1.seq hS⟩,rD (K:=K) (a:=a) (xs:=ns.map V.int) (λi σ Hx=>∃(v4 v5 v6 v7:Option V) (zs:List Int),σ=[some (.ref a),some (.int mo),some (.ref p),some (.int wv),v4,v5,v6,v7]/\aB H Hx/\Hx p=some (.lst (zs.map V.int))/\zs.length<=3+4*i) ⟨none,none,none,none,([0,16*1+3*7168,16*2+2*7168]:List Int),rfl,s1,ag,by decide⟩ (λi σ Hx _ ⟨_,_,_,_,_,_,sx,_⟩=>sx.seq hS) ?_ ?_⟩
 ·rintro i v σ Hx tp hi ⟨v4,v5,v6,v7,zs,rfl,sx,zx,lx⟩ htp
  rw[aog]at hi;obtain⟨zc,hz,rfl⟩:=aoo.mp hi;have il:i<ns.length:=(an5.mp hz).1;have t1:=aB.upd (o:=.tup [.int (i:Int),.int zc]) htp;refine⟨tp,_,rfl,SqT.of ag,rfl,_,_,rfl,_,_,rfl,rfl,?_⟩;refine⟨_,rfl,10,60,rfl,rfl,⟨by decide,by decide⟩,zc,_,rfl,rfl,(by show(0:Int)<10 ^ Int.toNat 60;decide +kernel),?_⟩;obtain⟨r,er⟩:∃ r:Int,zc%10 ^ Int.toNat 60=r:=⟨_,rfl⟩;show tS 6 (V.int (zc%10 ^ Int.toNat 60)) _ _ _;rw[er];have r0:=aoA r (show(4:Int)≠0 by decide);have r4:=aor r (show(0:Int)<4 by decide);refine⟨_,rfl,r,4,rfl,rfl,(by show(0:Int)<4;decide),1,_,rfl,rfl,_,rfl,by omega,by omega,qQ (lo:=0) (n:=(1+r%4).toNat) (λj σ Hy=>∃(r:Int) (v7:Option V) (zs:List Int),σ=[some (.ref a),some (.int mo),some (.ref p),some (.int wv),some (.int (i:Int)),some (.int zc),some (.int r),v7]/\aB H Hy/\Hy p=some (.lst (zs.map V.int))/\zs.length<=3+4*i+j) ⟨r,v7,zs,rfl,sx.trans t1,t1 _ _ zx,by omega⟩ ?_ ?_⟩
  ·rintro j σ Hy hj ⟨r',v7,zs,rfl,sy,zy,ly⟩
   refine⟨_,rfl,.inl ⟨rfl,_,SqL.of zy⟩,_,rfl,r',4,rfl,rfl,⟨by decide,by decide⟩,_,rfl,_,rfl,5,_,rfl,rfl,.inl ⟨by decide,by decide⟩,_,rfl,_,_,rfl,rfl,r',_,rfl,by omega,by omega,λrm m0 m1=>⟨by show 2<=sizeLine;decide,λl2 hl2=>?_⟩⟩;obtain⟨y,hy⟩:∃ y:Int,atI [V.int (r' / 4),V.int rm] wv=some (.int y):=by
    rcases(show wv=0\/wv=1 by omega) with e|e
    ·rw[e];exact⟨r' / 4,rfl⟩
    ·rw[e];exact⟨rm,rfl⟩
   have t2:=aB.upd (o:=.lst [V.int (r' / 4),V.int rm]) hl2;refine⟨_,rfl,l2,_,wv,.int y,rfl,rfl,SqL.of ag,hy,10,13,rfl,rfl,⟨by decide,by decide⟩,y,_,rfl,rfl,(by show(0:Int)<10 ^ Int.toNat 13;decide +kernel),p,_,_,rfl,rfl,t2 _ _ zy,aoY (show(zs.map V.int).length<=1000 by rw[an6];omega) 2e1,?_⟩;refine⟨_,rfl,10,5,rfl,rfl,⟨by decide,by decide⟩,r',_,rfl,rfl,⟨by decide +kernel,by decide +kernel⟩,?_⟩;exact⟨_,_,zs++[y%10 ^ Int.toNat 13],rfl,λb u g=>by rw[af (aq g hp)];exact t2 _ _ (sy b u g),by rw[ag,aon];rfl,by rw[aof,aoH];omega⟩
  ·rintro σ Hy ⟨r',v7,zs,rfl,sy,zy,ly⟩
   exact⟨_,_,_,_,zs,rfl,sy,zy,by omega⟩
 ·rintro σ Hx ⟨v4,v5,v6,v7,zs,rfl,sx,zx,lx⟩
  obtain⟨cs,ec,cl,cm,cb⟩:=VH zs none (some mo);refine⟨_,rfl,_,rfl,_,rfl,p,_,rfl,SqL.of zx,λq hq=>?_⟩;rw[ec];exact k q cs _ (sx.trans (aB.upd hq)) (aB.none sx hq) ag (cb mo rfl m0)
theorem Yk(T:Txt K mg D)(e:Er):∃ cd,h9 K (D.er e) cd/\cd.mro.contains (.ref D.aK)=true:=by
 cases e with
 | hand=>exact T.Fy
 | name=>exact T.Ol
 | field=>exact T.C9
 | count=>exact T.LU
 | room=>exact T.Ru
 | words=>exact T.DE
 | on=>exact T.Oo
 | no=>exact T.Oq
noncomputable def QR(K:W.Frag)(D:Ad):Sp:=λvs H Q _=>∃(a:Addr) (ns:List Int) (mo:Int),vs=[.ref a,.int mo]/\SqL K H a (ns.map V.int)/\ns.length<=63/\0<=mo/\mo<=1000/\∀ x A s H',IH D H' x A s->Gd s->s.nxt<=mo->aB H H'->(∀ b,bD x A s b->H b=none)->Q (.ref x) H'
noncomputable abbrev OR:List Str:=["script","most","heap","refused","number"]
theorem mN:av OR ["script","most"] (ar xo):=fsc
theorem MA(F:Fun K "_law_heap" "_law_heap" xo D.g9 D.oE)(T:Txt K mg D)
  (hW:9e7 1 D.fD D.jS ["script","k"] (Ja K))
  (qN:9e7 2 D.dR D.jQ ["script","most"] (Tt K))
  (sC:9e7 10 D.g8 D.oB ["heap","number"] (QQ D))
  (gJ:9e7 4 D.bR D.eT ["self","young","limit"] (ze D)):9e7 11 D.g9 D.oE ["script","most"] (QR K D):=by
 refine F.oa mN F.b2 λcdv A' outer s' H vs Q E hr h=>?_;obtain⟨a,ns,mo,rfl,hS,hlen,m0,m1,k⟩:=h;obtain⟨cdH,xH⟩:=T.h;refine⟨_,(PSs.nox (ak (aN (i:=2) mN.nd rfl 1e4 (SJ T.uJ gJ.g (hr.mono 2e1) rfl T.LY gJ.b .nil V4 (aa (bT dC (pQ (aa au (aa au (aa au aj)))) (aF eF (hW.c hr T.xy T.oW aY (aa (pv 0) (aa au aj))) au) 1e7) (aa au aj))))
  (ak (aN (i:=3) mN.nd rfl 1e4 au)
  (ak (fP aom rfl (gS (qN.c hr T.Hm T.qG aY (aa (pv 0) 1e9))) (aX (i:=4) mN.nd rfl 1e4)
   (ai (NN rfl rfl rfl T.mH xH (λpins E' EK hp=>ai (aI (vP sC.g (hr.mono 2e1) rfl T.Ou T.xC sC.b .nil hp (aa (pv 2) (aa (pv 4) aj))))) (λea=>ai (aN (i:=3) mN.nd rfl 1e4 (aF bO (pv 3) au))))))
  (ai (aG (pv 2))))))),?_⟩
 refine⟨by show 3<=sizeLine;decide,λp0 hp0=>?_⟩;have a0:=aB.upd (o:=.lst [V.int 0,V.int 20,V.int 64]) hp0;have w0:=aoA (ns.getD (Int.toNat 1) 0) (show(3:Int)≠0 by decide);have w1:=aor (ns.getD (Int.toNat 1) 0) (show(0:Int)<3 by decide);obtain⟨y,hy,y7⟩:∃ y:Int,atI [V.int 0,V.int 20,V.int 64] (ns.getD (Int.toNat 1) 0%3)=some (.int y)/\(y=0\/(7<=y/\y<=64)):=by
  generalize ns.getD (Int.toNat 1) 0%3=w at w0 w1;rcases(show w=0\/w=1\/w=2 by omega) with e|e|e
  ·rw[e];exact⟨0,rfl,.inl rfl⟩
  ·rw[e];exact⟨20,rfl,.inr 2e1⟩
  ·rw[e];exact⟨64,rfl,.inr 2e1⟩
 refine⟨_,rfl,a,ns,1,rfl,a0.seq hS,by decide,_,3,rfl,rfl,(by show(0:Int)<3;decide),p0,_,_,_,rfl,rfl,SqL.of ag,hy,?_⟩;intro x dx hx hdx nd;refine⟨x,dx,y,120,rfl,ag,y7,by decide,by decide,λA0 H1 J0 B0 F0=>⟨rfl,?_⟩⟩;have s1:aB (upd H p0 (.lst [V.int 0,V.int 20,V.int 64])) H1:=λb u q=>B0 b u (aq q hx) (by rw[af (aq q hx),af (aq q hdx)];exact q);have F1:∀ b,bD x A0 (s0 (decide (y>0)) y 120) b->H b=none:=λb fb=>by
  rcases F0 b fb with e|e
  ·rw[e];exact aB.none a0 hx
  ·refine aB.none a0 ?_
   by_cases c:b=x
   ·rw[c];exact hx
   ·by_cases c2:b=dx
    ·rw[c2];exact hdx
    ·rw[af c,af c2]at e;exact e
 have S1:=a0.trans s1;clear F0 B0 nd;refine⟨_,rfl,_,rfl,a,ns,mo,rfl,S1.seq hS,hlen,m0,λp zs H2 s2 hp zp zl=>?_⟩;have np:¬bD x A0 (s0 (decide (y>0)) y 120) p:=J0.fresh hp;refine⟨p,rfl,⟨_,SqL.of zp⟩,kR (K:=K) (a:=p) (xs:=zs.map V.int) (λi σ Hx=>∃ A s r v4,σ=[some (.ref a),some (.int mo),some (.ref x),some (.int r),v4]/\IH D Hx x A s/\Gd s/\s.nxt<=i/\Fr (bD x A0 (s0 (decide (y>0)) y 120)) H2 (bD x A s) Hx) ⟨A0,_,0,none,rfl,J0.same s2,gd0,aoQ _,Fr.refl⟩ (λi σ Hx _ ⟨_,_,_,_,_,_,_,_,fr⟩=>SqL.of (fr.out np zp).1) ?_ ?_⟩
 ·rintro i v σ Hx hi ⟨A,s,r,v4,rfl,J,Gs,nx,fr⟩
  rw[aog]at hi;obtain⟨n,hn,rfl⟩:=aoo.mp hi;have il:i<zs.length:=(an5.mp hn).1;refine⟨_,rfl,_,rfl,x,A,s,n,rfl,J,Gs,by omega,λdd ok=>?_⟩;obtain⟨g1,_,g3⟩:=UO Gs 1e1 ok;intro A1 H3 J1 fr1;cases e:(dDo s dd).1 with
  | none=>exact⟨A1,_,_,_,rfl,J1,g1,by omega,fr.trans fr1⟩
  | some er =>
   obtain⟨cd,xc,hm⟩:=Yk T er;exact⟨D.er er,cd,rfl,xc,hm,⟨_,rfl,r,1,rfl,rfl,A1,_,_,_,rfl,J1,g1,by omega,fr.trans fr1⟩⟩
 ·rintro σ Hx ⟨A,s,r,v4,rfl,J,Gs,nx,fr⟩
  rw[an6]at nx;refine⟨_,rfl,k x A s Hx J Gs 1e1 (λb u q=>(fr.out (λf=>by rw[F1 b f]at q;cases q) (s2 _ _ (S1 _ _ q))).1) λb f=>?_⟩;rcases fr.grow b f with f0|e
  ·exact F1 b f0
  ·exact aB.none (S1.trans s2) e
noncomputable def Kj(g:Int->Int)(t b:Int):Int->Int:=λu=>if u=t then b else g u
structure Dg(kvs:List (Key×V))(ms:List Int)(g:Int->Int):Prop where
 k:Kys kvs ms
 v:∀ t∈ms,ie kvs (Sum.inl t)=some (.int (g t))
theorem Dg.new{kvs:List (Key×V)}{ms:List Int}{g:Int->Int}(d:Dg kvs ms g){t b:Int}(h:t∉ms):Dg (putK kvs (Sum.inl t) (.int b)) (ms++[t]) (Kj g t b):=by
 refine⟨d.k.snoc h,λu m=>?_⟩;rw[Qd];unfold Kj;by_cases e:u=t
 ·subst e;rw[if_pos rfl,if_pos rfl]
 ·rw[if_neg (λz=>e (Sum.inl.inj z)),if_neg e]
  exact d.v u ((aot.mp m).resolve_right λz=>e (an7.mp z))
structure Pl(s:HS)(ts ms:List Int)(g:Int->Int)(a:Int):Prop where
 pm:(ts++ms).Perm (keys s)
 a0:0<=a
 a1:a<=5+10*(ms.length:Int)
 bd:∀ t∈ms,0<=g t/\g t+((fld s t).length:Int)<a
 dj:∀ t∈ms,∀ u∈ms,t≠u->g t+((fld s t).length:Int)<g u\/g u+((fld s u).length:Int)<g t
theorem Pl.key{s:HS}{ts ms:List Int}{g:Int->Int}{a:Int}(P:Pl s ts ms g a){t:Int}(h:t∈ts):t∈keys s:=P.pm.mem_iff.mp (aoC _ h)
theorem Pl.out{s:HS}{ts ms:List Int}{g:Int->Int}{a:Int}(G:Good s)(P:Pl s ts ms g a){t:Int}(h:t∈ts):t∉ms:=λm=>by
 have n:=P.pm.nodup_iff.mpr (keys_nodup G);exact(ao0.mp n).2.2 t h t m rfl
theorem LM:∀ {ts:List Int} {k:Nat},(ts.map V.int).eraseIdx k=(ts.eraseIdx k).map V.int
 | [],_=>rfl
 | _::_,0=>rfl
 | a::ts,k+1=>congrArg (V.int a::·) (LM (ts:=ts) (k:=k))
theorem anN{n j:Nat}(h:j<n):seqIndex? (j:Int) n=some j:=by
 unfold seqIndex?;have e:¬((j:Int)<0):=by omega
 simp only[if_neg e];simp[h]
theorem Jb:∀ {ts:List Int} {k:Nat} {t:Int},ts[k]?=some t->(t::ts.eraseIdx k).Perm ts
 | [],_,_,h=>by cases h
 | a::ts,0,t,h=>by cases h;exact .refl _
 | a::ts,k+1,t,h=>(List.Perm.swap a t (ts.eraseIdx k)).trans ((Jb (ts:=ts) (k:=k) h).cons a)
theorem Pl.next{s:HS}{ts ms:List Int}{g:Int->Int}{a e:Int}(G:Good s)(P:Pl s ts ms g a){k:Nat}{t:Int}(h:ts[k]?=some t)(e0:0<=e)(e3:e<=3):Pl s (ts.eraseIdx k) (ms++[t]) (Kj g t a) (a+1+((fld s t).length:Int)+e):=by
 have mt:=an9 h;have no:=P.out G mt;obtain⟨wd,mw⟩:=mem_keys.mp (P.key mt);have f6:=G.f6 t wd mw;rw[<-G.fld mw]at f6;have a0:=P.a0;have a1:=P.a1;have gt:Kj g t a t=a:=by unfold Kj;rw[if_pos rfl]
 have gu:∀ {u:Int},u∈ms->Kj g t a u=g u:=λ{u} m=>by unfold Kj;rw[if_neg (λz=>no (by rw[<-z];exact m))]
 have sp:∀ {u:Int},u∈ms++[t]->u∈ms\/u=t:=λm=>(aot.mp m).imp id an7.mp;refine⟨?_,by omega,by rw[aof,aoH];omega,λu m=>?_,λu m v m' n=>?_⟩
 ·have p1:=Jb h
  have p2:(ts.eraseIdx k++(ms++[t])).Perm (t::(ts.eraseIdx k++ms)):=by rw[<-apq];exact List.perm_middle.trans (by rw[aoT])
  exact(p2.trans (p1.append_right ms)).trans P.pm
 ·rcases sp m with h1|h1
  ·rw[gu h1];have:=P.bd u h1;omega
  ·rw[h1,gt];omega
 ·rcases sp m with h1|h1
  ·rcases sp m' with h2|h2
   ·rw[gu h1,gu h2];exact P.dj u h1 v h2 n
   ·rw[h2,gu h1,gt];exact .inl (P.bd u h1).2
  ·rcases sp m' with h2|h2
   ·rw[h1,gu h2,gt];exact .inr (P.bd v h2).2
   ·exact absurd (h1.trans h2.symm) n
noncomputable def LN(D:Ad):Sp:=λvs H Q _=>∃ x A s,∃ zj:Int,vs=[.ref x,.int zj]/\IH D H x A s/\Good s/\s.nxt<=200/\∀(r d:Addr) (kvs:List (Key×V)) (ms:List Int) (g:Int->Int) (a:Int) (H':Hp),aB H H'->H' r=some (.tup [.ref d,.int a])->H' d=some (.dK kvs)->Dg kvs ms g->Pl s [] ms g a->Q (.ref r) H'
noncomputable abbrev Kk:List Str:=["heap","seed","things","places","a","t"]
theorem iQ:av Kk ["heap","seed"] (ar sO):=fsc
theorem HL(F:Fun K "_law_places" "_law_places" sO D.eW D.kA)(T:Txt K mg D)
  (bg:9e7 1 D.bC D.c6 ["self"] (vi D))
  (bJ:9e7 1 D.c7 D.gY ["cell","k"] (yo))
  (aE:9e7 4 D.aP D.bh ["self","t"] (zg D)):9e7 6 D.eW D.kA ["heap","seed"] (LN D):=by
 refine F.oa iQ F.b2 λcdv A' outer s' H vs Q E hr h=>?_;obtain⟨x,A,s,zj,rfl,J,G,nx,k⟩:=h;have hu:=i9 hr;refine⟨_,(PSs.nox (ak (aN (i:=2) iQ.nd rfl 1e4 (ll pV rfl T.yY PyProof.Rows.Boot.«list» (aa (bg.m0 hr (pv 0) T.ae T.fN aY) aj)))
  (ak (aN (i:=3) iQ.nd rfl 1e4 kg)
  (ak (aN (i:=4) iQ.nd rfl 1e4 (aF eF (pv 1) au))
  (ak (Jj aom (Va (pv 2) (by intro _;rfl))
   (ak (aN (i:=5) iQ.nd rfl 1e4 (Rb PySem.F.plainAttrs_list PySem.F.slot_list_pop PySem.F.type_list_pop Vf (pv 2) (aa (aF eF (vP bJ.g (hr.mono 2e1) rfl T.i6 T.fZ bJ.b .nil aY (aa (pv 1) (aa (aF bO au (cz a9 rfl T.kU PyProof.Rows.Boot.«len» (aa (pv 2) aj))) aj))) (cz a9 rfl T.kU PyProof.Rows.Boot.«len» (aa (pv 2) aj))) aj)))
   (ak (pG hu (pv 3) (pv 5) (pv 4) rfl)
   (ai (aN (i:=4) iQ.nd rfl 1e4 (aF bO (aF bO (aF bO (pv 4) au) (cz a9 rfl T.kU PyProof.Rows.Boot.«len» (aa (aE.m hr (pv 0) T.ae T.cK aY (aa (pv 5) aj)) aj))) (bT dC (pQ (aa au (aa au (aa au (aa au aj))))) (aF eF (bJ.c hr T.i6 T.fZ aY (aa (pv 1) (aa (aF bO au (pv 5)) aj))) au) 1e7)))))))
  (ai (aG (fE (aa (pv 3) (aa (pv 4) aj)))))))))),?_⟩
 have lk:(keys s).length<=200:=by
  have:=G.sd
  unfold keys;rw[an6];omega
 refine⟨_,rfl,x,_,_,rfl,J.ax,1e3,x,A,s,rfl,J,G,λp1 H1 s1 hp1 z1=>⟨p1,_,rfl,.inl (SqL.of z1),λth hth=>?_⟩⟩;have s2:=aB.upd (o:=.lst ((keys s).map V.int)) hth;intro d hd;have s3:=aB.upd (o:=.dK []) hd;have S3:=(s1.trans s2).trans s3;have td:th≠d:=aq ag hd;have anO:H th=none:=aB.none s1 hth;have hd0:H d=none:=aB.none (s1.trans s2) hd;have g0:=aoA zj (show(5:Int)≠0 by decide);have g5:=aor zj (show(0:Int)<5 by decide);refine⟨_,rfl,zj,5,rfl,rfl,(by show(0:Int)<5;decide),?_⟩;refine⟨λn σ Hx=>∃(a:Int) (v5:Option V) (ts ms:List Int) (g:Int->Int) (kvs:List (Key×V)),σ=[some (.ref x),some (.int zj),some (.ref th),some (.ref d),some (.int a),v5]/\aB H Hx/\Hx th=some (.lst (ts.map V.int))/\Hx d=some (.dK kvs)/\Dg kvs ms g/\Pl s ts ms g a/\ts.length=n,⟨_,_,none,keys s,[],(λ_=>0),[],rfl,S3,by rw[af td];exact ag,ag,⟨rfl,λt m=>nomatch m⟩,⟨by rw[aoT],g0,by show zj%5<=5+10*(0:Int);omega,(λt m=>nomatch m),(λt m=>nomatch m)⟩,rfl⟩,?_⟩;rintro n σ Hx ⟨a,v5,ts,ms,g,kvs,rfl,sx,ht,hdx,dg,pl,ln⟩;have an3:ts.length+ms.length=(keys s).length:=by rw[<-aof];exact pl.pm.length_eq
 refine⟨_,rfl,_,.inl ⟨_,SqL.of ht,rfl⟩,?_⟩;by_cases hn:ts=[]
 ·subst hn
  refine f9 rfl ⟨_,rfl,_,rfl,by show 2<=sizeLine;decide,λr hr'=>?_⟩;have t1:=aB.upd (o:=.tup [.ref d,.int a]) hr';exact k r d kvs ms g a _ (sx.trans t1) ag (t1 _ _ hdx) dg pl
 have lp:0<ts.length:=List.length_pos_iff.mpr hn;refine iY (by rw[Bool.not_eq_true',List.isEmpty_eq_false_iff];exact λz=>hn (List.map_eq_nil_iff.mp z)) ?_;refine⟨λσ' H'=>∃ m',m'<n/\∃(a:Int) (v5:Option V) (ts ms:List Int) (g:Int->Int) (kvs:List (Key×V)),σ'=[some (.ref x),some (.int zj),some (.ref th),some (.ref d),some (.int a),v5]/\aB H H'/\H' th=some (.lst (ts.map V.int))/\H' d=some (.dK kvs)/\Dg kvs ms g/\Pl s ts ms g a/\ts.length=m',λ_ _ h=>h,?_⟩;have lm:(ts.map V.int).length=ts.length:=an6 ..;refine⟨_,rfl,.inl ⟨rfl,_,SqL.of ht⟩,_,rfl,_,rfl,th,_,rfl,.inl (SqL.of ht),3,_,rfl,rfl,zj,_,rfl,by omega,by omega,λr r0 r1=>⟨_,rfl,th,_,rfl,.inl (SqL.of ht),r,_,rfl,rfl,by show(0:Int)<((ts.map V.int).length:Int);omega,?_⟩⟩;have x0:=aoA r (show((ts.map V.int).length:Int)≠0 by omega);have x1:=aor r (show(0:Int)<((ts.map V.int).length:Int) by omega);obtain⟨j,ej⟩:∃ j:Nat,r%((ts.map V.int).length:Int)=j:=⟨(r%((ts.map V.int).length:Int)).toNat,by omega⟩;have jl:j<ts.length:=by omega
 obtain⟨t,htj⟩:∃ t,ts[j]?=some t:=⟨_,an4 jl⟩;have mt:=an9 htj;have mk:=pl.key mt;obtain⟨wd,mw⟩:=mem_keys.mp mk;obtain⟨t0,t1⟩:=G.lt t wd mw;refine⟨th,_,_,j,.int t,rfl,rfl,ht,by rw[ej];omega,by rw[ej];omega,by rw[ej,lm];exact anN jl,by rw[aog,htj];rfl,?_⟩;have ee:(ts.map V.int).eraseIdx j=(ts.eraseIdx j).map V.int:=LM;rw[ee];have J1:=J.same sx;have nth:∀ {b:Addr} {u:HO},H b=some u->b≠th:=λq=>aq q anO;have sy:aB H (upd Hx th (.lst ((ts.eraseIdx j).map V.int))):=λb u q=>by rw[af (nth q)];exact sx b u q
 have hdy:(upd Hx th (.lst ((ts.eraseIdx j).map V.int))) d=some (.dK kvs):=by rw[af (aol td)];exact hdx
 have hty:(upd Hx th (.lst ((ts.eraseIdx j).map V.int))) th=some (.lst ((ts.eraseIdx j).map V.int)):=ag;generalize upd Hx th (.lst ((ts.eraseIdx j).map V.int))=Hy at sy hdy hty ⊢;have no:=pl.out G mt;have lkv:=dg.k.len;refine⟨_,rfl,_,rfl,_,rfl,d,_,rfl,G9.k (k:=Sum.inl t) hdy (by rw[lkv];exact ur 1e1),?_⟩;have sz:aB H (upd Hy d (.dK (putK kvs (Sum.inl t) (.int a)))):=λb u q=>by rw[af (aq q hd0)];exact sy b u q
 have htz:(upd Hy d (.dK (putK kvs (Sum.inl t) (.int a)))) th=some (.lst ((ts.eraseIdx j).map V.int)):=by rw[af td];exact hty
 have hdz:(upd Hy d (.dK (putK kvs (Sum.inl t) (.int a)))) d=some (.dK (putK kvs (Sum.inl t) (.int a))):=ag;generalize upd Hy d (.dK (putK kvs (Sum.inl t) (.int a)))=Hz at sz htz hdz ⊢;have Jz:=J.same sz;have R:=(Jz.afl t wd mw).2;refine⟨_,rfl,a,1,rfl,rfl,_,rfl,x,_,_,rfl,Jz.ax,1e3,_,rfl,x,A,s,t,rfl,Jz,G,Sm.of 1e1 1e1,(λ_ p H3 sp hp zp=>?_),(λn=>absurd mk n)⟩;refine⟨p,_,rfl,.inl (SqL.of zp),_,_,rfl,rfl,by show 4<=sizeLine;decide,λl4 hl4=>?_⟩;have s4:=aB.upd (o:=.lst [V.int 0,V.int 0,V.int 1,V.int 3]) hl4;refine⟨_,rfl,_,rfl,70,t,rfl,rfl,zj,_,rfl,by omega,by omega,λrm m0 m1=>⟨rm,4,rfl,rfl,(by show(0:Int)<4;decide),?_⟩⟩;have q0:=aoA rm (show(4:Int)≠0 by decide);have q4:=aor rm (show(0:Int)<4 by decide);obtain⟨e,he,e0,e3⟩:∃ e:Int,atI [V.int 0,V.int 0,V.int 1,V.int 3] (rm%4)=some (.int e)/\0<=e/\e<=3:=by
  generalize rm%4=w at q0 q4;rcases(show w=0\/w=1\/w=2\/w=3 by omega) with z|z|z|z
  ·rw[z];exact⟨0,rfl,by decide,by decide⟩
  ·rw[z];exact⟨0,rfl,by decide,by decide⟩
  ·rw[z];exact⟨1,rfl,by decide,by decide⟩
  ·rw[z];exact⟨3,rfl,by decide,by decide⟩
 refine⟨l4,_,_,.int e,rfl,rfl,SqL.of ag,he,_,_,rfl,rfl,?_⟩;have S4:=sp.trans s4;have pn:=pl.next G htj e0 e3;refine⟨ts.length-1,by omega,_,_,ts.eraseIdx j,ms++[t],Kj g t a,_,rfl,sz.trans S4,S4 _ _ htz,S4 _ _ hdz,dg.new no,?_,by rw[List.length_eraseIdx,if_pos jl]⟩;rw[R.1,<-G.fld mw];exact pn
noncomputable def Lds(H:Hp)(kl:List (Key×V))(ts:List Int)(g f:Int->Int):Prop:=∀ t∈ts,∃ q,ie kl (Sum.inl t)=some (.ref q)/\H q=some (.lst [.int (g t),.int (f t),.int (f t+1)])
noncomputable def Spk(g f:Int->Int):Wd->Mw->Prop
 | .no,w=>w=.no
 | .num n,w=>w=.num n
 | .th t,w=>∃ a,w=.ad a/\(a=g t\/a=f t\/a=f t+1)
theorem at3{g f:Int->Int}{t m:Int}:∃ a:Int,atI [V.int (g t),V.int (f t),V.int (f t+1)] (m%3)=some (.int a)/\(a=g t\/a=f t\/a=f t+1):=by
 have q0:=aoA m (show(3:Int)≠0 by decide);have q3:=aor m (show(0:Int)<3 by decide);generalize m%3=w at q0 q3;rcases(show w=0\/w=1\/w=2 by omega) with z|z|z
 ·rw[z];exact⟨g t,rfl,.inl rfl⟩
 ·rw[z];exact⟨f t,rfl,.inr (.inl rfl)⟩
 ·rw[z];exact⟨f t+1,rfl,.inr (.inr rfl)⟩
theorem Tu{α:Type}{l:List α}{d w:α}{n i:Nat}(hl:l.length=n)(hi:l[i]?=some w):(l.take i++List.replicate (n-i) d).set i w=l.take (i+1)++List.replicate (n-(i+1)) d:=by
 have il:=(an5.mp hi).1;rw[show n-i=(n-(i+1))+1 by omega,aoJ,List.set_append_right _ _ (by rw[aoj];omega),aoj,show i-min i l.length=0 by omega,take_snoc hi,apq];rfl
noncomputable def Wj:Sp:=λvs H Q _=>∃(v:V) (wd:Wd) (dl:Addr) (kl:List (Key×V)) (ts:List Int) (g f:Int->Int) (m:Int),vs=[v,.ref dl,.int m]/\WV H v wd/\H dl=some (.dK kl)/\Lds H kl ts g f/\(∀ t,wd=.th t->t∈ts)/\∀ y mw H',aB H H'->MV H' y mw->Spk g f wd mw->Q y H'
noncomputable abbrev Kl:List Str:=["value","leads","m"]
theorem HM:av Kl ["value","leads","m"] (ar sP):=fsc
theorem HN(F:Fun K "_law_spoken" "_law_spoken" sP D.eX D.kB)(T:Txt K mg D):9e7 1 D.eX D.kB ["value","leads","m"] (Wj):=by
 refine F.oa HM F.b3 λcdv A' outer s' H vs Q E hr h=>?_;obtain⟨v,wd,dl,kl,ts,g,f,m,rfl,hv,hd,ld,hts,k⟩:=h;have hu:=i9 hr;refine⟨_,(PSs.nox (ak (bI (PW.pt (pw_or (aJ pP (pv 0) c8 (aS _)) (pw_or1 (aJ nY (bT cY (pv 0) au 1e7) cR (aS _)))))
   (ai (aG (pv 0)))
   aO)
  (ai (aG (fE (aa cR (aa (bT dC (ip hu (pv 1) (bT cY (pv 0) au 1e7) 1e7) (aF eF (pv 2) au) 1e7) aj))))))),?_⟩
 cases wd with
 | no =>
  have hv:v=.non:=hv;subst hv;exact⟨_,rfl,rfl,_,rfl,iY (decide_eq_true rfl) (u9 ⟨_,rfl,k _ .no H (aB.refl _) (.inl ⟨rfl,rfl⟩) rfl⟩)⟩
 | num n =>
  obtain⟨t,rfl,ht⟩:=hv;exact⟨_,rfl,rfl,_,rfl,f9 (decide_eq_false 1e0) ⟨_,rfl,t,_,0,.str "number",rfl,rfl,SqT.of ht,rfl,rfl,_,rfl,iY 1e3 ⟨_,rfl,k _ (.num n) H (aB.refl _) (.inr ⟨1e0,t,rfl,ht⟩) rfl⟩⟩⟩
 | th t =>
  obtain⟨q,rfl,hq⟩:=hv;obtain⟨q2,hv2,hq2⟩:=ld t (hts t rfl);obtain⟨a,ha,ea⟩:=at3 (g:=g) (f:=f) (t:=t) (m:=m);refine⟨_,rfl,rfl,_,rfl,f9 (decide_eq_false 1e0) ⟨_,rfl,q,_,0,.str "thing",rfl,rfl,SqT.of hq,rfl,rfl,_,rfl,f9 1e3 ?_⟩⟩;exact⟨_,rfl,_,rfl,q,_,1,.int t,rfl,rfl,SqT.of hq,rfl,dl,.ref q2,rfl,.inl ⟨kl,Sum.inl t,.inl hd,rfl,hv2.symm⟩,_,rfl,m,3,rfl,rfl,(by show(0:Int)<3;decide),q2,_,_,.int a,rfl,rfl,SqL.of hq2,ha,by show 2<=sizeLine;decide,λr hr'=>k _ (.ad a) _ (aB.upd hr') (.inr ⟨1e0,r,rfl,ag⟩) ⟨a,rfl,ea⟩⟩
noncomputable def Tv(D:Ad):Sp:=λvs H Q _=>∃(l:Addr) (ys:List V) (ws:List Mw),vs=[.ref l]/\H l=some (.lst ys)/\MR H ys ws/\ws.length<=10000/\∀ m mx c H',aB H H'->H c=none->Mm D H' m mx c ys ws->Q (.ref m) H'
noncomputable abbrev Km:List Str:=["model","memory","a"]
theorem qO:av Km ["model"] (ar sQ):=fsc
theorem HP(F:Fun K "_law_memory" "_law_memory" sQ D.eY D.kC)(T:Txt K mg D)
  (jv:9e7 1 D.cW D.gQ ["self","size"] (QJ D))
  (uW:9e7 4 D.gX D.mI ["self","a","word"] (Tp D)):9e7 5 D.eY D.kC ["model"] (Tv D):=by
 refine F.oa qO F.b1 λcdv A' outer s' H vs Q E hr h=>?_;obtain⟨l,ys,ws,rfl,hl,ry,z,k⟩:=h;refine⟨_,(PSs.nox (ak (aN (i:=1) qO.nd rfl 1e4 (SJ T.Fg jv.g (hr.mono 2e1) rfl T.Ul jv.b .nil V4 (aa (cz a9 rfl T.kU PyProof.Rows.Boot.«len» (aa (pv 0) aj)) aj)))
  (ak (fP aom rfl (lj rfl T.pK (aa (cz a9 rfl T.kU PyProof.Rows.Boot.«len» (aa (pv 0) aj)) aj)) (aX (i:=2) qO.nd rfl 1e4)
   (ai (aI (uW.m hr (pv 1) T.bZ T.JJ aY (aa (pv 2) (aa (bT dC (pv 0) (pv 2) 1e7) aj))))))
  (ai (aG (pv 1)))))),?_⟩
 have el:=ry.1;refine⟨_,rfl,l,_,rfl,.inl (SqL.of hl),?_⟩;intro m mx hm hmx nd;refine⟨m,mx,ys.length,rfl,ag,by omega,by omega,λc H1 B1 hc M1=>⟨rfl,?_⟩⟩;have s1:aB H H1:=λb u q=>B1 b u (aq q hm) (by rw[af (aq q hm),af (aq q hmx)];exact q);have hHc:H c=none:=by
  by_cases e:c=m
  ·rw[e];exact hm
  ·by_cases e2:c=mx
   ·rw[e2];exact hmx
   ·rw[af e,af e2]at hc;exact hc
 refine⟨_,rfl,l,_,rfl,.inl (SqL.of (s1 _ _ hl)),_,rfl,by omega,by omega,qQ (lo:=0) (n:=(ys.length:Int).toNat) (λi σ Hx=>∃ v2,σ=[some (.ref l),some (.ref m),v2]/\aB H Hx/\Mm D Hx m mx c (ys.take i++List.replicate (ys.length-i) .non) (ws.take i++List.replicate (ys.length-i) .no)) ⟨none,rfl,s1,M1⟩ ?_ ?_⟩
 ·rintro i σ Hx hi ⟨v2,rfl,sx,Mx⟩
  have il:i<ys.length:=by omega
  obtain⟨y,hy⟩:∃ y,ys[i]?=some y:=⟨_,an4 il⟩;obtain⟨w',hw'⟩:∃ w',ws[i]?=some w':=⟨ws[i]' 1e1,an4 _⟩;refine⟨_,rfl,m,_,_,rfl,Mx.i,1e3,_,rfl,_,rfl,_,rfl,l,ys,_,y,rfl,rfl,SqL.of (sx _ _ hl),by rw[Int.zero_add];exact yR hy,m,mx,c,_,_,_,y,w',rfl,Mx,Sm.of 1e1 1e1,(ry.2 i y w' hy hw').keep (b7.of sx),?_⟩;rw[if_pos ⟨by omega,by rw[aof,aoj,aoR];omega⟩];intro M2;refine⟨_,rfl,λb u q=>by rw[af (aq q hHc)];exact sx b u q,?_⟩;rw[show(0+(i:Int)).toNat=i by omega,Tu rfl hy]at M2 ⊢;rw[Tu 1e1 hw']at M2;exact M2
 ·rintro σ Hx ⟨v2,rfl,sx,Mx⟩
  rw[Int.toNat_natCast,apP,aoh (aoa _),aoh 1e1,List.replicate_zero,aoT,List.replicate_zero,aoT]at Mx;exact⟨_,rfl,k m mx c Hx sx hHc Mx⟩
noncomputable def Fw(ws:List Mw)(s:HS)(g f:Int->Int)(ts:List Int):Prop:=∀ t∈ts,ws[(f t).toNat]?=some (.mv (g t) (fld s t).length)/\ws[(f t+1).toNat]?=some (.mv (f t) (fld s t).length)
noncomputable def Hc(ws:List Mw)(s:HS)(g f:Int->Int)(t:Int)(k:Nat):Prop:=ws[(g t).toNat]?=some (.hd t (fld s t).length)/\∀(i:Nat) (w:Wd),i<k->(fld s t)[i]?=some w->∃ mw,ws[(g t).toNat+1+i]?=some mw/\Spk g f w mw
noncomputable def Fr3(sp:Int)(n:Nat)(f:Int->Int)(ts:List Int):Prop:=∀ t∈ts,sp<=f t/\f t+1<sp+2*(n:Int)
theorem Spk.lk{ws:List Mw}{s:HS}{g f:Int->Int}{w:Wd}{mw:Mw}(h:Spk g f w mw)(F:Fw ws s g f (keys s))(h0:∀ t∈keys s,0<=g t/\0<=f t/\f t<=100000/\g t<=100000/\ws[(g t).toNat]?=some (.hd t (fld s t).length))(ht:∀ t,w=.th t->t∈keys s):Lk ws (kvG (keys s) g) w mw:=by
 cases w with
 | no=>exact h
 | num n=>exact h
 | th t =>
  obtain⟨a,e,h⟩:=h;have mt:=ht t rfl;obtain⟨g0,f0,fb,gb,hh⟩:=h0 t mt;obtain⟨f1,f2⟩:=F t mt;have r0:Rv ws 0 (g t) (some (g t)):=.stop g0 hh (λb n z=>by cases z);have r1:Rv ws 1 (f t) (some (g t)):=.step f0 f1 r0;have r2:Rv ws 2 (f t+1) (some (g t)):=.step 1e1 f2 r1;have hv:=NS (g:=g) mt;rcases h with h|h|h
  ·exact⟨a,0,g t,e,Sm.of 1e1 1e1,by rw[h];exact r0,hv⟩
  ·exact⟨a,1,g t,e,Sm.of 1e1 1e1,by rw[h];exact r1,hv⟩
  ·exact⟨a,2,g t,e,Sm.of 1e1 1e1,by rw[h];exact r2,hv⟩
theorem N4{ws:List Mw}{i j:Nat}{w:Mw}(h:i≠j):(ws.set i w)[j]?=ws[j]?:=ao8 h
theorem Fw.keep{ws:List Mw}{s:HS}{g f:Int->Int}{ts:List Int}(F:Fw ws s g f ts){p:Nat}{w:Mw}(h:∀ t∈ts,p≠(f t).toNat/\p≠(f t+1).toNat):Fw (ws.set p w) s g f ts:=λt m=>by
 obtain⟨h1,h2⟩:=h t m;rw[N4 h1,N4 h2];exact F t m
theorem Hc.keep{ws:List Mw}{s:HS}{g f:Int->Int}{t:Int}{k:Nat}(h:Hc ws s g f t k){p:Nat}{w:Mw}(hp:p≠(g t).toNat/\∀ i,i<k->p≠(g t).toNat+1+i):Hc (ws.set p w) s g f t k :=
 ⟨by rw[N4 hp.1];exact h.1,λi w' hi hw'=>by rw[N4 (hp.2 i hi)];exact h.2 i w' hi hw'⟩
theorem Gm.of{ws:List Mw}(h1:∀(j:Nat) (t n:Int),ws[j]?=some (.hd t n)->0<=n/\n<=1000)(h2:∀(j:Nat) (a n:Int),ws[j]?=some (.mv a n)->Sm a):Gm ws :=
 ⟨λt n m=>by obtain⟨j,e⟩:=apn.mp m;exact h1 j t n e,λt n m=>by obtain⟨j,e⟩:=apn.mp m;exact h2 j t n e⟩
theorem Gm.set{ws:List Mw}(g:Gm ws){i:Nat}{w:Mw}(h1:∀ t n,w=.hd t n->0<=n/\n<=1000)(h2:∀ b n,w=.mv b n->Sm b):Gm (ws.set i w):=by
 refine Gm.of (λj t n e=>?_) (λj b n e=>?_)
 ·rcases List.mem_or_eq_of_mem_set (an9 e) with m|m
  ·exact g.hd t n m
  ·exact h1 t n m.symm
 ·rcases List.mem_or_eq_of_mem_set (an9 e) with m|m
  ·exact g.mv b n m
  ·exact h2 b n m.symm
noncomputable def Ldm(ml:Addr)(H:Hp)(kl:List (Key×V))(ts:List Int)(g f:Int->Int):Prop:=∀ t∈ts,∃ q,q≠ml/\ie kl (Sum.inl t)=some (.ref q)/\H q=some (.lst [.int (g t),.int (f t),.int (f t+1)])
theorem Ldm.lds{ml:Addr}{H:Hp}{kl:List (Key×V)}{ts:List Int}{g f:Int->Int}(h:Ldm ml H kl ts g f):Lds H kl ts g f:=λt m=>by obtain⟨q,_,a,b⟩:=h t m;exact⟨q,a,b⟩
theorem Ldm.keep{ml:Addr}{H H':Hp}{kl:List (Key×V)}{ts:List Int}{g f:Int->Int}(h:Ldm ml H kl ts g f)(k:∀ q us,q≠ml->H q=some (.lst us)->H' q=some (.lst us)):Ldm ml H' kl ts g f:=λt m=>by obtain⟨q,n,a,b⟩:=h t m;exact⟨q,n,a,k q _ n b⟩
noncomputable def Bm(ml dl:Addr)(H H':Hp):Prop:=∀ b u,b≠ml->b≠dl->H b=some u->H' b=some u
theorem Bm.same{ml dl:Addr}{H H1 H2:Hp}(a:Bm ml dl H H1)(s:aB H1 H2):Bm ml dl H H2:=λb u h1 h2 q=>s _ _ (a b u h1 h2 q)
theorem Bm.um{ml dl:Addr}{H H1:Hp}{o:HO}(a:Bm ml dl H H1):Bm ml dl H (upd H1 ml o):=λb u h1 h2 q=>by rw[af h1];exact a b u h1 h2 q
theorem Bm.ud{ml dl:Addr}{H H1:Hp}{o:HO}(a:Bm ml dl H H1):Bm ml dl H (upd H1 dl o):=λb u h1 h2 q=>by rw[af h2];exact a b u h1 h2 q
theorem Spk.plain{g f:Int->Int}{w:Wd}{mw:Mw}(h:Spk g f w mw):(∀ t n,mw≠.hd t n)/\∀ b n,mw≠.mv b n:=by
 cases w with
 | no=>have h:mw=.no:=h;rw[h];exact⟨(λ_ _ z=>by cases z),(λ_ _ z=>by cases z)⟩
 | num x=>have h:mw=.num x:=h;rw[h];exact⟨(λ_ _ z=>by cases z),(λ_ _ z=>by cases z)⟩
 | th t=>obtain⟨a,h,_⟩:=h;rw[h];exact⟨(λ_ _ z=>by cases z),(λ_ _ z=>by cases z)⟩
theorem Z1{Hd:Hp}{L:Addr}{us:List V}{u:V}{m0:Mw}{P:Nat->Mw->Prop}(z:Hd L=some (.lst us))(hq:∀(j:Nat) (y:V),us[j]?=some y->∃ mw,MV Hd y mw/\P j mw)(h:MV Hd u m0)(h2:P us.length m0):∀(j:Nat) (y:V),(us++[u])[j]?=some y->∃ mw,MV (upd Hd L (.lst (us++[u]))) y mw/\P j mw:=λj y hj=>by
 have tu:b7 Hd (upd Hd L (.lst (us++[u]))):=b7.set z (by intro z y;cases y);rcases aoZ j us.length with c|c
 ·rw[aoO c]at hj
  obtain⟨mw,e1,e2⟩:=hq j y hj;exact⟨mw,e1.keep tu,e2⟩
 ·have ej:j=us.length:=by have:=(an5.mp hj).1;rw[aof,aoH]at this;omega
  rw[ej,aoI (aoa _),apP]at hj;cases hj;rw[ej];exact⟨m0,h.keep tu,h2⟩
structure Md1(H:Hp)(ml dl:Addr)(s:HS)(g f:Int->Int)(a:Int)(n:Nat)(ts:List Int)(mys:List V)(mws:List Mw)(kl:List (Key×V)):Prop where
 l:H ml=some (.lst mys)
 r:MR H mys mws
 n:mws.length=n
 gm:Gm mws
 fw:Fw mws s g f ts
 fr:Fr3 a ts.length f ts
 d:H dl=some (.dK kl)
 ky:Kys kl ts
 ld:Ldm ml H kl ts g f
section
variable{H H':Hp}{ml dl:Addr}{s:HS}{g f:Int->Int}{a:Int}{n:Nat}{ts:List Int}{mys:List V}{mws:List Mw}{kl:List (Key×V)}
theorem Md1.same(h:Md1 H ml dl s g f a n ts mys mws kl)(e:aB H H'):Md1 H' ml dl s g f a n ts mys mws kl:=⟨e _ _ h.l,h.r.keep (b7.of e),h.n,h.gm,h.fw,h.fr,e _ _ h.d,h.ky,h.ld.keep λq us _ y=>e _ _ y⟩
theorem Md1.set(h:Md1 H ml dl s g f a n ts mys mws kl){p:Nat}{v:V}{w:Mw}(mv:MV H v w)(g1:∀ t n,w=.hd t n->0<=n/\n<=1000)(g2:∀ b n,w=.mv b n->Sm b)(hp:∀ t∈ts,p≠(f t).toNat/\p≠(f t+1).toNat):Md1 (upd H ml (.lst (mys.set p v))) ml dl s g f a n ts (mys.set p v) (mws.set p w) kl:=by
 have tu:b7 H (upd H ml (.lst (mys.set p v))):=b7.set h.l (by intro z y;cases y);exact⟨ag,(h.r.set mv).keep tu,by rw[aoD];exact h.n,h.gm.set g1 g2,h.fw.keep hp,h.fr,by rw[af (az h.d h.l (by intro y;cases y))];exact h.d,h.ky,h.ld.keep λq us n y=>by rw[af n];exact y⟩
theorem Md1.next(h:Md1 H ml dl s g f a n ts mys mws kl){t b:Int}{q:Addr}(nt:t∉ts)(hq:H q=some (.lst [.int (g t),.int b,.int (b+1)]))(nq:q≠ml)(eb:b=a+2*(ts.length:Int))(w1:mws[b.toNat]?=some (.mv (g t) (fld s t).length))(w2:mws[(b+1).toNat]?=some (.mv b (fld s t).length))(nm:ml≠dl) :
  Md1 (upd H dl (.dK (putK kl (Sum.inl t) (.ref q)))) ml dl s g (K38.Kj f t b) a n (ts++[t]) mys mws (putK kl (Sum.inl t) (.ref q)):=by
 have tu:b7 H (upd H dl (.dK (putK kl (Sum.inl t) (.ref q)))):=b7.set h.d (by intro z y;cases y);have gt:K38.Kj f t b t=b:=by unfold K38.Kj;rw[if_pos rfl]
 have gu:∀ {u:Int},u∈ts->K38.Kj f t b u=f u:=λ{u} m=>by unfold K38.Kj;rw[if_neg (λz=>nt (by rw[<-z];exact m))]
 have sp:∀ {u:Int},u∈ts++[t]->u∈ts\/u=t:=λm=>(aot.mp m).imp id an7.mp;have kd:∀ {c:Addr} {us:List V},H c=some (.lst us)->(upd H dl (.dK (putK kl (Sum.inl t) (.ref q)))) c=some (.lst us):=λy=>by rw[af (az y h.d 1e0)];exact y
 refine⟨kd h.l,h.r.keep tu,h.n,h.gm,λu m=>?_,λu m=>?_,ag,h.ky.snoc nt,λu m=>?_⟩
 ·rcases sp m with e|e
  ·rw[gu e];exact h.fw u e
  ·rw[e,gt];exact⟨w1,w2⟩
 ·rw[aof,aoH]
  rcases sp m with e|e
  ·rw[gu e];have:=h.fr u e;omega
  ·rw[e,gt];omega
 ·rw[Qd]
  rcases sp m with e|e
  ·obtain⟨q',n',y1,y2⟩:=h.ld u e
   rw[if_neg (λz=>nt (by rw[<-Sum.inl.inj z];exact e)),gu e];exact⟨q',n',y1,kd y2⟩
  ·rw[e,if_pos rfl,gt]
   exact⟨q,nq,rfl,kd hq⟩
end
noncomputable def QS(D:Ad):Sp:=λvs H Q _=>∃ x A s,∃ zj:Int,vs=[.ref x,.int zj]/\IH D H x A s/\Gd s/\s.nxt<=90/\∀(r ml hl nl bl:Addr) (mys ys zs ps:List V) (ws:List Mw) (g:Int->Int) (H':Hp),aB H H'->H hl=none->H' r=some (.tup [.ref ml,.ref hl,.ref nl,.ref bl])->H' ml=some (.lst mys)->MR H' mys ws->ws.length<=10000->Gm ws->Pic ws s g->H' hl=some (.lst ys)->ys.length=8->(∀(i:Nat) (w:Wd) (y:V),s.aW[i]?=some w->ys[i]?=some y->∃ mw,MV H' y mw/\Lk ws (kvG (keys s) g) w mw)->H' nl=some (.lst zs)->zs.length=8->(∀(i:Nat) (n:Option Int) (y:V),s.names[i]?=some n->zs[i]?=some y->∃ mw,MV H' y mw/\Lk ws (kvG (keys s) g) (nmW n) mw)->H' bl=some (.lst ps)->Pr H' ps (keys s) g->Q (.ref r) H'
noncomputable abbrev qg:List Str:=["heap","seed","places","spare","model","leads","k","t","many","values","hands","names"]
theorem cg:av qg ["heap","seed"] (ar ka):=fsc
theorem Kn(F:Fun K "_law_model" "_law_model" ka D.fX D.mK)(T:Txt K mg D)
  (tj:9e7 6 D.eW D.kA ["heap","seed"] (LN D))
  (bg:9e7 1 D.bC D.c6 ["self"] (vi D))
  (aE:9e7 4 D.aP D.bh ["self","t"] (zg D))
  (ow:9e7 1 D.eX D.kB ["value","leads","m"] (Wj))
  (bJ:9e7 1 D.c7 D.gY ["cell","k"] (yo))
  (fH:9e7 2 D.cp D.fF ["self"] (Fi D))
  (fI:9e7 2 D.cq D.fG ["self"] (Fj D)):9e7 7 D.fX D.mK ["heap","seed"] (QS D):=by
 refine F.oa cg F.b2 λcdv A' outer s' H vs Q E hr h=>?_;obtain⟨x,A,s,zj,rfl,J,Gs,nx,k⟩:=h;have hu:=i9 hr;refine⟨_,(PSs.nox (ak (mS (tj.c hr T.JL T.sT aY (aa (pv 0) 1e9)) (vR rfl (dG (aX (i:=2) cg.nd rfl (Or.inr rfl)) (dG (aX (i:=3) cg.nd rfl 1e4) qZ))))
  (ak (aN (i:=4) cg.nd rfl 1e4 (aF JF (pQ (aa c8 aj)) (aF bO (aF bO (pv 3) (aF j9 au (cz Lq rfl T.kU PyProof.Rows.Boot.«len» (aa (pv 2) aj)))) au)))
  (ak (aN (i:=5) cg.nd rfl (Or.inr rfl) kg)
  (ak (fP aom rfl (vQ rfl T.hV (aa (bg.m0 hr (pv 0) T.ae T.fN aY) aj)) (vR rfl (dG (aX (i:=6) cg.nd rfl 1e4) (dG (aX (i:=7) cg.nd rfl 1e4) qZ)))
   (ak (aN (i:=8) cg.nd rfl 1e4 (cz a9 rfl T.kU PyProof.Rows.Boot.«len» (aa (aE.m hr (pv 0) T.ae T.cK aY (aa (pv 7) aj)) aj)))
   (ak (mS (fE (aa cR (aa (ip hu (pv 2) (pv 7) 1e7) (aa (pv 8) aj)))) (pO (pv 4) (aF bO (pv 3) (aF j9 au (pv 6))) set_list))
   (ak (mS (fE (aa cR (aa (aF bO (pv 3) (aF j9 au (pv 6))) (aa (pv 8) aj)))) (pO (pv 4) (aF bO (aF bO (pv 3) (aF j9 au (pv 6))) au) set_list))
   (ai (pG hu (pv 5) (pv 7) (pQ (aa (ip hu (pv 2) (pv 7) 1e7) (aa (aF bO (pv 3) (aF j9 au (pv 6))) (aa (aF bO (aF bO (pv 3) (aF j9 au (pv 6))) au) aj)))) rfl))))))
  (ak (fP aom rfl (gS (bg.m0 hr (pv 0) T.ae T.fN aY)) (aX (i:=7) cg.nd rfl 1e4)
   (ak (aN (i:=9) cg.nd rfl 1e4 (aE.m hr (pv 0) T.ae T.cK aY (aa (pv 7) aj)))
   (ak (mS (fE (aa cR (aa (pv 7) (aa (cz a9 rfl T.kU PyProof.Rows.Boot.«len» (aa (pv 9) aj)) aj)))) (pO (pv 4) (ip hu (pv 2) (pv 7) 1e7) set_list))
   (ai (fP aom rfl (lj rfl T.pK (aa (cz a9 rfl T.kU PyProof.Rows.Boot.«len» (aa (pv 9) aj)) aj)) (aX (i:=6) cg.nd rfl 1e4)
    (ai (mS (ow.c hr T.yX T.ot aY (aa (bT dC (pv 9) (pv 6) 1e7) (aa (pv 5) (aa (bJ.c hr T.i6 T.fZ aY (aa (pv 1) (aa (aF bO (aF j9 au (pv 7)) (pv 6)) aj))) aj)))) (pO (pv 4) (aF bO (aF bO (ip hu (pv 2) (pv 7) 1e7) au) (pv 6)) set_list))))))))
  (ak (NM (cl:=[("seed",s'.heap.objs.size+1),("leads",s'.heap.objs.size+3)]) (x := "value") (idx:=[5,1]) (NC:=["value","leads","seed"]) (i:=10) cg.nd rfl rfl ?co3 rfl (gS (fH.m0 hr (pv 0) T.ae T.qk aY)) (λC fp s₀ H₀=>(ow.c hr T.yX T.ot II (aa (pv 0) (aa (pv 1) (aa (bJ.c hr T.i6 T.fZ II (aa (pv 2) (aa au aj))) aj))))))
  (ak (NM (cl:=[("seed",s'.heap.objs.size+1),("leads",s'.heap.objs.size+3)]) (x := "t") (idx:=[5,1]) (NC:=["t","leads","seed"]) (i:=11) cg.nd rfl rfl ?co2 rfl (gS (fI.m0 hr (pv 0) T.ae T.ql aY)) (λC fp s₀ H₀=>(rC (aJ pP (pv 0) c8 (aS _)) c8 (fE (aa cR (aa (bT (r:=aac K) dC (ip hu (pv 1) (pv 0) 1e7) (aF eF (bJ.c hr T.i6 T.fZ II (aa (pv 2) (aa (aF bO au (pv 0)) aj))) au) 1e7) aj))))))
  (ai (aG (fE (aa (pv 4) (aa (pv 10) (aa (pv 11) (aa (tK (cl:=[("places",s'.heap.objs.size+2)]) (x := "t") (idx:=[2]) (NC:=["t","places"]) ?co1 rfl (gS (bg.m0 hr (pv 0) T.ae T.fN aY)) (λC fp s₀ H₀=>(fE (aa (pv 0) (aa (ip hu (pv 1) (pv 0) 1e7) aj))))) aj))))))))))))))),?_⟩
 case co1 =>
  exact lA (sc:=ar ka) (N:=qg) (ns:=["places"]) rfl rfl rfl (by decide +kernel) rfl rfl (by
   intro q hq;rw[an7.mp hq];rfl)
 case co2 =>
  exact lA (sc:=ar ka) (N:=qg) (ns:=["seed","leads"]) rfl rfl rfl (by decide +kernel) rfl rfl (by
   intro q hq;rcases aop.mp hq with rfl|hq
   ·rfl
   rw[an7.mp hq];rfl)
 case co3 =>
  exact lA (sc:=ar ka) (N:=qg) (ns:=["seed","leads"]) rfl rfl rfl (by decide +kernel) rfl rfl (by
   intro q hq;rcases aop.mp hq with rfl|hq
   ·rfl
   rw[an7.mp hq];rfl)
 have G:=Gs.g;have lk:(keys s).length<=90:=by
  have:=G.sd
  unfold keys;rw[an6];omega
 refine⟨_,rfl,_,rfl,x,A,s,zj,rfl,J,G,by omega,λr0 d kvs ms g a H1 s1 hr0 hd dg pl=>?_⟩;refine⟨r0,_,rfl,SqT.of hr0,rfl,_,_,rfl,_,_,rfl,rfl,?_⟩;have pm:ms.Perm (keys s):=pl.pm;have lms:ms.length=(keys s).length:=pm.length_eq;have lkv:=dg.k.len;have a0:=pl.a0;have a1:=pl.a1;obtain⟨n,en⟩:∃ n:Nat,a+2*(kvs.length:Int)+3=n:=⟨(a+2*(kvs.length:Int)+3).toNat,by omega⟩;refine⟨by show 1<=sizeLine;decide,λp1 hp1=>⟨_,rfl,_,rfl,d,kvs,rfl,(aB.upd hp1) _ _ hd,2,_,rfl,rfl,.inl ⟨by decide,by decide⟩,a,_,rfl,rfl,_,3,rfl,rfl,p1,a+2*(kvs.length:Int)+3,_,rfl,rfl,ag,by omega,by omega,by show 1*(a+2*(kvs.length:Int)+3).toNat<=sizeLine;exact aou (show _<=10000 by omega) 2e1,λml hml=>?_⟩⟩;rw[show(a+2*(kvs.length:Int)+3).toNat=n by omega,QH];have s2:=aB.upd (o:=.lst [V.non]) hp1;have s3:=aB.upd (o:=.lst (List.replicate n V.non)) hml;intro dl hdl;have s4:=aB.upd (o:=.dK []) hdl;have S4:=(s1.trans s2).trans (s3.trans s4);have ajs:H ml=none:=aB.none (s1.trans s2) hml;have ajt:H dl=none:=aB.none ((s1.trans s2).trans s3) hdl;have zml:=s4 _ _ (ag (H:=upd H1 p1 (.lst [V.non])) (a:=ml) (o:=.lst (List.replicate n V.non)));have zdl:(upd (upd (upd H1 p1 (.lst [V.non])) ml (.lst (List.replicate n V.non))) dl (.dK [])) dl=some (.dK []):=ag;have zd:=s4 _ _ (s3 _ _ (s2 _ _ hd));have ndm:d≠ml:=aq (s2 _ _ hd) hml;have ndl:d≠dl:=aq (s3 _ _ (s2 _ _ hd)) hdl;have nml:ml≠dl:=az zml zdl (by intro y;cases y);generalize upd (upd (upd H1 p1 (.lst [V.non])) ml (.lst (List.replicate n V.non))) dl (.dK [])=H4 at S4 zml zdl zd ⊢;have J4:=J.same S4;refine⟨_,rfl,x,_,_,rfl,J4.ax,1e3,x,A,s,rfl,J4,G,λp3 H5 s5 hp3 z5=>?_⟩;have np3:p3≠ml:=aol (aq zml hp3);have anP:p3≠dl:=aol (aq zdl hp3);have S5:=S4.trans s5;have toS:∀ {Hx:Hp},Bm ml dl H5 Hx->aB H Hx:=λb c u q=>b c u (aq q ajs) (aq q ajt) (S5 _ _ q);refine⟨p3,rfl,⟨_,SqL.of z5⟩,rD (K:=K) (a:=p3) (xs:=(keys s).map V.int) (λi σ Hx=>∃(f:Int->Int) (mys:List V) (mws:List Mw) (kl:List (Key×V)) (v6 v7 v8:Option V),σ=[some (.ref x),some (.int zj),some (.ref d),some (.int a),some (.ref ml),some (.ref dl),v6,v7,v8,none,none,none]/\Bm ml dl H5 Hx/\Md1 Hx ml dl s g f a n ((keys s).take i) mys mws kl)
  ⟨λ_=>0,_,List.replicate n .no,[],none,none,none,rfl,(λb u _ _ q=>q),⟨s5 _ _ zml,MR.rep,aoR,Gm.of (λj t m e=>by rw[apf]at e;split at e<;>cases e) (λj t m e=>by rw[apf]at e;split at e<;>cases e),(λt m=>nomatch m),(λt m=>nomatch m),s5 _ _ zdl,rfl,(λt m=>nomatch m)⟩⟩ (λi σ Hx _ ⟨_,_,_,_,_,_,_,_,b,_⟩=>SqL.of (b p3 _ np3 anP z5)) ?_ ?_⟩
 ·rintro i v σ Hx tp hi ⟨f,mys,mws,kl,v6,v7,v8,rfl,bx,mx⟩ htp
  rw[aog]at hi;obtain⟨t,ht,rfl⟩:=aoo.mp hi;have mk:=an9 ht;have mt:t∈ms:=pm.mem_iff.mpr mk;obtain⟨wd,mw⟩:=mem_keys.mp mk;obtain⟨t0,t1⟩:=G.lt t wd mw;have ef:=G.fld mw;have il:i<(keys s).length:=(an5.mp ht).1;have ltk:((keys s).take i).length=i:=by rw[aoj];omega
  have e1:=aB.upd (o:=.tup [.int (i:Int),.int t]) htp;have J1:=(J.same (toS bx)).same e1;refine⟨tp,_,rfl,SqT.of ag,rfl,_,_,rfl,_,_,rfl,rfl,?_⟩;refine⟨_,rfl,x,_,_,rfl,J1.ax,1e3,_,rfl,x,A,s,t,rfl,J1,G,Sm.of 1e1 1e1,(λ_ p H6 s6 hp6 z6=>?_),(λn=>absurd mk n)⟩;have R:=(J1.afl t wd mw).2;refine⟨p,_,rfl,.inl (SqL.of z6),?_⟩;show tS 8 (V.int (A.fx t).length) _ _ _;rw[show((A.fx t).length:Int)=((fld s t).length:Int) by rw[R.1,ef]];have S6:=e1.trans s6;have m6:=mx.same S6;have b6:=bx.same S6;have hd6:=b6 d _ ndm ndl (s5 _ _ zd);obtain⟨g0,g1⟩:=pl.bd t mt;refine⟨_,rfl,_,rfl,d,.int (g t),rfl,.inl ⟨kvs,Sum.inl t,.inl hd6,rfl,(dg.v t mt).symm⟩,_,rfl,by show 3<=sizeLine;decide,λq7 hq7=>?_⟩;have s7:=aB.upd (o:=.tup [V.str "moved",V.int (g t),V.int (fld s t).length]) hq7;have m7:=m6.same s7;have m8:=m7.set (p:=(a+2*(i:Int)).toNat) (v:=.ref q7) (w:=.mv (g t) (fld s t).length) (.inr ⟨1e0,q7,rfl,ag⟩) (λ_ _ z=>by cases z) (λb n z=>by cases z;exact Sm.of 1e1 1e1) (λu mu=>by have:=mx.fr u mu;rw[ltk]at this;omega);refine⟨_,rfl,_,rfl,_,rfl,2,_,rfl,rfl,.inl ⟨by decide,by decide⟩,a,_,rfl,rfl,ml,mys,a+2*(i:Int),(a+2*(i:Int)).toNat,rfl,rfl,m7.l,A5 1e1 (by rw[m7.r.1,m7.n];omega),?_⟩;have b8:=(b6.same s7).um (o:=.lst (mys.set (a+2*(i:Int)).toNat (.ref q7)));refine⟨_,rfl,_,rfl,2,_,rfl,rfl,.inl ⟨by decide,by decide⟩,a,_,rfl,rfl,_,rfl,by show 3<=sizeLine;decide,λq9 hq9=>?_⟩;have s9:=aB.upd (o:=.tup [V.str "moved",V.int (a+2*(i:Int)),V.int (fld s t).length]) hq9;have m9:=m8.same s9;have m10:=m9.set (p:=(a+2*(i:Int)+1).toNat) (v:=.ref q9) (w:=.mv (a+2*(i:Int)) (fld s t).length) (.inr ⟨1e0,q9,rfl,ag⟩) (λ_ _ z=>by cases z) (λb n z=>by cases z;exact Sm.of 1e1 1e1) (λu mu=>by have:=mx.fr u mu;rw[ltk]at this;omega);refine⟨_,rfl,_,rfl,_,rfl,2,_,rfl,rfl,.inl ⟨by decide,by decide⟩,a,_,rfl,rfl,_,1,rfl,rfl,ml,_,a+2*(i:Int)+1,(a+2*(i:Int)+1).toNat,rfl,rfl,m9.l,A5 1e1 (by rw[m9.r.1,m9.n];omega),?_⟩;have b10:=(b8.same s9).um (o:=.lst ((mys.set (a+2*(i:Int)).toNat (.ref q7)).set (a+2*(i:Int)+1).toNat (.ref q9)));have anQ:=b10 d _ ndm ndl (s5 _ _ zd);refine⟨_,rfl,_,rfl,d,.int (g t),rfl,.inl ⟨kvs,Sum.inl t,.inl anQ,rfl,(dg.v t mt).symm⟩,_,rfl,_,rfl,2,_,rfl,rfl,.inl ⟨by decide,by decide⟩,a,_,rfl,rfl,_,rfl,_,rfl,2,_,rfl,rfl,.inl ⟨by decide,by decide⟩,a,_,rfl,rfl,_,1,rfl,rfl,by show 3<=sizeLine;decide,λq11 hq11=>?_⟩;have s11:=aB.upd (o:=.lst [V.int (g t),V.int (a+2*(i:Int)),V.int (a+2*(i:Int)+1)]) hq11;have m11:=m10.same s11;have lkl:=m11.ky.len;refine⟨_,rfl,_,rfl,dl,_,rfl,G9.k (k:=Sum.inl t) m11.d (by rw[lkl];exact ur 1e1),?_⟩;have nt:t∉(keys s).take i:=λm=>by
   obtain⟨j,hj,ej⟩:=apr.mp m;rw[aoj]at hj;rw[apU]at ej;have hi:=(an5.mp ht)
   have:=ao7.mp (show(keys s).Pairwise (·< ·) from G.asc) j i 1e1 hi.1 1e1
   rw[ej,hi.2]at this;omega
  have nn:=m11.n;rw[aoD,aoD]at nn;have mf:=m11.next (t:=t) (b:=a+2*(i:Int)) nt ag (aol (aq m10.l hq11)) (by rw[ltk]) (by rw[ao8 1e1,aoW 1e1]) (by rw[aoW (by rw[aoD];omega)]) nml;rw[take_snoc ht];exact⟨_,_,_,_,_,_,_,rfl,(b10.same s11).ud,mf⟩
 ·rintro σ Hx ⟨f,mys,mws,kl,v6,v7,v8,rfl,bx,mx⟩
  rw[an6,aoh (aoa _)]at mx;have J1:=J.same (toS bx);refine⟨_,rfl,x,_,_,rfl,J1.ax,1e3,x,A,s,rfl,J1,G,λp6 H6 s6 hp6 z6=>?_⟩;have np6:p6≠ml:=aol (aq mx.l hp6);have anR:p6≠dl:=aol (aq mx.d hp6);have S6:=(toS bx).trans s6;have b6:=bx.same s6;have hd6:=b6 d _ ndm ndl (s5 _ _ zd);have abP:∀ {Hx:Hp},Bm ml dl H6 Hx->aB H Hx:=λb c u q=>b c u (aq q ajs) (aq q ajt) (S6 _ _ q);have frk:∀ u∈keys s,a<=f u:=λu mu=>(mx.fr u mu).1;refine⟨p6,rfl,⟨_,SqL.of z6⟩,kR (K:=K) (a:=p6) (xs:=(keys s).map V.int) (λi σ Hx=>∃(mys:List V) (mws:List Mw) (v6 v7 v9:Option V),σ=[some (.ref x),some (.int zj),some (.ref d),some (.int a),some (.ref ml),some (.ref dl),v6,v7,v8,v9,none,none]/\Bm ml dl H6 Hx/\Md1 Hx ml dl s g f a n (keys s) mys mws kl/\∀ u∈(keys s).take i,Hc mws s g f u (fld s u).length)
   ⟨_,_,_,_,_,rfl,(λb u _ _ q=>q),mx.same s6,(λu m=>nomatch m)⟩ (λi σ Hx _ ⟨_,_,_,_,_,_,b,_⟩=>SqL.of (b p6 _ np6 anR z6)) ?_ ?_⟩
  ·rintro i v σ Hx hi ⟨mys,mws,v6,v7,v9,rfl,bx,mx,hc⟩
   rw[aog]at hi;obtain⟨t,ht,rfl⟩:=aoo.mp hi;have mk:=an9 ht;have mt:t∈ms:=pm.mem_iff.mpr mk;obtain⟨wd,mw⟩:=mem_keys.mp mk;obtain⟨t0,t1⟩:=G.lt t wd mw;have ef:=G.fld mw;have f6:(fld s t).length<=6:=(by rw[ef];exact G.f6 t wd mw);obtain⟨g0,g1⟩:=pl.bd t mt;have il:i<(keys s).length:=(an5.mp ht).1;have nt:∀ u∈(keys s).take i,u≠t:=λu m e=>by
    obtain⟨j,hj,ej⟩:=apr.mp m;rw[aoj]at hj;rw[apU]at ej;have hi:=(an5.mp ht)
    have:=ao7.mp (show(keys s).Pairwise (·< ·) from G.asc) j i 1e1 hi.1 1e1
    rw[ej,hi.2]at this;omega
   have away:∀ u∈(keys s).take i,∀ p:Nat,g t<=p->(p:Int)<=g t+((fld s t).length:Int)->p≠(g u).toNat/\∀ j,j<(fld s u).length->p≠(g u).toNat+1+j:=λu m p h1 h2=>by
    have mu:u∈ms:=pm.mem_iff.mpr (ao9 m);have u0:=(pl.bd u mu).1;have dj:=pl.dj t mt u mu (aol (nt u m));exact⟨by omega,λj hj=>by omega⟩
   have aju:∀ p:Nat,(p:Int)<=g t+((fld s t).length:Int)->∀ u∈keys s,p≠(f u).toNat/\p≠(f u+1).toNat:=λp hp u mu=>by
    have:=frk u mu
    omega
   have J1:=J.same (abP bx);refine⟨_,rfl,x,_,_,rfl,J1.ax,1e3,_,rfl,x,A,s,t,rfl,J1,G,Sm.of 1e1 1e1,(λ_ p H7 s7 hp7 z7=>?_),(λn=>absurd mk n)⟩;have R:=(J1.afl t wd mw).2;have eR:(A.fx t).length=(fld s t).length:=(by rw[R.1,ef]);refine⟨_,rfl,_,rfl,p,_,rfl,.inl (SqL.of z7),by show 3<=sizeLine;decide,λq8 hq8=>?_⟩;rw[show((A.fx t).length:Int)=((fld s t).length:Int) by rw[eR]];have s8:=aB.upd (o:=.tup [V.str "head",V.int t,V.int (fld s t).length]) hq8;have m8:=(mx.same s7).same s8;have b8:=(bx.same s7).same s8;have hd8:=b8 d _ ndm ndl hd6;have npm:p≠ml:=aol (aq mx.l hp7);have npd:p≠dl:=aol (aq mx.d hp7);have m9:=m8.set (p:=(g t).toNat) (v:=.ref q8) (w:=.hd t (fld s t).length) (.inr ⟨1e0,q8,rfl,ag⟩) (λ_ n z=>by cases z;omega) (λb n z=>by cases z) (aju _ 1e1);have b9:=b8.um (o:=.lst (mys.set (g t).toNat (.ref q8)));have zp9:(upd (upd H7 q8 (.tup [V.str "head",V.int t,V.int (fld s t).length])) ml (.lst (mys.set (g t).toNat (.ref q8)))) p=some (.lst (A.fx t)):=(by rw[af npm];exact s8 _ _ z7);have c9:∀ u∈(keys s).take i,Hc (mws.set (g t).toNat (.hd t (fld s t).length)) s g f u (fld s u).length:=λu m=>(hc u m).keep (away u m _ 1e1 1e1);have d9:Hc (mws.set (g t).toNat (.hd t (fld s t).length)) s g f t 0:=⟨by rw[aoW (by rw[mx.n];omega)],λi w h=>absurd h (apA _)⟩;refine⟨_,rfl,_,rfl,_,rfl,d,.int (g t),rfl,.inl ⟨kvs,Sum.inl t,.inl hd8,rfl,(dg.v t mt).symm⟩,ml,mys,g t,(g t).toNat,rfl,rfl,m8.l,A5 1e1 (by rw[m8.r.1,m8.n];omega),?_⟩;generalize upd (upd H7 q8 (.tup [V.str "head",V.int t,V.int (fld s t).length])) ml (.lst (mys.set (g t).toNat (.ref q8)))=H9 at m9 b9 zp9 ⊢;refine⟨_,rfl,p,_,rfl,.inl (SqL.of zp9),_,rfl,by omega,by omega,qQ (lo:=0) (n:=((A.fx t).length:Int).toNat) (λj σ Hy=>∃(mys:List V) (mws:List Mw) (v6:Option V),σ=[some (.ref x),some (.int zj),some (.ref d),some (.int a),some (.ref ml),some (.ref dl),v6,some (.int t),v8,some (.ref p),none,none]/\Bm ml dl H6 Hy/\Hy p=some (.lst (A.fx t))/\Md1 Hy ml dl s g f a n (keys s) mys mws kl/\(∀ u∈(keys s).take i,Hc mws s g f u (fld s u).length)/\Hc mws s g f t j) ⟨_,_,_,rfl,b9,zp9,m9,c9,d9⟩ ?_ ?_⟩
   ·rintro j σ Hy hj ⟨mys,mws,v6,rfl,bY,zy,my,cy,dy⟩
    have jl:j<(fld s t).length:=1e1;obtain⟨v,hv⟩:∃ v,(A.fx t)[j]?=some v:=⟨(A.fx t)[j]' 1e1,an4 _⟩;obtain⟨w',hw'⟩:∃ w',(fld s t)[j]?=some w':=⟨_,an4 jl⟩;have Jy:=J.same (abP bY);have Ry:=(Jy.afl t wd mw).2;refine⟨_,rfl,_,rfl,p,A.fx t,_,v,rfl,rfl,SqL.of zy,by rw[Int.zero_add];exact yR hv,_,rfl,_,rfl,_,rfl,9,_,rfl,rfl,.inl ⟨by decide,by decide⟩,_,rfl,_,_,rfl,rfl,zj,_,rfl,by omega,by omega,λrm m0 m1=>⟨v,w',dl,kl,keys s,g,f,rm,rfl,Ry.2 j v w' hv (by rw[<-ef];exact hw'),my.d,my.ld.lds,(λu e=>?_),λy mw' H' s' mv spk=>?_⟩⟩
    ·obtain⟨wu,mu⟩:=G.ff t wd u mw (by rw[<-e,<-ef];exact an9 hw')
     exact mem_keys.mpr ⟨wu,mu⟩
    ·have m':=my.same s'
     have b':=bY.same s';have hd':=b' d _ ndm ndl hd6;have ms':=m'.set (p:=(g t+1+(j:Int)).toNat) mv (λt n z=>absurd z (spk.plain.1 t n)) (λb n z=>absurd z (spk.plain.2 b n)) (aju _ 1e1);refine⟨_,rfl,_,rfl,_,rfl,d,.int (g t),rfl,.inl ⟨kvs,Sum.inl t,.inl hd',rfl,(dg.v t mt).symm⟩,_,1,rfl,rfl,_,rfl,_,_,rfl,rfl,ml,mys,g t+1+(0+(j:Int)),(g t+1+(j:Int)).toNat,rfl,rfl,m'.l,(by rw[Int.zero_add];exact A5 1e1 (by rw[m'.r.1,m'.n];omega)),?_⟩;refine⟨_,_,_,rfl,b'.um,by rw[af npm];exact s' _ _ zy,ms',λu m=>(cy u m).keep (away u m _ 1e1 1e1),?_⟩;have kp:=dy.keep (p:=(g t+1+(j:Int)).toNat) (w:=mw') ⟨by omega,λi hi=>by omega⟩;refine⟨kp.1,λi w hi hw=>?_⟩;rcases aoZ i j with c|c
     ·exact kp.2 i w c hw
     ·have e:i=j:=by omega
      subst e;rw[hw']at hw;cases hw;exact⟨mw',by rw[show(g t).toNat+1+i=(g t+1+(i:Int)).toNat by omega,aoW (by rw[my.n];omega)],spk⟩
   ·rintro σ Hy ⟨mys,mws,v6,rfl,bY,zy,my,cy,dy⟩
    rw[Int.toNat_natCast,eR]at dy;refine⟨_,_,_,_,_,rfl,bY,my,λu m=>?_⟩;rw[take_snoc ht]at m;rcases aot.mp m with m|m
    ·exact cy u m
    ·rw[an7.mp m];exact dy
  ·rintro σ Hx ⟨mys,mws,v6,v7,v9,rfl,bx,mx,hc⟩
   rw[an6,aoh (aoa _)]at hc;have h0:∀ t∈keys s,0<=g t/\0<=f t/\f t<=100000/\g t<=100000/\mws[(g t).toNat]?=some (.hd t (fld s t).length):=λt mt=>by
    have q1:=pl.bd t (pm.mem_iff.mpr mt);have q2:=mx.fr t mt;exact⟨q1.1,by omega,by omega,by omega,(hc t mt).1⟩
   have abQ:∀ {w:Wd} {mw:Mw},Spk g f w mw->(∀ t,w=.th t->t∈keys s)->Lk mws (kvG (keys s) g) w mw:=λh ht=>h.lk mx.fw h0 ht;have pic:Pic mws s g:=by
    refine⟨λt wd mw=>?_,λt wd t' wd' m1 m2 nn=>?_⟩
    ·have mt:=mem_keys.mpr ⟨wd,mw⟩
     obtain⟨q1,q2⟩:=pl.bd t (pm.mem_iff.mpr mt);have ef:=G.fld mw;obtain⟨c1,c2⟩:=hc t mt;rw[ef]at q2 c1 c2;refine⟨q1,by rw[mx.n];omega,c1,λi w hw=>?_⟩;obtain⟨mw',e1,e2⟩:=c2 i w (an5.mp hw).1 hw;refine⟨mw',e1,abQ e2 λu e=>?_⟩;obtain⟨wu,mu⟩:=G.ff t wd u mw (by rw[<-e];exact an9 hw);exact mem_keys.mpr ⟨wu,mu⟩
    ·have:=pl.dj t (pm.mem_iff.mpr (mem_keys.mpr ⟨wd,m1⟩)) t' (pm.mem_iff.mpr (mem_keys.mpr ⟨wd',m2⟩)) nn
     rw[G.fld m1,G.fld m2]at this;exact this
   have SX:=abP bx;have hdx:=bx d _ ndm ndl hd6;have Jx:=J.same SX;refine⟨_,rfl,x,_,_,rfl,Jx.ax,1e3,x,A,s,rfl,Jx,G,λp7 H7 s7 hp7 z7=>⟨p7,rfl,⟨_,SqL.of z7⟩,λL hL=>?_⟩⟩;have fin:∀ {Hb Hd He:Hp} {L:Addr} {us:List V} {u:V} {m0:Mw} {P:Nat->Mw->Prop} {i:Nat},Hb L=none->aB Hb Hd->Hd L=some (.lst us)->us.length=i->(∀(j:Nat) (y:V),us[j]?=some y->∃ mw,MV Hd y mw/\P j mw)->aB Hd He->MV He u m0->P i m0->He L=some (.lst us)/\(us++[u]).length=i+1/\aB Hb (upd He L (.lst (us++[u])))/\upd He L (.lst (us++[u])) L=some (.lst (us++[u]))/\∀(j:Nat) (y:V),(us++[u])[j]?=some y->∃ mw,MV (upd He L (.lst (us++[u]))) y mw/\P j mw:=λ{Hb Hd He L us u m0 P i} hb sc z e hq sd mv pm0 =>
    ⟨sd _ _ z,by rw[aof,e];rfl,(λb v y=>by rw[af (aq y hb)];exact sd _ _ (sc b v y)),ag,Z1 (sd _ _ z) (λj y hj=>by obtain⟨mw,e1,e2⟩:=hq j y hj;exact⟨mw,e1.keep (b7.of sd),e2⟩) mv (by rw[e];exact pm0)⟩
   refine lr (K:=K) (a:=p7) (xs:=A.hx) (λi us Hd=>us.length=i/\aB H7 Hd/\Hd L=some (.lst us)/\∀(j:Nat) (y:V),us[j]?=some y->∃ mw,MV Hd y mw/\∀ w,s.aW[j]?=some w->Spk g f w mw) ⟨rfl,aB.upd hL,ag,(λj y h=>by cases h)⟩ (λi us Hd _ ⟨e,_,z,_⟩=>⟨z,e⟩) (λi us Hd _ ⟨_,sc,_⟩=>SqL.of (sc _ _ z7)) (by rw[Jx.rhl.1,G.h8];decide) (λi v us Hd hi ⟨e,sc,z,hq⟩=>?_) (λus H8 ⟨e8,s8,z8,hq8⟩=>?_)
   ·have S8:=s7.trans sc
    obtain⟨w',hw'⟩:∃ w',s.aW[i]?=some w':=⟨s.aW[i]'(by rw[<-Jx.rhl.1];exact(an5.mp hi).1),an4 _⟩;refine⟨_,rfl,_,rfl,_,rfl,zj,200,rfl,by decide,by decide,λrm m0 m1=>⟨v,w',dl,kl,keys s,g,f,rm,rfl,(Jx.rhl.2 i v w' hi hw').keep (b7.of S8),S8 _ _ mx.d,(mx.ld.keep λq us _ y=>S8 _ _ y).lds,(λu e=>?_),λy mw' He sd mv spk=>?_⟩⟩
    ·obtain⟨wu,mu⟩:=G.hh u (by rw[<-e];exact an9 hw')
     exact mem_keys.mpr ⟨wu,mu⟩
    ·exact fin (P:=λj mw=>∀ w,s.aW[j]?=some w->Spk g f w mw) hL sc z e hq sd mv (λw h=>by rw[hw']at h;cases h;exact spk)
   have S8:=s7.trans s8;have J8:=Jx.same S8;refine⟨_,rfl,x,_,_,rfl,J8.ax,1e3,x,A,s,rfl,J8,G,λp9 H9 s9 hp9 z9=>⟨p9,rfl,⟨_,SqL.of z9⟩,λL2 hL2=>?_⟩⟩;refine lr (K:=K) (a:=p9) (xs:=s.names.map nmV) (λi us Hd=>us.length=i/\aB H9 Hd/\Hd L2=some (.lst us)/\∀(j:Nat) (y:V),us[j]?=some y->∃ mw,MV Hd y mw/\∀ o,s.names[j]?=some o->Spk g f (nmW o) mw) ⟨rfl,aB.upd hL2,ag,(λj y h=>by cases h)⟩ (λi us Hd _ ⟨e,_,z,_⟩=>⟨z,e⟩) (λi us Hd _ ⟨_,sc,_⟩=>SqL.of (sc _ _ z9)) (by rw[an6,G.n8];decide) (λi v us2 Hd hi ⟨e,sc,z,hq⟩=>?_) (λus2 H10 ⟨e10,s10,z10,anS⟩=>?_)
   ·rw[aog]at hi
    obtain⟨o,ho,rfl⟩:=aoo.mp hi;have S10:=(S8.trans s9).trans sc;cases o with
    | none=>exact⟨_,rfl,rfl,_,rfl,iY (decide_eq_true rfl) (fin (P:=λj mw=>∀ o,s.names[j]?=some o->Spk g f (nmW o) mw) (m0:=.no) hL2 sc z e hq (aB.refl _) (.inl ⟨rfl,rfl⟩) (λw h=>by rw[ho]at h;cases h;rfl))⟩
    | some t =>
     obtain⟨wt,mwt⟩:=G.nn t (an9 ho);obtain⟨t0,t1⟩:=G.lt t wt mwt;obtain⟨q2,_,hv2,hq2⟩:=mx.ld t (mem_keys.mpr ⟨wt,mwt⟩);refine⟨_,rfl,rfl,_,rfl,f9 (decide_eq_false 1e0) ⟨_,rfl,_,rfl,dl,.ref q2,rfl,.inl ⟨kl,Sum.inl t,.inl (S10 _ _ mx.d),rfl,hv2.symm⟩,_,rfl,_,rfl,300,t,rfl,rfl,zj,_,rfl,by omega,by omega,λrm m0 m1=>?_⟩⟩;obtain⟨a',ha,ea⟩:=at3 (g:=g) (f:=f) (t:=t) (m:=rm);refine⟨rm,3,rfl,rfl,(by show(0:Int)<3;decide),q2,_,_,.int a',rfl,rfl,SqL.of (S10 _ _ hq2),ha,by show 2<=sizeLine;decide,λr hr'=>?_⟩;exact fin (P:=λj mw=>∀ o,s.names[j]?=some o->Spk g f (nmW o) mw) (m0:=.ad a') hL2 sc z e hq (aB.upd hr') (.inr ⟨1e0,r,rfl,ag⟩) (λw h=>by rw[ho]at h;cases h;exact⟨a',rfl,ea⟩)
   have S10:=(S8.trans s9).trans s10;have J10:=Jx.same S10;refine⟨_,rfl,_,rfl,_,rfl,_,rfl,x,_,_,rfl,J10.ax,1e3,x,A,s,rfl,J10,G,λp11 H11 s11 hp11 z11=>⟨p11,rfl,⟨_,SqL.of z11⟩,λL3 hL3=>?_⟩⟩;refine lr (K:=K) (a:=p11) (xs:=(keys s).map V.int) (λi us Hd=>us.length=i/\aB H11 Hd/\Hd L3=some (.lst us)/\∀(j:Nat) (u:V) (t:Int),us[j]?=some u->(keys s)[j]?=some t->∃ q,u=.ref q/\Hd q=some (.tup [.int t,.int (g t)])) ⟨rfl,aB.upd hL3,ag,(λj u t h=>by cases h)⟩ (λi us Hd _ ⟨e,_,z,_⟩=>⟨z,e⟩) (λi us Hd _ ⟨_,sc,_⟩=>SqL.of (sc _ _ z11)) (by rw[an6];exact Dr 1e1) (λi v us3 Hd hi ⟨e,sc,z,hq⟩=>?_) (λps H12 ⟨e12,s12,z12,anT⟩=>?_)
   ·rw[aog]at hi
    obtain⟨t,ht,rfl⟩:=aoo.mp hi;have mt:t∈ms:=pm.mem_iff.mpr (an9 ht);refine⟨_,rfl,_,rfl,_,rfl,d,.int (g t),rfl,.inl ⟨kvs,Sum.inl t,.inl (sc _ _ (s11 _ _ (S10 _ _ hdx))),rfl,(dg.v t mt).symm⟩,by show 2<=sizeLine;decide,λq hq'=>?_⟩;have s3:=aB.upd (o:=.tup [V.int t,V.int (g t)]) hq';have z3:=s3 _ _ z;refine⟨z3,by rw[aof,e];rfl,λb u y=>by rw[af (aq y hL3)];exact s3 _ _ (sc b u y),ag,λj u t' h1 h2=>?_⟩;rcases aoZ j us3.length with cj|cj
    ·rw[aoO cj]at h1
     obtain⟨q',e1,e2⟩:=hq j u t' h1 h2;exact⟨q',e1,by rw[af (az (s3 _ _ e2) z3 (by intro y;cases y))];exact s3 _ _ e2⟩
    ·have ej:j=us3.length:=by have:=(an5.mp h1).1;rw[aof,aoH]at this;omega
     rw[ej,aoI (aoa _),apP]at h1;cases h1;rw[ej,e,ht]at h2;cases h2;exact⟨q,rfl,by rw[af (az ag z3 (by intro y;cases y))];exact ag⟩
   ·rw[an6]at e12 e10
    refine⟨by show 4<=sizeLine;decide,λr hr'=>?_⟩;have s13:=aB.upd (o:=.tup [.ref ml,.ref L,.ref L2,.ref L3]) hr';have F10:=(s11.trans s12).trans s13;have F8:=(s9.trans s10).trans F10;have FX:=S8.trans F8;refine k r ml L L2 L3 mys us us2 ps mws g _ (SX.trans FX) (aB.none (SX.trans s7) hL) ag (FX _ _ mx.l) (mx.r.keep (b7.of FX)) (by rw[mx.n];omega) mx.gm pic (F8 _ _ z8) (by rw[e8,Jx.rhl.1,G.h8]) (λi w y h1 h2=>?_) (F10 _ _ z10) (by rw[e10,G.n8]) (λi o y h1 h2=>?_) (s13 _ _ z12) ⟨e12,λi u t h1 h2=>by obtain⟨q,e1,e2⟩:=anT i u t h1 h2;exact⟨q,e1,s13 _ _ e2⟩⟩
    ·obtain⟨mw',e1,e2⟩:=hq8 i y h2
     refine⟨mw',e1.keep (b7.of F8),abQ (e2 w h1) λu e=>?_⟩;obtain⟨wu,mu⟩:=G.hh u (by rw[<-e];exact an9 h1);exact mem_keys.mpr ⟨wu,mu⟩
    ·obtain⟨mw',e1,e2⟩:=anS i y h2
     refine⟨mw',e1.keep (b7.of F10),abQ (e2 o h1) λu e=>?_⟩;cases o with
     | none=>cases e
     | some t =>
      cases e;obtain⟨wu,mu⟩:=G.nn _ (an9 h1);exact mem_keys.mpr ⟨wu,mu⟩
end
end K38
end
section
namespace L2
open PySem PySem.Spec PyProof.Rows LX
section
variable{X:Cx}{scope:Scope}{cl:List (Str×Addr)}{xs:List Str}{idx:List Nat}{NC:List Str}{C:Addr}{fp:List Addr}{pins:List (Addr×Obj)}{σ:St}{H:Hp}{s:Shared}
end
section
variable{X:Cx}{scope:Scope}{cl:List (Str×Addr)}{xs:List Str}{idx:List Nat}{NC:List Str}{C:Addr}{fp:List Addr}{pins:List (Addr×Obj)}{σ:St}{H:Hp}{s:Shared}
end
noncomputable def acJ:R2:=λx y H Q=>∃ b c:Bool,x=.bl b/\y=.bl c/\Q (.bl (!decide (b=c))) H
theorem Yl{X:Cx}:OpR X (compareOp .IsNot) acJ:=by
 rintro pins s σ H x y v u Q I rx ry ⟨b,c,rfl,rfl,q⟩;cases rx;cases ry;refine wpAny_isNot_plain rfl (dA I q ?_);cases b<;>cases c<;>rfl
end L2
end
section
namespace L2
open PySem PySem.W PySem.Spec PyProof.Rows LX
theorem OS{K:W.Frag}{A:Around}{E:Value->Shared->Prop}{ea C D1 D2 tp:Addr}{cd cd1 cd2:ClassData}{od:Option Addr}{fs:Array Value}{sl:Array (Option Value)}{h:Heap}{g:Array GenState}{d:Drawn}{t:Nat}{os:OsState}{Q:Bool->Shared->Prop}{M:Model}(x:h9 K C cd)(y1:h9 K D1 cd1)(y2:h9 K D2 cd2)(X:K.In h)
  (he:h.get? ea=some (eM (.ref C) od fs sl)) (hp:h.get? tp=some {cls:=.type "tuple",data:=.seq [Value.ref D1,Value.ref D2].toArray}) (q:Q (cd.mro.contains (.ref D1)||cd.mro.contains (.ref D2)) ⟨h,g,d,t,os⟩):wpAny M A (excMatches (.ref ea) (.ref tp)) Q E ⟨h,g,d,t,os⟩:=by
 have ty:=Ds (M:=M) he;have ti1:=y1.YT (M:=M) X;have ti2:=y2.YT (M:=M) X;have yb1:=y1.sub (M:=M) X (.type "BaseException");rw[y1.bas]at yb1;have yb2:=y2.sub (M:=M) X (.type "BaseException");rw[y2.bas]at yb2;have xs1:=x.sub (M:=M) X (.ref D1);have xs2:=x.sub (M:=M) X (.ref D2);have LT0:Looks M h (isInstance (.ref tp) (.type "tuple")) true:=((Looks.ld hp).andThen .now).andThen (Looks.of_pure isSubtype_tuple_tuple);unfold excMatches isExcClass;refine wpAny_bind (LT0.at ?_);dsimp only;rw[if_pos rfl]
 first
  | refine wpAny_bind (wpAny_seqItems hp rfl ?_)
  | refine wpAny_bind (wpAny_bind (wpAny_seqItems hp rfl (wpAny_pure ?_)))
 dsimp only[Option.getD_some,Option.getD];cases hb1:cd.mro.contains (.ref D1)<;>cases hb2:cd.mro.contains (.ref D2)<;>(rw[hb1]at q xs1;rw[hb2]at q xs2;(repeat (first|simp only[apX,List.forIn_nil,Bool.not_true,aoG,if_false,if_true]|lk));exact q)
noncomputable def SD(K:W.Frag)(D1 D2:Addr)(ts:TS)(D:Ends):St->XK:=λσ c _ H=>∃ C cd,c=.ref C/\h9 K C cd/\(cd.mro.contains (.ref D1)||cd.mro.contains (.ref D2))=true/\ts D σ H
noncomputable def acK(K:W.Frag)(D1 D2:Addr)(tb:(St->XK)->TS)(ts:TS):TS:=λD σ H=>tb (SD K D1 D2 ts D) D σ H
section
variable{X:Cx}
theorem Ym{body Rk:List Stmt}{b₀:Stmt}{x1 x2:Str}{p1 p2 aaa hpos pos:Pos}{kk:Nat}{D1 D2:Addr}{cd1 cd2:ClassData}{tb:(St->XK)->TS}{ts:TS}(hst:X.stack=X.env::X.outer)(hfr:X.env.frame=some X.env.locals)(hg1:Gl X x1)(hm1:X.mg x1=some (.ref D1))(hg2:Gl X x2)(hm2:X.mg x2=some (.ref D2))
  (hD1:h9 X.K D1 cd1) (hD2:h9 X.K D2 cd2)
  (hb:∀(pins:List (Addr×Obj)) (E:Value->Shared->Prop) (EK:St->XK),gT (CXE X.prog X.w) (X.FW pins E) EK->PSs (X.FW pins E) body (tb EK))
  (hs:∀ ea,PSs (X.pR ea) (b₀::Rk) ts) (anU:(x1 == ("__debug__" : Str))=false:=by decide) (anV:(x2 == ("__debug__" : Str))=false:=by decide) :
  PS X (.Try body [.ExceptHandler (some (.Tuple [.Name x1 p1,.Name x2 p2] kk aaa)) none (b₀::Rk) hpos] [] [] pos) (acK X.K D1 D2 tb ts):=by
 intro pins s σ H D I h;refine wpAny_Try_except ?_;refine wpAny_mono (hb pins (λe s₁=>∃ σ' H1 sc,Inv X pins σ' H1 sc/\CXE X.prog X.w X.stack H1 sc (SD X.K D1 D2 ts D σ') e s₁) (SD X.K D1 D2 ts D)
  (λNT σ' H1 sc e s' J q=>⟨σ',H1,sc,J.pH,q⟩) [] s σ H D (I.FW _) h) (λfl s1 q=>?_) λe s1 q=>?_
 ·cases fl with
  | next =>
   obtain⟨σ',H',J,q⟩:=q;exact wpAny_execs_nil ⟨σ',H',J.pH,q⟩
  | brk=>obtain⟨σ',H',J,q⟩:=q;exact⟨σ',H',J.pH,q⟩
  | cont=>obtain⟨σ',H',J,q⟩:=q;exact⟨σ',H',J.pH,q⟩
  | ret u=>obtain⟨v,σ',H',J,r,q⟩:=q;exact⟨v,σ',H',J.pH,r,q⟩
 ·obtain⟨σ',H1,sc,J,ea,Cv,T,od,fs,sl,H',rfl,l,C,cd,ec,xc,hmr,q⟩:=q
  cases ec;have hA:X.A.frames=some (X.env::X.outer):=by rw[J.ok.frames,hst]
  have hF:s1.heap.FunFrames X.base (X.env::X.outer):=by rw[<-hst];exact l.frames J
  have st:∀(m:Heap) (tk:Nat),Kept (dI X.stack) [ea,T] s1.heap m->Inv X pins σ' H' {s1 with heap:=m,toks:=tk}:=λm tk k=>by
   obtain⟨un,hok⟩:=l.on (t':=s1.toks) J k;exact J.K8 l.os un hok l.bare λb z=>absurd z (by simp)
  refine IF hA hF hfr l.at_ l.trail λm T' oc tsx z1 z2 z3 z4 z5=>?_;have Te:T'≠ea:=apd (aoi (aoe l.at_) z1);have f1:(fs.setIfInBounds 1 (Value.ref T'))[1]?=some (.ref T'):=by
   have:=l.trail.size
   simp[this]
  have k1:Kept (dI X.stack) [ea,T] s1.heap m:=by rw[hst];exact z2
  refine nZ (s:={s1 with heap:=m}) z3 f1 Te z4 (aoq.mp z5).1 λm' q1 q2 q3=>?_;have nT:∀ b o,s1.heap.get? b=some o->b≠T':=λb o q=>aok (aoi (aoe q) z1);have k2:Kept (dI X.stack) [ea,T] s1.heap m':=⟨λb o q hb hx=>q1 b o (nT b o q) (k1.plain b o q hb hx),λb o q hb hx=>by
   obtain⟨sm,r⟩:=k1.frame b o q hb hx;exact⟨sm,q1 b _ (nT b o q) r⟩⟩
  have J2:=st m' s1.toks k2;refine wpAny_handleBy_cons (codeAny_handlers_test ?_) 1e0;refine wpAny_Tuple ?_;refine wpAny_items_cons (qY (X:=X.pR ea) (J2.pR ea) hg1 hm1 ?_ anU);refine wpAny_items_cons (qY (X:=X.pR ea) (J2.pR ea) hg2 hm2 ?_ anV);refine wpAny_items_nil ⟨by size_fits,?_⟩;have kp:∀ q o,m'.get? q=some o->(m'.push {cls:=.type "tuple",data:=.seq [Value.ref D1,Value.ref D2].toArray}).get? q=some o:=λ_ _ z=>an8 _ z;have k2':Kept (dI X.stack) [ea,T] s1.heap (m'.push {cls:=.type "tuple",data:=.seq [Value.ref D1,Value.ref D2].toArray}):=⟨λb o q hb hx=>kp _ _ (k2.plain b o q hb hx),λb o q hb hx=>by
   obtain⟨sm,r⟩:=k2.frame b o q hb hx;exact⟨sm,kp _ _ r⟩⟩
  have J2':=st _ s1.toks k2';refine OS xc hD1 hD2 J2'.kIn (kp _ _ q3) (aoB m' rfl) ?_;rw[hmr];refine codeAny_handlers_suite ?_;cases q2 with
  | @some _ oc2 ts2 d2 sm2 y1 y2 y3 y4 =>
  refine nZ (s:={s1 with heap:=m'.push {cls:=.type "tuple",data:=.seq [Value.ref D1,Value.ref D2].toArray}}) (kp _ _ q3) y1 y2 (kp _ _ y3) (aoq.mp y4).1 λm3 r1 r2 r3=>?_;have k3:Kept (dI X.stack) [ea,T] s1.heap m3:=⟨λb o q hb hx=>r1 b o (nT b o q) (k2'.plain b o q hb hx),λb o q hb hx=>by
   obtain⟨sm,r⟩:=k2'.frame b o q hb hx;exact⟨sm,r1 b _ (nT b o q) r⟩⟩
  have J3:=st m3 s1.toks k3;refine wpAny_mono (hs ea pins _ _ _ D (J3.pR ea) q) (λfl s6 w=>?_) λ_ _ z=>False.elim z;cases fl with
  | next=>obtain⟨σ6,H6,J6,w⟩:=w;exact⟨_,_,J6.uncaught J.ok,w⟩
  | brk=>obtain⟨σ6,H6,J6,w⟩:=w;exact⟨_,_,J6.uncaught J.ok,w⟩
  | cont=>obtain⟨σ6,H6,J6,w⟩:=w;exact⟨_,_,J6.uncaught J.ok,w⟩
  | ret u=>obtain⟨v,σ6,H6,J6,r,w⟩:=w;exact⟨v,_,_,J6.uncaught J.ok,r,w⟩
end
end L2
end
section
namespace K38
open PySem L2 LX
section
variable{P:Program}{w:World}{K:W.Frag}{mg:Str->Option Value}{base:Heap}{D:Ad}
noncomputable def Tw(D:Ad):Sp:=λvs H Q E=>∃ m mx c xs ws,∃(a kk t n:Int),vs=[.ref m,.int a,.int kk]/\Mm D H m mx c xs ws/\Gm ws/\Sm a/\Sm kk/\thg ws a=some (t,n)/\(if 0<=kk/\kk<n then ∀ H',aB H H'->Q (.int (a+1+kk)) H' else Bad D.aZ H E)
noncomputable abbrev Gy:List Str:=["memory","a","k"]
theorem D6:av Gy ["memory","a","k"] (ar pj):=fsc
theorem D7(F:Fun K "field_address" "field_address" pj D.c5 D.jd)(T:Txt K mg D)
  (k7:9e7 6 D.gp D.kW ["memory","a"] (SA D))
  (ah:9e7 1 D.ao D.aw ["self","text"] (yU K)):9e7 7 D.c5 D.jd ["memory","a","k"] (Tw D):=by
 refine F.oa D6 F.b3 λcdv A' outer s' H vs Q E hr h=>?_;obtain⟨m,mx,c,xs,ws,a,kk,t,n,rfl,M,gm,ha,hk,ht,k⟩:=h;refine⟨_,(ak (bI (mR (mU yJ u7 au (pv 2) (k7.c hr T.FC T.so px (aa (pv 0) 1e9))))
   (ai (eE rfl jA (ah.e hr T.oi T.jr px (aa (ir (aQ fq (aQ (jn (pv 1)) (aQ fq (aQ (jn (pv 2)) iq))))) aj))))
   aO)
  (ai (aG (aF bO (aF bO (pv 1) au) (pv 2))))),?_⟩
 by_cases g0:0<=kk
 ·refine⟨_,rfl,0,kk,rfl,rfl,_,rfl,dH (λ_=>?_) (λh1=>absurd (decide_eq_true g0) h1)⟩
  refine⟨_,rfl,_,rfl,m,mx,c,xs,ws,a,rfl,M,gm,ha,?_⟩;rw[ht];intro H1 s1;by_cases g1:kk<n
  ·rw[if_pos ⟨g0,g1⟩]at k
   exact⟨kk,n,rfl,rfl,_,rfl,dH (λh2=>absurd h2 (by rw[decide_eq_true g1];decide)) (λ_=>⟨_,rfl,a,1,rfl,rfl,_,rfl,_,_,rfl,rfl,k H1 s1⟩)⟩
  ·rw[if_neg (λz=>g1 z.2)]at k
   exact⟨kk,n,rfl,rfl,_,rfl,dH (λ_=>⟨_,rfl,a,rfl,ha,_,rfl,kk,rfl,hk,λy hy ea hea=>bE T.gj (λ_ q=>aB.none s1 q) (k.same s1) ea hea⟩) (λh2=>absurd (by rw[decide_eq_false g1];rfl) h2)⟩
 ·rw[if_neg (λz=>g0 z.1)]at k
  refine⟨_,rfl,0,kk,rfl,rfl,_,rfl,dH (λh1=>absurd (of_decide_eq_true h1) g0) (λ_=>⟨_,rfl,u9 ⟨_,rfl,a,rfl,ha,_,rfl,kk,rfl,hk,λy hy ea hea=>bE T.gj (λ_ q=>q) k ea hea⟩⟩)⟩
noncomputable def Tx(D:Ad):Sp:=λvs H Q E=>∃ m mx c xs ws,∃(a kk t n:Int),vs=[.ref m,.int a,.int kk]/\Mm D H m mx c xs ws/\Gm ws/\Sm a/\Sm kk/\a<=100000/\thg ws a=some (t,n)/\(if 0<=kk/\kk<n then ∀ v w H',aB H H'->ws[(a+1+kk).toNat]?=some w->MV H' v w->Q v H' else Bad D.aZ H E)
noncomputable abbrev RR:List Str:=["memory","a","k"]
theorem OT:av RR ["memory","a","k"] (ar AV):=fsc
theorem OU(F:Fun K "field_at" "field_at" AV D.jc D.rb)(T:Txt K mg D)
  (pE:9e7 7 D.c5 D.jd ["memory","a","k"] (Tw D))
  (bq:9e7 4 D.dB D.gr ["self","a"] (zi D)):9e7 8 D.jc D.rb ["memory","a","k"] (Tx D):=by
 refine F.oa OT F.b3 λcdv A' outer s' H vs Q E hr h=>?_;obtain⟨m,mx,c,xs,ws,a,kk,t,n,rfl,M,gm,ha,hk,al,ht,k⟩:=h;refine⟨_,(ai (aG (bq.m hr (pv 0) T.bZ T.gZ px (aa (pE.c hr T.F7 T.pz px (aa (pv 0) (aa (pv 1) (aa (pv 2) aj)))) aj)))),?_⟩;obtain⟨a0,hw,al2⟩:=QI ht;have hn:=gm.hd t n (an9 hw);by_cases g:0<=kk/\kk<n
 ·rw[if_pos g]at k
  refine⟨_,rfl,m,_,_,rfl,M.i,1e3,_,rfl,_,rfl,_,rfl,m,mx,c,xs,ws,a,kk,t,n,rfl,M,gm,ha,hk,ht,?_⟩;rw[if_pos g];intro H1 s1;refine⟨m,mx,c,xs,ws,a+1+kk,rfl,M.same s1,Sm.of 1e1 1e1,?_⟩;rw[if_pos ⟨by omega,by omega⟩];exact λv w _ hw mv=>k v w H1 s1 hw mv
 ·rw[if_neg g]at k
  refine⟨_,rfl,m,_,_,rfl,M.i,1e3,_,rfl,_,rfl,_,rfl,m,mx,c,xs,ws,a,kk,t,n,rfl,M,gm,ha,hk,ht,?_⟩;rw[if_neg g];exact k
noncomputable def tv(s:HS):Wd->Vl
 | .no=>.t [.a (.str "none")]
 | .num x=>.t [.a (.str "number"),.a (.int x)]
 | .th t=>.t [.a (.str "thing"),.a (.int (fld s t).length)]
noncomputable def wv(g:Int->Int):Wd->Vl
 | .no=>.a .non
 | .num x=>.t [.a (.str "number"),.a (.int x)]
 | .th t=>.t [.a (.str "at"),.a (.int (g t))]
theorem Wl{H:Hp}{t:Addr}{z:Str}(h:H t=some (.tup [.str z])):Rp H 1 (.ref t) (.t [.a (.str z)]):=by
 refine⟨t,_,rfl,h,rfl,λi u x h1 h2=>?_⟩
 match i,h1,h2 with
 | 0,h1,h2=>cases h1;cases h2;exact⟨rfl,rfl⟩
 | i+1,h1,_=>simp at h1
theorem Lk.th{ws:List Mw}{s:HS}{g:Int->Int}{t:Int}{mw:Mw}(h:Lk ws (kvG (keys s) g) (.th t) mw)(m:t∈keys s):∃(a:Int) (j:Nat),mw=.ad a/\Sm a/\Rv ws j a (some (g t)):=by
 obtain⟨a,j,z,e,sm,rv,v⟩:=h;rw[NS m]at v;injection v with v;injection v with v;exact⟨a,j,e,sm,by rw[v];exact rv⟩
theorem Pic.thg{ws:List Mw}{s:HS}{g:Int->Int}(P:Pic ws s g){t:Int}{wd:List Wd}(m:(t,wd)∈s.aT):K38.thg ws (g t)=some (t,(wd.length:Int)):=by
 obtain⟨a0,a1,h,_⟩:=P.hd t wd m;unfold K38.thg;rw[if_pos a0,h];exact if_pos a1
noncomputable def Tz(D:Ad):Sp:=λvs H Q _=>∃ m mx c xs ws,∃(y:V) (mw:Mw) (wd:Wd) (s:HS) (g:Int->Int),vs=[.ref m,y]/\Mm D H m mx c xs ws/\Gm ws/\ws.length<=10000/\MV H y mw/\Lk ws (kvG (keys s) g) wd mw/\Pic ws s g/\Good s/\(∀ t,wd=.th t->t∈keys s)/\∀ v H',aB H H'->Rp H' 1 v (tv s wd)->Q v H'
noncomputable abbrev OV:List Str:=["memory","word","a"]
theorem Dk:av OV ["memory","word"] (ar xq):=fsc
theorem MB(F:Fun K "_law_seen" "_law_seen" xq D.hG D.oH)(T:Txt K mg D)
  (e7:9e7 5 D.fS D.jV ["memory","a"] (Kd D))
  (A9:9e7 7 D.jb D.ra ["memory","a"] (Wg D)):9e7 9 D.hG D.oH ["memory","word"] (Tz D):=by
 refine F.oa Dk F.b2 λcdv A' outer s' H vs Q E hr h=>?_;obtain⟨m,mx,c,xs,ws,y,mw,wd,s,g,rfl,M,gm,wl,mv,lk,P,G,hk,k⟩:=h;refine⟨_,(PSs.nox (ak (bI (aJ pP (pv 1) c8 (aS _))
   (ai (aG (fE (aa cR aj))))
   aO)
  (ak (bI (aJ nY (bT cY (pv 1) au 1e7) cR (aS _))
   (ai (aG (pv 1)))
   aO)
  (ak (aN (i:=2) Dk.nd rfl 1e4 (e7.c hr T.vg T.oo aY (aa (pv 0) (aa (bT cY (pv 1) au 1e7) aj))))
  (ai (aG (fE (aa cR (aa (cz a9 rfl T.kU PyProof.Rows.Boot.«len» (aa (bT cY (A9.c hr T.RD T.AY aY (aa (pv 0) (aa (pv 2) aj))) au 1e7) aj)) aj))))))))),?_⟩
 cases wd with
 | no =>
  have e:mw=.no:=lk;subst e;rcases mv with⟨_,rfl⟩|⟨n,_⟩
  ·exact⟨_,rfl,rfl,_,rfl,iY rfl ⟨by show 1<=sizeLine;decide,λq hq=>k _ _ (aB.upd hq) (Wl ag)⟩⟩
  ·exact absurd rfl n
 | num n =>
  have e:mw=.num n:=lk;subst e;obtain⟨_,q,rfl,hq⟩:=mv.resolve_left (λz=>by cases z.1);exact⟨_,rfl,rfl,_,rfl,f9 rfl ⟨_,rfl,q,_,0,.str "number",rfl,rfl,SqT.of hq,rfl,rfl,_,rfl,iY 1e3 ⟨_,rfl,k _ _ (aB.refl _) (yZ hq)⟩⟩⟩
 | th t =>
  have mt:=hk t rfl;obtain⟨a,j,rfl,sm,rv⟩:=lk.th mt;obtain⟨_,q,rfl,hq⟩:=mv.resolve_left (λz=>by cases z.1);obtain⟨ws',mw'⟩:=mem_keys.mp mt;have tg:=P.thg mw';obtain⟨g0,g1,_⟩:=P.hd t ws' mw';have f6:=G.f6 t ws' mw';refine⟨_,rfl,rfl,_,rfl,f9 rfl ⟨_,rfl,q,_,0,.str "at",rfl,rfl,SqT.of hq,rfl,rfl,_,rfl,f9 1e3 ?_⟩⟩;refine⟨_,rfl,_,rfl,q,_,1,.int a,rfl,rfl,SqT.of hq,rfl,m,mx,c,xs,ws,a,j,some (g t),rfl,M,gm,sm,rv,?_⟩;refine⟨_,rfl,_,rfl,m,mx,c,xs,ws,g t,rfl,M,gm,Sm.of 1e1 1e1,?_⟩;rw[tg];intro p l ys H1 s1 hl hp zl r;refine⟨p,_,1,.ref l,rfl,rfl,SqT.of hp,rfl,l,_,rfl,.inl (SqL.of zl),by show 2<=sizeLine;decide,λz hz=>k _ _ (s1.trans (aB.upd hz)) ?_⟩;have e:ys.length=(fld s t).length:=by rw[r.1,G.fld mw'];unfold N3;rw[aoj,aph,Int.toNat_natCast];omega
  rw[e];exact yZ ag
noncomputable def TB(D:Ad):Sp:=λvs H Q _=>∃ x A s,∃(h:Int) (wd:Wd),vs=[.ref x,.int h]/\IH D H x A s/\Good s/\0<=h/\h<8/\s.aW[h.toNat]?=some wd/\∀ v H',aB H H'->Rp H' 1 v (tv s wd)->Q v H'
noncomputable abbrev OW:List Str:=["heap","h","kind"]
theorem Dl:av OW ["heap","h"] (ar xt):=fsc
theorem MC(F:Fun K "_law_told" "_law_told" xt D.hJ D.oJ)(T:Txt K mg D)
  (nW:9e7 6 D.du D.iG ["self","h"] (Qy D))
  (l7:9e7 7 D.cT D.gN ["self","h"] (LC D))
  (kQ:9e7 7 D.cD D.gz ["self","h"] (IW D)):9e7 8 D.hJ D.oJ ["heap","h"] (TB D):=by
 refine F.oa Dl F.b2 λcdv A' outer s' H vs Q E hr h=>?_;obtain⟨x,A,s,h,wd,rfl,J,G,h0,h1,hw,k⟩:=h;refine⟨_,(PSs.nox (ak (aN (i:=2) Dl.nd rfl 1e4 (nW.m hr (pv 0) T.ae T.Bi aY 1e9))
  (ak (bI (aJ nY (pv 2) cR (aS _))
   (ai (aG (fE (aa (pv 2) (aa (l7.m hr (pv 0) T.ae T.zA aY 1e9) aj)))))
   aO)
  (ak (bI (aJ nY (pv 2) cR (aS _))
   (ai (aG (fE (aa (pv 2) (aa (kQ.m hr (pv 0) T.ae T.xY aY 1e9) aj)))))
   aO)
  (ai (aG (fE (aa (pv 2) aj)))))))),?_⟩
 have sm:Sm h:=Sm.of 1e1 1e1;have ew:wat s.aW h=some wd:=(if_pos ⟨h0,h1⟩).trans hw;refine⟨_,rfl,x,_,_,rfl,J.ax,1e3,_,rfl,x,A,s,h,rfl,J,G,sm,?_⟩;rw[ew];intro H1 s1;have J1:=J.same s1;cases wd with
 | no=>exact⟨_,rfl,rfl,_,rfl,f9 1e3 ⟨_,rfl,rfl,_,rfl,f9 1e3 ⟨_,rfl,by show 1<=sizeLine;decide,λq hq=>k _ _ (s1.trans (aB.upd hq)) (Wl ag)⟩⟩⟩
 | num n =>
  refine⟨_,rfl,rfl,_,rfl,iY 1e3 ⟨_,rfl,_,rfl,x,_,_,rfl,J1.ax,1e3,_,rfl,x,A,s,h,rfl,J1,G,sm,?_⟩⟩;rw[ew];exact λH2 s2=>⟨by show 2<=sizeLine;decide,λq hq=>k _ _ ((s1.trans s2).trans (aB.upd hq)) (yZ ag)⟩
 | th t =>
  refine⟨_,rfl,rfl,_,rfl,f9 1e3 ⟨_,rfl,rfl,_,rfl,iY 1e3 ⟨_,rfl,_,rfl,x,_,_,rfl,J1.ax,1e3,_,rfl,x,A,s,h,rfl,J1,G,sm,?_⟩⟩⟩;rw[ew];exact λH2 s2=>⟨by show 2<=sizeLine;decide,λq hq=>k _ _ ((s1.trans s2).trans (aB.upd hq)) (yZ ag)⟩
noncomputable def QT(D:Ad):Sp:=λvs H Q _=>∃ m mx c xs ws,∃(y:V) (mw:Mw) (wd:Wd) (s:HS) (g:Int->Int),vs=[.ref m,y]/\Mm D H m mx c xs ws/\Gm ws/\MV H y mw/\Lk ws (kvG (keys s) g) wd mw/\(∀ t,wd=.th t->t∈keys s)/\∀ v H',aB H H'->Rp H' 1 v (wv g wd)->Q v H'
noncomputable abbrev MD:List Str:=["memory","word"]
theorem Ko:av MD ["memory","word"] (ar uG):=fsc
theorem Kp(F:Fun K "_law_where" "_law_where" uG D.fY D.mL)(T:Txt K mg D)
  (e7:9e7 5 D.fS D.jV ["memory","a"] (Kd D)):9e7 9 D.fY D.mL ["memory","word"] (QT D):=by
 refine F.oa Ko F.b2 λcdv A' outer s' H vs Q E hr h=>?_;obtain⟨m,mx,c,xs,ws,y,mw,wd,s,g,rfl,M,gm,mv,lk,hk,k⟩:=h;refine⟨_,(PSs.nox (ak (bI (PW.pt (pw_and (aJ NH (pv 1) c8 (aS _)) (pw_and1 (aJ nY (bT cY (pv 1) au 1e7) cR (aS _)))))
   (ai (aG (fE (aa cR (aa (e7.c hr T.vg T.oo aY (aa (pv 0) (aa (bT cY (pv 1) au 1e7) aj))) aj)))))
   aO)
  (ai (aG (pv 1))))),?_⟩
 cases wd with
 | no =>
  have e:mw=.no:=lk;subst e;rcases mv with⟨_,rfl⟩|⟨n,_⟩
  ·exact⟨_,rfl,rfl,_,rfl,f9 rfl (tW ⟨_,rfl,k _ _ (aB.refl _) ⟨rfl,rfl⟩⟩)⟩
  ·exact absurd rfl n
 | num n =>
  have e:mw=.num n:=lk;subst e;obtain⟨_,q,rfl,hq⟩:=mv.resolve_left (λz=>by cases z.1);exact⟨_,rfl,rfl,_,rfl,iY rfl ⟨_,rfl,q,_,0,.str "number",rfl,rfl,SqT.of hq,rfl,rfl,_,rfl,f9 1e3 ⟨_,rfl,k _ _ (aB.refl _) (yZ hq)⟩⟩⟩
 | th t =>
  obtain⟨a,j,rfl,sm,rv⟩:=lk.th (hk t rfl);obtain⟨_,q,rfl,hq⟩:=mv.resolve_left (λz=>by cases z.1);exact⟨_,rfl,rfl,_,rfl,iY rfl ⟨_,rfl,q,_,0,.str "at",rfl,rfl,SqT.of hq,rfl,rfl,_,rfl,iY 1e3 ⟨_,rfl,_,rfl,q,_,1,.int a,rfl,rfl,SqT.of hq,rfl,m,mx,c,xs,ws,a,j,some (g t),rfl,M,gm,sm,rv,by show 2<=sizeLine;decide,λz hz=>k _ _ (aB.upd hz) (yZ ag)⟩⟩⟩
structure Sn(D:Ad)(H:Hp)(x:Addr)(A:HA)(s:HS)(m mx c:Addr)(xs:List V)(ws:List Mw)(hl:Addr)(ys:List V)(g:Int->Int):Prop where
 J:IH D H x A s
 G:Gd s
 M:Mm D H m mx c xs ws
 gm:Gm ws
 P:Pic ws s g
 hh:H hl=some (.lst ys)
 l8:ys.length=8
 hv:∀(i:Nat) (w:Wd) (y:V),s.aW[i]?=some w->ys[i]?=some y->∃ mw,MV H y mw/\Lk ws (kvG (keys s) g) w mw
 fh:¬bD x A s hl
 fm:¬bD x A s m
 fc:¬bD x A s c
 nc:hl≠c
section
variable{D:Ad}{H H':Hp}{x:Addr}{A A':HA}{s:HS}{m mx c:Addr}{xs:List V}{ws:List Mw}{hl:Addr}{ys:List V}{g:Int->Int}
theorem Sn.same(S:Sn D H x A s m mx c xs ws hl ys g)(k:aB H H'):Sn D H' x A s m mx c xs ws hl ys g :=
 ⟨S.J.same k,S.G,S.M.same k,S.gm,S.P,k _ _ S.hh,S.l8,λi w y h1 h2=>by obtain⟨mw,a,b⟩:=S.hv i w y h1 h2;exact⟨mw,a.keep (b7.of k),b⟩,S.fh,S.fm,S.fc,S.nc⟩
theorem Sn.hk(S:Sn D H x A s m mx c xs ws hl ys g){i:Nat}{w:Wd}(h:s.aW[i]?=some w):∀ t,w=.th t->t∈keys s:=λt e=>mem_keys.mpr (S.G.g.hh t (by rw[<-e];exact an9 h))
theorem Sn.at_(S:Sn D H x A s m mx c xs ws hl ys g){i:Nat}(hi:i<8):∃ w y mw,s.aW[i]?=some w/\ys[i]?=some y/\MV H y mw/\Lk ws (kvG (keys s) g) w mw:=by
 have h1:s.aW[i]?=some (s.aW[i]'(by rw[S.G.g.h8];exact hi)):=an4 _;have h2:ys[i]?=some (ys[i]'(by rw[S.l8];exact hi)):=an4 _;obtain⟨mw,a,b⟩:=S.hv i _ _ h1 h2;exact⟨_,_,mw,h1,h2,a,b⟩
theorem Pic.inj(P:Pic ws s g){t u:Int}(ht:t∈keys s)(hu:u∈keys s)(e:g t=g u):t=u:=by
 obtain⟨wt,mt⟩:=mem_keys.mp ht;obtain⟨wu,mu⟩:=mem_keys.mp hu;exact Decidable.byContradiction λn=>by have:=P.dj t wt u wu mt mu n;omega
end
theorem acL{g:Int->Int}(a b:Wd)(inj:∀ t u,a=.th t->b=.th u->g t=g u->t=u):eqD 1 (wv g a) (wv g b)=decide (a=b):=by
 have n1:eqV (.str "number") (.str "at")=false:=by decide +kernel
 have n2:eqV (.str "at") (.str "number")=false:=by decide +kernel
 have e1:eqV (.str "number") (.str "number")=true:=by decide +kernel
 have e2:eqV (.str "at") (.str "at")=true:=by decide +kernel
 cases a with
 | no=>cases b<;>simp[wv,eqD,eqV]
 | num x =>
  cases b with
  | no=>simp[wv,eqD]
  | num y=>simp[wv,eqD,aoU,e1,eqV];exact IQ x y
  | th y=>simp[wv,eqD,aoU,n1]
 | th x =>
  cases b with
  | no=>simp[wv,eqD]
  | num y=>simp[wv,eqD,aoU,n2]
  | th y =>
   simp[wv,eqD,aoU,e2,eqV];refine(IQ (g x) (g y)).trans ?_;by_cases h:x=y
   ·subst h;simp
   ·rw[decide_eq_false h,decide_eq_false λz=>h (inj x y rfl rfl z)]
theorem G4{ys:List V}{i:Nat}{y:V}{z:Int}(h:ys[i]?=some y)(e:z=(i:Int):=by omega):atI ys z=some y:=by subst e;exact yR h
noncomputable def QU(D:Ad):Sp:=λvs H Q _=>∃ x A s m mx c xs ws hl ys,∃ g:Int->Int,vs=[.ref x,.ref m,.ref hl]/\Sn D H x A s m mx c xs ws hl ys g/\∀ H',aB H H'->Q (.bl true) H'
noncomputable abbrev D8:List Str:=["heap","memory","hands","h","g","like"]
theorem jw:av D8 ["heap","memory","hands"] (ar nF):=fsc
theorem BU(F:Fun K "_law_alike_now" "_law_alike_now" nF D.cO D.iJ)(T:Txt K mg D)
  (xN:9e7 8 D.hJ D.oJ ["heap","h"] (TB D))
  (xO:9e7 9 D.hG D.oH ["memory","word"] (Tz D))
  (qh:9e7 9 D.fY D.mL ["memory","word"] (QT D))
  (j2:9e7 6 D.dv D.iH ["self","h","g"] (Qz D)):9e7 10 D.cO D.iJ ["heap","memory","hands"] (QU D):=by
 refine F.oa jw F.b3 λcdv A' outer s' H vs Q E hr h=>?_;obtain⟨x,A,s,m,mx,c,xs,ws,hl,ys,g,rfl,S,k⟩:=h;refine⟨_,(PSs.nox (ak (fP aom rfl (lj rfl T.pK (aa au aj)) (aX (i:=3) jw.nd rfl 1e4)
   (ak (bI (aJ (VZ (n:=1) (i9 hr)) (xN.c hr T.Ox T.xG aY (aa (pv 0) (aa (pv 3) aj))) (xO.c hr T.Ow T.xE aY (aa (pv 1) (aa (bT dC (pv 2) (pv 3) 1e7) aj))) (aS _))
    (ai (aG pe))
    aO)
   (ai (fP aom rfl (lj rfl T.pK (aa (aF bO (pv 3) au) aj)) (aX (i:=4) jw.nd rfl 1e4)
    (ak (aN (i:=5) jw.nd rfl 1e4 (tI (Sv (n:=1) (i9 hr)) (qh.c hr T.De T.qb aY (aa (pv 1) (aa (bT dC (pv 2) (pv 3) 1e7) aj))) (qh.c hr T.De T.qb aY (aa (pv 1) (aa (bT dC (pv 2) (pv 4) 1e7) aj))) (aS _)))
    (ai (bI (PW.pt (pw_or (aJ K9 (j2.m hr (pv 0) T.ae T.rK aY (aa (pv 3) (aa (pv 4) aj))) (pv 5) (aS _)) (pw_or1 (aJ K9 (j2.m hr (pv 0) T.ae T.rK aY (aa (pv 4) (aa (pv 3) aj))) (pv 5) (aS _)))))
     (ai (aG pe))
     aO)))))))
  (ai (aG pe)))),?_⟩
 have wl:=S.M.z;refine⟨8,rfl,by decide,by decide,qQ (lo:=0) (n:=Int.toNat 8) (λi σ Hx=>∃ v3 v4 v5,σ=[some (.ref x),some (.ref m),some (.ref hl),v3,v4,v5]/\aB H Hx) ⟨none,none,none,rfl,aB.refl _⟩ ?_ ?_⟩
 ·rintro i σ Hx hi ⟨v3,v4,v5,rfl,sx⟩
  have hi:i<8:=hi;have Sx:=S.same sx;obtain⟨w1,y1,m1,hw1,hy1,mv1,lk1⟩:=Sx.at_ hi;refine⟨_,rfl,_,rfl,x,A,s,_,w1,rfl,Sx.J,Sx.G.g,by omega,by omega,by rw[show(0+(i:Int)).toNat=i by omega];exact hw1,λu1 H1 s1 r1=>?_⟩;have S1:=Sx.same s1;refine⟨_,rfl,_,rfl,_,rfl,hl,_,_,y1,rfl,rfl,SqL.of S1.hh,G4 hy1,m,mx,c,xs,ws,y1,m1,w1,s,g,rfl,S1.M,S1.gm,wl,mv1.keep (b7.of s1),lk1,S1.P,S1.G.g,S1.hk hw1,λu2 H2 s2 r2=>?_⟩;refine⟨_,_,r1.same s2,r2,_,rfl,f9 (by rw[uo r2 r2];rfl) ?_⟩;have sy:=(sx.trans s1).trans s2;refine⟨_,rfl,_,1,rfl,rfl,_,rfl,by omega,by omega,qQ (lo:=0) (n:=(0+(i:Int)+1).toNat) (λj σ Hy=>∃ v4 v5,σ=[some (.ref x),some (.ref m),some (.ref hl),some (.int (0+(i:Int))),v4,v5]/\aB H Hy) ⟨v4,v5,rfl,sy⟩ ?_ ?_⟩
  ·rintro j σ Hy hj ⟨v4,v5,rfl,sy⟩
   have Sy:=S.same sy;have hj8:j<8:=1e1;obtain⟨w2,y2,m2,hw2,hy2,mv2,lk2⟩:=Sy.at_ hj8;obtain⟨m1',anW,anY⟩:=Sy.hv i w1 y1 hw1 hy1;refine⟨_,rfl,_,rfl,_,rfl,hl,_,_,y1,rfl,rfl,SqL.of Sy.hh,G4 hy1,m,mx,c,xs,ws,y1,m1',w1,s,g,rfl,Sy.M,Sy.gm,anW,anY,Sy.hk hw1,λu3 H3 s3 r3=>?_⟩;have S3:=Sy.same s3;refine⟨_,rfl,_,rfl,_,rfl,hl,_,_,y2,rfl,rfl,SqL.of S3.hh,G4 hy2,m,mx,c,xs,ws,y2,m2,w2,s,g,rfl,S3.M,S3.gm,mv2.keep (b7.of s3),lk2,S3.hk hw2,λu4 H4 s4 r4=>?_⟩;have S4:=S3.same s4;have e:eqD 1 (wv g w1) (wv g w2)=decide (w1=w2):=acL w1 w2 λt u et eu z=>S4.P.inj (S4.hk hw1 t et) (S4.hk hw2 u eu) z;refine⟨_,_,r3.same s4,r4,?_⟩;rw[e];have k1:wat s.aW (0+(i:Int))=some w1:=(if_pos ⟨by omega,by omega⟩).trans (by rw[show(0+(i:Int)).toNat=i by omega];exact hw1);have k2:wat s.aW (0+(j:Int))=some w2:=(if_pos ⟨by omega,by omega⟩).trans (by rw[show(0+(j:Int)).toNat=j by omega];exact hw2);refine⟨_,rfl,x,_,_,rfl,S4.J.ax,1e3,_,rfl,_,rfl,x,A,s,_,_,rfl,S4.J,S4.G.g,Sm.of 1e1 1e1,Sm.of 1e1 1e1,?_⟩;rw[k1,k2];refine⟨_,rfl,rfl,_,rfl,f9 (by simp) ?_⟩;refine⟨_,rfl,x,_,_,rfl,S4.J.ax,1e3,_,rfl,_,rfl,x,A,s,_,_,rfl,S4.J,S4.G.g,Sm.of 1e1 1e1,Sm.of 1e1 1e1,?_⟩;rw[k1,k2];refine⟨_,rfl,rfl,_,rfl,f9 (by rw[show decide (w2=w1)=decide (w1=w2) by simp only[eq_comm]];simp) ?_⟩;exact⟨_,_,rfl,(sy.trans s3).trans s4⟩
  ·rintro σ Hy ⟨v4,v5,rfl,sy⟩
   exact⟨_,_,_,rfl,sy⟩
 ·rintro σ Hx ⟨v3,v4,v5,rfl,sx⟩
  exact k Hx sx
theorem VI{s:HS}{h g k:Int}{er:Er}(e:(jg s h g k).1=some er):er=.hand\/er=.field:=by
 unfold jg at e;split at e
 ·split at e
  ·split at e
   ·cases e
   ·cases e;exact .inr rfl
  ·cases e;exact .inl rfl
 ·cases e;exact .inl rfl
theorem Xh{K:W.Frag}{C:Addr}{cd:ClassData}(x:h9 K C cd):cd.mro.contains (.ref C)=true:=by
 obtain⟨r,e⟩:=x.line;rw[e];simp
noncomputable def isN:Option Er->Bool
 | none=>true
 | _=>false
noncomputable def QV(D:Ad):Sp:=λvs H Q _=>∃ x A s,∃ h g kk:Int,vs=[.ref x,.int h,.int g,.int kk]/\IH D H x A s/\Good s/\Sm h/\Sm g/\Sm kk/\∀ A' H',IH D H' x A' (jg s h g kk).2->Fr (bD x A s) H (bD x A' (jg s h g kk).2) H'->Q (.bl (isN (jg s h g kk).1)) H'
noncomputable abbrev OX:List Str:=["heap","h","g","k","told"]
theorem uX:av OX ["heap","h","g","k"] (ar xu):=fsc
theorem ME(F:Fun K "_law_load" "_law_load" xu D.hR D.oK)(T:Txt K mg D)
  (k8:9e7 7 D.fz D.kX ["self","h","g","k"] (NQ D)):9e7 8 D.hR D.oK ["heap","h","g","k"] (QV D):=by
 refine F.oa uX F.b4 λcdv A' outer s' H vs Q E hr h=>?_;obtain⟨x,A,s,h,g,kk,rfl,J,G,h1,h2,h3,k⟩:=h;obtain⟨cdB,xB,_⟩:=T.Fy;obtain⟨cdF,xF,_⟩:=T.C9;refine⟨_,(PSs.nox (ak (aN (i:=4) uX.nd rfl 1e4 pe)
  (ak (Ym rfl rfl rfl T.vc rfl T.Fz xB xF (λpins E' EK hp=>ai (aI (k8.m hr (pv 0) T.ae T.rG hp (aa (pv 1) (aa (pv 2) (aa (pv 3) aj)))))) (λea=>ai (aN (i:=4) uX.nd rfl 1e4 pe)))
  (ai (aG (pv 4)))))),?_⟩
 refine⟨_,rfl,x,_,_,rfl,J.ax,1e3,_,rfl,_,rfl,_,rfl,x,A,s,h,g,kk,rfl,J,G,h1,h2,h3,?_⟩;intro A1 H1 J1 fr1;have k:=k A1 H1 J1 fr1;cases e:(jg s h g kk).1 with
 | none =>
  rw[e]at k;exact⟨_,rfl,k⟩
 | some er =>
  rw[e]at k;rcases VI e with rfl|rfl
  ·exact⟨D.br,cdB,rfl,xB,by rw[Xh xB];rfl,⟨_,rfl,k⟩⟩
  ·exact⟨D.fR,cdF,rfl,xF,by rw[Xh xF,Bool.or_true],⟨_,rfl,k⟩⟩
noncomputable def QW(D:Ad):Sp:=λvs H Q _=>∃ m mx c xs ws hl ys,∃(h g kk:Int) (s:HS) (gf:Int->Int) (wd:Wd) (y0:V) (mw0:Mw),vs=[.ref m,.ref hl,.int h,.int g,.int kk]/\Mm D H m mx c xs ws/\Gm ws/\Pic ws s gf/\Good s/\H hl=some (.lst ys)/\ys.length=8/\hl≠c/\0<=h/\h<8/\0<=g/\g<8/\0<=kk/\kk<7/\ys[g.toNat]?=some y0/\MV H y0 mw0/\Lk ws (kvG (keys s) gf) wd mw0/\(∀ t,wd=.th t->t∈keys s)/\(∀ t w y mw H',wd=.th t->(fld s t)[kk.toNat]?=some w->But hl H H'->H' hl=some (.lst (ys.set h.toNat y))->MV H' y mw->Lk ws (kvG (keys s) gf) w mw->Q (.bl true) H')/\((∀ t,wd=.th t->((fld s t).length:Int)<=kk)->∀ H',aB H H'->Q (.bl false) H')
noncomputable abbrev D9:List Str:=["memory","hands","h","g","k","told"]
theorem l9:av D9 ["memory","hands","h","g","k"] (ar nG):=fsc
theorem BV(F:Fun K "_law_load_here" "_law_load_here" nG D.cP D.iK)(T:Txt K mg D)
  (e7:9e7 5 D.fS D.jV ["memory","a"] (Kd D))
  (Ba:9e7 8 D.jc D.rb ["memory","a","k"] (Tx D)):9e7 10 D.cP D.iK ["memory","hands","h","g","k"] (QW D):=by
 refine F.oa l9 F.b5 λcdv A' outer s' H vs Q E hr h=>?_;obtain⟨m,mx,c,xs,ws,hl,ys,h,g,kk,s,gf,wd,y0,mw0,rfl,M,gm,P,G,hh,l8,nc,h0,h1,g0,g1,k0,k1,hy,mv,lk,hk,kt,kf⟩:=h;obtain⟨cdA,xA,_⟩:=T.Hh;refine⟨_,(PSs.nox (ak (bI (PW.pt (pw_or (aJ pP (bT dC (pv 1) (pv 3) 1e7) c8 (aS _)) (pw_or1 (aJ K9 (bT cY (bT dC (pv 1) (pv 3) 1e7) au 1e7) cR (aS _)))))
   (ai (aG pe))
   aO)
  (ak (aN (i:=5) l9.nd rfl 1e4 pe)
  (ak (NN rfl rfl rfl T.jr xA (λpins E' EK hp=>ai (mS (Ba.c hr T.RE T.AZ hp (aa (pv 0) (aa (e7.c hr T.vg T.oo hp (aa (pv 0) (aa (bT (r:=YM K) cY (bT (r:=aac K) dC (pv 1) (pv 3) 1e7) au 1e7) aj))) (aa (pv 4) aj)))) (pO (pv 1) (pv 2) set_list))) (λea=>ai (aN (i:=5) l9.nd rfl 1e4 pe)))
  (ai (aG (pv 5))))))),?_⟩
 have ey:∀ {Hx:Hp},Hx hl=some (.lst ys)->atI ys g=some y0:=λ_=>G4 hy 1e1;have ig:atI ys g=some y0:=G4 hy 1e1;cases wd with
 | no =>
  have e:mw0=.no:=lk;subst e;rcases mv with⟨_,rfl⟩|⟨n,_⟩
  ·exact⟨_,rfl,_,rfl,hl,_,g,.non,rfl,rfl,SqL.of hh,ig,rfl,_,rfl,iY rfl (u9 (kf (by intro t e;cases e) H (aB.refl _)))⟩
  ·exact absurd rfl n
 | num n =>
  have e:mw0=.num n:=lk;subst e;obtain⟨_,q,rfl,hq⟩:=mv.resolve_left (λz=>by cases z.1);exact⟨_,rfl,_,rfl,hl,_,g,.ref q,rfl,rfl,SqL.of hh,ig,rfl,_,rfl,f9 rfl ⟨_,rfl,_,rfl,hl,_,g,.ref q,rfl,rfl,SqL.of hh,ig,q,_,0,.str "number",rfl,rfl,SqT.of hq,rfl,rfl,_,rfl,iY 1e3 (kf (by intro t e;cases e) H (aB.refl _))⟩⟩
 | th t =>
  have mt:=hk t rfl;obtain⟨a,j,rfl,sm,rv⟩:=lk.th mt;obtain⟨_,q,rfl,hq⟩:=mv.resolve_left (λz=>by cases z.1);obtain⟨ws',mw'⟩:=mem_keys.mp mt;have tg:=P.thg mw';obtain⟨p0,p1,_,pf⟩:=P.hd t ws' mw';have z:=M.z;have ef:=G.fld mw';refine⟨_,rfl,_,rfl,hl,_,g,.ref q,rfl,rfl,SqL.of hh,ig,rfl,_,rfl,f9 rfl ⟨_,rfl,_,rfl,hl,_,g,.ref q,rfl,rfl,SqL.of hh,ig,q,_,0,.str "at",rfl,rfl,SqT.of hq,rfl,rfl,_,rfl,f9 1e3 ?_⟩⟩;refine⟨_,rfl,_,rfl,_,rfl,_,rfl,hl,_,g,.ref q,rfl,rfl,SqL.of hh,ig,q,_,1,.int a,rfl,rfl,SqT.of hq,rfl,m,mx,c,xs,ws,a,j,some (gf t),rfl,M,gm,sm,rv,?_⟩;refine⟨_,rfl,m,mx,c,xs,ws,gf t,kk,t,(ws'.length:Int),rfl,M,gm,Sm.of 1e1 1e1,Sm.of 1e1 1e1,by omega,tg,?_⟩;by_cases cl:kk<(ws'.length:Int)
  ·rw[if_pos ⟨k0,cl⟩]
   intro v w H1 s1 hw mv1;have hi:ws'[kk.toNat]?=some (ws'[kk.toNat]' 1e1):=an4 _;obtain⟨wi,ei⟩:∃ wi,ws'[kk.toNat]' 1e1=wi:=⟨_,rfl⟩;rw[ei]at hi;obtain⟨mwi,e1,lk1⟩:=pf kk.toNat wi hi;rw[show(gf t+1+kk).toNat=(gf t).toNat+1+kk.toNat by omega,e1]at hw;cases hw;refine⟨_,rfl,_,rfl,hl,_,h,h.toNat,rfl,rfl,s1 _ _ hh,A5 h0 1e1,⟨_,rfl,?_⟩⟩;refine kt t wi v _ _ rfl (by rw[ef];exact hi) ((But.same s1).trans But.self) ag (mv1.keep (b7.set (s1 _ _ hh) (by intro z y;cases y))) lk1
  ·rw[if_neg (λz=>cl z.2)]
   intro H1 s1;exact⟨D.aZ,cdA,rfl,xA,Xh xA,⟨_,rfl,kf (by intro u e;cases e;rw[ef];omega) H1 s1⟩⟩
theorem Sn.put{D:Ad}{H:Hp}{x:Addr}{A:HA}{s:HS}{m mx c:Addr}{xs:List V}{ws:List Mw}{hl:Addr}{ys:List V}{g:Int->Int}(S:Sn D H x A s m mx c xs ws hl ys g){h:Int}{w:Wd}{A1:HA}{H1 H2:Hp}{y:V}{mw:Mw}(J1:IH D H1 x A1 (oZ s h w))(fr1:Fr (bD x A s) H (bD x A1 (oZ s h w)) H1)(g1:Gd (oZ s h w))(bu:But hl H1 H2)(z:H2 hl=some (.lst (ys.set h.toNat y)))(mv:MV H2 y mw)(lk:Lk ws (kvG (keys s) g) w mw) :
  Sn D H2 x A1 (oZ s h w) m mx c xs ws hl (ys.set h.toNat y) g/\∀ b u,¬bD x A s b->b≠hl->H b=some u->H2 b=some u/\¬bD x A1 (oZ s h w) b:=by
 have oh:=fr1.out S.fh S.hh;have om:=fr1.out S.fm S.M.i;have oc:=fr1.out S.fc S.M.l;have t2:b7 H1 H2:=λb us q=>bu b _ (λz=>by rw[z,oh.1]at q;cases q) q;have t0:b7 H H2:=fr1.tup.trans t2;refine⟨⟨J1.keep (λb u f q=>bu b u (λz=>oh.2 (by rw[<-z];exact f)) q) t2,g1,⟨bu _ _ (az om.1 oh.1 1e0) om.1,bu _ _ (aol S.nc) oc.1,S.M.r.keep t0,S.M.z⟩,S.gm,⟨S.P.hd,S.P.dj⟩,z,by rw[aoD];exact S.l8,λi w' y' h1 h2=>?_,oh.2,om.2,oc.2,S.nc⟩,λb u nf nb q=>?_⟩
 ·have h1:(s.aW.set h.toNat w)[i]?=some w':=h1
  rw[apT]at h1 h2;by_cases e:h.toNat=i
  ·rw[if_pos e]at h1 h2
   split at h1
   ·split at h2
    ·cases h1;cases h2;exact⟨mw,mv,lk⟩
    ·cases h2
   ·cases h1
  ·rw[if_neg e]at h1 h2
   obtain⟨mw',a,b⟩:=S.hv i w' y' h1 h2;exact⟨mw',a.keep t0,b⟩
 ·have o:=fr1.out nf q
  exact⟨bu _ _ nb o.1,o.2⟩
theorem Sn.Le{D:Ad}{H:Hp}{x:Addr}{A:HA}{s:HS}{m mx c:Addr}{xs:List V}{ws:List Mw}{hl:Addr}{ys:List V}{g:Int->Int}(S:Sn D H x A s m mx c xs ws hl ys g){A1:HA}{H1:Hp}(J1:IH D H1 x A1 s)(fr1:Fr (bD x A s) H (bD x A1 s) H1) :
  Sn D H1 x A1 s m mx c xs ws hl ys g/\∀ b u,¬bD x A s b->H b=some u->H1 b=some u/\¬bD x A1 s b:=by
 have oh:=fr1.out S.fh S.hh;have om:=fr1.out S.fm S.M.i;have oc:=fr1.out S.fc S.M.l;refine⟨⟨J1,S.G,⟨om.1,oc.1,S.M.r.keep fr1.tup,S.M.z⟩,S.gm,S.P,oh.1,S.l8,λi w' y' h1 h2=>?_,oh.2,om.2,oc.2,S.nc⟩,λb u nf q=>fr1.out nf q⟩;obtain⟨mw',a,b⟩:=S.hv i w' y' h1 h2;exact⟨mw',a.keep fr1.tup,b⟩
noncomputable def TC(D:Ad):Sp:=λvs H Q _=>∃ x A s m mx c xs ws hl ys,∃(g:Int->Int) (number:Int),vs=[.ref x,.ref m,.ref hl,.int number]/\Sn D H x A s m mx c xs ws hl ys g/\s.nxt<10000/\∀ A' s' ys' H',Sn D H' x A' s' m mx c xs ws hl ys' g->s'.nxt=s.nxt->(∀ b u,¬bD x A s b->b≠hl->H b=some u->H' b=some u/\¬bD x A' s' b)->Q (.bl true) H'
noncomputable abbrev OY:List Str:=["heap","memory","hands","number","h","g","k"]
theorem qi:av OY ["heap","memory","hands","number"] (ar xv):=fsc
theorem MF(F:Fun K "_law_both" "_law_both" xv D.hU D.oO)(T:Txt K mg D)
  (xP:9e7 8 D.hR D.oK ["heap","h","g","k"] (QV D))
  (nX:9e7 10 D.cP D.iK ["memory","hands","h","g","k"] (QW D))
  (k9:9e7 6 D.fA D.kY ["self","h","g"] (NO D))
  (lg:9e7 5 D.fB D.kZ ["self","h"] (NP D)):9e7 11 D.hU D.oO ["heap","memory","hands","number"] (TC D):=by
 refine F.oa qi F.b4 λcdv A' outer s' H vs Q E hr h=>?_;obtain⟨x,A,s,m,mx,c,xs,ws,hl,ys,g,number,rfl,S,few,k⟩:=h;refine⟨_,(PSs.nox (ak (aN (i:=4) qi.nd rfl 1e4 (aF eF (aF jT (pv 3) au) au))
  (ak (aN (i:=5) qi.nd rfl 1e4 (aF eF (aF jT (pv 3) au) au))
  (ak (bI (aJ u7 (aF eF (pv 3) au) au (aS _))
   (ak (aN (i:=6) qi.nd rfl 1e4 (aF eF (aF jT (pv 3) au) au))
   (ai (aG (tI nY (xP.c hr T.Oy T.xI aY (aa (pv 0) (aa (pv 4) (aa (pv 5) (aa (pv 6) aj))))) (nX.c hr T.DI T.nK aY (aa (pv 1) (aa (pv 2) (aa (pv 4) (aa (pv 5) (aa (pv 6) aj)))))) (aS _)))))
   aO)
  (ak (bI (aJ nY (aF eF (pv 3) au) au (aS _))
   (ak (aI (k9.m hr (pv 0) T.ae T.rH aY (aa (pv 4) (aa (pv 5) aj))))
   (ai (mS (bT dC (pv 2) (pv 5) 1e7) (pO (pv 2) (pv 4) set_list))))
   (ai (bI (aJ nY (aF eF (aF jT (pv 3) au) au) au (aS _))
    (ak (aI (lg.m hr (pv 0) T.ae T.rJ aY (aa (pv 4) aj)))
    (ai (mS c8 (pO (pv 2) (pv 4) set_list))))
    aO)))
  (ai (aG pe))))))),?_⟩
 have h0:=aoA (number/4) (show(8:Int)≠0 by decide);have h1:=aor (number/4) (show(0:Int)<8 by decide);have q0:=aoA (number/32) (show(8:Int)≠0 by decide);have q1:=aor (number/32) (show(0:Int)<8 by decide);obtain⟨h,eh⟩:∃ h:Int,number/4%8=h:=⟨_,rfl⟩;obtain⟨q,eq⟩:∃ q:Int,number/32%8=q:=⟨_,rfl⟩;rw[eh]at h0 h1;rw[eq]at q0 q1;refine⟨_,rfl,number,4,rfl,rfl,⟨by decide,by decide⟩,_,8,rfl,rfl,(by show(0:Int)<8;decide),?_⟩;show tS 4 (V.int (number/4%8)) _ _ _;rw[eh];refine⟨_,rfl,number,32,rfl,rfl,⟨by decide,by decide⟩,_,8,rfl,rfl,(by show(0:Int)<8;decide),?_⟩;show tS 5 (V.int (number/32%8)) _ _ _;rw[eq];obtain⟨wd,y0,mw0,hw,hy,mv,lk⟩:=S.at_ (i:=q.toNat) 1e1;have ew:wat s.aW q=some wd:=(if_pos ⟨q0,q1⟩).trans hw;have hk:=S.hk hw;have o8:ok8 h:=⟨h0,h1⟩;have ig:atI ys q=some y0:=G4 hy 1e1;have sh:Sm h:=Sm.of 1e1 1e1;have sq:Sm q:=Sm.of 1e1 1e1;refine⟨_,rfl,number,4,rfl,rfl,(by show(0:Int)<4;decide),_,2,rfl,rfl,_,rfl,dH (λ_=>?_) (λ_=>?_)⟩
 ·have k0:=aoA (number/256) (show(7:Int)≠0 by decide)
  have k1:=aor (number/256) (show(0:Int)<7 by decide);obtain⟨kk,ek⟩:∃ kk:Int,number/256%7=kk:=⟨_,rfl⟩;rw[ek]at k0 k1;refine⟨_,rfl,number,256,rfl,rfl,⟨by decide,by decide⟩,_,7,rfl,rfl,(by show(0:Int)<7;decide),?_⟩;show tS 6 (V.int (number/256%7)) _ _ _;rw[ek];refine⟨_,rfl,_,rfl,_,rfl,_,rfl,x,A,s,h,q,kk,rfl,S.J,S.G.g,sh,sq,Sm.of 1e1 1e1,λA1 H1 J1 fr1=>?_⟩;obtain⟨g3,_,_⟩:=UO S.G few (dd:=.load h q kk) ⟨⟨h0,h1⟩,⟨q0,q1⟩,k0,by omega⟩;replace g3:Gd (jg s h q kk).2:=g3;have oh:=fr1.out S.fh S.hh;have om:=fr1.out S.fm S.M.i;have oc:=fr1.out S.fc S.M.l;have M1:Mm D H1 m mx c xs ws:=⟨om.1,oc.1,S.M.r.keep fr1.tup,S.M.z⟩;refine⟨_,rfl,_,rfl,_,rfl,_,rfl,_,rfl,m,mx,c,xs,ws,hl,ys,h,q,kk,s,g,wd,y0,mw0,rfl,M1,S.gm,S.P,S.G.g,oh.1,S.l8,S.nc,h0,h1,q0,q1,k0,k1,hy,mv.keep fr1.tup,lk,hk,λt w y mw H2 et hf bu z mv2 lk2=>?_,λhn H2 s2=>?_⟩
  ·have lt:=(an5.mp hf).1
   have ed:jg s h q kk=(none,oZ s h w):=by
    unfold jg;rw[if_pos o8,ew,et];show(if 0<=kk/\kk<((fld s t).length:Int) then _ else _)=_;rw[if_pos ⟨k0,by omega⟩,ao4,hf];rfl
   rw[ed]at J1 fr1 g3 ⊢;obtain⟨S2,fr⟩:=S.put J1 fr1 g3 bu z mv2 lk2;exact⟨rfl,k A1 _ _ H2 S2 rfl fr⟩
  ·have ed:∃ er,jg s h q kk=(some er,s):=by
    unfold jg;rw[if_pos o8,ew];cases wd with
    | no=>exact⟨_,rfl⟩
    | num n=>exact⟨_,rfl⟩
    | th t =>
     have:=hn t rfl
     exact⟨.field,if_neg 1e1⟩
   obtain⟨er,ed⟩:=ed;rw[ed]at J1 fr1 ⊢;obtain⟨S1,fr⟩:=S.Le J1 fr1;exact⟨rfl,k A1 s ys H2 (S1.same s2) rfl λb u nf _ hb=>⟨s2 _ _ (fr b u nf hb).1,(fr b u nf hb).2⟩⟩
 ·refine⟨_,rfl,number,4,rfl,rfl,(by show(0:Int)<4;decide),rfl,_,rfl,dH (λ_=>?_) (λ_=>?_)⟩
  ·refine⟨_,rfl,x,_,_,rfl,S.J.ax,1e3,_,rfl,_,rfl,x,A,s,h,q,rfl,S.J,S.G.g,sh,sq,?_⟩
   obtain⟨g3,_,_⟩:=UO S.G few (dd:=.copy h q) ⟨⟨h0,h1⟩,q0,q1⟩;replace g3:Gd (tU s h q).2:=g3;have ed:tU s h q=(none,oZ s h wd):=(by unfold tU;rw[if_pos o8,ew]);rw[ed]at g3 ⊢;intro A1 H1 J1 fr1;have oh:=fr1.out S.fh S.hh;refine⟨_,rfl,_,rfl,hl,_,q,y0,rfl,rfl,SqL.of oh.1,ig,_,rfl,_,rfl,hl,_,h,h.toNat,rfl,rfl,oh.1,A5 h0 (by rw[S.l8];omega),?_⟩;have tk:b7 H1 (upd H1 hl (.lst (ys.set h.toNat y0))):=b7.set oh.1 (by intro z y;cases y);obtain⟨S2,fr⟩:=S.put J1 fr1 g3 But.self ag ((mv.keep fr1.tup).keep tk) lk;exact k A1 _ _ _ S2 rfl fr
  ·refine⟨_,rfl,number,256,rfl,rfl,⟨by decide,by decide⟩,_,3,rfl,rfl,(by show(0:Int)<3;decide),rfl,_,rfl,dH (λ_=>?_) (λ_=>?_)⟩
   ·refine⟨_,rfl,x,_,_,rfl,S.J.ax,1e3,_,rfl,x,A,s,h,rfl,S.J,S.G.g,sh,?_⟩
    obtain⟨g3,_,_⟩:=UO S.G few (dd:=.drop h) ⟨h0,h1⟩;replace g3:Gd (yP s h).2:=g3;have ed:yP s h=(none,oZ s h .no):=if_pos o8;rw[ed]at g3 ⊢;intro A1 H1 J1 fr1;have oh:=fr1.out S.fh S.hh;refine⟨_,rfl,_,rfl,hl,_,h,h.toNat,rfl,rfl,oh.1,A5 h0 (by rw[S.l8];omega),?_⟩;obtain⟨S2,fr⟩:=S.put (y:=.non) (mw:=.no) J1 fr1 g3 But.self ag (.inl ⟨rfl,rfl⟩) rfl;exact k A1 _ _ _ S2 rfl fr
   ·exact k A s ys H S rfl λb u nf _ hb=>⟨hb,nf⟩
theorem Mm.nf{D:Ad}{H:Hp}{x:Addr}{A:HA}{s:HS}{m mx c:Addr}{xs:List V}{ws:List Mw}(J:IH D H x A s)(M:Mm D H m mx c xs ws):¬bD x A s m:=λf=>by
 have i:=M.i;have e1:("words_held" : Str) ≠ "cells" := by decide +kernel
 have e2:("things_named" : Str) ≠ "cells" := by decide +kernel
 cases f with
 | x=>rw[J.ax]at i;exact absurd (aos i) (k6 (show(11:Nat)≠1 by decide))
 | hd=>rw[J.ahd]at i;injection i with i;injection i with _ _ i;injection i with i _;injection i with i _;exact e1 i
 | nt=>rw[J.ant]at i;injection i with i;injection i with _ _ i;injection i with i _;injection i with i _;exact e2 i
 | wt=>rw[J.awt]at i;exact absurd (aos i) (k6 (show(2:Nat)≠1 by decide))
 | hl=>rw[J.ahl]at i;cases i
 | nl=>rw[J.anl]at i;cases i
 | wl=>rw[J.awl]at i;cases i
 | wb=>rw[J.awb]at i;cases i
 | fh=>rw[J.afh]at i;cases i
 | yg=>rw[J.ayg]at i;cases i
 | dm=>rw[J.adm]at i;cases i
 | fl mm=>rw[(J.afl _ _ mm).1]at i;cases i
theorem Wm{K:W.Frag}{H H':Hp}{a:Addr}{xs:List V}(h:SqL K H a xs)(s:∀ u,H a=some u->H' a=some u):SqL K H' a xs:=Or.imp (λr=>Or.elim r (λe=>.inl (s _ e)) λ⟨o,e⟩=>.inr ⟨o,s _ e⟩) id h
noncomputable abbrev acM:List Str:=["script","heap","model","hands","names","book","memory","k","cell","rest","turn","number"]
theorem pU:av acM ["script"] (ar Xa):=fsc
theorem Z2(F:Fun K "law" "law" Xa D.Lb D.Rm)(T:Txt K mg D)
  (xQ:9e7 11 D.g9 D.oE ["script","most"] (QR K D))
  (hW:9e7 1 D.fD D.jS ["script","k"] (Ja K))
  (bJ:9e7 1 D.c7 D.gY ["cell","k"] (yo))
  (uY:9e7 7 D.fX D.mK ["heap","seed"] (QS D))
  (tm:9e7 5 D.eY D.kC ["model"] (Tv D))
  (uZ:9e7 10 D.fU D.mC ["ideal","memory","hands","names","book"] (QP D))
  (j3:9e7 10 D.cO D.iJ ["heap","memory","hands"] (QU D))
  (xR:9e7 11 D.hU D.oO ["heap","memory","hands","number"] (TC D)):9e7 12 D.Lb D.Rm ["script"] (UP K):=by
 refine F.oa pU F.b1 λcdv A' outer s' H vs Q E hr h=>?_;obtain⟨a,ns,rfl,hS,hlen,k⟩:=h;have hu:=i9 hr;refine⟨_,(PSs.nox (ak (aN (i:=1) pU.nd rfl 1e4 (xQ.c hr T.Ov T.xD aY (aa (pv 0) (aa au aj))))
  (ak (mS (uY.c hr T.L4 T.uN aY (aa (pv 1) (aa (aF eF (hW.c hr T.xy T.oW aY (aa (pv 0) (aa au aj))) (aF yQ au au)) aj))) (vR rfl (dG (aX (i:=2) pU.nd rfl 1e4) (dG (aX (i:=3) pU.nd rfl 1e4) (dG (aX (i:=4) pU.nd rfl 1e4) (dG (aX (i:=5) pU.nd rfl 1e4) qZ))))))
  (ak (aN (i:=6) pU.nd rfl 1e4 (tm.c hr T.JM T.sU aY (aa (pv 2) aj)))
  (ak (bI (PW.pt (pw_or (aJ Yl (uZ.c hr T.LZ T.uK aY (aa (pv 1) (aa (pv 6) (aa (pv 3) (aa (pv 4) (aa (pv 5) aj)))))) pe (aS _)) (pw_or1 (mR (uj (j3.c hr T.tM T.jY aY (aa (pv 1) (aa (pv 6) (aa (pv 3) aj)))))))))
   (ai (aG pe))
   aO)
  (ak (fP aom rfl (vQ rfl T.hV (aa (pv 0) aj)) (vR rfl (dG (aX (i:=7) pU.nd rfl 1e4) (dG (aX (i:=8) pU.nd rfl 1e4) qZ)))
   (ak (aN (i:=9) pU.nd rfl 1e4 (aF eF (pv 8) (aF yQ au au)))
   (ak (fP aom rfl (lj rfl T.pK (aa (aF bO au (aF eF (pv 9) au)) aj)) (aX (i:=10) pU.nd rfl 1e4)
    (ak (aN (i:=11) pU.nd rfl 1e4 (bT dC (pQ (aa (aF eF (aF jT (pv 9) au) (aF yQ au au)) (aa (bJ.c hr T.i6 T.fZ aY (aa (pv 9) (aa (aF bO (aF bO au (aF j9 au (pv 7))) (pv 10)) aj))) aj))) (aF eF (pv 7) au) 1e7))
    (ak (aN (i:=9) pU.nd rfl 1e4 (aF jT (pv 9) au))
    (ai (bI (mR (uj (xR.c hr T.Oz T.xJ aY (aa (pv 1) (aa (pv 6) (aa (pv 3) (aa (pv 11) aj)))))))
     (ai (aG pe))
     aO)))))
   (ai (bI (mR (uj (j3.c hr T.tM T.jY aY (aa (pv 1) (aa (pv 6) (aa (pv 3) aj))))))
    (ai (aG pe))
    aO)))))
  (ai (aG pe)))))))),?_⟩
 refine⟨_,rfl,a,ns,60,rfl,hS,hlen,by decide,by decide,λx A s H1 J Gs nx s1 F1=>?_⟩;refine⟨_,rfl,_,rfl,a,ns,2,rfl,s1.seq hS,by decide,10,60,rfl,rfl,⟨by decide,by decide⟩,_,_,rfl,rfl,(by show(0:Int)<10 ^ Int.toNat 60;decide +kernel),x,A,s,_,rfl,J,Gs,by omega,λr ml hl nl bl mys ys zs ps ws g H2 s2 hhl hr' zm rm wl gm pic zh lh hh zn ln hn zb pb=>?_⟩;refine⟨r,_,rfl,SqT.of hr',rfl,_,_,rfl,_,_,rfl,_,_,rfl,_,_,rfl,rfl,?_⟩;refine⟨_,rfl,ml,mys,ws,rfl,zm,rm,wl,λm mx c H3 s3 hc M3=>?_⟩;have J3:=(J.same s2).same s3;have S3:Sn D H3 x A s m mx c mys ws hl ys g:=⟨J3,Gs,M3,gm,pic,s3 _ _ zh,lh,λi w y h1 h2=>by obtain⟨mw,e1,e2⟩:=hh i w y h1 h2;exact⟨mw,e1.keep (b7.of s3),e2⟩,J.fresh hhl,Mm.nf J3 M3,(J.same s2).fresh hc,aq zh hc⟩;have a3:∀ u,H a=some u->H3 a=some u/\¬bD x A s a:=λu q=>⟨s3 _ _ (s2 _ _ (s1 _ _ q)),λf=>by rw[F1 a f]at q;cases q⟩;have nah:∀ u,H a=some u->a≠hl:=λu q=>aq (s1 _ _ q) hhl;refine⟨_,rfl,_,rfl,_,rfl,_,rfl,_,rfl,x,A,s,m,mx,c,mys,ws,bl,ps,g,hl,nl,ys,zs,rfl,⟨J3,Gs.g,M3,gm,pic,s3 _ _ zb,pb.keep (b7.of s3),by omega⟩,s3 _ _ zh,s3 _ _ zn,lh,ln,S3.hv,(λi n y h1 h2=>by obtain⟨mw,e1,e2⟩:=hn i n y h1 h2;exact⟨mw,e1.keep (b7.of s3),e2⟩),λH4 s4=>⟨true,true,rfl,rfl,_,rfl,f9 rfl ?_⟩⟩;have S4:=S3.same s4;refine⟨_,rfl,_,rfl,_,rfl,x,A,s,m,mx,c,mys,ws,hl,ys,g,rfl,S4,λH5 s5=>⟨true,rfl,tW ?_⟩⟩;have S5:=S4.same s5;have a5:∀ u,H a=some u->H5 a=some u/\¬bD x A s a:=λu q=>⟨s5 _ _ (s4 _ _ (a3 u q).1),(a3 u q).2⟩;clear S3 S4 a3 J3 M3 zh zn zb pb hh hn pic gm s2 s3 s4 s5 hr' zm;refine⟨_,rfl,a,rfl,⟨_,Wm hS λu q=>(a5 u q).1⟩,rD (K:=K) (a:=a) (xs:=ns.map V.int) (λi σ Hx=>∃ A s ys v7 v8 v9 v10 v11,σ=[some (.ref a),some (.ref x),some (.ref ml),some (.ref hl),some (.ref nl),some (.ref bl),some (.ref m),v7,v8,v9,v10,v11]/\Sn D Hx x A s m mx c mys ws hl ys g/\s.nxt<=90/\∀ u,H a=some u->Hx a=some u/\¬bD x A s a) ⟨A,s,ys,none,none,none,none,none,rfl,S5,by omega,a5⟩ (λi σ Hx _ ⟨_,_,_,_,_,_,_,_,_,_,_,ax⟩=>Wm hS λu q=>(ax u q).1) ?_ ?_⟩
 ·rintro i v σ Hx tp hi ⟨A,s,ys,v7,v8,v9,v10,v11,rfl,Sx,nx,ax⟩ htp
  rw[aog]at hi;obtain⟨zc,hz,rfl⟩:=aoo.mp hi;have il:i<ns.length:=(an5.mp hz).1;have t1:=aB.upd (o:=.tup [.int (i:Int),.int zc]) htp;refine⟨tp,_,rfl,SqT.of ag,rfl,_,_,rfl,_,_,rfl,rfl,?_⟩;refine⟨_,rfl,10,60,rfl,rfl,⟨by decide,by decide⟩,zc,_,rfl,rfl,(by show(0:Int)<10 ^ Int.toNat 60;decide +kernel),?_⟩;obtain⟨r,er⟩:∃ r:Int,zc%10 ^ Int.toNat 60=r:=⟨_,rfl⟩;show tS 9 (V.int (zc%10 ^ Int.toNat 60)) _ _ _;rw[er];have r0:=aoA r (show(3:Int)≠0 by decide);have r4:=aor r (show(0:Int)<3 by decide);refine⟨_,rfl,r,3,rfl,rfl,(by show(0:Int)<3;decide),1,_,rfl,rfl,_,rfl,by omega,by omega,qQ (lo:=0) (n:=(1+r%3).toNat) (λj σ Hy=>∃ A s ys,∃(r:Int) (v10 v11:Option V),σ=[some (.ref a),some (.ref x),some (.ref ml),some (.ref hl),some (.ref nl),some (.ref bl),some (.ref m),some (.int (i:Int)),some (.int zc),some (.int r),v10,v11]/\Sn D Hy x A s m mx c mys ws hl ys g/\s.nxt<=90/\∀ u,H a=some u->Hy a=some u/\¬bD x A s a) ⟨A,s,ys,r,v10,v11,rfl,Sx.same t1,nx,λu q=>⟨t1 _ _ (ax u q).1,(ax u q).2⟩⟩ ?_ ?_⟩
  ·rintro j σ Hy hj ⟨A,s,ys,r',v10,v11,rfl,Sy,ny,ay⟩
   refine⟨_,rfl,r',3,rfl,rfl,⟨by decide,by decide⟩,10,9,rfl,rfl,⟨by decide,by decide⟩,_,_,rfl,rfl,(by show(0:Int)<10 ^ Int.toNat 9;decide +kernel),_,rfl,_,rfl,3,_,rfl,rfl,.inl ⟨by decide,by decide⟩,800,_,rfl,rfl,_,rfl,_,_,rfl,rfl,r',_,rfl,by omega,by omega,λrm m0 m1=>⟨by show 2<=sizeLine;decide,λl2 hl2=>?_⟩⟩;have k0:=aoA (i:Int) (show(2:Int)≠0 by decide);have k2:=aor (i:Int) (show(0:Int)<2 by decide);obtain⟨y,hy⟩:∃ y:Int,atI [V.int (r' / 3%10 ^ Int.toNat 9),V.int rm] ((i:Int)%2)=some (.int y):=by
    rcases(show(i:Int)%2=0\/(i:Int)%2=1 by omega) with e|e
    ·rw[e];exact⟨_,rfl⟩
    ·rw[e];exact⟨_,rfl⟩
   have t2:=aB.upd (o:=.lst [V.int (r' / 3%10 ^ Int.toNat 9),V.int rm]) hl2;refine⟨_,rfl,(i:Int),2,rfl,rfl,(by show(0:Int)<2;decide),l2,_,_,.int y,rfl,rfl,SqL.of ag,hy,?_⟩;refine⟨_,rfl,r',1000,rfl,rfl,⟨by decide,by decide⟩,?_⟩;have S6:=Sy.same t2;refine⟨_,rfl,_,rfl,_,rfl,_,rfl,x,A,s,m,mx,c,mys,ws,hl,ys,g,y,rfl,S6,by omega,λA7 s7 ys7 H7 S7 n7 fr=>⟨true,rfl,tW ?_⟩⟩;exact⟨A7,s7,ys7,_,_,_,rfl,S7,by omega,λu q=>fr a u (ay u q).2 (nah u q) (t2 _ _ (ay u q).1)⟩
  ·rintro σ Hy ⟨A,s,ys,r',v10,v11,rfl,Sy,ny,ay⟩
   refine⟨_,rfl,_,rfl,_,rfl,x,A,s,m,mx,c,mys,ws,hl,ys,g,rfl,Sy,λH8 s8=>⟨true,rfl,tW ?_⟩⟩;exact⟨A,s,ys,_,_,_,_,_,rfl,Sy.same s8,ny,λu q=>⟨s8 _ _ (ay u q).1,(ay u q).2⟩⟩
 ·rintro σ Hx ⟨A,s,ys,v7,v8,v9,v10,v11,rfl,Sx,nx,ax⟩
  exact k _
end
open PySem.W
section
variable{K:Frag}
noncomputable def LK(K:Frag)(n q:Str)(s:Stmt)(f:Addr):Prop:=(∃ d,Fun K n q s f d)/\keepIn K (.ref f)=true/\isFn K (.ref f)=true
theorem LK.mk{n q:Str}{s:Stmt}{f:Addr}{od an:Option Addr}{sl:Array (Option Value)}{oc kV dc pm cd ct:Value}(h1:K.lookup f=some ⟨oc,od,.func (fnOf n q (lq s) (jU s) (ar s) .none kV dc pm an cd ct),sl⟩)(h2:codeIn K cd q=true)(h3:keepIn K (.ref f)=true)(h4:isFn K (.ref f)=true):LK K n q s f:=⟨⟨_,ZC (st:=s) h1 h2 h3⟩,h3,h4⟩
noncomputable def FI(K:Frag)(c:Addr)(n:Str)(f:Addr):Prop:=findIn K (.ref c) n=some (some (.ref f))
noncomputable def NF(K:Frag)(c:Addr)(n:Str):Prop:=findIn K (.ref c) n=some none
structure PK(K:Frag)(c:Addr):Prop where
 g:plainGet K c Str.empty=true
 d:hasDictIn K c=true
 o:plainOver K c=true
 s:findIn K (.ref c) "__setattr__" = some (some (.builtin "object.__setattr__"))
 k:keepIn K (.ref c)=true
structure EK(K:Frag)(b e i:Addr):Prop where
 x:NV K e=true
 a:findIn K (.ref e) "__getattribute__" = some (some (.builtin "BaseException.__getattribute__"))
 t:findIn K (.ref e) "__getattr__" = some none
 c:findIn K (.ref e) "__class__" = some (some (.builtin "object.__class__"))
 i:findIn K (.ref e) "__init__" = some (some (.ref i))
 k:keepIn K (.ref e)=true
 v:kitOne K (.ref e) (.type "ValueError")=some true
 s:mroIn K e (.ref b)=some true
end
theorem all_mk{l:OpenLaw}{w:World}{K:Frag}{h:Heap}{mg:Str->Option Value}{fa aK dz br fQ fR aZ cF iR kS jx jy a6 aL aD a7 ab bK ao dN cJ eC gC cc bj cX cH cM jb fS jc gp eN c5 dO fU dP ck dQ cN bw bG jz g4 de bX bL fu gU ft fg gi gW ba bP di cB fV bQ dq cS bF cC cI cf fz fi fA fB dJ gq bM g7 bB cZ bo bc bt eS bR dr dt du cT cD dv dw bN cU dX bS cp cq bC aP cV cW eV dB gX aU fD c7 dR g8 fW g9 eW eX fX eY hG hJ fY cO hR cP hU Lb:Addr}{IL pW oe pX pY pZ me:Tok}(X:K.In h)(G:h.Ns mainGlobals mg)(hfa:mg "law" = some (.ref fa))
  (nH:nsIn K mainGlobals "HeapError" = some (some (.ref aK)))
  (xH:NV K aK=true)
  (HQ:nsIn K mainGlobals "number_value" = some (some (.ref dN)))
  (Kq:nsIn K mainGlobals "thing_value" = some (some (.ref cJ)))
  (Ut:nsIn K mainGlobals "kind_of" = some (some (.ref eC)))
  (RS:nsIn K mainGlobals "words_of" = some (some (.ref gC)))
  (Ea:nsIn K mainGlobals "look_at_number" = some (some (.ref cc)))
  (HR:nsIn K mainGlobals "look_at_hand" = some (some (.ref bj)))
  (HU:nsIn K mainGlobals "look_at_name" = some (some (.ref cX)))
  (Gz:nsIn K mainGlobals "look_at_field" = some (some (.ref cH)))
  (Eb:nsIn K mainGlobals "look_at_limits" = some (some (.ref cM)))
  (RT:nsIn K mainGlobals "thing_at" = some (some (.ref jb)))
  (RU:nsIn K mainGlobals "resolved" = some (some (.ref fS)))
  (RV:nsIn K mainGlobals "field_at" = some (some (.ref jc)))
  (OZ:nsIn K mainGlobals "fields_at" = some (some (.ref gp)))
  (Kr:nsIn K mainGlobals "fields_told" = some (some (.ref eN)))
  (GA:nsIn K mainGlobals "field_address" = some (some (.ref c5)))
  (HV:nsIn K mainGlobals "look_at_room" = some (some (.ref dO)))
  (MG:nsIn K mainGlobals "is_picture" = some (some (.ref fU)))
  (HW:nsIn K mainGlobals "first_unlike" = some (some (.ref dP)))
  (BW:nsIn K mainGlobals "first_misplaced" = some (some (.ref ck)))
  (HX:nsIn K mainGlobals "addresses_of" = some (some (.ref dQ)))
  (Ec:nsIn K mainGlobals "first_headless" = some (some (.ref cN)))
  (wg:nsIn K mainGlobals "first_unlike_field" = some (some (.ref bw)))
  (yp:nsIn K mainGlobals "first_unlike_word" = some (some (.ref bG)))
  (Uu:nsIn K mainGlobals "is_like" = some (some (.ref jz)))
  (O0:nsIn K mainGlobals "place_met" = some (some (.ref g4)))
  (MH:nsIn K mainGlobals "last_steps" = some (some (.ref fV)))
  (Ks:nsIn K mainGlobals "thing_among" = some (some (.ref eS)))
  (O1:nsIn K mainGlobals "_law_cell" = some (some (.ref fD)))
  (MI:nsIn K mainGlobals "_law_mixed" = some (some (.ref c7)))
  (HY:nsIn K mainGlobals "_law_numbers" = some (some (.ref dR)))
  (O2:nsIn K mainGlobals "_law_deed" = some (some (.ref g8)))
  (MJ:nsIn K mainGlobals "_law_round" = some (some (.ref fW)))
  (O3:nsIn K mainGlobals "_law_heap" = some (some (.ref g9)))
  (Kt:nsIn K mainGlobals "_law_places" = some (some (.ref eW)))
  (Ku:nsIn K mainGlobals "_law_spoken" = some (some (.ref eX)))
  (MK:nsIn K mainGlobals "_law_model" = some (some (.ref fX)))
  (Kv:nsIn K mainGlobals "_law_memory" = some (some (.ref eY)))
  (O4:nsIn K mainGlobals "_law_seen" = some (some (.ref hG)))
  (O5:nsIn K mainGlobals "_law_told" = some (some (.ref hJ)))
  (ML:nsIn K mainGlobals "_law_where" = some (some (.ref fY)))
  (Ed:nsIn K mainGlobals "_law_alike_now" = some (some (.ref cO)))
  (O6:nsIn K mainGlobals "_law_load" = some (some (.ref hR)))
  (Ee:nsIn K mainGlobals "_law_load_here" = some (some (.ref cP)))
  (O7:nsIn K mainGlobals "_law_both" = some (some (.ref hU)))
  (Zc:nsIn K mainGlobals "law" = some (some (.ref Lb)))
  (VJ:nsIn K mainGlobals "Hands" = some (some (.ref a6)))
  (yq:PK K a6)
  (VL:FI K a6 "__init__" de)
  (Jp:makesIn K a6=true)
  (yr:NF K a6 "words_held")
  (Ef:FI K a6 "word_in" bX)
  (Ac:FI K a6 "all_words" bL)
  (MM:FI K a6 "put" fu)
  (Kw:FI K a6 "copy" gU)
  (GB:FI K a6 "number" ft)
  (Kx:FI K a6 "kind" fg)
  (HZ:FI K a6 "value" gi)
  (Ky:FI K a6 "same" gW)
  (Ae:FI K a6 "thing_due" ba)
  (MN:nsIn K mainGlobals "WordTable" = some (some (.ref aL)))
  (mO:PK K aL)
  (MO:FI K aL "__init__" bP)
  (uH:makesIn K aL=true)
  (rW:NF K aL "words_borne")
  (tw:NF K aL "words_said")
  (BX:FI K aL "bear" di)
  (yt:FI K aL "settle" cB)
  (MP:nsIn K mainGlobals "NameTable" = some (some (.ref aD)))
  (mP:PK K aD)
  (MQ:FI K aD "__init__" bQ)
  (uI:makesIn K aD=true)
  (rn:NF K aD "things_named")
  (BY:FI K aD "name" dq)
  (Af:FI K aD "named" cS)
  (uc:FI K aD "all_named" bF)
  (yu:FI K aD "settle" cC)
  (Yn:nsIn K mainGlobals "Heap" = some (some (.ref a7)))
  (Eg:PK K a7)
  (Yo:FI K a7 "__init__" cI)
  (SV:makesIn K a7=true)
  (yv:NF K a7 "makes_young")
  (Eh:NF K a7 "in_hands")
  (Ag:NF K a7 "weak_names")
  (Ah:NF K a7 "last_words")
  (yw:NF K a7 "fields_held")
  (wj:NF K a7 "young_things")
  (Ai:NF K a7 "next_thing")
  (BZ:FI K a7 "add_thing" cf)
  (MS:FI K a7 "load" fz)
  (Kz:FI K a7 "store" fi)
  (MT:FI K a7 "copy" fA)
  (MU:FI K a7 "drop" fB)
  (Ia:FI K a7 "number" dJ)
  (MW:FI K a7 "name" gq)
  (Aj:FI K a7 "read_thing" bM)
  (MX:FI K a7 "word" g7)
  (yx:FI K a7 "small_round" bB)
  (Ib:FI K a7 "let_go" cZ)
  (wk:FI K a7 "look_at_held" bo)
  (yy:FI K a7 "words_among" bc)
  (B7:FI K a7 "led_among" bt)
  (Yp:readsIn K a7 (.type "type")=true)
  (Yq:findCls K (.ref a7) (.type "type") "__init__" = some (.val (.ref cI)))
  (Yr:specialIn K (.ref a7) "__getattribute__" = some (some (.builtin "type.__getattribute__")))
  (MY:nsIn K mainGlobals "IdealHeap" = some (some (.ref ab)))
  (mQ:PK K ab)
  (MZ:FI K ab "__init__" bR)
  (uJ:makesIn K ab=true)
  (rX:NF K ab "makes_young")
  (vE:NF K ab "in_hands")
  (tD:NF K ab "weak_names")
  (tE:NF K ab "last_words")
  (rY:NF K ab "fields_held")
  (rq:NF K ab "young_things")
  (tF:NF K ab "next_thing")
  (tG:NF K ab "young_room")
  (Ak:NF K ab "limit")
  (qj:NF K ab "doomed_things")
  (vF:NF K ab "in_round")
  (ue:FI K ab "add_thing" cf)
  (B8:FI K ab "load" fz)
  (Al:FI K ab "store" fi)
  (B9:FI K ab "copy" fA)
  (Ca:FI K ab "drop" fB)
  (yz:FI K ab "number" dJ)
  (Cb:FI K ab "name" gq)
  (tH:FI K ab "read_thing" bM)
  (Cc:FI K ab "word" g7)
  (rZ:FI K ab "small_round" bB)
  (yA:FI K ab "let_go" cZ)
  (rA:FI K ab "look_at_held" bo)
  (r6:FI K ab "words_among" bc)
  (uf:FI K ab "led_among" bt)
  (Cd:FI K ab "make" dr)
  (Ce:FI K ab "read" dt)
  (Cf:FI K ab "kind" du)
  (Am:FI K ab "value" cT)
  (yB:FI K ab "fields" cD)
  (Cg:FI K ab "same" dv)
  (Ci:FI K ab "held" dw)
  (An:FI K ab "small" bN)
  (Ao:FI K ab "begin" cU)
  (Ei:FI K ab "end" dX)
  (vG:FI K ab "round_on" bS)
  (Ap:FI K ab "hands" cp)
  (Aq:FI K ab "names" cq)
  (yC:FI K ab "things" bC)
  (ug:FI K ab "fields_of" aP)
  (Ar:FI K ab "spare" cV)
  (Uv:nsIn K mainGlobals "Memory" = some (some (.ref bK)))
  (uh:PK K bK)
  (Uw:FI K bK "__init__" cW)
  (Fg:makesIn K bK=true)
  (GC:NF K bK "cells")
  (Ic:FI K bK "size" eV)
  (M0:FI K bK "at" dB)
  (KA:FI K bK "put" gX)
  (rB:FI K bK "look_at_address" aU)
  (RW:nsIn K mainGlobals "BadCount" = some (some (.ref dz)))
  (fi0:FI K dz "__init__" ao)
  (i0:EK K aK dz ao)
  (Ux:nsIn K mainGlobals "BadHand" = some (some (.ref br)))
  (j4:EK K aK br ao)
  (Uy:nsIn K mainGlobals "BadName" = some (some (.ref fQ)))
  (j5:EK K aK fQ ao)
  (RX:nsIn K mainGlobals "BadField" = some (some (.ref fR)))
  (i3:EK K aK fR ao)
  (M4:nsIn K mainGlobals "BadAddress" = some (some (.ref aZ)))
  (gn:EK K aK aZ ao)
  (Ie:nsIn K mainGlobals "TooManyWords" = some (some (.ref cF)))
  (d7:EK K aK cF ao)
  (Uz:nsIn K mainGlobals "BadView" = some (some (.ref iR)))
  (j6:EK K aK iR ao)
  (VM:nsIn K mainGlobals "NoRoom" = some (some (.ref kS)))
  (lF:EK K aK kS ao)
  (UA:nsIn K mainGlobals "RoundOn" = some (some (.ref jx)))
  (j7:EK K aK jx ao)
  (UB:nsIn K mainGlobals "NoRound" = some (some (.ref jy)))
  (j8:EK K aK jy ao)
  (wm:LK K "__init__" "HeapError.__init__" jB ao)
  (Ig:LK K "number_value" "number_value" qx dN)
  (KC:LK K "thing_value" "thing_value" sF cJ)
  (UC:LK K "kind_of" "kind_of" yN eC)
  (RY:LK K "words_of" "words_of" AS gC)
  (Ej:LK K "look_at_number" "look_at_number" mY cc)
  (Ih:LK K "look_at_hand" "look_at_hand" qy bj)
  (Ii:LK K "look_at_name" "look_at_name" qz cX)
  (GD:LK K "look_at_field" "look_at_field" ph cH)
  (Ek:LK K "look_at_limits" "look_at_limits" mZ cM)
  (RZ:LK K "thing_at" "thing_at" va jb)
  (R0:LK K "resolved" "resolved" AU fS)
  (R1:LK K "field_at" "field_at" AV jc)
  (O8:LK K "fields_at" "fields_at" wZ gp)
  (KD:LK K "fields_told" "fields_told" sG eN)
  (GF:LK K "field_address" "field_address" pj c5)
  (Ij:LK K "look_at_room" "look_at_room" qA dO)
  (M5:LK K "is_picture" "is_picture" ux fU)
  (Ik:LK K "first_unlike" "first_unlike" jK dP)
  (Cj:LK K "first_misplaced" "first_misplaced" lG ck)
  (Il:LK K "addresses_of" "addresses_of" md dQ)
  (El:LK K "first_headless" "first_headless" ng cN)
  (wo:LK K "first_unlike_field" "first_unlike_field" jC bw)
  (yD:LK K "first_unlike_word" "first_unlike_word" kh bG)
  (UD:LK K "is_like" "is_like" Ff jz)
  (O9:LK K "place_met" "place_met" w8 g4)
  (Em:LK K "__init__" "Hands.__init__" nj de)
  (GG:LK K "word_in" "Hands.word_in" pk bX)
  (Ck:LK K "all_words" "Hands.all_words" lH bL)
  (Pa:LK K "put" "Hands.put" xa fu)
  (M6:LK K "copy" "Hands.copy" uy gU)
  (Im:LK K "number" "Hands.number" qB ft)
  (M7:LK K "kind" "Hands.kind" uz fg)
  (KG:LK K "value" "Hands.value" sI gi)
  (M8:LK K "same" "Hands.same" uA gW)
  (Cm:LK K "thing_due" "Hands.thing_due" lI ba)
  (wq:LK K "__init__" "WordTable.__init__" jD bP)
  (En:LK K "bear" "WordTable.bear" nr di)
  (As:LK K "settle" "WordTable.settle" kG cB)
  (M9:LK K "last_steps" "last_steps" uB fV)
  (wx:LK K "__init__" "NameTable.__init__" jE bQ)
  (Eo:LK K "name" "NameTable.name" nv dq)
  (Cn:LK K "named" "NameTable.named" lJ cS)
  (vH:LK K "all_named" "NameTable.all_named" jj bF)
  (Au:LK K "settle" "NameTable.settle" iV cC)
  (GH:LK K "__init__" "Heap.__init__" pq cI)
  (Ep:LK K "add_thing" "Heap.add_thing" nz cf)
  (Pb:LK K "load" "Heap.load" xb fz)
  (Na:LK K "store" "Heap.store" uC fi)
  (Pc:LK K "copy" "Heap.copy" xg fA)
  (Pd:LK K "drop" "Heap.drop" xh fB)
  (KH:LK K "number" "Heap.number" sJ dJ)
  (Pe:LK K "name" "Heap.name" xi gq)
  (Co:LK K "read_thing" "Heap.read_thing" lK bM)
  (Pf:LK K "word" "Heap.word" xj g7)
  (Av:LK K "small_round" "Heap.small_round" iW bB)
  (KI:LK K "let_go" "Heap.let_go" sL cZ)
  (yE:LK K "look_at_held" "Heap.look_at_held" kj bo)
  (Aw:LK K "words_among" "Heap.words_among" iX bc)
  (Es:LK K "led_among" "Heap.led_among" iu bt)
  (KJ:LK K "thing_among" "thing_among" sM eS)
  (wy:LK K "__init__" "IdealHeap.__init__" jF bR)
  (Et:LK K "make" "IdealHeap.make" nA dr)
  (Eu:LK K "read" "IdealHeap.read" nB dt)
  (Ew:LK K "kind" "IdealHeap.kind" nC du)
  (Cp:LK K "value" "IdealHeap.value" lL cT)
  (Ax:LK K "fields" "IdealHeap.fields" kH cD)
  (Ex:LK K "same" "IdealHeap.same" nD dv)
  (Ey:LK K "held" "IdealHeap.held" nE dw)
  (Cq:LK K "small" "IdealHeap.small" lM bN)
  (Cr:LK K "begin" "IdealHeap.begin" lN cU)
  (GI:LK K "end" "IdealHeap.end" pw dX)
  (wz:LK K "round_on" "IdealHeap.round_on" jG bS)
  (Cs:LK K "hands" "IdealHeap.hands" lO cp)
  (Ct:LK K "names" "IdealHeap.names" lP cq)
  (Ay:LK K "things" "IdealHeap.things" kI bC)
  (vI:LK K "fields_of" "IdealHeap.fields_of" jk aP)
  (Cu:LK K "spare" "IdealHeap.spare" lQ cV)
  (Cw:LK K "__init__" "Memory.__init__" lR cW)
  (KL:LK K "size" "Memory.size" sN eV)
  (Pg:LK K "at" "Memory.at" xk dB)
  (Nb:LK K "put" "Memory.put" uD gX)
  (r8:LK K "look_at_address" "Memory.look_at_address" gR aU)
  (Ph:LK K "_law_cell" "_law_cell" xm fD)
  (Nc:LK K "_law_mixed" "_law_mixed" uE c7)
  (Io:LK K "_law_numbers" "_law_numbers" qC dR)
  (Pj:LK K "_law_deed" "_law_deed" xn g8)
  (Nd:LK K "_law_round" "_law_round" uF fW)
  (Pk:LK K "_law_heap" "_law_heap" xo g9)
  (KN:LK K "_law_places" "_law_places" sO eW)
  (KO:LK K "_law_spoken" "_law_spoken" sP eX)
  (Nf:LK K "_law_model" "_law_model" ka fX)
  (KP:LK K "_law_memory" "_law_memory" sQ eY)
  (Pm:LK K "_law_seen" "_law_seen" xq hG)
  (Pn:LK K "_law_told" "_law_told" xt hJ)
  (Ng:LK K "_law_where" "_law_where" uG fY)
  (Ez:LK K "_law_alike_now" "_law_alike_now" nF cO)
  (Po:LK K "_law_load" "_law_load" xu hR)
  (EA:LK K "_law_load_here" "_law_load_here" nG cP)
  (Pp:LK K "_law_both" "_law_both" xv hU)
  (acN:LK K "law" "law" Xa Lb)
  (kU:nsIn K mainGlobals "len" = some none)
  (pK:nsIn K mainGlobals "range" = some none)
  (yY:nsIn K mainGlobals "list" = some none)
  (Du:nsIn K mainGlobals "sorted" = some none)
  (Xb:nsIn K mainGlobals "sum" = some none)
  (Xc:nsIn K mainGlobals "abs" = some none)
  (hV:nsIn K mainGlobals "enumerate" = some none)
  (uO:nsIn K mainGlobals "ValueError" = some none)
  (NZ:nsIn K mainGlobals "dict" = some none)
  (IP:nsIn K mainGlobals "HANDS" = some (some (.int 8 IL)))
  (qc:nsIn K mainGlobals "WEAK_NAMES" = some (some (.int 8 pW)))
  (sV:nsIn K mainGlobals "MOST_FIELDS" = some (some (.int 6 oe)))
  (qd:nsIn K mainGlobals "LEAST_ROOM" = some (some (.int 7 pX)))
  (uP:nsIn K mainGlobals "MOST_YOUNG" = some (some (.int 64 pY)))
  (uQ:nsIn K mainGlobals "MOST_LIMIT" = some (some (.int 400 pZ)))
  (mz:nsIn K mainGlobals "MOST_BEARERS" = some (some (.int 12 me))) :
  ∃ fd:FuncData,(∀(s:Shared) (v:Value),BindsTo s fd ⟨[v],[]⟩ [("script",v)])/\∀ base:Heap,K.In base->base.Ns mainGlobals mg->DB l.prog w K mg base (CXE l.prog w) 12 fa fd ["script"] (UP K):=by
 have e:=(mg_of X G Zc).symm.trans hfa;cases e;obtain⟨cdH,_,yH⟩:=mX xH;obtain⟨FE,Pq,Bb⟩:=mX i0.x;obtain⟨Jd,R3,Fm⟩:=mX j4.x;obtain⟨Je,R4,Fn⟩:=mX j5.x;obtain⟨FF,Pt,Bc⟩:=mX i3.x;obtain⟨zk,KQ,u5⟩:=mX gn.x;obtain⟨vj,GJ,qP⟩:=mX d7.x;obtain⟨Jf,R5,Fo⟩:=mX j6.x;obtain⟨LO,UE,Ju⟩:=mX lF.x;obtain⟨Jg,R6,Fp⟩:=mX j7.x;obtain⟨Jh,R7,Fq⟩:=mX j8.x;have su:∀ {D:Addr} {cd:ClassData},clsIn K D=some cd->h9 K D cd->mroIn K D (.ref aK)=some true->∃ cd,h9 K D cd/\cd.mro.contains (.ref aK)=true:=λ{D cd} hc y sb=>⟨cd,y,by
  unfold mroIn at sb;rw[hc,Option.bind_some,if_neg (by rw[y.Jm];decide)]at sb;exact aos sb⟩
 have m:=λ{n:Str} {v:Value} (q:nsIn K mainGlobals n=some (some v))=>mg_of X G q;obtain⟨⟨aw,wA⟩,N5,a8⟩:=wm;obtain⟨⟨jL,Ip⟩,qD,U1⟩:=Ig;obtain⟨⟨gc,KR⟩,js,Wn⟩:=KC;obtain⟨⟨hX,LP⟩,lD,Z4⟩:=UC;obtain⟨⟨kT,R8⟩,rg,Zd⟩:=RY;obtain⟨⟨gg,EB⟩,jX,TH⟩:=Ej;obtain⟨⟨cG,Iq⟩,dS,U2⟩:=Ih;obtain⟨⟨iN,Ir⟩,mh,U3⟩:=Ii;obtain⟨⟨gE,GK⟩,kE,UQ⟩:=GD;obtain⟨⟨iw,EC⟩,nI,TJ⟩:=Ek;obtain⟨⟨ra,R9⟩,AY,Ze⟩:=RZ;obtain⟨⟨jV,Sa⟩,oo,Zf⟩:=R0;obtain⟨⟨rb,Sb⟩,AZ,Zg⟩:=R1;obtain⟨⟨kW,Pu⟩,so,Yv⟩:=O8;obtain⟨⟨kq,KS⟩,sS,Wo⟩:=KD;obtain⟨⟨jd,GL⟩,pz,UR⟩:=GF;obtain⟨⟨jM,Iu⟩,qE,U4⟩:=Ij;obtain⟨⟨mC,Nh⟩,uK,Xn⟩:=M5;obtain⟨⟨jN,Iv⟩,qF,U5⟩:=Ik;obtain⟨⟨gK,Cy⟩,lS,Sj⟩:=Cj;obtain⟨⟨jO,Iw⟩,mj,U6⟩:=Il;obtain⟨⟨iy,ED⟩,nJ,TK⟩:=El;obtain⟨⟨eO,wB⟩,jH,N6⟩:=wo;obtain⟨⟨fL,yF⟩,ia,QX⟩:=yD;obtain⟨⟨qS,UG⟩,yO,Z5⟩:=UD;obtain⟨⟨oz,Pw⟩,xx,Yw⟩:=O9;obtain⟨⟨iA,EE⟩,TL,EF⟩:=Em;obtain⟨⟨dW,GN⟩,GO,GP⟩:=GG;obtain⟨⟨dE,Cz⟩,CA,CB⟩:=Ck;obtain⟨⟨iZ,Px⟩,Py,Pz⟩:=Pa;obtain⟨⟨mD,Ni⟩,Nj,Nk⟩:=M6;obtain⟨⟨jP,Iy⟩,Iz,IA⟩:=Im;obtain⟨⟨i4,Nl⟩,Nm,Nn⟩:=M7;obtain⟨⟨kr,KU⟩,KW,KY⟩:=KG;obtain⟨⟨mE,Np⟩,Nq,Nr⟩:=M8;obtain⟨⟨cn,CC⟩,CD,CF⟩:=Cm;obtain⟨⟨eP,wC⟩,N7,wD⟩:=wq;obtain⟨⟨iB,EG⟩,EH,EI⟩:=En;obtain⟨⟨gv,Az⟩,AA,AB⟩:=As;obtain⟨⟨mF,Nu⟩,uL,Xo⟩:=M9;obtain⟨⟨eQ,wF⟩,N8,wG⟩:=wx;obtain⟨⟨iC,EJ⟩,EL,EM⟩:=Eo;obtain⟨⟨gL,CG⟩,CI,CJ⟩:=Cn;obtain⟨⟨d8,vJ⟩,vK,vL⟩:=vH;obtain⟨⟨gx,AD⟩,AE,AF⟩:=Au;obtain⟨⟨je,GQ⟩,GR,GS⟩:=GH;obtain⟨⟨iD,EN⟩,tO,tP⟩:=Ep;obtain⟨⟨kX,PB⟩,FG,FH⟩:=Pb;obtain⟨⟨mG,Nv⟩,Dm,Dn⟩:=Na;obtain⟨⟨kY,PD⟩,FJ,FK⟩:=Pc;obtain⟨⟨kZ,PH⟩,FL,FO⟩:=Pd;obtain⟨⟨ku,KZ⟩,zo,zq⟩:=KH;obtain⟨⟨oA,PJ⟩,FP,FQ⟩:=Pe;obtain⟨⟨gM,CK⟩,rS,rT⟩:=Co;obtain⟨⟨sk,PL⟩,FR,FT⟩:=Pf;obtain⟨⟨gy,AG⟩,qt,qu⟩:=Av;obtain⟨⟨jo,K0⟩,zr,zt⟩:=KI;obtain⟨⟨fM,yG⟩,pM,pN⟩:=yE;obtain⟨⟨eG,AH⟩,qv,qw⟩:=Aw;obtain⟨⟨eK,EO⟩,tQ,tR⟩:=Es;obtain⟨⟨kz,K1⟩,oq,Wq⟩:=KJ;obtain⟨⟨eT,wH⟩,N9,wI⟩:=wy;obtain⟨⟨iE,ER⟩,ES,ET⟩:=Et;obtain⟨⟨iF,EU⟩,EV,EW⟩:=Eu;obtain⟨⟨iG,EX⟩,EY,EZ⟩:=Ew;obtain⟨⟨gN,CL⟩,CM,CN⟩:=Cp;obtain⟨⟨gz,AI⟩,AJ,AK⟩:=Ax;obtain⟨⟨iH,E0⟩,E1,E3⟩:=Ex;obtain⟨⟨iI,E4⟩,E8,Fb⟩:=Ey;obtain⟨⟨dF,CO⟩,CP,CQ⟩:=Cq;obtain⟨⟨gO,CS⟩,CT,CU⟩:=Cr;obtain⟨⟨jf,GU⟩,GV,GW⟩:=GI;obtain⟨⟨eU,wJ⟩,wK,wL⟩:=wz;obtain⟨⟨fF,CV⟩,CW,CY⟩:=Cs;obtain⟨⟨fG,CZ⟩,C0,C1⟩:=Ct;obtain⟨⟨c6,AL⟩,AM,AN⟩:=Ay;obtain⟨⟨bh,vM⟩,vN,vO⟩:=vI;obtain⟨⟨gP,C2⟩,C3,C4⟩:=Cu;obtain⟨⟨gQ,C5⟩,Sk,C6⟩:=Cw;obtain⟨⟨jq,K2⟩,K3,K4⟩:=KL;obtain⟨⟨gr,PM⟩,PN,PQ⟩:=Pg;obtain⟨⟨mI,Nw⟩,Nx,Ny⟩:=Nb;obtain⟨⟨bU,se⟩,sg,si⟩:=r8;obtain⟨⟨jS,PR⟩,oW,Yx⟩:=Ph;obtain⟨⟨gY,Nz⟩,fZ,Xp⟩:=Nc;obtain⟨⟨jQ,IB⟩,qG,U7⟩:=Io;obtain⟨⟨oB,PU⟩,xC,Yy⟩:=Pj;obtain⟨⟨mJ,NA⟩,uM,Xq⟩:=Nd;obtain⟨⟨oE,PV⟩,xD,Yz⟩:=Pk;obtain⟨⟨kA,K5⟩,sT,Wr⟩:=KN;obtain⟨⟨kB,K6⟩,ot,Ws⟩:=KO;obtain⟨⟨mK,NB⟩,uN,Xr⟩:=Nf;obtain⟨⟨kC,K7⟩,sU,Wu⟩:=KP;obtain⟨⟨oH,PX⟩,xE,YA⟩:=Pm;obtain⟨⟨oJ,PY⟩,xG,YB⟩:=Pn;obtain⟨⟨mL,ND⟩,qb,Xs⟩:=Ng;obtain⟨⟨iJ,Fc⟩,jY,TM⟩:=Ez;obtain⟨⟨oK,PZ⟩,xI,YC⟩:=Po;obtain⟨⟨iK,Fd⟩,nK,TN⟩:=EA;obtain⟨⟨oO,P0⟩,xJ,YD⟩:=Pp;obtain⟨⟨Rm,Zh⟩,Y6,an1⟩:=acN
 let D:Ad:=⟨aK,dz,br,fQ,fR,aZ,cF,iR,kS,jx,jy,a6,aL,aD,a7,ab,bK,ao,aw,dN,jL,cJ,gc,eC,hX,gC,kT,cc,gg,bj,cG,cX,iN,cH,gE,cM,iw,jb,ra,fS,jV,jc,rb,gp,kW,eN,kq,c5,jd,dO,jM,fU,mC,dP,jN,ck,gK,dQ,jO,cN,iy,bw,eO,bG,fL,jz,qS,g4,oz,de,iA,bX,dW,bL,dE,fu,iZ,gU,mD,ft,jP,fg,i4,gi,kr,gW,mE,ba,cn,bP,eP,di,iB,cB,gv,fV,mF,bQ,eQ,dq,iC,cS,gL,bF,d8,cC,gx,cI,je,cf,iD,fz,kX,fi,mG,fA,kY,fB,kZ,dJ,ku,gq,oA,bM,gM,g7,sk,bB,gy,cZ,jo,bo,fM,bc,eG,bt,eK,eS,kz,bR,eT,dr,iE,dt,iF,du,iG,cT,gN,cD,gz,dv,iH,dw,iI,bN,dF,cU,gO,dX,jf,bS,eU,cp,fF,cq,fG,bC,c6,aP,bh,cV,gP,cW,gQ,eV,jq,dB,gr,gX,mI,aU,bU,fD,jS,c7,gY,dR,jQ,g8,oB,fW,mJ,g9,oE,eW,kA,eX,kB,fX,mK,eY,kC,hG,oH,hJ,oJ,fY,mL,cO,iJ,hR,oK,cP,iK,hU,oO,fa,Rm,IL,pW,oe,pX,pY,pZ,me⟩
 have T:Txt K mg D:=⟨⟨cdH,yH⟩,m nH,m RW,⟨⟨FE,Bb⟩,⟨i0.a,i0.t⟩,i0.c⟩,⟨⟨FE,Bb⟩,i0.i,a8,i0.k⟩,i0.v,su Pq Bb i0.s,m Ux,⟨⟨Jd,Fm⟩,⟨j4.a,j4.t⟩,j4.c⟩,⟨⟨Jd,Fm⟩,j4.i,a8,j4.k⟩,j4.v,su R3 Fm j4.s,m Uy,⟨⟨Je,Fn⟩,⟨j5.a,j5.t⟩,j5.c⟩,⟨⟨Je,Fn⟩,j5.i,a8,j5.k⟩,j5.v,su R4 Fn j5.s,m RX,⟨⟨FF,Bc⟩,⟨i3.a,i3.t⟩,i3.c⟩,⟨⟨FF,Bc⟩,i3.i,a8,i3.k⟩,i3.v,su Pt Bc i3.s,m M4,⟨⟨zk,u5⟩,⟨gn.a,gn.t⟩,gn.c⟩,⟨⟨zk,u5⟩,gn.i,a8,gn.k⟩,gn.v,su KQ u5 gn.s,m Ie,⟨⟨vj,qP⟩,⟨d7.a,d7.t⟩,d7.c⟩,⟨⟨vj,qP⟩,d7.i,a8,d7.k⟩,d7.v,su GJ qP d7.s,m Uz,⟨⟨Jf,Fo⟩,⟨j6.a,j6.t⟩,j6.c⟩,⟨⟨Jf,Fo⟩,j6.i,a8,j6.k⟩,j6.v,su R5 Fo j6.s,m VM,⟨⟨LO,Ju⟩,⟨lF.a,lF.t⟩,lF.c⟩,⟨⟨LO,Ju⟩,lF.i,a8,lF.k⟩,lF.v,su UE Ju lF.s,m UA,⟨⟨Jg,Fp⟩,⟨j7.a,j7.t⟩,j7.c⟩,⟨⟨Jg,Fp⟩,j7.i,a8,j7.k⟩,j7.v,su R6 Fp j7.s,m UB,⟨⟨Jh,Fq⟩,⟨j8.a,j8.t⟩,j8.c⟩,⟨⟨Jh,Fq⟩,j8.i,a8,j8.k⟩,j8.v,su R7 Fq j8.s,m VJ,⟨yq.g,yq.d,yq.o,yq.s⟩,⟨Jp,VL,EF,yq.k⟩,yr,⟨Ef,GP,GO⟩,⟨Ac,CB,CA⟩,⟨MM,Pz,Py⟩,⟨Kw,Nk,Nj⟩,⟨GB,IA,Iz⟩,⟨Kx,Nn,Nm⟩,⟨HZ,KY,KW⟩,⟨Ky,Nr,Nq⟩,⟨Ae,CF,CD⟩,m MN,⟨mO.g,mO.d,mO.o,mO.s⟩,⟨uH,MO,wD,mO.k⟩,rW,tw,⟨BX,EI,EH⟩,⟨yt,AB,AA⟩,m MP,⟨mP.g,mP.d,mP.o,mP.s⟩,⟨uI,MQ,wG,mP.k⟩,rn,⟨BY,EM,EL⟩,⟨Af,CJ,CI⟩,⟨uc,vL,vK⟩,⟨yu,AF,AE⟩,m Yn,⟨Eg.g,Eg.d,Eg.o,Eg.s⟩,⟨SV,Yo,GS,Eg.k⟩,yv,Eh,Ag,Ah,yw,wj,Ai,⟨BZ,tP,tO⟩,⟨MS,FH,FG⟩,⟨Kz,Dn,Dm⟩,⟨MT,FK,FJ⟩,⟨MU,FO,FL⟩,⟨Ia,zq,zo⟩,⟨MW,FQ,FP⟩,⟨Aj,rT,rS⟩,⟨MX,FT,FR⟩,⟨yx,qu,qt⟩,⟨Ib,zt,zr⟩,⟨wk,pN,pM⟩,⟨yy,qw,qv⟩,⟨B7,tR,tQ⟩,⟨Yp,Yq,Yr,GR⟩,m MY,⟨mQ.g,mQ.d,mQ.o,mQ.s⟩,⟨uJ,MZ,wI,mQ.k⟩,rX,vE,tD,tE,rY,rq,tF,tG,Ak,qj,vF,⟨ue,tP,tO⟩,⟨B8,FH,FG⟩,⟨Al,Dn,Dm⟩,⟨B9,FK,FJ⟩,⟨Ca,FO,FL⟩,⟨yz,zq,zo⟩,⟨Cb,FQ,FP⟩,⟨tH,rT,rS⟩,⟨Cc,FT,FR⟩,⟨rZ,qu,qt⟩,⟨yA,zt,zr⟩,⟨rA,pN,pM⟩,⟨r6,qw,qv⟩,⟨uf,tR,tQ⟩,⟨Cd,ET,ES⟩,⟨Ce,EW,EV⟩,⟨Cf,EZ,EY⟩,⟨Am,CN,CM⟩,⟨yB,AK,AJ⟩,⟨Cg,E3,E1⟩,⟨Ci,Fb,E8⟩,⟨An,CQ,CP⟩,⟨Ao,CU,CT⟩,⟨Ei,GW,GV⟩,⟨vG,wL,wK⟩,⟨Ap,CY,CW⟩,⟨Aq,C1,C0⟩,⟨yC,AN,AM⟩,⟨ug,vO,vN⟩,⟨Ar,C4,C3⟩,m Uv,⟨uh.g,uh.d,uh.o,uh.s⟩,⟨Fg,Uw,C6,uh.k⟩,GC,⟨Ic,K4,K3⟩,⟨M0,PQ,PN⟩,⟨KA,Ny,Nx⟩,⟨rB,si,sg⟩,m HQ,qD,m Kq,js,m Ut,lD,m RS,rg,m Ea,jX,m HR,dS,m HU,mh,m Gz,kE,m Eb,nI,m RT,AY,m RU,oo,m RV,AZ,m OZ,so,m Kr,sS,m GA,pz,m HV,qE,m MG,uK,m HW,qF,m BW,lS,m HX,mj,m Ec,nJ,m wg,jH,m yp,ia,m Uu,yO,m O0,xx,m MH,uL,m Ks,oq,m O1,oW,m MI,fZ,m HY,qG,m O2,xC,m MJ,uM,m O3,xD,m Kt,sT,m Ku,ot,m MK,uN,m Kv,sU,m O4,xE,m O5,xG,m ML,qb,m Ed,jY,m O6,xI,m Ee,nK,m O7,xJ,m Zc,Y6,mg_none_of X G kU,mg_none_of X G pK,mg_none_of X G yY,mg_none_of X G Du,mg_none_of X G Xb,mg_none_of X G Xc,mg_none_of X G hV,mg_none_of X G uO,mg_none_of X G NZ,m IP,m qc,m sV,m qd,m uP,m uQ,m mz⟩;refine⟨Rm,λs v=>?_,λbase _ _=>?_⟩
 ·obtain⟨_,_,_,_,_,_,_,_,_,e,_⟩:=Zh.ex
  rw[e];exact .of_eq rfl
 have ah:=@vo l.prog w K mg base D wA T;have kn:=@RH l.prog w K mg base D LP T;have aM:=@Ga l.prog w K mg base D Iq T ah;have iP:=@Ge l.prog w K mg base D Ir T ah;have jh:=@OB l.prog w K mg base D R8 T ah;have gF:=@DK l.prog w K mg base D GK T ah;have gk:=@Bn l.prog w K mg base D EB T ah;have qH:=@Gh l.prog w K mg base D Ip T gk;have cL:=@Ht l.prog w K mg base D KR T ah;have nO:=@Bp l.prog w K mg base D EC T ah;have jZ:=@Br l.prog w K mg base D EE T;have gG:=@vq l.prog w K mg base D wF T;have bz:=@DP l.prog w K mg base D GN T aM;have eD:=@L6 l.prog w K mg base D Px T aM;have uR:=@JP l.prog w K mg base D Ni T aM bz;have qI:=@Gk l.prog w K mg base D Iy T aM qH;have f7:=@JQ l.prog w K mg base D Nl T kn bz;have sX:=@Hw l.prog w K mg base D KU T ah f7;have aR:=@zF l.prog w K mg base D CC T ah f7;have uS:=@JT l.prog w K mg base D Np T bz;have cv:=@zH l.prog w K mg base D Cz T;have nM:=@Bv l.prog w K mg base D EJ T iP;have lU:=@zJ l.prog w K mg base D CG T iP;have gH:=@vv l.prog w K mg base D wC T;have nN:=@By l.prog w K mg base D EG T ah;have k9:=@Mb l.prog w K mg base D PD T uR;have lg:=@Md l.prog w K mg base D PH T eD;have tf:=@HC l.prog w K mg base D KZ T qI;have xM:=@Me l.prog w K mg base D PJ T aR nM;have YE:=@Mf l.prog w K mg base D PL T aR gk nN;have k8:=@Mg l.prog w K mg base D PB T aM aR gF eD;have uU:=@JV l.prog w K mg base D Nv T aR bz gF;have kF:=@DT l.prog w K mg base D GQ T jZ gG gH;have gJ:=@vx l.prog w K mg base D wH T nO kF;have nR:=@Bz l.prog w K mg base D EN T cL eD;have lW:=@zK l.prog w K mg base D CK T aM lU eD cL;have eI:=@x8 l.prog w K mg base D AH T jh;have nQ:=@BC l.prog w K mg base D E4 T eI;have nW:=@BE l.prog w K mg base D EX T f7;have l7:=@zN l.prog w K mg base D CL T sX;have j2:=@BH l.prog w K mg base D E0 T uS;have kQ:=@ya l.prog w K mg base D AI T aR;have uT:=@JX l.prog w K mg base D Nu T;have ou:=@HE l.prog w K mg base D K1 T kn;have cQ:=@BI l.prog w K mg base D EO T ou uT;have kL:=@yd l.prog w K mg base D AD T;have kM:=@ye l.prog w K mg base D Az T;have jt:=@HF l.prog w K mg base D K0 T kL kM;have kN:=@yh l.prog w K mg base D AG T cv cQ jt;have cw:=@zR l.prog w K mg base D CO T kN;have lZ:=@zS l.prog w K mg base D CS T ah cw cv cQ;have pD:=@DZ l.prog w K mg base D GU T ah jt;have jJ:=@vA l.prog w K mg base D wJ T;have lX:=@zU l.prog w K mg base D C2 T cL cQ;have nU:=@BM l.prog w K mg base D ER T ah aM jh eI cw nQ nR;have nV:=@BN l.prog w K mg base D EU T lW lX;have fH:=@zW l.prog w K mg base D CV T cv;have jm:=@t9 l.prog w K mg base D vJ T;have fI:=@zY l.prog w K mg base D CZ T jm;have bg:=@yj l.prog w K mg base D AL T;have km:=@wa l.prog w K mg base D yG T ah;have aE:=@ub l.prog w K mg base D vM T km;have jv:=@Aa l.prog w K mg base D C5 T;have ju:=@HH l.prog w K mg base D K2 T;have bW:=@rk l.prog w K mg base D se T ah;have bq:=@Ml l.prog w K mg base D PM T bW;have uW:=@Kb l.prog w K mg base D Nw T bW;have fT:=@OJ l.prog w K mg base D LP T;have qK:=@Gr l.prog w K mg base D Iu T ju ah;have sY:=@HJ l.prog w K mg base D KS T bq fT qK ah;have k7:=@Mp l.prog w K mg base D Pu T sY;have A9:=@OL l.prog w K mg base D R9 T k7 bq;have e7:=@OM l.prog w K mg base D Sa T bq fT;have xK:=@Mr l.prog w K mg base D Pw T e7;have qX:=@RP l.prog w K mg base D UG T kn fT xK;have ib:=@wc l.prog w K mg base D yF T qX;have jI:=@vD l.prog w K mg base D wB T qX aE bq;have nS:=@BR l.prog w K mg base D ED T aE bq;have mB:=@Gv l.prog w K mg base D Iw T aE jh;have lY:=@Ab l.prog w K mg base D Cy T mB ju;have qM:=@Gw l.prog w K mg base D Iv T bg lY nS jI ib fH fI cL;have uZ:=@Kf l.prog w K mg base D Nh T qM;have hW:=@Mu l.prog w K mg base D PR T;have bJ:=@Kg l.prog w K mg base D Nz T;have uV:=@Ki l.prog w K mg base D NA T cw pD;have sC:=@Mz l.prog w K mg base D PU T nU uU k8 k9 lg tf xM nV jJ uV lZ;have qN:=@Gx l.prog w K mg base D IB T hW bJ;have xQ:=@MA l.prog w K mg base D PV T hW qN sC gJ;have tj:=@HL l.prog w K mg base D K5 T bg bJ aE;have ow:=@HN l.prog w K mg base D K6 T;have tm:=@HP l.prog w K mg base D K7 T jv uW;have uY:=@Kn l.prog w K mg base D NB T tj bg aE ow bJ fH fI;have pE:=@D7 l.prog w K mg base D GL T k7 ah;have Ba:=@OU l.prog w K mg base D Sb T pE bq;have xO:=@MB l.prog w K mg base D PX T e7 A9;have xN:=@MC l.prog w K mg base D PY T nW l7 kQ;have qh:=@Kp l.prog w K mg base D ND T e7;have j3:=@BU l.prog w K mg base D Fc T xN xO qh j2;have xP:=@ME l.prog w K mg base D PZ T k8;have nX:=@BV l.prog w K mg base D Fd T e7 Ba;have xR:=@MF l.prog w K mg base D P0 T xP nX k9 lg;exact(Z2 (P:=l.prog) (w:=w) (mg:=mg) (base:=base) Zh T xQ hW bJ uY tm uZ j3 xR).g
theorem walk{l:OpenLaw}{q:Program}{loose:List Str}{XP:(Str->Option Value)->Heap->Prop}{YP:World->Heap->Prop}{d:DefRec}{K:Params->Frag}(hn:l.most=some 63)(hdf:d.params.defaults=[])
  (hY:∀(w:World) (h:Heap),YP w h->(K w.params).In h)
  (F:∀(w:World) (mg:Str->Option Value) (fa:Addr) (h:Heap),(K w.params).In h->h.Ns mainGlobals mg->mg d.name=some (.ref fa) ->
   ∃ fd:FuncData,(∀(s:Shared) (u:Value),BindsTo s fd ⟨[u],[]⟩ [("script",u)])/\∀ base:Heap,(K w.params).In base->base.Ns mainGlobals mg->DB l.prog w (K w.params) mg base (CXE l.prog w) 12 fa fd ["script"] (UP (K w.params))) :
  WalkO q loose XP YP l.row.toRowW d [] (λf vs=>PySem.call f vs) :=
 L2.XH (n:=63) (k:=12) (x := "script") (CX:=λw=>CXE l.prog w) (sp:=λw=>UP (K w.params)) hn 2e1 hdf ⟨rfl,by decide,by decide⟩ hY F (λ_ _ a ns hl _ hS=>⟨a,ns,rfl,hS,hl,λ_=>rfl⟩) λ_ _ _ _ _ z=>acj z
end K38
end
section
open PySem PySem.W PyProof.Rows
set_option maxRecDepth 100000 in
set_option maxHeartbeats 0 in
theorem PySem.Challenge.cw_stillheap_k38_whole_what_hands_tell_holds : PySem.Challenge.rw_stillheap_k38_whole_what_hands_tell.Holds := by
 w_on;refine holds_law K38.wsd λwU=>?_
 refine holds_open (q:=K38.hQ) (loose:=K38.hLo) (Xt:=λs=>xlAt K38.hQ [] s&&recOk (RowW.records (OpenRow.toRowW (OpenLaw.row PySem.Challenge.rw_stillheap_k38_whole_what_hands_tell))) s)
  (XP:=XL K38.hQ []) (Yf:=Hook.obs (kHook K38.hK K38.hAs K38.sE)) (Ya:=Hook.val (kHook K38.hK K38.hAs K38.sE)) (YP:=Hook.says (kHook K38.hK K38.hAs K38.sE)) (N:=15396)
  ?hl (Hook.of (kHook K38.hK K38.hAs K38.sE)) (Hook.keeps (kHook K38.hK K38.hAs K38.sE))
  (λs e=>xl_of s (Bool.and_eq_true_iff.mp e).1) XL.keeps (by rfl) (by rfl) (by rfl)
  (λs e=>recFacts_of (Bool.and_eq_true_iff.mp e).2) (by rfl) (by first|assumption|decide +kernel)
  (by decide +kernel) ⟨rfl,rfl,rfl,rfl,rfl,by decide +kernel⟩ ?hw ?hc
 (case hl=>exact K38.ab9)
 (case hw=>w_witness2)
 k_fill
 refine K38.walk (l:=PySem.Challenge.rw_stillheap_k38_whole_what_hands_tell) rfl rfl (λw h Y=>PySem.W.kIn_of Y) ?F
 case F =>
  intro w mg fa h KX G hmg;refine' K38.all_mk KX G hmg ..
  all_goals first
   | k_is
   | (unfold K38.FI;k_is)
   | (unfold K38.NF;k_is)
   | (refine' K38.LK.mk ?la ?lb ?lc ?ld;(case la=>k_is);(case lb=>k_is);(case lc=>k_is);(case ld=>k_is))
   | kernel_rfl
   | (refine' K38.PK.mk ?_ ?_ ?_ ?_ ?_<;>k_is)
   | (refine' K38.EK.mk ?_ ?_ ?_ ?_ ?_ ?_ ?_ ?_<;>first|k_is|kernel_rfl)
   | skip
end
